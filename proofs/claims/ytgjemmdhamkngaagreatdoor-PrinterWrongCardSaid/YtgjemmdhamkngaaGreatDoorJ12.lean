/-
  printer's writer: a fact, a relation.
-/
import Derived.Test.YtgjemmdhamkngaaGreatDoorJ11
import Derived.Test.YtgjemmdhamkngaaGreatDoorJ05
import Derived.Test.YtgjemmdhamkngaaGreatDoorJ08
namespace Go.Proofs.YtgjemmdhamkngaaGreatDoor
open Go.RowKit

set_option maxRecDepth 100000 in
set_option maxHeartbeats 4000000 in
theorem tuple1_tells (x : Fa) (S : Nat → Prop) (B b pb rb : Nat) (ga : Option Addr) (gc : Nat) (w : World) (hS : ∀ k, S k → k < B) (hB : B ≤ w.heap.size) (hg : 0 < B) (htab : TabOk w) (hl : RepLG S w x.args (.slice ga x.args.length gc))
    (h1 : w.heap[pb]? = some (.cells #[.pointer (some ⟨b, 0, none⟩)] 68 (0, 0))) (h2 : w.heap[rb]? = some (.cells #[.string x.name, .slice ga x.args.length gc] 33 (0, 0))) (n1 : pb ≠ b) (n2 : rb ≠ b) :
    TellsAt 83 (.pointer (some ⟨pb, 0, none⟩)) (.pointer (some ⟨rb, 0, none⟩)) B b w (x.args.map printB) := by
  intro i hi acc wx hw hlen
  rw [List.length_map] at hi
  rw [List.getElem_map] at hlen ⊢
  have HA := Lib.hid (RepLG.on (fun _ h => h) (fun k hk => hw.2.1.block k (hS k hk)) hl : RepLG S wx x.args (.slice ga x.args.length gc))
  obtain ⟨-, hcap, lb, lo, ea, ec, rfl, hSb, g0, g1, g2, g3, g⟩ := RepLG.at HA.out i hi
  have hbl : lb < B := hS lb hSb
  have G := Lib.hid g
  clear g HA
  generalize x.args[i] = z at *
  have HTX := Lib.hid (TabOk.below htab hg hw.2.1)
  have HBX := Lib.hid (Nat.le_trans hB hw.2.1.size)
  have Q1 := Lib.hid (kept_block hw.2.2 h1 (by decide) n1); have Q2 := Lib.hid (kept_block hw.2.2 h2 (by decide) n2)
  have N1 := Lib.hid n1; have N2 := Lib.hid n2
  have HW : Hid (pw.Wrote B b acc wx wx) := Lib.hid ⟨hw.1, Below.refl _ _, Lib.OthersKept.refl _ _ _⟩
  have HLN := Lib.hid hlen
  have hi0 : (0 : Int) ≤ (i : Int) := by omega
  have hi1 : (i : Int) < (x.args.length : Int) := by omega
  clear hw hlen h1 h2 n1 n2
  have c0 := kept_cell (i := 0) HW.out.2.2 Q1.out (by decide) N1.out _ rfl
  have d0 := kept_cell (i := 0) HW.out.2.2 Q2.out (by decide) N2.out _ rfl
  have d1 := kept_cell (i := 1) HW.out.2.2 Q2.out (by decide) N2.out _ rfl
  go_enter Tryz.func83, Tryz.ntmps83
  go_wp2_with fail
  have QK1 := Lib.hid (kept_block HW.out.2.2 Q1.out (by decide) N1.out); have QK2 := Lib.hid (kept_block HW.out.2.2 Q2.out (by decide) N2.out)
  have HK := Lib.hid (wrote_drew HW.out.1 (Nat.le_trans HBX.out HW.out.2.1.size))
  go_region_held3 (fun w' => w'.cell? ⟨pb, 0, none⟩ = some (.pointer (some ⟨b, 0, none⟩)) ∧ w'.cell? ⟨rb, 0, none⟩ = some (.string x.name) ∧ w'.cell? ⟨rb, 1, none⟩ = some (.slice (some ⟨lb, lo, none⟩) x.args.length gc) ∧ w'.cell? ⟨lb, lo + i * 4, none⟩ = some (.int .i64 z.kind) ∧ w'.cell? ⟨lb, lo + i * 4 + 1, none⟩ = some (.int .i64 z.num) ∧ w'.cell? ⟨lb, lo + i * 4 + 2, none⟩ = some (.string z.text) ∧ w'.cell? ⟨lb, lo + i * 4 + 3, none⟩ = some (.slice ea z.list.length ec))
    (first | exact ⟨kept_cell HK.out.2.2 QK1.out (by decide) N1.out _ rfl, kept_cell HK.out.2.2 QK2.out (by decide) N2.out _ rfl, kept_cell HK.out.2.2 QK2.out (by decide) N2.out _ rfl, ((HW.out.2.1.trans HK.out.2.1).cell (p := ⟨lb, lo + i * 4, none⟩) (by exact hbl)).trans g0, ((HW.out.2.1.trans HK.out.2.1).cell (p := ⟨lb, lo + i * 4 + 1, none⟩) (by exact hbl)).trans g1, ((HW.out.2.1.trans HK.out.2.1).cell (p := ⟨lb, lo + i * 4 + 2, none⟩) (by exact hbl)).trans g2, ((HW.out.2.1.trans HK.out.2.1).cell (p := ⟨lb, lo + i * 4 + 3, none⟩) (by exact hbl)).trans g3⟩)
    (first
      | (go_at_call 85; refine (print_any z B _ _ _ _ _ (Nat.le_trans (Nat.le_trans HBX.out HW.out.2.1.size) HK.out.2.1.size) (Nat.lt_of_lt_of_le hg (Nat.le_trans (Nat.le_trans HBX.out HW.out.2.1.size) HK.out.2.1.size)) (TabOk.below HTX.out hg (HW.out.2.1.trans HK.out.2.1)) (RepG.on hS (fun k hk => (HW.out.2.1.trans HK.out.2.1).block k (hS k hk)) z G.out)).mono ?_; rintro e w' ⟨rfl, hb⟩; replace HK := Lib.hid (HK.out.trans (pw.Wrote.start HK.out.1 (Nat.le_trans (Nat.le_trans HBX.out HW.out.2.1.size) HK.out.2.1.size) hb)); clear hb)
      | (go_at_call 84; refine (pw.wstr B b _ ⟨(printB z).toArray⟩ _ HK.out.1 (by rw [size_mk]; exact HLN.out) (Nat.le_trans (Nat.le_trans HBX.out HW.out.2.1.size) HK.out.2.1.size)).mono ?_; rintro e w' ⟨rfl, W⟩; replace HK := Lib.hid (HK.out.trans W); clear W))
  replace HW := Lib.hid (HW.out.trans HK.out)
  clear HK QK1 QK2
  go_wp2_with fail
  go_end0
  exact ⟨rfl, HW.out⟩

set_option maxRecDepth 100000 in
set_option maxHeartbeats 4000000 in
theorem wtuple_any (x : Fa) (S : Nat → Prop) (B b : Nat) (acc : List UInt8) (w : World) (c0 c1 : Value) (hS : ∀ k, S k → k < B) (hB : B ≤ w.heap.size) (hg : 0 < B) (htab : TabOk w) (hx : RepFa S w x c0 c1)
    (hbu : Lib.IsBuilderF 108 5 B b (Lib.byteCells acc) w) (hlen : acc.length + (showFa x).length ≤ 140737488355328) :
    Calls Tryz.prog 43 #[.pointer (some ⟨b, 0, none⟩), .agg #[c0, c1]] w fun e w' => e = .returned (.tuple #[]) ∧ pw.Wrote B b (acc ++ showFa x) w w' := by
  have HL := Lib.hid hx.2.2; have HTB := Lib.hid htab; have HBU := Lib.hid hbu
  have HN : Hid (x.args.length ≤ 140737488355328) := by
    show _ ≤ _
    obtain ⟨_, _, _, _, _, _, h, _⟩ := hx.2.2
    omega
  have HLN : Hid (acc.length + (showAtom x.name (x.args.map printB)).length + 1 ≤ 140737488355328) := by
    show _ ≤ _
    simp only [showFa, List.length_append, List.length_cons, List.length_nil] at hlen
    omega
  obtain ⟨ga, gc, rfl, rfl⟩ := hx.form
  clear hx htab hbu hlen
  go_enter Tryz.func43, Tryz.ntmps43
  go_wp2_with fail
  have q1 := alloc_new' w (.cells #[.pointer (some ⟨b, 0, none⟩)] 68)
  have s1 := World.size_alloc w (.cells #[.pointer (some ⟨b, 0, none⟩)] 68)
  have b1 := below_alloc w (.cells #[.pointer (some ⟨b, 0, none⟩)] 68)
  generalize w.alloc (.cells #[.pointer (some ⟨b, 0, none⟩)] 68) = w1 at *
  have q2 := alloc_new' w1 (.cells #[.string x.name, .slice ga x.args.length gc] 33)
  have b2 := below_alloc w1 (.cells #[.string x.name, .slice ga x.args.length gc] 33)
  generalize w1.alloc (.cells #[.string x.name, .slice ga x.args.length gc] 33) = w2 at *
  rw [s1] at q2
  have Q1 := Lib.hid ((b2.block w.heap.size (by omega)).trans q1); have Q2 := Lib.hid q2
  have W2 := Lib.hid (pw.Wrote.start HBU.out hB (Below.step b1 b2))
  have N1 : Hid (w.heap.size ≠ b) := by show _ ≠ _; have := builder_lt HBU.out; omega
  have N2 : Hid (w.heap.size + 1 ≠ b) := by show _ ≠ _; have := builder_lt HBU.out; omega
  have HWB := Lib.hid (Below.step b1 b2)
  clear q1 q2 b1 b2 s1
  generalize hpb : w.heap.size = pb at Q1 Q2 N1 N2 ⊢
  clear hpb
  have HW : Hid (pw.Wrote B b acc w2 w2) := Lib.hid ⟨W2.out.1, Below.refl _ _, Lib.OthersKept.refl _ _ _⟩
  have HBX := Lib.hid (Nat.le_trans hB HWB.out.size)
  have HTX := Lib.hid (TabOk.below HTB.out hg (HWB.out.mono hB))
  have hx := watom_any 83 (.pointer (some ⟨pb, 0, none⟩)) (.pointer (some ⟨pb + 1, 0, none⟩)) B b _ _ x.name (x.args.map printB) (fun _ _ => by kernel_rfl) HBX.out HW.out.1 (by have := HLN.out; omega) (by rw [List.length_map]; exact HN.out) (tuple1_tells x S B b pb (pb + 1) ga gc _ hS HBX.out hg HTX.out (RepLG.on (fun _ h => h) (fun k hk => (HWB.out.mono hB).block k (hS k hk)) HL.out) Q1.out Q2.out N1.out N2.out)
  rw [List.length_map] at hx
  refine hx.mono ?_
  clear hx
  rintro e w5 ⟨rfl, W⟩
  replace HW := Lib.hid (HW.out.trans W); clear W
  have c0 := kept_cell (i := 0) HW.out.2.2 Q1.out (by decide) N1.out _ rfl
  have d0 := kept_cell (i := 0) HW.out.2.2 Q2.out (by decide) N2.out _ rfl
  have d1 := kept_cell (i := 1) HW.out.2.2 Q2.out (by decide) N2.out _ rfl
  go_wp2_with fail
  refine (pw.wbyte B b _ 46 _ HW.out.1 (by have := HLN.out; simp only [List.length_append]; omega) (Nat.le_trans HBX.out HW.out.2.1.size)).mono ?_
  rintro e w6 ⟨rfl, W⟩
  replace HW := Lib.hid (HW.out.trans W); clear W
  clear c0 d0 d1
  go_wp2_with fail
  go_end0
  refine ⟨rfl, ?_⟩
  have h := W2.out.trans HW.out
  simpa [showFa, List.append_assoc] using h

set_option maxRecDepth 100000 in
set_option maxHeartbeats 4000000 in
theorem wdecl_any (x : De) (S : Nat → Prop) (B b : Nat) (acc : List UInt8) (w : World) (c0 c1 : Value) (_hS : ∀ k, S k → k < B) (hB : B ≤ w.heap.size) (hg : 0 < B) (htab : TabOk w) (hx : RepDe S w x c0 c1)
    (hbu : Lib.IsBuilderF 108 5 B b (Lib.byteCells acc) w) (hlen : acc.length + (showDe x).length ≤ 140737488355328) :
    Calls Tryz.prog 78 #[.pointer (some ⟨b, 0, none⟩), .agg #[c0, c1]] w fun e w' => e = .returned (.tuple #[]) ∧ pw.Wrote B b (acc ++ showDe x) w w' := by
  have HBU := Lib.hid hbu; have HA := Lib.hid hx.2.2.2
  have HLN : Hid (acc.length + 15 + x.name.size + (Lib.itoa x.arity).length ≤ 140737488355328) := by
    show _ ≤ _
    simp only [showDe, List.length_append, List.length_cons, List.length_nil, size_list] at hlen
    omega
  obtain ⟨rfl, rfl, -, -⟩ := hx
  have HTB := Lib.hid htab
  clear htab hbu hlen
  go_enter Tryz.func78, Tryz.ntmps78
  go_wp2_with fail
  have q2 := alloc_new' w (.cells #[.string x.name, .int .i64 x.arity] 57)
  have b2 := below_alloc w (.cells #[.string x.name, .int .i64 x.arity] 57)
  generalize w.alloc (.cells #[.string x.name, .int .i64 x.arity] 57) = w2 at *
  have Q2 := Lib.hid q2
  have W2 := Lib.hid (pw.Wrote.start HBU.out hB b2)
  have N2 : Hid (w.heap.size ≠ b) := by show _ ≠ _; have := builder_lt HBU.out; omega
  have HBX := Lib.hid (Nat.le_trans hB b2.size)
  have HTX := Lib.hid (TabOk.below HTB.out hg (b2.mono hB))
  clear q2 b2
  generalize hpb : w.heap.size = pb at Q2 N2 ⊢
  clear hpb
  have HW : Hid (pw.Wrote B b acc w2 w2) := Lib.hid ⟨W2.out.1, Below.refl _ _, Lib.OthersKept.refl _ _ _⟩
  refine (pw.wstr B b _ ⟨#[109, 97, 116, 101, 114, 105, 97, 108, 105, 122, 101]⟩ _ HW.out.1 (by have := HLN.out; show _ + 11 ≤ _; omega) (Nat.le_trans HBX.out HW.out.2.1.size)).mono ?_
  rintro e w3 ⟨rfl, W⟩
  replace HW := Lib.hid (HW.out.trans W); clear W
  have d0 := kept_cell (i := 0) HW.out.2.2 Q2.out (by decide) N2.out _ rfl
  have d1 := kept_cell (i := 1) HW.out.2.2 Q2.out (by decide) N2.out _ rfl
  go_wp2_with fail
  refine (pw.wbyte B b _ 40 _ HW.out.1 (by have := HLN.out; simp only [List.length_append, List.length_cons, List.length_nil]; show _ + 11 + 1 ≤ _; omega) (Nat.le_trans HBX.out HW.out.2.1.size)).mono ?_
  rintro e w4 ⟨rfl, W⟩
  replace HW := Lib.hid (HW.out.trans W); clear W
  clear d0 d1
  have d0 := kept_cell (i := 0) HW.out.2.2 Q2.out (by decide) N2.out _ rfl
  have d1 := kept_cell (i := 1) HW.out.2.2 Q2.out (by decide) N2.out _ rfl
  go_wp2_with fail
  have QK2 := Lib.hid (kept_block HW.out.2.2 Q2.out (by decide) N2.out)
  have HK := Lib.hid (wrote_drew HW.out.1 (Nat.le_trans HBX.out HW.out.2.1.size))
  go_region_held3 (fun w' => w'.cell? ⟨pb, 0, none⟩ = some (.string x.name) ∧ w'.cell? ⟨pb, 1, none⟩ = some (.int .i64 x.arity))
    (first | exact ⟨kept_cell HK.out.2.2 QK2.out (by decide) N2.out _ rfl, kept_cell HK.out.2.2 QK2.out (by decide) N2.out _ rfl⟩)
    (first
      | (go_at_call 84; refine (pw.wstr B b _ x.name _ HK.out.1 (by have := HLN.out; simp only [List.length_append, List.length_cons, List.length_nil]; show _ + 11 + _ + _ ≤ _; omega) (Nat.le_trans (Nat.le_trans HBX.out HW.out.2.1.size) HK.out.2.1.size)).mono ?_; rintro e w' ⟨rfl, W⟩; replace HK := Lib.hid (HK.out.trans W); clear W))
  replace HW := Lib.hid (HW.out.trans HK.out)
  clear HK QK2
  clear d0 d1
  have d0 := kept_cell (i := 0) HW.out.2.2 Q2.out (by decide) N2.out _ rfl
  have d1 := kept_cell (i := 1) HW.out.2.2 Q2.out (by decide) N2.out _ rfl
  go_wp2_with fail
  refine (pw.wbyte B b _ 44 _ HW.out.1 (by have := HLN.out; simp only [List.length_append, List.length_cons, List.length_nil, size_list]; show _ + 11 + _ + _ + _ ≤ _; omega) (Nat.le_trans HBX.out HW.out.2.1.size)).mono ?_
  rintro e w5 ⟨rfl, W⟩
  replace HW := Lib.hid (HW.out.trans W); clear W
  clear d0 d1
  have d0 := kept_cell (i := 0) HW.out.2.2 Q2.out (by decide) N2.out _ rfl
  have d1 := kept_cell (i := 1) HW.out.2.2 Q2.out (by decide) N2.out _ rfl
  go_wp2_with fail
  have QK2 := Lib.hid (kept_block HW.out.2.2 Q2.out (by decide) N2.out)
  have HK := Lib.hid (wrote_drew HW.out.1 (Nat.le_trans HBX.out HW.out.2.1.size))
  go_region_held3 (fun w' => w'.cell? ⟨pb, 0, none⟩ = some (.string x.name) ∧ w'.cell? ⟨pb, 1, none⟩ = some (.int .i64 x.arity))
    (first | exact ⟨kept_cell HK.out.2.2 QK2.out (by decide) N2.out _ rfl, kept_cell HK.out.2.2 QK2.out (by decide) N2.out _ rfl⟩)
    (first
      | (go_at_call 107; refine (Tryz.strconv_Itoa x.arity HA.out.1 HA.out.2 _ (TabOk.below HTX.out hg (HW.out.2.1.trans HK.out.2.1))).mono ?_; rintro e w' ⟨rfl, kk, os, rfl⟩; replace HK := Lib.hid (HK.out.trans (pw.Wrote.start HK.out.1 (Nat.le_trans (Nat.le_trans HBX.out HW.out.2.1.size) HK.out.2.1.size) (stands_grow _ kk os))); generalize Sort.grow _ os = w' at *)
      | (go_at_call 84; refine (pw.wstr B b _ ⟨(Lib.itoa x.arity).toArray⟩ _ HK.out.1 (by have := HLN.out; rw [size_mk]; simp only [List.length_append, List.length_cons, List.length_nil, size_list]; show _ + 11 + _ + _ + _ + _ ≤ _; omega) (Nat.le_trans (Nat.le_trans HBX.out HW.out.2.1.size) HK.out.2.1.size)).mono ?_; rintro e w' ⟨rfl, W⟩; replace HK := Lib.hid (HK.out.trans W); clear W))
  replace HW := Lib.hid (HW.out.trans HK.out)
  clear HK QK2
  clear d0 d1
  have d0 := kept_cell (i := 0) HW.out.2.2 Q2.out (by decide) N2.out _ rfl
  have d1 := kept_cell (i := 1) HW.out.2.2 Q2.out (by decide) N2.out _ rfl
  go_wp2_with fail
  refine (pw.wstr B b _ ⟨#[41, 46]⟩ _ HW.out.1 (by have := HLN.out; simp only [List.length_append, List.length_cons, List.length_nil, size_list]; show _ + 11 + _ + _ + _ + _ + 2 ≤ _; omega) (Nat.le_trans HBX.out HW.out.2.1.size)).mono ?_
  rintro e w6 ⟨rfl, W⟩
  replace HW := Lib.hid (HW.out.trans W); clear W
  clear d0 d1
  go_wp2_with fail
  go_end0
  refine ⟨rfl, ?_⟩
  have h := W2.out.trans HW.out
  simpa [showDe, List.append_assoc] using h

end Go.Proofs.YtgjemmdhamkngaaGreatDoor

/-
  printer's small questions: names, what is none, ops, places.
-/
namespace Go.Proofs.YtgjemmdhamkngaaGreatDoor
open Go.RowKit

set_option maxRecDepth 100000 in
theorem function_any (s : ByteArray) (w : World) : Calls Tryz.prog 103 #[.string s] w fun e w' => e = .returned (.bool (fnB s)) ∧ Below w.heap.size w w' := by
  have HF : Hid (decide (0 ≤ fnArity (fnOf s)) = fnB s) := rfl
  go_enter Tryz.func103, Tryz.ntmps103
  go_wp2_with fail
  refine (arity_any s _).mono ?_
  rintro e w1 ⟨rfl, hb⟩
  go_wp2_with fail
  go_ret
  exact ⟨ret_bool HF.out, hb⟩

set_option maxRecDepth 100000 in
theorem relation_any (s : ByteArray) (w : World) (hs : s.size ≤ maxLen) : Calls Tryz.prog 66 #[.string s] w fun e w' => e = .returned (.bool (relB s)) ∧ Below w.heap.size w w' := by
  cases h1 : nameB s with
  | false =>
    have HF : Hid (relB s = false) := by show _ = _; simp [relB, h1]
    have H1 := Lib.hid h1; clear h1
    go_enter Tryz.func66, Tryz.ntmps66
    go_wp2_with fail
    refine (name_any s _ hs).mono ?_
    rw [H1.out]
    rintro e w1 ⟨rfl, hb⟩
    go_wp2_with fail
    go_ret
    exact ⟨ret_bool HF.out.symm, hb⟩
  | true =>
  cases h2 : fnB s with
  | true =>
    have HF : Hid (relB s = false) := by show _ = _; simp [relB, h1, h2]
    have H1 := Lib.hid h1; have H2 := Lib.hid h2; clear h1 h2
    go_enter Tryz.func66, Tryz.ntmps66
    go_wp2_with fail
    refine (name_any s _ hs).mono ?_
    rw [H1.out]
    rintro e w1 ⟨rfl, hb⟩
    go_wp2_with fail
    refine (function_any s _).mono ?_
    rw [H2.out]
    rintro e w2 ⟨rfl, hb2⟩
    go_wp2_with fail
    go_ret
    exact ⟨ret_bool HF.out.symm, Below.step hb hb2⟩
  | false =>
  cases h3 : declB s
  all_goals
    have HF := Lib.hid (show relB s = (!declB s) by simp [relB, h1, h2])
    have HF' := HF.out
    rw [h3] at HF'
    have HG := Lib.hid HF'
    have H1 := Lib.hid h1; have H2 := Lib.hid h2; unfold declB at h3; clear h1 h2 HF HF'
    go_enter Tryz.func66, Tryz.ntmps66
    go_wp2_with fail
    refine (name_any s _ hs).mono ?_
    rw [H1.out]
    rintro e w1 ⟨rfl, hb⟩
    go_wp2_with fail
    refine (function_any s _).mono ?_
    rw [H2.out]
    rintro e w2 ⟨rfl, hb2⟩
    go_wp2_with fail
    go_ret
    exact ⟨ret_bool HG.out.symm, Below.step hb hb2⟩

theorem isEmpty_len {α : Type} (l : List α) : l.isEmpty = ((l.length : Int) == 0) := by
  cases l with
  | nil => rfl
  | cons x l => symm; rw [beq_eq_false_iff_ne.2 (by simp; omega)]; rfl
set_option maxRecDepth 100000 in
theorem nothing_any (x : V) (S : Nat → Prop) (w : World) (c0 c1 c2 c3 : Value) (hx : RepG S w x c0 c1 c2 c3) : Calls Tryz.prog 114 #[.agg #[c0, c1, c2, c3]] w fun e w' => e = .returned (.bool (noneB x)) ∧ Below w.heap.size w w' := by
  obtain ⟨fa, fc, rfl, rfl, rfl, rfl⟩ := hx.form
  clear hx
  cases h0 : (x.kind == 0) with
  | false =>
    have HF : Hid (noneB x = false) := by show _ = _; simp only [noneB, h0, Bool.false_and]
    go_enter Tryz.func114, Tryz.ntmps114
    go_wp2_with fail
    go_ret
    exact ⟨ret_bool HF.out.symm, below_alloc _ _⟩
  | true =>
  cases h1 : (x.num == 0) with
  | false =>
    have HF : Hid (noneB x = false) := by show _ = _; simp only [noneB, h0, h1, Bool.false_and, Bool.true_and]
    go_enter Tryz.func114, Tryz.ntmps114
    go_wp2_with fail
    go_ret
    exact ⟨ret_bool HF.out.symm, below_alloc _ _⟩
  | true =>
  cases h2 : (x.text.toList.isEmpty) with
  | false =>
    have HF : Hid (noneB x = false) := by show _ = _; simp only [noneB, h0, h1, h2, Bool.false_and, Bool.true_and]
    go_enter Tryz.func114, Tryz.ntmps114
    go_wp2_with fail
    go_ret
    exact ⟨ret_bool HF.out.symm, below_alloc _ _⟩
  | true =>
  have h3 := isEmpty_len x.list
  cases h4 : ((x.list.length : Int) == 0) with
  | false =>
    have HF : Hid (noneB x = false) := by show _ = _; simp only [noneB, h0, h1, h2, h3, h4, Bool.true_and]
    clear h3
    go_enter Tryz.func114, Tryz.ntmps114
    go_wp2_with fail
    go_ret
    exact ⟨ret_bool HF.out.symm, below_alloc _ _⟩
  | true =>
    have HF : Hid (noneB x = true) := by show _ = _; simp only [noneB, h0, h1, h2, h3, h4, Bool.true_and]
    clear h3
    go_enter Tryz.func114, Tryz.ntmps114
    go_wp2_with fail
    go_ret
    exact ⟨ret_bool HF.out.symm, below_alloc _ _⟩

set_option maxRecDepth 100000 in
theorem rightValue_any (x : V) (S : Nat → Prop) (w : World) (c0 c1 c2 c3 : Value) (hS : ∀ k, S k → k < w.heap.size) (hx : RepG S w x c0 c1 c2 c3) : Calls Tryz.prog 115 #[.agg #[c0, c1, c2, c3]] w fun e w' => e = .returned (.bool (valB x)) ∧ Below w.heap.size w w' := by
  have HX := Lib.hid hx
  obtain ⟨fa, fc, rfl, rfl, rfl, rfl⟩ := hx.form
  clear hx
  cases h0 : rightV 4 x with
  | false =>
    have HF : Hid (valB x = false) := by show _ = _; simp only [valB, h0, Bool.false_and]
    have HR := Lib.hid h0; clear h0
    go_enter Tryz.func115, Tryz.ntmps115
    go_wp2_with fail
    have x1 := boxed_new w (.int .i64 x.kind) (.int .i64 x.num) (.string x.text) (.slice fa x.list.length fc)
    have b1 := below_alloc w (.cells #[.int .i64 x.kind, .int .i64 x.num, .string x.text, .slice fa x.list.length fc] 44)
    generalize w.alloc (.cells #[.int .i64 x.kind, .int .i64 x.num, .string x.text, .slice fa x.list.length fc] 44) = w1 at *
    refine (right_any x w1.heap.size w1 _ _ _ _ (Nat.le_refl _) (RepG.on (fun k hk => Nat.lt_of_lt_of_le (hS k hk) b1.size) (fun k hk => b1.block k (hS k hk)) x HX.out)).mono ?_
    rw [HR.out]
    rintro e w2 ⟨rfl, hb2⟩
    obtain ⟨q0, q1, q2, q3⟩ := (x1.on hb2).cells
    go_wp2_with fail
    go_ret
    exact ⟨ret_bool HF.out.symm, Below.step b1 hb2⟩
  | true =>
  cases h1 : (x.kind == 3) with
  | false =>
    have HF : Hid (valB x = true) := by show _ = _; simp only [valB, h0, h1, Bool.false_and, Bool.true_and, Bool.not_false]
    have HR := Lib.hid h0; clear h0
    go_enter Tryz.func115, Tryz.ntmps115
    go_wp2_with fail
    have x1 := boxed_new w (.int .i64 x.kind) (.int .i64 x.num) (.string x.text) (.slice fa x.list.length fc)
    have b1 := below_alloc w (.cells #[.int .i64 x.kind, .int .i64 x.num, .string x.text, .slice fa x.list.length fc] 44)
    generalize w.alloc (.cells #[.int .i64 x.kind, .int .i64 x.num, .string x.text, .slice fa x.list.length fc] 44) = w1 at *
    refine (right_any x w1.heap.size w1 _ _ _ _ (Nat.le_refl _) (RepG.on (fun k hk => Nat.lt_of_lt_of_le (hS k hk) b1.size) (fun k hk => b1.block k (hS k hk)) x HX.out)).mono ?_
    rw [HR.out]
    rintro e w2 ⟨rfl, hb2⟩
    obtain ⟨q0, q1, q2, q3⟩ := (x1.on hb2).cells
    go_wp2_with fail
    go_ret
    exact ⟨ret_bool HF.out.symm, Below.step b1 hb2⟩
  | true =>
  cases h2 : fnB x.text
  all_goals
    have HF := Lib.hid (show valB x = (!fnB x.text) by simp only [valB, h0, h1, Bool.true_and])
    have HF' := HF.out
    rw [h2] at HF'
    have HG := Lib.hid HF'
    have H2 := Lib.hid h2
    have HR := Lib.hid h0; clear h0 h2 HF HF'
    go_enter Tryz.func115, Tryz.ntmps115
    go_wp2_with fail
    have x1 := boxed_new w (.int .i64 x.kind) (.int .i64 x.num) (.string x.text) (.slice fa x.list.length fc)
    have b1 := below_alloc w (.cells #[.int .i64 x.kind, .int .i64 x.num, .string x.text, .slice fa x.list.length fc] 44)
    generalize w.alloc (.cells #[.int .i64 x.kind, .int .i64 x.num, .string x.text, .slice fa x.list.length fc] 44) = w1 at *
    refine (right_any x w1.heap.size w1 _ _ _ _ (Nat.le_refl _) (RepG.on (fun k hk => Nat.lt_of_lt_of_le (hS k hk) b1.size) (fun k hk => b1.block k (hS k hk)) x HX.out)).mono ?_
    rw [HR.out]
    rintro e w2 ⟨rfl, hb2⟩
    obtain ⟨q0, q1, q2, q3⟩ := (x1.on hb2).cells
    go_wp2_with fail
    refine (function_any x.text _).mono ?_
    rw [H2.out]
    rintro e w3 ⟨rfl, hb3⟩
    go_wp2_with fail
    go_ret
    exact ⟨ret_bool HG.out.symm, Below.step (Below.step b1 hb2) hb3⟩

set_option maxRecDepth 100000 in
theorem reckoning_any (s : ByteArray) (w : World) : Calls Tryz.prog 118 #[.string s] w fun e w' => e = .returned (.bool (opB s)) ∧ w = w' := by
  cases h0 : (s.toList == [43]) with
  | true =>
    have HF : Hid (opB s = true) := by show _ = _; simp [opB, h0]
    go_enter Tryz.func118, Tryz.ntmps118
    go_wp2_with fail
    go_ret
    exact ⟨ret_bool HF.out.symm, rfl⟩
  | false =>
  cases h1 : (s.toList == [45]) with
  | true =>
    have HF : Hid (opB s = true) := by show _ = _; simp [opB, h0, h1]
    go_enter Tryz.func118, Tryz.ntmps118
    go_wp2_with fail
    go_ret
    exact ⟨ret_bool HF.out.symm, rfl⟩
  | false =>
  cases h2 : (s.toList == [42]) with
  | true =>
    have HF : Hid (opB s = true) := by show _ = _; simp [opB, h0, h1, h2]
    go_enter Tryz.func118, Tryz.ntmps118
    go_wp2_with fail
    go_ret
    exact ⟨ret_bool HF.out.symm, rfl⟩
  | false =>
    have HF : Hid (opB s = false) := by show _ = _; simp only [opB, h0, h1, h2, Bool.false_or]
    go_enter Tryz.func118, Tryz.ntmps118
    go_wp2_with fail
    go_ret
    exact ⟨ret_bool HF.out.symm, rfl⟩

set_option maxRecDepth 100000 in
theorem comparing_any (s : ByteArray) (w : World) : Calls Tryz.prog 90 #[.string s] w fun e w' => e = .returned (.bool (cmpB s)) ∧ w = w' := by
  cases h0 : (s.toList == [61, 61]) with
  | true =>
    have HF : Hid (cmpB s = true) := by show _ = _; simp [cmpB, h0]
    go_enter Tryz.func90, Tryz.ntmps90
    go_wp2_with fail
    go_ret
    exact ⟨ret_bool HF.out.symm, rfl⟩
  | false =>
  cases h1 : (s.toList == [33, 61]) with
  | true =>
    have HF : Hid (cmpB s = true) := by show _ = _; simp [cmpB, h0, h1]
    go_enter Tryz.func90, Tryz.ntmps90
    go_wp2_with fail
    go_ret
    exact ⟨ret_bool HF.out.symm, rfl⟩
  | false =>
  cases h2 : (s.toList == [60]) with
  | true =>
    have HF : Hid (cmpB s = true) := by show _ = _; simp [cmpB, h0, h1, h2]
    go_enter Tryz.func90, Tryz.ntmps90
    go_wp2_with fail
    go_ret
    exact ⟨ret_bool HF.out.symm, rfl⟩
  | false =>
  cases h3 : (s.toList == [60, 61]) with
  | true =>
    have HF : Hid (cmpB s = true) := by show _ = _; simp [cmpB, h0, h1, h2, h3]
    go_enter Tryz.func90, Tryz.ntmps90
    go_wp2_with fail
    go_ret
    exact ⟨ret_bool HF.out.symm, rfl⟩
  | false =>
  cases h4 : (s.toList == [62]) with
  | true =>
    have HF : Hid (cmpB s = true) := by show _ = _; simp [cmpB, h0, h1, h2, h3, h4]
    go_enter Tryz.func90, Tryz.ntmps90
    go_wp2_with fail
    go_ret
    exact ⟨ret_bool HF.out.symm, rfl⟩
  | false =>
  cases h5 : (s.toList == [62, 61]) with
  | true =>
    have HF : Hid (cmpB s = true) := by show _ = _; simp [cmpB, h0, h1, h2, h3, h4, h5]
    go_enter Tryz.func90, Tryz.ntmps90
    go_wp2_with fail
    go_ret
    exact ⟨ret_bool HF.out.symm, rfl⟩
  | false =>
    have HF : Hid (cmpB s = false) := by show _ = _; simp only [cmpB, h0, h1, h2, h3, h4, h5, Bool.false_or]
    go_enter Tryz.func90, Tryz.ntmps90
    go_wp2_with fail
    go_ret
    exact ⟨ret_bool HF.out.symm, rfl⟩

set_option maxRecDepth 100000 in
theorem place_any (t : Tm) (S : Nat → Prop) (w : World) (c0 c1 c2 c3 c4 c5 c6 : Value) (ht : RepM S w t c0 c1 c2 c3 c4 c5 c6) : Calls Tryz.prog 105 #[.agg #[c0, c1, c2, c3, c4, c5, c6]] w fun e w' => e = .returned (.bool (placeB t)) ∧ Below w.heap.size w w' := by
  obtain ⟨fa, fc, ga, gc, rfl, rfl, rfl, rfl, rfl, rfl, rfl⟩ := ht.form
  clear ht
  cases h0 : (t.kind == 1) with
  | true =>
    have HF : Hid (placeB t = true) := by show _ = _; simp only [placeB, h0, Bool.true_or]
    go_enter Tryz.func105, Tryz.ntmps105
    go_wp2_with fail
    go_ret
    exact ⟨ret_bool HF.out.symm, below_alloc _ _⟩
  | false =>
  cases h1 : (t.kind == 2) with
  | false =>
    have HF : Hid (placeB t = false) := by show _ = _; simp only [placeB, h0, h1, Bool.false_or, Bool.false_and]
    go_enter Tryz.func105, Tryz.ntmps105
    go_wp2_with fail
    go_ret
    exact ⟨ret_bool HF.out.symm, below_alloc _ _⟩
  | true =>
  cases h2 : (t.val.kind == 3) with
  | false =>
    have HF : Hid (placeB t = false) := by show _ = _; simp only [placeB, h0, h1, h2, Bool.false_or, Bool.and_false]
    go_enter Tryz.func105, Tryz.ntmps105
    go_wp2_with fail
    go_ret
    exact ⟨ret_bool HF.out.symm, below_alloc _ _⟩
  | true =>
    have HF : Hid (placeB t = true) := by show _ = _; simp only [placeB, h0, h1, h2, Bool.false_or, Bool.true_and]
    go_enter Tryz.func105, Tryz.ntmps105
    go_wp2_with fail
    go_ret
    exact ⟨ret_bool HF.out.symm, below_alloc _ _⟩

end Go.Proofs.YtgjemmdhamkngaaGreatDoor

/-
  printer's rightList, at each type and with each question that it is handed: how many there are, and whether each is right.
-/
namespace Go.Proofs.YtgjemmdhamkngaaGreatDoor
open Go.RowKit

set_option maxRecDepth 100000 in
set_option maxHeartbeats 1000000 in
theorem rl_terms (l : List Tm) (least most : Int) (R : Tm → Bool) (S : Nat → Prop) (w : World) (a : Value) (hS : ∀ k, S k → k < w.heap.size) (ha : RepMs S w l a)
    (tells : ∀ (wr : World), Below w.heap.size w wr → ∀ x ∈ l, ∀ (fa : Option Addr) (fc : Nat) (ga : Option Addr) (gc : Nat), RepM S wr x (.int .i64 x.kind) (.string x.name) (.int .i64 x.val.kind) (.int .i64 x.val.num) (.string x.val.text) (.slice fa x.val.list.length fc) (.slice ga x.args.length gc) → Calls Tryz.prog 53 #[.agg #[.int .i64 x.kind, .string x.name, .int .i64 x.val.kind, .int .i64 x.val.num, .string x.val.text, .slice fa x.val.list.length fc, .slice ga x.args.length gc]] wr fun e w' => e = .returned (.bool (R x)) ∧ Below wr.heap.size wr w') :
    Calls Tryz.prog 91 #[a, .int .i64 least, .int .i64 most, .func (.func 53) #[] #[]] w fun e w' => e = .returned (.bool (listB least most R l)) ∧ Below w.heap.size w w' := by
  have HA := Lib.hid ha; have HT := Lib.hid tells
  obtain ⟨aa, cap, rfl⟩ := SlG.form ha
  have hlen : l.length * 104 ≤ 140737488355328 := SlG.bytes ha
  clear ha tells
  by_cases h1 : (l.length : Int) < least
  · have HF := Lib.hid (listB_few (most := most) (R := R) h1)
    have h1' : decide ((l.length : Int) < least) = true := by simpa using h1
    go_enter Tryz.func91, Tryz.ntmps91
    go_wp2_with fail
    go_ret
    exact ⟨ret_bool HF.out.symm, Below.refl _ _⟩
  have h1' : decide ((l.length : Int) < least) = false := by simpa using h1
  by_cases h2 : most < (l.length : Int)
  · have HF := Lib.hid (listB_many (least := least) (R := R) h2)
    have h2' : decide (most < (l.length : Int)) = true := by simpa using h2
    go_enter Tryz.func91, Tryz.ntmps91
    go_wp2_with fail
    go_ret
    exact ⟨ret_bool HF.out.symm, Below.refl _ _⟩
  have h2' : decide (most < (l.length : Int)) = false := by simpa using h2
  have HL := Lib.hid (listB_some (R := R) (show least ≤ (l.length : Int) by omega) (show (l.length : Int) ≤ most by omega))
  clear h1 h2
  go_enter Tryz.func91, Tryz.ntmps91
  go_wp2_with fail
  go_loopw [23] (fun i wr => ∃ k : Nat, k ≤ l.length ∧ i = .int .i64 k ∧ Hid (l.all R = (l.drop k).all R) ∧ Below w.heap.size w wr) (fun i _ => l.length - (intOf i).toNat)
  case atStart => exact ⟨0, Nat.zero_le _, rfl, rfl, Below.refl _ _⟩
  case round =>
    obtain ⟨k, hk, rfl, hrec, hbel⟩ := hrel
    have HB := Lib.hid hbel
    clear h1' h2'
    by_cases hl : k < l.length
    · have hA := RepMs.on (fun _ h => h) (fun j hj => hbel.block j (hS j hj)) HA.out
      obtain ⟨-, -, b, o, fa, fc, ga, gc, rfl, -, g0, g1, g2, g3, g4, g5, g6, g⟩ := RepMs.at hA k hl
      have G := Lib.hid g
      have HM := Lib.hid (show l[k] ∈ l from List.getElem_mem hl)
      have HD := Lib.hid (List.drop_eq_getElem_cons hl)
      clear hA g
      generalize l[k] = z at *
      have hba := below_alloc wr (.cells #[.int .i64 z.kind, .string z.name, .int .i64 z.val.kind, .int .i64 z.val.num, .string z.val.text, .slice fa z.val.list.length fc, .slice ga z.args.length gc] 46)
      have HZ := Lib.hid (RepM.on (fun _ h => h) (fun j hj => hba.block j (Nat.lt_of_lt_of_le (hS j hj) hbel.size)) z G.out)
      have HBA := Lib.hid (Below.step hbel hba)
      clear hbel hba
      have hen : ∀ args w, Sem.run Tryz.prog (callFunc 53 args) w = .ok (.enter 53 args) w := fun args w => by kernel_rfl
      go_wp2_with fail
      refine (HT.out _ HBA.out z HM.out fa fc ga gc HZ.out).mono ?_
      rintro e w3 ⟨rfl, hb3⟩
      have HB3 := Lib.hid (Below.step HBA.out hb3)
      clear hb3
      cases hc : R z with
      | true =>
        have HF : Hid (l.all R = (l.drop (k + 1)).all R) := by show _ = _; rw [hrec.out, HD.out, List.all_cons, hc, Bool.true_and]
        clear hc
        go_wp2_with fail
        go_roundw
        case rel => exact ⟨k + 1, by omega, by go_num, HF, HB3.out⟩
        case measure => simp [intOf]; omega
      | false =>
        have HF : Hid (listB least most R l = false) := by show _ = _; rw [HL.out, hrec.out, HD.out, List.all_cons, hc, Bool.false_and]
        clear hc
        go_wp2_with fail
        go_ret
        exact ⟨ret_bool HF.out.symm, HB3.out⟩
    · have HF : Hid (listB least most R l = true) := by show _ = _; rw [HL.out, hrec.out, List.drop_of_length_le (by omega)]; rfl
      go_wp2_with fail
      go_ret
      exact ⟨ret_bool HF.out.symm, HB.out⟩

set_option maxRecDepth 100000 in
set_option maxHeartbeats 1000000 in
theorem rl_parts (l : List Tm) (least most : Int) (R : Tm → Bool) (q : Value) (S : Nat → Prop) (w : World) (a : Value) (hS : ∀ k, S k → k < w.heap.size) (ha : RepMs S w l a)
    (tells : ∀ (wr : World), Below w.heap.size w wr → ∀ x ∈ l, ∀ (fa : Option Addr) (fc : Nat) (ga : Option Addr) (gc : Nat), RepM S wr x (.int .i64 x.kind) (.string x.name) (.int .i64 x.val.kind) (.int .i64 x.val.num) (.string x.val.text) (.slice fa x.val.list.length fc) (.slice ga x.args.length gc) → Calls Tryz.prog 127 #[.agg #[.int .i64 x.kind, .string x.name, .int .i64 x.val.kind, .int .i64 x.val.num, .string x.val.text, .slice fa x.val.list.length fc, .slice ga x.args.length gc], q] wr fun e w' => e = .returned (.bool (R x)) ∧ Below wr.heap.size wr w') :
    Calls Tryz.prog 91 #[a, .int .i64 least, .int .i64 most, .func (.func 127) #[] #[q]] w fun e w' => e = .returned (.bool (listB least most R l)) ∧ Below w.heap.size w w' := by
  have HA := Lib.hid ha; have HT := Lib.hid tells
  obtain ⟨aa, cap, rfl⟩ := SlG.form ha
  have hlen : l.length * 104 ≤ 140737488355328 := SlG.bytes ha
  clear ha tells
  by_cases h1 : (l.length : Int) < least
  · have HF := Lib.hid (listB_few (most := most) (R := R) h1)
    have h1' : decide ((l.length : Int) < least) = true := by simpa using h1
    go_enter Tryz.func91, Tryz.ntmps91
    go_wp2_with fail
    go_ret
    exact ⟨ret_bool HF.out.symm, Below.refl _ _⟩
  have h1' : decide ((l.length : Int) < least) = false := by simpa using h1
  by_cases h2 : most < (l.length : Int)
  · have HF := Lib.hid (listB_many (least := least) (R := R) h2)
    have h2' : decide (most < (l.length : Int)) = true := by simpa using h2
    go_enter Tryz.func91, Tryz.ntmps91
    go_wp2_with fail
    go_ret
    exact ⟨ret_bool HF.out.symm, Below.refl _ _⟩
  have h2' : decide (most < (l.length : Int)) = false := by simpa using h2
  have HL := Lib.hid (listB_some (R := R) (show least ≤ (l.length : Int) by omega) (show (l.length : Int) ≤ most by omega))
  clear h1 h2
  go_enter Tryz.func91, Tryz.ntmps91
  go_wp2_with fail
  go_loopw [23] (fun i wr => ∃ k : Nat, k ≤ l.length ∧ i = .int .i64 k ∧ Hid (l.all R = (l.drop k).all R) ∧ Below w.heap.size w wr) (fun i _ => l.length - (intOf i).toNat)
  case atStart => exact ⟨0, Nat.zero_le _, rfl, rfl, Below.refl _ _⟩
  case round =>
    obtain ⟨k, hk, rfl, hrec, hbel⟩ := hrel
    have HB := Lib.hid hbel
    clear h1' h2'
    by_cases hl : k < l.length
    · have hA := RepMs.on (fun _ h => h) (fun j hj => hbel.block j (hS j hj)) HA.out
      obtain ⟨-, -, b, o, fa, fc, ga, gc, rfl, -, g0, g1, g2, g3, g4, g5, g6, g⟩ := RepMs.at hA k hl
      have G := Lib.hid g
      have HM := Lib.hid (show l[k] ∈ l from List.getElem_mem hl)
      have HD := Lib.hid (List.drop_eq_getElem_cons hl)
      clear hA g
      generalize l[k] = z at *
      have hba := below_alloc wr (.cells #[.int .i64 z.kind, .string z.name, .int .i64 z.val.kind, .int .i64 z.val.num, .string z.val.text, .slice fa z.val.list.length fc, .slice ga z.args.length gc] 46)
      have HZ := Lib.hid (RepM.on (fun _ h => h) (fun j hj => hba.block j (Nat.lt_of_lt_of_le (hS j hj) hbel.size)) z G.out)
      have HBA := Lib.hid (Below.step hbel hba)
      clear hbel hba
      have hen : ∀ args w, Sem.run Tryz.prog (callFunc 127 args) w = .ok (.enter 127 args) w := fun args w => by kernel_rfl
      go_wp2_with fail
      refine (HT.out _ HBA.out z HM.out fa fc ga gc HZ.out).mono ?_
      rintro e w3 ⟨rfl, hb3⟩
      have HB3 := Lib.hid (Below.step HBA.out hb3)
      clear hb3
      cases hc : R z with
      | true =>
        have HF : Hid (l.all R = (l.drop (k + 1)).all R) := by show _ = _; rw [hrec.out, HD.out, List.all_cons, hc, Bool.true_and]
        clear hc
        go_wp2_with fail
        go_roundw
        case rel => exact ⟨k + 1, by omega, by go_num, HF, HB3.out⟩
        case measure => simp [intOf]; omega
      | false =>
        have HF : Hid (listB least most R l = false) := by show _ = _; rw [HL.out, hrec.out, HD.out, List.all_cons, hc, Bool.false_and]
        clear hc
        go_wp2_with fail
        go_ret
        exact ⟨ret_bool HF.out.symm, HB3.out⟩
    · have HF : Hid (listB least most R l = true) := by show _ = _; rw [HL.out, hrec.out, List.drop_of_length_le (by omega)]; rfl
      go_wp2_with fail
      go_ret
      exact ⟨ret_bool HF.out.symm, HB.out⟩

set_option maxRecDepth 100000 in
set_option maxHeartbeats 1000000 in
theorem rl_values (l : List V) (least most : Int) (R : V → Bool) (S : Nat → Prop) (w : World) (a : Value) (hS : ∀ k, S k → k < w.heap.size) (ha : RepLG S w l a)
    (tells : ∀ (wr : World), Below w.heap.size w wr → ∀ x ∈ l, ∀ (fa : Option Addr) (fc : Nat), RepG S wr x (.int .i64 x.kind) (.int .i64 x.num) (.string x.text) (.slice fa x.list.length fc) → Calls Tryz.prog 68 #[.agg #[.int .i64 x.kind, .int .i64 x.num, .string x.text, .slice fa x.list.length fc]] wr fun e w' => e = .returned (.bool (R x)) ∧ Below wr.heap.size wr w') :
    Calls Tryz.prog 67 #[a, .int .i64 least, .int .i64 most, .func (.func 68) #[] #[]] w fun e w' => e = .returned (.bool (listB least most R l)) ∧ Below w.heap.size w w' := by
  have HA := Lib.hid ha; have HT := Lib.hid tells
  obtain ⟨aa, -, -, cap, rfl, -⟩ := id ha
  have hlen : l.length * 56 ≤ 140737488355328 := by obtain ⟨_, _, _, _, _, _, h, _⟩ := ha; exact h
  clear ha tells
  by_cases h1 : (l.length : Int) < least
  · have HF := Lib.hid (listB_few (most := most) (R := R) h1)
    have h1' : decide ((l.length : Int) < least) = true := by simpa using h1
    go_enter Tryz.func67, Tryz.ntmps67
    go_wp2_with fail
    go_ret
    exact ⟨ret_bool HF.out.symm, Below.refl _ _⟩
  have h1' : decide ((l.length : Int) < least) = false := by simpa using h1
  by_cases h2 : most < (l.length : Int)
  · have HF := Lib.hid (listB_many (least := least) (R := R) h2)
    have h2' : decide (most < (l.length : Int)) = true := by simpa using h2
    go_enter Tryz.func67, Tryz.ntmps67
    go_wp2_with fail
    go_ret
    exact ⟨ret_bool HF.out.symm, Below.refl _ _⟩
  have h2' : decide (most < (l.length : Int)) = false := by simpa using h2
  have HL := Lib.hid (listB_some (R := R) (show least ≤ (l.length : Int) by omega) (show (l.length : Int) ≤ most by omega))
  clear h1 h2
  go_enter Tryz.func67, Tryz.ntmps67
  go_wp2_with fail
  go_loopw [23] (fun i wr => ∃ k : Nat, k ≤ l.length ∧ i = .int .i64 k ∧ Hid (l.all R = (l.drop k).all R) ∧ Below w.heap.size w wr) (fun i _ => l.length - (intOf i).toNat)
  case atStart => exact ⟨0, Nat.zero_le _, rfl, rfl, Below.refl _ _⟩
  case round =>
    obtain ⟨k, hk, rfl, hrec, hbel⟩ := hrel
    have HB := Lib.hid hbel
    clear h1' h2'
    by_cases hl : k < l.length
    · have hA := RepLG.on (fun _ h => h) (fun j hj => hbel.block j (hS j hj)) HA.out
      obtain ⟨-, -, b, o, fa, fc, rfl, -, g0, g1, g2, g3, g⟩ := RepLG.at hA k hl
      have G := Lib.hid g
      have HM := Lib.hid (show l[k] ∈ l from List.getElem_mem hl)
      have HD := Lib.hid (List.drop_eq_getElem_cons hl)
      clear hA g
      generalize l[k] = z at *
      have hba := below_alloc wr (.cells #[.int .i64 z.kind, .int .i64 z.num, .string z.text, .slice fa z.list.length fc] 44)
      have HZ := Lib.hid (RepG.on (fun _ h => h) (fun j hj => hba.block j (Nat.lt_of_lt_of_le (hS j hj) hbel.size)) z G.out)
      have HBA := Lib.hid (Below.step hbel hba)
      clear hbel hba
      have hen : ∀ args w, Sem.run Tryz.prog (callFunc 68 args) w = .ok (.enter 68 args) w := fun args w => by kernel_rfl
      go_wp2_with fail
      refine (HT.out _ HBA.out z HM.out fa fc HZ.out).mono ?_
      rintro e w3 ⟨rfl, hb3⟩
      have HB3 := Lib.hid (Below.step HBA.out hb3)
      clear hb3
      cases hc : R z with
      | true =>
        have HF : Hid (l.all R = (l.drop (k + 1)).all R) := by show _ = _; rw [hrec.out, HD.out, List.all_cons, hc, Bool.true_and]
        clear hc
        go_wp2_with fail
        go_roundw
        case rel => exact ⟨k + 1, by omega, by go_num, HF, HB3.out⟩
        case measure => simp [intOf]; omega
      | false =>
        have HF : Hid (listB least most R l = false) := by show _ = _; rw [HL.out, hrec.out, HD.out, List.all_cons, hc, Bool.false_and]
        clear hc
        go_wp2_with fail
        go_ret
        exact ⟨ret_bool HF.out.symm, HB3.out⟩
    · have HF : Hid (listB least most R l = true) := by show _ = _; rw [HL.out, hrec.out, List.drop_of_length_le (by omega)]; rfl
      go_wp2_with fail
      go_ret
      exact ⟨ret_bool HF.out.symm, HB.out⟩

set_option maxRecDepth 100000 in
set_option maxHeartbeats 1000000 in
theorem rl_literals (l : List Li) (least most : Int) (R : Li → Bool) (S : Nat → Prop) (w : World) (a : Value) (hS : ∀ k, S k → k < w.heap.size) (ha : RepLis S w l a)
    (tells : ∀ (wr : World), Below w.heap.size w wr → ∀ x ∈ l, ∀ (ga : Option Addr) (gc : Nat), RepLi S wr x (.int .i64 x.kind) (.string x.name) (.slice ga x.args.length gc) → Calls Tryz.prog 49 #[.agg #[.int .i64 x.kind, .string x.name, .slice ga x.args.length gc]] wr fun e w' => e = .returned (.bool (R x)) ∧ Below wr.heap.size wr w') :
    Calls Tryz.prog 71 #[a, .int .i64 least, .int .i64 most, .func (.func 49) #[] #[]] w fun e w' => e = .returned (.bool (listB least most R l)) ∧ Below w.heap.size w w' := by
  have HA := Lib.hid ha; have HT := Lib.hid tells
  obtain ⟨aa, cap, rfl⟩ := SlG.form ha
  have hlen : l.length * 48 ≤ 140737488355328 := SlG.bytes ha
  clear ha tells
  by_cases h1 : (l.length : Int) < least
  · have HF := Lib.hid (listB_few (most := most) (R := R) h1)
    have h1' : decide ((l.length : Int) < least) = true := by simpa using h1
    go_enter Tryz.func71, Tryz.ntmps71
    go_wp2_with fail
    go_ret
    exact ⟨ret_bool HF.out.symm, Below.refl _ _⟩
  have h1' : decide ((l.length : Int) < least) = false := by simpa using h1
  by_cases h2 : most < (l.length : Int)
  · have HF := Lib.hid (listB_many (least := least) (R := R) h2)
    have h2' : decide (most < (l.length : Int)) = true := by simpa using h2
    go_enter Tryz.func71, Tryz.ntmps71
    go_wp2_with fail
    go_ret
    exact ⟨ret_bool HF.out.symm, Below.refl _ _⟩
  have h2' : decide (most < (l.length : Int)) = false := by simpa using h2
  have HL := Lib.hid (listB_some (R := R) (show least ≤ (l.length : Int) by omega) (show (l.length : Int) ≤ most by omega))
  clear h1 h2
  go_enter Tryz.func71, Tryz.ntmps71
  go_wp2_with fail
  go_loopw [23] (fun i wr => ∃ k : Nat, k ≤ l.length ∧ i = .int .i64 k ∧ Hid (l.all R = (l.drop k).all R) ∧ Below w.heap.size w wr) (fun i _ => l.length - (intOf i).toNat)
  case atStart => exact ⟨0, Nat.zero_le _, rfl, rfl, Below.refl _ _⟩
  case round =>
    obtain ⟨k, hk, rfl, hrec, hbel⟩ := hrel
    have HB := Lib.hid hbel
    clear h1' h2'
    by_cases hl : k < l.length
    · have hA := RepLis.on (fun _ h => h) (fun j hj => hbel.block j (hS j hj)) HA.out
      obtain ⟨-, -, b, o, ga, gc, rfl, -, g0, g1, g2, g⟩ := RepLis.at hA k hl
      have G := Lib.hid g
      have HM := Lib.hid (show l[k] ∈ l from List.getElem_mem hl)
      have HD := Lib.hid (List.drop_eq_getElem_cons hl)
      clear hA g
      generalize l[k] = z at *
      have hba := below_alloc wr (.cells #[.int .i64 z.kind, .string z.name, .slice ga z.args.length gc] 41)
      have HZ := Lib.hid (RepLi.on (fun _ h => h) (fun j hj => hba.block j (Nat.lt_of_lt_of_le (hS j hj) hbel.size)) G.out)
      have HBA := Lib.hid (Below.step hbel hba)
      clear hbel hba
      have hen : ∀ args w, Sem.run Tryz.prog (callFunc 49 args) w = .ok (.enter 49 args) w := fun args w => by kernel_rfl
      go_wp2_with fail
      refine (HT.out _ HBA.out z HM.out ga gc HZ.out).mono ?_
      rintro e w3 ⟨rfl, hb3⟩
      have HB3 := Lib.hid (Below.step HBA.out hb3)
      clear hb3
      cases hc : R z with
      | true =>
        have HF : Hid (l.all R = (l.drop (k + 1)).all R) := by show _ = _; rw [hrec.out, HD.out, List.all_cons, hc, Bool.true_and]
        clear hc
        go_wp2_with fail
        go_roundw
        case rel => exact ⟨k + 1, by omega, by go_num, HF, HB3.out⟩
        case measure => simp [intOf]; omega
      | false =>
        have HF : Hid (listB least most R l = false) := by show _ = _; rw [HL.out, hrec.out, HD.out, List.all_cons, hc, Bool.false_and]
        clear hc
        go_wp2_with fail
        go_ret
        exact ⟨ret_bool HF.out.symm, HB3.out⟩
    · have HF : Hid (listB least most R l = true) := by show _ = _; rw [HL.out, hrec.out, List.drop_of_length_le (by omega)]; rfl
      go_wp2_with fail
      go_ret
      exact ⟨ret_bool HF.out.symm, HB.out⟩

set_option maxRecDepth 100000 in
set_option maxHeartbeats 1000000 in
theorem rl_decls (l : List De) (least most : Int) (R : De → Bool) (S : Nat → Prop) (w : World) (a : Value) (hS : ∀ k, S k → k < w.heap.size) (ha : RepDes S w l a)
    (tells : ∀ (wr : World), Below w.heap.size w wr → ∀ x ∈ l, RepDe S wr x (.string x.name) (.int .i64 x.arity) → Calls Tryz.prog 30 #[.agg #[.string x.name, .int .i64 x.arity]] wr fun e w' => e = .returned (.bool (R x)) ∧ Below wr.heap.size wr w') :
    Calls Tryz.prog 29 #[a, .int .i64 least, .int .i64 most, .func (.func 30) #[] #[]] w fun e w' => e = .returned (.bool (listB least most R l)) ∧ Below w.heap.size w w' := by
  have HA := Lib.hid ha; have HT := Lib.hid tells
  obtain ⟨aa, cap, rfl⟩ := SlG.form ha
  have hlen : l.length * 24 ≤ 140737488355328 := SlG.bytes ha
  clear ha tells
  by_cases h1 : (l.length : Int) < least
  · have HF := Lib.hid (listB_few (most := most) (R := R) h1)
    have h1' : decide ((l.length : Int) < least) = true := by simpa using h1
    go_enter Tryz.func29, Tryz.ntmps29
    go_wp2_with fail
    go_ret
    exact ⟨ret_bool HF.out.symm, Below.refl _ _⟩
  have h1' : decide ((l.length : Int) < least) = false := by simpa using h1
  by_cases h2 : most < (l.length : Int)
  · have HF := Lib.hid (listB_many (least := least) (R := R) h2)
    have h2' : decide (most < (l.length : Int)) = true := by simpa using h2
    go_enter Tryz.func29, Tryz.ntmps29
    go_wp2_with fail
    go_ret
    exact ⟨ret_bool HF.out.symm, Below.refl _ _⟩
  have h2' : decide (most < (l.length : Int)) = false := by simpa using h2
  have HL := Lib.hid (listB_some (R := R) (show least ≤ (l.length : Int) by omega) (show (l.length : Int) ≤ most by omega))
  clear h1 h2
  go_enter Tryz.func29, Tryz.ntmps29
  go_wp2_with fail
  go_loopw [23] (fun i wr => ∃ k : Nat, k ≤ l.length ∧ i = .int .i64 k ∧ Hid (l.all R = (l.drop k).all R) ∧ Below w.heap.size w wr) (fun i _ => l.length - (intOf i).toNat)
  case atStart => exact ⟨0, Nat.zero_le _, rfl, rfl, Below.refl _ _⟩
  case round =>
    obtain ⟨k, hk, rfl, hrec, hbel⟩ := hrel
    have HB := Lib.hid hbel
    clear h1' h2'
    by_cases hl : k < l.length
    · have hA := RepDes.on (fun _ h => h) (fun j hj => hbel.block j (hS j hj)) HA.out
      obtain ⟨-, -, b, o, rfl, -, g0, g1, g⟩ := RepDes.at hA k hl
      have G := Lib.hid g
      have HM := Lib.hid (show l[k] ∈ l from List.getElem_mem hl)
      have HD := Lib.hid (List.drop_eq_getElem_cons hl)
      clear hA g
      generalize l[k] = z at *
      have hba := below_alloc wr (.cells #[.string z.name, .int .i64 z.arity] 57)
      have HZ := Lib.hid (G.out)
      have HBA := Lib.hid (Below.step hbel hba)
      clear hbel hba
      have hen : ∀ args w, Sem.run Tryz.prog (callFunc 30 args) w = .ok (.enter 30 args) w := fun args w => by kernel_rfl
      go_wp2_with fail
      refine (HT.out _ HBA.out z HM.out  HZ.out).mono ?_
      rintro e w3 ⟨rfl, hb3⟩
      have HB3 := Lib.hid (Below.step HBA.out hb3)
      clear hb3
      cases hc : R z with
      | true =>
        have HF : Hid (l.all R = (l.drop (k + 1)).all R) := by show _ = _; rw [hrec.out, HD.out, List.all_cons, hc, Bool.true_and]
        clear hc
        go_wp2_with fail
        go_roundw
        case rel => exact ⟨k + 1, by omega, by go_num, HF, HB3.out⟩
        case measure => simp [intOf]; omega
      | false =>
        have HF : Hid (listB least most R l = false) := by show _ = _; rw [HL.out, hrec.out, HD.out, List.all_cons, hc, Bool.false_and]
        clear hc
        go_wp2_with fail
        go_ret
        exact ⟨ret_bool HF.out.symm, HB3.out⟩
    · have HF : Hid (listB least most R l = true) := by show _ = _; rw [HL.out, hrec.out, List.drop_of_length_le (by omega)]; rfl
      go_wp2_with fail
      go_ret
      exact ⟨ret_bool HF.out.symm, HB.out⟩

set_option maxRecDepth 100000 in
set_option maxHeartbeats 1000000 in
theorem rl_facts (l : List Fa) (least most : Int) (R : Fa → Bool) (S : Nat → Prop) (w : World) (a : Value) (hS : ∀ k, S k → k < w.heap.size) (ha : RepFas S w l a)
    (tells : ∀ (wr : World), Below w.heap.size w wr → ∀ x ∈ l, ∀ (ga : Option Addr) (gc : Nat), RepFa S wr x (.string x.name) (.slice ga x.args.length gc) → Calls Tryz.prog 32 #[.agg #[.string x.name, .slice ga x.args.length gc]] wr fun e w' => e = .returned (.bool (R x)) ∧ Below wr.heap.size wr w') :
    Calls Tryz.prog 31 #[a, .int .i64 least, .int .i64 most, .func (.func 32) #[] #[]] w fun e w' => e = .returned (.bool (listB least most R l)) ∧ Below w.heap.size w w' := by
  have HA := Lib.hid ha; have HT := Lib.hid tells
  obtain ⟨aa, cap, rfl⟩ := SlG.form ha
  have hlen : l.length * 40 ≤ 140737488355328 := SlG.bytes ha
  clear ha tells
  by_cases h1 : (l.length : Int) < least
  · have HF := Lib.hid (listB_few (most := most) (R := R) h1)
    have h1' : decide ((l.length : Int) < least) = true := by simpa using h1
    go_enter Tryz.func31, Tryz.ntmps31
    go_wp2_with fail
    go_ret
    exact ⟨ret_bool HF.out.symm, Below.refl _ _⟩
  have h1' : decide ((l.length : Int) < least) = false := by simpa using h1
  by_cases h2 : most < (l.length : Int)
  · have HF := Lib.hid (listB_many (least := least) (R := R) h2)
    have h2' : decide (most < (l.length : Int)) = true := by simpa using h2
    go_enter Tryz.func31, Tryz.ntmps31
    go_wp2_with fail
    go_ret
    exact ⟨ret_bool HF.out.symm, Below.refl _ _⟩
  have h2' : decide (most < (l.length : Int)) = false := by simpa using h2
  have HL := Lib.hid (listB_some (R := R) (show least ≤ (l.length : Int) by omega) (show (l.length : Int) ≤ most by omega))
  clear h1 h2
  go_enter Tryz.func31, Tryz.ntmps31
  go_wp2_with fail
  go_loopw [23] (fun i wr => ∃ k : Nat, k ≤ l.length ∧ i = .int .i64 k ∧ Hid (l.all R = (l.drop k).all R) ∧ Below w.heap.size w wr) (fun i _ => l.length - (intOf i).toNat)
  case atStart => exact ⟨0, Nat.zero_le _, rfl, rfl, Below.refl _ _⟩
  case round =>
    obtain ⟨k, hk, rfl, hrec, hbel⟩ := hrel
    have HB := Lib.hid hbel
    clear h1' h2'
    by_cases hl : k < l.length
    · have hA := RepFas.on (fun _ h => h) (fun j hj => hbel.block j (hS j hj)) HA.out
      obtain ⟨-, -, b, o, ga, gc, rfl, -, g0, g1, g⟩ := RepFas.at hA k hl
      have G := Lib.hid g
      have HM := Lib.hid (show l[k] ∈ l from List.getElem_mem hl)
      have HD := Lib.hid (List.drop_eq_getElem_cons hl)
      clear hA g
      generalize l[k] = z at *
      have hba := below_alloc wr (.cells #[.string z.name, .slice ga z.args.length gc] 33)
      have HZ := Lib.hid (RepFa.on (fun _ h => h) (fun j hj => hba.block j (Nat.lt_of_lt_of_le (hS j hj) hbel.size)) G.out)
      have HBA := Lib.hid (Below.step hbel hba)
      clear hbel hba
      have hen : ∀ args w, Sem.run Tryz.prog (callFunc 32 args) w = .ok (.enter 32 args) w := fun args w => by kernel_rfl
      go_wp2_with fail
      refine (HT.out _ HBA.out z HM.out ga gc HZ.out).mono ?_
      rintro e w3 ⟨rfl, hb3⟩
      have HB3 := Lib.hid (Below.step HBA.out hb3)
      clear hb3
      cases hc : R z with
      | true =>
        have HF : Hid (l.all R = (l.drop (k + 1)).all R) := by show _ = _; rw [hrec.out, HD.out, List.all_cons, hc, Bool.true_and]
        clear hc
        go_wp2_with fail
        go_roundw
        case rel => exact ⟨k + 1, by omega, by go_num, HF, HB3.out⟩
        case measure => simp [intOf]; omega
      | false =>
        have HF : Hid (listB least most R l = false) := by show _ = _; rw [HL.out, hrec.out, HD.out, List.all_cons, hc, Bool.false_and]
        clear hc
        go_wp2_with fail
        go_ret
        exact ⟨ret_bool HF.out.symm, HB3.out⟩
    · have HF : Hid (listB least most R l = true) := by show _ = _; rw [HL.out, hrec.out, List.drop_of_length_le (by omega)]; rfl
      go_wp2_with fail
      go_ret
      exact ⟨ret_bool HF.out.symm, HB.out⟩

set_option maxRecDepth 100000 in
set_option maxHeartbeats 1000000 in
theorem rl_rules (l : List Ru) (least most : Int) (R : Ru → Bool) (S : Nat → Prop) (w : World) (a : Value) (hS : ∀ k, S k → k < w.heap.size) (ha : RepRus S w l a)
    (tells : ∀ (wr : World), Below w.heap.size w wr → ∀ x ∈ l, ∀ (fa : Option Addr) (fc : Nat) (ga : Option Addr) (gc : Nat), RepRu S wr x (.string x.label) (.string x.head) (.slice fa x.args.length fc) (.string x.agg) (.int .i64 x.at') (.slice ga x.body.length gc) → Calls Tryz.prog 34 #[.agg #[.string x.label, .string x.head, .slice fa x.args.length fc, .string x.agg, .int .i64 x.at', .slice ga x.body.length gc]] wr fun e w' => e = .returned (.bool (R x)) ∧ Below wr.heap.size wr w') :
    Calls Tryz.prog 33 #[a, .int .i64 least, .int .i64 most, .func (.func 34) #[] #[]] w fun e w' => e = .returned (.bool (listB least most R l)) ∧ Below w.heap.size w w' := by
  have HA := Lib.hid ha; have HT := Lib.hid tells
  obtain ⟨aa, cap, rfl⟩ := SlG.form ha
  have hlen : l.length * 104 ≤ 140737488355328 := SlG.bytes ha
  clear ha tells
  by_cases h1 : (l.length : Int) < least
  · have HF := Lib.hid (listB_few (most := most) (R := R) h1)
    have h1' : decide ((l.length : Int) < least) = true := by simpa using h1
    go_enter Tryz.func33, Tryz.ntmps33
    go_wp2_with fail
    go_ret
    exact ⟨ret_bool HF.out.symm, Below.refl _ _⟩
  have h1' : decide ((l.length : Int) < least) = false := by simpa using h1
  by_cases h2 : most < (l.length : Int)
  · have HF := Lib.hid (listB_many (least := least) (R := R) h2)
    have h2' : decide (most < (l.length : Int)) = true := by simpa using h2
    go_enter Tryz.func33, Tryz.ntmps33
    go_wp2_with fail
    go_ret
    exact ⟨ret_bool HF.out.symm, Below.refl _ _⟩
  have h2' : decide (most < (l.length : Int)) = false := by simpa using h2
  have HL := Lib.hid (listB_some (R := R) (show least ≤ (l.length : Int) by omega) (show (l.length : Int) ≤ most by omega))
  clear h1 h2
  go_enter Tryz.func33, Tryz.ntmps33
  go_wp2_with fail
  go_loopw [23] (fun i wr => ∃ k : Nat, k ≤ l.length ∧ i = .int .i64 k ∧ Hid (l.all R = (l.drop k).all R) ∧ Below w.heap.size w wr) (fun i _ => l.length - (intOf i).toNat)
  case atStart => exact ⟨0, Nat.zero_le _, rfl, rfl, Below.refl _ _⟩
  case round =>
    obtain ⟨k, hk, rfl, hrec, hbel⟩ := hrel
    have HB := Lib.hid hbel
    clear h1' h2'
    by_cases hl : k < l.length
    · have hA := RepRus.on (fun _ h => h) (fun j hj => hbel.block j (hS j hj)) HA.out
      obtain ⟨-, -, b, o, fa, fc, ga, gc, rfl, -, g0, g1, g2, g3, g4, g5, g⟩ := RepRus.at hA k hl
      have G := Lib.hid g
      have HM := Lib.hid (show l[k] ∈ l from List.getElem_mem hl)
      have HD := Lib.hid (List.drop_eq_getElem_cons hl)
      clear hA g
      generalize l[k] = z at *
      have hba := below_alloc wr (.cells #[.string z.label, .string z.head, .slice fa z.args.length fc, .string z.agg, .int .i64 z.at', .slice ga z.body.length gc] 37)
      have HZ := Lib.hid (RepRu.on (fun _ h => h) (fun j hj => hba.block j (Nat.lt_of_lt_of_le (hS j hj) hbel.size)) G.out)
      have HBA := Lib.hid (Below.step hbel hba)
      clear hbel hba
      have hen : ∀ args w, Sem.run Tryz.prog (callFunc 34 args) w = .ok (.enter 34 args) w := fun args w => by kernel_rfl
      go_wp2_with fail
      refine (HT.out _ HBA.out z HM.out fa fc ga gc HZ.out).mono ?_
      rintro e w3 ⟨rfl, hb3⟩
      have HB3 := Lib.hid (Below.step HBA.out hb3)
      clear hb3
      cases hc : R z with
      | true =>
        have HF : Hid (l.all R = (l.drop (k + 1)).all R) := by show _ = _; rw [hrec.out, HD.out, List.all_cons, hc, Bool.true_and]
        clear hc
        go_wp2_with fail
        go_roundw
        case rel => exact ⟨k + 1, by omega, by go_num, HF, HB3.out⟩
        case measure => simp [intOf]; omega
      | false =>
        have HF : Hid (listB least most R l = false) := by show _ = _; rw [HL.out, hrec.out, HD.out, List.all_cons, hc, Bool.false_and]
        clear hc
        go_wp2_with fail
        go_ret
        exact ⟨ret_bool HF.out.symm, HB3.out⟩
    · have HF : Hid (listB least most R l = true) := by show _ = _; rw [HL.out, hrec.out, List.drop_of_length_le (by omega)]; rfl
      go_wp2_with fail
      go_ret
      exact ⟨ret_bool HF.out.symm, HB.out⟩

end Go.Proofs.YtgjemmdhamkngaaGreatDoor
