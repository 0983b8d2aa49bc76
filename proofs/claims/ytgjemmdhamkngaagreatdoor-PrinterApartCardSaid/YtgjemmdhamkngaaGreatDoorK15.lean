/-
  WFact, PrSmall
-/
import Derived.Test.YtgjemmdhamkngaaGreatDoorK14
import Derived.Test.YtgjemmdhamkngaaGreatDoorK05
namespace Go.Proofs.YtgjemmdhamkngaaGreatDoor
open Go.RowKit
set_option maxRecDepth 100000 in
set_option maxHeartbeats 4000000 in
theorem tuple1_tells (x : Fa) (S : Nat → Prop) (B b pb rb : Nat) (ga : Option Addr) (gc : Nat) (w : World) (hS : ∀ k, S k → k < B) (hB : B ≤ w.heap.size) (hg : 0 < B) (htab : TabOk w) (hl : RepLG S w x.args (.slice ga x.args.length gc))
  (h1 : w.heap[pb]? = some (.cells #[.pointer (some ⟨b, 0, none⟩)] 68 (0, 0))) (h2 : w.heap[rb]? = some (.cells #[.string x.name, .slice ga x.args.length gc] 33 (0, 0))) (n1 : pb ≠ b) (n2 : rb ≠ b) :
  TellsAt 83 (.pointer (some ⟨pb, 0, none⟩)) (.pointer (some ⟨rb, 0, none⟩)) B b w (x.args.map printB) := by
 intro i hi acc wx hw hlen
 rw [List.length_map] at hi
 rw [List.getElem_map] at hlen ⊢
 have HA := Lib.hid (RepLG.on (fun _ h => h) (fun k hk => hw.2.1.block k (hS k hk)) hl : RepLG S wx x.args (.slice ga x.args.length gc))
 obtain ⟨-, hcap, lb, lo, ea, ec, rfl, hSb, g0, g1, g2, g3, g⟩ := RepLG.at HA.out i hi
 have hbl : lb < B := hS lb hSb
 have G := Lib.hid g
 clear g HA
 generalize x.args[i] = z at *
 have HTX := Lib.hid (TabOk.below htab hg hw.2.1)
 have HBX := Lib.hid (Nat.le_trans hB hw.2.1.size)
 have Q1 := Lib.hid (kept_block hw.2.2 h1 (by decide) n1); have Q2 := Lib.hid (kept_block hw.2.2 h2 (by decide) n2)
 have N1 := Lib.hid n1; have N2 := Lib.hid n2
 have HW : Hid (pw.Wrote B b acc wx wx) := Lib.hid ⟨hw.1, Below.refl _ _, Lib.OthersKept.refl _ _ _⟩
 have HLN := Lib.hid hlen
 have hi0 : (0 : Int) ≤ (i : Int) := by omega
 have hi1 : (i : Int) < (x.args.length : Int) := by omega
 clear hw hlen h1 h2 n1 n2
 have c0 := kept_cell (i := 0) HW.out.2.2 Q1.out (by decide) N1.out _ rfl
 have d0 := kept_cell (i := 0) HW.out.2.2 Q2.out (by decide) N2.out _ rfl
 have d1 := kept_cell (i := 1) HW.out.2.2 Q2.out (by decide) N2.out _ rfl
 go_enter Tryz.func83, Tryz.ntmps83
 go_wp2_with fail
 have QK1 := Lib.hid (kept_block HW.out.2.2 Q1.out (by decide) N1.out); have QK2 := Lib.hid (kept_block HW.out.2.2 Q2.out (by decide) N2.out)
 have HK := Lib.hid (wrote_drew HW.out.1 (Nat.le_trans HBX.out HW.out.2.1.size))
 go_region_held3 (fun w' => w'.cell? ⟨pb, 0, none⟩ = some (.pointer (some ⟨b, 0, none⟩)) ∧ w'.cell? ⟨rb, 0, none⟩ = some (.string x.name) ∧ w'.cell? ⟨rb, 1, none⟩ = some (.slice (some ⟨lb, lo, none⟩) x.args.length gc) ∧ w'.cell? ⟨lb, lo + i * 4, none⟩ = some (.int .i64 z.kind) ∧ w'.cell? ⟨lb, lo + i * 4 + 1, none⟩ = some (.int .i64 z.num) ∧ w'.cell? ⟨lb, lo + i * 4 + 2, none⟩ = some (.string z.text) ∧ w'.cell? ⟨lb, lo + i * 4 + 3, none⟩ = some (.slice ea z.list.length ec))
  (first | exact ⟨kept_cell HK.out.2.2 QK1.out (by decide) N1.out _ rfl, kept_cell HK.out.2.2 QK2.out (by decide) N2.out _ rfl, kept_cell HK.out.2.2 QK2.out (by decide) N2.out _ rfl, ((HW.out.2.1.trans HK.out.2.1).cell (p := ⟨lb, lo + i * 4, none⟩) (by exact hbl)).trans g0, ((HW.out.2.1.trans HK.out.2.1).cell (p := ⟨lb, lo + i * 4 + 1, none⟩) (by exact hbl)).trans g1, ((HW.out.2.1.trans HK.out.2.1).cell (p := ⟨lb, lo + i * 4 + 2, none⟩) (by exact hbl)).trans g2, ((HW.out.2.1.trans HK.out.2.1).cell (p := ⟨lb, lo + i * 4 + 3, none⟩) (by exact hbl)).trans g3⟩)
  (first
   | (go_at_call 85; refine (print_any z B _ _ _ _ _ (Nat.le_trans (Nat.le_trans HBX.out HW.out.2.1.size) HK.out.2.1.size) (Nat.lt_of_lt_of_le hg (Nat.le_trans (Nat.le_trans HBX.out HW.out.2.1.size) HK.out.2.1.size)) (TabOk.below HTX.out hg (HW.out.2.1.trans HK.out.2.1)) (RepG.on hS (fun k hk => (HW.out.2.1.trans HK.out.2.1).block k (hS k hk)) z G.out)).mono ?_; rintro e w' ⟨rfl, hb⟩; replace HK := Lib.hid (HK.out.trans (pw.Wrote.start HK.out.1 (Nat.le_trans (Nat.le_trans HBX.out HW.out.2.1.size) HK.out.2.1.size) hb)); clear hb)
   | (go_at_call 84; refine (pw.wstr B b _ ⟨(printB z).toArray⟩ _ HK.out.1 (by rw [size_mk]; exact HLN.out) (Nat.le_trans (Nat.le_trans HBX.out HW.out.2.1.size) HK.out.2.1.size)).mono ?_; rintro e w' ⟨rfl, W⟩; replace HK := Lib.hid (HK.out.trans W); clear W))
 replace HW := Lib.hid (HW.out.trans HK.out)
 clear HK QK1 QK2
 go_wp2_with fail
 go_end0
 exact ⟨rfl, HW.out⟩
set_option maxRecDepth 100000 in
set_option maxHeartbeats 4000000 in
theorem wtuple_any (x : Fa) (S : Nat → Prop) (B b : Nat) (acc : List UInt8) (w : World) (c0 c1 : Value) (hS : ∀ k, S k → k < B) (hB : B ≤ w.heap.size) (hg : 0 < B) (htab : TabOk w) (hx : RepFa S w x c0 c1)
  (hbu : Lib.IsBuilderF 108 5 B b (Lib.byteCells acc) w) (hlen : acc.length + (showFa x).length ≤ 140737488355328) :
  Calls Tryz.prog 43 #[.pointer (some ⟨b, 0, none⟩), .agg #[c0, c1]] w fun e w' => e = .returned (.tuple #[]) ∧ pw.Wrote B b (acc ++ showFa x) w w' := by
 have HL := Lib.hid hx.2.2; have HTB := Lib.hid htab; have HBU := Lib.hid hbu
 have HN : Hid (x.args.length ≤ 140737488355328) := by
  show _ ≤ _
  obtain ⟨_, _, _, _, _, _, h, _⟩ := hx.2.2
  omega
 have HLN : Hid (acc.length + (showAtom x.name (x.args.map printB)).length + 1 ≤ 140737488355328) := by
  show _ ≤ _
  simp only [showFa, List.length_append, List.length_cons, List.length_nil] at hlen
  omega
 obtain ⟨ga, gc, rfl, rfl⟩ := hx.form
 clear hx htab hbu hlen
 go_enter Tryz.func43, Tryz.ntmps43
 go_wp2_with fail
 have q1 := alloc_new' w (.cells #[.pointer (some ⟨b, 0, none⟩)] 68)
 have s1 := World.size_alloc w (.cells #[.pointer (some ⟨b, 0, none⟩)] 68)
 have b1 := below_alloc w (.cells #[.pointer (some ⟨b, 0, none⟩)] 68)
 generalize w.alloc (.cells #[.pointer (some ⟨b, 0, none⟩)] 68) = w1 at *
 have q2 := alloc_new' w1 (.cells #[.string x.name, .slice ga x.args.length gc] 33)
 have b2 := below_alloc w1 (.cells #[.string x.name, .slice ga x.args.length gc] 33)
 generalize w1.alloc (.cells #[.string x.name, .slice ga x.args.length gc] 33) = w2 at *
 rw [s1] at q2
 have Q1 := Lib.hid ((b2.block w.heap.size (by omega)).trans q1); have Q2 := Lib.hid q2
 have W2 := Lib.hid (pw.Wrote.start HBU.out hB (Below.step b1 b2))
 have N1 : Hid (w.heap.size ≠ b) := by show _ ≠ _; have := builder_lt HBU.out; omega
 have N2 : Hid (w.heap.size + 1 ≠ b) := by show _ ≠ _; have := builder_lt HBU.out; omega
 have HWB := Lib.hid (Below.step b1 b2)
 clear q1 q2 b1 b2 s1
 generalize hpb : w.heap.size = pb at Q1 Q2 N1 N2 ⊢
 clear hpb
 have HW : Hid (pw.Wrote B b acc w2 w2) := Lib.hid ⟨W2.out.1, Below.refl _ _, Lib.OthersKept.refl _ _ _⟩
 have HBX := Lib.hid (Nat.le_trans hB HWB.out.size)
 have HTX := Lib.hid (TabOk.below HTB.out hg (HWB.out.mono hB))
 have hx := watom_any 83 (.pointer (some ⟨pb, 0, none⟩)) (.pointer (some ⟨pb + 1, 0, none⟩)) B b _ _ x.name (x.args.map printB) (fun _ _ => by kernel_rfl) HBX.out HW.out.1 (by have := HLN.out; omega) (by rw [List.length_map]; exact HN.out) (tuple1_tells x S B b pb (pb + 1) ga gc _ hS HBX.out hg HTX.out (RepLG.on (fun _ h => h) (fun k hk => (HWB.out.mono hB).block k (hS k hk)) HL.out) Q1.out Q2.out N1.out N2.out)
 rw [List.length_map] at hx
 refine hx.mono ?_
 clear hx
 rintro e w5 ⟨rfl, W⟩
 replace HW := Lib.hid (HW.out.trans W); clear W
 have c0 := kept_cell (i := 0) HW.out.2.2 Q1.out (by decide) N1.out _ rfl
 have d0 := kept_cell (i := 0) HW.out.2.2 Q2.out (by decide) N2.out _ rfl
 have d1 := kept_cell (i := 1) HW.out.2.2 Q2.out (by decide) N2.out _ rfl
 go_wp2_with fail
 refine (pw.wbyte B b _ 46 _ HW.out.1 (by have := HLN.out; simp only [List.length_append]; omega) (Nat.le_trans HBX.out HW.out.2.1.size)).mono ?_
 rintro e w6 ⟨rfl, W⟩
 replace HW := Lib.hid (HW.out.trans W); clear W
 clear c0 d0 d1
 go_wp2_with fail
 go_end0
 refine ⟨rfl, ?_⟩
 have h := W2.out.trans HW.out
 simpa [showFa, List.append_assoc] using h
set_option maxRecDepth 100000 in
set_option maxHeartbeats 4000000 in
theorem wdecl_any (x : De) (S : Nat → Prop) (B b : Nat) (acc : List UInt8) (w : World) (c0 c1 : Value) (_hS : ∀ k, S k → k < B) (hB : B ≤ w.heap.size) (hg : 0 < B) (htab : TabOk w) (hx : RepDe S w x c0 c1)
  (hbu : Lib.IsBuilderF 108 5 B b (Lib.byteCells acc) w) (hlen : acc.length + (showDe x).length ≤ 140737488355328) :
  Calls Tryz.prog 78 #[.pointer (some ⟨b, 0, none⟩), .agg #[c0, c1]] w fun e w' => e = .returned (.tuple #[]) ∧ pw.Wrote B b (acc ++ showDe x) w w' := by
 have HBU := Lib.hid hbu; have HA := Lib.hid hx.2.2.2
 have HLN : Hid (acc.length + 15 + x.name.size + (Lib.itoa x.arity).length ≤ 140737488355328) := by
  show _ ≤ _
  simp only [showDe, List.length_append, List.length_cons, List.length_nil, size_list] at hlen
  omega
 obtain ⟨rfl, rfl, -, -⟩ := hx
 have HTB := Lib.hid htab
 clear htab hbu hlen
 go_enter Tryz.func78, Tryz.ntmps78
 go_wp2_with fail
 have q2 := alloc_new' w (.cells #[.string x.name, .int .i64 x.arity] 57)
 have b2 := below_alloc w (.cells #[.string x.name, .int .i64 x.arity] 57)
 generalize w.alloc (.cells #[.string x.name, .int .i64 x.arity] 57) = w2 at *
 have Q2 := Lib.hid q2
 have W2 := Lib.hid (pw.Wrote.start HBU.out hB b2)
 have N2 : Hid (w.heap.size ≠ b) := by show _ ≠ _; have := builder_lt HBU.out; omega
 have HBX := Lib.hid (Nat.le_trans hB b2.size)
 have HTX := Lib.hid (TabOk.below HTB.out hg (b2.mono hB))
 clear q2 b2
 generalize hpb : w.heap.size = pb at Q2 N2 ⊢
 clear hpb
 have HW : Hid (pw.Wrote B b acc w2 w2) := Lib.hid ⟨W2.out.1, Below.refl _ _, Lib.OthersKept.refl _ _ _⟩
 refine (pw.wstr B b _ ⟨#[109, 97, 116, 101, 114, 105, 97, 108, 105, 122, 101]⟩ _ HW.out.1 (by have := HLN.out; show _ + 11 ≤ _; omega) (Nat.le_trans HBX.out HW.out.2.1.size)).mono ?_
 rintro e w3 ⟨rfl, W⟩
 replace HW := Lib.hid (HW.out.trans W); clear W
 have d0 := kept_cell (i := 0) HW.out.2.2 Q2.out (by decide) N2.out _ rfl
 have d1 := kept_cell (i := 1) HW.out.2.2 Q2.out (by decide) N2.out _ rfl
 go_wp2_with fail
 refine (pw.wbyte B b _ 40 _ HW.out.1 (by have := HLN.out; simp only [List.length_append, List.length_cons, List.length_nil]; show _ + 11 + 1 ≤ _; omega) (Nat.le_trans HBX.out HW.out.2.1.size)).mono ?_
 rintro e w4 ⟨rfl, W⟩
 replace HW := Lib.hid (HW.out.trans W); clear W
 clear d0 d1
 have d0 := kept_cell (i := 0) HW.out.2.2 Q2.out (by decide) N2.out _ rfl
 have d1 := kept_cell (i := 1) HW.out.2.2 Q2.out (by decide) N2.out _ rfl
 go_wp2_with fail
 have QK2 := Lib.hid (kept_block HW.out.2.2 Q2.out (by decide) N2.out)
 have HK := Lib.hid (wrote_drew HW.out.1 (Nat.le_trans HBX.out HW.out.2.1.size))
 go_region_held3 (fun w' => w'.cell? ⟨pb, 0, none⟩ = some (.string x.name) ∧ w'.cell? ⟨pb, 1, none⟩ = some (.int .i64 x.arity))
  (first | exact ⟨kept_cell HK.out.2.2 QK2.out (by decide) N2.out _ rfl, kept_cell HK.out.2.2 QK2.out (by decide) N2.out _ rfl⟩)
  (first
   | (go_at_call 84; refine (pw.wstr B b _ x.name _ HK.out.1 (by have := HLN.out; simp only [List.length_append, List.length_cons, List.length_nil]; show _ + 11 + _ + _ ≤ _; omega) (Nat.le_trans (Nat.le_trans HBX.out HW.out.2.1.size) HK.out.2.1.size)).mono ?_; rintro e w' ⟨rfl, W⟩; replace HK := Lib.hid (HK.out.trans W); clear W))
 replace HW := Lib.hid (HW.out.trans HK.out)
 clear HK QK2
 clear d0 d1
 have d0 := kept_cell (i := 0) HW.out.2.2 Q2.out (by decide) N2.out _ rfl
 have d1 := kept_cell (i := 1) HW.out.2.2 Q2.out (by decide) N2.out _ rfl
 go_wp2_with fail
 refine (pw.wbyte B b _ 44 _ HW.out.1 (by have := HLN.out; simp only [List.length_append, List.length_cons, List.length_nil, size_list]; show _ + 11 + _ + _ + _ ≤ _; omega) (Nat.le_trans HBX.out HW.out.2.1.size)).mono ?_
 rintro e w5 ⟨rfl, W⟩
 replace HW := Lib.hid (HW.out.trans W); clear W
 clear d0 d1
 have d0 := kept_cell (i := 0) HW.out.2.2 Q2.out (by decide) N2.out _ rfl
 have d1 := kept_cell (i := 1) HW.out.2.2 Q2.out (by decide) N2.out _ rfl
 go_wp2_with fail
 have QK2 := Lib.hid (kept_block HW.out.2.2 Q2.out (by decide) N2.out)
 have HK := Lib.hid (wrote_drew HW.out.1 (Nat.le_trans HBX.out HW.out.2.1.size))
 go_region_held3 (fun w' => w'.cell? ⟨pb, 0, none⟩ = some (.string x.name) ∧ w'.cell? ⟨pb, 1, none⟩ = some (.int .i64 x.arity))
  (first | exact ⟨kept_cell HK.out.2.2 QK2.out (by decide) N2.out _ rfl, kept_cell HK.out.2.2 QK2.out (by decide) N2.out _ rfl⟩)
  (first
   | (go_at_call 107; refine (Tryz.strconv_Itoa x.arity HA.out.1 HA.out.2 _ (TabOk.below HTX.out hg (HW.out.2.1.trans HK.out.2.1))).mono ?_; rintro e w' ⟨rfl, kk, os, rfl⟩; replace HK := Lib.hid (HK.out.trans (pw.Wrote.start HK.out.1 (Nat.le_trans (Nat.le_trans HBX.out HW.out.2.1.size) HK.out.2.1.size) (stands_grow _ kk os))); generalize Sort.grow _ os = w' at *)
   | (go_at_call 84; refine (pw.wstr B b _ ⟨(Lib.itoa x.arity).toArray⟩ _ HK.out.1 (by have := HLN.out; rw [size_mk]; simp only [List.length_append, List.length_cons, List.length_nil, size_list]; show _ + 11 + _ + _ + _ + _ ≤ _; omega) (Nat.le_trans (Nat.le_trans HBX.out HW.out.2.1.size) HK.out.2.1.size)).mono ?_; rintro e w' ⟨rfl, W⟩; replace HK := Lib.hid (HK.out.trans W); clear W))
 replace HW := Lib.hid (HW.out.trans HK.out)
 clear HK QK2
 clear d0 d1
 have d0 := kept_cell (i := 0) HW.out.2.2 Q2.out (by decide) N2.out _ rfl
 have d1 := kept_cell (i := 1) HW.out.2.2 Q2.out (by decide) N2.out _ rfl
 go_wp2_with fail
 refine (pw.wstr B b _ ⟨#[41, 46]⟩ _ HW.out.1 (by have := HLN.out; simp only [List.length_append, List.length_cons, List.length_nil, size_list]; show _ + 11 + _ + _ + _ + _ + 2 ≤ _; omega) (Nat.le_trans HBX.out HW.out.2.1.size)).mono ?_
 rintro e w6 ⟨rfl, W⟩
 replace HW := Lib.hid (HW.out.trans W); clear W
 clear d0 d1
 go_wp2_with fail
 go_end0
 refine ⟨rfl, ?_⟩
 have h := W2.out.trans HW.out
 simpa [showDe, List.append_assoc] using h
end Go.Proofs.YtgjemmdhamkngaaGreatDoor
namespace Go.Proofs.YtgjemmdhamkngaaGreatDoor
open Go.RowKit
set_option maxRecDepth 100000 in
theorem function_any (s : ByteArray) (w : World) : Calls Tryz.prog 103 #[.string s] w fun e w' => e = .returned (.bool (fnB s)) ∧ Below w.heap.size w w' := by
 have HF : Hid (decide (0 ≤ fnArity (fnOf s)) = fnB s) := rfl
 go_enter Tryz.func103, Tryz.ntmps103
 go_wp2_with fail
 refine (arity_any s _).mono ?_
 rintro e w1 ⟨rfl, hb⟩
 go_wp2_with fail
 go_ret
 exact ⟨ret_bool HF.out, hb⟩
set_option maxRecDepth 100000 in
theorem relation_any (s : ByteArray) (w : World) (hs : s.size ≤ maxLen) : Calls Tryz.prog 66 #[.string s] w fun e w' => e = .returned (.bool (relB s)) ∧ Below w.heap.size w w' := by
 cases h1 : nameB s with
 | false =>
  have HF : Hid (relB s = false) := by show _ = _; simp [relB, h1]
  have H1 := Lib.hid h1; clear h1
  go_enter Tryz.func66, Tryz.ntmps66
  go_wp2_with fail
  refine (name_any s _ hs).mono ?_
  rw [H1.out]
  rintro e w1 ⟨rfl, hb⟩
  go_wp2_with fail
  go_ret
  exact ⟨ret_bool HF.out.symm, hb⟩
 | true =>
 cases h2 : fnB s with
 | true =>
  have HF : Hid (relB s = false) := by show _ = _; simp [relB, h1, h2]
  have H1 := Lib.hid h1; have H2 := Lib.hid h2; clear h1 h2
  go_enter Tryz.func66, Tryz.ntmps66
  go_wp2_with fail
  refine (name_any s _ hs).mono ?_
  rw [H1.out]
  rintro e w1 ⟨rfl, hb⟩
  go_wp2_with fail
  refine (function_any s _).mono ?_
  rw [H2.out]
  rintro e w2 ⟨rfl, hb2⟩
  go_wp2_with fail
  go_ret
  exact ⟨ret_bool HF.out.symm, Below.step hb hb2⟩
 | false =>
 cases h3 : declB s
 all_goals
  have HF := Lib.hid (show relB s = (!declB s) by simp [relB, h1, h2])
  have HF' := HF.out
  rw [h3] at HF'
  have HG := Lib.hid HF'
  have H1 := Lib.hid h1; have H2 := Lib.hid h2; unfold declB at h3; clear h1 h2 HF HF'
  go_enter Tryz.func66, Tryz.ntmps66
  go_wp2_with fail
  refine (name_any s _ hs).mono ?_
  rw [H1.out]
  rintro e w1 ⟨rfl, hb⟩
  go_wp2_with fail
  refine (function_any s _).mono ?_
  rw [H2.out]
  rintro e w2 ⟨rfl, hb2⟩
  go_wp2_with fail
  go_ret
  exact ⟨ret_bool HG.out.symm, Below.step hb hb2⟩
theorem isEmpty_len {α : Type} (l : List α) : l.isEmpty = ((l.length : Int) == 0) := by
 cases l with
 | nil => rfl
 | cons x l => symm; rw [beq_eq_false_iff_ne.2 (by simp; omega)]; rfl
set_option maxRecDepth 100000 in
theorem nothing_any (x : V) (S : Nat → Prop) (w : World) (c0 c1 c2 c3 : Value) (hx : RepG S w x c0 c1 c2 c3) : Calls Tryz.prog 114 #[.agg #[c0, c1, c2, c3]] w fun e w' => e = .returned (.bool (noneB x)) ∧ Below w.heap.size w w' := by
 obtain ⟨fa, fc, rfl, rfl, rfl, rfl⟩ := hx.form
 clear hx
 cases h0 : (x.kind == 0) with
 | false =>
  have HF : Hid (noneB x = false) := by show _ = _; simp only [noneB, h0, Bool.false_and]
  go_enter Tryz.func114, Tryz.ntmps114
  go_wp2_with fail
  go_ret
  exact ⟨ret_bool HF.out.symm, below_alloc _ _⟩
 | true =>
 cases h1 : (x.num == 0) with
 | false =>
  have HF : Hid (noneB x = false) := by show _ = _; simp only [noneB, h0, h1, Bool.false_and, Bool.true_and]
  go_enter Tryz.func114, Tryz.ntmps114
  go_wp2_with fail
  go_ret
  exact ⟨ret_bool HF.out.symm, below_alloc _ _⟩
 | true =>
 cases h2 : (x.text.toList.isEmpty) with
 | false =>
  have HF : Hid (noneB x = false) := by show _ = _; simp only [noneB, h0, h1, h2, Bool.false_and, Bool.true_and]
  go_enter Tryz.func114, Tryz.ntmps114
  go_wp2_with fail
  go_ret
  exact ⟨ret_bool HF.out.symm, below_alloc _ _⟩
 | true =>
 have h3 := isEmpty_len x.list
 cases h4 : ((x.list.length : Int) == 0) with
 | false =>
  have HF : Hid (noneB x = false) := by show _ = _; simp only [noneB, h0, h1, h2, h3, h4, Bool.true_and]
  clear h3
  go_enter Tryz.func114, Tryz.ntmps114
  go_wp2_with fail
  go_ret
  exact ⟨ret_bool HF.out.symm, below_alloc _ _⟩
 | true =>
  have HF : Hid (noneB x = true) := by show _ = _; simp only [noneB, h0, h1, h2, h3, h4, Bool.true_and]
  clear h3
  go_enter Tryz.func114, Tryz.ntmps114
  go_wp2_with fail
  go_ret
  exact ⟨ret_bool HF.out.symm, below_alloc _ _⟩
set_option maxRecDepth 100000 in
theorem rightValue_any (x : V) (S : Nat → Prop) (w : World) (c0 c1 c2 c3 : Value) (hS : ∀ k, S k → k < w.heap.size) (hx : RepG S w x c0 c1 c2 c3) : Calls Tryz.prog 115 #[.agg #[c0, c1, c2, c3]] w fun e w' => e = .returned (.bool (valB x)) ∧ Below w.heap.size w w' := by
 have HX := Lib.hid hx
 obtain ⟨fa, fc, rfl, rfl, rfl, rfl⟩ := hx.form
 clear hx
 cases h0 : rightV 4 x with
 | false =>
  have HF : Hid (valB x = false) := by show _ = _; simp only [valB, h0, Bool.false_and]
  have HR := Lib.hid h0; clear h0
  go_enter Tryz.func115, Tryz.ntmps115
  go_wp2_with fail
  have x1 := boxed_new w (.int .i64 x.kind) (.int .i64 x.num) (.string x.text) (.slice fa x.list.length fc)
  have b1 := below_alloc w (.cells #[.int .i64 x.kind, .int .i64 x.num, .string x.text, .slice fa x.list.length fc] 44)
  generalize w.alloc (.cells #[.int .i64 x.kind, .int .i64 x.num, .string x.text, .slice fa x.list.length fc] 44) = w1 at *
  refine (right_any x w1.heap.size w1 _ _ _ _ (Nat.le_refl _) (RepG.on (fun k hk => Nat.lt_of_lt_of_le (hS k hk) b1.size) (fun k hk => b1.block k (hS k hk)) x HX.out)).mono ?_
  rw [HR.out]
  rintro e w2 ⟨rfl, hb2⟩
  obtain ⟨q0, q1, q2, q3⟩ := (x1.on hb2).cells
  go_wp2_with fail
  go_ret
  exact ⟨ret_bool HF.out.symm, Below.step b1 hb2⟩
 | true =>
 cases h1 : (x.kind == 3) with
 | false =>
  have HF : Hid (valB x = true) := by show _ = _; simp only [valB, h0, h1, Bool.false_and, Bool.true_and, Bool.not_false]
  have HR := Lib.hid h0; clear h0
  go_enter Tryz.func115, Tryz.ntmps115
  go_wp2_with fail
  have x1 := boxed_new w (.int .i64 x.kind) (.int .i64 x.num) (.string x.text) (.slice fa x.list.length fc)
  have b1 := below_alloc w (.cells #[.int .i64 x.kind, .int .i64 x.num, .string x.text, .slice fa x.list.length fc] 44)
  generalize w.alloc (.cells #[.int .i64 x.kind, .int .i64 x.num, .string x.text, .slice fa x.list.length fc] 44) = w1 at *
  refine (right_any x w1.heap.size w1 _ _ _ _ (Nat.le_refl _) (RepG.on (fun k hk => Nat.lt_of_lt_of_le (hS k hk) b1.size) (fun k hk => b1.block k (hS k hk)) x HX.out)).mono ?_
  rw [HR.out]
  rintro e w2 ⟨rfl, hb2⟩
  obtain ⟨q0, q1, q2, q3⟩ := (x1.on hb2).cells
  go_wp2_with fail
  go_ret
  exact ⟨ret_bool HF.out.symm, Below.step b1 hb2⟩
 | true =>
 cases h2 : fnB x.text
 all_goals
  have HF := Lib.hid (show valB x = (!fnB x.text) by simp only [valB, h0, h1, Bool.true_and])
  have HF' := HF.out
  rw [h2] at HF'
  have HG := Lib.hid HF'
  have H2 := Lib.hid h2
  have HR := Lib.hid h0; clear h0 h2 HF HF'
  go_enter Tryz.func115, Tryz.ntmps115
  go_wp2_with fail
  have x1 := boxed_new w (.int .i64 x.kind) (.int .i64 x.num) (.string x.text) (.slice fa x.list.length fc)
  have b1 := below_alloc w (.cells #[.int .i64 x.kind, .int .i64 x.num, .string x.text, .slice fa x.list.length fc] 44)
  generalize w.alloc (.cells #[.int .i64 x.kind, .int .i64 x.num, .string x.text, .slice fa x.list.length fc] 44) = w1 at *
  refine (right_any x w1.heap.size w1 _ _ _ _ (Nat.le_refl _) (RepG.on (fun k hk => Nat.lt_of_lt_of_le (hS k hk) b1.size) (fun k hk => b1.block k (hS k hk)) x HX.out)).mono ?_
  rw [HR.out]
  rintro e w2 ⟨rfl, hb2⟩
  obtain ⟨q0, q1, q2, q3⟩ := (x1.on hb2).cells
  go_wp2_with fail
  refine (function_any x.text _).mono ?_
  rw [H2.out]
  rintro e w3 ⟨rfl, hb3⟩
  go_wp2_with fail
  go_ret
  exact ⟨ret_bool HG.out.symm, Below.step (Below.step b1 hb2) hb3⟩
set_option maxRecDepth 100000 in
theorem reckoning_any (s : ByteArray) (w : World) : Calls Tryz.prog 118 #[.string s] w fun e w' => e = .returned (.bool (opB s)) ∧ w = w' := by
 cases h0 : (s.toList == [43]) with
 | true =>
  have HF : Hid (opB s = true) := by show _ = _; simp [opB, h0]
  go_enter Tryz.func118, Tryz.ntmps118
  go_wp2_with fail
  go_ret
  exact ⟨ret_bool HF.out.symm, rfl⟩
 | false =>
 cases h1 : (s.toList == [45]) with
 | true =>
  have HF : Hid (opB s = true) := by show _ = _; simp [opB, h0, h1]
  go_enter Tryz.func118, Tryz.ntmps118
  go_wp2_with fail
  go_ret
  exact ⟨ret_bool HF.out.symm, rfl⟩
 | false =>
 cases h2 : (s.toList == [42]) with
 | true =>
  have HF : Hid (opB s = true) := by show _ = _; simp [opB, h0, h1, h2]
  go_enter Tryz.func118, Tryz.ntmps118
  go_wp2_with fail
  go_ret
  exact ⟨ret_bool HF.out.symm, rfl⟩
 | false =>
  have HF : Hid (opB s = false) := by show _ = _; simp only [opB, h0, h1, h2, Bool.false_or]
  go_enter Tryz.func118, Tryz.ntmps118
  go_wp2_with fail
  go_ret
  exact ⟨ret_bool HF.out.symm, rfl⟩
set_option maxRecDepth 100000 in
theorem comparing_any (s : ByteArray) (w : World) : Calls Tryz.prog 90 #[.string s] w fun e w' => e = .returned (.bool (cmpB s)) ∧ w = w' := by
 cases h0 : (s.toList == [61, 61]) with
 | true =>
  have HF : Hid (cmpB s = true) := by show _ = _; simp [cmpB, h0]
  go_enter Tryz.func90, Tryz.ntmps90
  go_wp2_with fail
  go_ret
  exact ⟨ret_bool HF.out.symm, rfl⟩
 | false =>
 cases h1 : (s.toList == [33, 61]) with
 | true =>
  have HF : Hid (cmpB s = true) := by show _ = _; simp [cmpB, h0, h1]
  go_enter Tryz.func90, Tryz.ntmps90
  go_wp2_with fail
  go_ret
  exact ⟨ret_bool HF.out.symm, rfl⟩
 | false =>
 cases h2 : (s.toList == [60]) with
 | true =>
  have HF : Hid (cmpB s = true) := by show _ = _; simp [cmpB, h0, h1, h2]
  go_enter Tryz.func90, Tryz.ntmps90
  go_wp2_with fail
  go_ret
  exact ⟨ret_bool HF.out.symm, rfl⟩
 | false =>
 cases h3 : (s.toList == [60, 61]) with
 | true =>
  have HF : Hid (cmpB s = true) := by show _ = _; simp [cmpB, h0, h1, h2, h3]
  go_enter Tryz.func90, Tryz.ntmps90
  go_wp2_with fail
  go_ret
  exact ⟨ret_bool HF.out.symm, rfl⟩
 | false =>
 cases h4 : (s.toList == [62]) with
 | true =>
  have HF : Hid (cmpB s = true) := by show _ = _; simp [cmpB, h0, h1, h2, h3, h4]
  go_enter Tryz.func90, Tryz.ntmps90
  go_wp2_with fail
  go_ret
  exact ⟨ret_bool HF.out.symm, rfl⟩
 | false =>
 cases h5 : (s.toList == [62, 61]) with
 | true =>
  have HF : Hid (cmpB s = true) := by show _ = _; simp [cmpB, h0, h1, h2, h3, h4, h5]
  go_enter Tryz.func90, Tryz.ntmps90
  go_wp2_with fail
  go_ret
  exact ⟨ret_bool HF.out.symm, rfl⟩
 | false =>
  have HF : Hid (cmpB s = false) := by show _ = _; simp only [cmpB, h0, h1, h2, h3, h4, h5, Bool.false_or]
  go_enter Tryz.func90, Tryz.ntmps90
  go_wp2_with fail
  go_ret
  exact ⟨ret_bool HF.out.symm, rfl⟩
set_option maxRecDepth 100000 in
theorem place_any (t : Tm) (S : Nat → Prop) (w : World) (c0 c1 c2 c3 c4 c5 c6 : Value) (ht : RepM S w t c0 c1 c2 c3 c4 c5 c6) : Calls Tryz.prog 105 #[.agg #[c0, c1, c2, c3, c4, c5, c6]] w fun e w' => e = .returned (.bool (placeB t)) ∧ Below w.heap.size w w' := by
 obtain ⟨fa, fc, ga, gc, rfl, rfl, rfl, rfl, rfl, rfl, rfl⟩ := ht.form
 clear ht
 cases h0 : (t.kind == 1) with
 | true =>
  have HF : Hid (placeB t = true) := by show _ = _; simp only [placeB, h0, Bool.true_or]
  go_enter Tryz.func105, Tryz.ntmps105
  go_wp2_with fail
  go_ret
  exact ⟨ret_bool HF.out.symm, below_alloc _ _⟩
 | false =>
 cases h1 : (t.kind == 2) with
 | false =>
  have HF : Hid (placeB t = false) := by show _ = _; simp only [placeB, h0, h1, Bool.false_or, Bool.false_and]
  go_enter Tryz.func105, Tryz.ntmps105
  go_wp2_with fail
  go_ret
  exact ⟨ret_bool HF.out.symm, below_alloc _ _⟩
 | true =>
 cases h2 : (t.val.kind == 3) with
 | false =>
  have HF : Hid (placeB t = false) := by show _ = _; simp only [placeB, h0, h1, h2, Bool.false_or, Bool.and_false]
  go_enter Tryz.func105, Tryz.ntmps105
  go_wp2_with fail
  go_ret
  exact ⟨ret_bool HF.out.symm, below_alloc _ _⟩
 | true =>
  have HF : Hid (placeB t = true) := by show _ = _; simp only [placeB, h0, h1, h2, Bool.false_or, Bool.true_and]
  go_enter Tryz.func105, Tryz.ntmps105
  go_wp2_with fail
  go_ret
  exact ⟨ret_bool HF.out.symm, below_alloc _ _⟩
end Go.Proofs.YtgjemmdhamkngaaGreatDoor
