/-
  WLiteral
-/
import Derived.Test.YtcmlojigcgihbaaGreatDoorKR35
import Derived.Test.YtcmlojigcgihbaaGreatDoorKR04
namespace Go.Proofs.YtcmlojigcgihbaaGreatDoor
open Go.RowKit
theorem data_two (s : ByteArray) : ((⟨#[32]⟩ : ByteArray) ++ s ++ (⟨#[32]⟩ : ByteArray)).data.toList = 32 :: (s.data.toList ++ [32]) := by
 simp
theorem cmpB_size {s : ByteArray} (h : cmpB s = true) : s.size ≤ 2 := by
 have e : s.toList.length = s.size := by simp [Lib.toList_data]
 unfold cmpB at h;simp only [Bool.or_eq_true, beq_iff_eq] at h
 rcases h with h | h | h | h | h | h <;> (rw [← e, h]; decide)
def WLiAt (x : Li) : Prop := ∀ (S : Nat → Prop) (B b : Nat) (acc : List UInt8) (w : World) (c0 c1 c2 : Value), (∀ k, S k → k < B) → B ≤ w.heap.size → 0 < B → TabOk w → RepLi S w x c0 c1 c2 →
 Lib.IsBuilderF 149 5 B b (Lib.byteCells acc) w → acc.length + (showLi x).length ≤ 140737488355328 →
 Calls Tryz.prog 115 #[.pointer (some ⟨b, 0, none⟩), .agg #[c0, c1, c2]] w fun e w' => e = .returned (.tuple #[]) ∧ pw.Wrote B b (acc ++ showLi x) w w'
set_option maxRecDepth 100000 in
set_option maxHeartbeats 4000000 in
theorem wliteral_any (x : Li) (hx : liB x = true) : WLiAt x := by
 intro S B b acc w c0 c1 c2 hS hB hg htab ht hbu hlen;have HL := Lib.hid ht.2.2.2.2; have HTB := Lib.hid htab; have HBU := Lib.hid hbu; have HNS := Lib.hid ht.2.2.2.1
 have HN : Hid (x.args.length ≤ 140737488355328) := by show _ ≤ _; have := SlG.bytes ht.2.2.2.2; omega
 have HSM : Hid (x.args.length * 104 ≤ 140737488355328) := SlG.bytes ht.2.2.2.2;obtain ⟨ga, gc, rfl, rfl, rfl⟩ := ht.form;have HLEN := Lib.hid hlen; have HRX := Lib.hid hx
 clear ht htab hbu hlen hx
 by_cases e1 : x.kind = 1
 ·have HF : Hid (showLi x = showAtom x.name (x.args.map showM)) := by show _ = _; rw [showLi, if_pos e1]
  have HLN : Hid (acc.length + (showAtom x.name (x.args.map showM)).length ≤ 140737488355328) := by show _ ≤ _; have h := HLEN.out; rw [HF.out] at h; exact h
  have k1 : (x.kind == 1) = true := by simp [e1]
  clear e1 HLEN;go_enter Tryz.func115, Tryz.ntmps115
  go_wp2_with fail
  have q1 := alloc_new' w (.cells #[.pointer (some ⟨b, 0, none⟩)] 105);have s1 := World.size_alloc w (.cells #[.pointer (some ⟨b, 0, none⟩)] 105);have b1 := below_alloc w (.cells #[.pointer (some ⟨b, 0, none⟩)] 105);generalize w.alloc (.cells #[.pointer (some ⟨b, 0, none⟩)] 105) = w1 at *;have q2 := alloc_new' w1 (.cells #[.int .i64 x.kind, .string x.name, .slice ga x.args.length gc] 61);have b2 := below_alloc w1 (.cells #[.int .i64 x.kind, .string x.name, .slice ga x.args.length gc] 61);generalize w1.alloc (.cells #[.int .i64 x.kind, .string x.name, .slice ga x.args.length gc] 61) = w2 at *;rw [s1] at q2;have Q1 := Lib.hid ((b2.block w.heap.size (by omega)).trans q1); have Q2 := Lib.hid q2
  have W2 := Lib.hid (pw.Wrote.start HBU.out hB (Below.step b1 b2));have N1 : Hid (w.heap.size ≠ b) := by show _ ≠ _; have := builder_lt HBU.out; omega
  have N2 : Hid (w.heap.size + 1 ≠ b) := by show _ ≠ _; have := builder_lt HBU.out; omega
  have HWB := Lib.hid (Below.step b1 b2);clear q1 q2 b1 b2 s1;generalize hpb : w.heap.size = pb at Q1 Q2 N1 N2 ⊢;clear hpb;have HW : Hid (pw.Wrote B b acc w2 w2) := Lib.hid ⟨W2.out.1, Below.refl _ _, Lib.OthersKept.refl _ _ _⟩;have hx := watom_any 146 (.pointer (some ⟨pb, 0, none⟩)) (.pointer (some ⟨pb + 1, 0, none⟩)) B b _ _ x.name (x.args.map showM) (fun _ _ => by kernel_rfl) (Nat.le_trans (Nat.le_trans hB HWB.out.size) HW.out.2.1.size) HW.out.1 (HLN.out) (by rw [List.length_map]; exact HN.out) (literal1_tells x.args (fun y _ => wterm_any y) S B b pb (pb + 1) ga gc _ _ hS (Nat.le_trans (Nat.le_trans hB HWB.out.size) HW.out.2.1.size) hg (TabOk.below HTB.out hg ((HWB.out.mono hB).trans HW.out.2.1)) (RepMs.on (fun _ h => h) (fun k hk => ((HWB.out.mono hB).trans HW.out.2.1).block k (hS k hk)) HL.out) (kept_block HW.out.2.2 Q1.out (by decide) N1.out) (kept_block HW.out.2.2 Q2.out (by decide) N2.out) rfl N1.out N2.out);rw [List.length_map] at hx;refine hx.mono ?_;clear hx;rintro e w5 ⟨rfl, W⟩;replace HW := Lib.hid (HW.out.trans W); clear W
  go_wp2_with fail
  go_end0
  refine ⟨rfl, ?_⟩;rw [HF.out];have h := W2.out.trans HW.out
  simpa [List.append_assoc] using h
 have k1 : (x.kind == 1) = false := by simp [e1]
 by_cases e2 : x.kind = 2
 ·have HF : Hid (showLi x = 33 :: showAtom x.name (x.args.map showM)) := by show _ = _; rw [showLi, if_neg e1, if_pos e2]
  have HLN : Hid (acc.length + 1 + (showAtom x.name (x.args.map showM)).length ≤ 140737488355328) := by show _ ≤ _; have h := HLEN.out; rw [HF.out, List.length_cons] at h; omega
  have k2 : (x.kind == 2) = true := by simp [e2]
  clear e1 e2 HLEN;go_enter Tryz.func115, Tryz.ntmps115
  go_wp2_with fail
  have q1 := alloc_new' w (.cells #[.pointer (some ⟨b, 0, none⟩)] 105);have s1 := World.size_alloc w (.cells #[.pointer (some ⟨b, 0, none⟩)] 105);have b1 := below_alloc w (.cells #[.pointer (some ⟨b, 0, none⟩)] 105);generalize w.alloc (.cells #[.pointer (some ⟨b, 0, none⟩)] 105) = w1 at *;have q2 := alloc_new' w1 (.cells #[.int .i64 x.kind, .string x.name, .slice ga x.args.length gc] 61);have b2 := below_alloc w1 (.cells #[.int .i64 x.kind, .string x.name, .slice ga x.args.length gc] 61);generalize w1.alloc (.cells #[.int .i64 x.kind, .string x.name, .slice ga x.args.length gc] 61) = w2 at *;rw [s1] at q2;have Q1 := Lib.hid ((b2.block w.heap.size (by omega)).trans q1); have Q2 := Lib.hid q2
  have W2 := Lib.hid (pw.Wrote.start HBU.out hB (Below.step b1 b2));have N1 : Hid (w.heap.size ≠ b) := by show _ ≠ _; have := builder_lt HBU.out; omega
  have N2 : Hid (w.heap.size + 1 ≠ b) := by show _ ≠ _; have := builder_lt HBU.out; omega
  have HWB := Lib.hid (Below.step b1 b2);clear q1 q2 b1 b2 s1;generalize hpb : w.heap.size = pb at Q1 Q2 N1 N2 ⊢;clear hpb;have HW : Hid (pw.Wrote B b acc w2 w2) := Lib.hid ⟨W2.out.1, Below.refl _ _, Lib.OthersKept.refl _ _ _⟩;refine (pw.wbyte B b _ 33 _ HW.out.1 (by have := HLN.out; omega) (Nat.le_trans (Nat.le_trans hB HWB.out.size) HW.out.2.1.size)).mono ?_;rintro e w4 ⟨rfl, W⟩;replace HW := Lib.hid (HW.out.trans W); clear W
  have c0 := kept_cell (i := 0) HW.out.2.2 Q1.out (by decide) N1.out _ rfl;have d0 := kept_cell (i := 0) HW.out.2.2 Q2.out (by decide) N2.out _ rfl;have d1 := kept_cell (i := 1) HW.out.2.2 Q2.out (by decide) N2.out _ rfl;have d2 := kept_cell (i := 2) HW.out.2.2 Q2.out (by decide) N2.out _ rfl;go_wp2_with fail
  have hx := watom_any 146 (.pointer (some ⟨pb, 0, none⟩)) (.pointer (some ⟨pb + 1, 0, none⟩)) B b _ _ x.name (x.args.map showM) (fun _ _ => by kernel_rfl) (Nat.le_trans (Nat.le_trans hB HWB.out.size) HW.out.2.1.size) HW.out.1 (by have := HLN.out; simp only [List.length_append, List.length_cons, List.length_nil]; omega) (by rw [List.length_map]; exact HN.out) (literal1_tells x.args (fun y _ => wterm_any y) S B b pb (pb + 1) ga gc _ _ hS (Nat.le_trans (Nat.le_trans hB HWB.out.size) HW.out.2.1.size) hg (TabOk.below HTB.out hg ((HWB.out.mono hB).trans HW.out.2.1)) (RepMs.on (fun _ h => h) (fun k hk => ((HWB.out.mono hB).trans HW.out.2.1).block k (hS k hk)) HL.out) (kept_block HW.out.2.2 Q1.out (by decide) N1.out) (kept_block HW.out.2.2 Q2.out (by decide) N2.out) rfl N1.out N2.out);rw [List.length_map] at hx;refine hx.mono ?_;clear hx;rintro e w5 ⟨rfl, W⟩;replace HW := Lib.hid (HW.out.trans W); clear W
  clear c0 d0 d1 d2;go_wp2_with fail
  go_end0
  refine ⟨rfl, ?_⟩;rw [HF.out];have h := W2.out.trans HW.out
  simpa [List.append_assoc] using h
 have k2 : (x.kind == 2) = false := by simp [e2]
 by_cases e3 : x.kind = 3
 ·have HF : Hid (showLi x = sepL (32 :: (x.name.data.toList ++ [32])) (x.args.map showM)) := by show _ = _; rw [showLi, if_neg e1, if_neg e2, if_pos e3]
  have HLN : Hid (acc.length + (sepL (32 :: (x.name.data.toList ++ [32])) (x.args.map showM)).length ≤ 140737488355328) := by show _ ≤ _; have h := HLEN.out; rw [HF.out] at h; exact h
  have k3 : (x.kind == 3) = true := by simp [e3]
  have hcz : x.name.size ≤ 2 := by
   have h := HRX.out;rw [liB, if_neg e1, if_neg e2, if_pos e3, Bool.and_eq_true] at h;exact cmpB_size h.1
  clear e1 e2 e3 HLEN;go_enter Tryz.func115, Tryz.ntmps115
  go_wp2_with fail
  have q1 := alloc_new' w (.cells #[.pointer (some ⟨b, 0, none⟩)] 105);have s1 := World.size_alloc w (.cells #[.pointer (some ⟨b, 0, none⟩)] 105);have b1 := below_alloc w (.cells #[.pointer (some ⟨b, 0, none⟩)] 105);generalize w.alloc (.cells #[.pointer (some ⟨b, 0, none⟩)] 105) = w1 at *;have q2 := alloc_new' w1 (.cells #[.int .i64 x.kind, .string x.name, .slice ga x.args.length gc] 61);have b2 := below_alloc w1 (.cells #[.int .i64 x.kind, .string x.name, .slice ga x.args.length gc] 61);generalize w1.alloc (.cells #[.int .i64 x.kind, .string x.name, .slice ga x.args.length gc] 61) = w2 at *;rw [s1] at q2;have Q1 := Lib.hid ((b2.block w.heap.size (by omega)).trans q1); have Q2 := Lib.hid q2
  have W2 := Lib.hid (pw.Wrote.start HBU.out hB (Below.step b1 b2));have N1 : Hid (w.heap.size ≠ b) := by show _ ≠ _; have := builder_lt HBU.out; omega
  have N2 : Hid (w.heap.size + 1 ≠ b) := by show _ ≠ _; have := builder_lt HBU.out; omega
  have HWB := Lib.hid (Below.step b1 b2);clear q1 q2 b1 b2 s1;generalize hpb : w.heap.size = pb at Q1 Q2 N1 N2 ⊢;clear hpb;have HW : Hid (pw.Wrote B b acc w2 w2) := Lib.hid ⟨W2.out.1, Below.refl _ _, Lib.OthersKept.refl _ _ _⟩;have hx := wlist_any 146 (.pointer (some ⟨pb, 0, none⟩)) (.pointer (some ⟨pb + 1, 0, none⟩)) B b _ _ ((⟨#[32]⟩ : ByteArray) ++ x.name ++ (⟨#[32]⟩ : ByteArray)) (x.args.map showM) (fun _ _ => by kernel_rfl) (Nat.le_trans (Nat.le_trans hB HWB.out.size) HW.out.2.1.size) HW.out.1 (by rw [data_two]; exact HLN.out) (by rw [List.length_map]; exact HN.out) (literal1_tells x.args (fun y _ => wterm_any y) S B b pb (pb + 1) ga gc _ _ hS (Nat.le_trans (Nat.le_trans hB HWB.out.size) HW.out.2.1.size) hg (TabOk.below HTB.out hg ((HWB.out.mono hB).trans HW.out.2.1)) (RepMs.on (fun _ h => h) (fun k hk => ((HWB.out.mono hB).trans HW.out.2.1).block k (hS k hk)) HL.out) (kept_block HW.out.2.2 Q1.out (by decide) N1.out) (kept_block HW.out.2.2 Q2.out (by decide) N2.out) rfl N1.out N2.out);rw [List.length_map] at hx;refine hx.mono ?_;clear hx;rintro e w5 ⟨rfl, W⟩;replace HW := Lib.hid (HW.out.trans W); clear W
  rw [data_two] at HW;go_wp2_with fail
  go_end0
  refine ⟨rfl, ?_⟩;rw [HF.out];have h := W2.out.trans HW.out
  simpa [List.append_assoc] using h
 have k3 : (x.kind == 3) = false := by simp [e3]
 by_cases e4 : x.kind = 4
 ·have hpos : 0 < x.args.length := by
   have h := HRX.out;rw [liB, if_neg e1, if_neg e2, if_neg e3, if_pos e4, Bool.and_eq_true] at h;obtain ⟨h1, -, -⟩ := listB_bounds h.2;omega
  have HF : Hid (showLi x = x.name.data.toList ++ (32 :: 58 :: 61 :: 32 :: showM x.args[0])) := by
   show _ = _
   rw [showLi, if_neg e1, if_neg e2, if_neg e3, if_pos e4, List.head?_map, List.head?_eq_getElem?, List.getElem?_eq_getElem hpos];rfl
  have HLN : Hid (acc.length + x.name.size + 4 + (showM x.args[0]).length ≤ 140737488355328) := by show _ ≤ _; have h := HLEN.out; rw [HF.out] at h; simp only [List.length_append, List.length_cons, size_list] at h; omega
  have k4 : (x.kind == 4) = true := by simp [e4]
  clear e1 e2 e3 e4 HLEN;go_enter Tryz.func115, Tryz.ntmps115
  go_wp2_with fail
  have q1 := alloc_new' w (.cells #[.pointer (some ⟨b, 0, none⟩)] 105);have s1 := World.size_alloc w (.cells #[.pointer (some ⟨b, 0, none⟩)] 105);have b1 := below_alloc w (.cells #[.pointer (some ⟨b, 0, none⟩)] 105);generalize w.alloc (.cells #[.pointer (some ⟨b, 0, none⟩)] 105) = w1 at *;have q2 := alloc_new' w1 (.cells #[.int .i64 x.kind, .string x.name, .slice ga x.args.length gc] 61);have b2 := below_alloc w1 (.cells #[.int .i64 x.kind, .string x.name, .slice ga x.args.length gc] 61);generalize w1.alloc (.cells #[.int .i64 x.kind, .string x.name, .slice ga x.args.length gc] 61) = w2 at *;rw [s1] at q2;have Q1 := Lib.hid ((b2.block w.heap.size (by omega)).trans q1); have Q2 := Lib.hid q2
  have W2 := Lib.hid (pw.Wrote.start HBU.out hB (Below.step b1 b2));have N1 : Hid (w.heap.size ≠ b) := by show _ ≠ _; have := builder_lt HBU.out; omega
  have N2 : Hid (w.heap.size + 1 ≠ b) := by show _ ≠ _; have := builder_lt HBU.out; omega
  have HWB := Lib.hid (Below.step b1 b2);clear q1 q2 b1 b2 s1;generalize hpb : w.heap.size = pb at Q1 Q2 N1 N2 ⊢;clear hpb;have HW : Hid (pw.Wrote B b acc w2 w2) := Lib.hid ⟨W2.out.1, Below.refl _ _, Lib.OthersKept.refl _ _ _⟩;have QK1 := Lib.hid (kept_block HW.out.2.2 Q1.out (by decide) N1.out); have QK2 := Lib.hid (kept_block HW.out.2.2 Q2.out (by decide) N2.out)
  have HK := Lib.hid (wrote_drew HW.out.1 (Nat.le_trans hB HWB.out.size))
  go_region_held3 (fun w' => w'.cell? ⟨pb, 0, none⟩ = some (.pointer (some ⟨b, 0, none⟩)) ∧ w'.cell? ⟨pb + 1, 0, none⟩ = some (.int .i64 x.kind) ∧ w'.cell? ⟨pb + 1, 1, none⟩ = some (.string x.name) ∧ w'.cell? ⟨pb + 1, 2, none⟩ = some (.slice ga x.args.length gc))
   (first | exact ⟨kept_cell HK.out.2.2 QK1.out (by decide) N1.out _ rfl, kept_cell HK.out.2.2 QK2.out (by decide) N2.out _ rfl, kept_cell HK.out.2.2 QK2.out (by decide) N2.out _ rfl, kept_cell HK.out.2.2 QK2.out (by decide) N2.out _ rfl⟩)
   (first
    | (go_at_call 110; refine (pw.wstr B b _ x.name _ HK.out.1 (by have := HLN.out; omega) (Nat.le_trans (Nat.le_trans hB HWB.out.size) HK.out.2.1.size)).mono ?_; rintro e w' ⟨rfl, W⟩; replace HK := Lib.hid (HK.out.trans W); clear W))
  replace HW := Lib.hid (HW.out.trans HK.out);clear HK QK1 QK2;have c0 := kept_cell (i := 0) HW.out.2.2 Q1.out (by decide) N1.out _ rfl;have d0 := kept_cell (i := 0) HW.out.2.2 Q2.out (by decide) N2.out _ rfl;have d1 := kept_cell (i := 1) HW.out.2.2 Q2.out (by decide) N2.out _ rfl;have d2 := kept_cell (i := 2) HW.out.2.2 Q2.out (by decide) N2.out _ rfl;go_wp2_with fail
  refine (pw.wstr B b _ ⟨#[32, 58, 61, 32]⟩ _ HW.out.1 (by have := HLN.out; simp only [List.length_append, size_list]; show _ + 4 ≤ _; omega) (Nat.le_trans (Nat.le_trans hB HWB.out.size) HW.out.2.1.size)).mono ?_;rintro e w5 ⟨rfl, W⟩;replace HW := Lib.hid (HW.out.trans W); clear W
  clear c0 d0 d1 d2;have hA := (RepMs.on (fun _ h => h) (fun k hk => ((HWB.out.mono hB).trans HW.out.2.1).block k (hS k hk)) HL.out : RepMs S w5 x.args (.slice ga x.args.length gc));obtain ⟨-, hcap, lb, lo, ea, ec, ia, ic, hga, hSb, g0, g1, g2, g3, g4, g5, g6, g⟩ := RepMs.at hA 0 hpos;subst hga;simp only [Nat.zero_mul, Nat.add_zero] at g0 g1 g2 g3 g4 g5 g6
  have hbl : lb < B := hS lb hSb;have G := Lib.hid g;have hp1 : (0 : Int) < (x.args.length : Int) := by omega
  clear g hA;generalize x.args[0] = z at *;have c0 := kept_cell (i := 0) HW.out.2.2 Q1.out (by decide) N1.out _ rfl;have d0 := kept_cell (i := 0) HW.out.2.2 Q2.out (by decide) N2.out _ rfl;have d1 := kept_cell (i := 1) HW.out.2.2 Q2.out (by decide) N2.out _ rfl;have d2 := kept_cell (i := 2) HW.out.2.2 Q2.out (by decide) N2.out _ rfl;go_wp2_with fail
  have QK1 := Lib.hid (kept_block HW.out.2.2 Q1.out (by decide) N1.out); have QK2 := Lib.hid (kept_block HW.out.2.2 Q2.out (by decide) N2.out)
  have HK := Lib.hid (wrote_drew HW.out.1 (Nat.le_trans (Nat.le_trans hB HWB.out.size) HW.out.2.1.size))
  go_region_held3 (fun w' => w'.cell? ⟨pb, 0, none⟩ = some (.pointer (some ⟨b, 0, none⟩)) ∧ w'.cell? ⟨pb + 1, 0, none⟩ = some (.int .i64 x.kind) ∧ w'.cell? ⟨pb + 1, 1, none⟩ = some (.string x.name) ∧ w'.cell? ⟨pb + 1, 2, none⟩ = some (.slice (some ⟨lb, lo, none⟩) x.args.length gc) ∧ w'.cell? ⟨lb, lo, none⟩ = some (.int .i64 z.kind) ∧ w'.cell? ⟨lb, lo + 1, none⟩ = some (.string z.name) ∧ w'.cell? ⟨lb, lo + 2, none⟩ = some (.int .i64 z.val.kind) ∧ w'.cell? ⟨lb, lo + 3, none⟩ = some (.int .i64 z.val.num) ∧ w'.cell? ⟨lb, lo + 4, none⟩ = some (.string z.val.text) ∧ w'.cell? ⟨lb, lo + 5, none⟩ = some (.slice ea z.val.list.length ec) ∧ w'.cell? ⟨lb, lo + 6, none⟩ = some (.slice ia z.args.length ic))
   (first | exact ⟨kept_cell HK.out.2.2 QK1.out (by decide) N1.out _ rfl, kept_cell HK.out.2.2 QK2.out (by decide) N2.out _ rfl, kept_cell HK.out.2.2 QK2.out (by decide) N2.out _ rfl, kept_cell HK.out.2.2 QK2.out (by decide) N2.out _ rfl, (HK.out.2.1.cell (p := ⟨lb, lo, none⟩) (by exact hbl)).trans g0, (HK.out.2.1.cell (p := ⟨lb, lo + 1, none⟩) (by exact hbl)).trans g1, (HK.out.2.1.cell (p := ⟨lb, lo + 2, none⟩) (by exact hbl)).trans g2, (HK.out.2.1.cell (p := ⟨lb, lo + 3, none⟩) (by exact hbl)).trans g3, (HK.out.2.1.cell (p := ⟨lb, lo + 4, none⟩) (by exact hbl)).trans g4, (HK.out.2.1.cell (p := ⟨lb, lo + 5, none⟩) (by exact hbl)).trans g5, (HK.out.2.1.cell (p := ⟨lb, lo + 6, none⟩) (by exact hbl)).trans g6⟩)
   (first
    | (go_at_call 145; refine (wterm_any z S B b _ _ _ _ _ _ _ _ _ hS (Nat.le_trans (Nat.le_trans (Nat.le_trans hB HWB.out.size) HW.out.2.1.size) HK.out.2.1.size) hg (TabOk.below HTB.out hg (((HWB.out.mono hB).trans HW.out.2.1).trans HK.out.2.1)) (RepM.on (fun _ h => h) (fun k hk => HK.out.2.1.block k (hS k hk)) _ G.out) HK.out.1 (by have := HLN.out; simp only [List.length_append, size_list]; show _ + 4 + _ ≤ _; omega)).mono ?_; rintro e w' ⟨rfl, W⟩; replace HK := Lib.hid (HK.out.trans W); clear W))
  go_wp2_with fail
  go_end0
  refine ⟨rfl, ?_⟩;rw [HF.out];have h := W2.out.trans (HW.out.trans HK.out)
  simpa [List.append_assoc] using h
 have k4 : (x.kind == 4) = false := by simp [e4]
 have hf := HRX.out;rw [liB, if_neg e1, if_neg e2, if_neg e3, if_neg e4] at hf
 cases hf
end Go.Proofs.YtcmlojigcgihbaaGreatDoor
