/-
  TermLeaf
-/
import Derived.Test.YtjmnnjikmmglpaaKD22
import Derived.Test.YtjmnnjikmmglpaaKD02
import Derived.Test.YtjmnnjikmmglpaaKD20
import Derived.Test.YtjmnnjikmmglpaaKD03
namespace Go.Proofs.Ytjmnnjikmmglpaa
open Go.RowKit
def MadeM (y : Tm) (w : World) (e : Ending) (w' : World) : Prop := ∃ c0 c1 c2 c3 c4 c5 c6, e = .returned (.agg #[c0, c1, c2, c3, c4, c5, c6]) ∧ RepM (fun b => w.heap.size ≤ b ∧ b < w'.heap.size) w' y c0 c1 c2 c3 c4 c5 c6 ∧ Below w.heap.size w w'
def FitTmAt (d : Nat) : Prop := ∀ (x : Tm) (S : Nat → Prop) (w : World) (c0 c1 c2 c3 c4 c5 c6 : Value), (∀ k, S k → k < w.heap.size) → RepM S w x c0 c1 c2 c3 c4 c5 c6 →
 Calls Try.prog 11 #[.agg #[c0, c1, c2, c3, c4, c5, c6], .int .i64 d] w (MadeM (fitTm d x) w)
def set7 (w : World) (b : Nat) (c0 c1 c2 c3 c4 c5 c6 : Value) : World := ((((((w.setCell ⟨b, 0, none⟩ c0).setCell ⟨b, 1, none⟩ c1).setCell ⟨b, 2, none⟩ c2).setCell ⟨b, 3, none⟩ c3).setCell ⟨b, 4, none⟩ c4).setCell ⟨b, 5, none⟩ c5).setCell ⟨b, 6, none⟩ c6
theorem set7_size (w : World) (b : Nat) (c0 c1 c2 c3 c4 c5 c6 : Value) : (set7 w b c0 c1 c2 c3 c4 c5 c6).heap.size = w.heap.size := by simp [set7, World.setCell]
theorem set7_other (w : World) (b : Nat) (c0 c1 c2 c3 c4 c5 c6 : Value) (k : Nat) (h : k ≠ b) : (set7 w b c0 c1 c2 c3 c4 c5 c6).heap[k]? = w.heap[k]? := by
 unfold set7;rw [Below.heap_setCell _ _ _ _ h, Below.heap_setCell _ _ _ _ h, Below.heap_setCell _ _ _ _ h, Below.heap_setCell _ _ _ _ h, Below.heap_setCell _ _ _ _ h, Below.heap_setCell _ _ _ _ h, Below.heap_setCell _ _ _ _ h]
theorem set7_below {w0 w : World} {B b : Nat} (h : Below B w0 w) (hb : B ≤ b) (c0 c1 c2 c3 c4 c5 c6 : Value) : Below B w0 (set7 w b c0 c1 c2 c3 c4 c5 c6) :=
 ((((((h.setCell hb c0).setCell hb c1).setCell hb c2).setCell hb c3).setCell hb c4).setCell hb c5).setCell hb c6
theorem frozen7 {w : World} {b : Nat} {d0 d1 d2 d3 d4 d5 d6 : Value} (h : BoxM w b d0 d1 d2 d3 d4 d5 d6) (i : Nat) : w.frozen? ⟨b, i, none⟩ = false := frozen_of_row w b i _ _ h
set_option maxRecDepth 100000 in
set_option maxHeartbeats 16000000 in
theorem term_one : FitTmAt 1 := by
 intro x S w c0 c1 c2 c3 c4 c5 c6 hS hx;have HS := hS;have HN := Lib.hid hx.bounds.2; have HK1 := Lib.hid hx.bounds.1
 have HV := Lib.hid hx.value; have HL := Lib.hid hx.lst
 obtain ⟨fa, fc, ga, gc, rfl, rfl, rfl, rfl, rfl, rfl, rfl⟩ := hx.form;have HBD := pickZ_bd x.kind 4 (by omega)
 have he : fitTm 1 x = fitLeaf (pickZ x.kind 4 % 2) x.name x.val := by
  cases x; rw [fitTm, if_pos (.inl rfl)]; rfl
 clear hx
 by_cases hp : pickZ x.kind 4 = 0
 ·rw [hp] at he
  have HE : Hid (fitTm 1 x = .mk 1 (varOf x.name) nV []) := he;have HP := Lib.hid hp;clear hp he HBD;go_enter Try.func11, Try.ntmps11
  go_wp2_with fail
  refine (pick4_any x.kind 4 _ HK1.out (by omega) (by omega)).mono ?_;rintro e w' ⟨rfl, rfl⟩;rw [HP.out];have x0 := boxM_new w (.int .i64 x.kind) (.string x.name) (.int .i64 x.val.kind) (.int .i64 x.val.num) (.string x.val.text) (.slice fa x.val.list.length fc) (.slice ga x.args.length gc);have b0 := below_alloc w (.cells #[.int .i64 x.kind, .string x.name, .int .i64 x.val.kind, .int .i64 x.val.num, .string x.val.text, .slice fa x.val.list.length fc, .slice ga x.args.length gc] 30);have s0 := World.size_alloc w (.cells #[.int .i64 x.kind, .string x.name, .int .i64 x.val.kind, .int .i64 x.val.num, .string x.val.text, .slice fa x.val.list.length fc, .slice ga x.args.length gc] 30);generalize w.alloc (.cells #[.int .i64 x.kind, .string x.name, .int .i64 x.val.kind, .int .i64 x.val.num, .string x.val.text, .slice fa x.val.list.length fc, .slice ga x.args.length gc] 30) = w0 at *;have x1 := boxM_new w0 (.int .i64 0) (.string ⟨#[]⟩) (.int .i64 0) (.int .i64 0) (.string ⟨#[]⟩) (.slice none 0 0) (.slice none 0 0);have b1 := below_alloc w0 (.cells #[.int .i64 0, .string ⟨#[]⟩, .int .i64 0, .int .i64 0, .string ⟨#[]⟩, .slice none 0 0, .slice none 0 0] 30);have s1 := World.size_alloc w0 (.cells #[.int .i64 0, .string ⟨#[]⟩, .int .i64 0, .int .i64 0, .string ⟨#[]⟩, .slice none 0 0, .slice none 0 0] 30);generalize w0.alloc (.cells #[.int .i64 0, .string ⟨#[]⟩, .int .i64 0, .int .i64 0, .string ⟨#[]⟩, .slice none 0 0, .slice none 0 0] 30) = w1 at *;rw [s0] at x1 s1;have X1 := Lib.hid (x0.on b1); have R1 := Lib.hid x1; have B1 := Lib.hid (Below.step b0 b1); have HS1 : Hid (w1.heap.size = w.heap.size + 2) := by show _ = _; omega
  clear x0 b0 x1 b1 s0 s1;obtain ⟨p0, p1, p2, p3, p4, p5, p6⟩ := X1.out.cells;go_wp2_with fail
  refine (Variable_any x.name _ HN.out).mono ?_;rintro e w2 ⟨rfl, hb⟩;have R2 := Lib.hid (R1.out.on hb); have B2 := Lib.hid (Below.step B1.out hb)
  clear hb p0 p1 p2 p3 p4 p5 p6;obtain ⟨r0, r1, r2, r3, r4, r5, r6⟩ := R2.out.cells;have z0 := frozen7 R2.out 0; have z1 := frozen7 R2.out 1; have z2 := frozen7 R2.out 2; have z3 := frozen7 R2.out 3; have z4 := frozen7 R2.out 4; have z5 := frozen7 R2.out 5; have z6 := frozen7 R2.out 6
  go_wp2_with fail
  refine bodyPost_ret (v := .agg #[.int .i64 1, .string (varOf x.name), .int .i64 0, .int .i64 0, .string ⟨#[]⟩, .slice none 0 0, .slice none 0 0]) (by simp [results, Try.results11, go_sem, r0, r1, r2, r3, r4, r5, r6]) rfl ?_;rw [HE.out];exact ⟨_, _, _, _, _, _, _, rfl, repM_mk.2 ⟨rfl, rfl, small64 (by omega), Nat.le_trans (varOf_size _) (by decide), zV_rep _ _, slg_nil⟩, set7_below (b := w.heap.size + 1) B2.out (by omega) _ _ _ _ _ _ _⟩
 by_cases hp : pickZ x.kind 4 = 1
 ·rw [hp] at he
  have HE : Hid (fitTm 1 x = .mk 2 ⟨#[]⟩ (fitVal x.val) []) := he;have HP := Lib.hid hp;clear hp he HBD;go_enter Try.func11, Try.ntmps11
  go_wp2_with fail
  refine (pick4_any x.kind 4 _ HK1.out (by omega) (by omega)).mono ?_;rintro e w' ⟨rfl, rfl⟩;rw [HP.out];have x0 := boxM_new w (.int .i64 x.kind) (.string x.name) (.int .i64 x.val.kind) (.int .i64 x.val.num) (.string x.val.text) (.slice fa x.val.list.length fc) (.slice ga x.args.length gc);have b0 := below_alloc w (.cells #[.int .i64 x.kind, .string x.name, .int .i64 x.val.kind, .int .i64 x.val.num, .string x.val.text, .slice fa x.val.list.length fc, .slice ga x.args.length gc] 30);have s0 := World.size_alloc w (.cells #[.int .i64 x.kind, .string x.name, .int .i64 x.val.kind, .int .i64 x.val.num, .string x.val.text, .slice fa x.val.list.length fc, .slice ga x.args.length gc] 30);generalize w.alloc (.cells #[.int .i64 x.kind, .string x.name, .int .i64 x.val.kind, .int .i64 x.val.num, .string x.val.text, .slice fa x.val.list.length fc, .slice ga x.args.length gc] 30) = w0 at *;have x1 := boxM_new w0 (.int .i64 0) (.string ⟨#[]⟩) (.int .i64 0) (.int .i64 0) (.string ⟨#[]⟩) (.slice none 0 0) (.slice none 0 0);have b1 := below_alloc w0 (.cells #[.int .i64 0, .string ⟨#[]⟩, .int .i64 0, .int .i64 0, .string ⟨#[]⟩, .slice none 0 0, .slice none 0 0] 30);have s1 := World.size_alloc w0 (.cells #[.int .i64 0, .string ⟨#[]⟩, .int .i64 0, .int .i64 0, .string ⟨#[]⟩, .slice none 0 0, .slice none 0 0] 30);generalize w0.alloc (.cells #[.int .i64 0, .string ⟨#[]⟩, .int .i64 0, .int .i64 0, .string ⟨#[]⟩, .slice none 0 0, .slice none 0 0] 30) = w1 at *;rw [s0] at x1 s1;have X1 := Lib.hid (x0.on b1); have R1 := Lib.hid x1; have B1 := Lib.hid (Below.step b0 b1); have HS1 : Hid (w1.heap.size = w.heap.size + 2) := by show _ = _; omega
  clear x0 b0 x1 b1 s0 s1;obtain ⟨p0, p1, p2, p3, p4, p5, p6⟩ := X1.out.cells;go_wp2_with fail
  refine (Fit_any x.val w1.heap.size w1 _ _ _ _ (Nat.le_refl _) (RepG.on (fun k hk => by have := HS k hk; have := HS1.out; omega) (fun k hk => B1.out.block k (HS k hk)) x.val HV.out)).mono ?_;rintro e w2 ⟨d0, d1, d2, d3, rfl, hrep, hb⟩;obtain ⟨fa', fc', rfl, rfl, rfl, rfl⟩ := hrep.form;have HR2 := Lib.hid hrep;have hyb := RepG.bounds hrep;have HYB := Lib.hid hyb;have HFV : Hid (fitVal x.val = if (fitV 4 x.val).kind = 3 then .mk 3 (fitV 4 x.val).num (relOf (fitV 4 x.val).text) (fitV 4 x.val).list else fitV 4 x.val) := by show _ = _; rfl
  generalize fitV 4 x.val = y at *;have R2 := Lib.hid (R1.out.on hb); have B2 := Lib.hid (Below.step B1.out hb)
  have HS2 : Hid (w.heap.size + 2 ≤ w2.heap.size) := by show _ ≤ _; have := HS1.out; have := hb.size; omega
  clear hb hrep hyb p0 p1 p2 p3 p4 p5 p6
  by_cases hk : y.kind = 3
  ·have hk' : (y.kind == 3) = true := by simp [hk]
   have HK3 := Lib.hid hk;clear hk;go_wp2_with fail
   have v3 := boxed_new w2 (.int .i64 y.kind) (.int .i64 y.num) (.string y.text) (.slice fa' y.list.length fc');have b3 := below_alloc w2 (.cells #[.int .i64 y.kind, .int .i64 y.num, .string y.text, .slice fa' y.list.length fc'] 28);generalize w2.alloc (.cells #[.int .i64 y.kind, .int .i64 y.num, .string y.text, .slice fa' y.list.length fc'] 28) = w3 at *;generalize hv3 : w2.heap.size = bv at v3 ⊢;have HV3 := Lib.hid hv3;clear hv3;refine (Relation_any y.text _ HYB.out.2.2).mono ?_;rintro e w4 ⟨rfl, hb⟩;have V4 := Lib.hid (v3.on hb);have b4 := Below.step b3 hb;have R4 := Lib.hid (R2.out.on b4); have B4 := Lib.hid (Below.step B2.out b4); have H24 := Lib.hid b4
   have HBV : Hid (bv < w4.heap.size) := V4.out.lt;clear v3 b3 b4 hb;obtain ⟨q0, q1, q2, q3⟩ := V4.out.cells;have y2 := frozen_of_row w4 _ 2 _ _ V4.out;obtain ⟨r0, r1, r2, r3, r4, r5, r6⟩ := R4.out.cells;have z0 := frozen7 R4.out 0; have z1 := frozen7 R4.out 1; have z2 := frozen7 R4.out 2; have z3 := frozen7 R4.out 3; have z4 := frozen7 R4.out 4; have z5 := frozen7 R4.out 5; have z6 := frozen7 R4.out 6
   have hne1 : bv ≠ w.heap.size + 1 := by have := HV3.out; have := HS2.out; omega
   have hne2 : w.heap.size + 1 ≠ bv := fun e => hne1 e.symm
   have HNE := Lib.hid hne1;go_wp2_with fail
   refine bodyPost_ret (v := .agg #[.int .i64 2, .string ⟨#[]⟩, .int .i64 y.kind, .int .i64 y.num, .string (relOf y.text), .slice fa' y.list.length fc', .slice none 0 0]) (by simp [results, Try.results11, go_sem, r0, r1, r2, r3, r4, r5, r6]) rfl ?_;rw [HE.out];refine ⟨_, _, _, _, _, _, _, rfl, repM_mk.2 ⟨rfl, rfl, small64 (by omega), by decide, ?_, slg_nil⟩, set7_below (b := w.heap.size + 1) (B4.out.setCell (p := ⟨bv, 2, none⟩) (by have := HV3.out; have := HS2.out; simp; omega) _) (by omega) _ _ _ _ _ _ _⟩;rw [HFV.out, if_pos HK3.out];refine repG_mk.2 ⟨by rw [HK3.out], rfl, rfl, small64 (by omega), HYB.out.2.1, Nat.le_trans (relOf_size _) (by decide), RepLG.on (fun k hk => ⟨by have := HS1.out; omega, ?sz⟩) (fun k hk => ?eq) HR2.out.lst⟩
   case sz =>
    show k < (set7 (w4.setCell ⟨bv, 2, none⟩ _) (w.heap.size + 1) _ _ _ _ _ _ _).heap.size
    rw [set7_size];simp only [World.size_setCell]
    have := H24.out.size; omega
   case eq =>
    show (set7 (w4.setCell ⟨bv, 2, none⟩ _) (w.heap.size + 1) _ _ _ _ _ _ _).heap[k]? = _
    rw [set7_other _ _ _ _ _ _ _ _ _ _ (by have := HS1.out; omega), Below.heap_setCell _ _ _ _ (by have := HV3.out; show k ≠ bv; omega)];exact H24.out.block k hk.2
  ·have hk' : (y.kind == 3) = false := by simp [hk]
   have HK3 := Lib.hid hk;clear hk;have v3 := boxed_new w2 (.int .i64 y.kind) (.int .i64 y.num) (.string y.text) (.slice fa' y.list.length fc');have b3 := below_alloc w2 (.cells #[.int .i64 y.kind, .int .i64 y.num, .string y.text, .slice fa' y.list.length fc'] 28);have R3 := Lib.hid (R2.out.on b3);have B3 := Lib.hid (Below.step B2.out b3); have H23 := Lib.hid b3
   obtain ⟨r0, r1, r2, r3, r4, r5, r6⟩ := R3.out.cells;have z0 := frozen7 R3.out 0; have z1 := frozen7 R3.out 1; have z2 := frozen7 R3.out 2; have z3 := frozen7 R3.out 3; have z4 := frozen7 R3.out 4; have z5 := frozen7 R3.out 5; have z6 := frozen7 R3.out 6
   clear v3 b3;go_wp2_with fail
   refine bodyPost_ret (v := .agg #[.int .i64 2, .string ⟨#[]⟩, .int .i64 y.kind, .int .i64 y.num, .string y.text, .slice fa' y.list.length fc', .slice none 0 0]) (by simp [results, Try.results11, go_sem, r0, r1, r2, r3, r4, r5, r6]) rfl ?_;rw [HE.out];refine ⟨_, _, _, _, _, _, _, rfl, repM_mk.2 ⟨rfl, rfl, small64 (by omega), by decide, ?_, slg_nil⟩, set7_below (b := w.heap.size + 1) B3.out (by omega) _ _ _ _ _ _ _⟩;rw [HFV.out, if_neg HK3.out];refine RepG.on (fun k hk => ⟨by have := HS1.out; omega, ?sz⟩) (fun k hk => ?eq) y HR2.out
   case sz =>
    show k < (set7 (w2.alloc _) (w.heap.size + 1) _ _ _ _ _ _ _).heap.size
    rw [set7_size];have := H23.out.size; omega
   case eq =>
    show (set7 (w2.alloc _) (w.heap.size + 1) _ _ _ _ _ _ _).heap[k]? = _
    rw [set7_other _ _ _ _ _ _ _ _ _ _ (by have := HS1.out; omega)];exact H23.out.block k hk.2
 by_cases hp : pickZ x.kind 4 = 2
 ·rw [hp] at he
  have HE : Hid (fitTm 1 x = .mk 1 (varOf x.name) nV []) := he;have HP := Lib.hid hp;clear hp he HBD;go_enter Try.func11, Try.ntmps11
  go_wp2_with fail
  refine (pick4_any x.kind 4 _ HK1.out (by omega) (by omega)).mono ?_;rintro e w' ⟨rfl, rfl⟩;rw [HP.out];have x0 := boxM_new w (.int .i64 x.kind) (.string x.name) (.int .i64 x.val.kind) (.int .i64 x.val.num) (.string x.val.text) (.slice fa x.val.list.length fc) (.slice ga x.args.length gc);have b0 := below_alloc w (.cells #[.int .i64 x.kind, .string x.name, .int .i64 x.val.kind, .int .i64 x.val.num, .string x.val.text, .slice fa x.val.list.length fc, .slice ga x.args.length gc] 30);have s0 := World.size_alloc w (.cells #[.int .i64 x.kind, .string x.name, .int .i64 x.val.kind, .int .i64 x.val.num, .string x.val.text, .slice fa x.val.list.length fc, .slice ga x.args.length gc] 30);generalize w.alloc (.cells #[.int .i64 x.kind, .string x.name, .int .i64 x.val.kind, .int .i64 x.val.num, .string x.val.text, .slice fa x.val.list.length fc, .slice ga x.args.length gc] 30) = w0 at *;have x1 := boxM_new w0 (.int .i64 0) (.string ⟨#[]⟩) (.int .i64 0) (.int .i64 0) (.string ⟨#[]⟩) (.slice none 0 0) (.slice none 0 0);have b1 := below_alloc w0 (.cells #[.int .i64 0, .string ⟨#[]⟩, .int .i64 0, .int .i64 0, .string ⟨#[]⟩, .slice none 0 0, .slice none 0 0] 30);have s1 := World.size_alloc w0 (.cells #[.int .i64 0, .string ⟨#[]⟩, .int .i64 0, .int .i64 0, .string ⟨#[]⟩, .slice none 0 0, .slice none 0 0] 30);generalize w0.alloc (.cells #[.int .i64 0, .string ⟨#[]⟩, .int .i64 0, .int .i64 0, .string ⟨#[]⟩, .slice none 0 0, .slice none 0 0] 30) = w1 at *;rw [s0] at x1 s1;have X1 := Lib.hid (x0.on b1); have R1 := Lib.hid x1; have B1 := Lib.hid (Below.step b0 b1); have HS1 : Hid (w1.heap.size = w.heap.size + 2) := by show _ = _; omega
  clear x0 b0 x1 b1 s0 s1;obtain ⟨p0, p1, p2, p3, p4, p5, p6⟩ := X1.out.cells;go_wp2_with fail
  refine (Variable_any x.name _ HN.out).mono ?_;rintro e w2 ⟨rfl, hb⟩;have R2 := Lib.hid (R1.out.on hb); have B2 := Lib.hid (Below.step B1.out hb)
  clear hb p0 p1 p2 p3 p4 p5 p6;obtain ⟨r0, r1, r2, r3, r4, r5, r6⟩ := R2.out.cells;have z0 := frozen7 R2.out 0; have z1 := frozen7 R2.out 1; have z2 := frozen7 R2.out 2; have z3 := frozen7 R2.out 3; have z4 := frozen7 R2.out 4; have z5 := frozen7 R2.out 5; have z6 := frozen7 R2.out 6
  go_wp2_with fail
  refine bodyPost_ret (v := .agg #[.int .i64 1, .string (varOf x.name), .int .i64 0, .int .i64 0, .string ⟨#[]⟩, .slice none 0 0, .slice none 0 0]) (by simp [results, Try.results11, go_sem, r0, r1, r2, r3, r4, r5, r6]) rfl ?_;rw [HE.out];exact ⟨_, _, _, _, _, _, _, rfl, repM_mk.2 ⟨rfl, rfl, small64 (by omega), Nat.le_trans (varOf_size _) (by decide), zV_rep _ _, slg_nil⟩, set7_below (b := w.heap.size + 1) B2.out (by omega) _ _ _ _ _ _ _⟩
 have hp : pickZ x.kind 4 = 3 := by omega
 rw [hp] at he;have HE : Hid (fitTm 1 x = .mk 2 ⟨#[]⟩ (fitVal x.val) []) := he;have HP := Lib.hid hp;clear hp he HBD;go_enter Try.func11, Try.ntmps11
 go_wp2_with fail
 refine (pick4_any x.kind 4 _ HK1.out (by omega) (by omega)).mono ?_;rintro e w' ⟨rfl, rfl⟩;rw [HP.out];have x0 := boxM_new w (.int .i64 x.kind) (.string x.name) (.int .i64 x.val.kind) (.int .i64 x.val.num) (.string x.val.text) (.slice fa x.val.list.length fc) (.slice ga x.args.length gc);have b0 := below_alloc w (.cells #[.int .i64 x.kind, .string x.name, .int .i64 x.val.kind, .int .i64 x.val.num, .string x.val.text, .slice fa x.val.list.length fc, .slice ga x.args.length gc] 30);have s0 := World.size_alloc w (.cells #[.int .i64 x.kind, .string x.name, .int .i64 x.val.kind, .int .i64 x.val.num, .string x.val.text, .slice fa x.val.list.length fc, .slice ga x.args.length gc] 30);generalize w.alloc (.cells #[.int .i64 x.kind, .string x.name, .int .i64 x.val.kind, .int .i64 x.val.num, .string x.val.text, .slice fa x.val.list.length fc, .slice ga x.args.length gc] 30) = w0 at *;have x1 := boxM_new w0 (.int .i64 0) (.string ⟨#[]⟩) (.int .i64 0) (.int .i64 0) (.string ⟨#[]⟩) (.slice none 0 0) (.slice none 0 0);have b1 := below_alloc w0 (.cells #[.int .i64 0, .string ⟨#[]⟩, .int .i64 0, .int .i64 0, .string ⟨#[]⟩, .slice none 0 0, .slice none 0 0] 30);have s1 := World.size_alloc w0 (.cells #[.int .i64 0, .string ⟨#[]⟩, .int .i64 0, .int .i64 0, .string ⟨#[]⟩, .slice none 0 0, .slice none 0 0] 30);generalize w0.alloc (.cells #[.int .i64 0, .string ⟨#[]⟩, .int .i64 0, .int .i64 0, .string ⟨#[]⟩, .slice none 0 0, .slice none 0 0] 30) = w1 at *;rw [s0] at x1 s1;have X1 := Lib.hid (x0.on b1); have R1 := Lib.hid x1; have B1 := Lib.hid (Below.step b0 b1); have HS1 : Hid (w1.heap.size = w.heap.size + 2) := by show _ = _; omega
 clear x0 b0 x1 b1 s0 s1;obtain ⟨p0, p1, p2, p3, p4, p5, p6⟩ := X1.out.cells;go_wp2_with fail
 refine (Fit_any x.val w1.heap.size w1 _ _ _ _ (Nat.le_refl _) (RepG.on (fun k hk => by have := HS k hk; have := HS1.out; omega) (fun k hk => B1.out.block k (HS k hk)) x.val HV.out)).mono ?_;rintro e w2 ⟨d0, d1, d2, d3, rfl, hrep, hb⟩;obtain ⟨fa', fc', rfl, rfl, rfl, rfl⟩ := hrep.form;have HR2 := Lib.hid hrep;have hyb := RepG.bounds hrep;have HYB := Lib.hid hyb;have HFV : Hid (fitVal x.val = if (fitV 4 x.val).kind = 3 then .mk 3 (fitV 4 x.val).num (relOf (fitV 4 x.val).text) (fitV 4 x.val).list else fitV 4 x.val) := by show _ = _; rfl
 generalize fitV 4 x.val = y at *;have R2 := Lib.hid (R1.out.on hb); have B2 := Lib.hid (Below.step B1.out hb)
 have HS2 : Hid (w.heap.size + 2 ≤ w2.heap.size) := by show _ ≤ _; have := HS1.out; have := hb.size; omega
 clear hb hrep hyb p0 p1 p2 p3 p4 p5 p6
 by_cases hk : y.kind = 3
 ·have hk' : (y.kind == 3) = true := by simp [hk]
  have HK3 := Lib.hid hk;clear hk;go_wp2_with fail
  have v3 := boxed_new w2 (.int .i64 y.kind) (.int .i64 y.num) (.string y.text) (.slice fa' y.list.length fc');have b3 := below_alloc w2 (.cells #[.int .i64 y.kind, .int .i64 y.num, .string y.text, .slice fa' y.list.length fc'] 28);generalize w2.alloc (.cells #[.int .i64 y.kind, .int .i64 y.num, .string y.text, .slice fa' y.list.length fc'] 28) = w3 at *;generalize hv3 : w2.heap.size = bv at v3 ⊢;have HV3 := Lib.hid hv3;clear hv3;refine (Relation_any y.text _ HYB.out.2.2).mono ?_;rintro e w4 ⟨rfl, hb⟩;have V4 := Lib.hid (v3.on hb);have b4 := Below.step b3 hb;have R4 := Lib.hid (R2.out.on b4); have B4 := Lib.hid (Below.step B2.out b4); have H24 := Lib.hid b4
  have HBV : Hid (bv < w4.heap.size) := V4.out.lt;clear v3 b3 b4 hb;obtain ⟨q0, q1, q2, q3⟩ := V4.out.cells;have y2 := frozen_of_row w4 _ 2 _ _ V4.out;obtain ⟨r0, r1, r2, r3, r4, r5, r6⟩ := R4.out.cells;have z0 := frozen7 R4.out 0; have z1 := frozen7 R4.out 1; have z2 := frozen7 R4.out 2; have z3 := frozen7 R4.out 3; have z4 := frozen7 R4.out 4; have z5 := frozen7 R4.out 5; have z6 := frozen7 R4.out 6
  have hne1 : bv ≠ w.heap.size + 1 := by have := HV3.out; have := HS2.out; omega
  have hne2 : w.heap.size + 1 ≠ bv := fun e => hne1 e.symm
  have HNE := Lib.hid hne1;go_wp2_with fail
  refine bodyPost_ret (v := .agg #[.int .i64 2, .string ⟨#[]⟩, .int .i64 y.kind, .int .i64 y.num, .string (relOf y.text), .slice fa' y.list.length fc', .slice none 0 0]) (by simp [results, Try.results11, go_sem, r0, r1, r2, r3, r4, r5, r6]) rfl ?_;rw [HE.out];refine ⟨_, _, _, _, _, _, _, rfl, repM_mk.2 ⟨rfl, rfl, small64 (by omega), by decide, ?_, slg_nil⟩, set7_below (b := w.heap.size + 1) (B4.out.setCell (p := ⟨bv, 2, none⟩) (by have := HV3.out; have := HS2.out; simp; omega) _) (by omega) _ _ _ _ _ _ _⟩;rw [HFV.out, if_pos HK3.out];refine repG_mk.2 ⟨by rw [HK3.out], rfl, rfl, small64 (by omega), HYB.out.2.1, Nat.le_trans (relOf_size _) (by decide), RepLG.on (fun k hk => ⟨by have := HS1.out; omega, ?sz⟩) (fun k hk => ?eq) HR2.out.lst⟩
  case sz =>
   show k < (set7 (w4.setCell ⟨bv, 2, none⟩ _) (w.heap.size + 1) _ _ _ _ _ _ _).heap.size
   rw [set7_size];simp only [World.size_setCell]
   have := H24.out.size; omega
  case eq =>
   show (set7 (w4.setCell ⟨bv, 2, none⟩ _) (w.heap.size + 1) _ _ _ _ _ _ _).heap[k]? = _
   rw [set7_other _ _ _ _ _ _ _ _ _ _ (by have := HS1.out; omega), Below.heap_setCell _ _ _ _ (by have := HV3.out; show k ≠ bv; omega)];exact H24.out.block k hk.2
 ·have hk' : (y.kind == 3) = false := by simp [hk]
  have HK3 := Lib.hid hk;clear hk;have v3 := boxed_new w2 (.int .i64 y.kind) (.int .i64 y.num) (.string y.text) (.slice fa' y.list.length fc');have b3 := below_alloc w2 (.cells #[.int .i64 y.kind, .int .i64 y.num, .string y.text, .slice fa' y.list.length fc'] 28);have R3 := Lib.hid (R2.out.on b3);have B3 := Lib.hid (Below.step B2.out b3); have H23 := Lib.hid b3
  obtain ⟨r0, r1, r2, r3, r4, r5, r6⟩ := R3.out.cells;have z0 := frozen7 R3.out 0; have z1 := frozen7 R3.out 1; have z2 := frozen7 R3.out 2; have z3 := frozen7 R3.out 3; have z4 := frozen7 R3.out 4; have z5 := frozen7 R3.out 5; have z6 := frozen7 R3.out 6
  clear v3 b3;go_wp2_with fail
  refine bodyPost_ret (v := .agg #[.int .i64 2, .string ⟨#[]⟩, .int .i64 y.kind, .int .i64 y.num, .string y.text, .slice fa' y.list.length fc', .slice none 0 0]) (by simp [results, Try.results11, go_sem, r0, r1, r2, r3, r4, r5, r6]) rfl ?_;rw [HE.out];refine ⟨_, _, _, _, _, _, _, rfl, repM_mk.2 ⟨rfl, rfl, small64 (by omega), by decide, ?_, slg_nil⟩, set7_below (b := w.heap.size + 1) B3.out (by omega) _ _ _ _ _ _ _⟩;rw [HFV.out, if_neg HK3.out];refine RepG.on (fun k hk => ⟨by have := HS1.out; omega, ?sz⟩) (fun k hk => ?eq) y HR2.out
  case sz =>
   show k < (set7 (w2.alloc _) (w.heap.size + 1) _ _ _ _ _ _ _).heap.size
   rw [set7_size];have := H23.out.size; omega
  case eq =>
   show (set7 (w2.alloc _) (w.heap.size + 1) _ _ _ _ _ _ _).heap[k]? = _
   rw [set7_other _ _ _ _ _ _ _ _ _ _ (by have := HS1.out; omega)];exact H23.out.block k hk.2
set_option maxRecDepth 100000 in
set_option maxHeartbeats 16000000 in
theorem term_few (d : Nat) (hd : 1 ≤ d) (hdm : d ≤ 100) (x : Tm) (S : Nat → Prop) (w : World) (c0 c1 c2 c3 c4 c5 c6 : Value) (hS : ∀ k, S k → k < w.heap.size) (hx : RepM S w x c0 c1 c2 c3 c4 c5 c6) (hl : x.args.length < 2) :
  Calls Try.prog 11 #[.agg #[c0, c1, c2, c3, c4, c5, c6], .int .i64 ((d + 1 : Nat) : Int)] w (MadeM (fitTm (d + 1) x) w) := by
 have HS := hS;have HN := Lib.hid hx.bounds.2; have HK1 := Lib.hid hx.bounds.1
 have HV := Lib.hid hx.value; have HL := Lib.hid hx.lst
 obtain ⟨fa, fc, ga, gc, rfl, rfl, rfl, rfl, rfl, rfl, rfl⟩ := hx.form;have HBD := pickZ_bd x.kind 4 (by omega)
 have he : fitTm (d + 1) x = fitLeaf (pickZ x.kind 4 % 2) x.name x.val := by
  cases x; rw [fitTm, if_pos (.inr hl)]; rfl
 have hd1 : decide (((d + 1 : Nat) : Int) ≤ 1) = false := decide_eq_false (by omega);have hl2 : decide ((x.args.length : Int) < 2) = true := decide_eq_true (by omega);clear hx
 by_cases hp : pickZ x.kind 4 = 0
 ·rw [hp] at he
  have HE : Hid (fitTm (d + 1) x = .mk 1 (varOf x.name) nV []) := he;have HP := Lib.hid hp;clear hp he HBD;go_enter Try.func11, Try.ntmps11
  go_wp2_with fail
  refine (pick4_any x.kind 4 _ HK1.out (by omega) (by omega)).mono ?_;rintro e w' ⟨rfl, rfl⟩;rw [HP.out];have x0 := boxM_new w (.int .i64 x.kind) (.string x.name) (.int .i64 x.val.kind) (.int .i64 x.val.num) (.string x.val.text) (.slice fa x.val.list.length fc) (.slice ga x.args.length gc);have b0 := below_alloc w (.cells #[.int .i64 x.kind, .string x.name, .int .i64 x.val.kind, .int .i64 x.val.num, .string x.val.text, .slice fa x.val.list.length fc, .slice ga x.args.length gc] 30);have s0 := World.size_alloc w (.cells #[.int .i64 x.kind, .string x.name, .int .i64 x.val.kind, .int .i64 x.val.num, .string x.val.text, .slice fa x.val.list.length fc, .slice ga x.args.length gc] 30);generalize w.alloc (.cells #[.int .i64 x.kind, .string x.name, .int .i64 x.val.kind, .int .i64 x.val.num, .string x.val.text, .slice fa x.val.list.length fc, .slice ga x.args.length gc] 30) = w0 at *;have x1 := boxM_new w0 (.int .i64 0) (.string ⟨#[]⟩) (.int .i64 0) (.int .i64 0) (.string ⟨#[]⟩) (.slice none 0 0) (.slice none 0 0);have b1 := below_alloc w0 (.cells #[.int .i64 0, .string ⟨#[]⟩, .int .i64 0, .int .i64 0, .string ⟨#[]⟩, .slice none 0 0, .slice none 0 0] 30);have s1 := World.size_alloc w0 (.cells #[.int .i64 0, .string ⟨#[]⟩, .int .i64 0, .int .i64 0, .string ⟨#[]⟩, .slice none 0 0, .slice none 0 0] 30);generalize w0.alloc (.cells #[.int .i64 0, .string ⟨#[]⟩, .int .i64 0, .int .i64 0, .string ⟨#[]⟩, .slice none 0 0, .slice none 0 0] 30) = w1 at *;rw [s0] at x1 s1;have X1 := Lib.hid (x0.on b1); have R1 := Lib.hid x1; have B1 := Lib.hid (Below.step b0 b1); have HS1 : Hid (w1.heap.size = w.heap.size + 2) := by show _ = _; omega
  clear x0 b0 x1 b1 s0 s1;obtain ⟨p0, p1, p2, p3, p4, p5, p6⟩ := X1.out.cells;go_wp2_with fail
  refine (Variable_any x.name _ HN.out).mono ?_;rintro e w2 ⟨rfl, hb⟩;have R2 := Lib.hid (R1.out.on hb); have B2 := Lib.hid (Below.step B1.out hb)
  clear hb p0 p1 p2 p3 p4 p5 p6;obtain ⟨r0, r1, r2, r3, r4, r5, r6⟩ := R2.out.cells;have z0 := frozen7 R2.out 0; have z1 := frozen7 R2.out 1; have z2 := frozen7 R2.out 2; have z3 := frozen7 R2.out 3; have z4 := frozen7 R2.out 4; have z5 := frozen7 R2.out 5; have z6 := frozen7 R2.out 6
  go_wp2_with fail
  refine bodyPost_ret (v := .agg #[.int .i64 1, .string (varOf x.name), .int .i64 0, .int .i64 0, .string ⟨#[]⟩, .slice none 0 0, .slice none 0 0]) (by simp [results, Try.results11, go_sem, r0, r1, r2, r3, r4, r5, r6]) rfl ?_;rw [HE.out];exact ⟨_, _, _, _, _, _, _, rfl, repM_mk.2 ⟨rfl, rfl, small64 (by omega), Nat.le_trans (varOf_size _) (by decide), zV_rep _ _, slg_nil⟩, set7_below (b := w.heap.size + 1) B2.out (by omega) _ _ _ _ _ _ _⟩
 by_cases hp : pickZ x.kind 4 = 1
 ·rw [hp] at he
  have HE : Hid (fitTm (d + 1) x = .mk 2 ⟨#[]⟩ (fitVal x.val) []) := he;have HP := Lib.hid hp;clear hp he HBD;go_enter Try.func11, Try.ntmps11
  go_wp2_with fail
  refine (pick4_any x.kind 4 _ HK1.out (by omega) (by omega)).mono ?_;rintro e w' ⟨rfl, rfl⟩;rw [HP.out];have x0 := boxM_new w (.int .i64 x.kind) (.string x.name) (.int .i64 x.val.kind) (.int .i64 x.val.num) (.string x.val.text) (.slice fa x.val.list.length fc) (.slice ga x.args.length gc);have b0 := below_alloc w (.cells #[.int .i64 x.kind, .string x.name, .int .i64 x.val.kind, .int .i64 x.val.num, .string x.val.text, .slice fa x.val.list.length fc, .slice ga x.args.length gc] 30);have s0 := World.size_alloc w (.cells #[.int .i64 x.kind, .string x.name, .int .i64 x.val.kind, .int .i64 x.val.num, .string x.val.text, .slice fa x.val.list.length fc, .slice ga x.args.length gc] 30);generalize w.alloc (.cells #[.int .i64 x.kind, .string x.name, .int .i64 x.val.kind, .int .i64 x.val.num, .string x.val.text, .slice fa x.val.list.length fc, .slice ga x.args.length gc] 30) = w0 at *;have x1 := boxM_new w0 (.int .i64 0) (.string ⟨#[]⟩) (.int .i64 0) (.int .i64 0) (.string ⟨#[]⟩) (.slice none 0 0) (.slice none 0 0);have b1 := below_alloc w0 (.cells #[.int .i64 0, .string ⟨#[]⟩, .int .i64 0, .int .i64 0, .string ⟨#[]⟩, .slice none 0 0, .slice none 0 0] 30);have s1 := World.size_alloc w0 (.cells #[.int .i64 0, .string ⟨#[]⟩, .int .i64 0, .int .i64 0, .string ⟨#[]⟩, .slice none 0 0, .slice none 0 0] 30);generalize w0.alloc (.cells #[.int .i64 0, .string ⟨#[]⟩, .int .i64 0, .int .i64 0, .string ⟨#[]⟩, .slice none 0 0, .slice none 0 0] 30) = w1 at *;rw [s0] at x1 s1;have X1 := Lib.hid (x0.on b1); have R1 := Lib.hid x1; have B1 := Lib.hid (Below.step b0 b1); have HS1 : Hid (w1.heap.size = w.heap.size + 2) := by show _ = _; omega
  clear x0 b0 x1 b1 s0 s1;obtain ⟨p0, p1, p2, p3, p4, p5, p6⟩ := X1.out.cells;go_wp2_with fail
  refine (Fit_any x.val w1.heap.size w1 _ _ _ _ (Nat.le_refl _) (RepG.on (fun k hk => by have := HS k hk; have := HS1.out; omega) (fun k hk => B1.out.block k (HS k hk)) x.val HV.out)).mono ?_;rintro e w2 ⟨d0, d1, d2, d3, rfl, hrep, hb⟩;obtain ⟨fa', fc', rfl, rfl, rfl, rfl⟩ := hrep.form;have HR2 := Lib.hid hrep;have hyb := RepG.bounds hrep;have HYB := Lib.hid hyb;have HFV : Hid (fitVal x.val = if (fitV 4 x.val).kind = 3 then .mk 3 (fitV 4 x.val).num (relOf (fitV 4 x.val).text) (fitV 4 x.val).list else fitV 4 x.val) := by show _ = _; rfl
  generalize fitV 4 x.val = y at *;have R2 := Lib.hid (R1.out.on hb); have B2 := Lib.hid (Below.step B1.out hb)
  have HS2 : Hid (w.heap.size + 2 ≤ w2.heap.size) := by show _ ≤ _; have := HS1.out; have := hb.size; omega
  clear hb hrep hyb p0 p1 p2 p3 p4 p5 p6
  by_cases hk : y.kind = 3
  ·have hk' : (y.kind == 3) = true := by simp [hk]
   have HK3 := Lib.hid hk;clear hk;go_wp2_with fail
   have v3 := boxed_new w2 (.int .i64 y.kind) (.int .i64 y.num) (.string y.text) (.slice fa' y.list.length fc');have b3 := below_alloc w2 (.cells #[.int .i64 y.kind, .int .i64 y.num, .string y.text, .slice fa' y.list.length fc'] 28);generalize w2.alloc (.cells #[.int .i64 y.kind, .int .i64 y.num, .string y.text, .slice fa' y.list.length fc'] 28) = w3 at *;generalize hv3 : w2.heap.size = bv at v3 ⊢;have HV3 := Lib.hid hv3;clear hv3;refine (Relation_any y.text _ HYB.out.2.2).mono ?_;rintro e w4 ⟨rfl, hb⟩;have V4 := Lib.hid (v3.on hb);have b4 := Below.step b3 hb;have R4 := Lib.hid (R2.out.on b4); have B4 := Lib.hid (Below.step B2.out b4); have H24 := Lib.hid b4
   have HBV : Hid (bv < w4.heap.size) := V4.out.lt;clear v3 b3 b4 hb;obtain ⟨q0, q1, q2, q3⟩ := V4.out.cells;have y2 := frozen_of_row w4 _ 2 _ _ V4.out;obtain ⟨r0, r1, r2, r3, r4, r5, r6⟩ := R4.out.cells;have z0 := frozen7 R4.out 0; have z1 := frozen7 R4.out 1; have z2 := frozen7 R4.out 2; have z3 := frozen7 R4.out 3; have z4 := frozen7 R4.out 4; have z5 := frozen7 R4.out 5; have z6 := frozen7 R4.out 6
   have hne1 : bv ≠ w.heap.size + 1 := by have := HV3.out; have := HS2.out; omega
   have hne2 : w.heap.size + 1 ≠ bv := fun e => hne1 e.symm
   have HNE := Lib.hid hne1;go_wp2_with fail
   refine bodyPost_ret (v := .agg #[.int .i64 2, .string ⟨#[]⟩, .int .i64 y.kind, .int .i64 y.num, .string (relOf y.text), .slice fa' y.list.length fc', .slice none 0 0]) (by simp [results, Try.results11, go_sem, r0, r1, r2, r3, r4, r5, r6]) rfl ?_;rw [HE.out];refine ⟨_, _, _, _, _, _, _, rfl, repM_mk.2 ⟨rfl, rfl, small64 (by omega), by decide, ?_, slg_nil⟩, set7_below (b := w.heap.size + 1) (B4.out.setCell (p := ⟨bv, 2, none⟩) (by have := HV3.out; have := HS2.out; simp; omega) _) (by omega) _ _ _ _ _ _ _⟩;rw [HFV.out, if_pos HK3.out];refine repG_mk.2 ⟨by rw [HK3.out], rfl, rfl, small64 (by omega), HYB.out.2.1, Nat.le_trans (relOf_size _) (by decide), RepLG.on (fun k hk => ⟨by have := HS1.out; omega, ?sz⟩) (fun k hk => ?eq) HR2.out.lst⟩
   case sz =>
    show k < (set7 (w4.setCell ⟨bv, 2, none⟩ _) (w.heap.size + 1) _ _ _ _ _ _ _).heap.size
    rw [set7_size];simp only [World.size_setCell]
    have := H24.out.size; omega
   case eq =>
    show (set7 (w4.setCell ⟨bv, 2, none⟩ _) (w.heap.size + 1) _ _ _ _ _ _ _).heap[k]? = _
    rw [set7_other _ _ _ _ _ _ _ _ _ _ (by have := HS1.out; omega), Below.heap_setCell _ _ _ _ (by have := HV3.out; show k ≠ bv; omega)];exact H24.out.block k hk.2
  ·have hk' : (y.kind == 3) = false := by simp [hk]
   have HK3 := Lib.hid hk;clear hk;have v3 := boxed_new w2 (.int .i64 y.kind) (.int .i64 y.num) (.string y.text) (.slice fa' y.list.length fc');have b3 := below_alloc w2 (.cells #[.int .i64 y.kind, .int .i64 y.num, .string y.text, .slice fa' y.list.length fc'] 28);have R3 := Lib.hid (R2.out.on b3);have B3 := Lib.hid (Below.step B2.out b3); have H23 := Lib.hid b3
   obtain ⟨r0, r1, r2, r3, r4, r5, r6⟩ := R3.out.cells;have z0 := frozen7 R3.out 0; have z1 := frozen7 R3.out 1; have z2 := frozen7 R3.out 2; have z3 := frozen7 R3.out 3; have z4 := frozen7 R3.out 4; have z5 := frozen7 R3.out 5; have z6 := frozen7 R3.out 6
   clear v3 b3;go_wp2_with fail
   refine bodyPost_ret (v := .agg #[.int .i64 2, .string ⟨#[]⟩, .int .i64 y.kind, .int .i64 y.num, .string y.text, .slice fa' y.list.length fc', .slice none 0 0]) (by simp [results, Try.results11, go_sem, r0, r1, r2, r3, r4, r5, r6]) rfl ?_;rw [HE.out];refine ⟨_, _, _, _, _, _, _, rfl, repM_mk.2 ⟨rfl, rfl, small64 (by omega), by decide, ?_, slg_nil⟩, set7_below (b := w.heap.size + 1) B3.out (by omega) _ _ _ _ _ _ _⟩;rw [HFV.out, if_neg HK3.out];refine RepG.on (fun k hk => ⟨by have := HS1.out; omega, ?sz⟩) (fun k hk => ?eq) y HR2.out
   case sz =>
    show k < (set7 (w2.alloc _) (w.heap.size + 1) _ _ _ _ _ _ _).heap.size
    rw [set7_size];have := H23.out.size; omega
   case eq =>
    show (set7 (w2.alloc _) (w.heap.size + 1) _ _ _ _ _ _ _).heap[k]? = _
    rw [set7_other _ _ _ _ _ _ _ _ _ _ (by have := HS1.out; omega)];exact H23.out.block k hk.2
 by_cases hp : pickZ x.kind 4 = 2
 ·rw [hp] at he
  have HE : Hid (fitTm (d + 1) x = .mk 1 (varOf x.name) nV []) := he;have HP := Lib.hid hp;clear hp he HBD;go_enter Try.func11, Try.ntmps11
  go_wp2_with fail
  refine (pick4_any x.kind 4 _ HK1.out (by omega) (by omega)).mono ?_;rintro e w' ⟨rfl, rfl⟩;rw [HP.out];have x0 := boxM_new w (.int .i64 x.kind) (.string x.name) (.int .i64 x.val.kind) (.int .i64 x.val.num) (.string x.val.text) (.slice fa x.val.list.length fc) (.slice ga x.args.length gc);have b0 := below_alloc w (.cells #[.int .i64 x.kind, .string x.name, .int .i64 x.val.kind, .int .i64 x.val.num, .string x.val.text, .slice fa x.val.list.length fc, .slice ga x.args.length gc] 30);have s0 := World.size_alloc w (.cells #[.int .i64 x.kind, .string x.name, .int .i64 x.val.kind, .int .i64 x.val.num, .string x.val.text, .slice fa x.val.list.length fc, .slice ga x.args.length gc] 30);generalize w.alloc (.cells #[.int .i64 x.kind, .string x.name, .int .i64 x.val.kind, .int .i64 x.val.num, .string x.val.text, .slice fa x.val.list.length fc, .slice ga x.args.length gc] 30) = w0 at *;have x1 := boxM_new w0 (.int .i64 0) (.string ⟨#[]⟩) (.int .i64 0) (.int .i64 0) (.string ⟨#[]⟩) (.slice none 0 0) (.slice none 0 0);have b1 := below_alloc w0 (.cells #[.int .i64 0, .string ⟨#[]⟩, .int .i64 0, .int .i64 0, .string ⟨#[]⟩, .slice none 0 0, .slice none 0 0] 30);have s1 := World.size_alloc w0 (.cells #[.int .i64 0, .string ⟨#[]⟩, .int .i64 0, .int .i64 0, .string ⟨#[]⟩, .slice none 0 0, .slice none 0 0] 30);generalize w0.alloc (.cells #[.int .i64 0, .string ⟨#[]⟩, .int .i64 0, .int .i64 0, .string ⟨#[]⟩, .slice none 0 0, .slice none 0 0] 30) = w1 at *;rw [s0] at x1 s1;have X1 := Lib.hid (x0.on b1); have R1 := Lib.hid x1; have B1 := Lib.hid (Below.step b0 b1); have HS1 : Hid (w1.heap.size = w.heap.size + 2) := by show _ = _; omega
  clear x0 b0 x1 b1 s0 s1;obtain ⟨p0, p1, p2, p3, p4, p5, p6⟩ := X1.out.cells;go_wp2_with fail
  refine (Variable_any x.name _ HN.out).mono ?_;rintro e w2 ⟨rfl, hb⟩;have R2 := Lib.hid (R1.out.on hb); have B2 := Lib.hid (Below.step B1.out hb)
  clear hb p0 p1 p2 p3 p4 p5 p6;obtain ⟨r0, r1, r2, r3, r4, r5, r6⟩ := R2.out.cells;have z0 := frozen7 R2.out 0; have z1 := frozen7 R2.out 1; have z2 := frozen7 R2.out 2; have z3 := frozen7 R2.out 3; have z4 := frozen7 R2.out 4; have z5 := frozen7 R2.out 5; have z6 := frozen7 R2.out 6
  go_wp2_with fail
  refine bodyPost_ret (v := .agg #[.int .i64 1, .string (varOf x.name), .int .i64 0, .int .i64 0, .string ⟨#[]⟩, .slice none 0 0, .slice none 0 0]) (by simp [results, Try.results11, go_sem, r0, r1, r2, r3, r4, r5, r6]) rfl ?_;rw [HE.out];exact ⟨_, _, _, _, _, _, _, rfl, repM_mk.2 ⟨rfl, rfl, small64 (by omega), Nat.le_trans (varOf_size _) (by decide), zV_rep _ _, slg_nil⟩, set7_below (b := w.heap.size + 1) B2.out (by omega) _ _ _ _ _ _ _⟩
 have hp : pickZ x.kind 4 = 3 := by omega
 rw [hp] at he;have HE : Hid (fitTm (d + 1) x = .mk 2 ⟨#[]⟩ (fitVal x.val) []) := he;have HP := Lib.hid hp;clear hp he HBD;go_enter Try.func11, Try.ntmps11
 go_wp2_with fail
 refine (pick4_any x.kind 4 _ HK1.out (by omega) (by omega)).mono ?_;rintro e w' ⟨rfl, rfl⟩;rw [HP.out];have x0 := boxM_new w (.int .i64 x.kind) (.string x.name) (.int .i64 x.val.kind) (.int .i64 x.val.num) (.string x.val.text) (.slice fa x.val.list.length fc) (.slice ga x.args.length gc);have b0 := below_alloc w (.cells #[.int .i64 x.kind, .string x.name, .int .i64 x.val.kind, .int .i64 x.val.num, .string x.val.text, .slice fa x.val.list.length fc, .slice ga x.args.length gc] 30);have s0 := World.size_alloc w (.cells #[.int .i64 x.kind, .string x.name, .int .i64 x.val.kind, .int .i64 x.val.num, .string x.val.text, .slice fa x.val.list.length fc, .slice ga x.args.length gc] 30);generalize w.alloc (.cells #[.int .i64 x.kind, .string x.name, .int .i64 x.val.kind, .int .i64 x.val.num, .string x.val.text, .slice fa x.val.list.length fc, .slice ga x.args.length gc] 30) = w0 at *;have x1 := boxM_new w0 (.int .i64 0) (.string ⟨#[]⟩) (.int .i64 0) (.int .i64 0) (.string ⟨#[]⟩) (.slice none 0 0) (.slice none 0 0);have b1 := below_alloc w0 (.cells #[.int .i64 0, .string ⟨#[]⟩, .int .i64 0, .int .i64 0, .string ⟨#[]⟩, .slice none 0 0, .slice none 0 0] 30);have s1 := World.size_alloc w0 (.cells #[.int .i64 0, .string ⟨#[]⟩, .int .i64 0, .int .i64 0, .string ⟨#[]⟩, .slice none 0 0, .slice none 0 0] 30);generalize w0.alloc (.cells #[.int .i64 0, .string ⟨#[]⟩, .int .i64 0, .int .i64 0, .string ⟨#[]⟩, .slice none 0 0, .slice none 0 0] 30) = w1 at *;rw [s0] at x1 s1;have X1 := Lib.hid (x0.on b1); have R1 := Lib.hid x1; have B1 := Lib.hid (Below.step b0 b1); have HS1 : Hid (w1.heap.size = w.heap.size + 2) := by show _ = _; omega
 clear x0 b0 x1 b1 s0 s1;obtain ⟨p0, p1, p2, p3, p4, p5, p6⟩ := X1.out.cells;go_wp2_with fail
 refine (Fit_any x.val w1.heap.size w1 _ _ _ _ (Nat.le_refl _) (RepG.on (fun k hk => by have := HS k hk; have := HS1.out; omega) (fun k hk => B1.out.block k (HS k hk)) x.val HV.out)).mono ?_;rintro e w2 ⟨d0, d1, d2, d3, rfl, hrep, hb⟩;obtain ⟨fa', fc', rfl, rfl, rfl, rfl⟩ := hrep.form;have HR2 := Lib.hid hrep;have hyb := RepG.bounds hrep;have HYB := Lib.hid hyb;have HFV : Hid (fitVal x.val = if (fitV 4 x.val).kind = 3 then .mk 3 (fitV 4 x.val).num (relOf (fitV 4 x.val).text) (fitV 4 x.val).list else fitV 4 x.val) := by show _ = _; rfl
 generalize fitV 4 x.val = y at *;have R2 := Lib.hid (R1.out.on hb); have B2 := Lib.hid (Below.step B1.out hb)
 have HS2 : Hid (w.heap.size + 2 ≤ w2.heap.size) := by show _ ≤ _; have := HS1.out; have := hb.size; omega
 clear hb hrep hyb p0 p1 p2 p3 p4 p5 p6
 by_cases hk : y.kind = 3
 ·have hk' : (y.kind == 3) = true := by simp [hk]
  have HK3 := Lib.hid hk;clear hk;go_wp2_with fail
  have v3 := boxed_new w2 (.int .i64 y.kind) (.int .i64 y.num) (.string y.text) (.slice fa' y.list.length fc');have b3 := below_alloc w2 (.cells #[.int .i64 y.kind, .int .i64 y.num, .string y.text, .slice fa' y.list.length fc'] 28);generalize w2.alloc (.cells #[.int .i64 y.kind, .int .i64 y.num, .string y.text, .slice fa' y.list.length fc'] 28) = w3 at *;generalize hv3 : w2.heap.size = bv at v3 ⊢;have HV3 := Lib.hid hv3;clear hv3;refine (Relation_any y.text _ HYB.out.2.2).mono ?_;rintro e w4 ⟨rfl, hb⟩;have V4 := Lib.hid (v3.on hb);have b4 := Below.step b3 hb;have R4 := Lib.hid (R2.out.on b4); have B4 := Lib.hid (Below.step B2.out b4); have H24 := Lib.hid b4
  have HBV : Hid (bv < w4.heap.size) := V4.out.lt;clear v3 b3 b4 hb;obtain ⟨q0, q1, q2, q3⟩ := V4.out.cells;have y2 := frozen_of_row w4 _ 2 _ _ V4.out;obtain ⟨r0, r1, r2, r3, r4, r5, r6⟩ := R4.out.cells;have z0 := frozen7 R4.out 0; have z1 := frozen7 R4.out 1; have z2 := frozen7 R4.out 2; have z3 := frozen7 R4.out 3; have z4 := frozen7 R4.out 4; have z5 := frozen7 R4.out 5; have z6 := frozen7 R4.out 6
  have hne1 : bv ≠ w.heap.size + 1 := by have := HV3.out; have := HS2.out; omega
  have hne2 : w.heap.size + 1 ≠ bv := fun e => hne1 e.symm
  have HNE := Lib.hid hne1;go_wp2_with fail
  refine bodyPost_ret (v := .agg #[.int .i64 2, .string ⟨#[]⟩, .int .i64 y.kind, .int .i64 y.num, .string (relOf y.text), .slice fa' y.list.length fc', .slice none 0 0]) (by simp [results, Try.results11, go_sem, r0, r1, r2, r3, r4, r5, r6]) rfl ?_;rw [HE.out];refine ⟨_, _, _, _, _, _, _, rfl, repM_mk.2 ⟨rfl, rfl, small64 (by omega), by decide, ?_, slg_nil⟩, set7_below (b := w.heap.size + 1) (B4.out.setCell (p := ⟨bv, 2, none⟩) (by have := HV3.out; have := HS2.out; simp; omega) _) (by omega) _ _ _ _ _ _ _⟩;rw [HFV.out, if_pos HK3.out];refine repG_mk.2 ⟨by rw [HK3.out], rfl, rfl, small64 (by omega), HYB.out.2.1, Nat.le_trans (relOf_size _) (by decide), RepLG.on (fun k hk => ⟨by have := HS1.out; omega, ?sz⟩) (fun k hk => ?eq) HR2.out.lst⟩
  case sz =>
   show k < (set7 (w4.setCell ⟨bv, 2, none⟩ _) (w.heap.size + 1) _ _ _ _ _ _ _).heap.size
   rw [set7_size];simp only [World.size_setCell]
   have := H24.out.size; omega
  case eq =>
   show (set7 (w4.setCell ⟨bv, 2, none⟩ _) (w.heap.size + 1) _ _ _ _ _ _ _).heap[k]? = _
   rw [set7_other _ _ _ _ _ _ _ _ _ _ (by have := HS1.out; omega), Below.heap_setCell _ _ _ _ (by have := HV3.out; show k ≠ bv; omega)];exact H24.out.block k hk.2
 ·have hk' : (y.kind == 3) = false := by simp [hk]
  have HK3 := Lib.hid hk;clear hk;have v3 := boxed_new w2 (.int .i64 y.kind) (.int .i64 y.num) (.string y.text) (.slice fa' y.list.length fc');have b3 := below_alloc w2 (.cells #[.int .i64 y.kind, .int .i64 y.num, .string y.text, .slice fa' y.list.length fc'] 28);have R3 := Lib.hid (R2.out.on b3);have B3 := Lib.hid (Below.step B2.out b3); have H23 := Lib.hid b3
  obtain ⟨r0, r1, r2, r3, r4, r5, r6⟩ := R3.out.cells;have z0 := frozen7 R3.out 0; have z1 := frozen7 R3.out 1; have z2 := frozen7 R3.out 2; have z3 := frozen7 R3.out 3; have z4 := frozen7 R3.out 4; have z5 := frozen7 R3.out 5; have z6 := frozen7 R3.out 6
  clear v3 b3;go_wp2_with fail
  refine bodyPost_ret (v := .agg #[.int .i64 2, .string ⟨#[]⟩, .int .i64 y.kind, .int .i64 y.num, .string y.text, .slice fa' y.list.length fc', .slice none 0 0]) (by simp [results, Try.results11, go_sem, r0, r1, r2, r3, r4, r5, r6]) rfl ?_;rw [HE.out];refine ⟨_, _, _, _, _, _, _, rfl, repM_mk.2 ⟨rfl, rfl, small64 (by omega), by decide, ?_, slg_nil⟩, set7_below (b := w.heap.size + 1) B3.out (by omega) _ _ _ _ _ _ _⟩;rw [HFV.out, if_neg HK3.out];refine RepG.on (fun k hk => ⟨by have := HS1.out; omega, ?sz⟩) (fun k hk => ?eq) y HR2.out
  case sz =>
   show k < (set7 (w2.alloc _) (w.heap.size + 1) _ _ _ _ _ _ _).heap.size
   rw [set7_size];have := H23.out.size; omega
  case eq =>
   show (set7 (w2.alloc _) (w.heap.size + 1) _ _ _ _ _ _ _).heap[k]? = _
   rw [set7_other _ _ _ _ _ _ _ _ _ _ (by have := HS1.out; omega)];exact H23.out.block k hk.2
end Go.Proofs.Ytjmnnjikmmglpaa
