/-
  TermKit, TermDeep, TermOp
-/
import Derived.Test.YtjmnnjikmmglpaaKD23
import Derived.Test.YtjmnnjikmmglpaaKD20
namespace Go.Proofs.Ytjmnnjikmmglpaa
open Go.RowKit
def MadeAt (B : Nat) (y : Tm) (w : World) (v : Value) : Prop := ∃ c0 c1 c2 c3 c4 c5 c6, v = .agg #[c0, c1, c2, c3, c4, c5, c6] ∧ RepM (fun b => B ≤ b ∧ b < w.heap.size) w y c0 c1 c2 c3 c4 c5 c6
theorem MadeAt.stay {B : Nat} {y : Tm} {w w' : World} {v : Value} (hb : Below w.heap.size w w') (h : MadeAt B y w v) : MadeAt B y w' v := by
 obtain ⟨c0, c1, c2, c3, c4, c5, c6, e, h⟩ := h;exact ⟨c0, c1, c2, c3, c4, c5, c6, e, RepM.on (fun k hk => ⟨hk.1, Nat.lt_of_lt_of_le hk.2 hb.size⟩) (fun k hk => hb.block k hk.2) y h⟩
def RowAt (B : Nat) (l : List Tm) (w : World) (v : Value) : Prop := ∃ ra rn rc, v = .slice ra rn rc ∧ RepMs (fun b => B ≤ b ∧ b < w.heap.size) w l v
theorem RowAt.stay {B : Nat} {l : List Tm} {w w' : World} {v : Value} (hb : Below w.heap.size w w') (h : RowAt B l w v) : RowAt B l w' v := by
 obtain ⟨a, b, c, e, h⟩ := h;exact ⟨a, b, c, e, RepMs.on (fun k hk => ⟨hk.1, Nat.lt_of_lt_of_le hk.2 hb.size⟩) (fun k hk => hb.block k hk.2) h⟩
theorem MadeAt.of {B : Nat} {y : Tm} {w w' : World} {e : Ending} (hB : B ≤ w.heap.size) (h : MadeM y w e w') : ∃ v, e = .returned v ∧ MadeAt B y w' v ∧ Below w.heap.size w w' := by
 obtain ⟨c0, c1, c2, c3, c4, c5, c6, rfl, h, hb⟩ := h;exact ⟨_, rfl, ⟨c0, c1, c2, c3, c4, c5, c6, rfl, RepM.on (fun k hk => ⟨by omega, hk.2⟩) (fun _ _ => rfl) y h⟩, hb⟩
theorem row2_new {B : Nat} {y z : Tm} {w : World} {c0 c1 c2 c3 c4 c5 c6 d0 d1 d2 d3 d4 d5 d6 : Value} (hB : B ≤ w.heap.size) (h1 : RepM (fun b => B ≤ b ∧ b < w.heap.size) w y c0 c1 c2 c3 c4 c5 c6) (h2 : RepM (fun b => B ≤ b ∧ b < w.heap.size) w z d0 d1 d2 d3 d4 d5 d6) :
  RowAt B [y, z] (w.alloc (.cells #[c0, c1, c2, c3, c4, c5, c6, d0, d1, d2, d3, d4, d5, d6] 30)) (.slice (some ⟨w.heap.size, 0, none⟩) 2 2) := by
 refine ⟨_, _, _, rfl, slg_row (alloc_new' w _) ⟨hB, by simp⟩ rfl (by simp) (fun i h => match i, h with
  | 0, _ => RepM.on (fun k hk => ⟨hk.1, by simp; omega⟩) (fun k hk => Below.heap_alloc _ _ _ hk.2) _ h1
  | 1, _ => RepM.on (fun k hk => ⟨hk.1, by simp; omega⟩) (fun k hk => Below.heap_alloc _ _ _ hk.2) _ h2)⟩
theorem deep_two {l : List Tm} (h : ¬ l.length < 2) : ∃ y z m, l = y :: z :: m := by
 match l, h with
 | [], h => simp at h
 | [_], h => simp at h
 | y :: z :: m, _ => exact ⟨y, z, m, rfl⟩
end Go.Proofs.Ytjmnnjikmmglpaa
namespace Go.Proofs.Ytjmnnjikmmglpaa
open Go.RowKit
set_option maxRecDepth 100000 in
set_option maxHeartbeats 16000000 in
theorem term_deep0 (d : Nat) (hd : 1 ≤ d) (hdm : d ≤ 100) (x : Tm) (S : Nat → Prop) (w : World) (c0 c1 c2 c3 c4 c5 c6 : Value) (hS : ∀ k, S k → k < w.heap.size) (hx : RepM S w x c0 c1 c2 c3 c4 c5 c6) (hl : ¬ x.args.length < 2) (hp : pickZ x.kind 4 = 0) :
  Calls Try.prog 11 #[.agg #[c0, c1, c2, c3, c4, c5, c6], .int .i64 ((d : Int) + 1)] w (MadeM (fitTm (d + 1) x) w) := by
 have HS := hS;have HN := Lib.hid hx.bounds.2; have HK1 := Lib.hid hx.bounds.1
 have HV := Lib.hid hx.value; have HL := Lib.hid hx.lst
 obtain ⟨fa, fc, ga, gc, rfl, rfl, rfl, rfl, rfl, rfl, rfl⟩ := hx.form;have HBD := pickZ_bd x.kind 4 (by omega)
 have HE : Hid (fitTm (d + 1) x = .mk 1 (varOf x.name) nV []) := by
  show _ = _
  cases x with
  | mk k n v l =>
   rw [fitTm, if_neg (by intro h; rcases h with h | h; omega; exact hl h)];simp only [Tm.kind] at hp
   rw [if_pos hp]; rfl
 have HP := Lib.hid hp;have hd1 : decide (((d : Int) + 1) ≤ 1) = false := decide_eq_false (by omega);have hl2 : decide ((x.args.length : Int) < 2) = false := decide_eq_false (by omega);clear hx hp HBD;go_enter Try.func11, Try.ntmps11
 go_wp2_with fail
 refine (pick4_any x.kind 4 _ HK1.out (by omega) (by omega)).mono ?_;rintro e w' ⟨rfl, rfl⟩;rw [HP.out];have x0 := boxM_new w (.int .i64 x.kind) (.string x.name) (.int .i64 x.val.kind) (.int .i64 x.val.num) (.string x.val.text) (.slice fa x.val.list.length fc) (.slice ga x.args.length gc);have b0 := below_alloc w (.cells #[.int .i64 x.kind, .string x.name, .int .i64 x.val.kind, .int .i64 x.val.num, .string x.val.text, .slice fa x.val.list.length fc, .slice ga x.args.length gc] 30);have s0 := World.size_alloc w (.cells #[.int .i64 x.kind, .string x.name, .int .i64 x.val.kind, .int .i64 x.val.num, .string x.val.text, .slice fa x.val.list.length fc, .slice ga x.args.length gc] 30);generalize w.alloc (.cells #[.int .i64 x.kind, .string x.name, .int .i64 x.val.kind, .int .i64 x.val.num, .string x.val.text, .slice fa x.val.list.length fc, .slice ga x.args.length gc] 30) = w0 at *;have x1 := boxM_new w0 (.int .i64 0) (.string ⟨#[]⟩) (.int .i64 0) (.int .i64 0) (.string ⟨#[]⟩) (.slice none 0 0) (.slice none 0 0);have b1 := below_alloc w0 (.cells #[.int .i64 0, .string ⟨#[]⟩, .int .i64 0, .int .i64 0, .string ⟨#[]⟩, .slice none 0 0, .slice none 0 0] 30);have s1 := World.size_alloc w0 (.cells #[.int .i64 0, .string ⟨#[]⟩, .int .i64 0, .int .i64 0, .string ⟨#[]⟩, .slice none 0 0, .slice none 0 0] 30);generalize w0.alloc (.cells #[.int .i64 0, .string ⟨#[]⟩, .int .i64 0, .int .i64 0, .string ⟨#[]⟩, .slice none 0 0, .slice none 0 0] 30) = w1 at *;rw [s0] at x1 s1;have X1 := Lib.hid (x0.on b1); have R1 := Lib.hid x1; have B1 := Lib.hid (Below.step b0 b1); have HS1 : Hid (w1.heap.size = w.heap.size + 2) := by show _ = _; omega
 clear x0 b0 x1 b1 s0 s1;obtain ⟨p0, p1, p2, p3, p4, p5, p6⟩ := X1.out.cells;go_wp2_with fail
 refine (Variable_any x.name _ HN.out).mono ?_;rintro e w2 ⟨rfl, hb⟩;have R2 := Lib.hid (R1.out.on hb); have B2 := Lib.hid (Below.step B1.out hb)
 clear hb p0 p1 p2 p3 p4 p5 p6;obtain ⟨r0, r1, r2, r3, r4, r5, r6⟩ := R2.out.cells;have z0 := frozen7 R2.out 0; have z1 := frozen7 R2.out 1; have z2 := frozen7 R2.out 2; have z3 := frozen7 R2.out 3; have z4 := frozen7 R2.out 4; have z5 := frozen7 R2.out 5; have z6 := frozen7 R2.out 6
 go_wp2_with fail
 refine bodyPost_ret (v := .agg #[.int .i64 1, .string (varOf x.name), .int .i64 0, .int .i64 0, .string ⟨#[]⟩, .slice none 0 0, .slice none 0 0]) (by simp [results, Try.results11, go_sem, r0, r1, r2, r3, r4, r5, r6]) rfl ?_;rw [HE.out];exact ⟨_, _, _, _, _, _, _, rfl, repM_mk.2 ⟨rfl, rfl, small64 (by omega), Nat.le_trans (varOf_size _) (by decide), zV_rep _ _, slg_nil⟩, set7_below (b := w.heap.size + 1) B2.out (by omega) _ _ _ _ _ _ _⟩
set_option maxRecDepth 100000 in
set_option maxHeartbeats 16000000 in
theorem term_deep1 (d : Nat) (hd : 1 ≤ d) (hdm : d ≤ 100) (x : Tm) (S : Nat → Prop) (w : World) (c0 c1 c2 c3 c4 c5 c6 : Value) (hS : ∀ k, S k → k < w.heap.size) (hx : RepM S w x c0 c1 c2 c3 c4 c5 c6) (hl : ¬ x.args.length < 2) (hp : pickZ x.kind 4 = 1) :
  Calls Try.prog 11 #[.agg #[c0, c1, c2, c3, c4, c5, c6], .int .i64 ((d : Int) + 1)] w (MadeM (fitTm (d + 1) x) w) := by
 have HS := hS;have HN := Lib.hid hx.bounds.2; have HK1 := Lib.hid hx.bounds.1
 have HV := Lib.hid hx.value; have HL := Lib.hid hx.lst
 obtain ⟨fa, fc, ga, gc, rfl, rfl, rfl, rfl, rfl, rfl, rfl⟩ := hx.form;have HBD := pickZ_bd x.kind 4 (by omega)
 have HE : Hid (fitTm (d + 1) x = .mk 2 ⟨#[]⟩ (fitVal x.val) []) := by
  show _ = _
  cases x with
  | mk k n v l =>
   rw [fitTm, if_neg (by intro h; rcases h with h | h; omega; exact hl h)];simp only [Tm.kind] at hp
   rw [if_neg (by omega), if_pos hp]; rfl
 have HP := Lib.hid hp;have hd1 : decide (((d : Int) + 1) ≤ 1) = false := decide_eq_false (by omega);have hl2 : decide ((x.args.length : Int) < 2) = false := decide_eq_false (by omega);clear hx hp HBD;go_enter Try.func11, Try.ntmps11
 go_wp2_with fail
 refine (pick4_any x.kind 4 _ HK1.out (by omega) (by omega)).mono ?_;rintro e w' ⟨rfl, rfl⟩;rw [HP.out];have x0 := boxM_new w (.int .i64 x.kind) (.string x.name) (.int .i64 x.val.kind) (.int .i64 x.val.num) (.string x.val.text) (.slice fa x.val.list.length fc) (.slice ga x.args.length gc);have b0 := below_alloc w (.cells #[.int .i64 x.kind, .string x.name, .int .i64 x.val.kind, .int .i64 x.val.num, .string x.val.text, .slice fa x.val.list.length fc, .slice ga x.args.length gc] 30);have s0 := World.size_alloc w (.cells #[.int .i64 x.kind, .string x.name, .int .i64 x.val.kind, .int .i64 x.val.num, .string x.val.text, .slice fa x.val.list.length fc, .slice ga x.args.length gc] 30);generalize w.alloc (.cells #[.int .i64 x.kind, .string x.name, .int .i64 x.val.kind, .int .i64 x.val.num, .string x.val.text, .slice fa x.val.list.length fc, .slice ga x.args.length gc] 30) = w0 at *;have x1 := boxM_new w0 (.int .i64 0) (.string ⟨#[]⟩) (.int .i64 0) (.int .i64 0) (.string ⟨#[]⟩) (.slice none 0 0) (.slice none 0 0);have b1 := below_alloc w0 (.cells #[.int .i64 0, .string ⟨#[]⟩, .int .i64 0, .int .i64 0, .string ⟨#[]⟩, .slice none 0 0, .slice none 0 0] 30);have s1 := World.size_alloc w0 (.cells #[.int .i64 0, .string ⟨#[]⟩, .int .i64 0, .int .i64 0, .string ⟨#[]⟩, .slice none 0 0, .slice none 0 0] 30);generalize w0.alloc (.cells #[.int .i64 0, .string ⟨#[]⟩, .int .i64 0, .int .i64 0, .string ⟨#[]⟩, .slice none 0 0, .slice none 0 0] 30) = w1 at *;rw [s0] at x1 s1;have X1 := Lib.hid (x0.on b1); have R1 := Lib.hid x1; have B1 := Lib.hid (Below.step b0 b1); have HS1 : Hid (w1.heap.size = w.heap.size + 2) := by show _ = _; omega
 clear x0 b0 x1 b1 s0 s1;obtain ⟨p0, p1, p2, p3, p4, p5, p6⟩ := X1.out.cells;go_wp2_with fail
 refine (Fit_any x.val w1.heap.size w1 _ _ _ _ (Nat.le_refl _) (RepG.on (fun k hk => by have := HS k hk; have := HS1.out; omega) (fun k hk => B1.out.block k (HS k hk)) x.val HV.out)).mono ?_;rintro e w2 ⟨d0, d1, d2, d3, rfl, hrep, hb⟩;obtain ⟨fa', fc', rfl, rfl, rfl, rfl⟩ := hrep.form;have HR2 := Lib.hid hrep;have hyb := RepG.bounds hrep;have HYB := Lib.hid hyb;have HFV : Hid (fitVal x.val = if (fitV 4 x.val).kind = 3 then .mk 3 (fitV 4 x.val).num (relOf (fitV 4 x.val).text) (fitV 4 x.val).list else fitV 4 x.val) := by show _ = _; rfl
 generalize fitV 4 x.val = y at *;have R2 := Lib.hid (R1.out.on hb); have B2 := Lib.hid (Below.step B1.out hb)
 have HS2 : Hid (w.heap.size + 2 ≤ w2.heap.size) := by show _ ≤ _; have := HS1.out; have := hb.size; omega
 clear hb hrep hyb p0 p1 p2 p3 p4 p5 p6
 by_cases hk : y.kind = 3
 ·have hk' : (y.kind == 3) = true := by simp [hk]
  have HK3 := Lib.hid hk;clear hk;go_wp2_with fail
  have v3 := boxed_new w2 (.int .i64 y.kind) (.int .i64 y.num) (.string y.text) (.slice fa' y.list.length fc');have b3 := below_alloc w2 (.cells #[.int .i64 y.kind, .int .i64 y.num, .string y.text, .slice fa' y.list.length fc'] 28);generalize w2.alloc (.cells #[.int .i64 y.kind, .int .i64 y.num, .string y.text, .slice fa' y.list.length fc'] 28) = w3 at *;generalize hv3 : w2.heap.size = bv at v3 ⊢;have HV3 := Lib.hid hv3;clear hv3;refine (Relation_any y.text _ HYB.out.2.2).mono ?_;rintro e w4 ⟨rfl, hb⟩;have V4 := Lib.hid (v3.on hb);have b4 := Below.step b3 hb;have R4 := Lib.hid (R2.out.on b4); have B4 := Lib.hid (Below.step B2.out b4); have H24 := Lib.hid b4
  have HBV : Hid (bv < w4.heap.size) := V4.out.lt;clear v3 b3 b4 hb;obtain ⟨q0, q1, q2, q3⟩ := V4.out.cells;have y2 := frozen_of_row w4 _ 2 _ _ V4.out;obtain ⟨r0, r1, r2, r3, r4, r5, r6⟩ := R4.out.cells;have z0 := frozen7 R4.out 0; have z1 := frozen7 R4.out 1; have z2 := frozen7 R4.out 2; have z3 := frozen7 R4.out 3; have z4 := frozen7 R4.out 4; have z5 := frozen7 R4.out 5; have z6 := frozen7 R4.out 6
  have hne1 : bv ≠ w.heap.size + 1 := by have := HV3.out; have := HS2.out; omega
  have hne2 : w.heap.size + 1 ≠ bv := fun e => hne1 e.symm
  have HNE := Lib.hid hne1;go_wp2_with fail
  refine bodyPost_ret (v := .agg #[.int .i64 2, .string ⟨#[]⟩, .int .i64 y.kind, .int .i64 y.num, .string (relOf y.text), .slice fa' y.list.length fc', .slice none 0 0]) (by simp [results, Try.results11, go_sem, r0, r1, r2, r3, r4, r5, r6]) rfl ?_;rw [HE.out];refine ⟨_, _, _, _, _, _, _, rfl, repM_mk.2 ⟨rfl, rfl, small64 (by omega), by decide, ?_, slg_nil⟩, set7_below (b := w.heap.size + 1) (B4.out.setCell (p := ⟨bv, 2, none⟩) (by have := HV3.out; have := HS2.out; simp; omega) _) (by omega) _ _ _ _ _ _ _⟩;rw [HFV.out, if_pos HK3.out];refine repG_mk.2 ⟨by rw [HK3.out], rfl, rfl, small64 (by omega), HYB.out.2.1, Nat.le_trans (relOf_size _) (by decide), RepLG.on (fun k hk => ⟨by have := HS1.out; omega, ?sz⟩) (fun k hk => ?eq) HR2.out.lst⟩
  case sz =>
   show k < (set7 (w4.setCell ⟨bv, 2, none⟩ _) (w.heap.size + 1) _ _ _ _ _ _ _).heap.size
   rw [set7_size];simp only [World.size_setCell]
   have := H24.out.size; omega
  case eq =>
   show (set7 (w4.setCell ⟨bv, 2, none⟩ _) (w.heap.size + 1) _ _ _ _ _ _ _).heap[k]? = _
   rw [set7_other _ _ _ _ _ _ _ _ _ _ (by have := HS1.out; omega), Below.heap_setCell _ _ _ _ (by have := HV3.out; show k ≠ bv; omega)];exact H24.out.block k hk.2
 ·have hk' : (y.kind == 3) = false := by simp [hk]
  have HK3 := Lib.hid hk;clear hk;have v3 := boxed_new w2 (.int .i64 y.kind) (.int .i64 y.num) (.string y.text) (.slice fa' y.list.length fc');have b3 := below_alloc w2 (.cells #[.int .i64 y.kind, .int .i64 y.num, .string y.text, .slice fa' y.list.length fc'] 28);have R3 := Lib.hid (R2.out.on b3);have B3 := Lib.hid (Below.step B2.out b3); have H23 := Lib.hid b3
  obtain ⟨r0, r1, r2, r3, r4, r5, r6⟩ := R3.out.cells;have z0 := frozen7 R3.out 0; have z1 := frozen7 R3.out 1; have z2 := frozen7 R3.out 2; have z3 := frozen7 R3.out 3; have z4 := frozen7 R3.out 4; have z5 := frozen7 R3.out 5; have z6 := frozen7 R3.out 6
  clear v3 b3;go_wp2_with fail
  refine bodyPost_ret (v := .agg #[.int .i64 2, .string ⟨#[]⟩, .int .i64 y.kind, .int .i64 y.num, .string y.text, .slice fa' y.list.length fc', .slice none 0 0]) (by simp [results, Try.results11, go_sem, r0, r1, r2, r3, r4, r5, r6]) rfl ?_;rw [HE.out];refine ⟨_, _, _, _, _, _, _, rfl, repM_mk.2 ⟨rfl, rfl, small64 (by omega), by decide, ?_, slg_nil⟩, set7_below (b := w.heap.size + 1) B3.out (by omega) _ _ _ _ _ _ _⟩;rw [HFV.out, if_neg HK3.out];refine RepG.on (fun k hk => ⟨by have := HS1.out; omega, ?sz⟩) (fun k hk => ?eq) y HR2.out
  case sz =>
   show k < (set7 (w2.alloc _) (w.heap.size + 1) _ _ _ _ _ _ _).heap.size
   rw [set7_size];have := H23.out.size; omega
  case eq =>
   show (set7 (w2.alloc _) (w.heap.size + 1) _ _ _ _ _ _ _).heap[k]? = _
   rw [set7_other _ _ _ _ _ _ _ _ _ _ (by have := HS1.out; omega)];exact H23.out.block k hk.2
end Go.Proofs.Ytjmnnjikmmglpaa
namespace Go.Proofs.Ytjmnnjikmmglpaa
open Go.RowKit
set_option maxRecDepth 100000 in
set_option maxHeartbeats 16000000 in
theorem term_op (d : Nat) (hd : 1 ≤ d) (hdm : d ≤ 100) (ih : FitTmAt d) (x : Tm) (S : Nat → Prop) (w : World) (c0 c1 c2 c3 c4 c5 c6 : Value) (hS : ∀ k, S k → k < w.heap.size) (hx : RepM S w x c0 c1 c2 c3 c4 c5 c6) (hl : ¬ x.args.length < 2) (hp : pickZ x.kind 4 = 3) :
  Calls Try.prog 11 #[.agg #[c0, c1, c2, c3, c4, c5, c6], .int .i64 ((d : Int) + 1)] w (MadeM (fitTm (d + 1) x) w) := by
 have HS := hS;have HN := Lib.hid hx.bounds.2; have HK1 := Lib.hid hx.bounds.1
 have HV := Lib.hid hx.value; have HL := Lib.hid hx.lst
 obtain ⟨fa, fc, ga, gc, rfl, rfl, rfl, rfl, rfl, rfl, rfl⟩ := hx.form;have HBD := pickZ_bd x.kind 4 (by omega);obtain ⟨y0, y1, m, hargs⟩ := deep_two hl
 have HE : Hid (fitTm (d + 1) x = .mk 4 (fitOp (pickZ (x.name.size : Int) 3).toNat) nV [fitTm d y0, fitTm d y1]) := by
  show _ = _
  cases x with
  | mk k n v l =>
   simp only [Tm.kind] at hp
   simp only [Tm.args] at hargs
   rw [fitTm, if_neg (by intro h; rcases h with h | h; omega; exact hl h), if_neg (by omega), if_neg (by omega), if_neg (by omega), hargs]; rfl
 have HP := Lib.hid hp;have hd1 : decide (((d : Int) + 1) ≤ 1) = false := decide_eq_false (by omega);have hl2 : decide ((x.args.length : Int) < 2) = false := decide_eq_false (by omega);have HW1 : Hid (wrap64 ((d : Int) + 1 - 1) = (d : Int)) := by show _ = _; unfold wrap64; omega
 have HW2 : Hid (IntKind.i64.wrap (d : Int) = (d : Int)) := by show _ = _; rw [IntKind.wrap_i64]; omega
 have hlen : (2 : Int) ≤ (x.args.length : Int) := by omega
 have HI0 : Hid ((0 : Int) < (x.args.length : Int)) := by show _ < _; omega
 have HI1 : Hid ((1 : Int) < (x.args.length : Int)) := by show _ < _; omega
 have hns := hx.bounds.2;unfold maxLen at hns;obtain ⟨-, hcap, lb, lo, fa0, fc0, ga0, gc0, hga, hSb, g0, g1, g2, g3, g4, g5, g6, gy0⟩ := RepMs.at HL.out 0 (by omega);obtain ⟨-, -, lb', lo', fa1, fc1, ga1, gc1, hga', -, k0, k1, k2, k3, k4, k5, k6, gy1⟩ := RepMs.at HL.out 1 (by omega);have e1 := hga.symm.trans hga';simp only [Option.some.injEq, Addr.mk.injEq, and_true] at e1
 obtain ⟨rfl, rfl⟩ := e1;have a0 : x.args[0] = y0 := by simp [hargs]
 have a1 : x.args[1] = y1 := by simp [hargs]
 rw [a0] at g0 g1 g2 g3 g4 g5 g6 gy0;rw [a1] at k0 k1 k2 k3 k4 k5 k6 gy1;have HGA := Lib.hid hga;have HY0 : Hid (RepM S w y0 _ _ _ _ _ _ _) := Lib.hid gy0;have HY1 : Hid (RepM S w y1 _ _ _ _ _ _ _) := Lib.hid gy1;have HLB : Hid (lb < w.heap.size) := Lib.hid (hS lb hSb);have HC0 := Lib.hid (And.intro g0 (And.intro g1 (And.intro g2 (And.intro g3 (And.intro g4 (And.intro g5 g6))))));have HC1 := Lib.hid (And.intro k0 (And.intro k1 (And.intro k2 (And.intro k3 (And.intro k4 (And.intro k5 k6))))));clear hx hp HBD hl hargs hga hga' hSb g0 g1 g2 g3 g4 g5 g6 gy0 k0 k1 k2 k3 k4 k5 k6 gy1 a0 a1;go_enter Try.func11, Try.ntmps11
 go_wp2_with fail
 refine (pick4_any x.kind 4 _ HK1.out (by omega) (by omega)).mono ?_;rintro e w' ⟨rfl, rfl⟩;rw [HP.out];have x0 := boxM_new w (.int .i64 x.kind) (.string x.name) (.int .i64 x.val.kind) (.int .i64 x.val.num) (.string x.val.text) (.slice fa x.val.list.length fc) (.slice ga x.args.length gc);have b0 := below_alloc w (.cells #[.int .i64 x.kind, .string x.name, .int .i64 x.val.kind, .int .i64 x.val.num, .string x.val.text, .slice fa x.val.list.length fc, .slice ga x.args.length gc] 30);have s0 := World.size_alloc w (.cells #[.int .i64 x.kind, .string x.name, .int .i64 x.val.kind, .int .i64 x.val.num, .string x.val.text, .slice fa x.val.list.length fc, .slice ga x.args.length gc] 30);generalize w.alloc (.cells #[.int .i64 x.kind, .string x.name, .int .i64 x.val.kind, .int .i64 x.val.num, .string x.val.text, .slice fa x.val.list.length fc, .slice ga x.args.length gc] 30) = w0 at *;have x1 := boxM_new w0 (.int .i64 0) (.string ⟨#[]⟩) (.int .i64 0) (.int .i64 0) (.string ⟨#[]⟩) (.slice none 0 0) (.slice none 0 0);have b1 := below_alloc w0 (.cells #[.int .i64 0, .string ⟨#[]⟩, .int .i64 0, .int .i64 0, .string ⟨#[]⟩, .slice none 0 0, .slice none 0 0] 30);have s1 := World.size_alloc w0 (.cells #[.int .i64 0, .string ⟨#[]⟩, .int .i64 0, .int .i64 0, .string ⟨#[]⟩, .slice none 0 0, .slice none 0 0] 30);generalize w0.alloc (.cells #[.int .i64 0, .string ⟨#[]⟩, .int .i64 0, .int .i64 0, .string ⟨#[]⟩, .slice none 0 0, .slice none 0 0] 30) = w1 at *;rw [s0] at x1 s1;have X1 := Lib.hid (x0.on b1); have R1 := Lib.hid x1; have B1 := Lib.hid (Below.step b0 b1); have HS1 : Hid (w1.heap.size = w.heap.size + 2) := by show _ = _; omega
 clear x0 b0 x1 b1 s0 s1;obtain ⟨p0, p1, p2, p3, p4, p5, p6⟩ := X1.out.cells;obtain ⟨t0, t1, t2, t3, t4, t5, t6⟩ := (X1.out.on (below_alloc w1 (.cells #[.string ⟨#[43]⟩, .string ⟨#[45]⟩, .string ⟨#[42]⟩] 9))).cells;go_wp2_with fail
 have b2 := below_alloc w1 (.cells #[.string ⟨#[43]⟩, .string ⟨#[45]⟩, .string ⟨#[42]⟩] 9);have n2 := alloc_new' w1 (.cells #[.string ⟨#[43]⟩, .string ⟨#[45]⟩, .string ⟨#[42]⟩] 9);generalize w1.alloc (.cells #[.string ⟨#[43]⟩, .string ⟨#[45]⟩, .string ⟨#[42]⟩] 9) = w2 at *;generalize hbs : w1.heap.size = bs at n2 ⊢;refine (pick4_any (x.name.size : Int) 3 _ ⟨by omega, by omega⟩ (by omega) (by omega)).mono ?_;rintro e w' ⟨rfl, rfl⟩;have hpb := pickZ_bd (x.name.size : Int) 3 (by omega);obtain ⟨j, hj⟩ := Int.eq_ofNat_of_zero_le hpb.1;rw [hj] at hpb HE ⊢;rw [Int.toNat_natCast] at HE;have hj3 : j < 3 := by omega
 have hcj : w2.cell? ⟨bs, j, none⟩ = some (.string (fitOp j)) := by
  match j, hj3 with
  | 0, _ => exact cell_of_block' n2 _ rfl
  | 1, _ => exact cell_of_block' n2 _ rfl
  | 2, _ => exact cell_of_block' n2 _ rfl
 have hj0 : (0 : Int) ≤ (j : Int) := Int.natCast_nonneg j;have hj4 : (j : Int) < 3 := by omega
 have X2 := Lib.hid (X1.out.on b2); have R2 := Lib.hid (R1.out.on b2); have B2 := Lib.hid (Below.step B1.out b2)
 have HSZ2 : Hid (w.heap.size + 2 ≤ w2.heap.size) := by show _ ≤ _; have := HS1.out; have := b2.size; omega
 have HCELL : Hid (∀ w' : World, Below w2.heap.size w2 w' → w'.cell? ⟨lb, lo, none⟩ = some (.int .i64 y0.kind) ∧ w'.cell? ⟨lb, lo + 1, none⟩ = some (.string y0.name) ∧ w'.cell? ⟨lb, lo + 2, none⟩ = some (.int .i64 y0.val.kind) ∧ w'.cell? ⟨lb, lo + 3, none⟩ = some (.int .i64 y0.val.num) ∧ w'.cell? ⟨lb, lo + 4, none⟩ = some (.string y0.val.text) ∧ w'.cell? ⟨lb, lo + 5, none⟩ = some (.slice fa0 y0.val.list.length fc0) ∧ w'.cell? ⟨lb, lo + 6, none⟩ = some (.slice ga0 y0.args.length gc0) ∧ w'.cell? ⟨lb, lo + 7, none⟩ = some (.int .i64 y1.kind) ∧ w'.cell? ⟨lb, lo + 8, none⟩ = some (.string y1.name) ∧ w'.cell? ⟨lb, lo + 9, none⟩ = some (.int .i64 y1.val.kind) ∧ w'.cell? ⟨lb, lo + 10, none⟩ = some (.int .i64 y1.val.num) ∧ w'.cell? ⟨lb, lo + 11, none⟩ = some (.string y1.val.text) ∧ w'.cell? ⟨lb, lo + 12, none⟩ = some (.slice fa1 y1.val.list.length fc1) ∧ w'.cell? ⟨lb, lo + 13, none⟩ = some (.slice ga1 y1.args.length gc1)) := Lib.hid (fun w' hb => by
  have hbb := fun k (hk : k < w.heap.size) => (Below.step B2.out hb).block k hk
  have cell : ∀ i v, w.cell? ⟨lb, i, none⟩ = some v → w'.cell? ⟨lb, i, none⟩ = some v := fun i v h => (World.cell?_of_block (w := w) (hbb lb HLB.out)).trans h
  have h0 := HC0.out;have h1 := HC1.out;simp only [Nat.zero_mul, Nat.add_zero, Nat.one_mul] at h0 h1
  refine ⟨cell _ _ h0.1, cell _ _ h0.2.1, cell _ _ h0.2.2.1, cell _ _ h0.2.2.2.1, cell _ _ h0.2.2.2.2.1, cell _ _ h0.2.2.2.2.2.1, cell _ _ h0.2.2.2.2.2.2, cell _ _ h1.1, cell _ _ h1.2.1, cell _ _ h1.2.2.1, cell _ _ h1.2.2.2.1, cell _ _ h1.2.2.2.2.1, cell _ _ h1.2.2.2.2.2.1, cell _ _ h1.2.2.2.2.2.2⟩)
 clear n2 b2 hj hpb p0 p1 p2 p3 p4 p5 p6 hbs t0 t1 t2 t3 t4 t5 t6;obtain ⟨p0, p1, p2, p3, p4, p5, p6⟩ := X2.out.cells;go_wp2_with fail
 clear hcj hj0 hj4 p0 p1 p2 p3 p4 p5 p6;refine wp_region_factsL (by rfl) 103 (by rfl) (by kernel_rfl) (FA [.e (.string (fitOp j)), .e (.pointer (some ⟨w.heap.size, 6, none⟩)), .e (.slice (some ⟨lb, lo, none⟩) x.args.length gc), .e (.pointer (some ⟨lb, lo, none⟩)), .e (.agg #[.int .i64 y0.kind, .string y0.name, .int .i64 y0.val.kind, .int .i64 y0.val.num, .string y0.val.text, .slice fa0 y0.val.list.length fc0, .slice ga0 y0.args.length gc0]), .e (.int .i64 ((d : Int) + 1)), .e (.int .i64 (d : Int)), .p (MadeAt (w.heap.size + 2) (fitTm d y0)), .e (.pointer (some ⟨w.heap.size, 6, none⟩)), .e (.slice (some ⟨lb, lo, none⟩) x.args.length gc), .e (.pointer (some ⟨lb, lo + 7, none⟩)), .e (.agg #[.int .i64 y1.kind, .string y1.name, .int .i64 y1.val.kind, .int .i64 y1.val.num, .string y1.val.text, .slice fa1 y1.val.list.length fc1, .slice ga1 y1.args.length gc1]), .e (.int .i64 ((d : Int) + 1)), .e (.int .i64 (d : Int)), .p (MadeAt (w.heap.size + 2) (fitTm d y1)), .p (RowAt (w.heap.size + 2) [fitTm d y0, fitTm d y1]), .p fun wz vz => ∃ sl, vz = .agg #[.int .i64 4, .string (fitOp j), .int .i64 0, .int .i64 0, .string ⟨#[]⟩, .slice none 0 0, sl] ∧ RowAt (w.heap.size + 2) [fitTm d y0, fitTm d y1] wz sl]) (fun w' => Below w2.heap.size w2 w') (Below.drew (Below.refl _ _)) ⟨?s0, ?s1, ?s2, ?s3, ?s4, ?s5, ?s6, ?s7, ?s8, ?s9, ?s10, ?s11, ?s12, ?s13, ?s14, ?s15, ?s16, trivial⟩ (by rfl) ?last (by decide)
 case s0 =>
  intro a w' hoff hg hdep K hK;have h10 := off_at hoff 10 (v := .string (fitOp j)) (by kernel_rfl) rfl;rw [if_pos (by rfl)];go_simp;exact hK.out _ _ hg rfl (fun _ _ h => h)
 case s1 =>
  intro a w' hoff hg hdep K hK;have h2 := off_at hoff 2 (v := .pointer (some ⟨w.heap.size, 0, none⟩)) (by kernel_rfl) rfl;rw [if_pos (by rfl)];go_simp;exact hK.out _ _ hg rfl (fun _ _ h => h)
 case s2 =>
  intro a w' hoff hg hdep K hK;obtain ⟨_, e1, rfl⟩ := hdep 1 _ 87 (by kernel_rfl) rfl rfl;rw [if_pos (by rfl)];obtain ⟨p0, p1, p2, p3, p4, p5, p6⟩ := (X2.out.on hg).cells; rw [HGA.out] at p6; have HC := HCELL.out w' hg; obtain ⟨q0, q1, q2, q3, q4, q5, q6, q7, q8, q9, q10, q11, q12, q13⟩ := HC
  go_simp;exact hK.out _ _ hg rfl (fun _ _ h => h)
 case s3 =>
  intro a w' hoff hg hdep K hK;obtain ⟨_, e2, rfl⟩ := hdep 2 _ 88 (by kernel_rfl) rfl rfl;rw [if_pos (by rfl)];have hi0 : 0 < x.args.length := by have := HI0.out; omega
  have hi0i := HI0.out;go_simp;exact hK.out _ _ hg rfl (fun _ _ h => h)
 case s4 =>
  intro a w' hoff hg hdep K hK;obtain ⟨_, e3, rfl⟩ := hdep 3 _ 89 (by kernel_rfl) rfl rfl;rw [if_pos (by rfl)];obtain ⟨p0, p1, p2, p3, p4, p5, p6⟩ := (X2.out.on hg).cells; rw [HGA.out] at p6; have HC := HCELL.out w' hg; obtain ⟨q0, q1, q2, q3, q4, q5, q6, q7, q8, q9, q10, q11, q12, q13⟩ := HC
  go_simp;exact hK.out _ _ hg rfl (fun _ _ h => h)
 case s5 =>
  intro a w' hoff hg hdep K hK;have h1 := off_at hoff 1 (v := .int .i64 ((d : Int) + 1)) (by kernel_rfl) rfl;rw [if_pos (by rfl)];go_simp;exact hK.out _ _ hg rfl (fun _ _ h => h)
 case s6 =>
  intro a w' hoff hg hdep K hK;obtain ⟨_, e5, rfl⟩ := hdep 5 _ 91 (by kernel_rfl) rfl rfl;rw [if_pos (by rfl)];have hw1 := HW1.out; have hw2 := HW2.out
  go_simp;exact hK.out _ _ hg rfl (fun _ _ h => h)
 case s7 =>
  intro a w' hoff hg hdep K hK;obtain ⟨_, e4, rfl⟩ := hdep 4 _ 90 (by kernel_rfl) rfl rfl;obtain ⟨_, e6, rfl⟩ := hdep 6 _ 92 (by kernel_rfl) rfl rfl;rw [if_pos (by rfl)];go_simp;refine (ih y0 S w' _ _ _ _ _ _ _ (fun k hk => Nat.lt_of_lt_of_le (Nat.lt_of_lt_of_le (HS k hk) B2.out.size) hg.size) (RepM.on (fun _ h => h) (fun k hk => (Below.step B2.out hg).block k (HS k hk)) y0 HY0.out)).mono ?_;intro e w2' hm;obtain ⟨u, rfl, hp, hb⟩ := MadeAt.of (B := (w.heap.size + 2)) (Nat.le_trans HSZ2.out hg.size) hm;exact hK.out _ _ (Below.step hg hb) hp (fSt ⟨fun _ h => MadeAt.stay hb h, fun _ h => MadeAt.stay hb h, fun _ h => RowAt.stay hb h, fun _ h => h.elim fun sl hs => ⟨sl, hs.1, RowAt.stay hb hs.2⟩, trivial⟩)
 case s8 =>
  intro a w' hoff hg hdep K hK;have h2 := off_at hoff 2 (v := .pointer (some ⟨w.heap.size, 0, none⟩)) (by kernel_rfl) rfl;rw [if_pos (by rfl)];go_simp;exact hK.out _ _ hg rfl (fun _ _ h => h)
 case s9 =>
  intro a w' hoff hg hdep K hK;obtain ⟨_, e8, rfl⟩ := hdep 8 _ 94 (by kernel_rfl) rfl rfl;rw [if_pos (by rfl)];obtain ⟨p0, p1, p2, p3, p4, p5, p6⟩ := (X2.out.on hg).cells; rw [HGA.out] at p6; have HC := HCELL.out w' hg; obtain ⟨q0, q1, q2, q3, q4, q5, q6, q7, q8, q9, q10, q11, q12, q13⟩ := HC
  go_simp;exact hK.out _ _ hg rfl (fun _ _ h => h)
 case s10 =>
  intro a w' hoff hg hdep K hK;obtain ⟨_, e9, rfl⟩ := hdep 9 _ 95 (by kernel_rfl) rfl rfl;rw [if_pos (by rfl)];have hi1i := HI1.out;go_simp;exact hK.out _ _ hg rfl (fun _ _ h => h)
 case s11 =>
  intro a w' hoff hg hdep K hK;obtain ⟨_, e10, rfl⟩ := hdep 10 _ 96 (by kernel_rfl) rfl rfl;rw [if_pos (by rfl)];obtain ⟨p0, p1, p2, p3, p4, p5, p6⟩ := (X2.out.on hg).cells; rw [HGA.out] at p6; have HC := HCELL.out w' hg; obtain ⟨q0, q1, q2, q3, q4, q5, q6, q7, q8, q9, q10, q11, q12, q13⟩ := HC
  go_simp;exact hK.out _ _ hg rfl (fun _ _ h => h)
 case s12 =>
  intro a w' hoff hg hdep K hK;have h1 := off_at hoff 1 (v := .int .i64 ((d : Int) + 1)) (by kernel_rfl) rfl;rw [if_pos (by rfl)];go_simp;exact hK.out _ _ hg rfl (fun _ _ h => h)
 case s13 =>
  intro a w' hoff hg hdep K hK;obtain ⟨_, e12, rfl⟩ := hdep 12 _ 98 (by kernel_rfl) rfl rfl;rw [if_pos (by rfl)];have hw1 := HW1.out; have hw2 := HW2.out
  go_simp;exact hK.out _ _ hg rfl (fun _ _ h => h)
 case s14 =>
  intro a w' hoff hg hdep K hK;obtain ⟨_, e11, rfl⟩ := hdep 11 _ 97 (by kernel_rfl) rfl rfl;obtain ⟨_, e13, rfl⟩ := hdep 13 _ 99 (by kernel_rfl) rfl rfl;rw [if_pos (by rfl)];go_simp;refine (ih y1 S w' _ _ _ _ _ _ _ (fun k hk => Nat.lt_of_lt_of_le (Nat.lt_of_lt_of_le (HS k hk) B2.out.size) hg.size) (RepM.on (fun _ h => h) (fun k hk => (Below.step B2.out hg).block k (HS k hk)) y1 HY1.out)).mono ?_;intro e w2' hm;obtain ⟨u, rfl, hp, hb⟩ := MadeAt.of (B := (w.heap.size + 2)) (Nat.le_trans HSZ2.out hg.size) hm;exact hK.out _ _ (Below.step hg hb) hp (fSt ⟨fun _ h => MadeAt.stay hb h, fun _ h => MadeAt.stay hb h, fun _ h => RowAt.stay hb h, fun _ h => h.elim fun sl hs => ⟨sl, hs.1, RowAt.stay hb hs.2⟩, trivial⟩)
 case s15 =>
  intro a w' hoff hg hdep K hK;obtain ⟨v7, e7, (g7 : MadeAt (w.heap.size + 2) (fitTm d y0) w' v7)⟩ := hdep 7 _ 93 (by kernel_rfl) rfl rfl;obtain ⟨v14, e14, (g14 : MadeAt (w.heap.size + 2) (fitTm d y1) w' v14)⟩ := hdep 14 _ 100 (by kernel_rfl) rfl rfl;obtain ⟨c0, c1, c2, c3, c4, c5, c6, rfl, k7⟩ := g7;obtain ⟨d0, d1, d2, d3, d4, d5, d6, rfl, k14⟩ := g14;rw [if_pos (by rfl)];go_simp;have hb := below_alloc w' (.cells #[c0, c1, c2, c3, c4, c5, c6, d0, d1, d2, d3, d4, d5, d6] 30);have hp := row2_new (B := (w.heap.size + 2)) (Nat.le_trans HSZ2.out hg.size) k7 k14;exact hK.out _ _ (Below.step hg hb) hp (fSt ⟨fun _ h => MadeAt.stay hb h, fun _ h => MadeAt.stay hb h, fun _ h => RowAt.stay hb h, fun _ h => h.elim fun sl hs => ⟨sl, hs.1, RowAt.stay hb hs.2⟩, trivial⟩)
 case s16 =>
  intro a w' hoff hg hdep K hK;obtain ⟨_, e0, rfl⟩ := hdep 0 _ 86 (by kernel_rfl) rfl rfl;obtain ⟨v15, e15, (g15 : RowAt (w.heap.size + 2) [fitTm d y0, fitTm d y1] w' v15)⟩ := hdep 15 _ 101 (by kernel_rfl) rfl rfl;obtain ⟨ra, rn, rc, rfl, k15⟩ := g15;have hp : ∃ sl, (.agg #[.int .i64 4, .string (fitOp j), .int .i64 0, .int .i64 0, .string ⟨#[]⟩, .slice none 0 0, .slice ra rn rc] : Value) = .agg #[.int .i64 4, .string (fitOp j), .int .i64 0, .int .i64 0, .string ⟨#[]⟩, .slice none 0 0, sl] ∧ RowAt (w.heap.size + 2) [fitTm d y0, fitTm d y1] w' sl := ⟨_, rfl, _, _, _, rfl, k15⟩;rw [if_pos (by rfl)];go_simp;exact hK.out _ _ hg hp (fun _ _ h => h)
 case last =>
  intro a w' hoff hg hf;obtain ⟨_, e0, rfl⟩ := hf 0 _ 86 (by decide) rfl rfl;obtain ⟨_, e1, rfl⟩ := hf 1 _ 87 (by decide) rfl rfl;obtain ⟨_, e2, rfl⟩ := hf 2 _ 88 (by decide) rfl rfl;obtain ⟨_, e3, rfl⟩ := hf 3 _ 89 (by decide) rfl rfl;obtain ⟨_, e4, rfl⟩ := hf 4 _ 90 (by decide) rfl rfl;obtain ⟨_, e5, rfl⟩ := hf 5 _ 91 (by decide) rfl rfl;obtain ⟨_, e6, rfl⟩ := hf 6 _ 92 (by decide) rfl rfl;obtain ⟨v7, e7, (g7 : MadeAt (w.heap.size + 2) (fitTm d y0) w' v7)⟩ := hf 7 _ 93 (by decide) rfl rfl;obtain ⟨_, e8, rfl⟩ := hf 8 _ 94 (by decide) rfl rfl;obtain ⟨_, e9, rfl⟩ := hf 9 _ 95 (by decide) rfl rfl;obtain ⟨_, e10, rfl⟩ := hf 10 _ 96 (by decide) rfl rfl;obtain ⟨_, e11, rfl⟩ := hf 11 _ 97 (by decide) rfl rfl;obtain ⟨_, e12, rfl⟩ := hf 12 _ 98 (by decide) rfl rfl;obtain ⟨_, e13, rfl⟩ := hf 13 _ 99 (by decide) rfl rfl;obtain ⟨v14, e14, (g14 : MadeAt (w.heap.size + 2) (fitTm d y1) w' v14)⟩ := hf 14 _ 100 (by decide) rfl rfl;obtain ⟨v15, e15, (g15 : RowAt (w.heap.size + 2) [fitTm d y0, fitTm d y1] w' v15)⟩ := hf 15 _ 101 (by decide) rfl rfl;obtain ⟨v16, e16, (g16 : ∃ sl, v16 = .agg #[.int .i64 4, .string (fitOp j), .int .i64 0, .int .i64 0, .string ⟨#[]⟩, .slice none 0 0, sl] ∧ RowAt (w.heap.size + 2) [fitTm d y0, fitTm d y1] w' sl)⟩ := hf 16 _ 102 (by decide) rfl rfl;obtain ⟨sl, rfl, ra, rn, rc, rfl, k16⟩ := g16;have R3 := Lib.hid (R2.out.on hg); have B3 := Lib.hid (Below.step B2.out hg)
  obtain ⟨r0, r1, r2, r3, r4, r5, r6⟩ := R3.out.cells;have z0 := frozen7 R3.out 0; have z1 := frozen7 R3.out 1; have z2 := frozen7 R3.out 2; have z3 := frozen7 R3.out 3; have z4 := frozen7 R3.out 4; have z5 := frozen7 R3.out 5; have z6 := frozen7 R3.out 6
  rw [if_pos (by rfl)];rw [hoff.sets [(86, .string (fitOp j)), (87, .pointer (some ⟨w.heap.size, 6, none⟩)), (88, .slice (some ⟨lb, lo, none⟩) x.args.length gc), (89, .pointer (some ⟨lb, lo, none⟩)), (90, .agg #[.int .i64 y0.kind, .string y0.name, .int .i64 y0.val.kind, .int .i64 y0.val.num, .string y0.val.text, .slice fa0 y0.val.list.length fc0, .slice ga0 y0.args.length gc0]), (91, .int .i64 ((d : Int) + 1)), (92, .int .i64 (d : Int)), (93, v7), (94, .pointer (some ⟨w.heap.size, 6, none⟩)), (95, .slice (some ⟨lb, lo, none⟩) x.args.length gc), (96, .pointer (some ⟨lb, lo + 7, none⟩)), (97, .agg #[.int .i64 y1.kind, .string y1.name, .int .i64 y1.val.kind, .int .i64 y1.val.num, .string y1.val.text, .slice fa1 y1.val.list.length fc1, .slice ga1 y1.args.length gc1]), (98, .int .i64 ((d : Int) + 1)), (99, .int .i64 (d : Int)), (100, v14), (101, v15), (102, .agg #[.int .i64 4, .string (fitOp j), .int .i64 0, .int .i64 0, .string ⟨#[]⟩, .slice none 0 0, .slice ra rn rc])] (by kernel_rfl) (by intro p hp; simp only [List.mem_cons, List.not_mem_nil, or_false] at hp; rcases hp with rfl | rfl | rfl | rfl | rfl | rfl | rfl | rfl | rfl | rfl | rfl | rfl | rfl | rfl | rfl | rfl | rfl <;> assumption)];clear hoff hf e0 e1 e2 e3 e4 e5 e6 e7 e8 e9 e10 e11 e12 e13 e14 e15 e16;simp only [List.foldl_cons, List.foldl_nil, List.setIfInBounds_toArray, List.set_cons_zero, List.set_cons_succ]
  go_simp;go_wp2_with fail
  refine bodyPost_ret (v := .agg #[.int .i64 4, .string (fitOp j), .int .i64 0, .int .i64 0, .string ⟨#[]⟩, .slice none 0 0, .slice ra rn rc]) (by simp [results, Try.results11, go_sem, r0, r1, r2, r3, r4, r5, r6]) rfl ?_;rw [HE.out];refine ⟨_, _, _, _, _, _, _, rfl, repM_mk.2 ⟨rfl, rfl, small64 (by omega), (show 1 ≤ maxLen by decide), zV_rep _ _, RepMs.on (fun k hk => ⟨by omega, ?sz⟩) (fun k hk => ?eq) k16⟩, set7_below (b := w.heap.size + 1) B3.out (by omega) _ _ _ _ _ _ _⟩
  case sz =>
   show k < (set7 w' (w.heap.size + 1) _ _ _ _ _ _ _).heap.size
   rw [set7_size]; exact hk.2
  case eq =>
   exact set7_other w' (w.heap.size + 1) _ _ _ _ _ _ _ _ (by omega)
end Go.Proofs.Ytjmnnjikmmglpaa
