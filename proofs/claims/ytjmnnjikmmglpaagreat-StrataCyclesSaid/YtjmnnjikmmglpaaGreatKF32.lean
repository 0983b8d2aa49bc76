/-
  Hangs
-/
import Derived.Test.YtjmnnjikmmglpaaGreatKF31
import Derived.Test.YtjmnnjikmmglpaaGreatKF23
import Derived.Test.YtjmnnjikmmglpaaGreatKF24
import Derived.Test.YtjmnnjikmmglpaaGreatKF05
import Derived.Test.YtjmnnjikmmglpaaGreatKF21
import Derived.Test.YtjmnnjikmmglpaaGreatKF04
import Derived.Laws.Tables
import Derived.Laws.Rows
import Derived.Laws.CopyOwn
import Derived.BigQuiet
namespace Go.Proofs.YtjmnnjikmmglpaaGreat
open Go.RowKit
structure But2 (ba bs n : Nat) (w w' : World) : Prop where
 os : w'.os = w.os
 tape : w'.tape = w.tape
 output : w'.output = w.output
 size : w.heap.size ≤ w'.heap.size
 block : ∀ k, k < n → k ≠ ba → k ≠ bs → w'.heap[k]? = w.heap[k]?
theorem But2.refl (ba bs n : Nat) (w : World) : But2 ba bs n w w := ⟨rfl, rfl, rfl, Nat.le_refl _, fun _ _ _ _ => rfl⟩
theorem But2.step {ba bs n : Nat} {w w' w2 : World} (h : But2 ba bs w.heap.size w w') (_hn : n < w.heap.size) (hb : Below w'.heap.size w' w2) : But2 ba bs w.heap.size w w2 :=
 ⟨hb.os.trans h.os, hb.tape.trans h.tape, hb.output.trans h.output, Nat.le_trans h.size hb.size, fun k h1 h2 h3 => (hb.block k (Nat.lt_of_lt_of_le h1 h.size)).trans (h.block k h1 h2 h3)⟩
theorem But2.trans2 {ba bs n : Nat} {w w' w2 : World} (h : But2 ba bs n w w') (hb : But2 ba bs w'.heap.size w' w2) (hn : n ≤ w'.heap.size := by omega) : But2 ba bs n w w2 :=
 ⟨hb.os.trans h.os, hb.tape.trans h.tape, hb.output.trans h.output, Nat.le_trans h.size hb.size, fun k h1 h2 h3 => (hb.block k (Nat.lt_of_lt_of_le h1 hn) h2 h3).trans (h.block k h1 h2 h3)⟩
theorem But2.setA {ba bs n : Nat} {w w' : World} (h : But2 ba bs n w w') (i : Nat) (v : Value) : But2 ba bs n w (w'.setCell ⟨ba, i, none⟩ v) := by
 have hb : Below ba w' (w'.setCell ⟨ba, i, none⟩ v) := (Below.refl ba w').setCell (p := ⟨ba, i, none⟩) (Nat.le_refl _) v;exact ⟨hb.os.trans h.os, hb.tape.trans h.tape, hb.output.trans h.output, Nat.le_trans h.size hb.size, fun k h1 h2 h3 => (Below.heap_setCell _ _ _ _ h2).trans (h.block k h1 h2 h3)⟩
theorem But2.setS {ba bs n : Nat} {w w' : World} (h : But2 ba bs n w w') (i : Nat) (v : Value) : But2 ba bs n w (w'.setCell ⟨bs, i, none⟩ v) := by
 have hb : Below bs w' (w'.setCell ⟨bs, i, none⟩ v) := (Below.refl bs w').setCell (p := ⟨bs, i, none⟩) (Nat.le_refl _) v;exact ⟨hb.os.trans h.os, hb.tape.trans h.tape, hb.output.trans h.output, Nat.le_trans h.size hb.size, fun k h1 h2 h3 => (Below.heap_setCell _ _ _ _ h3).trans (h.block k h1 h2 h3)⟩
theorem But2.box {ba bs n m : Nat} {w w' : World} {k : Nat} {c0 c1 c2 : Value} (h : But2 ba bs n w w') (hb : BoxPr w k c0 c1 c2) (_hm : m < w.heap.size) (h1 : k < n) (h2 : k ≠ ba ∧ k ≠ bs) : BoxPr w' k c0 c1 c2 := (h.block k h1 h2.1 h2.2).trans hb
theorem But2.boxRu {ba bs n : Nat} {w w' : World} {k : Nat} {c0 c1 c2 c3 c4 c5 : Value} (h : But2 ba bs n w w') (hb : BoxRu w k c0 c1 c2 c3 c4 c5) (h1 : k < n) (h2 : k ≠ ba) (h3 : k ≠ bs) : BoxRu w' k c0 c1 c2 c3 c4 c5 := (h.block k h1 h2 h3).trans hb
theorem But2.below {ba bs n : Nat} {w w' : World} {B : Nat} (h : But2 ba bs n w w') (h1 : B ≤ n) (h2 : B ≤ ba) (h3 : B ≤ bs) : Below B w w' := ⟨h.os, h.tape, h.output, h.size, fun k hk => h.block k (by omega) (by omega) (by omega)⟩
theorem zb_cells : ∀ i < 6, ∀ j < 6, (#[.bool false, .bool false, .bool false, .bool false, .bool false, .bool false, .bool false, .bool false, .bool false, .bool false, .bool false, .bool false, .bool false, .bool false, .bool false, .bool false, .bool false, .bool false, .bool false, .bool false, .bool false, .bool false, .bool false, .bool false, .bool false, .bool false, .bool false, .bool false, .bool false, .bool false, .bool false, .bool false, .bool false, .bool false, .bool false, .bool false] : Array Value)[i * 6 + j]? = some (.bool false) := fun i hi j hj => by
 match i, hi with
 | 0, _ => match j, hj with | 0, _ => rfl | 1, _ => rfl | 2, _ => rfl | 3, _ => rfl | 4, _ => rfl | 5, _ => rfl
 | 1, _ => match j, hj with | 0, _ => rfl | 1, _ => rfl | 2, _ => rfl | 3, _ => rfl | 4, _ => rfl | 5, _ => rfl
 | 2, _ => match j, hj with | 0, _ => rfl | 1, _ => rfl | 2, _ => rfl | 3, _ => rfl | 4, _ => rfl | 5, _ => rfl
 | 3, _ => match j, hj with | 0, _ => rfl | 1, _ => rfl | 2, _ => rfl | 3, _ => rfl | 4, _ => rfl | 5, _ => rfl
 | 4, _ => match j, hj with | 0, _ => rfl | 1, _ => rfl | 2, _ => rfl | 3, _ => rfl | 4, _ => rfl | 5, _ => rfl
 | 5, _ => match j, hj with | 0, _ => rfl | 1, _ => rfl | 2, _ => rfl | 3, _ => rfl | 4, _ => rfl | 5, _ => rfl
theorem But2.tab {ba bs n b : Nat} {w w' : World} {F : Nat → Nat → Bool} (h : But2 ba bs n w w') (ht : TabAt w b F) (h1 : b < n) (h2 : b ≠ ba) (h3 : b ≠ bs) : TabAt w' b F := by
 obtain ⟨arr, g1, g2⟩ := ht;exact ⟨arr, (h.block b h1 h2 h3).trans g1, g2⟩
def TabV (arr : Array Value) (F : Nat → Nat → Bool) : Prop := arr.size = 36 ∧ ∀ i < 6, ∀ j < 6, arr[i * 6 + j]? = some (.bool (F i j))
theorem TabV.one {arr : Array Value} {F : Nat → Nat → Bool} (h : TabV arr F) : arr.all (·.oneCell') = true := by
 rw [Array.all_eq_true_iff_forall_mem];intro v hv;obtain ⟨n, hn, rfl⟩ := Array.getElem_of_mem hv;have h1 := h.2 (n / 6) (by have := h.1; omega) (n % 6) (by omega);rw [show n / 6 * 6 + n % 6 = n by omega, Array.getElem?_eq_getElem hn] at h1;rw [Option.some.inj h1]; rfl
theorem tabSize : (Tryz.prog.info? 37).map (·.size) = some 36 := by kernel_rfl
def Lies (w : World) (b : Nat) (arr : Array Value) : Prop := w.heap[b]? = some (.cells arr 37 (0, 0))
def Room (w : World) (b : Nat) : Prop := ∃ arr, Lies w b arr ∧ arr.size = 36
def EndG (w : World) (b2 b3 ba bs : Nat) (arrA arrS : Array Value) (w' : World) : Prop :=
 Lies w' ba arrA ∧ Lies w' bs arrS ∧ Room w' b2 ∧ Room w' b3 ∧ Below w.heap.size w w'
theorem lies_set {w : World} {b : Nat} {old arr : Array Value} (h : Lies w b old) : Lies (w.setRow b arr) b arr := setRow_heap w b old arr _ (0, 0) h
theorem lies_other {w : World} {b g : Nat} {arr cs : Array Value} (h : Lies w b arr) (hne : b ≠ g) : Lies (w.setRow g cs) b arr := by
 show (w.setRow g cs).heap[b]? = _
 rw [setRow_other w g b cs hne]; exact h
def HangsPost (l : List Stp) (w : World) (e : Ending) (w' : World) : Prop :=
 Below w.heap.size w w' ∧ ∃ (arrA arrS : Array Value) (A S : Nat → Nat → Bool), e = .returned (.tuple #[.agg arrA, .agg arrS]) ∧ TabV arrA A ∧ TabV arrS S ∧ (∀ i < 6, ∀ j < 6, (A i j = true ↔ Way l 6 i j)) ∧ (∀ i < 6, ∀ j < 6, (S i j = true ↔ Firm l 6 i j))
set_option maxRecDepth 100000 in
set_option maxHeartbeats 8000000 in
theorem hangs_any (p : Pr) (S : Nat → Prop) (w : World) (c0 c1 c2 : Value) (hS : ∀ k, S k → k < w.heap.size) (hp : RepPr S w p c0 c1 c2) (hd : p.decls = decls6) (hck : (checkZ p).1 = 0) :
  Calls Tryz.prog 13 #[.agg #[c0, c1, c2]] w (HangsPost (prSteps p) w) := by
 have HP := Lib.hid hp; have HS := Lib.hid hS; have HDE := Lib.hid hd
 have hin := steps_inside hck;rw [hd] at hin;have HIN : Hid (Inside 6 (prSteps p)) := hin;obtain ⟨h1, -, -, -⟩ := check_zero hck;have HRU := Lib.hid (pr_rules h1); have HRN := Lib.hid (rules_few h1)
 obtain ⟨f0, f1, rfl⟩ := SlG.form hp.1;obtain ⟨f2, f3, rfl⟩ := SlG.form hp.2.1;obtain ⟨f4, f5, rfl⟩ := SlG.form hp.2.2;clear hp hS hd hin hck h1;go_enter Tryz.func13, Tryz.ntmps13
 go_upto_region 3 with fail
 have m0 := boxPr_new w (.slice f0 p.decls.length f1) (.slice f2 p.facts.length f3) (.slice f4 p.rules.length f5);have d0 := below_alloc w (.cells #[.slice f0 p.decls.length f1, .slice f2 p.facts.length f3, .slice f4 p.rules.length f5] 28);have s0 := World.size_alloc w (.cells #[.slice f0 p.decls.length f1, .slice f2 p.facts.length f3, .slice f4 p.rules.length f5] 28);generalize w.alloc (.cells #[.slice f0 p.decls.length f1, .slice f2 p.facts.length f3, .slice f4 p.rules.length f5] 28) = w1 at *;have m2 := tabAt_new w1 #[.bool false, .bool false, .bool false, .bool false, .bool false, .bool false, .bool false, .bool false, .bool false, .bool false, .bool false, .bool false, .bool false, .bool false, .bool false, .bool false, .bool false, .bool false, .bool false, .bool false, .bool false, .bool false, .bool false, .bool false, .bool false, .bool false, .bool false, .bool false, .bool false, .bool false, .bool false, .bool false, .bool false, .bool false, .bool false, .bool false] rfl zb_cells;have d2 := below_alloc w1 (.cells #[.bool false, .bool false, .bool false, .bool false, .bool false, .bool false, .bool false, .bool false, .bool false, .bool false, .bool false, .bool false, .bool false, .bool false, .bool false, .bool false, .bool false, .bool false, .bool false, .bool false, .bool false, .bool false, .bool false, .bool false, .bool false, .bool false, .bool false, .bool false, .bool false, .bool false, .bool false, .bool false, .bool false, .bool false, .bool false, .bool false] 37);have s2 := World.size_alloc w1 (.cells #[.bool false, .bool false, .bool false, .bool false, .bool false, .bool false, .bool false, .bool false, .bool false, .bool false, .bool false, .bool false, .bool false, .bool false, .bool false, .bool false, .bool false, .bool false, .bool false, .bool false, .bool false, .bool false, .bool false, .bool false, .bool false, .bool false, .bool false, .bool false, .bool false, .bool false, .bool false, .bool false, .bool false, .bool false, .bool false, .bool false] 37);generalize w1.alloc (.cells #[.bool false, .bool false, .bool false, .bool false, .bool false, .bool false, .bool false, .bool false, .bool false, .bool false, .bool false, .bool false, .bool false, .bool false, .bool false, .bool false, .bool false, .bool false, .bool false, .bool false, .bool false, .bool false, .bool false, .bool false, .bool false, .bool false, .bool false, .bool false, .bool false, .bool false, .bool false, .bool false, .bool false, .bool false, .bool false, .bool false] 37) = w2 at *
 have m3 := tabAt_new w2 #[.bool false, .bool false, .bool false, .bool false, .bool false, .bool false, .bool false, .bool false, .bool false, .bool false, .bool false, .bool false, .bool false, .bool false, .bool false, .bool false, .bool false, .bool false, .bool false, .bool false, .bool false, .bool false, .bool false, .bool false, .bool false, .bool false, .bool false, .bool false, .bool false, .bool false, .bool false, .bool false, .bool false, .bool false, .bool false, .bool false] rfl zb_cells;have d3 := below_alloc w2 (.cells #[.bool false, .bool false, .bool false, .bool false, .bool false, .bool false, .bool false, .bool false, .bool false, .bool false, .bool false, .bool false, .bool false, .bool false, .bool false, .bool false, .bool false, .bool false, .bool false, .bool false, .bool false, .bool false, .bool false, .bool false, .bool false, .bool false, .bool false, .bool false, .bool false, .bool false, .bool false, .bool false, .bool false, .bool false, .bool false, .bool false] 37);have s3 := World.size_alloc w2 (.cells #[.bool false, .bool false, .bool false, .bool false, .bool false, .bool false, .bool false, .bool false, .bool false, .bool false, .bool false, .bool false, .bool false, .bool false, .bool false, .bool false, .bool false, .bool false, .bool false, .bool false, .bool false, .bool false, .bool false, .bool false, .bool false, .bool false, .bool false, .bool false, .bool false, .bool false, .bool false, .bool false, .bool false, .bool false, .bool false, .bool false] 37);generalize w2.alloc (.cells #[.bool false, .bool false, .bool false, .bool false, .bool false, .bool false, .bool false, .bool false, .bool false, .bool false, .bool false, .bool false, .bool false, .bool false, .bool false, .bool false, .bool false, .bool false, .bool false, .bool false, .bool false, .bool false, .bool false, .bool false, .bool false, .bool false, .bool false, .bool false, .bool false, .bool false, .bool false, .bool false, .bool false, .bool false, .bool false, .bool false] 37) = w3 at *;have m4 := tabAt_new w3 #[.bool false, .bool false, .bool false, .bool false, .bool false, .bool false, .bool false, .bool false, .bool false, .bool false, .bool false, .bool false, .bool false, .bool false, .bool false, .bool false, .bool false, .bool false, .bool false, .bool false, .bool false, .bool false, .bool false, .bool false, .bool false, .bool false, .bool false, .bool false, .bool false, .bool false, .bool false, .bool false, .bool false, .bool false, .bool false, .bool false] rfl zb_cells
 have d4 := below_alloc w3 (.cells #[.bool false, .bool false, .bool false, .bool false, .bool false, .bool false, .bool false, .bool false, .bool false, .bool false, .bool false, .bool false, .bool false, .bool false, .bool false, .bool false, .bool false, .bool false, .bool false, .bool false, .bool false, .bool false, .bool false, .bool false, .bool false, .bool false, .bool false, .bool false, .bool false, .bool false, .bool false, .bool false, .bool false, .bool false, .bool false, .bool false] 37);have s4 := World.size_alloc w3 (.cells #[.bool false, .bool false, .bool false, .bool false, .bool false, .bool false, .bool false, .bool false, .bool false, .bool false, .bool false, .bool false, .bool false, .bool false, .bool false, .bool false, .bool false, .bool false, .bool false, .bool false, .bool false, .bool false, .bool false, .bool false, .bool false, .bool false, .bool false, .bool false, .bool false, .bool false, .bool false, .bool false, .bool false, .bool false, .bool false, .bool false] 37);generalize w3.alloc (.cells #[.bool false, .bool false, .bool false, .bool false, .bool false, .bool false, .bool false, .bool false, .bool false, .bool false, .bool false, .bool false, .bool false, .bool false, .bool false, .bool false, .bool false, .bool false, .bool false, .bool false, .bool false, .bool false, .bool false, .bool false, .bool false, .bool false, .bool false, .bool false, .bool false, .bool false, .bool false, .bool false, .bool false, .bool false, .bool false, .bool false] 37) = w4 at *;have m5 := tabAt_new w4 #[.bool false, .bool false, .bool false, .bool false, .bool false, .bool false, .bool false, .bool false, .bool false, .bool false, .bool false, .bool false, .bool false, .bool false, .bool false, .bool false, .bool false, .bool false, .bool false, .bool false, .bool false, .bool false, .bool false, .bool false, .bool false, .bool false, .bool false, .bool false, .bool false, .bool false, .bool false, .bool false, .bool false, .bool false, .bool false, .bool false] rfl zb_cells;have d5 := below_alloc w4 (.cells #[.bool false, .bool false, .bool false, .bool false, .bool false, .bool false, .bool false, .bool false, .bool false, .bool false, .bool false, .bool false, .bool false, .bool false, .bool false, .bool false, .bool false, .bool false, .bool false, .bool false, .bool false, .bool false, .bool false, .bool false, .bool false, .bool false, .bool false, .bool false, .bool false, .bool false, .bool false, .bool false, .bool false, .bool false, .bool false, .bool false] 37)
 have s5 := World.size_alloc w4 (.cells #[.bool false, .bool false, .bool false, .bool false, .bool false, .bool false, .bool false, .bool false, .bool false, .bool false, .bool false, .bool false, .bool false, .bool false, .bool false, .bool false, .bool false, .bool false, .bool false, .bool false, .bool false, .bool false, .bool false, .bool false, .bool false, .bool false, .bool false, .bool false, .bool false, .bool false, .bool false, .bool false, .bool false, .bool false, .bool false, .bool false] 37);generalize w4.alloc (.cells #[.bool false, .bool false, .bool false, .bool false, .bool false, .bool false, .bool false, .bool false, .bool false, .bool false, .bool false, .bool false, .bool false, .bool false, .bool false, .bool false, .bool false, .bool false, .bool false, .bool false, .bool false, .bool false, .bool false, .bool false, .bool false, .bool false, .bool false, .bool false, .bool false, .bool false, .bool false, .bool false, .bool false, .bool false, .bool false, .bool false] 37) = w5 at *;rw [s0] at m2 s2; rw [s2] at m3 s3; rw [s3] at m4 s4; rw [s4] at m5 s5
 obtain ⟨b2, hb2⟩ : ∃ k, w.heap.size + 1 = k := ⟨_, rfl⟩;rw [hb2] at m2 m3 m4 m5 s2 s3 s4 s5 ⊢;obtain ⟨b3, hb3⟩ : ∃ k, b2 + 1 = k := ⟨_, rfl⟩;rw [hb3] at m3 m4 m5 s3 s4 s5 ⊢;obtain ⟨ba, hba⟩ : ∃ k, b3 + 1 = k := ⟨_, rfl⟩;rw [hba] at m4 m5 s4 s5 ⊢;obtain ⟨bs, hbs⟩ : ∃ k, ba + 1 = k := ⟨_, rfl⟩;rw [hbs] at m5 s5 ⊢;have HB : Hid (w.heap.size < b2 ∧ b2 < b3 ∧ b3 < ba ∧ ba < bs ∧ bs < w5.heap.size) := by show _ ∧ _; omega
 have B5 : Hid (Below w.heap.size w w5) := Below.step (Below.step (Below.step (Below.step d0 d2) d3) d4) d5;have X : Hid (BoxPr w5 w.heap.size (.slice f0 p.decls.length f1) (.slice f2 p.facts.length f3) (.slice f4 p.rules.length f5)) := (((m0.on d2).on d3).on d4).on d5;have M2 : Hid (TabAt w5 b2 (fun _ _ => false)) := ((m2.on d3).on d4).on d5;have M3 : Hid (TabAt w5 b3 (fun _ _ => false)) := (m3.on d4).on d5;have TA : Hid (TabAt w5 ba (fun _ _ => false)) := m4.on d5;have TS : Hid (TabAt w5 bs (fun _ _ => false)) := m5;have PR : Hid (RepRus (fun k => k < w.heap.size) w5 p.rules (.slice f4 p.rules.length f5)) := RepRus.on HS.out (fun k hk => B5.out.block k (HS.out k hk)) HP.out.2.2;clear m0 m2 m3 m4 m5 d0 d2 d3 d4 d5 s0 s2 s3 s4 s5 hb2 hb3 hba hbs HP;obtain ⟨o0, o1, o2⟩ := X.out.cells;go_wp2_with fail
 go_loopw [6] (fun iv wr => ∃ (k : Nat) (A S : Nat → Nat → Bool), k ≤ p.rules.length ∧ iv = .int .i64 (k : Int) ∧ Hid (BaseT ((p.rules.take k).flatMap (ruSteps p.decls)) A S) ∧ Hid (TabAt wr ba A) ∧ Hid (TabAt wr bs S) ∧ Hid (But2 ba bs w5.heap.size w5 wr)) (fun iv _ => p.rules.length - (intOf iv).toNat)
 case atStart => exact ⟨0, _, _, Nat.zero_le _, rfl, Lib.hid BaseT.nil, TA, TS, Lib.hid (But2.refl _ _ _ _)⟩
 case round =>
  obtain ⟨k, A, S', hk, rfl, hbase, hta, hts, hbut⟩ := hrel;have XR := Lib.hid (hbut.out.box X.out HB.out.2.2.2.2 (by have := HB.out; omega) (by have := HB.out; omega));clear o0 o1 o2;obtain ⟨o0, o1, o2⟩ := XR.out.cells
  by_cases hkl : k < p.rules.length
  ·have P5 : Hid (RepRus (fun k => k < w.heap.size) wr p.rules (.slice f4 p.rules.length f5)) := RepRus.on (fun _ h => h) (fun b hb => hbut.out.block b (by have := HB.out; have := hb; omega) (by have := HB.out; have := hb; omega) (by have := HB.out; have := hb; omega)) PR.out
   obtain ⟨-, -, lb, lo, xa, xc, ya, yc, hra, -, g0, g1, g2, g3, g4, g5, g⟩ := RepRus.at P5.out k hkl;subst hra;have HTK := Lib.hid (flat_take (ruSteps p.decls) p.rules hkl)
   have hb8 : p.rules[k].body.length ≤ 8 := by
    have h := HRU.out _ (List.getElem_mem hkl);rw [ruB] at h;simp only [Bool.and_eq_true] at h
    have := (listB_bounds h.2.2.2).2.1;omega
   have HB8 := Lib.hid hb8;have hrn := HRN.out;have i1 : (0 : Int) ≤ (k : Int) := Int.natCast_nonneg _;have i2 : (k : Int) < (p.rules.length : Int) := by omega
   have G := Lib.hid g;clear g P5 hb8;generalize p.rules[k] = r at *;have mk := boxRu_new wr (.string r.label) (.string r.head) (.slice xa r.args.length xc) (.string r.agg) (.int .i64 r.at') (.slice ya r.body.length yc);have da := below_alloc wr (.cells #[.string r.label, .string r.head, .slice xa r.args.length xc, .string r.agg, .int .i64 r.at', .slice ya r.body.length yc] 47);have HTA := Lib.hid (hta.out.on da); have HTS := Lib.hid (hts.out.on da)
   have HBUT := Lib.hid (hbut.out.step HB.out.2.2.2.2 da);have GB : Hid (RepLis (fun k => k < w.heap.size) (wr.alloc (.cells #[.string r.label, .string r.head, .slice xa r.args.length xc, .string r.agg, .int .i64 r.at', .slice ya r.body.length yc] 47)) r.body (.slice ya r.body.length yc)) := RepLis.on (fun _ h => h) (fun b (hb : b < w.heap.size) => da.block b (by have := HB.out; have := hbut.out.size; omega)) G.out.2.2.2.2.2.2.2.2.2;have HKX : Hid (bs < wr.heap.size) := hts.out.lt;have HBASE := hbase;clear hta hts hbut hbase G;go_upto_region 7 with fail
   clear g0 g1 g2 g3 g4 g5 o0 o1 o2 i1 i2;obtain ⟨bx, hbx⟩ : ∃ bx, wr.heap.size = bx := ⟨_, rfl⟩;rw [hbx] at mk HKX ⊢;clear hbx da;generalize wr.alloc (.cells #[.string r.label, .string r.head, .slice xa r.args.length xc, .string r.agg, .int .i64 r.at', .slice ya r.body.length yc] 47) = wa at *;have XB := Lib.hid mk;clear mk XR;go_wp2_with fail
   go_loopw [8] (fun jv wr => ∃ (m : Nat) (A S : Nat → Nat → Bool), m ≤ r.body.length ∧ jv = .int .i64 (m : Int) ∧ Hid (BaseT ((p.rules.take k).flatMap (ruSteps p.decls) ++ (r.body.take m).flatMap (litSteps p.decls r)) A S) ∧ Hid (TabAt wr ba A) ∧ Hid (TabAt wr bs S) ∧ Hid (But2 ba bs wa.heap.size wa wr)) (fun jv _ => r.body.length - (intOf jv).toNat)
   case atStart => exact ⟨0, A, S', Nat.zero_le _, rfl, Lib.hid (by simpa using HBASE.out), HTA, HTS, Lib.hid (But2.refl _ _ _ _)⟩
   case round =>
    obtain ⟨m, A, S', hm, rfl, hbase, hta, hts, hbut⟩ := hrel;have XR := Lib.hid (hbut.out.boxRu XB.out XB.out.lt (by have := HKX.out; have := HB.out; omega) (by have := HKX.out; omega));obtain ⟨q0, q1, q2, q3, q4, q5⟩ := XR.out.cells;have hb8 := HB8.out
    by_cases hml : m < r.body.length
    ·
     have GL : Hid (RepLis (fun k => k < w.heap.size) wr r.body (.slice ya r.body.length yc)) := RepLis.on (fun _ h => h) (fun b (hb : b < w.heap.size) => hbut.out.block b (by have := HB.out; have := HKX.out; have := XB.out.lt; omega) (by have := HB.out; omega) (by have := HB.out; omega)) GB.out;obtain ⟨-, -, ib, io, ha, hc, hya, -, g0, g1, g2, g⟩ := RepLis.at GL.out m hml;subst hya;have HTM := Lib.hid (flat_take (litSteps p.decls r) r.body hml);have j1 : (0 : Int) ≤ (m : Int) := Int.natCast_nonneg _;have j2 : (m : Int) < (r.body.length : Int) := by omega
     clear g GL;generalize r.body[m] = z at *;have mk := boxLi_new wr (.int .i64 z.kind) (.string z.name) (.slice ha z.args.length hc);have da := below_alloc wr (.cells #[.int .i64 z.kind, .string z.name, .slice ha z.args.length hc] 60);have HTA2 := Lib.hid (hta.out.on da); have HTS2 := Lib.hid (hts.out.on da)
     have HBUT2 := Lib.hid (hbut.out.step XB.out.lt da);have XR2 := Lib.hid (XR.out.on da);have HBLX : Hid (bs < wr.heap.size) := hts.out.lt;have HBASE2 := hbase;clear hta hts hbut hbase XR;go_upto_region 11 with fail
     clear g0 g1 g2 q0 q1 q2 q3 q4 q5;obtain ⟨bl, hbl⟩ : ∃ bl, wr.heap.size = bl := ⟨_, rfl⟩;rw [hbl] at mk HBLX ⊢;clear hbl da;generalize wr.alloc (.cells #[.int .i64 z.kind, .string z.name, .slice ha z.args.length hc] 60) = wb at *;have XL := Lib.hid mk;clear mk;obtain ⟨e0, e1, e2⟩ := XL.out.cells;go_cut [49] from 42 to 49 (fun s wx => s = .bool (decide (z.kind = 1 ∨ z.kind = 2)) ∧ wb = wx)
     case first =>
      cases hk1 : (z.kind == 1) with
      | true =>
       have HK : Hid (decide (z.kind = 1 ∨ z.kind = 2) = true) := decide_eq_true (.inl (by simpa using hk1));go_wp2_with fail
       go_meet
       exact ⟨by rw [HK.out], rfl⟩
      | false =>
       have HK : Hid (decide (z.kind = 1 ∨ z.kind = 2) = (z.kind == 2)) := by
        show _ = _
        have hne : ¬ z.kind = 1 := by simpa using hk1
        by_cases h2 : z.kind = 2
        ·rw [h2]; rfl
        ·rw [decide_eq_false (by omega)]; simp [h2]
       go_wp2_with fail
       go_meet
       exact ⟨by rw [HK.out], rfl⟩
     case rest =>
      obtain ⟨rfl, rfl⟩ := hcut
      by_cases hkk : z.kind = 1 ∨ z.kind = 2
      ·rw [decide_eq_true hkk]
       have HNX : Hid ((p.rules.take k).flatMap (ruSteps p.decls) ++ (r.body.take (m + 1)).flatMap (litSteps p.decls r) = ((p.rules.take k).flatMap (ruSteps p.decls) ++ (r.body.take m).flatMap (litSteps p.decls r)) ++ [⟨atN decls6 r.head, atN decls6 z.name, riseOf r z⟩]) := by
        show _ = _
        rw [HTM.out, litSteps, if_pos hkk, HDE.out, ← List.append_assoc]
       clear HTM hkk;obtain ⟨q0, q1, q2, q3, q4, q5⟩ := XR2.out.cells;go_wp2_with fail
       refine (index8_any r.head wb).mono ?_;rintro e w6 ⟨rfl, hb⟩;replace HTA2 := Lib.hid (HTA2.out.on hb); replace HTS2 := Lib.hid (HTS2.out.on hb)
       replace HBUT2 := Lib.hid (HBUT2.out.step XB.out.lt hb);replace XR2 := Lib.hid (XR2.out.on hb); replace XL := Lib.hid (XL.out.on hb)
       clear hb q0 q1 q2 q3 q4 q5 e0 e1 e2;obtain ⟨e0, e1, e2⟩ := XL.out.cells;go_wp2_with fail
       refine (index8_any z.name w6).mono ?_;rintro e w7 ⟨rfl, hb⟩;replace HTA2 := Lib.hid (HTA2.out.on hb); replace HTS2 := Lib.hid (HTS2.out.on hb)
       replace HBUT2 := Lib.hid (HBUT2.out.step XB.out.lt hb);replace XR2 := Lib.hid (XR2.out.on hb); replace XL := Lib.hid (XL.out.on hb)
       clear hb e0 e1 e2;have HH := Lib.hid (atN_six r.head); have HN := Lib.hid (atN_six z.name)
       generalize atN decls6 r.head = h at *;generalize atN decls6 z.name = c at *;have hh := HH.out; have hn := HN.out
       have i1 : (0 : Int) ≤ (h : Int) := Int.natCast_nonneg _;have i2 : (h : Int) < 6 := by omega
       have i3 : (0 : Int) ≤ (c : Int) := Int.natCast_nonneg _;have i4 : (c : Int) < 6 := by omega
       have c0 := HTA2.out.cell hh hn;have z0 := HTA2.out.frozen (h * 6 + c);go_upto_region 15 with fail
       have HTA3 := Lib.hid (HTA2.out.put hh hn true);have HTS3 := Lib.hid (HTS2.out.other (g := ba) (show bs ≠ ba by have := HB.out; omega) (h * 6 + c) (.bool true));have HBUT3 := Lib.hid (HBUT2.out.setA (h * 6 + c) (.bool true));have XR3 : Hid (BoxRu (w7.setCell ⟨ba, h * 6 + c, none⟩ (.bool true)) bx (.string r.label) (.string r.head) (.slice xa r.args.length xc) (.string r.agg) (.int .i64 r.at') (.slice (some ⟨ib, io, none⟩) r.body.length yc)) := (Below.heap_setCell _ _ _ _ (by have := HKX.out; have := HB.out; simp; omega)).trans XR2.out;have XL3 : Hid (BoxLi (w7.setCell ⟨ba, h * 6 + c, none⟩ (.bool true)) bl (.int .i64 z.kind) (.string z.name) (.slice ha z.args.length hc)) := (Below.heap_setCell _ _ _ _ (by have := HBLX.out; have := HB.out; simp; omega)).trans XL.out;clear c0 z0 HTA2 HTS2 HBUT2 XR2 XL;generalize w7.setCell ⟨ba, h * 6 + c, none⟩ (.bool true) = w8 at *;clear hh hn
       cases hsv : S' h c with
       | true =>
        have HV : Hid (true = (S' h c || riseOf r z == 1)) := by show _ = _; rw [hsv]; rfl
        refine wp_region_factsL (by rfl) 179 (by rfl) (by kernel_rfl) (FA [.e (.int .i64 (h : Int)), .e (.int .i64 (c : Int)), .e (.int .i64 (h : Int)), .e (.int .i64 (c : Int)), .e (.pointer (some ⟨bs, h * 6, none⟩)), .e (.pointer (some ⟨bs, h * 6 + c, none⟩)), .e (.bool true), .e (.bool true), .e undef, .e undef, .e undef, .e (.bool true), .e (.bool true), .e undef, .e undef, .e undef, .e (.bool true), .e (.pointer (some ⟨bs, h * 6, none⟩)), .e (.pointer (some ⟨bs, h * 6 + c, none⟩))]) (fun w' => Below w8.heap.size w8 w') (Below.drew (Below.refl _ _)) ⟨?s0, ?s1, ?s2, ?s3, ?s4, ?s5, ?s6, ?s7, ?s8, ?s9, ?s10, ?s11, ?s12, ?s13, ?s14, ?s15, ?s16, ?s17, ?s18, trivial⟩ (by rfl) ?slast (by decide)
        case s0 =>
         intro a w' hoff hg hdep K hK;have h10 := off_at hoff 10 (v := .int .i64 (h : Int)) (by kernel_rfl) rfl;rw [if_pos (by rfl)];go_simp;exact hK.out _ _ hg rfl (fun _ _ h => h)
        case s1 =>
         intro a w' hoff hg hdep K hK;have h11 := off_at hoff 11 (v := .int .i64 (c : Int)) (by kernel_rfl) rfl;rw [if_pos (by rfl)];go_simp;exact hK.out _ _ hg rfl (fun _ _ h => h)
        case s2 =>
         intro a w' hoff hg hdep K hK;have h10 := off_at hoff 10 (v := .int .i64 (h : Int)) (by kernel_rfl) rfl;rw [if_pos (by rfl)];go_simp;exact hK.out _ _ hg rfl (fun _ _ h => h)
        case s3 =>
         intro a w' hoff hg hdep K hK;have h11 := off_at hoff 11 (v := .int .i64 (c : Int)) (by kernel_rfl) rfl;rw [if_pos (by rfl)];go_simp;exact hK.out _ _ hg rfl (fun _ _ h => h)
        case s4 =>
         intro a w' hoff hg hdep K hK;have h5 := off_at hoff 5 (v := .pointer (some ⟨bs, 0, none⟩)) (by kernel_rfl) rfl;obtain ⟨_, e2, rfl⟩ := hdep 2 _ 62 (by kernel_rfl) rfl rfl;rw [if_pos (by rfl)];go_simp;exact hK.out _ _ hg rfl (fun _ _ h => h)
        case s5 =>
         intro a w' hoff hg hdep K hK;obtain ⟨_, e3, rfl⟩ := hdep 3 _ 63 (by kernel_rfl) rfl rfl;obtain ⟨_, e4, rfl⟩ := hdep 4 _ 64 (by kernel_rfl) rfl rfl;rw [if_pos (by rfl)];go_simp;exact hK.out _ _ hg rfl (fun _ _ h => h)
        case s6 =>
         intro a w' hoff hg hdep K hK;obtain ⟨_, e5, rfl⟩ := hdep 5 _ 65 (by kernel_rfl) rfl rfl;rw [if_pos (by rfl)];have c0 := (HTS3.out.on hg).cell HH.out HN.out;rw [hsv] at c0;go_simp;exact hK.out _ _ hg rfl (fun _ _ h => h)
        case s7 =>
         intro a w' hoff hg hdep K hK;obtain ⟨_, e6, rfl⟩ := hdep 6 _ 66 (by kernel_rfl) rfl rfl;rw [if_pos (by rfl)];go_simp;exact hK.out _ _ hg rfl (fun _ _ h => h)
        case s8 =>
         intro a w' hoff hg hdep K hK;have h9 := off_at hoff 9 (v := .pointer (some ⟨bl, 0, none⟩)) (by kernel_rfl) rfl;obtain ⟨_, e7, rfl⟩ := hdep 7 _ 67 (by kernel_rfl) rfl rfl;rw [if_neg (by simp [Region.wanted, yielded, e7])];exact hK.out _ _ hg rfl (fun _ _ h => h)
        case s9 =>
         intro a w' hoff hg hdep K hK;obtain ⟨v8, e8, f8⟩ := hdep 8 _ 68 (by kernel_rfl) rfl rfl;obtain rfl : undef = v8 := Eq.symm f8;obtain ⟨_, e7, rfl⟩ := hdep 7 _ 67 (by kernel_rfl) rfl rfl;rw [if_neg (by simp [Region.wanted, yielded, e7])];exact hK.out _ _ hg rfl (fun _ _ h => h)
        case s10 =>
         intro a w' hoff hg hdep K hK;obtain ⟨v9, e9, f9⟩ := hdep 9 _ 69 (by kernel_rfl) rfl rfl;obtain rfl : undef = v9 := Eq.symm f9;obtain ⟨_, e7, rfl⟩ := hdep 7 _ 67 (by kernel_rfl) rfl rfl;rw [if_neg (by simp [Region.wanted, yielded, e7])];exact hK.out _ _ hg rfl (fun _ _ h => h)
        case s11 =>
         intro a w' hoff hg hdep K hK;obtain ⟨_, e7, rfl⟩ := hdep 7 _ 67 (by kernel_rfl) rfl rfl;obtain ⟨v10, e10, f10⟩ := hdep 10 _ 70 (by kernel_rfl) rfl rfl;obtain rfl : undef = v10 := Eq.symm f10;rw [if_pos (by rfl)];go_simp;exact hK.out _ _ hg rfl (fun _ _ h => h)
        case s12 =>
         intro a w' hoff hg hdep K hK;obtain ⟨_, e11, rfl⟩ := hdep 11 _ 71 (by kernel_rfl) rfl rfl;rw [if_pos (by rfl)];go_simp;exact hK.out _ _ hg rfl (fun _ _ h => h)
        case s13 =>
         intro a w' hoff hg hdep K hK;have h7 := off_at hoff 7 (v := .pointer (some ⟨bx, 0, none⟩)) (by kernel_rfl) rfl;obtain ⟨_, e12, rfl⟩ := hdep 12 _ 72 (by kernel_rfl) rfl rfl;rw [if_neg (by simp [Region.wanted, yielded, e12])];exact hK.out _ _ hg rfl (fun _ _ h => h)
        case s14 =>
         intro a w' hoff hg hdep K hK;obtain ⟨v13, e13, f13⟩ := hdep 13 _ 73 (by kernel_rfl) rfl rfl;obtain rfl : undef = v13 := Eq.symm f13;obtain ⟨_, e12, rfl⟩ := hdep 12 _ 72 (by kernel_rfl) rfl rfl;rw [if_neg (by simp [Region.wanted, yielded, e12])];exact hK.out _ _ hg rfl (fun _ _ h => h)
        case s15 =>
         intro a w' hoff hg hdep K hK;obtain ⟨v14, e14, f14⟩ := hdep 14 _ 74 (by kernel_rfl) rfl rfl;obtain rfl : undef = v14 := Eq.symm f14;obtain ⟨_, e12, rfl⟩ := hdep 12 _ 72 (by kernel_rfl) rfl rfl;rw [if_neg (by simp [Region.wanted, yielded, e12])];exact hK.out _ _ hg rfl (fun _ _ h => h)
        case s16 =>
         intro a w' hoff hg hdep K hK;obtain ⟨_, e12, rfl⟩ := hdep 12 _ 72 (by kernel_rfl) rfl rfl;obtain ⟨v15, e15, f15⟩ := hdep 15 _ 75 (by kernel_rfl) rfl rfl;obtain rfl : undef = v15 := Eq.symm f15;rw [if_pos (by rfl)];go_simp;exact hK.out _ _ hg rfl (fun _ _ h => h)
        case s17 =>
         intro a w' hoff hg hdep K hK;have h5 := off_at hoff 5 (v := .pointer (some ⟨bs, 0, none⟩)) (by kernel_rfl) rfl;obtain ⟨_, e0, rfl⟩ := hdep 0 _ 60 (by kernel_rfl) rfl rfl;rw [if_pos (by rfl)];go_simp;exact hK.out _ _ hg rfl (fun _ _ h => h)
        case s18 =>
         intro a w' hoff hg hdep K hK;obtain ⟨_, e1, rfl⟩ := hdep 1 _ 61 (by kernel_rfl) rfl rfl;obtain ⟨_, e17, rfl⟩ := hdep 17 _ 77 (by kernel_rfl) rfl rfl;rw [if_pos (by rfl)];go_simp;exact hK.out _ _ hg rfl (fun _ _ h => h)
        case slast =>
         intro a w' hoff hg hf;obtain ⟨_, e0, rfl⟩ := hf 0 _ 60 (by decide) rfl rfl;obtain ⟨_, e1, rfl⟩ := hf 1 _ 61 (by decide) rfl rfl;obtain ⟨_, e2, rfl⟩ := hf 2 _ 62 (by decide) rfl rfl;obtain ⟨_, e3, rfl⟩ := hf 3 _ 63 (by decide) rfl rfl;obtain ⟨_, e4, rfl⟩ := hf 4 _ 64 (by decide) rfl rfl;obtain ⟨_, e5, rfl⟩ := hf 5 _ 65 (by decide) rfl rfl;obtain ⟨_, e6, rfl⟩ := hf 6 _ 66 (by decide) rfl rfl;obtain ⟨_, e7, rfl⟩ := hf 7 _ 67 (by decide) rfl rfl;obtain ⟨v8, e8, f8⟩ := hf 8 _ 68 (by decide) rfl rfl;obtain rfl : undef = v8 := Eq.symm f8;obtain ⟨v9, e9, f9⟩ := hf 9 _ 69 (by decide) rfl rfl;obtain rfl : undef = v9 := Eq.symm f9;obtain ⟨v10, e10, f10⟩ := hf 10 _ 70 (by decide) rfl rfl;obtain rfl : undef = v10 := Eq.symm f10;obtain ⟨_, e11, rfl⟩ := hf 11 _ 71 (by decide) rfl rfl;obtain ⟨_, e12, rfl⟩ := hf 12 _ 72 (by decide) rfl rfl;obtain ⟨v13, e13, f13⟩ := hf 13 _ 73 (by decide) rfl rfl;obtain rfl : undef = v13 := Eq.symm f13;obtain ⟨v14, e14, f14⟩ := hf 14 _ 74 (by decide) rfl rfl;obtain rfl : undef = v14 := Eq.symm f14;obtain ⟨v15, e15, f15⟩ := hf 15 _ 75 (by decide) rfl rfl;obtain rfl : undef = v15 := Eq.symm f15;obtain ⟨_, e16, rfl⟩ := hf 16 _ 76 (by decide) rfl rfl;obtain ⟨_, e17, rfl⟩ := hf 17 _ 77 (by decide) rfl rfl;obtain ⟨_, e18, rfl⟩ := hf 18 _ 78 (by decide) rfl rfl;have c0 := (HTS3.out.on hg).cell HH.out HN.out;have z0 := (HTS3.out.on hg).frozen (h * 6 + c);rw [if_pos (by rfl)];rw [hoff.sets [(60, .int .i64 (h : Int)), (61, .int .i64 (c : Int)), (62, .int .i64 (h : Int)), (63, .int .i64 (c : Int)), (64, .pointer (some ⟨bs, h * 6, none⟩)), (65, .pointer (some ⟨bs, h * 6 + c, none⟩)), (66, .bool true), (67, .bool true), (68, undef), (69, undef), (70, undef), (71, .bool true), (72, .bool true), (73, undef), (74, undef), (75, undef), (76, .bool true), (77, .pointer (some ⟨bs, h * 6, none⟩)), (78, .pointer (some ⟨bs, h * 6 + c, none⟩))] (by kernel_rfl) (by intro p hp; simp only [List.mem_cons, List.not_mem_nil, or_false] at hp; rcases hp with rfl | rfl | rfl | rfl | rfl | rfl | rfl | rfl | rfl | rfl | rfl | rfl | rfl | rfl | rfl | rfl | rfl | rfl | rfl <;> assumption)];clear hoff hf e0 e1 e2 e3 e4 e5 e6 e7 e8 e9 e10 e11 e12 e13 e14 e15 e16 e17 e18;simp only [List.foldl_cons, List.foldl_nil, List.setIfInBounds_toArray, List.set_cons_zero, List.set_cons_succ]
         go_simp;have HTA9 := Lib.hid ((HTA3.out.on hg).other (g := bs) (show ba ≠ bs by have := HB.out; omega) (h * 6 + c) (.bool true));have HTS9 := Lib.hid ((HTS3.out.on hg).put HH.out HN.out true);have HBUT9 := Lib.hid ((HBUT3.out.step XB.out.lt hg).setS (h * 6 + c) (.bool true))
         have HK : Hid (BaseT ((p.rules.take k).flatMap (ruSteps p.decls) ++ (r.body.take (m + 1)).flatMap (litSteps p.decls r)) (setT A h c true) (setT S' h c true)) := by
          show BaseT _ _ _
          have hadd : BaseT (_ ++ [⟨h, c, riseOf r z⟩]) (setT A h c true) (setT S' h c (S' h c || riseOf r z == 1)) := HBASE2.out.add ⟨h, c, riseOf r z⟩;rw [← HV.out] at hadd;rw [HNX.out]; exact hadd
         clear hg c0 z0;go_wp2_with fail
         go_roundw
         case rel => exact ⟨m + 1, _, _, hml, by go_num, HK, HTA9, HTS9, HBUT9⟩
         case measure => simp [intOf]; omega
       | false =>
        cases hk2 : (z.kind == 2) with
        | true =>
         have HV : Hid (true = (S' h c || riseOf r z == 1)) := by
          show _ = _
          rw [hsv, riseOf, if_pos (.inl (by simpa using hk2))]; rfl
         refine wp_region_factsL (by rfl) 179 (by rfl) (by kernel_rfl) (FA [.e (.int .i64 (h : Int)), .e (.int .i64 (c : Int)), .e (.int .i64 (h : Int)), .e (.int .i64 (c : Int)), .e (.pointer (some ⟨bs, h * 6, none⟩)), .e (.pointer (some ⟨bs, h * 6 + c, none⟩)), .e (.bool false), .e (.bool false), .e (.pointer (some ⟨bl, 0, none⟩)), .e (.int .i64 z.kind), .e (.bool true), .e (.bool true), .e (.bool true), .e undef, .e undef, .e undef, .e (.bool true), .e (.pointer (some ⟨bs, h * 6, none⟩)), .e (.pointer (some ⟨bs, h * 6 + c, none⟩))]) (fun w' => Below w8.heap.size w8 w') (Below.drew (Below.refl _ _)) ⟨?t0, ?t1, ?t2, ?t3, ?t4, ?t5, ?t6, ?t7, ?t8, ?t9, ?t10, ?t11, ?t12, ?t13, ?t14, ?t15, ?t16, ?t17, ?t18, trivial⟩ (by rfl) ?tlast (by decide)
         case t0 =>
          intro a w' hoff hg hdep K hK;have h10 := off_at hoff 10 (v := .int .i64 (h : Int)) (by kernel_rfl) rfl;rw [if_pos (by rfl)];go_simp;exact hK.out _ _ hg rfl (fun _ _ h => h)
         case t1 =>
          intro a w' hoff hg hdep K hK;have h11 := off_at hoff 11 (v := .int .i64 (c : Int)) (by kernel_rfl) rfl;rw [if_pos (by rfl)];go_simp;exact hK.out _ _ hg rfl (fun _ _ h => h)
         case t2 =>
          intro a w' hoff hg hdep K hK;have h10 := off_at hoff 10 (v := .int .i64 (h : Int)) (by kernel_rfl) rfl;rw [if_pos (by rfl)];go_simp;exact hK.out _ _ hg rfl (fun _ _ h => h)
         case t3 =>
          intro a w' hoff hg hdep K hK;have h11 := off_at hoff 11 (v := .int .i64 (c : Int)) (by kernel_rfl) rfl;rw [if_pos (by rfl)];go_simp;exact hK.out _ _ hg rfl (fun _ _ h => h)
         case t4 =>
          intro a w' hoff hg hdep K hK;have h5 := off_at hoff 5 (v := .pointer (some ⟨bs, 0, none⟩)) (by kernel_rfl) rfl;obtain ⟨_, e2, rfl⟩ := hdep 2 _ 62 (by kernel_rfl) rfl rfl;rw [if_pos (by rfl)];go_simp;exact hK.out _ _ hg rfl (fun _ _ h => h)
         case t5 =>
          intro a w' hoff hg hdep K hK;obtain ⟨_, e3, rfl⟩ := hdep 3 _ 63 (by kernel_rfl) rfl rfl;obtain ⟨_, e4, rfl⟩ := hdep 4 _ 64 (by kernel_rfl) rfl rfl;rw [if_pos (by rfl)];go_simp;exact hK.out _ _ hg rfl (fun _ _ h => h)
         case t6 =>
          intro a w' hoff hg hdep K hK;obtain ⟨_, e5, rfl⟩ := hdep 5 _ 65 (by kernel_rfl) rfl rfl;rw [if_pos (by rfl)];have c0 := (HTS3.out.on hg).cell HH.out HN.out;rw [hsv] at c0;go_simp;exact hK.out _ _ hg rfl (fun _ _ h => h)
         case t7 =>
          intro a w' hoff hg hdep K hK;obtain ⟨_, e6, rfl⟩ := hdep 6 _ 66 (by kernel_rfl) rfl rfl;rw [if_pos (by rfl)];go_simp;exact hK.out _ _ hg rfl (fun _ _ h => h)
         case t8 =>
          intro a w' hoff hg hdep K hK;have h9 := off_at hoff 9 (v := .pointer (some ⟨bl, 0, none⟩)) (by kernel_rfl) rfl;obtain ⟨_, e7, rfl⟩ := hdep 7 _ 67 (by kernel_rfl) rfl rfl;rw [if_pos (by simp [Region.wanted, yielded, e7])];go_simp;exact hK.out _ _ hg rfl (fun _ _ h => h)
         case t9 =>
          intro a w' hoff hg hdep K hK;obtain ⟨_, e8, rfl⟩ := hdep 8 _ 68 (by kernel_rfl) rfl rfl;obtain ⟨_, e7, rfl⟩ := hdep 7 _ 67 (by kernel_rfl) rfl rfl;rw [if_pos (by simp [Region.wanted, yielded, e7])];obtain ⟨u0, u1, u2⟩ := (XL3.out.on hg).cells;go_simp;exact hK.out _ _ hg rfl (fun _ _ h => h)
         case t10 =>
          intro a w' hoff hg hdep K hK;obtain ⟨_, e9, rfl⟩ := hdep 9 _ 69 (by kernel_rfl) rfl rfl;obtain ⟨_, e7, rfl⟩ := hdep 7 _ 67 (by kernel_rfl) rfl rfl;rw [if_pos (by simp [Region.wanted, yielded, e7])];go_simp;exact hK.out _ _ hg rfl (fun _ _ h => h)
         case t11 =>
          intro a w' hoff hg hdep K hK;obtain ⟨_, e7, rfl⟩ := hdep 7 _ 67 (by kernel_rfl) rfl rfl;obtain ⟨_, e10, rfl⟩ := hdep 10 _ 70 (by kernel_rfl) rfl rfl;rw [if_pos (by rfl)];go_simp;exact hK.out _ _ hg rfl (fun _ _ h => h)
         case t12 =>
          intro a w' hoff hg hdep K hK;obtain ⟨_, e11, rfl⟩ := hdep 11 _ 71 (by kernel_rfl) rfl rfl;rw [if_pos (by rfl)];go_simp;exact hK.out _ _ hg rfl (fun _ _ h => h)
         case t13 =>
          intro a w' hoff hg hdep K hK;have h7 := off_at hoff 7 (v := .pointer (some ⟨bx, 0, none⟩)) (by kernel_rfl) rfl;obtain ⟨_, e12, rfl⟩ := hdep 12 _ 72 (by kernel_rfl) rfl rfl;rw [if_neg (by simp [Region.wanted, yielded, e12])];exact hK.out _ _ hg rfl (fun _ _ h => h)
         case t14 =>
          intro a w' hoff hg hdep K hK;obtain ⟨v13, e13, f13⟩ := hdep 13 _ 73 (by kernel_rfl) rfl rfl;obtain rfl : undef = v13 := Eq.symm f13;obtain ⟨_, e12, rfl⟩ := hdep 12 _ 72 (by kernel_rfl) rfl rfl;rw [if_neg (by simp [Region.wanted, yielded, e12])];exact hK.out _ _ hg rfl (fun _ _ h => h)
         case t15 =>
          intro a w' hoff hg hdep K hK;obtain ⟨v14, e14, f14⟩ := hdep 14 _ 74 (by kernel_rfl) rfl rfl;obtain rfl : undef = v14 := Eq.symm f14;obtain ⟨_, e12, rfl⟩ := hdep 12 _ 72 (by kernel_rfl) rfl rfl;rw [if_neg (by simp [Region.wanted, yielded, e12])];exact hK.out _ _ hg rfl (fun _ _ h => h)
         case t16 =>
          intro a w' hoff hg hdep K hK;obtain ⟨_, e12, rfl⟩ := hdep 12 _ 72 (by kernel_rfl) rfl rfl;obtain ⟨v15, e15, f15⟩ := hdep 15 _ 75 (by kernel_rfl) rfl rfl;obtain rfl : undef = v15 := Eq.symm f15;rw [if_pos (by rfl)];go_simp;exact hK.out _ _ hg rfl (fun _ _ h => h)
         case t17 =>
          intro a w' hoff hg hdep K hK;have h5 := off_at hoff 5 (v := .pointer (some ⟨bs, 0, none⟩)) (by kernel_rfl) rfl;obtain ⟨_, e0, rfl⟩ := hdep 0 _ 60 (by kernel_rfl) rfl rfl;rw [if_pos (by rfl)];go_simp;exact hK.out _ _ hg rfl (fun _ _ h => h)
         case t18 =>
          intro a w' hoff hg hdep K hK;obtain ⟨_, e1, rfl⟩ := hdep 1 _ 61 (by kernel_rfl) rfl rfl;obtain ⟨_, e17, rfl⟩ := hdep 17 _ 77 (by kernel_rfl) rfl rfl;rw [if_pos (by rfl)];go_simp;exact hK.out _ _ hg rfl (fun _ _ h => h)
         case tlast =>
          intro a w' hoff hg hf;obtain ⟨_, e0, rfl⟩ := hf 0 _ 60 (by decide) rfl rfl;obtain ⟨_, e1, rfl⟩ := hf 1 _ 61 (by decide) rfl rfl;obtain ⟨_, e2, rfl⟩ := hf 2 _ 62 (by decide) rfl rfl;obtain ⟨_, e3, rfl⟩ := hf 3 _ 63 (by decide) rfl rfl;obtain ⟨_, e4, rfl⟩ := hf 4 _ 64 (by decide) rfl rfl;obtain ⟨_, e5, rfl⟩ := hf 5 _ 65 (by decide) rfl rfl;obtain ⟨_, e6, rfl⟩ := hf 6 _ 66 (by decide) rfl rfl;obtain ⟨_, e7, rfl⟩ := hf 7 _ 67 (by decide) rfl rfl;obtain ⟨_, e8, rfl⟩ := hf 8 _ 68 (by decide) rfl rfl;obtain ⟨_, e9, rfl⟩ := hf 9 _ 69 (by decide) rfl rfl;obtain ⟨_, e10, rfl⟩ := hf 10 _ 70 (by decide) rfl rfl;obtain ⟨_, e11, rfl⟩ := hf 11 _ 71 (by decide) rfl rfl;obtain ⟨_, e12, rfl⟩ := hf 12 _ 72 (by decide) rfl rfl;obtain ⟨v13, e13, f13⟩ := hf 13 _ 73 (by decide) rfl rfl;obtain rfl : undef = v13 := Eq.symm f13;obtain ⟨v14, e14, f14⟩ := hf 14 _ 74 (by decide) rfl rfl;obtain rfl : undef = v14 := Eq.symm f14;obtain ⟨v15, e15, f15⟩ := hf 15 _ 75 (by decide) rfl rfl;obtain rfl : undef = v15 := Eq.symm f15;obtain ⟨_, e16, rfl⟩ := hf 16 _ 76 (by decide) rfl rfl;obtain ⟨_, e17, rfl⟩ := hf 17 _ 77 (by decide) rfl rfl;obtain ⟨_, e18, rfl⟩ := hf 18 _ 78 (by decide) rfl rfl;have c0 := (HTS3.out.on hg).cell HH.out HN.out;have z0 := (HTS3.out.on hg).frozen (h * 6 + c);rw [if_pos (by rfl)];rw [hoff.sets [(60, .int .i64 (h : Int)), (61, .int .i64 (c : Int)), (62, .int .i64 (h : Int)), (63, .int .i64 (c : Int)), (64, .pointer (some ⟨bs, h * 6, none⟩)), (65, .pointer (some ⟨bs, h * 6 + c, none⟩)), (66, .bool false), (67, .bool false), (68, .pointer (some ⟨bl, 0, none⟩)), (69, .int .i64 z.kind), (70, .bool true), (71, .bool true), (72, .bool true), (73, undef), (74, undef), (75, undef), (76, .bool true), (77, .pointer (some ⟨bs, h * 6, none⟩)), (78, .pointer (some ⟨bs, h * 6 + c, none⟩))] (by kernel_rfl) (by intro p hp; simp only [List.mem_cons, List.not_mem_nil, or_false] at hp; rcases hp with rfl | rfl | rfl | rfl | rfl | rfl | rfl | rfl | rfl | rfl | rfl | rfl | rfl | rfl | rfl | rfl | rfl | rfl | rfl <;> assumption)];clear hoff hf e0 e1 e2 e3 e4 e5 e6 e7 e8 e9 e10 e11 e12 e13 e14 e15 e16 e17 e18;simp only [List.foldl_cons, List.foldl_nil, List.setIfInBounds_toArray, List.set_cons_zero, List.set_cons_succ]
          go_simp;have HTA9 := Lib.hid ((HTA3.out.on hg).other (g := bs) (show ba ≠ bs by have := HB.out; omega) (h * 6 + c) (.bool true));have HTS9 := Lib.hid ((HTS3.out.on hg).put HH.out HN.out true);have HBUT9 := Lib.hid ((HBUT3.out.step XB.out.lt hg).setS (h * 6 + c) (.bool true))
          have HK : Hid (BaseT ((p.rules.take k).flatMap (ruSteps p.decls) ++ (r.body.take (m + 1)).flatMap (litSteps p.decls r)) (setT A h c true) (setT S' h c true)) := by
           show BaseT _ _ _
           have hadd : BaseT (_ ++ [⟨h, c, riseOf r z⟩]) (setT A h c true) (setT S' h c (S' h c || riseOf r z == 1)) := HBASE2.out.add ⟨h, c, riseOf r z⟩;rw [← HV.out] at hadd;rw [HNX.out]; exact hadd
          clear hg c0 z0;go_wp2_with fail
          go_roundw
          case rel => exact ⟨m + 1, _, _, hml, by go_num, HK, HTA9, HTS9, HBUT9⟩
          case measure => simp [intOf]; omega
        | false =>
         have HV : Hid ((!r.agg.toList.isEmpty) = (S' h c || riseOf r z == 1)) := by
          have hne : ¬ z.kind = 2 := by simpa using hk2
          show _ = _
          rw [hsv]
          cases hae : r.agg.toList.isEmpty with
          | true =>
           rw [riseOf, if_neg]
           ·rfl
           ·rintro (h | h)
            ·exact hne h
            ·exact h (eqS_iff.1 (by rw [eqS, List.isEmpty_iff.1 hae]; simp [Lib.toList_data]))
          | false =>
           rw [riseOf, if_pos (.inr fun h => by rw [h] at hae; simp [Lib.toList_data] at hae)]; rfl
         refine wp_region_factsL (by rfl) 179 (by rfl) (by kernel_rfl) (FA [.e (.int .i64 (h : Int)), .e (.int .i64 (c : Int)), .e (.int .i64 (h : Int)), .e (.int .i64 (c : Int)), .e (.pointer (some ⟨bs, h * 6, none⟩)), .e (.pointer (some ⟨bs, h * 6 + c, none⟩)), .e (.bool false), .e (.bool false), .e (.pointer (some ⟨bl, 0, none⟩)), .e (.int .i64 z.kind), .e (.bool false), .e (.bool false), .e (.bool false), .e (.pointer (some ⟨bx, 3, none⟩)), .e (.string r.agg), .e (.bool (!r.agg.toList.isEmpty)), .e (.bool (!r.agg.toList.isEmpty)), .e (.pointer (some ⟨bs, h * 6, none⟩)), .e (.pointer (some ⟨bs, h * 6 + c, none⟩))]) (fun w' => Below w8.heap.size w8 w') (Below.drew (Below.refl _ _)) ⟨?u0, ?u1, ?u2, ?u3, ?u4, ?u5, ?u6, ?u7, ?u8, ?u9, ?u10, ?u11, ?u12, ?u13, ?u14, ?u15, ?u16, ?u17, ?u18, trivial⟩ (by rfl) ?ulast (by decide)
         case u0 =>
          intro a w' hoff hg hdep K hK;have h10 := off_at hoff 10 (v := .int .i64 (h : Int)) (by kernel_rfl) rfl;rw [if_pos (by rfl)];go_simp;exact hK.out _ _ hg rfl (fun _ _ h => h)
         case u1 =>
          intro a w' hoff hg hdep K hK;have h11 := off_at hoff 11 (v := .int .i64 (c : Int)) (by kernel_rfl) rfl;rw [if_pos (by rfl)];go_simp;exact hK.out _ _ hg rfl (fun _ _ h => h)
         case u2 =>
          intro a w' hoff hg hdep K hK;have h10 := off_at hoff 10 (v := .int .i64 (h : Int)) (by kernel_rfl) rfl;rw [if_pos (by rfl)];go_simp;exact hK.out _ _ hg rfl (fun _ _ h => h)
         case u3 =>
          intro a w' hoff hg hdep K hK;have h11 := off_at hoff 11 (v := .int .i64 (c : Int)) (by kernel_rfl) rfl;rw [if_pos (by rfl)];go_simp;exact hK.out _ _ hg rfl (fun _ _ h => h)
         case u4 =>
          intro a w' hoff hg hdep K hK;have h5 := off_at hoff 5 (v := .pointer (some ⟨bs, 0, none⟩)) (by kernel_rfl) rfl;obtain ⟨_, e2, rfl⟩ := hdep 2 _ 62 (by kernel_rfl) rfl rfl;rw [if_pos (by rfl)];go_simp;exact hK.out _ _ hg rfl (fun _ _ h => h)
         case u5 =>
          intro a w' hoff hg hdep K hK;obtain ⟨_, e3, rfl⟩ := hdep 3 _ 63 (by kernel_rfl) rfl rfl;obtain ⟨_, e4, rfl⟩ := hdep 4 _ 64 (by kernel_rfl) rfl rfl;rw [if_pos (by rfl)];go_simp;exact hK.out _ _ hg rfl (fun _ _ h => h)
         case u6 =>
          intro a w' hoff hg hdep K hK;obtain ⟨_, e5, rfl⟩ := hdep 5 _ 65 (by kernel_rfl) rfl rfl;rw [if_pos (by rfl)];have c0 := (HTS3.out.on hg).cell HH.out HN.out;rw [hsv] at c0;go_simp;exact hK.out _ _ hg rfl (fun _ _ h => h)
         case u7 =>
          intro a w' hoff hg hdep K hK;obtain ⟨_, e6, rfl⟩ := hdep 6 _ 66 (by kernel_rfl) rfl rfl;rw [if_pos (by rfl)];go_simp;exact hK.out _ _ hg rfl (fun _ _ h => h)
         case u8 =>
          intro a w' hoff hg hdep K hK;have h9 := off_at hoff 9 (v := .pointer (some ⟨bl, 0, none⟩)) (by kernel_rfl) rfl;obtain ⟨_, e7, rfl⟩ := hdep 7 _ 67 (by kernel_rfl) rfl rfl;rw [if_pos (by simp [Region.wanted, yielded, e7])];go_simp;exact hK.out _ _ hg rfl (fun _ _ h => h)
         case u9 =>
          intro a w' hoff hg hdep K hK;obtain ⟨_, e8, rfl⟩ := hdep 8 _ 68 (by kernel_rfl) rfl rfl;obtain ⟨_, e7, rfl⟩ := hdep 7 _ 67 (by kernel_rfl) rfl rfl;rw [if_pos (by simp [Region.wanted, yielded, e7])];obtain ⟨u0, u1, u2⟩ := (XL3.out.on hg).cells;go_simp;exact hK.out _ _ hg rfl (fun _ _ h => h)
         case u10 =>
          intro a w' hoff hg hdep K hK;obtain ⟨_, e9, rfl⟩ := hdep 9 _ 69 (by kernel_rfl) rfl rfl;obtain ⟨_, e7, rfl⟩ := hdep 7 _ 67 (by kernel_rfl) rfl rfl;rw [if_pos (by simp [Region.wanted, yielded, e7])];go_simp;exact hK.out _ _ hg rfl (fun _ _ h => h)
         case u11 =>
          intro a w' hoff hg hdep K hK;obtain ⟨_, e7, rfl⟩ := hdep 7 _ 67 (by kernel_rfl) rfl rfl;obtain ⟨_, e10, rfl⟩ := hdep 10 _ 70 (by kernel_rfl) rfl rfl;rw [if_pos (by rfl)];go_simp;exact hK.out _ _ hg rfl (fun _ _ h => h)
         case u12 =>
          intro a w' hoff hg hdep K hK;obtain ⟨_, e11, rfl⟩ := hdep 11 _ 71 (by kernel_rfl) rfl rfl;rw [if_pos (by rfl)];go_simp;exact hK.out _ _ hg rfl (fun _ _ h => h)
         case u13 =>
          intro a w' hoff hg hdep K hK;have h7 := off_at hoff 7 (v := .pointer (some ⟨bx, 0, none⟩)) (by kernel_rfl) rfl;obtain ⟨_, e12, rfl⟩ := hdep 12 _ 72 (by kernel_rfl) rfl rfl;rw [if_pos (by simp [Region.wanted, yielded, e12])];go_simp;exact hK.out _ _ hg rfl (fun _ _ h => h)
         case u14 =>
          intro a w' hoff hg hdep K hK;obtain ⟨_, e13, rfl⟩ := hdep 13 _ 73 (by kernel_rfl) rfl rfl;obtain ⟨_, e12, rfl⟩ := hdep 12 _ 72 (by kernel_rfl) rfl rfl;rw [if_pos (by simp [Region.wanted, yielded, e12])];obtain ⟨u0, u1, u2, u3, u4, u5⟩ := (XR3.out.on hg).cells;go_simp;exact hK.out _ _ hg rfl (fun _ _ h => h)
         case u15 =>
          intro a w' hoff hg hdep K hK;obtain ⟨_, e14, rfl⟩ := hdep 14 _ 74 (by kernel_rfl) rfl rfl;obtain ⟨_, e12, rfl⟩ := hdep 12 _ 72 (by kernel_rfl) rfl rfl;rw [if_pos (by simp [Region.wanted, yielded, e12])];go_simp;exact hK.out _ _ hg rfl (fun _ _ h => h)
         case u16 =>
          intro a w' hoff hg hdep K hK;obtain ⟨_, e12, rfl⟩ := hdep 12 _ 72 (by kernel_rfl) rfl rfl;obtain ⟨_, e15, rfl⟩ := hdep 15 _ 75 (by kernel_rfl) rfl rfl;rw [if_pos (by rfl)];go_simp;exact hK.out _ _ hg rfl (fun _ _ h => h)
         case u17 =>
          intro a w' hoff hg hdep K hK;have h5 := off_at hoff 5 (v := .pointer (some ⟨bs, 0, none⟩)) (by kernel_rfl) rfl;obtain ⟨_, e0, rfl⟩ := hdep 0 _ 60 (by kernel_rfl) rfl rfl;rw [if_pos (by rfl)];go_simp;exact hK.out _ _ hg rfl (fun _ _ h => h)
         case u18 =>
          intro a w' hoff hg hdep K hK;obtain ⟨_, e1, rfl⟩ := hdep 1 _ 61 (by kernel_rfl) rfl rfl;obtain ⟨_, e17, rfl⟩ := hdep 17 _ 77 (by kernel_rfl) rfl rfl;rw [if_pos (by rfl)];go_simp;exact hK.out _ _ hg rfl (fun _ _ h => h)
         case ulast =>
          intro a w' hoff hg hf;obtain ⟨_, e0, rfl⟩ := hf 0 _ 60 (by decide) rfl rfl;obtain ⟨_, e1, rfl⟩ := hf 1 _ 61 (by decide) rfl rfl;obtain ⟨_, e2, rfl⟩ := hf 2 _ 62 (by decide) rfl rfl;obtain ⟨_, e3, rfl⟩ := hf 3 _ 63 (by decide) rfl rfl;obtain ⟨_, e4, rfl⟩ := hf 4 _ 64 (by decide) rfl rfl;obtain ⟨_, e5, rfl⟩ := hf 5 _ 65 (by decide) rfl rfl;obtain ⟨_, e6, rfl⟩ := hf 6 _ 66 (by decide) rfl rfl;obtain ⟨_, e7, rfl⟩ := hf 7 _ 67 (by decide) rfl rfl;obtain ⟨_, e8, rfl⟩ := hf 8 _ 68 (by decide) rfl rfl;obtain ⟨_, e9, rfl⟩ := hf 9 _ 69 (by decide) rfl rfl;obtain ⟨_, e10, rfl⟩ := hf 10 _ 70 (by decide) rfl rfl;obtain ⟨_, e11, rfl⟩ := hf 11 _ 71 (by decide) rfl rfl;obtain ⟨_, e12, rfl⟩ := hf 12 _ 72 (by decide) rfl rfl;obtain ⟨_, e13, rfl⟩ := hf 13 _ 73 (by decide) rfl rfl;obtain ⟨_, e14, rfl⟩ := hf 14 _ 74 (by decide) rfl rfl;obtain ⟨_, e15, rfl⟩ := hf 15 _ 75 (by decide) rfl rfl;obtain ⟨_, e16, rfl⟩ := hf 16 _ 76 (by decide) rfl rfl;obtain ⟨_, e17, rfl⟩ := hf 17 _ 77 (by decide) rfl rfl;obtain ⟨_, e18, rfl⟩ := hf 18 _ 78 (by decide) rfl rfl;have c0 := (HTS3.out.on hg).cell HH.out HN.out;have z0 := (HTS3.out.on hg).frozen (h * 6 + c);rw [if_pos (by rfl)];rw [hoff.sets [(60, .int .i64 (h : Int)), (61, .int .i64 (c : Int)), (62, .int .i64 (h : Int)), (63, .int .i64 (c : Int)), (64, .pointer (some ⟨bs, h * 6, none⟩)), (65, .pointer (some ⟨bs, h * 6 + c, none⟩)), (66, .bool false), (67, .bool false), (68, .pointer (some ⟨bl, 0, none⟩)), (69, .int .i64 z.kind), (70, .bool false), (71, .bool false), (72, .bool false), (73, .pointer (some ⟨bx, 3, none⟩)), (74, .string r.agg), (75, .bool (!r.agg.toList.isEmpty)), (76, .bool (!r.agg.toList.isEmpty)), (77, .pointer (some ⟨bs, h * 6, none⟩)), (78, .pointer (some ⟨bs, h * 6 + c, none⟩))] (by kernel_rfl) (by intro p hp; simp only [List.mem_cons, List.not_mem_nil, or_false] at hp; rcases hp with rfl | rfl | rfl | rfl | rfl | rfl | rfl | rfl | rfl | rfl | rfl | rfl | rfl | rfl | rfl | rfl | rfl | rfl | rfl <;> assumption)];clear hoff hf e0 e1 e2 e3 e4 e5 e6 e7 e8 e9 e10 e11 e12 e13 e14 e15 e16 e17 e18;simp only [List.foldl_cons, List.foldl_nil, List.setIfInBounds_toArray, List.set_cons_zero, List.set_cons_succ]
          go_simp;have HTA9 := Lib.hid ((HTA3.out.on hg).other (g := bs) (show ba ≠ bs by have := HB.out; omega) (h * 6 + c) (.bool (!r.agg.toList.isEmpty)));have HTS9 := Lib.hid ((HTS3.out.on hg).put HH.out HN.out (!r.agg.toList.isEmpty));have HBUT9 := Lib.hid ((HBUT3.out.step XB.out.lt hg).setS (h * 6 + c) (.bool (!r.agg.toList.isEmpty)))
          have HK : Hid (BaseT ((p.rules.take k).flatMap (ruSteps p.decls) ++ (r.body.take (m + 1)).flatMap (litSteps p.decls r)) (setT A h c true) (setT S' h c (!r.agg.toList.isEmpty))) := by
           show BaseT _ _ _
           have hadd : BaseT (_ ++ [⟨h, c, riseOf r z⟩]) (setT A h c true) (setT S' h c (S' h c || riseOf r z == 1)) := HBASE2.out.add ⟨h, c, riseOf r z⟩;rw [← HV.out] at hadd;rw [HNX.out]; exact hadd
          clear hg c0 z0;go_wp2_with fail
          go_roundw
          case rel => exact ⟨m + 1, _, _, hml, by go_num, HK, HTA9, HTS9, HBUT9⟩
          case measure => simp [intOf]; omega
      ·rw [decide_eq_false hkk]
       have HK : Hid (BaseT ((p.rules.take k).flatMap (ruSteps p.decls) ++ (r.body.take (m + 1)).flatMap (litSteps p.decls r)) A S') := by
        show BaseT _ _ _
        rw [HTM.out, litSteps, if_neg hkk, List.append_nil]; exact HBASE2.out
       clear HTM hkk;go_wp2_with fail
       go_roundw
       case rel => exact ⟨m + 1, A, S', hml, by go_num, HK, HTA2, HTS2, HBUT2⟩
       case measure => simp [intOf]; omega
    ·
     have hml2 : m = r.body.length := by omega
     subst hml2
     have HK : Hid (BaseT ((p.rules.take (k + 1)).flatMap (ruSteps p.decls)) A S') := by
      show BaseT _ _ _
      have hx := hbase.out;rw [List.take_length] at hx;rw [HTK.out]; exact hx
     have HBUTN : Hid (But2 ba bs w5.heap.size w5 wr) := But2.trans2 HBUT.out hbut.out HBUT.out.size;have hrn := HRN.out;go_wp2_with fail
     go_roundw
     case rel => exact ⟨k + 1, A, S', hkl, by go_num, HK, hta, hts, HBUTN⟩
     case measure => simp [intOf]; omega
  ·
   have hkl2 : k = p.rules.length := by omega
   subst hkl2
   have HPA : Hid (PassA (prSteps p) 6 0 A S') := by
    show PassA _ _ _ _ _
    have hx := hbase.out;rw [List.take_length] at hx;exact BaseT.pass hx
   have HBUT5 := hbut; have TA9 := hta; have TS9 := hts
   clear hbase hta hts hbut PR;go_wp2_with fail
   clear XR o0 o1 o2;generalize wr = w9 at *;go_loopw [12] (fun kv wr => ∃ (k : Nat) (A S : Nat → Nat → Bool), k ≤ 6 ∧ kv = .int .i64 (k : Int) ∧ Hid (PassA (prSteps p) 6 k A S) ∧ Hid (TabAt wr ba A) ∧ Hid (TabAt wr bs S) ∧ Hid (But2 ba bs w9.heap.size w9 wr)) (fun kv _ => 6 - (intOf kv).toNat)
   case atStart => exact ⟨0, A, S', by omega, rfl, HPA, TA9, TS9, Lib.hid (But2.refl _ _ _ _)⟩
   case round =>
    obtain ⟨k, A0, S0, hk, rfl, hpass, hta, hts, hbut⟩ := hrel
    by_cases hk6 : k < 6
    ·have HP0 := hpass
     have HKB := Lib.hid hk6;have hdk : decide ((k : Int) < 6) = true := decide_eq_true (by omega);clear hpass;go_wp2_with fail
     clear hdk;go_loopw [13] (fun iv wr => ∃ (i : Nat) (A S : Nat → Nat → Bool), i ≤ 6 ∧ iv = .int .i64 (i : Int) ∧ Hid (InA (prSteps p) 6 k i 0 A0 S0 A S) ∧ Hid (TabAt wr ba A) ∧ Hid (TabAt wr bs S) ∧ Hid (But2 ba bs w9.heap.size w9 wr)) (fun iv _ => 6 - (intOf iv).toNat)
     case atStart => exact ⟨0, A0, S0, by omega, rfl, Lib.hid (InA.start HP0.out.toTabs), hta, hts, hbut⟩
     case round =>
      obtain ⟨i, A, S, hi, rfl, hin, hta, hts, hbut⟩ := hrel
      by_cases hi6 : i < 6
      ·have HI := Lib.hid hi6
       have hdi : decide ((i : Int) < 6) = true := decide_eq_true (by omega);go_wp2_with fail
       clear hdi;go_loopw [14] (fun jv wr => ∃ (j : Nat) (A S : Nat → Nat → Bool), j ≤ 6 ∧ jv = .int .i64 (j : Int) ∧ Hid (InA (prSteps p) 6 k i j A0 S0 A S) ∧ Hid (TabAt wr ba A) ∧ Hid (TabAt wr bs S) ∧ Hid (But2 ba bs w9.heap.size w9 wr)) (fun jv _ => 6 - (intOf jv).toNat)
       case atStart => exact ⟨0, A, S, by omega, rfl, hin, hta, hts, hbut⟩
       case round =>
        obtain ⟨j, A, S, hj, rfl, hin, hta, hts, hbut⟩ := hrel
        by_cases hj6 : j < 6
        ·have HJ := Lib.hid hj6
         have i1 : (0 : Int) ≤ (i : Int) := Int.natCast_nonneg _;have i2 : (i : Int) < 6 := by omega
         have i3 : (0 : Int) ≤ (j : Int) := Int.natCast_nonneg _;have i4 : (j : Int) < 6 := by omega
         have i5 : (0 : Int) ≤ (k : Int) := Int.natCast_nonneg _;have i6 : (k : Int) < 6 := by omega
         have a1 := hta.out.cell hi6 hk6;have a2 := hta.out.cell hk6 hj6
         cases ha1 : A i k with
         | false =>
          rw [ha1] at a1;have HK := Lib.hid (hin.out.skip HKB.out (by rintro ⟨h, -⟩; rw [ha1] at h; cases h));clear a2;go_wp2_with fail
          go_roundw
          case rel => exact ⟨j + 1, A, S, hj6, by go_num, HK, hta, hts, hbut⟩
          case measure => simp [intOf]; omega
         | true =>
          cases ha2 : A k j with
          | false =>
           rw [ha1] at a1; rw [ha2] at a2
           have HK := Lib.hid (hin.out.skip HKB.out (by rintro ⟨-, h⟩; rw [ha2] at h; cases h));go_wp2_with fail
           go_roundw
           case rel => exact ⟨j + 1, A, S, hj6, by go_num, HK, hta, hts, hbut⟩
           case measure => simp [intOf]; omega
          | true =>
           rw [ha1] at a1; rw [ha2] at a2
           have HSTEP0 := Lib.hid (hin.out.step HKB.out HI.out HJ.out ha1 ha2);clear ha1 ha2;have c0 := hta.out.cell HI.out HJ.out;have z0 := hta.out.frozen (i * 6 + j);go_upto_region 27 with fail
           have HTA3 := Lib.hid (hta.out.put HI.out HJ.out true);have HTS3 := Lib.hid (hts.out.other (g := ba) (show bs ≠ ba by have := HB.out; omega) (i * 6 + j) (.bool true));have HBUT3 := Lib.hid (hbut.out.setA (i * 6 + j) (.bool true));clear c0 z0 a1 a2 hta hts hbut;generalize wr.setCell ⟨ba, i * 6 + j, none⟩ (.bool true) = w8 at *
           cases hsij : S i j with
           | true =>
            have HV : Hid (true = (S i j || (S i k || S k j))) := by show _ = _; rw [hsij]; rfl
            have HSIJ := Lib.hid hsij;clear hsij;refine wp_region_factsL (by rfl) 179 (by rfl) (by kernel_rfl) (FA [.e (.int .i64 (i : Int)), .e (.int .i64 (j : Int)), .e (.int .i64 (i : Int)), .e (.int .i64 (j : Int)), .e (.pointer (some ⟨bs, i * 6, none⟩)), .e (.pointer (some ⟨bs, i * 6 + j, none⟩)), .e (.bool true), .e (.bool true), .e undef, .e undef, .e undef, .e undef, .e undef, .e (.bool true), .e (.bool true), .e undef, .e undef, .e undef, .e undef, .e undef, .e (.bool true), .e (.pointer (some ⟨bs, i * 6, none⟩)), .e (.pointer (some ⟨bs, i * 6 + j, none⟩))]) (fun w' => Below w8.heap.size w8 w') (Below.drew (Below.refl _ _)) ⟨?xa0, ?xa1, ?xa2, ?xa3, ?xa4, ?xa5, ?xa6, ?xa7, ?xa8, ?xa9, ?xa10, ?xa11, ?xa12, ?xa13, ?xa14, ?xa15, ?xa16, ?xa17, ?xa18, ?xa19, ?xa20, ?xa21, ?xa22, trivial⟩ (by rfl) ?xalast (by decide)
            case xa0 =>
             intro a w' hoff hg hdep K hK;have h13 := off_at hoff 13 (v := .int .i64 (i : Int)) (by kernel_rfl) rfl;rw [if_pos (by rfl)];go_simp;exact hK.out _ _ hg rfl (fun _ _ h => h)
            case xa1 =>
             intro a w' hoff hg hdep K hK;have h14 := off_at hoff 14 (v := .int .i64 (j : Int)) (by kernel_rfl) rfl;rw [if_pos (by rfl)];go_simp;exact hK.out _ _ hg rfl (fun _ _ h => h)
            case xa2 =>
             intro a w' hoff hg hdep K hK;have h13 := off_at hoff 13 (v := .int .i64 (i : Int)) (by kernel_rfl) rfl;rw [if_pos (by rfl)];go_simp;exact hK.out _ _ hg rfl (fun _ _ h => h)
            case xa3 =>
             intro a w' hoff hg hdep K hK;have h14 := off_at hoff 14 (v := .int .i64 (j : Int)) (by kernel_rfl) rfl;rw [if_pos (by rfl)];go_simp;exact hK.out _ _ hg rfl (fun _ _ h => h)
            case xa4 =>
             intro a w' hoff hg hdep K hK;have h5 := off_at hoff 5 (v := .pointer (some ⟨bs, 0, none⟩)) (by kernel_rfl) rfl;obtain ⟨_, e2, rfl⟩ := hdep 2 _ 109 (by kernel_rfl) rfl rfl;rw [if_pos (by rfl)];go_simp;exact hK.out _ _ hg rfl (fun _ _ h => h)
            case xa5 =>
             intro a w' hoff hg hdep K hK;obtain ⟨_, e3, rfl⟩ := hdep 3 _ 110 (by kernel_rfl) rfl rfl;obtain ⟨_, e4, rfl⟩ := hdep 4 _ 111 (by kernel_rfl) rfl rfl;rw [if_pos (by rfl)];go_simp;exact hK.out _ _ hg rfl (fun _ _ h => h)
            case xa6 =>
             intro a w' hoff hg hdep K hK;obtain ⟨_, e5, rfl⟩ := hdep 5 _ 112 (by kernel_rfl) rfl rfl;rw [if_pos (by rfl)];have c0 := (HTS3.out.on hg).cell HI.out HJ.out;rw [HSIJ.out] at c0;go_simp;exact hK.out _ _ hg rfl (fun _ _ h => h)
            case xa7 =>
             intro a w' hoff hg hdep K hK;obtain ⟨_, e6, rfl⟩ := hdep 6 _ 113 (by kernel_rfl) rfl rfl;rw [if_pos (by rfl)];go_simp;exact hK.out _ _ hg rfl (fun _ _ h => h)
            case xa8 =>
             intro a w' hoff hg hdep K hK;have h13 := off_at hoff 13 (v := .int .i64 (i : Int)) (by kernel_rfl) rfl;obtain ⟨_, e7, rfl⟩ := hdep 7 _ 114 (by kernel_rfl) rfl rfl;rw [if_neg (by simp [Region.wanted, yielded, e7])];exact hK.out _ _ hg rfl (fun _ _ h => h)
            case xa9 =>
             intro a w' hoff hg hdep K hK;have h12 := off_at hoff 12 (v := .int .i64 (k : Int)) (by kernel_rfl) rfl;obtain ⟨_, e7, rfl⟩ := hdep 7 _ 114 (by kernel_rfl) rfl rfl;rw [if_neg (by simp [Region.wanted, yielded, e7])];exact hK.out _ _ hg rfl (fun _ _ h => h)
            case xa10 =>
             intro a w' hoff hg hdep K hK;have h5 := off_at hoff 5 (v := .pointer (some ⟨bs, 0, none⟩)) (by kernel_rfl) rfl;obtain ⟨v8, e8, f8⟩ := hdep 8 _ 115 (by kernel_rfl) rfl rfl;obtain rfl : undef = v8 := Eq.symm f8;obtain ⟨_, e7, rfl⟩ := hdep 7 _ 114 (by kernel_rfl) rfl rfl;rw [if_neg (by simp [Region.wanted, yielded, e7])];exact hK.out _ _ hg rfl (fun _ _ h => h)
            case xa11 =>
             intro a w' hoff hg hdep K hK;obtain ⟨v9, e9, f9⟩ := hdep 9 _ 116 (by kernel_rfl) rfl rfl;obtain rfl : undef = v9 := Eq.symm f9;obtain ⟨v10, e10, f10⟩ := hdep 10 _ 117 (by kernel_rfl) rfl rfl;obtain rfl : undef = v10 := Eq.symm f10;obtain ⟨_, e7, rfl⟩ := hdep 7 _ 114 (by kernel_rfl) rfl rfl;rw [if_neg (by simp [Region.wanted, yielded, e7])];exact hK.out _ _ hg rfl (fun _ _ h => h)
            case xa12 =>
             intro a w' hoff hg hdep K hK;obtain ⟨v11, e11, f11⟩ := hdep 11 _ 118 (by kernel_rfl) rfl rfl;obtain rfl : undef = v11 := Eq.symm f11;obtain ⟨_, e7, rfl⟩ := hdep 7 _ 114 (by kernel_rfl) rfl rfl;rw [if_neg (by simp [Region.wanted, yielded, e7])];exact hK.out _ _ hg rfl (fun _ _ h => h)
            case xa13 =>
             intro a w' hoff hg hdep K hK;obtain ⟨_, e7, rfl⟩ := hdep 7 _ 114 (by kernel_rfl) rfl rfl;obtain ⟨v12, e12, f12⟩ := hdep 12 _ 119 (by kernel_rfl) rfl rfl;obtain rfl : undef = v12 := Eq.symm f12;rw [if_pos (by rfl)];go_simp;exact hK.out _ _ hg rfl (fun _ _ h => h)
            case xa14 =>
             intro a w' hoff hg hdep K hK;obtain ⟨_, e13, rfl⟩ := hdep 13 _ 120 (by kernel_rfl) rfl rfl;rw [if_pos (by rfl)];go_simp;exact hK.out _ _ hg rfl (fun _ _ h => h)
            case xa15 =>
             intro a w' hoff hg hdep K hK;have h12 := off_at hoff 12 (v := .int .i64 (k : Int)) (by kernel_rfl) rfl;obtain ⟨_, e14, rfl⟩ := hdep 14 _ 121 (by kernel_rfl) rfl rfl;rw [if_neg (by simp [Region.wanted, yielded, e14])];exact hK.out _ _ hg rfl (fun _ _ h => h)
            case xa16 =>
             intro a w' hoff hg hdep K hK;have h14 := off_at hoff 14 (v := .int .i64 (j : Int)) (by kernel_rfl) rfl;obtain ⟨_, e14, rfl⟩ := hdep 14 _ 121 (by kernel_rfl) rfl rfl;rw [if_neg (by simp [Region.wanted, yielded, e14])];exact hK.out _ _ hg rfl (fun _ _ h => h)
            case xa17 =>
             intro a w' hoff hg hdep K hK;have h5 := off_at hoff 5 (v := .pointer (some ⟨bs, 0, none⟩)) (by kernel_rfl) rfl;obtain ⟨v15, e15, f15⟩ := hdep 15 _ 122 (by kernel_rfl) rfl rfl;obtain rfl : undef = v15 := Eq.symm f15;obtain ⟨_, e14, rfl⟩ := hdep 14 _ 121 (by kernel_rfl) rfl rfl;rw [if_neg (by simp [Region.wanted, yielded, e14])];exact hK.out _ _ hg rfl (fun _ _ h => h)
            case xa18 =>
             intro a w' hoff hg hdep K hK;obtain ⟨v16, e16, f16⟩ := hdep 16 _ 123 (by kernel_rfl) rfl rfl;obtain rfl : undef = v16 := Eq.symm f16;obtain ⟨v17, e17, f17⟩ := hdep 17 _ 124 (by kernel_rfl) rfl rfl;obtain rfl : undef = v17 := Eq.symm f17;obtain ⟨_, e14, rfl⟩ := hdep 14 _ 121 (by kernel_rfl) rfl rfl;rw [if_neg (by simp [Region.wanted, yielded, e14])];exact hK.out _ _ hg rfl (fun _ _ h => h)
            case xa19 =>
             intro a w' hoff hg hdep K hK;obtain ⟨v18, e18, f18⟩ := hdep 18 _ 125 (by kernel_rfl) rfl rfl;obtain rfl : undef = v18 := Eq.symm f18;obtain ⟨_, e14, rfl⟩ := hdep 14 _ 121 (by kernel_rfl) rfl rfl;rw [if_neg (by simp [Region.wanted, yielded, e14])];exact hK.out _ _ hg rfl (fun _ _ h => h)
            case xa20 =>
             intro a w' hoff hg hdep K hK;obtain ⟨_, e14, rfl⟩ := hdep 14 _ 121 (by kernel_rfl) rfl rfl;obtain ⟨v19, e19, f19⟩ := hdep 19 _ 126 (by kernel_rfl) rfl rfl;obtain rfl : undef = v19 := Eq.symm f19;rw [if_pos (by rfl)];go_simp;exact hK.out _ _ hg rfl (fun _ _ h => h)
            case xa21 =>
             intro a w' hoff hg hdep K hK;have h5 := off_at hoff 5 (v := .pointer (some ⟨bs, 0, none⟩)) (by kernel_rfl) rfl;obtain ⟨_, e0, rfl⟩ := hdep 0 _ 107 (by kernel_rfl) rfl rfl;rw [if_pos (by rfl)];go_simp;exact hK.out _ _ hg rfl (fun _ _ h => h)
            case xa22 =>
             intro a w' hoff hg hdep K hK;obtain ⟨_, e1, rfl⟩ := hdep 1 _ 108 (by kernel_rfl) rfl rfl;obtain ⟨_, e21, rfl⟩ := hdep 21 _ 128 (by kernel_rfl) rfl rfl;rw [if_pos (by rfl)];go_simp;exact hK.out _ _ hg rfl (fun _ _ h => h)
            case xalast =>
             intro a w' hoff hg hf;obtain ⟨_, e0, rfl⟩ := hf 0 _ 107 (by decide) rfl rfl;obtain ⟨_, e1, rfl⟩ := hf 1 _ 108 (by decide) rfl rfl;obtain ⟨_, e2, rfl⟩ := hf 2 _ 109 (by decide) rfl rfl;obtain ⟨_, e3, rfl⟩ := hf 3 _ 110 (by decide) rfl rfl;obtain ⟨_, e4, rfl⟩ := hf 4 _ 111 (by decide) rfl rfl;obtain ⟨_, e5, rfl⟩ := hf 5 _ 112 (by decide) rfl rfl;obtain ⟨_, e6, rfl⟩ := hf 6 _ 113 (by decide) rfl rfl;obtain ⟨_, e7, rfl⟩ := hf 7 _ 114 (by decide) rfl rfl;obtain ⟨v8, e8, f8⟩ := hf 8 _ 115 (by decide) rfl rfl;obtain rfl : undef = v8 := Eq.symm f8;obtain ⟨v9, e9, f9⟩ := hf 9 _ 116 (by decide) rfl rfl;obtain rfl : undef = v9 := Eq.symm f9;obtain ⟨v10, e10, f10⟩ := hf 10 _ 117 (by decide) rfl rfl;obtain rfl : undef = v10 := Eq.symm f10;obtain ⟨v11, e11, f11⟩ := hf 11 _ 118 (by decide) rfl rfl;obtain rfl : undef = v11 := Eq.symm f11;obtain ⟨v12, e12, f12⟩ := hf 12 _ 119 (by decide) rfl rfl;obtain rfl : undef = v12 := Eq.symm f12;obtain ⟨_, e13, rfl⟩ := hf 13 _ 120 (by decide) rfl rfl;obtain ⟨_, e14, rfl⟩ := hf 14 _ 121 (by decide) rfl rfl;obtain ⟨v15, e15, f15⟩ := hf 15 _ 122 (by decide) rfl rfl;obtain rfl : undef = v15 := Eq.symm f15;obtain ⟨v16, e16, f16⟩ := hf 16 _ 123 (by decide) rfl rfl;obtain rfl : undef = v16 := Eq.symm f16;obtain ⟨v17, e17, f17⟩ := hf 17 _ 124 (by decide) rfl rfl;obtain rfl : undef = v17 := Eq.symm f17;obtain ⟨v18, e18, f18⟩ := hf 18 _ 125 (by decide) rfl rfl;obtain rfl : undef = v18 := Eq.symm f18;obtain ⟨v19, e19, f19⟩ := hf 19 _ 126 (by decide) rfl rfl;obtain rfl : undef = v19 := Eq.symm f19;obtain ⟨_, e20, rfl⟩ := hf 20 _ 127 (by decide) rfl rfl;obtain ⟨_, e21, rfl⟩ := hf 21 _ 128 (by decide) rfl rfl;obtain ⟨_, e22, rfl⟩ := hf 22 _ 129 (by decide) rfl rfl;have c0 := (HTS3.out.on hg).cell HI.out HJ.out;have z0 := (HTS3.out.on hg).frozen (i * 6 + j);rw [if_pos (by rfl)];rw [hoff.sets [(107, .int .i64 (i : Int)), (108, .int .i64 (j : Int)), (109, .int .i64 (i : Int)), (110, .int .i64 (j : Int)), (111, .pointer (some ⟨bs, i * 6, none⟩)), (112, .pointer (some ⟨bs, i * 6 + j, none⟩)), (113, .bool true), (114, .bool true), (115, undef), (116, undef), (117, undef), (118, undef), (119, undef), (120, .bool true), (121, .bool true), (122, undef), (123, undef), (124, undef), (125, undef), (126, undef), (127, .bool true), (128, .pointer (some ⟨bs, i * 6, none⟩)), (129, .pointer (some ⟨bs, i * 6 + j, none⟩))] (by kernel_rfl) (by intro p hp; simp only [List.mem_cons, List.not_mem_nil, or_false] at hp; rcases hp with rfl | rfl | rfl | rfl | rfl | rfl | rfl | rfl | rfl | rfl | rfl | rfl | rfl | rfl | rfl | rfl | rfl | rfl | rfl | rfl | rfl | rfl | rfl <;> assumption)];clear hoff hf e0 e1 e2 e3 e4 e5 e6 e7 e8 e9 e10 e11 e12 e13 e14 e15 e16 e17 e18 e19 e20 e21 e22;simp only [List.foldl_cons, List.foldl_nil, List.setIfInBounds_toArray, List.set_cons_zero, List.set_cons_succ]
             go_simp;have HTA9 := Lib.hid ((HTA3.out.on hg).other (g := bs) (show ba ≠ bs by have := HB.out; omega) (i * 6 + j) (.bool true));have HTS9 := Lib.hid ((HTS3.out.on hg).put HI.out HJ.out true);have HBUT9 := Lib.hid ((HBUT3.out.step TA9.out.lt hg).setS (i * 6 + j) (.bool true));have HSTEP := HSTEP0;rw [← HV.out] at HSTEP;clear hg c0 z0;go_wp2_with fail
             go_roundw
             case rel => exact ⟨j + 1, _, _, hj6, by go_num, HSTEP, HTA9, HTS9, HBUT9⟩
             case measure => simp [intOf]; omega
           | false =>
            cases hsik : S i k with
            | true =>
             have HV : Hid (true = (S i j || (S i k || S k j))) := by show _ = _; rw [hsij, hsik]; rfl
             have HSIJ := Lib.hid hsij; have HSIK := Lib.hid hsik
             clear hsij hsik;refine wp_region_factsL (by rfl) 179 (by rfl) (by kernel_rfl) (FA [.e (.int .i64 (i : Int)), .e (.int .i64 (j : Int)), .e (.int .i64 (i : Int)), .e (.int .i64 (j : Int)), .e (.pointer (some ⟨bs, i * 6, none⟩)), .e (.pointer (some ⟨bs, i * 6 + j, none⟩)), .e (.bool false), .e (.bool false), .e (.int .i64 (i : Int)), .e (.int .i64 (k : Int)), .e (.pointer (some ⟨bs, i * 6, none⟩)), .e (.pointer (some ⟨bs, i * 6 + k, none⟩)), .e (.bool true), .e (.bool true), .e (.bool true), .e undef, .e undef, .e undef, .e undef, .e undef, .e (.bool true), .e (.pointer (some ⟨bs, i * 6, none⟩)), .e (.pointer (some ⟨bs, i * 6 + j, none⟩))]) (fun w' => Below w8.heap.size w8 w') (Below.drew (Below.refl _ _)) ⟨?xb0, ?xb1, ?xb2, ?xb3, ?xb4, ?xb5, ?xb6, ?xb7, ?xb8, ?xb9, ?xb10, ?xb11, ?xb12, ?xb13, ?xb14, ?xb15, ?xb16, ?xb17, ?xb18, ?xb19, ?xb20, ?xb21, ?xb22, trivial⟩ (by rfl) ?xblast (by decide)
             case xb0 =>
              intro a w' hoff hg hdep K hK;have h13 := off_at hoff 13 (v := .int .i64 (i : Int)) (by kernel_rfl) rfl;rw [if_pos (by rfl)];go_simp;exact hK.out _ _ hg rfl (fun _ _ h => h)
             case xb1 =>
              intro a w' hoff hg hdep K hK;have h14 := off_at hoff 14 (v := .int .i64 (j : Int)) (by kernel_rfl) rfl;rw [if_pos (by rfl)];go_simp;exact hK.out _ _ hg rfl (fun _ _ h => h)
             case xb2 =>
              intro a w' hoff hg hdep K hK;have h13 := off_at hoff 13 (v := .int .i64 (i : Int)) (by kernel_rfl) rfl;rw [if_pos (by rfl)];go_simp;exact hK.out _ _ hg rfl (fun _ _ h => h)
             case xb3 =>
              intro a w' hoff hg hdep K hK;have h14 := off_at hoff 14 (v := .int .i64 (j : Int)) (by kernel_rfl) rfl;rw [if_pos (by rfl)];go_simp;exact hK.out _ _ hg rfl (fun _ _ h => h)
             case xb4 =>
              intro a w' hoff hg hdep K hK;have h5 := off_at hoff 5 (v := .pointer (some ⟨bs, 0, none⟩)) (by kernel_rfl) rfl;obtain ⟨_, e2, rfl⟩ := hdep 2 _ 109 (by kernel_rfl) rfl rfl;rw [if_pos (by rfl)];go_simp;exact hK.out _ _ hg rfl (fun _ _ h => h)
             case xb5 =>
              intro a w' hoff hg hdep K hK;obtain ⟨_, e3, rfl⟩ := hdep 3 _ 110 (by kernel_rfl) rfl rfl;obtain ⟨_, e4, rfl⟩ := hdep 4 _ 111 (by kernel_rfl) rfl rfl;rw [if_pos (by rfl)];go_simp;exact hK.out _ _ hg rfl (fun _ _ h => h)
             case xb6 =>
              intro a w' hoff hg hdep K hK;obtain ⟨_, e5, rfl⟩ := hdep 5 _ 112 (by kernel_rfl) rfl rfl;rw [if_pos (by rfl)];have c0 := (HTS3.out.on hg).cell HI.out HJ.out;rw [HSIJ.out] at c0;go_simp;exact hK.out _ _ hg rfl (fun _ _ h => h)
             case xb7 =>
              intro a w' hoff hg hdep K hK;obtain ⟨_, e6, rfl⟩ := hdep 6 _ 113 (by kernel_rfl) rfl rfl;rw [if_pos (by rfl)];go_simp;exact hK.out _ _ hg rfl (fun _ _ h => h)
             case xb8 =>
              intro a w' hoff hg hdep K hK;have h13 := off_at hoff 13 (v := .int .i64 (i : Int)) (by kernel_rfl) rfl;obtain ⟨_, e7, rfl⟩ := hdep 7 _ 114 (by kernel_rfl) rfl rfl;rw [if_pos (by simp [Region.wanted, yielded, e7])];go_simp;exact hK.out _ _ hg rfl (fun _ _ h => h)
             case xb9 =>
              intro a w' hoff hg hdep K hK;have h12 := off_at hoff 12 (v := .int .i64 (k : Int)) (by kernel_rfl) rfl;obtain ⟨_, e7, rfl⟩ := hdep 7 _ 114 (by kernel_rfl) rfl rfl;rw [if_pos (by simp [Region.wanted, yielded, e7])];go_simp;exact hK.out _ _ hg rfl (fun _ _ h => h)
             case xb10 =>
              intro a w' hoff hg hdep K hK;have h5 := off_at hoff 5 (v := .pointer (some ⟨bs, 0, none⟩)) (by kernel_rfl) rfl;obtain ⟨_, e8, rfl⟩ := hdep 8 _ 115 (by kernel_rfl) rfl rfl;obtain ⟨_, e7, rfl⟩ := hdep 7 _ 114 (by kernel_rfl) rfl rfl;rw [if_pos (by simp [Region.wanted, yielded, e7])];go_simp;exact hK.out _ _ hg rfl (fun _ _ h => h)
             case xb11 =>
              intro a w' hoff hg hdep K hK;obtain ⟨_, e9, rfl⟩ := hdep 9 _ 116 (by kernel_rfl) rfl rfl;obtain ⟨_, e10, rfl⟩ := hdep 10 _ 117 (by kernel_rfl) rfl rfl;obtain ⟨_, e7, rfl⟩ := hdep 7 _ 114 (by kernel_rfl) rfl rfl;rw [if_pos (by simp [Region.wanted, yielded, e7])];go_simp;exact hK.out _ _ hg rfl (fun _ _ h => h)
             case xb12 =>
              intro a w' hoff hg hdep K hK;obtain ⟨_, e11, rfl⟩ := hdep 11 _ 118 (by kernel_rfl) rfl rfl;obtain ⟨_, e7, rfl⟩ := hdep 7 _ 114 (by kernel_rfl) rfl rfl;rw [if_pos (by simp [Region.wanted, yielded, e7])];have c0 := (HTS3.out.on hg).cell HI.out HKB.out;rw [HSIK.out] at c0;go_simp;exact hK.out _ _ hg rfl (fun _ _ h => h)
             case xb13 =>
              intro a w' hoff hg hdep K hK;obtain ⟨_, e7, rfl⟩ := hdep 7 _ 114 (by kernel_rfl) rfl rfl;obtain ⟨_, e12, rfl⟩ := hdep 12 _ 119 (by kernel_rfl) rfl rfl;rw [if_pos (by rfl)];go_simp;exact hK.out _ _ hg rfl (fun _ _ h => h)
             case xb14 =>
              intro a w' hoff hg hdep K hK;obtain ⟨_, e13, rfl⟩ := hdep 13 _ 120 (by kernel_rfl) rfl rfl;rw [if_pos (by rfl)];go_simp;exact hK.out _ _ hg rfl (fun _ _ h => h)
             case xb15 =>
              intro a w' hoff hg hdep K hK;have h12 := off_at hoff 12 (v := .int .i64 (k : Int)) (by kernel_rfl) rfl;obtain ⟨_, e14, rfl⟩ := hdep 14 _ 121 (by kernel_rfl) rfl rfl;rw [if_neg (by simp [Region.wanted, yielded, e14])];exact hK.out _ _ hg rfl (fun _ _ h => h)
             case xb16 =>
              intro a w' hoff hg hdep K hK;have h14 := off_at hoff 14 (v := .int .i64 (j : Int)) (by kernel_rfl) rfl;obtain ⟨_, e14, rfl⟩ := hdep 14 _ 121 (by kernel_rfl) rfl rfl;rw [if_neg (by simp [Region.wanted, yielded, e14])];exact hK.out _ _ hg rfl (fun _ _ h => h)
             case xb17 =>
              intro a w' hoff hg hdep K hK;have h5 := off_at hoff 5 (v := .pointer (some ⟨bs, 0, none⟩)) (by kernel_rfl) rfl;obtain ⟨v15, e15, f15⟩ := hdep 15 _ 122 (by kernel_rfl) rfl rfl;obtain rfl : undef = v15 := Eq.symm f15;obtain ⟨_, e14, rfl⟩ := hdep 14 _ 121 (by kernel_rfl) rfl rfl;rw [if_neg (by simp [Region.wanted, yielded, e14])];exact hK.out _ _ hg rfl (fun _ _ h => h)
             case xb18 =>
              intro a w' hoff hg hdep K hK;obtain ⟨v16, e16, f16⟩ := hdep 16 _ 123 (by kernel_rfl) rfl rfl;obtain rfl : undef = v16 := Eq.symm f16;obtain ⟨v17, e17, f17⟩ := hdep 17 _ 124 (by kernel_rfl) rfl rfl;obtain rfl : undef = v17 := Eq.symm f17;obtain ⟨_, e14, rfl⟩ := hdep 14 _ 121 (by kernel_rfl) rfl rfl;rw [if_neg (by simp [Region.wanted, yielded, e14])];exact hK.out _ _ hg rfl (fun _ _ h => h)
             case xb19 =>
              intro a w' hoff hg hdep K hK;obtain ⟨v18, e18, f18⟩ := hdep 18 _ 125 (by kernel_rfl) rfl rfl;obtain rfl : undef = v18 := Eq.symm f18;obtain ⟨_, e14, rfl⟩ := hdep 14 _ 121 (by kernel_rfl) rfl rfl;rw [if_neg (by simp [Region.wanted, yielded, e14])];exact hK.out _ _ hg rfl (fun _ _ h => h)
             case xb20 =>
              intro a w' hoff hg hdep K hK;obtain ⟨_, e14, rfl⟩ := hdep 14 _ 121 (by kernel_rfl) rfl rfl;obtain ⟨v19, e19, f19⟩ := hdep 19 _ 126 (by kernel_rfl) rfl rfl;obtain rfl : undef = v19 := Eq.symm f19;rw [if_pos (by rfl)];go_simp;exact hK.out _ _ hg rfl (fun _ _ h => h)
             case xb21 =>
              intro a w' hoff hg hdep K hK;have h5 := off_at hoff 5 (v := .pointer (some ⟨bs, 0, none⟩)) (by kernel_rfl) rfl;obtain ⟨_, e0, rfl⟩ := hdep 0 _ 107 (by kernel_rfl) rfl rfl;rw [if_pos (by rfl)];go_simp;exact hK.out _ _ hg rfl (fun _ _ h => h)
             case xb22 =>
              intro a w' hoff hg hdep K hK;obtain ⟨_, e1, rfl⟩ := hdep 1 _ 108 (by kernel_rfl) rfl rfl;obtain ⟨_, e21, rfl⟩ := hdep 21 _ 128 (by kernel_rfl) rfl rfl;rw [if_pos (by rfl)];go_simp;exact hK.out _ _ hg rfl (fun _ _ h => h)
             case xblast =>
              intro a w' hoff hg hf;obtain ⟨_, e0, rfl⟩ := hf 0 _ 107 (by decide) rfl rfl;obtain ⟨_, e1, rfl⟩ := hf 1 _ 108 (by decide) rfl rfl;obtain ⟨_, e2, rfl⟩ := hf 2 _ 109 (by decide) rfl rfl;obtain ⟨_, e3, rfl⟩ := hf 3 _ 110 (by decide) rfl rfl;obtain ⟨_, e4, rfl⟩ := hf 4 _ 111 (by decide) rfl rfl;obtain ⟨_, e5, rfl⟩ := hf 5 _ 112 (by decide) rfl rfl;obtain ⟨_, e6, rfl⟩ := hf 6 _ 113 (by decide) rfl rfl;obtain ⟨_, e7, rfl⟩ := hf 7 _ 114 (by decide) rfl rfl;obtain ⟨_, e8, rfl⟩ := hf 8 _ 115 (by decide) rfl rfl;obtain ⟨_, e9, rfl⟩ := hf 9 _ 116 (by decide) rfl rfl;obtain ⟨_, e10, rfl⟩ := hf 10 _ 117 (by decide) rfl rfl;obtain ⟨_, e11, rfl⟩ := hf 11 _ 118 (by decide) rfl rfl;obtain ⟨_, e12, rfl⟩ := hf 12 _ 119 (by decide) rfl rfl;obtain ⟨_, e13, rfl⟩ := hf 13 _ 120 (by decide) rfl rfl;obtain ⟨_, e14, rfl⟩ := hf 14 _ 121 (by decide) rfl rfl;obtain ⟨v15, e15, f15⟩ := hf 15 _ 122 (by decide) rfl rfl;obtain rfl : undef = v15 := Eq.symm f15;obtain ⟨v16, e16, f16⟩ := hf 16 _ 123 (by decide) rfl rfl;obtain rfl : undef = v16 := Eq.symm f16;obtain ⟨v17, e17, f17⟩ := hf 17 _ 124 (by decide) rfl rfl;obtain rfl : undef = v17 := Eq.symm f17;obtain ⟨v18, e18, f18⟩ := hf 18 _ 125 (by decide) rfl rfl;obtain rfl : undef = v18 := Eq.symm f18;obtain ⟨v19, e19, f19⟩ := hf 19 _ 126 (by decide) rfl rfl;obtain rfl : undef = v19 := Eq.symm f19;obtain ⟨_, e20, rfl⟩ := hf 20 _ 127 (by decide) rfl rfl;obtain ⟨_, e21, rfl⟩ := hf 21 _ 128 (by decide) rfl rfl;obtain ⟨_, e22, rfl⟩ := hf 22 _ 129 (by decide) rfl rfl;have c0 := (HTS3.out.on hg).cell HI.out HJ.out;have z0 := (HTS3.out.on hg).frozen (i * 6 + j);rw [if_pos (by rfl)];rw [hoff.sets [(107, .int .i64 (i : Int)), (108, .int .i64 (j : Int)), (109, .int .i64 (i : Int)), (110, .int .i64 (j : Int)), (111, .pointer (some ⟨bs, i * 6, none⟩)), (112, .pointer (some ⟨bs, i * 6 + j, none⟩)), (113, .bool false), (114, .bool false), (115, .int .i64 (i : Int)), (116, .int .i64 (k : Int)), (117, .pointer (some ⟨bs, i * 6, none⟩)), (118, .pointer (some ⟨bs, i * 6 + k, none⟩)), (119, .bool true), (120, .bool true), (121, .bool true), (122, undef), (123, undef), (124, undef), (125, undef), (126, undef), (127, .bool true), (128, .pointer (some ⟨bs, i * 6, none⟩)), (129, .pointer (some ⟨bs, i * 6 + j, none⟩))] (by kernel_rfl) (by intro p hp; simp only [List.mem_cons, List.not_mem_nil, or_false] at hp; rcases hp with rfl | rfl | rfl | rfl | rfl | rfl | rfl | rfl | rfl | rfl | rfl | rfl | rfl | rfl | rfl | rfl | rfl | rfl | rfl | rfl | rfl | rfl | rfl <;> assumption)];clear hoff hf e0 e1 e2 e3 e4 e5 e6 e7 e8 e9 e10 e11 e12 e13 e14 e15 e16 e17 e18 e19 e20 e21 e22;simp only [List.foldl_cons, List.foldl_nil, List.setIfInBounds_toArray, List.set_cons_zero, List.set_cons_succ]
              go_simp;have HTA9 := Lib.hid ((HTA3.out.on hg).other (g := bs) (show ba ≠ bs by have := HB.out; omega) (i * 6 + j) (.bool true));have HTS9 := Lib.hid ((HTS3.out.on hg).put HI.out HJ.out true);have HBUT9 := Lib.hid ((HBUT3.out.step TA9.out.lt hg).setS (i * 6 + j) (.bool true));have HSTEP := HSTEP0;rw [← HV.out] at HSTEP;clear hg c0 z0;go_wp2_with fail
              go_roundw
              case rel => exact ⟨j + 1, _, _, hj6, by go_num, HSTEP, HTA9, HTS9, HBUT9⟩
              case measure => simp [intOf]; omega
            | false =>
             have HV : Hid ((S k j) = (S i j || (S i k || S k j))) := by show _ = _; rw [hsij, hsik]; rfl
             have HSIJ := Lib.hid hsij; have HSIK := Lib.hid hsik
             clear hsij hsik;refine wp_region_factsL (by rfl) 179 (by rfl) (by kernel_rfl) (FA [.e (.int .i64 (i : Int)), .e (.int .i64 (j : Int)), .e (.int .i64 (i : Int)), .e (.int .i64 (j : Int)), .e (.pointer (some ⟨bs, i * 6, none⟩)), .e (.pointer (some ⟨bs, i * 6 + j, none⟩)), .e (.bool false), .e (.bool false), .e (.int .i64 (i : Int)), .e (.int .i64 (k : Int)), .e (.pointer (some ⟨bs, i * 6, none⟩)), .e (.pointer (some ⟨bs, i * 6 + k, none⟩)), .e (.bool false), .e (.bool false), .e (.bool false), .e (.int .i64 (k : Int)), .e (.int .i64 (j : Int)), .e (.pointer (some ⟨bs, k * 6, none⟩)), .e (.pointer (some ⟨bs, k * 6 + j, none⟩)), .e (.bool (S k j)), .e (.bool (S k j)), .e (.pointer (some ⟨bs, i * 6, none⟩)), .e (.pointer (some ⟨bs, i * 6 + j, none⟩))]) (fun w' => Below w8.heap.size w8 w') (Below.drew (Below.refl _ _)) ⟨?xc0, ?xc1, ?xc2, ?xc3, ?xc4, ?xc5, ?xc6, ?xc7, ?xc8, ?xc9, ?xc10, ?xc11, ?xc12, ?xc13, ?xc14, ?xc15, ?xc16, ?xc17, ?xc18, ?xc19, ?xc20, ?xc21, ?xc22, trivial⟩ (by rfl) ?xclast (by decide)
             case xc0 =>
              intro a w' hoff hg hdep K hK;have h13 := off_at hoff 13 (v := .int .i64 (i : Int)) (by kernel_rfl) rfl;rw [if_pos (by rfl)];go_simp;exact hK.out _ _ hg rfl (fun _ _ h => h)
             case xc1 =>
              intro a w' hoff hg hdep K hK;have h14 := off_at hoff 14 (v := .int .i64 (j : Int)) (by kernel_rfl) rfl;rw [if_pos (by rfl)];go_simp;exact hK.out _ _ hg rfl (fun _ _ h => h)
             case xc2 =>
              intro a w' hoff hg hdep K hK;have h13 := off_at hoff 13 (v := .int .i64 (i : Int)) (by kernel_rfl) rfl;rw [if_pos (by rfl)];go_simp;exact hK.out _ _ hg rfl (fun _ _ h => h)
             case xc3 =>
              intro a w' hoff hg hdep K hK;have h14 := off_at hoff 14 (v := .int .i64 (j : Int)) (by kernel_rfl) rfl;rw [if_pos (by rfl)];go_simp;exact hK.out _ _ hg rfl (fun _ _ h => h)
             case xc4 =>
              intro a w' hoff hg hdep K hK;have h5 := off_at hoff 5 (v := .pointer (some ⟨bs, 0, none⟩)) (by kernel_rfl) rfl;obtain ⟨_, e2, rfl⟩ := hdep 2 _ 109 (by kernel_rfl) rfl rfl;rw [if_pos (by rfl)];go_simp;exact hK.out _ _ hg rfl (fun _ _ h => h)
             case xc5 =>
              intro a w' hoff hg hdep K hK;obtain ⟨_, e3, rfl⟩ := hdep 3 _ 110 (by kernel_rfl) rfl rfl;obtain ⟨_, e4, rfl⟩ := hdep 4 _ 111 (by kernel_rfl) rfl rfl;rw [if_pos (by rfl)];go_simp;exact hK.out _ _ hg rfl (fun _ _ h => h)
             case xc6 =>
              intro a w' hoff hg hdep K hK;obtain ⟨_, e5, rfl⟩ := hdep 5 _ 112 (by kernel_rfl) rfl rfl;rw [if_pos (by rfl)];have c0 := (HTS3.out.on hg).cell HI.out HJ.out;rw [HSIJ.out] at c0;go_simp;exact hK.out _ _ hg rfl (fun _ _ h => h)
             case xc7 =>
              intro a w' hoff hg hdep K hK;obtain ⟨_, e6, rfl⟩ := hdep 6 _ 113 (by kernel_rfl) rfl rfl;rw [if_pos (by rfl)];go_simp;exact hK.out _ _ hg rfl (fun _ _ h => h)
             case xc8 =>
              intro a w' hoff hg hdep K hK;have h13 := off_at hoff 13 (v := .int .i64 (i : Int)) (by kernel_rfl) rfl;obtain ⟨_, e7, rfl⟩ := hdep 7 _ 114 (by kernel_rfl) rfl rfl;rw [if_pos (by simp [Region.wanted, yielded, e7])];go_simp;exact hK.out _ _ hg rfl (fun _ _ h => h)
             case xc9 =>
              intro a w' hoff hg hdep K hK;have h12 := off_at hoff 12 (v := .int .i64 (k : Int)) (by kernel_rfl) rfl;obtain ⟨_, e7, rfl⟩ := hdep 7 _ 114 (by kernel_rfl) rfl rfl;rw [if_pos (by simp [Region.wanted, yielded, e7])];go_simp;exact hK.out _ _ hg rfl (fun _ _ h => h)
             case xc10 =>
              intro a w' hoff hg hdep K hK;have h5 := off_at hoff 5 (v := .pointer (some ⟨bs, 0, none⟩)) (by kernel_rfl) rfl;obtain ⟨_, e8, rfl⟩ := hdep 8 _ 115 (by kernel_rfl) rfl rfl;obtain ⟨_, e7, rfl⟩ := hdep 7 _ 114 (by kernel_rfl) rfl rfl;rw [if_pos (by simp [Region.wanted, yielded, e7])];go_simp;exact hK.out _ _ hg rfl (fun _ _ h => h)
             case xc11 =>
              intro a w' hoff hg hdep K hK;obtain ⟨_, e9, rfl⟩ := hdep 9 _ 116 (by kernel_rfl) rfl rfl;obtain ⟨_, e10, rfl⟩ := hdep 10 _ 117 (by kernel_rfl) rfl rfl;obtain ⟨_, e7, rfl⟩ := hdep 7 _ 114 (by kernel_rfl) rfl rfl;rw [if_pos (by simp [Region.wanted, yielded, e7])];go_simp;exact hK.out _ _ hg rfl (fun _ _ h => h)
             case xc12 =>
              intro a w' hoff hg hdep K hK;obtain ⟨_, e11, rfl⟩ := hdep 11 _ 118 (by kernel_rfl) rfl rfl;obtain ⟨_, e7, rfl⟩ := hdep 7 _ 114 (by kernel_rfl) rfl rfl;rw [if_pos (by simp [Region.wanted, yielded, e7])];have c0 := (HTS3.out.on hg).cell HI.out HKB.out;rw [HSIK.out] at c0;go_simp;exact hK.out _ _ hg rfl (fun _ _ h => h)
             case xc13 =>
              intro a w' hoff hg hdep K hK;obtain ⟨_, e7, rfl⟩ := hdep 7 _ 114 (by kernel_rfl) rfl rfl;obtain ⟨_, e12, rfl⟩ := hdep 12 _ 119 (by kernel_rfl) rfl rfl;rw [if_pos (by rfl)];go_simp;exact hK.out _ _ hg rfl (fun _ _ h => h)
             case xc14 =>
              intro a w' hoff hg hdep K hK;obtain ⟨_, e13, rfl⟩ := hdep 13 _ 120 (by kernel_rfl) rfl rfl;rw [if_pos (by rfl)];go_simp;exact hK.out _ _ hg rfl (fun _ _ h => h)
             case xc15 =>
              intro a w' hoff hg hdep K hK;have h12 := off_at hoff 12 (v := .int .i64 (k : Int)) (by kernel_rfl) rfl;obtain ⟨_, e14, rfl⟩ := hdep 14 _ 121 (by kernel_rfl) rfl rfl;rw [if_pos (by simp [Region.wanted, yielded, e14])];go_simp;exact hK.out _ _ hg rfl (fun _ _ h => h)
             case xc16 =>
              intro a w' hoff hg hdep K hK;have h14 := off_at hoff 14 (v := .int .i64 (j : Int)) (by kernel_rfl) rfl;obtain ⟨_, e14, rfl⟩ := hdep 14 _ 121 (by kernel_rfl) rfl rfl;rw [if_pos (by simp [Region.wanted, yielded, e14])];go_simp;exact hK.out _ _ hg rfl (fun _ _ h => h)
             case xc17 =>
              intro a w' hoff hg hdep K hK;have h5 := off_at hoff 5 (v := .pointer (some ⟨bs, 0, none⟩)) (by kernel_rfl) rfl;obtain ⟨_, e15, rfl⟩ := hdep 15 _ 122 (by kernel_rfl) rfl rfl;obtain ⟨_, e14, rfl⟩ := hdep 14 _ 121 (by kernel_rfl) rfl rfl;rw [if_pos (by simp [Region.wanted, yielded, e14])];go_simp;exact hK.out _ _ hg rfl (fun _ _ h => h)
             case xc18 =>
              intro a w' hoff hg hdep K hK;obtain ⟨_, e16, rfl⟩ := hdep 16 _ 123 (by kernel_rfl) rfl rfl;obtain ⟨_, e17, rfl⟩ := hdep 17 _ 124 (by kernel_rfl) rfl rfl;obtain ⟨_, e14, rfl⟩ := hdep 14 _ 121 (by kernel_rfl) rfl rfl;rw [if_pos (by simp [Region.wanted, yielded, e14])];go_simp;exact hK.out _ _ hg rfl (fun _ _ h => h)
             case xc19 =>
              intro a w' hoff hg hdep K hK;obtain ⟨_, e18, rfl⟩ := hdep 18 _ 125 (by kernel_rfl) rfl rfl;obtain ⟨_, e14, rfl⟩ := hdep 14 _ 121 (by kernel_rfl) rfl rfl;rw [if_pos (by simp [Region.wanted, yielded, e14])];have c0 := (HTS3.out.on hg).cell HKB.out HJ.out;go_simp;exact hK.out _ _ hg rfl (fun _ _ h => h)
             case xc20 =>
              intro a w' hoff hg hdep K hK;obtain ⟨_, e14, rfl⟩ := hdep 14 _ 121 (by kernel_rfl) rfl rfl;obtain ⟨_, e19, rfl⟩ := hdep 19 _ 126 (by kernel_rfl) rfl rfl;rw [if_pos (by rfl)];go_simp;exact hK.out _ _ hg rfl (fun _ _ h => h)
             case xc21 =>
              intro a w' hoff hg hdep K hK;have h5 := off_at hoff 5 (v := .pointer (some ⟨bs, 0, none⟩)) (by kernel_rfl) rfl;obtain ⟨_, e0, rfl⟩ := hdep 0 _ 107 (by kernel_rfl) rfl rfl;rw [if_pos (by rfl)];go_simp;exact hK.out _ _ hg rfl (fun _ _ h => h)
             case xc22 =>
              intro a w' hoff hg hdep K hK;obtain ⟨_, e1, rfl⟩ := hdep 1 _ 108 (by kernel_rfl) rfl rfl;obtain ⟨_, e21, rfl⟩ := hdep 21 _ 128 (by kernel_rfl) rfl rfl;rw [if_pos (by rfl)];go_simp;exact hK.out _ _ hg rfl (fun _ _ h => h)
             case xclast =>
              intro a w' hoff hg hf;obtain ⟨_, e0, rfl⟩ := hf 0 _ 107 (by decide) rfl rfl;obtain ⟨_, e1, rfl⟩ := hf 1 _ 108 (by decide) rfl rfl;obtain ⟨_, e2, rfl⟩ := hf 2 _ 109 (by decide) rfl rfl;obtain ⟨_, e3, rfl⟩ := hf 3 _ 110 (by decide) rfl rfl;obtain ⟨_, e4, rfl⟩ := hf 4 _ 111 (by decide) rfl rfl;obtain ⟨_, e5, rfl⟩ := hf 5 _ 112 (by decide) rfl rfl;obtain ⟨_, e6, rfl⟩ := hf 6 _ 113 (by decide) rfl rfl;obtain ⟨_, e7, rfl⟩ := hf 7 _ 114 (by decide) rfl rfl;obtain ⟨_, e8, rfl⟩ := hf 8 _ 115 (by decide) rfl rfl;obtain ⟨_, e9, rfl⟩ := hf 9 _ 116 (by decide) rfl rfl;obtain ⟨_, e10, rfl⟩ := hf 10 _ 117 (by decide) rfl rfl;obtain ⟨_, e11, rfl⟩ := hf 11 _ 118 (by decide) rfl rfl;obtain ⟨_, e12, rfl⟩ := hf 12 _ 119 (by decide) rfl rfl;obtain ⟨_, e13, rfl⟩ := hf 13 _ 120 (by decide) rfl rfl;obtain ⟨_, e14, rfl⟩ := hf 14 _ 121 (by decide) rfl rfl;obtain ⟨_, e15, rfl⟩ := hf 15 _ 122 (by decide) rfl rfl;obtain ⟨_, e16, rfl⟩ := hf 16 _ 123 (by decide) rfl rfl;obtain ⟨_, e17, rfl⟩ := hf 17 _ 124 (by decide) rfl rfl;obtain ⟨_, e18, rfl⟩ := hf 18 _ 125 (by decide) rfl rfl;obtain ⟨_, e19, rfl⟩ := hf 19 _ 126 (by decide) rfl rfl;obtain ⟨_, e20, rfl⟩ := hf 20 _ 127 (by decide) rfl rfl;obtain ⟨_, e21, rfl⟩ := hf 21 _ 128 (by decide) rfl rfl;obtain ⟨_, e22, rfl⟩ := hf 22 _ 129 (by decide) rfl rfl;have c0 := (HTS3.out.on hg).cell HI.out HJ.out;have z0 := (HTS3.out.on hg).frozen (i * 6 + j);rw [if_pos (by rfl)];rw [hoff.sets [(107, .int .i64 (i : Int)), (108, .int .i64 (j : Int)), (109, .int .i64 (i : Int)), (110, .int .i64 (j : Int)), (111, .pointer (some ⟨bs, i * 6, none⟩)), (112, .pointer (some ⟨bs, i * 6 + j, none⟩)), (113, .bool false), (114, .bool false), (115, .int .i64 (i : Int)), (116, .int .i64 (k : Int)), (117, .pointer (some ⟨bs, i * 6, none⟩)), (118, .pointer (some ⟨bs, i * 6 + k, none⟩)), (119, .bool false), (120, .bool false), (121, .bool false), (122, .int .i64 (k : Int)), (123, .int .i64 (j : Int)), (124, .pointer (some ⟨bs, k * 6, none⟩)), (125, .pointer (some ⟨bs, k * 6 + j, none⟩)), (126, .bool (S k j)), (127, .bool (S k j)), (128, .pointer (some ⟨bs, i * 6, none⟩)), (129, .pointer (some ⟨bs, i * 6 + j, none⟩))] (by kernel_rfl) (by intro p hp; simp only [List.mem_cons, List.not_mem_nil, or_false] at hp; rcases hp with rfl | rfl | rfl | rfl | rfl | rfl | rfl | rfl | rfl | rfl | rfl | rfl | rfl | rfl | rfl | rfl | rfl | rfl | rfl | rfl | rfl | rfl | rfl <;> assumption)];clear hoff hf e0 e1 e2 e3 e4 e5 e6 e7 e8 e9 e10 e11 e12 e13 e14 e15 e16 e17 e18 e19 e20 e21 e22;simp only [List.foldl_cons, List.foldl_nil, List.setIfInBounds_toArray, List.set_cons_zero, List.set_cons_succ]
              go_simp;have HTA9 := Lib.hid ((HTA3.out.on hg).other (g := bs) (show ba ≠ bs by have := HB.out; omega) (i * 6 + j) (.bool (S k j)));have HTS9 := Lib.hid ((HTS3.out.on hg).put HI.out HJ.out (S k j));have HBUT9 := Lib.hid ((HBUT3.out.step TA9.out.lt hg).setS (i * 6 + j) (.bool (S k j)));have HSTEP := HSTEP0;rw [← HV.out] at HSTEP;clear hg c0 z0;go_wp2_with fail
              go_roundw
              case rel => exact ⟨j + 1, _, _, hj6, by go_num, HSTEP, HTA9, HTS9, HBUT9⟩
              case measure => simp [intOf]; omega
        ·have hj7 : j = 6 := by omega
         subst hj7;have HK := Lib.hid (InA.row hin.out);go_wp2_with fail
         go_roundw
         case rel => exact ⟨i + 1, A, S, hi6, by go_num, HK, hta, hts, hbut⟩
         case measure => simp [intOf]; omega
      ·have hi7 : i = 6 := by omega
       subst hi7;have HK := Lib.hid (PassA.next HIN.out hk6 HP0.out (InA.done hin.out) hin.out.tabs);go_wp2_with fail
       go_roundw
       case rel => exact ⟨k + 1, A, S, hk6, by go_num, HK, hta, hts, hbut⟩
       case measure => simp [intOf]; omega
    ·have hk7 : k = 6 := by omega
     subst hk7;go_wp2_with fail
     have HPS : Hid (PassS (prSteps p) 6 0 A0 S0) := PassA.pass HIN.out hpass.out;replace HBUT5 := Lib.hid (But2.trans2 HBUT5.out hbut.out HBUT5.out.size);have TA8 := hta; have TS8 := hts
     clear hpass hta hts hbut HPA TA9 TS9;generalize wr = w9 at *;generalize A0 = A at *;generalize S0 = S at *;have HPA := HPS; have TA9 := TA8; have TS9 := TS8
     clear HPS TA8 TS8;rw [show ((6 : Nat) : Int) = (6 : Int) from rfl];go_loopw [15] (fun kv wr => ∃ (k : Nat) (S : Nat → Nat → Bool), k ≤ 6 ∧ kv = .int .i64 (k : Int) ∧ Hid (PassS (prSteps p) 6 k A S) ∧ Hid (TabAt wr ba A) ∧ Hid (TabAt wr bs S) ∧ Hid (But2 ba bs w9.heap.size w9 wr)) (fun kv _ => 6 - (intOf kv).toNat)
     case atStart => exact ⟨0, S, by omega, rfl, HPA, TA9, TS9, Lib.hid (But2.refl _ _ _ _)⟩
     case round =>
      obtain ⟨k, S0, hk, rfl, hpass, hta, hts, hbut⟩ := hrel
      by_cases hk6 : k < 6
      ·have HP0 := hpass
       have HKB := Lib.hid hk6;have hdk : decide ((k : Int) < 6) = true := decide_eq_true (by omega);clear hpass;go_wp2_with fail
       clear hdk;go_loopw [16] (fun iv wr => ∃ (i : Nat) (S : Nat → Nat → Bool), i ≤ 6 ∧ iv = .int .i64 (i : Int) ∧ Hid (InS (prSteps p) 6 k i 0 A S0 S) ∧ Hid (TabAt wr ba A) ∧ Hid (TabAt wr bs S) ∧ Hid (But2 ba bs w9.heap.size w9 wr)) (fun iv _ => 6 - (intOf iv).toNat)
       case atStart => exact ⟨0, S0, by omega, rfl, Lib.hid (InS.start HP0.out.toTabs), hta, hts, hbut⟩
       case round =>
        obtain ⟨i, S, hi, rfl, hin, hta, hts, hbut⟩ := hrel
        by_cases hi6 : i < 6
        ·have HI := Lib.hid hi6
         have hdi : decide ((i : Int) < 6) = true := decide_eq_true (by omega);go_wp2_with fail
         clear hdi;go_loopw [17] (fun jv wr => ∃ (j : Nat) (S : Nat → Nat → Bool), j ≤ 6 ∧ jv = .int .i64 (j : Int) ∧ Hid (InS (prSteps p) 6 k i j A S0 S) ∧ Hid (TabAt wr ba A) ∧ Hid (TabAt wr bs S) ∧ Hid (But2 ba bs w9.heap.size w9 wr)) (fun jv _ => 6 - (intOf jv).toNat)
         case atStart => exact ⟨0, S, by omega, rfl, hin, hta, hts, hbut⟩
         case round =>
          obtain ⟨j, S, hj, rfl, hin, hta, hts, hbut⟩ := hrel
          by_cases hj6 : j < 6
          ·have HJ := Lib.hid hj6
           have i1 : (0 : Int) ≤ (i : Int) := Int.natCast_nonneg _;have i2 : (i : Int) < 6 := by omega
           have i3 : (0 : Int) ≤ (j : Int) := Int.natCast_nonneg _;have i4 : (j : Int) < 6 := by omega
           have i5 : (0 : Int) ≤ (k : Int) := Int.natCast_nonneg _;have i6 : (k : Int) < 6 := by omega
           have a1 := hta.out.cell hi6 hk6;have a2 := hta.out.cell hk6 hj6
           cases ha1 : A i k with
           | false =>
            rw [ha1] at a1;have HK := Lib.hid (hin.out.skip (by rintro ⟨h, -⟩; rw [ha1] at h; cases h));clear a2;go_wp2_with fail
            go_roundw
            case rel => exact ⟨j + 1, S, hj6, by go_num, HK, hta, hts, hbut⟩
            case measure => simp [intOf]; omega
           | true =>
            cases ha2 : A k j with
            | false =>
             rw [ha1] at a1; rw [ha2] at a2
             have HK := Lib.hid (hin.out.skip (by rintro ⟨-, h⟩; rw [ha2] at h; cases h));go_wp2_with fail
             go_roundw
             case rel => exact ⟨j + 1, S, hj6, by go_num, HK, hta, hts, hbut⟩
             case measure => simp [intOf]; omega
            | true =>
             rw [ha1] at a1; rw [ha2] at a2
             have HSTEP0 := Lib.hid (hin.out.step HKB.out HI.out HJ.out ha1 ha2);clear ha1 ha2

             go_upto_region 38 with fail
             have HTA3 := hta; have HTS3 := hts; have HBUT3 := hbut
             clear a1 a2 hta hts hbut;generalize wr = w8 at *
             cases hsij : S i j with
             | true =>
              have HV : Hid (true = (S i j || (S i k || S k j))) := by show _ = _; rw [hsij]; rfl
              have HSIJ := Lib.hid hsij;clear hsij;refine wp_region_factsL (by rfl) 179 (by rfl) (by kernel_rfl) (FA [.e (.int .i64 (i : Int)), .e (.int .i64 (j : Int)), .e (.int .i64 (i : Int)), .e (.int .i64 (j : Int)), .e (.pointer (some ⟨bs, i * 6, none⟩)), .e (.pointer (some ⟨bs, i * 6 + j, none⟩)), .e (.bool true), .e (.bool true), .e undef, .e undef, .e undef, .e undef, .e undef, .e (.bool true), .e (.bool true), .e undef, .e undef, .e undef, .e undef, .e undef, .e (.bool true), .e (.pointer (some ⟨bs, i * 6, none⟩)), .e (.pointer (some ⟨bs, i * 6 + j, none⟩))]) (fun w' => Below w8.heap.size w8 w') (Below.drew (Below.refl _ _)) ⟨?ya0, ?ya1, ?ya2, ?ya3, ?ya4, ?ya5, ?ya6, ?ya7, ?ya8, ?ya9, ?ya10, ?ya11, ?ya12, ?ya13, ?ya14, ?ya15, ?ya16, ?ya17, ?ya18, ?ya19, ?ya20, ?ya21, ?ya22, trivial⟩ (by rfl) ?yalast (by decide)
              case ya0 =>
               intro a w' hoff hg hdep K hK;have h16 := off_at hoff 16 (v := .int .i64 (i : Int)) (by kernel_rfl) rfl;rw [if_pos (by rfl)];go_simp;exact hK.out _ _ hg rfl (fun _ _ h => h)
              case ya1 =>
               intro a w' hoff hg hdep K hK;have h17 := off_at hoff 17 (v := .int .i64 (j : Int)) (by kernel_rfl) rfl;rw [if_pos (by rfl)];go_simp;exact hK.out _ _ hg rfl (fun _ _ h => h)
              case ya2 =>
               intro a w' hoff hg hdep K hK;have h16 := off_at hoff 16 (v := .int .i64 (i : Int)) (by kernel_rfl) rfl;rw [if_pos (by rfl)];go_simp;exact hK.out _ _ hg rfl (fun _ _ h => h)
              case ya3 =>
               intro a w' hoff hg hdep K hK;have h17 := off_at hoff 17 (v := .int .i64 (j : Int)) (by kernel_rfl) rfl;rw [if_pos (by rfl)];go_simp;exact hK.out _ _ hg rfl (fun _ _ h => h)
              case ya4 =>
               intro a w' hoff hg hdep K hK;have h5 := off_at hoff 5 (v := .pointer (some ⟨bs, 0, none⟩)) (by kernel_rfl) rfl;obtain ⟨_, e2, rfl⟩ := hdep 2 _ 156 (by kernel_rfl) rfl rfl;rw [if_pos (by rfl)];go_simp;exact hK.out _ _ hg rfl (fun _ _ h => h)
              case ya5 =>
               intro a w' hoff hg hdep K hK;obtain ⟨_, e3, rfl⟩ := hdep 3 _ 157 (by kernel_rfl) rfl rfl;obtain ⟨_, e4, rfl⟩ := hdep 4 _ 158 (by kernel_rfl) rfl rfl;rw [if_pos (by rfl)];go_simp;exact hK.out _ _ hg rfl (fun _ _ h => h)
              case ya6 =>
               intro a w' hoff hg hdep K hK;obtain ⟨_, e5, rfl⟩ := hdep 5 _ 159 (by kernel_rfl) rfl rfl;rw [if_pos (by rfl)];have c0 := (HTS3.out.on hg).cell HI.out HJ.out;rw [HSIJ.out] at c0;go_simp;exact hK.out _ _ hg rfl (fun _ _ h => h)
              case ya7 =>
               intro a w' hoff hg hdep K hK;obtain ⟨_, e6, rfl⟩ := hdep 6 _ 160 (by kernel_rfl) rfl rfl;rw [if_pos (by rfl)];go_simp;exact hK.out _ _ hg rfl (fun _ _ h => h)
              case ya8 =>
               intro a w' hoff hg hdep K hK;have h16 := off_at hoff 16 (v := .int .i64 (i : Int)) (by kernel_rfl) rfl;obtain ⟨_, e7, rfl⟩ := hdep 7 _ 161 (by kernel_rfl) rfl rfl;rw [if_neg (by simp [Region.wanted, yielded, e7])];exact hK.out _ _ hg rfl (fun _ _ h => h)
              case ya9 =>
               intro a w' hoff hg hdep K hK;have h15 := off_at hoff 15 (v := .int .i64 (k : Int)) (by kernel_rfl) rfl;obtain ⟨_, e7, rfl⟩ := hdep 7 _ 161 (by kernel_rfl) rfl rfl;rw [if_neg (by simp [Region.wanted, yielded, e7])];exact hK.out _ _ hg rfl (fun _ _ h => h)
              case ya10 =>
               intro a w' hoff hg hdep K hK;have h5 := off_at hoff 5 (v := .pointer (some ⟨bs, 0, none⟩)) (by kernel_rfl) rfl;obtain ⟨v8, e8, f8⟩ := hdep 8 _ 162 (by kernel_rfl) rfl rfl;obtain rfl : undef = v8 := Eq.symm f8;obtain ⟨_, e7, rfl⟩ := hdep 7 _ 161 (by kernel_rfl) rfl rfl;rw [if_neg (by simp [Region.wanted, yielded, e7])];exact hK.out _ _ hg rfl (fun _ _ h => h)
              case ya11 =>
               intro a w' hoff hg hdep K hK;obtain ⟨v9, e9, f9⟩ := hdep 9 _ 163 (by kernel_rfl) rfl rfl;obtain rfl : undef = v9 := Eq.symm f9;obtain ⟨v10, e10, f10⟩ := hdep 10 _ 164 (by kernel_rfl) rfl rfl;obtain rfl : undef = v10 := Eq.symm f10;obtain ⟨_, e7, rfl⟩ := hdep 7 _ 161 (by kernel_rfl) rfl rfl;rw [if_neg (by simp [Region.wanted, yielded, e7])];exact hK.out _ _ hg rfl (fun _ _ h => h)
              case ya12 =>
               intro a w' hoff hg hdep K hK;obtain ⟨v11, e11, f11⟩ := hdep 11 _ 165 (by kernel_rfl) rfl rfl;obtain rfl : undef = v11 := Eq.symm f11;obtain ⟨_, e7, rfl⟩ := hdep 7 _ 161 (by kernel_rfl) rfl rfl;rw [if_neg (by simp [Region.wanted, yielded, e7])];exact hK.out _ _ hg rfl (fun _ _ h => h)
              case ya13 =>
               intro a w' hoff hg hdep K hK;obtain ⟨_, e7, rfl⟩ := hdep 7 _ 161 (by kernel_rfl) rfl rfl;obtain ⟨v12, e12, f12⟩ := hdep 12 _ 166 (by kernel_rfl) rfl rfl;obtain rfl : undef = v12 := Eq.symm f12;rw [if_pos (by rfl)];go_simp;exact hK.out _ _ hg rfl (fun _ _ h => h)
              case ya14 =>
               intro a w' hoff hg hdep K hK;obtain ⟨_, e13, rfl⟩ := hdep 13 _ 167 (by kernel_rfl) rfl rfl;rw [if_pos (by rfl)];go_simp;exact hK.out _ _ hg rfl (fun _ _ h => h)
              case ya15 =>
               intro a w' hoff hg hdep K hK;have h15 := off_at hoff 15 (v := .int .i64 (k : Int)) (by kernel_rfl) rfl;obtain ⟨_, e14, rfl⟩ := hdep 14 _ 168 (by kernel_rfl) rfl rfl;rw [if_neg (by simp [Region.wanted, yielded, e14])];exact hK.out _ _ hg rfl (fun _ _ h => h)
              case ya16 =>
               intro a w' hoff hg hdep K hK;have h17 := off_at hoff 17 (v := .int .i64 (j : Int)) (by kernel_rfl) rfl;obtain ⟨_, e14, rfl⟩ := hdep 14 _ 168 (by kernel_rfl) rfl rfl;rw [if_neg (by simp [Region.wanted, yielded, e14])];exact hK.out _ _ hg rfl (fun _ _ h => h)
              case ya17 =>
               intro a w' hoff hg hdep K hK;have h5 := off_at hoff 5 (v := .pointer (some ⟨bs, 0, none⟩)) (by kernel_rfl) rfl;obtain ⟨v15, e15, f15⟩ := hdep 15 _ 169 (by kernel_rfl) rfl rfl;obtain rfl : undef = v15 := Eq.symm f15;obtain ⟨_, e14, rfl⟩ := hdep 14 _ 168 (by kernel_rfl) rfl rfl;rw [if_neg (by simp [Region.wanted, yielded, e14])];exact hK.out _ _ hg rfl (fun _ _ h => h)
              case ya18 =>
               intro a w' hoff hg hdep K hK;obtain ⟨v16, e16, f16⟩ := hdep 16 _ 170 (by kernel_rfl) rfl rfl;obtain rfl : undef = v16 := Eq.symm f16;obtain ⟨v17, e17, f17⟩ := hdep 17 _ 171 (by kernel_rfl) rfl rfl;obtain rfl : undef = v17 := Eq.symm f17;obtain ⟨_, e14, rfl⟩ := hdep 14 _ 168 (by kernel_rfl) rfl rfl;rw [if_neg (by simp [Region.wanted, yielded, e14])];exact hK.out _ _ hg rfl (fun _ _ h => h)
              case ya19 =>
               intro a w' hoff hg hdep K hK;obtain ⟨v18, e18, f18⟩ := hdep 18 _ 172 (by kernel_rfl) rfl rfl;obtain rfl : undef = v18 := Eq.symm f18;obtain ⟨_, e14, rfl⟩ := hdep 14 _ 168 (by kernel_rfl) rfl rfl;rw [if_neg (by simp [Region.wanted, yielded, e14])];exact hK.out _ _ hg rfl (fun _ _ h => h)
              case ya20 =>
               intro a w' hoff hg hdep K hK;obtain ⟨_, e14, rfl⟩ := hdep 14 _ 168 (by kernel_rfl) rfl rfl;obtain ⟨v19, e19, f19⟩ := hdep 19 _ 173 (by kernel_rfl) rfl rfl;obtain rfl : undef = v19 := Eq.symm f19;rw [if_pos (by rfl)];go_simp;exact hK.out _ _ hg rfl (fun _ _ h => h)
              case ya21 =>
               intro a w' hoff hg hdep K hK;have h5 := off_at hoff 5 (v := .pointer (some ⟨bs, 0, none⟩)) (by kernel_rfl) rfl;obtain ⟨_, e0, rfl⟩ := hdep 0 _ 154 (by kernel_rfl) rfl rfl;rw [if_pos (by rfl)];go_simp;exact hK.out _ _ hg rfl (fun _ _ h => h)
              case ya22 =>
               intro a w' hoff hg hdep K hK;obtain ⟨_, e1, rfl⟩ := hdep 1 _ 155 (by kernel_rfl) rfl rfl;obtain ⟨_, e21, rfl⟩ := hdep 21 _ 175 (by kernel_rfl) rfl rfl;rw [if_pos (by rfl)];go_simp;exact hK.out _ _ hg rfl (fun _ _ h => h)
              case yalast =>
               intro a w' hoff hg hf;obtain ⟨_, e0, rfl⟩ := hf 0 _ 154 (by decide) rfl rfl;obtain ⟨_, e1, rfl⟩ := hf 1 _ 155 (by decide) rfl rfl;obtain ⟨_, e2, rfl⟩ := hf 2 _ 156 (by decide) rfl rfl;obtain ⟨_, e3, rfl⟩ := hf 3 _ 157 (by decide) rfl rfl;obtain ⟨_, e4, rfl⟩ := hf 4 _ 158 (by decide) rfl rfl;obtain ⟨_, e5, rfl⟩ := hf 5 _ 159 (by decide) rfl rfl;obtain ⟨_, e6, rfl⟩ := hf 6 _ 160 (by decide) rfl rfl;obtain ⟨_, e7, rfl⟩ := hf 7 _ 161 (by decide) rfl rfl;obtain ⟨v8, e8, f8⟩ := hf 8 _ 162 (by decide) rfl rfl;obtain rfl : undef = v8 := Eq.symm f8;obtain ⟨v9, e9, f9⟩ := hf 9 _ 163 (by decide) rfl rfl;obtain rfl : undef = v9 := Eq.symm f9;obtain ⟨v10, e10, f10⟩ := hf 10 _ 164 (by decide) rfl rfl;obtain rfl : undef = v10 := Eq.symm f10;obtain ⟨v11, e11, f11⟩ := hf 11 _ 165 (by decide) rfl rfl;obtain rfl : undef = v11 := Eq.symm f11;obtain ⟨v12, e12, f12⟩ := hf 12 _ 166 (by decide) rfl rfl;obtain rfl : undef = v12 := Eq.symm f12;obtain ⟨_, e13, rfl⟩ := hf 13 _ 167 (by decide) rfl rfl;obtain ⟨_, e14, rfl⟩ := hf 14 _ 168 (by decide) rfl rfl;obtain ⟨v15, e15, f15⟩ := hf 15 _ 169 (by decide) rfl rfl;obtain rfl : undef = v15 := Eq.symm f15;obtain ⟨v16, e16, f16⟩ := hf 16 _ 170 (by decide) rfl rfl;obtain rfl : undef = v16 := Eq.symm f16;obtain ⟨v17, e17, f17⟩ := hf 17 _ 171 (by decide) rfl rfl;obtain rfl : undef = v17 := Eq.symm f17;obtain ⟨v18, e18, f18⟩ := hf 18 _ 172 (by decide) rfl rfl;obtain rfl : undef = v18 := Eq.symm f18;obtain ⟨v19, e19, f19⟩ := hf 19 _ 173 (by decide) rfl rfl;obtain rfl : undef = v19 := Eq.symm f19;obtain ⟨_, e20, rfl⟩ := hf 20 _ 174 (by decide) rfl rfl;obtain ⟨_, e21, rfl⟩ := hf 21 _ 175 (by decide) rfl rfl;obtain ⟨_, e22, rfl⟩ := hf 22 _ 176 (by decide) rfl rfl;have c0 := (HTS3.out.on hg).cell HI.out HJ.out;have z0 := (HTS3.out.on hg).frozen (i * 6 + j);rw [if_pos (by rfl)];rw [hoff.sets [(154, .int .i64 (i : Int)), (155, .int .i64 (j : Int)), (156, .int .i64 (i : Int)), (157, .int .i64 (j : Int)), (158, .pointer (some ⟨bs, i * 6, none⟩)), (159, .pointer (some ⟨bs, i * 6 + j, none⟩)), (160, .bool true), (161, .bool true), (162, undef), (163, undef), (164, undef), (165, undef), (166, undef), (167, .bool true), (168, .bool true), (169, undef), (170, undef), (171, undef), (172, undef), (173, undef), (174, .bool true), (175, .pointer (some ⟨bs, i * 6, none⟩)), (176, .pointer (some ⟨bs, i * 6 + j, none⟩))] (by kernel_rfl) (by intro p hp; simp only [List.mem_cons, List.not_mem_nil, or_false] at hp; rcases hp with rfl | rfl | rfl | rfl | rfl | rfl | rfl | rfl | rfl | rfl | rfl | rfl | rfl | rfl | rfl | rfl | rfl | rfl | rfl | rfl | rfl | rfl | rfl <;> assumption)];clear hoff hf e0 e1 e2 e3 e4 e5 e6 e7 e8 e9 e10 e11 e12 e13 e14 e15 e16 e17 e18 e19 e20 e21 e22;simp only [List.foldl_cons, List.foldl_nil, List.setIfInBounds_toArray, List.set_cons_zero, List.set_cons_succ]
               go_simp;have HTA9 := Lib.hid ((HTA3.out.on hg).other (g := bs) (show ba ≠ bs by have := HB.out; omega) (i * 6 + j) (.bool true));have HTS9 := Lib.hid ((HTS3.out.on hg).put HI.out HJ.out true);have HBUT9 := Lib.hid ((HBUT3.out.step TA9.out.lt hg).setS (i * 6 + j) (.bool true));have HSTEP := HSTEP0;rw [← HV.out] at HSTEP;clear hg c0 z0;go_wp2_with fail
               go_roundw
               case rel => exact ⟨j + 1, _, hj6, by go_num, HSTEP, HTA9, HTS9, HBUT9⟩
               case measure => simp [intOf]; omega
             | false =>
              cases hsik : S i k with
              | true =>
               have HV : Hid (true = (S i j || (S i k || S k j))) := by show _ = _; rw [hsij, hsik]; rfl
               have HSIJ := Lib.hid hsij; have HSIK := Lib.hid hsik
               clear hsij hsik;refine wp_region_factsL (by rfl) 179 (by rfl) (by kernel_rfl) (FA [.e (.int .i64 (i : Int)), .e (.int .i64 (j : Int)), .e (.int .i64 (i : Int)), .e (.int .i64 (j : Int)), .e (.pointer (some ⟨bs, i * 6, none⟩)), .e (.pointer (some ⟨bs, i * 6 + j, none⟩)), .e (.bool false), .e (.bool false), .e (.int .i64 (i : Int)), .e (.int .i64 (k : Int)), .e (.pointer (some ⟨bs, i * 6, none⟩)), .e (.pointer (some ⟨bs, i * 6 + k, none⟩)), .e (.bool true), .e (.bool true), .e (.bool true), .e undef, .e undef, .e undef, .e undef, .e undef, .e (.bool true), .e (.pointer (some ⟨bs, i * 6, none⟩)), .e (.pointer (some ⟨bs, i * 6 + j, none⟩))]) (fun w' => Below w8.heap.size w8 w') (Below.drew (Below.refl _ _)) ⟨?yb0, ?yb1, ?yb2, ?yb3, ?yb4, ?yb5, ?yb6, ?yb7, ?yb8, ?yb9, ?yb10, ?yb11, ?yb12, ?yb13, ?yb14, ?yb15, ?yb16, ?yb17, ?yb18, ?yb19, ?yb20, ?yb21, ?yb22, trivial⟩ (by rfl) ?yblast (by decide)
               case yb0 =>
                intro a w' hoff hg hdep K hK;have h16 := off_at hoff 16 (v := .int .i64 (i : Int)) (by kernel_rfl) rfl;rw [if_pos (by rfl)];go_simp;exact hK.out _ _ hg rfl (fun _ _ h => h)
               case yb1 =>
                intro a w' hoff hg hdep K hK;have h17 := off_at hoff 17 (v := .int .i64 (j : Int)) (by kernel_rfl) rfl;rw [if_pos (by rfl)];go_simp;exact hK.out _ _ hg rfl (fun _ _ h => h)
               case yb2 =>
                intro a w' hoff hg hdep K hK;have h16 := off_at hoff 16 (v := .int .i64 (i : Int)) (by kernel_rfl) rfl;rw [if_pos (by rfl)];go_simp;exact hK.out _ _ hg rfl (fun _ _ h => h)
               case yb3 =>
                intro a w' hoff hg hdep K hK;have h17 := off_at hoff 17 (v := .int .i64 (j : Int)) (by kernel_rfl) rfl;rw [if_pos (by rfl)];go_simp;exact hK.out _ _ hg rfl (fun _ _ h => h)
               case yb4 =>
                intro a w' hoff hg hdep K hK;have h5 := off_at hoff 5 (v := .pointer (some ⟨bs, 0, none⟩)) (by kernel_rfl) rfl;obtain ⟨_, e2, rfl⟩ := hdep 2 _ 156 (by kernel_rfl) rfl rfl;rw [if_pos (by rfl)];go_simp;exact hK.out _ _ hg rfl (fun _ _ h => h)
               case yb5 =>
                intro a w' hoff hg hdep K hK;obtain ⟨_, e3, rfl⟩ := hdep 3 _ 157 (by kernel_rfl) rfl rfl;obtain ⟨_, e4, rfl⟩ := hdep 4 _ 158 (by kernel_rfl) rfl rfl;rw [if_pos (by rfl)];go_simp;exact hK.out _ _ hg rfl (fun _ _ h => h)
               case yb6 =>
                intro a w' hoff hg hdep K hK;obtain ⟨_, e5, rfl⟩ := hdep 5 _ 159 (by kernel_rfl) rfl rfl;rw [if_pos (by rfl)];have c0 := (HTS3.out.on hg).cell HI.out HJ.out;rw [HSIJ.out] at c0;go_simp;exact hK.out _ _ hg rfl (fun _ _ h => h)
               case yb7 =>
                intro a w' hoff hg hdep K hK;obtain ⟨_, e6, rfl⟩ := hdep 6 _ 160 (by kernel_rfl) rfl rfl;rw [if_pos (by rfl)];go_simp;exact hK.out _ _ hg rfl (fun _ _ h => h)
               case yb8 =>
                intro a w' hoff hg hdep K hK;have h16 := off_at hoff 16 (v := .int .i64 (i : Int)) (by kernel_rfl) rfl;obtain ⟨_, e7, rfl⟩ := hdep 7 _ 161 (by kernel_rfl) rfl rfl;rw [if_pos (by simp [Region.wanted, yielded, e7])];go_simp;exact hK.out _ _ hg rfl (fun _ _ h => h)
               case yb9 =>
                intro a w' hoff hg hdep K hK;have h15 := off_at hoff 15 (v := .int .i64 (k : Int)) (by kernel_rfl) rfl;obtain ⟨_, e7, rfl⟩ := hdep 7 _ 161 (by kernel_rfl) rfl rfl;rw [if_pos (by simp [Region.wanted, yielded, e7])];go_simp;exact hK.out _ _ hg rfl (fun _ _ h => h)
               case yb10 =>
                intro a w' hoff hg hdep K hK;have h5 := off_at hoff 5 (v := .pointer (some ⟨bs, 0, none⟩)) (by kernel_rfl) rfl;obtain ⟨_, e8, rfl⟩ := hdep 8 _ 162 (by kernel_rfl) rfl rfl;obtain ⟨_, e7, rfl⟩ := hdep 7 _ 161 (by kernel_rfl) rfl rfl;rw [if_pos (by simp [Region.wanted, yielded, e7])];go_simp;exact hK.out _ _ hg rfl (fun _ _ h => h)
               case yb11 =>
                intro a w' hoff hg hdep K hK;obtain ⟨_, e9, rfl⟩ := hdep 9 _ 163 (by kernel_rfl) rfl rfl;obtain ⟨_, e10, rfl⟩ := hdep 10 _ 164 (by kernel_rfl) rfl rfl;obtain ⟨_, e7, rfl⟩ := hdep 7 _ 161 (by kernel_rfl) rfl rfl;rw [if_pos (by simp [Region.wanted, yielded, e7])];go_simp;exact hK.out _ _ hg rfl (fun _ _ h => h)
               case yb12 =>
                intro a w' hoff hg hdep K hK;obtain ⟨_, e11, rfl⟩ := hdep 11 _ 165 (by kernel_rfl) rfl rfl;obtain ⟨_, e7, rfl⟩ := hdep 7 _ 161 (by kernel_rfl) rfl rfl;rw [if_pos (by simp [Region.wanted, yielded, e7])];have c0 := (HTS3.out.on hg).cell HI.out HKB.out;rw [HSIK.out] at c0;go_simp;exact hK.out _ _ hg rfl (fun _ _ h => h)
               case yb13 =>
                intro a w' hoff hg hdep K hK;obtain ⟨_, e7, rfl⟩ := hdep 7 _ 161 (by kernel_rfl) rfl rfl;obtain ⟨_, e12, rfl⟩ := hdep 12 _ 166 (by kernel_rfl) rfl rfl;rw [if_pos (by rfl)];go_simp;exact hK.out _ _ hg rfl (fun _ _ h => h)
               case yb14 =>
                intro a w' hoff hg hdep K hK;obtain ⟨_, e13, rfl⟩ := hdep 13 _ 167 (by kernel_rfl) rfl rfl;rw [if_pos (by rfl)];go_simp;exact hK.out _ _ hg rfl (fun _ _ h => h)
               case yb15 =>
                intro a w' hoff hg hdep K hK;have h15 := off_at hoff 15 (v := .int .i64 (k : Int)) (by kernel_rfl) rfl;obtain ⟨_, e14, rfl⟩ := hdep 14 _ 168 (by kernel_rfl) rfl rfl;rw [if_neg (by simp [Region.wanted, yielded, e14])];exact hK.out _ _ hg rfl (fun _ _ h => h)
               case yb16 =>
                intro a w' hoff hg hdep K hK;have h17 := off_at hoff 17 (v := .int .i64 (j : Int)) (by kernel_rfl) rfl;obtain ⟨_, e14, rfl⟩ := hdep 14 _ 168 (by kernel_rfl) rfl rfl;rw [if_neg (by simp [Region.wanted, yielded, e14])];exact hK.out _ _ hg rfl (fun _ _ h => h)
               case yb17 =>
                intro a w' hoff hg hdep K hK;have h5 := off_at hoff 5 (v := .pointer (some ⟨bs, 0, none⟩)) (by kernel_rfl) rfl;obtain ⟨v15, e15, f15⟩ := hdep 15 _ 169 (by kernel_rfl) rfl rfl;obtain rfl : undef = v15 := Eq.symm f15;obtain ⟨_, e14, rfl⟩ := hdep 14 _ 168 (by kernel_rfl) rfl rfl;rw [if_neg (by simp [Region.wanted, yielded, e14])];exact hK.out _ _ hg rfl (fun _ _ h => h)
               case yb18 =>
                intro a w' hoff hg hdep K hK;obtain ⟨v16, e16, f16⟩ := hdep 16 _ 170 (by kernel_rfl) rfl rfl;obtain rfl : undef = v16 := Eq.symm f16;obtain ⟨v17, e17, f17⟩ := hdep 17 _ 171 (by kernel_rfl) rfl rfl;obtain rfl : undef = v17 := Eq.symm f17;obtain ⟨_, e14, rfl⟩ := hdep 14 _ 168 (by kernel_rfl) rfl rfl;rw [if_neg (by simp [Region.wanted, yielded, e14])];exact hK.out _ _ hg rfl (fun _ _ h => h)
               case yb19 =>
                intro a w' hoff hg hdep K hK;obtain ⟨v18, e18, f18⟩ := hdep 18 _ 172 (by kernel_rfl) rfl rfl;obtain rfl : undef = v18 := Eq.symm f18;obtain ⟨_, e14, rfl⟩ := hdep 14 _ 168 (by kernel_rfl) rfl rfl;rw [if_neg (by simp [Region.wanted, yielded, e14])];exact hK.out _ _ hg rfl (fun _ _ h => h)
               case yb20 =>
                intro a w' hoff hg hdep K hK;obtain ⟨_, e14, rfl⟩ := hdep 14 _ 168 (by kernel_rfl) rfl rfl;obtain ⟨v19, e19, f19⟩ := hdep 19 _ 173 (by kernel_rfl) rfl rfl;obtain rfl : undef = v19 := Eq.symm f19;rw [if_pos (by rfl)];go_simp;exact hK.out _ _ hg rfl (fun _ _ h => h)
               case yb21 =>
                intro a w' hoff hg hdep K hK;have h5 := off_at hoff 5 (v := .pointer (some ⟨bs, 0, none⟩)) (by kernel_rfl) rfl;obtain ⟨_, e0, rfl⟩ := hdep 0 _ 154 (by kernel_rfl) rfl rfl;rw [if_pos (by rfl)];go_simp;exact hK.out _ _ hg rfl (fun _ _ h => h)
               case yb22 =>
                intro a w' hoff hg hdep K hK;obtain ⟨_, e1, rfl⟩ := hdep 1 _ 155 (by kernel_rfl) rfl rfl;obtain ⟨_, e21, rfl⟩ := hdep 21 _ 175 (by kernel_rfl) rfl rfl;rw [if_pos (by rfl)];go_simp;exact hK.out _ _ hg rfl (fun _ _ h => h)
               case yblast =>
                intro a w' hoff hg hf;obtain ⟨_, e0, rfl⟩ := hf 0 _ 154 (by decide) rfl rfl;obtain ⟨_, e1, rfl⟩ := hf 1 _ 155 (by decide) rfl rfl;obtain ⟨_, e2, rfl⟩ := hf 2 _ 156 (by decide) rfl rfl;obtain ⟨_, e3, rfl⟩ := hf 3 _ 157 (by decide) rfl rfl;obtain ⟨_, e4, rfl⟩ := hf 4 _ 158 (by decide) rfl rfl;obtain ⟨_, e5, rfl⟩ := hf 5 _ 159 (by decide) rfl rfl;obtain ⟨_, e6, rfl⟩ := hf 6 _ 160 (by decide) rfl rfl;obtain ⟨_, e7, rfl⟩ := hf 7 _ 161 (by decide) rfl rfl;obtain ⟨_, e8, rfl⟩ := hf 8 _ 162 (by decide) rfl rfl;obtain ⟨_, e9, rfl⟩ := hf 9 _ 163 (by decide) rfl rfl;obtain ⟨_, e10, rfl⟩ := hf 10 _ 164 (by decide) rfl rfl;obtain ⟨_, e11, rfl⟩ := hf 11 _ 165 (by decide) rfl rfl;obtain ⟨_, e12, rfl⟩ := hf 12 _ 166 (by decide) rfl rfl;obtain ⟨_, e13, rfl⟩ := hf 13 _ 167 (by decide) rfl rfl;obtain ⟨_, e14, rfl⟩ := hf 14 _ 168 (by decide) rfl rfl;obtain ⟨v15, e15, f15⟩ := hf 15 _ 169 (by decide) rfl rfl;obtain rfl : undef = v15 := Eq.symm f15;obtain ⟨v16, e16, f16⟩ := hf 16 _ 170 (by decide) rfl rfl;obtain rfl : undef = v16 := Eq.symm f16;obtain ⟨v17, e17, f17⟩ := hf 17 _ 171 (by decide) rfl rfl;obtain rfl : undef = v17 := Eq.symm f17;obtain ⟨v18, e18, f18⟩ := hf 18 _ 172 (by decide) rfl rfl;obtain rfl : undef = v18 := Eq.symm f18;obtain ⟨v19, e19, f19⟩ := hf 19 _ 173 (by decide) rfl rfl;obtain rfl : undef = v19 := Eq.symm f19;obtain ⟨_, e20, rfl⟩ := hf 20 _ 174 (by decide) rfl rfl;obtain ⟨_, e21, rfl⟩ := hf 21 _ 175 (by decide) rfl rfl;obtain ⟨_, e22, rfl⟩ := hf 22 _ 176 (by decide) rfl rfl;have c0 := (HTS3.out.on hg).cell HI.out HJ.out;have z0 := (HTS3.out.on hg).frozen (i * 6 + j);rw [if_pos (by rfl)];rw [hoff.sets [(154, .int .i64 (i : Int)), (155, .int .i64 (j : Int)), (156, .int .i64 (i : Int)), (157, .int .i64 (j : Int)), (158, .pointer (some ⟨bs, i * 6, none⟩)), (159, .pointer (some ⟨bs, i * 6 + j, none⟩)), (160, .bool false), (161, .bool false), (162, .int .i64 (i : Int)), (163, .int .i64 (k : Int)), (164, .pointer (some ⟨bs, i * 6, none⟩)), (165, .pointer (some ⟨bs, i * 6 + k, none⟩)), (166, .bool true), (167, .bool true), (168, .bool true), (169, undef), (170, undef), (171, undef), (172, undef), (173, undef), (174, .bool true), (175, .pointer (some ⟨bs, i * 6, none⟩)), (176, .pointer (some ⟨bs, i * 6 + j, none⟩))] (by kernel_rfl) (by intro p hp; simp only [List.mem_cons, List.not_mem_nil, or_false] at hp; rcases hp with rfl | rfl | rfl | rfl | rfl | rfl | rfl | rfl | rfl | rfl | rfl | rfl | rfl | rfl | rfl | rfl | rfl | rfl | rfl | rfl | rfl | rfl | rfl <;> assumption)];clear hoff hf e0 e1 e2 e3 e4 e5 e6 e7 e8 e9 e10 e11 e12 e13 e14 e15 e16 e17 e18 e19 e20 e21 e22;simp only [List.foldl_cons, List.foldl_nil, List.setIfInBounds_toArray, List.set_cons_zero, List.set_cons_succ]
                go_simp;have HTA9 := Lib.hid ((HTA3.out.on hg).other (g := bs) (show ba ≠ bs by have := HB.out; omega) (i * 6 + j) (.bool true));have HTS9 := Lib.hid ((HTS3.out.on hg).put HI.out HJ.out true);have HBUT9 := Lib.hid ((HBUT3.out.step TA9.out.lt hg).setS (i * 6 + j) (.bool true));have HSTEP := HSTEP0;rw [← HV.out] at HSTEP;clear hg c0 z0;go_wp2_with fail
                go_roundw
                case rel => exact ⟨j + 1, _, hj6, by go_num, HSTEP, HTA9, HTS9, HBUT9⟩
                case measure => simp [intOf]; omega
              | false =>
               have HV : Hid ((S k j) = (S i j || (S i k || S k j))) := by show _ = _; rw [hsij, hsik]; rfl
               have HSIJ := Lib.hid hsij; have HSIK := Lib.hid hsik
               clear hsij hsik;refine wp_region_factsL (by rfl) 179 (by rfl) (by kernel_rfl) (FA [.e (.int .i64 (i : Int)), .e (.int .i64 (j : Int)), .e (.int .i64 (i : Int)), .e (.int .i64 (j : Int)), .e (.pointer (some ⟨bs, i * 6, none⟩)), .e (.pointer (some ⟨bs, i * 6 + j, none⟩)), .e (.bool false), .e (.bool false), .e (.int .i64 (i : Int)), .e (.int .i64 (k : Int)), .e (.pointer (some ⟨bs, i * 6, none⟩)), .e (.pointer (some ⟨bs, i * 6 + k, none⟩)), .e (.bool false), .e (.bool false), .e (.bool false), .e (.int .i64 (k : Int)), .e (.int .i64 (j : Int)), .e (.pointer (some ⟨bs, k * 6, none⟩)), .e (.pointer (some ⟨bs, k * 6 + j, none⟩)), .e (.bool (S k j)), .e (.bool (S k j)), .e (.pointer (some ⟨bs, i * 6, none⟩)), .e (.pointer (some ⟨bs, i * 6 + j, none⟩))]) (fun w' => Below w8.heap.size w8 w') (Below.drew (Below.refl _ _)) ⟨?yc0, ?yc1, ?yc2, ?yc3, ?yc4, ?yc5, ?yc6, ?yc7, ?yc8, ?yc9, ?yc10, ?yc11, ?yc12, ?yc13, ?yc14, ?yc15, ?yc16, ?yc17, ?yc18, ?yc19, ?yc20, ?yc21, ?yc22, trivial⟩ (by rfl) ?yclast (by decide)
               case yc0 =>
                intro a w' hoff hg hdep K hK;have h16 := off_at hoff 16 (v := .int .i64 (i : Int)) (by kernel_rfl) rfl;rw [if_pos (by rfl)];go_simp;exact hK.out _ _ hg rfl (fun _ _ h => h)
               case yc1 =>
                intro a w' hoff hg hdep K hK;have h17 := off_at hoff 17 (v := .int .i64 (j : Int)) (by kernel_rfl) rfl;rw [if_pos (by rfl)];go_simp;exact hK.out _ _ hg rfl (fun _ _ h => h)
               case yc2 =>
                intro a w' hoff hg hdep K hK;have h16 := off_at hoff 16 (v := .int .i64 (i : Int)) (by kernel_rfl) rfl;rw [if_pos (by rfl)];go_simp;exact hK.out _ _ hg rfl (fun _ _ h => h)
               case yc3 =>
                intro a w' hoff hg hdep K hK;have h17 := off_at hoff 17 (v := .int .i64 (j : Int)) (by kernel_rfl) rfl;rw [if_pos (by rfl)];go_simp;exact hK.out _ _ hg rfl (fun _ _ h => h)
               case yc4 =>
                intro a w' hoff hg hdep K hK;have h5 := off_at hoff 5 (v := .pointer (some ⟨bs, 0, none⟩)) (by kernel_rfl) rfl;obtain ⟨_, e2, rfl⟩ := hdep 2 _ 156 (by kernel_rfl) rfl rfl;rw [if_pos (by rfl)];go_simp;exact hK.out _ _ hg rfl (fun _ _ h => h)
               case yc5 =>
                intro a w' hoff hg hdep K hK;obtain ⟨_, e3, rfl⟩ := hdep 3 _ 157 (by kernel_rfl) rfl rfl;obtain ⟨_, e4, rfl⟩ := hdep 4 _ 158 (by kernel_rfl) rfl rfl;rw [if_pos (by rfl)];go_simp;exact hK.out _ _ hg rfl (fun _ _ h => h)
               case yc6 =>
                intro a w' hoff hg hdep K hK;obtain ⟨_, e5, rfl⟩ := hdep 5 _ 159 (by kernel_rfl) rfl rfl;rw [if_pos (by rfl)];have c0 := (HTS3.out.on hg).cell HI.out HJ.out;rw [HSIJ.out] at c0;go_simp;exact hK.out _ _ hg rfl (fun _ _ h => h)
               case yc7 =>
                intro a w' hoff hg hdep K hK;obtain ⟨_, e6, rfl⟩ := hdep 6 _ 160 (by kernel_rfl) rfl rfl;rw [if_pos (by rfl)];go_simp;exact hK.out _ _ hg rfl (fun _ _ h => h)
               case yc8 =>
                intro a w' hoff hg hdep K hK;have h16 := off_at hoff 16 (v := .int .i64 (i : Int)) (by kernel_rfl) rfl;obtain ⟨_, e7, rfl⟩ := hdep 7 _ 161 (by kernel_rfl) rfl rfl;rw [if_pos (by simp [Region.wanted, yielded, e7])];go_simp;exact hK.out _ _ hg rfl (fun _ _ h => h)
               case yc9 =>
                intro a w' hoff hg hdep K hK;have h15 := off_at hoff 15 (v := .int .i64 (k : Int)) (by kernel_rfl) rfl;obtain ⟨_, e7, rfl⟩ := hdep 7 _ 161 (by kernel_rfl) rfl rfl;rw [if_pos (by simp [Region.wanted, yielded, e7])];go_simp;exact hK.out _ _ hg rfl (fun _ _ h => h)
               case yc10 =>
                intro a w' hoff hg hdep K hK;have h5 := off_at hoff 5 (v := .pointer (some ⟨bs, 0, none⟩)) (by kernel_rfl) rfl;obtain ⟨_, e8, rfl⟩ := hdep 8 _ 162 (by kernel_rfl) rfl rfl;obtain ⟨_, e7, rfl⟩ := hdep 7 _ 161 (by kernel_rfl) rfl rfl;rw [if_pos (by simp [Region.wanted, yielded, e7])];go_simp;exact hK.out _ _ hg rfl (fun _ _ h => h)
               case yc11 =>
                intro a w' hoff hg hdep K hK;obtain ⟨_, e9, rfl⟩ := hdep 9 _ 163 (by kernel_rfl) rfl rfl;obtain ⟨_, e10, rfl⟩ := hdep 10 _ 164 (by kernel_rfl) rfl rfl;obtain ⟨_, e7, rfl⟩ := hdep 7 _ 161 (by kernel_rfl) rfl rfl;rw [if_pos (by simp [Region.wanted, yielded, e7])];go_simp;exact hK.out _ _ hg rfl (fun _ _ h => h)
               case yc12 =>
                intro a w' hoff hg hdep K hK;obtain ⟨_, e11, rfl⟩ := hdep 11 _ 165 (by kernel_rfl) rfl rfl;obtain ⟨_, e7, rfl⟩ := hdep 7 _ 161 (by kernel_rfl) rfl rfl;rw [if_pos (by simp [Region.wanted, yielded, e7])];have c0 := (HTS3.out.on hg).cell HI.out HKB.out;rw [HSIK.out] at c0;go_simp;exact hK.out _ _ hg rfl (fun _ _ h => h)
               case yc13 =>
                intro a w' hoff hg hdep K hK;obtain ⟨_, e7, rfl⟩ := hdep 7 _ 161 (by kernel_rfl) rfl rfl;obtain ⟨_, e12, rfl⟩ := hdep 12 _ 166 (by kernel_rfl) rfl rfl;rw [if_pos (by rfl)];go_simp;exact hK.out _ _ hg rfl (fun _ _ h => h)
               case yc14 =>
                intro a w' hoff hg hdep K hK;obtain ⟨_, e13, rfl⟩ := hdep 13 _ 167 (by kernel_rfl) rfl rfl;rw [if_pos (by rfl)];go_simp;exact hK.out _ _ hg rfl (fun _ _ h => h)
               case yc15 =>
                intro a w' hoff hg hdep K hK;have h15 := off_at hoff 15 (v := .int .i64 (k : Int)) (by kernel_rfl) rfl;obtain ⟨_, e14, rfl⟩ := hdep 14 _ 168 (by kernel_rfl) rfl rfl;rw [if_pos (by simp [Region.wanted, yielded, e14])];go_simp;exact hK.out _ _ hg rfl (fun _ _ h => h)
               case yc16 =>
                intro a w' hoff hg hdep K hK;have h17 := off_at hoff 17 (v := .int .i64 (j : Int)) (by kernel_rfl) rfl;obtain ⟨_, e14, rfl⟩ := hdep 14 _ 168 (by kernel_rfl) rfl rfl;rw [if_pos (by simp [Region.wanted, yielded, e14])];go_simp;exact hK.out _ _ hg rfl (fun _ _ h => h)
               case yc17 =>
                intro a w' hoff hg hdep K hK;have h5 := off_at hoff 5 (v := .pointer (some ⟨bs, 0, none⟩)) (by kernel_rfl) rfl;obtain ⟨_, e15, rfl⟩ := hdep 15 _ 169 (by kernel_rfl) rfl rfl;obtain ⟨_, e14, rfl⟩ := hdep 14 _ 168 (by kernel_rfl) rfl rfl;rw [if_pos (by simp [Region.wanted, yielded, e14])];go_simp;exact hK.out _ _ hg rfl (fun _ _ h => h)
               case yc18 =>
                intro a w' hoff hg hdep K hK;obtain ⟨_, e16, rfl⟩ := hdep 16 _ 170 (by kernel_rfl) rfl rfl;obtain ⟨_, e17, rfl⟩ := hdep 17 _ 171 (by kernel_rfl) rfl rfl;obtain ⟨_, e14, rfl⟩ := hdep 14 _ 168 (by kernel_rfl) rfl rfl;rw [if_pos (by simp [Region.wanted, yielded, e14])];go_simp;exact hK.out _ _ hg rfl (fun _ _ h => h)
               case yc19 =>
                intro a w' hoff hg hdep K hK;obtain ⟨_, e18, rfl⟩ := hdep 18 _ 172 (by kernel_rfl) rfl rfl;obtain ⟨_, e14, rfl⟩ := hdep 14 _ 168 (by kernel_rfl) rfl rfl;rw [if_pos (by simp [Region.wanted, yielded, e14])];have c0 := (HTS3.out.on hg).cell HKB.out HJ.out;go_simp;exact hK.out _ _ hg rfl (fun _ _ h => h)
               case yc20 =>
                intro a w' hoff hg hdep K hK;obtain ⟨_, e14, rfl⟩ := hdep 14 _ 168 (by kernel_rfl) rfl rfl;obtain ⟨_, e19, rfl⟩ := hdep 19 _ 173 (by kernel_rfl) rfl rfl;rw [if_pos (by rfl)];go_simp;exact hK.out _ _ hg rfl (fun _ _ h => h)
               case yc21 =>
                intro a w' hoff hg hdep K hK;have h5 := off_at hoff 5 (v := .pointer (some ⟨bs, 0, none⟩)) (by kernel_rfl) rfl;obtain ⟨_, e0, rfl⟩ := hdep 0 _ 154 (by kernel_rfl) rfl rfl;rw [if_pos (by rfl)];go_simp;exact hK.out _ _ hg rfl (fun _ _ h => h)
               case yc22 =>
                intro a w' hoff hg hdep K hK;obtain ⟨_, e1, rfl⟩ := hdep 1 _ 155 (by kernel_rfl) rfl rfl;obtain ⟨_, e21, rfl⟩ := hdep 21 _ 175 (by kernel_rfl) rfl rfl;rw [if_pos (by rfl)];go_simp;exact hK.out _ _ hg rfl (fun _ _ h => h)
               case yclast =>
                intro a w' hoff hg hf;obtain ⟨_, e0, rfl⟩ := hf 0 _ 154 (by decide) rfl rfl;obtain ⟨_, e1, rfl⟩ := hf 1 _ 155 (by decide) rfl rfl;obtain ⟨_, e2, rfl⟩ := hf 2 _ 156 (by decide) rfl rfl;obtain ⟨_, e3, rfl⟩ := hf 3 _ 157 (by decide) rfl rfl;obtain ⟨_, e4, rfl⟩ := hf 4 _ 158 (by decide) rfl rfl;obtain ⟨_, e5, rfl⟩ := hf 5 _ 159 (by decide) rfl rfl;obtain ⟨_, e6, rfl⟩ := hf 6 _ 160 (by decide) rfl rfl;obtain ⟨_, e7, rfl⟩ := hf 7 _ 161 (by decide) rfl rfl;obtain ⟨_, e8, rfl⟩ := hf 8 _ 162 (by decide) rfl rfl;obtain ⟨_, e9, rfl⟩ := hf 9 _ 163 (by decide) rfl rfl;obtain ⟨_, e10, rfl⟩ := hf 10 _ 164 (by decide) rfl rfl;obtain ⟨_, e11, rfl⟩ := hf 11 _ 165 (by decide) rfl rfl;obtain ⟨_, e12, rfl⟩ := hf 12 _ 166 (by decide) rfl rfl;obtain ⟨_, e13, rfl⟩ := hf 13 _ 167 (by decide) rfl rfl;obtain ⟨_, e14, rfl⟩ := hf 14 _ 168 (by decide) rfl rfl;obtain ⟨_, e15, rfl⟩ := hf 15 _ 169 (by decide) rfl rfl;obtain ⟨_, e16, rfl⟩ := hf 16 _ 170 (by decide) rfl rfl;obtain ⟨_, e17, rfl⟩ := hf 17 _ 171 (by decide) rfl rfl;obtain ⟨_, e18, rfl⟩ := hf 18 _ 172 (by decide) rfl rfl;obtain ⟨_, e19, rfl⟩ := hf 19 _ 173 (by decide) rfl rfl;obtain ⟨_, e20, rfl⟩ := hf 20 _ 174 (by decide) rfl rfl;obtain ⟨_, e21, rfl⟩ := hf 21 _ 175 (by decide) rfl rfl;obtain ⟨_, e22, rfl⟩ := hf 22 _ 176 (by decide) rfl rfl;have c0 := (HTS3.out.on hg).cell HI.out HJ.out;have z0 := (HTS3.out.on hg).frozen (i * 6 + j);rw [if_pos (by rfl)];rw [hoff.sets [(154, .int .i64 (i : Int)), (155, .int .i64 (j : Int)), (156, .int .i64 (i : Int)), (157, .int .i64 (j : Int)), (158, .pointer (some ⟨bs, i * 6, none⟩)), (159, .pointer (some ⟨bs, i * 6 + j, none⟩)), (160, .bool false), (161, .bool false), (162, .int .i64 (i : Int)), (163, .int .i64 (k : Int)), (164, .pointer (some ⟨bs, i * 6, none⟩)), (165, .pointer (some ⟨bs, i * 6 + k, none⟩)), (166, .bool false), (167, .bool false), (168, .bool false), (169, .int .i64 (k : Int)), (170, .int .i64 (j : Int)), (171, .pointer (some ⟨bs, k * 6, none⟩)), (172, .pointer (some ⟨bs, k * 6 + j, none⟩)), (173, .bool (S k j)), (174, .bool (S k j)), (175, .pointer (some ⟨bs, i * 6, none⟩)), (176, .pointer (some ⟨bs, i * 6 + j, none⟩))] (by kernel_rfl) (by intro p hp; simp only [List.mem_cons, List.not_mem_nil, or_false] at hp; rcases hp with rfl | rfl | rfl | rfl | rfl | rfl | rfl | rfl | rfl | rfl | rfl | rfl | rfl | rfl | rfl | rfl | rfl | rfl | rfl | rfl | rfl | rfl | rfl <;> assumption)];clear hoff hf e0 e1 e2 e3 e4 e5 e6 e7 e8 e9 e10 e11 e12 e13 e14 e15 e16 e17 e18 e19 e20 e21 e22;simp only [List.foldl_cons, List.foldl_nil, List.setIfInBounds_toArray, List.set_cons_zero, List.set_cons_succ]
                go_simp;have HTA9 := Lib.hid ((HTA3.out.on hg).other (g := bs) (show ba ≠ bs by have := HB.out; omega) (i * 6 + j) (.bool (S k j)));have HTS9 := Lib.hid ((HTS3.out.on hg).put HI.out HJ.out (S k j));have HBUT9 := Lib.hid ((HBUT3.out.step TA9.out.lt hg).setS (i * 6 + j) (.bool (S k j)));have HSTEP := HSTEP0;rw [← HV.out] at HSTEP;clear hg c0 z0;go_wp2_with fail
                go_roundw
                case rel => exact ⟨j + 1, _, hj6, by go_num, HSTEP, HTA9, HTS9, HBUT9⟩
                case measure => simp [intOf]; omega
          ·have hj7 : j = 6 := by omega
           subst hj7;have HK := Lib.hid (InS.row hin.out);go_wp2_with fail
           go_roundw
           case rel => exact ⟨i + 1, S, hi6, by go_num, HK, hta, hts, hbut⟩
           case measure => simp [intOf]; omega
        ·have hi7 : i = 6 := by omega
         subst hi7;have HK := Lib.hid (PassS.next HIN.out HP0.out (InS.done hin.out) hin.out.tabs);go_wp2_with fail
         go_roundw
         case rel => exact ⟨k + 1, S, hk6, by go_num, HK, hta, hts, hbut⟩
         case measure => simp [intOf]; omega
      ·have hk7 : k = 6 := by omega
       subst hk7;go_wp2_with fail
       have TAF := hta; have TSF := hts
       have HWH : Hid (∀ i < 6, ∀ j < 6, (A i j = true ↔ Way (prSteps p) 6 i j)) := fun i hi j hj => ⟨hpass.out.any i hi j hj, hpass.out.way i hi j hj⟩
       have HFM : Hid (∀ i < 6, ∀ j < 6, (S0 i j = true ↔ Firm (prSteps p) 6 i j)) := PassS.whole HIN.out hpass.out;replace HBUT5 := Lib.hid (But2.trans2 HBUT5.out hbut.out HBUT5.out.size)
       have M2F : Hid (Room wr b2) := by
        obtain ⟨arr, h1, h2, -⟩ := HBUT5.out.tab M2.out (by have := HB.out; omega) (by have := HB.out; omega) (by have := HB.out; omega);exact ⟨arr, h1, h2⟩
       have M3F : Hid (Room wr b3) := by
        obtain ⟨arr, h1, h2, -⟩ := HBUT5.out.tab M3.out (by have := HB.out; omega) (by have := HB.out; omega) (by have := HB.out; omega);exact ⟨arr, h1, h2⟩
       obtain ⟨arrA, la1, la2, la3⟩ := TAF.out;obtain ⟨arrS, ls1, ls2, ls3⟩ := TSF.out;have LA : Hid (Lies wr ba arrA) := la1;have LS : Hid (Lies wr bs arrS) := ls1;have VA : Hid (TabV arrA A) := ⟨la2, la3⟩;have VS : Hid (TabV arrS S0) := ⟨ls2, ls3⟩;clear la1 la2 la3 ls1 ls2 ls3 TAF TSF;have BF : Hid (Below w.heap.size w wr) := below2 B5.out (HBUT5.out.below (by have := HB.out; omega) (by have := HB.out; omega) (by have := HB.out; omega));clear hpass hta hts hbut HPA TA9 TS9;generalize wr = w9 at *;generalize S0 = S at *;rw [show ((6 : Nat) : Int) = (6 : Int) from rfl];go_upto_region 39 with fail
       refine wp_region_factsU (by rfl) 179 (by rfl) (by kernel_rfl) (FA [.e (.agg arrA), .e (.agg arrS), .p (fun wz vz => Lies wz b2 arrA), .p (fun wz vz => Lies wz b3 arrS)]) (fun w' => EndG w b2 b3 ba bs arrA arrS w') (show EndG w b2 b3 ba bs arrA arrS _ from ⟨LA.out, LS.out, M2F.out, M3F.out, BF.out.drew⟩) ⟨?z0, ?z1, ?z2, ?z3, trivial⟩ ?zfin
       case z0 =>
        intro a w' hoff hg hdep K hK;have h4 := off_at hoff 4 (v := .pointer (some ⟨ba, 0, none⟩)) (by kernel_rfl) rfl;rw [if_pos (by rfl)];obtain ⟨ta, ts, ⟨o2, l2, n2⟩, ⟨o3, l3, n3⟩, bb⟩ := id hg;exact wp_load_row 37 (.tmp 4) rfl ba (by simp [Act.eval, h4]) _ arrA (0, 0) _ ta Tryz.underlying37 (by rfl) (by rw [VA.out.1]; exact tabSize) (hK.out _ _ hg rfl (fun _ _ h => h))
       case z1 =>
        intro a w' hoff hg hdep K hK;have h5 := off_at hoff 5 (v := .pointer (some ⟨bs, 0, none⟩)) (by kernel_rfl) rfl;rw [if_pos (by rfl)];obtain ⟨ta, ts, ⟨o2, l2, n2⟩, ⟨o3, l3, n3⟩, bb⟩ := id hg;exact wp_load_row 37 (.tmp 5) rfl bs (by simp [Act.eval, h5]) _ arrS (0, 0) _ ts Tryz.underlying37 (by rfl) (by rw [VS.out.1]; exact tabSize) (hK.out _ _ hg rfl (fun _ _ h => h))
       case z2 =>
        intro a w' hoff hg hdep K hK;have h2 := off_at hoff 2 (v := .pointer (some ⟨b2, 0, none⟩)) (by kernel_rfl) rfl;obtain ⟨_, e0, rfl⟩ := hdep 0 _ 177 (by kernel_rfl) rfl rfl;rw [if_pos (by rfl)];obtain ⟨ta, ts, ⟨o2, l2, n2⟩, ⟨o3, l3, n3⟩, bb⟩ := id hg;have bbx : Below w.heap.size w (w'.setRow b2 arrA) := below_setRow bb (by have := HB.out; omega) _;exact wp_store_row 37 (.tmp 2) (.tmp 177) rfl b2 arrA (by simp [Act.eval, h2]) (by simp [Act.eval, e0]) _ _ l2 (by rw [VA.out.1]; exact tabSize) (by rw [n2, VA.out.1]) VA.out.one (hK.out (.pointer (some ⟨b2, 0, none⟩)) _ (show EndG w b2 b3 ba bs arrA arrS _ from ⟨lies_other ta (by have := HB.out; omega), lies_other ts (by have := HB.out; omega), ⟨_, lies_set l2, VA.out.1⟩, ⟨_, lies_other l3 (by have := HB.out; omega), n3⟩, bbx⟩) (lies_set l2) (fSt ⟨fun _ _ => lies_set l2, fun _ h => lies_other h (by have := HB.out; omega), trivial⟩) h2)
       case z3 =>
        intro a w' hoff hg hdep K hK;have h3 := off_at hoff 3 (v := .pointer (some ⟨b3, 0, none⟩)) (by kernel_rfl) rfl;obtain ⟨_, e1, rfl⟩ := hdep 1 _ 178 (by kernel_rfl) rfl rfl;rw [if_pos (by rfl)];obtain ⟨ta, ts, ⟨o2, l2, n2⟩, ⟨o3, l3, n3⟩, bb⟩ := id hg;have bbx : Below w.heap.size w (w'.setRow b3 arrS) := below_setRow bb (by have := HB.out; omega) _;exact wp_store_row 37 (.tmp 3) (.tmp 178) rfl b3 arrS (by simp [Act.eval, h3]) (by simp [Act.eval, e1]) _ _ l3 (by rw [VS.out.1]; exact tabSize) (by rw [n3, VS.out.1]) VS.out.one (hK.out (.pointer (some ⟨b3, 0, none⟩)) _ (show EndG w b2 b3 ba bs arrA arrS _ from ⟨lies_other ta (by have := HB.out; omega), lies_other ts (by have := HB.out; omega), ⟨_, lies_other l2 (by have := HB.out; omega), n2⟩, ⟨_, lies_set l3, VS.out.1⟩, bbx⟩) (lies_set l3) (fSt ⟨fun _ h => lies_other h (by have := HB.out; omega), fun _ _ => lies_set l3, trivial⟩) h3)
       case zfin =>
        intro a w' hoff hg hf hn;obtain ⟨_, e0, rfl⟩ := hf 0 _ 177 rfl rfl;obtain ⟨_, e1, rfl⟩ := hf 1 _ 178 rfl rfl;obtain ⟨v2, (g2 : Lies w' b2 arrA), T2⟩ := hn 2 _ rfl rfl;replace T2 := T2 2 rfl;obtain ⟨v3, (g3 : Lies w' b3 arrS), T3⟩ := hn 3 _ rfl rfl;replace T3 := T3 3 rfl;rw [hoff.sets [(177, .agg arrA), (178, .agg arrS)] (by kernel_rfl) (by intro p hp; simp only [List.mem_cons, List.not_mem_nil, or_false] at hp; rcases hp with rfl | rfl <;> assumption)];clear hoff hf hn e0 e1 T2 T3;simp only [List.foldl_cons, List.foldl_nil, List.setIfInBounds_toArray, List.set_cons_zero, List.set_cons_succ]
        have HB2 := hg.2.2.2.2;have L2 := Lib.hid g2; have L3 := Lib.hid g3
        clear g2 g3 hg;go_wp2_with fail
        refine bodyPost_ret (v := .tuple #[.agg arrA, .agg arrS]) (by simp [results, Tryz.results13, asAddr, run_loadVar_row _ b2 _ 37 _ _ _ L2.out Tryz.underlying37 (by rfl) (by rw [VA.out.1]; exact tabSize), run_loadVar_row _ b3 _ 37 _ _ _ L3.out Tryz.underlying37 (by rfl) (by rw [VS.out.1]; exact tabSize)]) rfl ⟨HB2, arrA, arrS, A, S, rfl, VA.out, VS.out, HWH.out, HFM.out⟩
end Go.Proofs.YtjmnnjikmmglpaaGreat
