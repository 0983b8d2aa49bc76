/-
  Takes, BaseCases, Call
-/
import Derived.Test.YtbkligcfllakeaaKE05
import Derived.Test.YtbkligcfllakeaaKE06
namespace Go.Proofs.Ytbkligcfllakeaa
open Go.RowKit
def argB (l : Bool) (x : V) : Bool := rightV 4 x && (!l || (x.kind == 4))
theorem argB_wrong {l : Bool} {x : V} (h : rightV 4 x = false) : argB l x = false := by rw [argB, h]; rfl
theorem argB_any {x : V} (h : rightV 4 x = true) : argB false x = true := by rw [argB, h]; rfl
theorem argB_list {x : V} (h : rightV 4 x = true) : argB true x = (x.kind == 4) := by rw [argB, h]; simp
theorem retBool {a b : Bool} (h : a = b) : Ending.returned (.bool a) = .returned (.bool b) := by rw [h]
set_option maxRecDepth 100000 in
set_option maxHeartbeats 2000000 in
theorem takes_not (ar : Int) (l0 l1 : Bool) (k : Nat) (w : World) (a : Option Addr) (n cap : Nat) (h : ((n : Int) != ar) = true) :
  Calls Try.prog 107 #[.agg #[.int .i64 ar, .bool l0, .bool l1, fnDo k], .slice a n cap] w fun e w' => e = .returned (.bool false) ∧ Below w.heap.size w w' := by
 generalize fnDo k = d;go_enter Try.func107, Try.ntmps107
 go_wp2_with fail
 go_ret
 exact ⟨rfl, (Below.refl _ _).alloc (Nat.le_refl _) _⟩
set_option maxRecDepth 100000 in
set_option maxHeartbeats 2000000 in
theorem takes_one (l0 l1 : Bool) (k : Nat) (x : V) (B : Nat) (w : World) (a : Value) (hB : B ≤ w.heap.size) (ha : RepL B w [x] a) :
  Calls Try.prog 107 #[.agg #[.int .i64 1, .bool l0, .bool l1, fnDo k], a] w fun e w' => e = .returned (.bool (argB l0 x)) ∧ Below w.heap.size w w' := by
 generalize fnDo k = d;have hb1 : Below w.heap.size w (w.alloc (.cells #[.int .i64 1, .bool l0, .bool l1, d] 137)) := (Below.refl _ w).alloc (Nat.le_refl _) _;have HF := Lib.hid (alloc_new' w (.cells #[.int .i64 1, .bool l0, .bool l1, d] 137));have HB1 := Lib.hid hb1;obtain ⟨aa, ab, ao, ac, rfl, hac, -⟩ := id ha;obtain ⟨-, -, b, o, fa, fc, rfl, hSb, g0, g1, g2, g3, g⟩ := RepLG.at (RepL.below (w' := w.alloc (.cells #[.int .i64 1, .bool l0, .bool l1, d] 137)) (fun j hj => hb1.block j (by omega)) ha) 0 (by simp);simp only [List.getElem_cons_zero, Nat.zero_mul, Nat.add_zero, List.length_cons, List.length_nil, Nat.zero_add] at g0 g1 g2 g3 g hac ⊢
 have HG := Lib.hid g;have hs1 := World.size_alloc w (.cells #[.int .i64 1, .bool l0, .bool l1, d] 137);have HS1 := Lib.hid hs1;clear ha hb1 g hs1;go_enter Try.func107, Try.ntmps107
 go_wp2_with fail
 generalize w.alloc (.cells #[.int .i64 1, .bool l0, .bool l1, d] 137) = w1 at *;refine wp_loop_rounds 2 ?_;rw [rounds_succ];go_wp2_with fail
 have Z := boxed_new w1 (.int .i64 x.kind) (.int .i64 x.num) (.string x.text) (.slice fa x.list.length fc);have b2 := (Below.refl _ w1).alloc (Nat.le_refl _) (.cells #[.int .i64 x.kind, .int .i64 x.num, .string x.text, .slice fa x.list.length fc] 27);generalize w1.alloc (.cells #[.int .i64 x.kind, .int .i64 x.num, .string x.text, .slice fa x.list.length fc] 27) = w2 at *;have hs2 := b2.size;refine (right_any x B w2 _ _ _ _ (by have := HS1.out; omega) (HG.out.on (fun _ h => h) (fun j hj => b2.block j (by have := HS1.out; omega)))).mono ?_;rintro e w3 ⟨rfl, hb3⟩;have HB3 := Lib.hid (Below.trans HB1.out ((Below.step b2 hb3).mono (by have := HS1.out; omega)));have hf := ((Below.step b2 hb3).block w.heap.size (by have := HS1.out; omega)).trans HF.out;have f1 := cell_of_block' (i := 1) hf _ rfl;have z0 := (Z.on hb3).cells.1;clear Z b2 hb3 hf g0 g1 g2 g3
 cases hr : rightV 4 x with
 | false =>
  have HR := Lib.hid (argB_wrong (l := l0) hr);clear hr;go_wp2_with fail
  go_ret
  exact ⟨retBool HR.out.symm, HB3.out⟩
 | true =>
  cases l0 with
  | false =>
   have HR := Lib.hid (argB_any hr);clear hr;go_wp2_with fail
   rw [rounds_succ];go_wp2_with fail
   go_ret
   exact ⟨retBool HR.out.symm, HB3.out⟩
  | true =>
   have HR := Lib.hid (argB_list hr);clear hr
   cases hk : (x.kind == 4) with
   | false =>
    have HK := Lib.hid hk;have hk2 : (x.kind != 4) = true := by simpa using hk
    clear hk;go_wp2_with fail
    go_ret
    exact ⟨retBool (HR.out.trans HK.out).symm, HB3.out⟩
   | true =>
    have HK := Lib.hid hk;have hk2 : (x.kind != 4) = false := by simpa using hk
    clear hk;go_wp2_with fail
    rw [rounds_succ];go_wp2_with fail
    go_ret
    exact ⟨retBool (HR.out.trans HK.out).symm, HB3.out⟩
set_option maxRecDepth 100000 in
set_option maxHeartbeats 4000000 in
theorem takes_two (l0 l1 : Bool) (k : Nat) (x y : V) (B : Nat) (w : World) (a : Value) (hB : B ≤ w.heap.size) (ha : RepL B w [x, y] a) :
  Calls Try.prog 107 #[.agg #[.int .i64 2, .bool l0, .bool l1, fnDo k], a] w fun e w' => e = .returned (.bool (argB l0 x && argB l1 y)) ∧ Below w.heap.size w w' := by
 generalize fnDo k = d;have hb1 : Below w.heap.size w (w.alloc (.cells #[.int .i64 2, .bool l0, .bool l1, d] 137)) := (Below.refl _ w).alloc (Nat.le_refl _) _;have HF := Lib.hid (alloc_new' w (.cells #[.int .i64 2, .bool l0, .bool l1, d] 137));have HB1 := Lib.hid hb1;obtain ⟨aa, ab, ao, ac, rfl, hac, -⟩ := id ha;have ha1 : RepL B (w.alloc (.cells #[.int .i64 2, .bool l0, .bool l1, d] 137)) [x, y] (.slice aa [x, y].length ac) := RepL.below (fun j hj => hb1.block j (by omega)) ha;obtain ⟨-, -, b, o, fa, fc, rfl, hSb, g0, g1, g2, g3, g⟩ := RepLG.at ha1 0 (by simp);obtain ⟨-, -, b', o', fa', fc', e', -, e0, e1, e2, e3, g'⟩ := RepLG.at ha1 1 (by simp)
 cases e'
 simp only [List.getElem_cons_zero, List.getElem_cons_succ, Nat.zero_mul, Nat.one_mul, Nat.add_zero, List.length_cons, List.length_nil, Nat.zero_add, Nat.reduceAdd] at g0 g1 g2 g3 g e0 e1 e2 e3 g' hac ⊢
 have HG := Lib.hid g; have HG' := Lib.hid g'
 have E0 := Lib.hid e0; have E1 := Lib.hid e1; have E2 := Lib.hid e2; have E3 := Lib.hid e3
 have hs1 := World.size_alloc w (.cells #[.int .i64 2, .bool l0, .bool l1, d] 137);have HS1 := Lib.hid hs1;clear ha ha1 hb1 g g' hs1 e0 e1 e2 e3;go_enter Try.func107, Try.ntmps107
 go_wp2_with fail
 generalize w.alloc (.cells #[.int .i64 2, .bool l0, .bool l1, d] 137) = w1 at *;refine wp_loop_rounds 3 ?_;rw [rounds_succ];go_wp2_with fail
 have Z := boxed_new w1 (.int .i64 x.kind) (.int .i64 x.num) (.string x.text) (.slice fa x.list.length fc);have b2 := (Below.refl _ w1).alloc (Nat.le_refl _) (.cells #[.int .i64 x.kind, .int .i64 x.num, .string x.text, .slice fa x.list.length fc] 27);generalize w1.alloc (.cells #[.int .i64 x.kind, .int .i64 x.num, .string x.text, .slice fa x.list.length fc] 27) = w2 at *;have hs2 := b2.size;refine (right_any x B w2 _ _ _ _ (by have := HS1.out; omega) (HG.out.on (fun _ h => h) (fun j hj => b2.block j (by have := HS1.out; omega)))).mono ?_;rintro e w3 ⟨rfl, hb3⟩;have HW3 := Lib.hid (Below.step b2 hb3);have HB3 := Lib.hid (Below.trans HB1.out (HW3.out.mono (by have := HS1.out; omega)));have hf := (HW3.out.block w.heap.size (by have := HS1.out; omega)).trans HF.out;have f1 := cell_of_block' (i := 1) hf _ rfl;have z0 := (Z.on hb3).cells.1;have e0 := (HW3.out.cell (p := ⟨b, o + 4, none⟩) (by have := HS1.out; simp; omega)).trans E0.out;have e1 := (HW3.out.cell (p := ⟨b, o + 4 + 1, none⟩) (by have := HS1.out; simp; omega)).trans E1.out;have e2 := (HW3.out.cell (p := ⟨b, o + 4 + 2, none⟩) (by have := HS1.out; simp; omega)).trans E2.out;have e3 := (HW3.out.cell (p := ⟨b, o + 4 + 3, none⟩) (by have := HS1.out; simp; omega)).trans E3.out;have hs3 := HW3.out.size;clear Z b2 hb3 hf g0 g1 g2 g3
 -- what the second argument brings
 cases hr : argB l0 x with
 | false =>
  have hcase : rightV 4 x = false ∨ (rightV 4 x = true ∧ l0 = true ∧ (x.kind == 4) = false) := by
   cases h1 : rightV 4 x with
   | false => exact .inl rfl
   | true =>
    cases l0 with
    | false => rw [argB_any h1] at hr; cases hr
    | true => rw [argB_list h1] at hr; exact .inr ⟨rfl, rfl, hr⟩
  have HA := Lib.hid hr;clear hr;rcases hcase with h1 | ⟨h1, rfl, h2⟩
  ·rw [h1]
   clear h1;go_wp2_with fail
   go_ret
   exact ⟨retBool (by rw [HA.out]; rfl), HB3.out⟩
  ·rw [h1]
   have hk2 : (x.kind != 4) = true := by simpa using h2
   clear h1 h2;go_wp2_with fail
   go_ret
   exact ⟨retBool (by rw [HA.out]; rfl), HB3.out⟩
 | true =>
  have hcase : rightV 4 x = true ∧ (l0 = false ∨ (l0 = true ∧ (x.kind != 4) = false)) := by
   cases h1 : rightV 4 x with
   | false => rw [argB_wrong h1] at hr; cases hr
   | true =>
    cases l0 with
    | false => exact ⟨rfl, .inl rfl⟩
    | true => rw [argB_list h1] at hr; exact ⟨rfl, .inr ⟨rfl, by simpa using hr⟩⟩
  have HA := Lib.hid hr;clear hr;obtain ⟨h1, hc⟩ := hcase;rw [h1];clear h1;rcases hc with rfl | ⟨rfl, h2⟩
  all_goals
   go_wp2_with fail
   rw [rounds_succ];go_wp2_with fail
   have Z := boxed_new w3 (.int .i64 y.kind) (.int .i64 y.num) (.string y.text) (.slice fa' y.list.length fc');have b4 := (Below.refl _ w3).alloc (Nat.le_refl _) (.cells #[.int .i64 y.kind, .int .i64 y.num, .string y.text, .slice fa' y.list.length fc'] 27);generalize w3.alloc (.cells #[.int .i64 y.kind, .int .i64 y.num, .string y.text, .slice fa' y.list.length fc'] 27) = w4 at *;have hs4 := b4.size;refine (right_any y B w4 _ _ _ _ (by have := HS1.out; omega) (HG'.out.on (fun _ h => h) (fun j hj => (Below.step HW3.out b4).block j (by have := HS1.out; omega)))).mono ?_;rintro e w5 ⟨rfl, hb5⟩;have HB5 := Lib.hid (Below.trans HB3.out ((Below.step b4 hb5).mono (by have := HS1.out; omega)));have hf := ((Below.step HW3.out (Below.step b4 hb5)).block w.heap.size (by have := HS1.out; omega)).trans HF.out;have f2 := cell_of_block' (i := 2) hf _ rfl;have y0 := (Z.on hb5).cells.1;clear Z b4 hb5 hf e0 e1 e2 e3 z0 f1
   cases hr : rightV 4 y with
   | false =>
    have HR := Lib.hid (argB_wrong (l := l1) hr);clear hr;go_wp2_with fail
    go_ret
    exact ⟨retBool (by rw [HA.out, HR.out]; rfl), HB5.out⟩
   | true =>
    cases l1 with
    | false =>
     have HR := Lib.hid (argB_any hr);clear hr;go_wp2_with fail
     rw [rounds_succ];go_wp2_with fail
     go_ret
     exact ⟨retBool (by rw [HA.out, HR.out]; rfl), HB5.out⟩
    | true =>
     have HR := Lib.hid (argB_list hr);clear hr
     cases hk : (y.kind == 4) with
     | false =>
      have HK := Lib.hid hk;have hk2 : (y.kind != 4) = true := by simpa using hk
      clear hk;go_wp2_with fail
      go_ret
      exact ⟨retBool (by rw [HA.out, HR.out, HK.out]; rfl), HB5.out⟩
     | true =>
      have HK := Lib.hid hk;have hk2 : (y.kind != 4) = false := by simpa using hk
      clear hk;go_wp2_with fail
      rw [rounds_succ];go_wp2_with fail
      go_ret
      exact ⟨retBool (by rw [HA.out, HR.out, HK.out]; rfl), HB5.out⟩
end Go.Proofs.Ytbkligcfllakeaa
namespace Go.Proofs.Ytbkligcfllakeaa
open Go.RowKit
theorem baseB_cases {k n : Int} {s : ByteArray} {l : List V} {b : Bool} (h : baseB k n s l b = true) :
  (k = 1 ∧ s.toList.isEmpty = true ∧ l = [] ∧ -2147483647 ≤ n ∧ n ≤ 2147483647) ∨ (k = 2 ∧ n = 0 ∧ l = [] ∧ textB s = true) ∨ (k = 3 ∧ n = 0 ∧ l = [] ∧ nameB s = true) ∨ (k = 4 ∧ n = 0 ∧ s.toList.isEmpty = true ∧ b = true) := by
 unfold baseB at h
 split at h
 ·simp at h; simp_all
 ·split at h
  ·simp at h; simp_all
  ·split at h
   ·simp at h; simp_all
   ·split at h
    ·simp at h; simp_all
    ·cases h
end Go.Proofs.Ytbkligcfllakeaa
namespace Go.Proofs.Ytbkligcfllakeaa
open Go.RowKit
def takesB (k : Nat) : List V → Bool
 | [x] => (fnArity k == 1) && argB (fnList k 0) x
 | [x, y] => (fnArity k == 2) && (argB (fnList k 0) x && argB (fnList k 1) y)
 | _ => false
theorem takes_any (k : Nat) (args : List V) (B : Nat) (w : World) (a : Value) (hB : B ≤ w.heap.size) (ha : RepL B w args a) :
  Calls Try.prog 107 #[.agg #[.int .i64 (fnArity k), .bool (fnList k 0), .bool (fnList k 1), fnDo k], a] w fun e w' => e = .returned (.bool (takesB k args)) ∧ Below w.heap.size w w' := by
 have har := fnArity_range k
 match args, ha with
 | [], ha =>
  obtain ⟨aa, ab, ao, ac, rfl, -⟩ := ha;exact takes_not (fnArity k) _ _ k w aa _ ac (by simp; omega)
 | [x], ha =>
  by_cases h : fnArity k = 1
  ·rw [h, takesB, h]
   exact (takes_one _ _ k x B w a hB ha).mono fun e w' ⟨he, hb⟩ => ⟨by rw [he]; rfl, hb⟩
  ·obtain ⟨aa, ab, ao, ac, rfl, -⟩ := ha
   have e : (fnArity k == 1) = false := beq_eq_false_iff_ne.2 h;rw [takesB, e];exact takes_not (fnArity k) _ _ k w aa _ ac (by simp; omega)
 | [x, y], ha =>
  by_cases h : fnArity k = 2
  ·rw [h, takesB, h]
   exact (takes_two _ _ k x y B w a hB ha).mono fun e w' ⟨he, hb⟩ => ⟨by rw [he]; rfl, hb⟩
  ·obtain ⟨aa, ab, ao, ac, rfl, -⟩ := ha
   have e : (fnArity k == 2) = false := beq_eq_false_iff_ne.2 h;rw [takesB, e];exact takes_not (fnArity k) _ _ k w aa _ ac (by simp; omega)
 | x :: y :: z :: t, ha =>
  obtain ⟨aa, ab, ao, ac, rfl, -⟩ := ha;exact takes_not (fnArity k) _ _ k w aa _ ac (by simp; omega)
def doV : Nat → List V → V
 | 0, [x, y] => listV ([x] ++ y.list)
 | 1, [x, y] => listV (x.list ++ [y])
 | 2, [x, y] => listV (x.list ++ y.list)
 | 3, [x, y] => numV (memZ x.list y)
 | 4, [x] => numV x.list.length
 | 5, [x] => firstV x
 | 6, [x] => lastV x
 | 7, [x] => restV x
 | 8, [x] => listV x.list.reverse
 | _, _ => zeroV
def callV (k : Nat) (args : List V) : Option V := if takesB k args = true ∧ rightV 4 (doV k args) = true then some (doV k args) else none
theorem right_short {d : Nat} {x : V} (h : rightV d x = true) : x.list.length ≤ 16 := by
 cases x with
 | mk k n s l =>
  rw [rightV_mk] at h;rcases baseB_cases h with ⟨_, _, rfl, _⟩ | ⟨_, _, rfl, _⟩ | ⟨_, _, rfl, _⟩ | ⟨_, _, _, h2⟩
  ·show ([] : List V).length ≤ 16; simp
  ·show ([] : List V).length ≤ 16; simp
  ·show ([] : List V).length ≤ 16; simp
  ·show l.length ≤ 16
   cases d with
   | zero => cases h2
   | succ d => simp only [rightL, Bool.and_eq_true, decide_eq_true_eq] at h2; exact h2.1
theorem arg_right {l : Bool} {x : V} (h : argB l x = true) : rightV 4 x = true := by
 rw [argB, Bool.and_eq_true] at h; exact h.1
def fnId : Nat → Nat
 | 0 => 112
 | 1 => 113
 | 2 => 114
 | 3 => 115
 | 4 => 116
 | 5 => 117
 | 6 => 118
 | 7 => 119
 | _ => 120
theorem fnDo_id {k : Nat} (h : k < 9) : fnDo k = .func (.func (fnId k)) #[] #[] := by
 match k, h with
 | 0, _ => rfl | 1, _ => rfl | 2, _ => rfl | 3, _ => rfl | 4, _ => rfl | 5, _ => rfl | 6, _ => rfl | 7, _ => rfl | 8, _ => rfl
theorem enters_0 (args : Array Value) (w : World) : Sem.run Try.prog (callFunc 112 args) w = .ok (.enter 112 args) w := by
 kernel_rfl
theorem enters_1 (args : Array Value) (w : World) : Sem.run Try.prog (callFunc 113 args) w = .ok (.enter 113 args) w := by
 kernel_rfl
theorem enters_2 (args : Array Value) (w : World) : Sem.run Try.prog (callFunc 114 args) w = .ok (.enter 114 args) w := by
 kernel_rfl
theorem enters_3 (args : Array Value) (w : World) : Sem.run Try.prog (callFunc 115 args) w = .ok (.enter 115 args) w := by
 kernel_rfl
theorem enters_4 (args : Array Value) (w : World) : Sem.run Try.prog (callFunc 116 args) w = .ok (.enter 116 args) w := by
 kernel_rfl
theorem enters_5 (args : Array Value) (w : World) : Sem.run Try.prog (callFunc 117 args) w = .ok (.enter 117 args) w := by
 kernel_rfl
theorem enters_6 (args : Array Value) (w : World) : Sem.run Try.prog (callFunc 118 args) w = .ok (.enter 118 args) w := by
 kernel_rfl
theorem enters_7 (args : Array Value) (w : World) : Sem.run Try.prog (callFunc 119 args) w = .ok (.enter 119 args) w := by
 kernel_rfl
theorem enters_8 (args : Array Value) (w : World) : Sem.run Try.prog (callFunc 120 args) w = .ok (.enter 120 args) w := by
 kernel_rfl
theorem fn_enters {k : Nat} (h : k < 9) (args : Array Value) (w : World) : Sem.run Try.prog (callFunc (fnId k) args) w = .ok (.enter (fnId k) args) w := by
 match k, h with
 | 0, _ => exact enters_0 args w
 | 1, _ => exact enters_1 args w
 | 2, _ => exact enters_2 args w
 | 3, _ => exact enters_3 args w
 | 4, _ => exact enters_4 args w
 | 5, _ => exact enters_5 args w
 | 6, _ => exact enters_6 args w
 | 7, _ => exact enters_7 args w
 | 8, _ => exact enters_8 args w
theorem takes_lt {k : Nat} {args : List V} (h : takesB k args = true) : k < 9 := by
 by_cases hk : k < 9
 ·exact hk
 ·have e : fnArity k = -1 := by
   unfold fnArity
   split <;> first | omega | rfl
  match args, h with
  | [x], h => rw [takesB, e] at h; cases h
  | [x, y], h => rw [takesB, e] at h; cases h
theorem takes_args {k : Nat} {args : List V} (h : takesB k args = true) : (∃ x, args = [x] ∧ fnArity k = 1 ∧ rightV 4 x = true) ∨ (∃ x y, args = [x, y] ∧ fnArity k = 2 ∧ rightV 4 x = true ∧ rightV 4 y = true) := by
 match args, h with
 | [x], h =>
  rw [takesB, Bool.and_eq_true, beq_iff_eq] at h;exact .inl ⟨x, rfl, h.1, arg_right h.2⟩
 | [x, y], h =>
  rw [takesB, Bool.and_eq_true, Bool.and_eq_true, beq_iff_eq] at h;exact .inr ⟨x, y, rfl, h.1, arg_right h.2.1, arg_right h.2.2⟩
theorem do_any {k : Nat} {args : List V} (h : takesB k args = true) (B : Nat) (w : World) (a : Value) (hB : B ≤ w.heap.size) (ha : RepL B w args a) :
  Calls Try.prog (fnId k) #[a] w (DoPost (doV k args) w) := by
 have hk := takes_lt h;rcases takes_args h with ⟨x, rfl, har, hx⟩ | ⟨x, y, rfl, har, hx, hy⟩
 ·have hl := right_short hx
  match k, hk, har with
  | 0, _, har => exact absurd har (by decide)
  | 1, _, har => exact absurd har (by decide)
  | 2, _, har => exact absurd har (by decide)
  | 3, _, har => exact absurd har (by decide)
  | 4, _, _ => exact size_any x B w a hB ha
  | 5, _, _ => exact first_any x B w a hB ha
  | 6, _, _ => exact last_any x B w a hB ha
  | 7, _, _ => exact rest_any x B w a hB ha
  | 8, _, _ => exact turned_any x B w a hB ha (by omega)
 ·have hl := right_short hx
  have hm := right_short hy
  match k, hk, har with
  | 0, _, _ => exact cons_any x y B w a hB ha (by omega) (by omega)
  | 1, _, _ => exact appended_any x y B w a hB ha (by omega) (by omega)
  | 2, _, _ => exact joined_any x y B w a hB ha (by omega) (by omega)
  | 3, _, _ => exact member_any x y B w a hB ha
  | 4, _, har => exact absurd har (by decide)
  | 5, _, har => exact absurd har (by decide)
  | 6, _, har => exact absurd har (by decide)
  | 7, _, har => exact absurd har (by decide)
  | 8, _, har => exact absurd har (by decide)
theorem one_slice {S : Nat → Prop} {w : World} {x : V} {c0 c1 c2 c3 : Value} (hx : RepG S w x c0 c1 c2 c3) (hS : ∀ k, S k → k < w.heap.size) :
  RepL (w.heap.size + 1) (w.alloc (.cells #[c0, c1, c2, c3] 27)) [x] (.slice (some ⟨w.heap.size, 0, none⟩) 1 1) := by
 have hr : RepRow (fun b => b < w.heap.size + 1) (w.alloc (.cells #[c0, c1, c2, c3] 27)) [x] #[c0, c1, c2, c3] := by
  intro i hi;obtain rfl : i = 0 := by simpa using hi
  exact ⟨c0, c1, c2, c3, rfl, rfl, rfl, rfl, hx.on (fun b hb => by have := hS b hb; omega) (fun b hb => Below.heap_alloc _ _ _ (hS b hb))⟩
 exact hr.slice (alloc_new' _ _) (Nat.lt_succ_self _) (Nat.le_refl _) (by simp)
theorem field_list (a b c d : Value) (w : World) : Sem.run Try.prog (Instr.field 27 (.agg #[a, b, c, d]) 3) w = .ok d w := by
 kernel_rfl
def NewPost (x : V) (w : World) (e : Ending) (w' : World) : Prop := ∃ c0 c1 c2 c3, e = .returned (.agg #[c0, c1, c2, c3]) ∧ RepG (fun b => w.heap.size < b ∧ b < w'.heap.size) w' x c0 c1 c2 c3 ∧ Below w.heap.size w w'
set_option maxRecDepth 100000 in
set_option maxHeartbeats 1000000 in
theorem fresh_any (x : V) (B : Nat) (w : World) (c0 c1 c2 c3 : Value) (hB : B ≤ w.heap.size) (hx : RepV B w x c0 c1 c2 c3) :
  Calls Try.prog 109 #[.agg #[c0, c1, c2, c3]] w (NewPost x w) := by
 have HX := Lib.hid hx;obtain ⟨fa, fc, rfl, rfl, rfl, rfl⟩ := hx.form;clear hx;go_enter Try.func109, Try.ntmps109
 go_wp2_with fail
 have b1 := (Below.refl _ w).alloc (Nat.le_refl _) (.cells #[.int .i64 x.kind, .int .i64 x.num, .string x.text, .slice fa x.list.length fc] 27);have s1 := World.size_alloc w (.cells #[.int .i64 x.kind, .int .i64 x.num, .string x.text, .slice fa x.list.length fc] 27);generalize w.alloc (.cells #[.int .i64 x.kind, .int .i64 x.num, .string x.text, .slice fa x.list.length fc] 27) = w1 at *;have b2 := (Below.refl _ w1).alloc (Nat.le_refl _) (.cells #[.int .i64 0, .int .i64 0, .string ⟨#[]⟩, .slice none 0 0] 27);have x2 := boxed_new w1 (.int .i64 0) (.int .i64 0) (.string ⟨#[]⟩) (.slice none 0 0);have s2 := World.size_alloc w1 (.cells #[.int .i64 0, .int .i64 0, .string ⟨#[]⟩, .slice none 0 0] 27);rw [s1] at x2 s2;generalize w1.alloc (.cells #[.int .i64 0, .int .i64 0, .string ⟨#[]⟩, .slice none 0 0] 27) = w2 at *;have B2 := Below.step b1 b2;have b3 := (Below.refl _ w2).alloc (Nat.le_refl _) (.cells #[.int .i64 x.kind, .int .i64 x.num, .string x.text, .slice fa x.list.length fc] 27);have r3 := one_slice (S := fun b => b < B) (RepV.below (w' := w2) (fun j hj => B2.block j (by omega)) x HX.out) (fun k hk => by omega);rw [s2] at r3;have s3 := World.size_alloc w2 (.cells #[.int .i64 x.kind, .int .i64 x.num, .string x.text, .slice fa x.list.length fc] 27);generalize w2.alloc (.cells #[.int .i64 x.kind, .int .i64 x.num, .string x.text, .slice fa x.list.length fc] 27) = w3 at *;have X3 := Lib.hid (x2.on b3);have B3 := Lib.hid (Below.step B2 b3);have HS3 := Lib.hid (s3.trans (by rw [s2]));clear b1 b2 b3 x2 B2;refine (list_any [x] (w.heap.size + 1 + 1 + 1) _ _ (by omega) r3).mono ?_;rintro e w4 ⟨r, rfl, hr, hb4⟩;obtain ⟨ra, rb, ro, rc, rfl, hrc, -⟩ := id hr;obtain ⟨-, -, b, o, ga, gc, rfl, hSb, g0, g1, g2, g3, g⟩ := RepLG.at hr 0 (by simp);simp only [List.getElem_cons_zero, Nat.zero_mul, Nat.add_zero, List.length_cons, List.length_nil, Nat.zero_add] at g0 g1 g2 g3 g hrc
 have X4 := X3.out.on hb4;have B4 := Lib.hid (Below.step B3.out hb4);have HG := Lib.hid g;obtain ⟨r0, r1, r2, r3'⟩ := X4.cells;have z0 := frozen_of_row w4 _ 0 _ _ X4;have z1 := frozen_of_row w4 _ 1 _ _ X4;have z2 := frozen_of_row w4 _ 2 _ _ X4;have z3 := frozen_of_row w4 _ 3 _ _ X4;have hs4 := hb4.size;clear X4 hr g r3 s1 s2 s3 hb4 X3;have hf := field_list;go_wp2_with fail
 refine bodyPost_ret (v := .agg #[.int .i64 x.kind, .int .i64 x.num, .string x.text, .slice ga x.list.length gc]) (by simp [results, Try.results109, go_sem, r0, r1, r2, r3']) rfl ?_;refine ⟨_, _, _, _, rfl, HG.out.on (fun b hb => ⟨by have := HS3.out; omega, by simp [World.setCell]; exact hb.2⟩) (fun b hb => ?_), stored4 B4.out (w.heap.size + 1) (by omega) _ _ _ _⟩;have h1 : b ≠ w.heap.size + 1 := by have := HS3.out; omega
 rw [Below.heap_setCell _ _ _ _ (by simpa using h1), Below.heap_setCell _ _ _ _ (by simpa using h1), Below.heap_setCell _ _ _ _ (by simpa using h1), Below.heap_setCell _ _ _ _ (by simpa using h1)]
def CallPost (r : Option V) (w : World) (e : Ending) (w' : World) : Prop := ∃ c0 c1 c2 c3, e = .returned (.tuple #[.agg #[c0, c1, c2, c3], .bool r.isSome]) ∧ RepG (fun b => w.heap.size < b ∧ b < w'.heap.size) w' (r.getD zeroV) c0 c1 c2 c3 ∧ Below w.heap.size w w'
set_option maxRecDepth 100000 in
set_option maxHeartbeats 2000000 in
theorem call_not (s : ByteArray) (args : List V) (B : Nat) (w : World) (a : Value) (hB : B ≤ w.heap.size) (ha : RepL B w args a) (ht : takesB (fnOf s) args = false) :
  Calls Try.prog 103 #[.string s, a] w (CallPost none w) := by
 have HA := Lib.hid ha;obtain ⟨aa, ab, ao, ac, rfl, -⟩ := ha;have HT := Lib.hid ht;clear ht;go_enter Try.func103, Try.ntmps103
 go_wp2_with fail
 have b1 := (Below.refl _ w).alloc (Nat.le_refl _) (.cells #[.int .i64 0, .int .i64 0, .string ⟨#[]⟩, .slice none 0 0] 27);have x1 := boxed_new w (.int .i64 0) (.int .i64 0) (.string ⟨#[]⟩) (.slice none 0 0);have s1 := World.size_alloc w (.cells #[.int .i64 0, .int .i64 0, .string ⟨#[]⟩, .slice none 0 0] 27);generalize w.alloc (.cells #[.int .i64 0, .int .i64 0, .string ⟨#[]⟩, .slice none 0 0] 27) = w1 at *;refine (find_any s _).mono ?_;rintro e w2 ⟨rfl, b2⟩;have HTK := Lib.hid (takes_any (fnOf s) args B);obtain ⟨d, hd⟩ : ∃ d, d = fnDo (fnOf s) := ⟨_, rfl⟩
 have hform : (∃ id, d = .func (.func id) #[] #[]) ∨ d = .nilFunc := by
  rw [hd]
  by_cases h : fnOf s < 9
  ·exact .inl ⟨_, fnDo_id h⟩
  ·refine .inr ?_
   unfold fnDo
   split <;> first | omega | rfl
 rw [← hd] at HTK ⊢;have HS1 := Lib.hid s1;have B2 := Below.step b1 b2;have X2 := x1.on b2;clear b1 b2 x1 hd;rcases hform with ⟨id, rfl⟩ | rfl
 all_goals
  go_wp2_with fail
  have b3 : ∀ o, Below w2.heap.size w2 (w2.alloc o) := fun o => (Below.refl _ w2).alloc (Nat.le_refl _) o
  refine (HTK.out _ _ (by have := HS1.out; have := B2.size; simp; omega) (RepL.below (fun j hj => (Below.step B2 (b3 _)).block j (by omega)) HA.out)).mono ?_;rintro e w4 ⟨rfl, hb4⟩;rw [HT.out];have B4 := Lib.hid (Below.step (Below.step B2 (b3 _)) hb4);have X4 := (X2.on (b3 _)).on hb4;obtain ⟨r0, r1, r2, r3⟩ := X4.cells;have z0 := frozen_of_row w4 _ 0 _ _ X4;have z1 := frozen_of_row w4 _ 1 _ _ X4;have z2 := frozen_of_row w4 _ 2 _ _ X4;have z3 := frozen_of_row w4 _ 3 _ _ X4;clear X4 hb4 b3 B2 X2;go_wp2_with fail
  refine bodyPost_ret (v := .tuple #[.agg #[.int .i64 0, .int .i64 0, .string ⟨#[]⟩, .slice none 0 0], .bool false]) (by simp [results, Try.results103, go_sem, r0, r1, r2, r3]) rfl ?_;exact ⟨_, _, _, _, rfl, rep_zero, stored4 B4.out w.heap.size (Nat.le_refl _) _ _ _ _⟩
set_option maxRecDepth 100000 in
set_option maxHeartbeats 2000000 in
theorem call_does (s : ByteArray) (args : List V) (B : Nat) (w : World) (a : Value) (hB : B ≤ w.heap.size) (ha : RepL B w args a) (ht : takesB (fnOf s) args = true) :
  Calls Try.prog 103 #[.string s, a] w (CallPost (callV (fnOf s) args) w) := by
 have HA := Lib.hid ha;obtain ⟨aa, ab, ao, ac, rfl, -⟩ := ha;have HT := Lib.hid ht;have HD := Lib.hid (do_any ht B);have hdo := fnDo_id (takes_lt ht);have HCF := Lib.hid (fn_enters (takes_lt ht))
 have HCV : Hid (callV (fnOf s) args = if rightV 4 (doV (fnOf s) args) = true then some (doV (fnOf s) args) else none) := by
  show _ = _
  unfold callV;rw [ht];simp
 clear ht;have HDO := Lib.hid hdo; clear hdo
 go_enter Try.func103, Try.ntmps103
 go_wp2_with fail
 have b1 := (Below.refl _ w).alloc (Nat.le_refl _) (.cells #[.int .i64 0, .int .i64 0, .string ⟨#[]⟩, .slice none 0 0] 27);have x1 := boxed_new w (.int .i64 0) (.int .i64 0) (.string ⟨#[]⟩) (.slice none 0 0);have s1 := World.size_alloc w (.cells #[.int .i64 0, .int .i64 0, .string ⟨#[]⟩, .slice none 0 0] 27);generalize w.alloc (.cells #[.int .i64 0, .int .i64 0, .string ⟨#[]⟩, .slice none 0 0] 27) = w1 at *;refine (find_any s _).mono ?_;rintro e w2 ⟨rfl, b2⟩;have HTK := Lib.hid (takes_any (fnOf s) args B);rw [HDO.out] at HTK ⊢;have HS1 := Lib.hid s1;have B2 := Below.step b1 b2;have X2 := x1.on b2;clear b1 b2 x1 HDO;generalize doV (fnOf s) args = r at *;generalize fnOf s = k at *;generalize hid : fnId k = id at *;clear hid;go_wp2_with fail
 have b3 := (Below.refl _ w2).alloc (Nat.le_refl _) (.cells #[.int .i64 (fnArity k), .bool (fnList k 0), .bool (fnList k 1), .func (.func id) #[] #[]] 137);have F3 := alloc_new' w2 (.cells #[.int .i64 (fnArity k), .bool (fnList k 0), .bool (fnList k 1), .func (.func id) #[] #[]] 137);have s3 := World.size_alloc w2 (.cells #[.int .i64 (fnArity k), .bool (fnList k 0), .bool (fnList k 1), .func (.func id) #[] #[]] 137);generalize w2.alloc (.cells #[.int .i64 (fnArity k), .bool (fnList k 0), .bool (fnList k 1), .func (.func id) #[] #[]] 137) = w3 at *;have B3 := Below.step B2 b3;have hsz3 := B3.size;refine (HTK.out _ _ (by omega) (RepL.below (fun j hj => B3.block j (by omega)) HA.out)).mono ?_;rintro e w4 ⟨rfl, hb4⟩;rw [HT.out];have B4 := Lib.hid (Below.step B3 hb4);have X4 := Lib.hid ((X2.on b3).on hb4);have F4 := (hb4.block w2.heap.size (by omega)).trans F3;have f3 := cell_of_block' (i := 3) F4 _ rfl;clear hb4 b3 B2 X2 F3 F4 s3 B3 hsz3 s1;have hcf := HCF.out;go_wp2_with fail
 have hsz4 := B4.out.size;refine (HD.out _ _ (by omega) (RepL.below (fun j hj => B4.out.block j (by omega)) HA.out)).mono ?_;rintro e w5 ⟨c0, c1, c2, c3, rfl, hr5, hb5⟩;have HR5 := Lib.hid hr5;obtain ⟨ga, gc, rfl, rfl, rfl, rfl⟩ := hr5.form;have B5 := Lib.hid (Below.step B4.out hb5);have X5 := Lib.hid (X4.out.on hb5);clear hr5 hb5 X4 B4 f3 hcf HCF HD hsz4;go_wp2_with fail
 have Z6 := boxed_new w5 (.int .i64 r.kind) (.int .i64 r.num) (.string r.text) (.slice ga r.list.length gc);have b6 := (Below.refl _ w5).alloc (Nat.le_refl _) (.cells #[.int .i64 r.kind, .int .i64 r.num, .string r.text, .slice ga r.list.length gc] 27);generalize w5.alloc (.cells #[.int .i64 r.kind, .int .i64 r.num, .string r.text, .slice ga r.list.length gc] 27) = w6 at *;have HR6 := Lib.hid (RepV.below (fun j hj => b6.block j hj) r HR5.out);refine (right_any r w5.heap.size w6 _ _ _ _ b6.size HR6.out).mono ?_;rintro e w7 ⟨rfl, hb7⟩;have B7 := Lib.hid (Below.step B5.out (Below.step b6 hb7));have X7 := X5.out.on (Below.step b6 hb7);have Z7 := Z6.on hb7;have HR7 := Lib.hid (RepV.below (fun j hj => hb7.block j (Nat.lt_of_lt_of_le hj b6.size)) r HR6.out);have hs7 := (Below.step b6 hb7).size;obtain ⟨r0, r1, r2, r3⟩ := X7.cells;obtain ⟨p0, p1, p2, p3⟩ := Z7.cells;have z0 := frozen_of_row w7 _ 0 _ _ X7;have z1 := frozen_of_row w7 _ 1 _ _ X7;have z2 := frozen_of_row w7 _ 2 _ _ X7;have z3 := frozen_of_row w7 _ 3 _ _ X7;have HX7 := Lib.hid X7;clear X7 Z7 Z6 hb7 b6 HR6 HR5 X5 B5
 cases hr : rightV 4 r with
 | false =>
  have HF : Hid (callV k args = none) := by show _ = _; rw [HCV.out, hr]; rfl
  clear hr;go_wp2_with fail
  refine bodyPost_ret (v := .tuple #[.agg #[.int .i64 0, .int .i64 0, .string ⟨#[]⟩, .slice none 0 0], .bool false]) (by simp [results, Try.results103, go_sem, r0, r1, r2, r3]) rfl ?_;rw [HF.out];exact ⟨_, _, _, _, rfl, rep_zero, stored4 B7.out w.heap.size (Nat.le_refl _) _ _ _ _⟩
 | true =>
  have HF : Hid (callV k args = some r) := by show _ = _; rw [HCV.out, hr]; rfl
  clear hr;go_wp2_with fail
  refine (fresh_any r w5.heap.size w7 _ _ _ _ hs7 HR7.out).mono ?_;rintro e w8 ⟨c0, c1, c2, c3, rfl, hr8, hb8⟩;have HR8 := Lib.hid hr8;obtain ⟨ha8, hc8, rfl, rfl, rfl, rfl⟩ := hr8.form;have B8 := Lib.hid (Below.step B7.out hb8);have X8 := HX7.out.on hb8;clear hr8 r0 r1 r2 r3 p0 p1 p2 p3 z0 z1 z2 z3;obtain ⟨r0, r1, r2, r3⟩ := X8.cells;have z0 := frozen_of_row w8 _ 0 _ _ X8;have z1 := frozen_of_row w8 _ 1 _ _ X8;have z2 := frozen_of_row w8 _ 2 _ _ X8;have z3 := frozen_of_row w8 _ 3 _ _ X8;have hs8 := B7.out.size;clear X8 hb8;go_wp2_with fail
  refine bodyPost_ret (v := .tuple #[.agg #[.int .i64 r.kind, .int .i64 r.num, .string r.text, .slice ha8 r.list.length hc8], .bool true]) (by simp [results, Try.results103, go_sem, r0, r1, r2, r3]) rfl ?_;rw [HF.out];refine ⟨_, _, _, _, rfl, HR8.out.on (fun b hb => ⟨by omega, by simp [World.setCell]; exact hb.2⟩) (fun b hb => ?_), stored4 B8.out w.heap.size (Nat.le_refl _) _ _ _ _⟩;have h1 : b ≠ w.heap.size := by omega
  rw [Below.heap_setCell _ _ _ _ (by simpa using h1), Below.heap_setCell _ _ _ _ (by simpa using h1), Below.heap_setCell _ _ _ _ (by simpa using h1), Below.heap_setCell _ _ _ _ (by simpa using h1)]
theorem call_any (s : ByteArray) (args : List V) (B : Nat) (w : World) (a : Value) (hB : B ≤ w.heap.size) (ha : RepL B w args a) :
  Calls Try.prog 103 #[.string s, a] w (CallPost (callV (fnOf s) args) w) := by
 cases ht : takesB (fnOf s) args with
 | true => exact call_does s args B w a hB ha ht
 | false =>
  have e : callV (fnOf s) args = none := by unfold callV; rw [if_neg (by rw [ht]; simp)]
  rw [e];exact call_not s args B w a hB ha ht
end Go.Proofs.Ytbkligcfllakeaa
