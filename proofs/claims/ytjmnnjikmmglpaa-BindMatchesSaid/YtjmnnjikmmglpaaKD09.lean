/-
  Call, Ops, Op
-/
import Derived.Test.YtjmnnjikmmglpaaKD08
namespace Go.Proofs.Ytjmnnjikmmglpaa
open Go.RowKit
def takesB (k : Nat) : List V → Bool
 | [x] => (fnArity k == 1) && argB (fnList k 0) x
 | [x, y] => (fnArity k == 2) && (argB (fnList k 0) x && argB (fnList k 1) y)
 | _ => false
theorem takes_any (k : Nat) (args : List V) (B : Nat) (w : World) (a : Value) (hB : B ≤ w.heap.size) (ha : RepL B w args a) :
  Calls Try.prog 75 #[.agg #[.int .i64 (fnArity k), .bool (fnList k 0), .bool (fnList k 1), fnDo k], a] w fun e w' => e = .returned (.bool (takesB k args)) ∧ Below w.heap.size w w' := by
 have har := fnArity_range k
 match args, ha with
 | [], ha =>
  obtain ⟨aa, ab, ao, ac, rfl, -⟩ := ha;exact takes_not (fnArity k) _ _ k w aa _ ac (by simp; omega)
 | [x], ha =>
  by_cases h : fnArity k = 1
  ·rw [h, takesB, h]
   exact (takes_one _ _ k x B w a hB ha).mono fun e w' ⟨he, hb⟩ => ⟨by rw [he]; rfl, hb⟩
  ·obtain ⟨aa, ab, ao, ac, rfl, -⟩ := ha
   have e : (fnArity k == 1) = false := beq_eq_false_iff_ne.2 h;rw [takesB, e];exact takes_not (fnArity k) _ _ k w aa _ ac (by simp; omega)
 | [x, y], ha =>
  by_cases h : fnArity k = 2
  ·rw [h, takesB, h]
   exact (takes_two _ _ k x y B w a hB ha).mono fun e w' ⟨he, hb⟩ => ⟨by rw [he]; rfl, hb⟩
  ·obtain ⟨aa, ab, ao, ac, rfl, -⟩ := ha
   have e : (fnArity k == 2) = false := beq_eq_false_iff_ne.2 h;rw [takesB, e];exact takes_not (fnArity k) _ _ k w aa _ ac (by simp; omega)
 | x :: y :: z :: t, ha =>
  obtain ⟨aa, ab, ao, ac, rfl, -⟩ := ha;exact takes_not (fnArity k) _ _ k w aa _ ac (by simp; omega)
def doV : Nat → List V → V
 | 0, [x, y] => listV ([x] ++ y.list)
 | 1, [x, y] => listV (x.list ++ [y])
 | 2, [x, y] => listV (x.list ++ y.list)
 | 3, [x, y] => numV (memZ x.list y)
 | 4, [x] => numV x.list.length
 | 5, [x] => firstV x
 | 6, [x] => lastV x
 | 7, [x] => restV x
 | 8, [x] => listV x.list.reverse
 | _, _ => zeroV
def callV (k : Nat) (args : List V) : Option V := if takesB k args = true ∧ rightV 4 (doV k args) = true then some (doV k args) else none
theorem right_short {d : Nat} {x : V} (h : rightV d x = true) : x.list.length ≤ 16 := by
 cases x with
 | mk k n s l =>
  rw [rightV_mk] at h;rcases baseB_cases h with ⟨_, _, rfl, _⟩ | ⟨_, _, rfl, _⟩ | ⟨_, _, rfl, _⟩ | ⟨_, _, _, h2⟩
  ·show ([] : List V).length ≤ 16; simp
  ·show ([] : List V).length ≤ 16; simp
  ·show ([] : List V).length ≤ 16; simp
  ·show l.length ≤ 16
   cases d with
   | zero => cases h2
   | succ d => simp only [rightL, Bool.and_eq_true, decide_eq_true_eq] at h2; exact h2.1
theorem arg_right {l : Bool} {x : V} (h : argB l x = true) : rightV 4 x = true := by
 rw [argB, Bool.and_eq_true] at h; exact h.1
def fnId : Nat → Nat
 | 0 => 80
 | 1 => 81
 | 2 => 82
 | 3 => 83
 | 4 => 84
 | 5 => 85
 | 6 => 86
 | 7 => 87
 | _ => 88
theorem fnDo_id {k : Nat} (h : k < 9) : fnDo k = .func (.func (fnId k)) #[] #[] := by
 match k, h with
 | 0, _ => rfl | 1, _ => rfl | 2, _ => rfl | 3, _ => rfl | 4, _ => rfl | 5, _ => rfl | 6, _ => rfl | 7, _ => rfl | 8, _ => rfl
theorem enters_0 (args : Array Value) (w : World) : Sem.run Try.prog (callFunc 80 args) w = .ok (.enter 80 args) w := by
 kernel_rfl
theorem enters_1 (args : Array Value) (w : World) : Sem.run Try.prog (callFunc 81 args) w = .ok (.enter 81 args) w := by
 kernel_rfl
theorem enters_2 (args : Array Value) (w : World) : Sem.run Try.prog (callFunc 82 args) w = .ok (.enter 82 args) w := by
 kernel_rfl
theorem enters_3 (args : Array Value) (w : World) : Sem.run Try.prog (callFunc 83 args) w = .ok (.enter 83 args) w := by
 kernel_rfl
theorem enters_4 (args : Array Value) (w : World) : Sem.run Try.prog (callFunc 84 args) w = .ok (.enter 84 args) w := by
 kernel_rfl
theorem enters_5 (args : Array Value) (w : World) : Sem.run Try.prog (callFunc 85 args) w = .ok (.enter 85 args) w := by
 kernel_rfl
theorem enters_6 (args : Array Value) (w : World) : Sem.run Try.prog (callFunc 86 args) w = .ok (.enter 86 args) w := by
 kernel_rfl
theorem enters_7 (args : Array Value) (w : World) : Sem.run Try.prog (callFunc 87 args) w = .ok (.enter 87 args) w := by
 kernel_rfl
theorem enters_8 (args : Array Value) (w : World) : Sem.run Try.prog (callFunc 88 args) w = .ok (.enter 88 args) w := by
 kernel_rfl
theorem fn_enters {k : Nat} (h : k < 9) (args : Array Value) (w : World) : Sem.run Try.prog (callFunc (fnId k) args) w = .ok (.enter (fnId k) args) w := by
 match k, h with
 | 0, _ => exact enters_0 args w
 | 1, _ => exact enters_1 args w
 | 2, _ => exact enters_2 args w
 | 3, _ => exact enters_3 args w
 | 4, _ => exact enters_4 args w
 | 5, _ => exact enters_5 args w
 | 6, _ => exact enters_6 args w
 | 7, _ => exact enters_7 args w
 | 8, _ => exact enters_8 args w
theorem takes_lt {k : Nat} {args : List V} (h : takesB k args = true) : k < 9 := by
 by_cases hk : k < 9
 ·exact hk
 ·have e : fnArity k = -1 := by
   unfold fnArity
   split <;> first | omega | rfl
  match args, h with
  | [x], h => rw [takesB, e] at h; cases h
  | [x, y], h => rw [takesB, e] at h; cases h
theorem takes_args {k : Nat} {args : List V} (h : takesB k args = true) : (∃ x, args = [x] ∧ fnArity k = 1 ∧ rightV 4 x = true) ∨ (∃ x y, args = [x, y] ∧ fnArity k = 2 ∧ rightV 4 x = true ∧ rightV 4 y = true) := by
 match args, h with
 | [x], h =>
  rw [takesB, Bool.and_eq_true, beq_iff_eq] at h;exact .inl ⟨x, rfl, h.1, arg_right h.2⟩
 | [x, y], h =>
  rw [takesB, Bool.and_eq_true, Bool.and_eq_true, beq_iff_eq] at h;exact .inr ⟨x, y, rfl, h.1, arg_right h.2.1, arg_right h.2.2⟩
theorem do_any {k : Nat} {args : List V} (h : takesB k args = true) (B : Nat) (w : World) (a : Value) (hB : B ≤ w.heap.size) (ha : RepL B w args a) :
  Calls Try.prog (fnId k) #[a] w (DoPost (doV k args) w) := by
 have hk := takes_lt h;rcases takes_args h with ⟨x, rfl, har, hx⟩ | ⟨x, y, rfl, har, hx, hy⟩
 ·have hl := right_short hx
  match k, hk, har with
  | 0, _, har => exact absurd har (by decide)
  | 1, _, har => exact absurd har (by decide)
  | 2, _, har => exact absurd har (by decide)
  | 3, _, har => exact absurd har (by decide)
  | 4, _, _ => exact size_any x B w a hB ha
  | 5, _, _ => exact first_any x B w a hB ha
  | 6, _, _ => exact last_any x B w a hB ha
  | 7, _, _ => exact rest_any x B w a hB ha
  | 8, _, _ => exact turned_any x B w a hB ha (by omega)
 ·have hl := right_short hx
  have hm := right_short hy
  match k, hk, har with
  | 0, _, _ => exact cons_any x y B w a hB ha (by omega) (by omega)
  | 1, _, _ => exact appended_any x y B w a hB ha (by omega) (by omega)
  | 2, _, _ => exact joined_any x y B w a hB ha (by omega) (by omega)
  | 3, _, _ => exact member_any x y B w a hB ha
  | 4, _, har => exact absurd har (by decide)
  | 5, _, har => exact absurd har (by decide)
  | 6, _, har => exact absurd har (by decide)
  | 7, _, har => exact absurd har (by decide)
  | 8, _, har => exact absurd har (by decide)
theorem one_slice {S : Nat → Prop} {w : World} {x : V} {c0 c1 c2 c3 : Value} (hx : RepG S w x c0 c1 c2 c3) (hS : ∀ k, S k → k < w.heap.size) :
  RepL (w.heap.size + 1) (w.alloc (.cells #[c0, c1, c2, c3] 28)) [x] (.slice (some ⟨w.heap.size, 0, none⟩) 1 1) := by
 have hr : RepRow (fun b => b < w.heap.size + 1) (w.alloc (.cells #[c0, c1, c2, c3] 28)) [x] #[c0, c1, c2, c3] := by
  intro i hi;obtain rfl : i = 0 := by simpa using hi
  exact ⟨c0, c1, c2, c3, rfl, rfl, rfl, rfl, hx.on (fun b hb => by have := hS b hb; omega) (fun b hb => Below.heap_alloc _ _ _ (hS b hb))⟩
 exact hr.slice (alloc_new' _ _) (Nat.lt_succ_self _) (Nat.le_refl _) (by simp)
theorem field_list (a b c d : Value) (w : World) : Sem.run Try.prog (Instr.field 28 (.agg #[a, b, c, d]) 3) w = .ok d w := by
 kernel_rfl
def NewPost (x : V) (w : World) (e : Ending) (w' : World) : Prop := ∃ c0 c1 c2 c3, e = .returned (.agg #[c0, c1, c2, c3]) ∧ RepG (fun b => w.heap.size < b ∧ b < w'.heap.size) w' x c0 c1 c2 c3 ∧ Below w.heap.size w w'
set_option maxRecDepth 100000 in
set_option maxHeartbeats 1000000 in
theorem fresh_any (x : V) (B : Nat) (w : World) (c0 c1 c2 c3 : Value) (hB : B ≤ w.heap.size) (hx : RepV B w x c0 c1 c2 c3) :
  Calls Try.prog 77 #[.agg #[c0, c1, c2, c3]] w (NewPost x w) := by
 have HX := Lib.hid hx;obtain ⟨fa, fc, rfl, rfl, rfl, rfl⟩ := hx.form;clear hx;go_enter Try.func77, Try.ntmps77
 go_wp2_with fail
 have b1 := (Below.refl _ w).alloc (Nat.le_refl _) (.cells #[.int .i64 x.kind, .int .i64 x.num, .string x.text, .slice fa x.list.length fc] 28);have s1 := World.size_alloc w (.cells #[.int .i64 x.kind, .int .i64 x.num, .string x.text, .slice fa x.list.length fc] 28);generalize w.alloc (.cells #[.int .i64 x.kind, .int .i64 x.num, .string x.text, .slice fa x.list.length fc] 28) = w1 at *;have b2 := (Below.refl _ w1).alloc (Nat.le_refl _) (.cells #[.int .i64 0, .int .i64 0, .string ⟨#[]⟩, .slice none 0 0] 28);have x2 := boxed_new w1 (.int .i64 0) (.int .i64 0) (.string ⟨#[]⟩) (.slice none 0 0);have s2 := World.size_alloc w1 (.cells #[.int .i64 0, .int .i64 0, .string ⟨#[]⟩, .slice none 0 0] 28);rw [s1] at x2 s2;generalize w1.alloc (.cells #[.int .i64 0, .int .i64 0, .string ⟨#[]⟩, .slice none 0 0] 28) = w2 at *;have B2 := Below.step b1 b2;have b3 := (Below.refl _ w2).alloc (Nat.le_refl _) (.cells #[.int .i64 x.kind, .int .i64 x.num, .string x.text, .slice fa x.list.length fc] 28);have r3 := one_slice (S := fun b => b < B) (RepV.below (w' := w2) (fun j hj => B2.block j (by omega)) x HX.out) (fun k hk => by omega);rw [s2] at r3;have s3 := World.size_alloc w2 (.cells #[.int .i64 x.kind, .int .i64 x.num, .string x.text, .slice fa x.list.length fc] 28);generalize w2.alloc (.cells #[.int .i64 x.kind, .int .i64 x.num, .string x.text, .slice fa x.list.length fc] 28) = w3 at *;have X3 := Lib.hid (x2.on b3);have B3 := Lib.hid (Below.step B2 b3);have HS3 := Lib.hid (s3.trans (by rw [s2]));clear b1 b2 b3 x2 B2;refine (list_any [x] (w.heap.size + 1 + 1 + 1) _ _ (by omega) r3).mono ?_;rintro e w4 ⟨r, rfl, hr, hb4⟩;obtain ⟨ra, rb, ro, rc, rfl, hrc, -⟩ := id hr;obtain ⟨-, -, b, o, ga, gc, rfl, hSb, g0, g1, g2, g3, g⟩ := RepLG.at hr 0 (by simp);simp only [List.getElem_cons_zero, Nat.zero_mul, Nat.add_zero, List.length_cons, List.length_nil, Nat.zero_add] at g0 g1 g2 g3 g hrc
 have X4 := X3.out.on hb4;have B4 := Lib.hid (Below.step B3.out hb4);have HG := Lib.hid g;obtain ⟨r0, r1, r2, r3'⟩ := X4.cells;have z0 := frozen_of_row w4 _ 0 _ _ X4;have z1 := frozen_of_row w4 _ 1 _ _ X4;have z2 := frozen_of_row w4 _ 2 _ _ X4;have z3 := frozen_of_row w4 _ 3 _ _ X4;have hs4 := hb4.size;clear X4 hr g r3 s1 s2 s3 hb4 X3;have hf := field_list;go_wp2_with fail
 refine bodyPost_ret (v := .agg #[.int .i64 x.kind, .int .i64 x.num, .string x.text, .slice ga x.list.length gc]) (by simp [results, Try.results77, go_sem, r0, r1, r2, r3']) rfl ?_;refine ⟨_, _, _, _, rfl, HG.out.on (fun b hb => ⟨by have := HS3.out; omega, by simp [World.setCell]; exact hb.2⟩) (fun b hb => ?_), stored4 B4.out (w.heap.size + 1) (by omega) _ _ _ _⟩;have h1 : b ≠ w.heap.size + 1 := by have := HS3.out; omega
 rw [Below.heap_setCell _ _ _ _ (by simpa using h1), Below.heap_setCell _ _ _ _ (by simpa using h1), Below.heap_setCell _ _ _ _ (by simpa using h1), Below.heap_setCell _ _ _ _ (by simpa using h1)]
def CallPost (r : Option V) (w : World) (e : Ending) (w' : World) : Prop := ∃ c0 c1 c2 c3, e = .returned (.tuple #[.agg #[c0, c1, c2, c3], .bool r.isSome]) ∧ RepG (fun b => w.heap.size < b ∧ b < w'.heap.size) w' (r.getD zeroV) c0 c1 c2 c3 ∧ Below w.heap.size w w'
set_option maxRecDepth 100000 in
set_option maxHeartbeats 2000000 in
theorem call_not (s : ByteArray) (args : List V) (B : Nat) (w : World) (a : Value) (hB : B ≤ w.heap.size) (ha : RepL B w args a) (ht : takesB (fnOf s) args = false) :
  Calls Try.prog 71 #[.string s, a] w (CallPost none w) := by
 have HA := Lib.hid ha;obtain ⟨aa, ab, ao, ac, rfl, -⟩ := ha;have HT := Lib.hid ht;clear ht;go_enter Try.func71, Try.ntmps71
 go_wp2_with fail
 have b1 := (Below.refl _ w).alloc (Nat.le_refl _) (.cells #[.int .i64 0, .int .i64 0, .string ⟨#[]⟩, .slice none 0 0] 28);have x1 := boxed_new w (.int .i64 0) (.int .i64 0) (.string ⟨#[]⟩) (.slice none 0 0);have s1 := World.size_alloc w (.cells #[.int .i64 0, .int .i64 0, .string ⟨#[]⟩, .slice none 0 0] 28);generalize w.alloc (.cells #[.int .i64 0, .int .i64 0, .string ⟨#[]⟩, .slice none 0 0] 28) = w1 at *;refine (find_any s _).mono ?_;rintro e w2 ⟨rfl, b2⟩;have HTK := Lib.hid (takes_any (fnOf s) args B);obtain ⟨d, hd⟩ : ∃ d, d = fnDo (fnOf s) := ⟨_, rfl⟩
 have hform : (∃ id, d = .func (.func id) #[] #[]) ∨ d = .nilFunc := by
  rw [hd]
  by_cases h : fnOf s < 9
  ·exact .inl ⟨_, fnDo_id h⟩
  ·refine .inr ?_
   unfold fnDo
   split <;> first | omega | rfl
 rw [← hd] at HTK ⊢;have HS1 := Lib.hid s1;have B2 := Below.step b1 b2;have X2 := x1.on b2;clear b1 b2 x1 hd;rcases hform with ⟨id, rfl⟩ | rfl
 all_goals
  go_wp2_with fail
  have b3 : ∀ o, Below w2.heap.size w2 (w2.alloc o) := fun o => (Below.refl _ w2).alloc (Nat.le_refl _) o
  refine (HTK.out _ _ (by have := HS1.out; have := B2.size; simp; omega) (RepL.below (fun j hj => (Below.step B2 (b3 _)).block j (by omega)) HA.out)).mono ?_;rintro e w4 ⟨rfl, hb4⟩;rw [HT.out];have B4 := Lib.hid (Below.step (Below.step B2 (b3 _)) hb4);have X4 := (X2.on (b3 _)).on hb4;obtain ⟨r0, r1, r2, r3⟩ := X4.cells;have z0 := frozen_of_row w4 _ 0 _ _ X4;have z1 := frozen_of_row w4 _ 1 _ _ X4;have z2 := frozen_of_row w4 _ 2 _ _ X4;have z3 := frozen_of_row w4 _ 3 _ _ X4;clear X4 hb4 b3 B2 X2;go_wp2_with fail
  refine bodyPost_ret (v := .tuple #[.agg #[.int .i64 0, .int .i64 0, .string ⟨#[]⟩, .slice none 0 0], .bool false]) (by simp [results, Try.results71, go_sem, r0, r1, r2, r3]) rfl ?_;exact ⟨_, _, _, _, rfl, rep_zero, stored4 B4.out w.heap.size (Nat.le_refl _) _ _ _ _⟩
set_option maxRecDepth 100000 in
set_option maxHeartbeats 2000000 in
theorem call_does (s : ByteArray) (args : List V) (B : Nat) (w : World) (a : Value) (hB : B ≤ w.heap.size) (ha : RepL B w args a) (ht : takesB (fnOf s) args = true) :
  Calls Try.prog 71 #[.string s, a] w (CallPost (callV (fnOf s) args) w) := by
 have HA := Lib.hid ha;obtain ⟨aa, ab, ao, ac, rfl, -⟩ := ha;have HT := Lib.hid ht;have HD := Lib.hid (do_any ht B);have hdo := fnDo_id (takes_lt ht);have HCF := Lib.hid (fn_enters (takes_lt ht))
 have HCV : Hid (callV (fnOf s) args = if rightV 4 (doV (fnOf s) args) = true then some (doV (fnOf s) args) else none) := by
  show _ = _
  unfold callV;rw [ht];simp
 clear ht;have HDO := Lib.hid hdo; clear hdo
 go_enter Try.func71, Try.ntmps71
 go_wp2_with fail
 have b1 := (Below.refl _ w).alloc (Nat.le_refl _) (.cells #[.int .i64 0, .int .i64 0, .string ⟨#[]⟩, .slice none 0 0] 28);have x1 := boxed_new w (.int .i64 0) (.int .i64 0) (.string ⟨#[]⟩) (.slice none 0 0);have s1 := World.size_alloc w (.cells #[.int .i64 0, .int .i64 0, .string ⟨#[]⟩, .slice none 0 0] 28);generalize w.alloc (.cells #[.int .i64 0, .int .i64 0, .string ⟨#[]⟩, .slice none 0 0] 28) = w1 at *;refine (find_any s _).mono ?_;rintro e w2 ⟨rfl, b2⟩;have HTK := Lib.hid (takes_any (fnOf s) args B);rw [HDO.out] at HTK ⊢;have HS1 := Lib.hid s1;have B2 := Below.step b1 b2;have X2 := x1.on b2;clear b1 b2 x1 HDO;generalize doV (fnOf s) args = r at *;generalize fnOf s = k at *;generalize hid : fnId k = id at *;clear hid;go_wp2_with fail
 have b3 := (Below.refl _ w2).alloc (Nat.le_refl _) (.cells #[.int .i64 (fnArity k), .bool (fnList k 0), .bool (fnList k 1), .func (.func id) #[] #[]] 95);have F3 := alloc_new' w2 (.cells #[.int .i64 (fnArity k), .bool (fnList k 0), .bool (fnList k 1), .func (.func id) #[] #[]] 95);have s3 := World.size_alloc w2 (.cells #[.int .i64 (fnArity k), .bool (fnList k 0), .bool (fnList k 1), .func (.func id) #[] #[]] 95);generalize w2.alloc (.cells #[.int .i64 (fnArity k), .bool (fnList k 0), .bool (fnList k 1), .func (.func id) #[] #[]] 95) = w3 at *;have B3 := Below.step B2 b3;have hsz3 := B3.size;refine (HTK.out _ _ (by omega) (RepL.below (fun j hj => B3.block j (by omega)) HA.out)).mono ?_;rintro e w4 ⟨rfl, hb4⟩;rw [HT.out];have B4 := Lib.hid (Below.step B3 hb4);have X4 := Lib.hid ((X2.on b3).on hb4);have F4 := (hb4.block w2.heap.size (by omega)).trans F3;have f3 := cell_of_block' (i := 3) F4 _ rfl;clear hb4 b3 B2 X2 F3 F4 s3 B3 hsz3 s1;have hcf := HCF.out;go_wp2_with fail
 have hsz4 := B4.out.size;refine (HD.out _ _ (by omega) (RepL.below (fun j hj => B4.out.block j (by omega)) HA.out)).mono ?_;rintro e w5 ⟨c0, c1, c2, c3, rfl, hr5, hb5⟩;have HR5 := Lib.hid hr5;obtain ⟨ga, gc, rfl, rfl, rfl, rfl⟩ := hr5.form;have B5 := Lib.hid (Below.step B4.out hb5);have X5 := Lib.hid (X4.out.on hb5);clear hr5 hb5 X4 B4 f3 hcf HCF HD hsz4;go_wp2_with fail
 have Z6 := boxed_new w5 (.int .i64 r.kind) (.int .i64 r.num) (.string r.text) (.slice ga r.list.length gc);have b6 := (Below.refl _ w5).alloc (Nat.le_refl _) (.cells #[.int .i64 r.kind, .int .i64 r.num, .string r.text, .slice ga r.list.length gc] 28);generalize w5.alloc (.cells #[.int .i64 r.kind, .int .i64 r.num, .string r.text, .slice ga r.list.length gc] 28) = w6 at *;have HR6 := Lib.hid (RepV.below (fun j hj => b6.block j hj) r HR5.out);refine (right_any r w5.heap.size w6 _ _ _ _ b6.size HR6.out).mono ?_;rintro e w7 ⟨rfl, hb7⟩;have B7 := Lib.hid (Below.step B5.out (Below.step b6 hb7));have X7 := X5.out.on (Below.step b6 hb7);have Z7 := Z6.on hb7;have HR7 := Lib.hid (RepV.below (fun j hj => hb7.block j (Nat.lt_of_lt_of_le hj b6.size)) r HR6.out);have hs7 := (Below.step b6 hb7).size;obtain ⟨r0, r1, r2, r3⟩ := X7.cells;obtain ⟨p0, p1, p2, p3⟩ := Z7.cells;have z0 := frozen_of_row w7 _ 0 _ _ X7;have z1 := frozen_of_row w7 _ 1 _ _ X7;have z2 := frozen_of_row w7 _ 2 _ _ X7;have z3 := frozen_of_row w7 _ 3 _ _ X7;have HX7 := Lib.hid X7;clear X7 Z7 Z6 hb7 b6 HR6 HR5 X5 B5
 cases hr : rightV 4 r with
 | false =>
  have HF : Hid (callV k args = none) := by show _ = _; rw [HCV.out, hr]; rfl
  clear hr;go_wp2_with fail
  refine bodyPost_ret (v := .tuple #[.agg #[.int .i64 0, .int .i64 0, .string ⟨#[]⟩, .slice none 0 0], .bool false]) (by simp [results, Try.results71, go_sem, r0, r1, r2, r3]) rfl ?_;rw [HF.out];exact ⟨_, _, _, _, rfl, rep_zero, stored4 B7.out w.heap.size (Nat.le_refl _) _ _ _ _⟩
 | true =>
  have HF : Hid (callV k args = some r) := by show _ = _; rw [HCV.out, hr]; rfl
  clear hr;go_wp2_with fail
  refine (fresh_any r w5.heap.size w7 _ _ _ _ hs7 HR7.out).mono ?_;rintro e w8 ⟨c0, c1, c2, c3, rfl, hr8, hb8⟩;have HR8 := Lib.hid hr8;obtain ⟨ha8, hc8, rfl, rfl, rfl, rfl⟩ := hr8.form;have B8 := Lib.hid (Below.step B7.out hb8);have X8 := HX7.out.on hb8;clear hr8 r0 r1 r2 r3 p0 p1 p2 p3 z0 z1 z2 z3;obtain ⟨r0, r1, r2, r3⟩ := X8.cells;have z0 := frozen_of_row w8 _ 0 _ _ X8;have z1 := frozen_of_row w8 _ 1 _ _ X8;have z2 := frozen_of_row w8 _ 2 _ _ X8;have z3 := frozen_of_row w8 _ 3 _ _ X8;have hs8 := B7.out.size;clear X8 hb8;go_wp2_with fail
  refine bodyPost_ret (v := .tuple #[.agg #[.int .i64 r.kind, .int .i64 r.num, .string r.text, .slice ha8 r.list.length hc8], .bool true]) (by simp [results, Try.results71, go_sem, r0, r1, r2, r3]) rfl ?_;rw [HF.out];refine ⟨_, _, _, _, rfl, HR8.out.on (fun b hb => ⟨by omega, by simp [World.setCell]; exact hb.2⟩) (fun b hb => ?_), stored4 B8.out w.heap.size (Nat.le_refl _) _ _ _ _⟩;have h1 : b ≠ w.heap.size := by omega
  rw [Below.heap_setCell _ _ _ _ (by simpa using h1), Below.heap_setCell _ _ _ _ (by simpa using h1), Below.heap_setCell _ _ _ _ (by simpa using h1), Below.heap_setCell _ _ _ _ (by simpa using h1)]
theorem call_any (s : ByteArray) (args : List V) (B : Nat) (w : World) (a : Value) (hB : B ≤ w.heap.size) (ha : RepL B w args a) :
  Calls Try.prog 71 #[.string s, a] w (CallPost (callV (fnOf s) args) w) := by
 cases ht : takesB (fnOf s) args with
 | true => exact call_does s args B w a hB ha ht
 | false =>
  have e : callV (fnOf s) args = none := by unfold callV; rw [if_neg (by rw [ht]; simp)]
  rw [e];exact call_not s args B w a hB ha ht
end Go.Proofs.Ytjmnnjikmmglpaa
namespace Go.Proofs.Ytjmnnjikmmglpaa
open Go.RowKit
def numB (x : V) : Bool := (x.kind == 1) && rightV 4 x
theorem num_bounds {x : V} (h : numB x = true) : -2147483647 ≤ x.num ∧ x.num ≤ 2147483647 := by
 rw [numB, Bool.and_eq_true, beq_iff_eq] at h
 cases x with
 | mk k n s l =>
  obtain ⟨h1, h2⟩ := h;rw [rightV_mk] at h2;obtain rfl : k = 1 := h1;rcases baseB_cases h2 with ⟨_, _, _, h3, h4⟩ | ⟨e, _⟩ | ⟨e, _⟩ | ⟨e, _⟩
  ·exact ⟨h3, h4⟩
  all_goals exact absurd e (by decide)
set_option maxRecDepth 100000 in
set_option maxHeartbeats 1000000 in
theorem isNumber_any (x : V) (B : Nat) (w : World) (c0 c1 c2 c3 : Value) (hB : B ≤ w.heap.size) (hx : RepV B w x c0 c1 c2 c3) :
  Calls Try.prog 78 #[.agg #[c0, c1, c2, c3]] w fun e w' => e = .returned (.bool (numB x)) ∧ Below w.heap.size w w' := by
 have HX := Lib.hid hx;obtain ⟨fa, fc, rfl, rfl, rfl, rfl⟩ := hx.form;clear hx;have b1 := (Below.refl _ w).alloc (Nat.le_refl _) (.cells #[.int .i64 x.kind, .int .i64 x.num, .string x.text, .slice fa x.list.length fc] 28);have HB1 := Lib.hid b1
 cases hk : (x.kind == 1) with
 | false =>
  have HK : Hid (numB x = false) := by show _ = _; rw [numB, hk]; rfl
  have hk2 : ¬ x.kind = 1 := by simpa using hk
  clear b1;go_enter Try.func78, Try.ntmps78
  go_wp2_with fail
  go_ret
  exact ⟨retBool HK.out.symm, HB1.out⟩
 | true =>
  have HK : Hid (numB x = rightV 4 x) := by show _ = _; rw [numB, hk]; rfl
  have hk1 : x.kind = 1 := by simpa using hk
  have HK1 := Lib.hid hk1;clear hk b1;rw [hk1] at HX HB1 ⊢;clear hk1;go_enter Try.func78, Try.ntmps78
  go_wp2_with fail
  refine (right_any x B _ _ _ _ _ (by simp; omega) (RepV.below (fun j hj => HB1.out.block j (by omega)) x HX.out)).mono ?_;rintro e w2 ⟨rfl, hb2⟩;go_wp2_with fail
  go_ret
  exact ⟨retBool HK.out.symm, Below.step HB1.out hb2⟩
def reckonZ (s : ByteArray) (n m : Int) : Option Int :=
 if (s.toList == [43]) = true then some (n + m) else if (s.toList == [45]) = true then some (n - m) else if (s.toList == [42]) = true then some (n * m) else none
theorem mul_bound {n m : Int} (hn : -2147483647 ≤ n ∧ n ≤ 2147483647) (hm : -2147483647 ≤ m ∧ m ≤ 2147483647) : -4611686014132420609 ≤ n * m ∧ n * m ≤ 4611686014132420609 := by
 have h1 : (n * m).natAbs ≤ 2147483647 * 2147483647 := by
  rw [Int.natAbs_mul];exact Nat.mul_le_mul (by omega) (by omega)
 omega
def ReckonPost (r : Option Int) (w : World) (e : Ending) (w' : World) : Prop := e = .returned (.tuple #[.int .i64 (r.getD 0), .bool r.isSome]) ∧ w = w'
set_option maxRecDepth 100000 in
set_option maxHeartbeats 1000000 in
theorem reckon_any (s : ByteArray) (n m : Int) (w : World) (hn : -2147483647 ≤ n ∧ n ≤ 2147483647) (hm : -2147483647 ≤ m ∧ m ≤ 2147483647) :
  Calls Try.prog 79 #[.string s, .int .i64 n, .int .i64 m] w (ReckonPost (reckonZ s n m) w) := by
 have hp := mul_bound hn hm;obtain ⟨hn1, hn2⟩ := hn;obtain ⟨hm1, hm2⟩ := hm;obtain ⟨hp1, hp2⟩ := hp;unfold reckonZ
 cases h0 : (s.toList == [43]) with
 | true =>
  rw [if_pos rfl];go_enter Try.func79, Try.ntmps79
  go_wp2_with fail
  go_ret2
  exact ⟨rfl, rfl⟩
 | false =>
 rw [if_neg (by decide)]
 cases h1 : (s.toList == [45]) with
 | true =>
  rw [if_pos rfl];go_enter Try.func79, Try.ntmps79
  go_wp2_with fail
  go_ret2
  exact ⟨rfl, rfl⟩
 | false =>
 rw [if_neg (by decide)]
 cases h2 : (s.toList == [42]) with
 | true =>
  rw [if_pos rfl];have HM : Hid (IntKind.i64.wrap (n * m) = n * m) := by show _ = _; rw [IntKind.wrap_i64]; omega
  go_enter Try.func79, Try.ntmps79
  go_wp2_with fail
  go_ret2
  first
   | exact ⟨rfl, rfl⟩
   | exact ⟨by show Ending.returned (.tuple #[.int .i64 (IntKind.i64.wrap (n * m)), .bool true]) = _; rw [HM.out]; rfl, rfl⟩
 | false =>
  rw [if_neg (by decide)];go_enter Try.func79, Try.ntmps79
  go_wp2_with fail
  go_ret2
  exact ⟨rfl, rfl⟩
end Go.Proofs.Ytjmnnjikmmglpaa
namespace Go.Proofs.Ytjmnnjikmmglpaa
open Go.RowKit
theorem empty_none : (⟨#[]⟩ : ByteArray).toList.isEmpty = true := by rw [isEmpty_size]; rfl
theorem right_num (n : Int) : rightV 4 (numV n) = (decide (-2147483647 ≤ n) && decide (n ≤ 2147483647)) := by
 rw [numV, rightV_mk, baseB, if_pos rfl, empty_none]; rfl
def opZ (s : ByteArray) (a b : V) : Option Int :=
 if numB a = true ∧ numB b = true then (match reckonZ s a.num b.num with | none => none | some n => if rightV 4 (numV n) = true then some n else none) else none
def opCells : Option Int → Value
 | none => .agg #[.int .i64 0, .int .i64 0, .string ⟨#[]⟩, .slice none 0 0]
 | some n => .agg #[.int .i64 1, .int .i64 n, .string ⟨#[]⟩, .slice none 0 0]
def OpPost (r : Option Int) (w : World) (e : Ending) (w' : World) : Prop := e = .returned (.tuple #[opCells r, .bool r.isSome]) ∧ Below w.heap.size w w'
set_option maxRecDepth 100000 in
set_option maxHeartbeats 4000000 in
theorem op_any (s : ByteArray) (x y : V) (B : Nat) (w : World) (c0 c1 c2 c3 d0 d1 d2 d3 : Value) (hB : B ≤ w.heap.size) (hx : RepV B w x c0 c1 c2 c3) (hy : RepV B w y d0 d1 d2 d3) :
  Calls Try.prog 72 #[.string s, .agg #[c0, c1, c2, c3], .agg #[d0, d1, d2, d3]] w (OpPost (opZ s x y) w) := by
 have HX := Lib.hid hx; have HY := Lib.hid hy
 obtain ⟨fa, fc, rfl, rfl, rfl, rfl⟩ := hx.form;obtain ⟨ga, gc, rfl, rfl, rfl, rfl⟩ := hy.form;clear hx hy;go_enter Try.func72, Try.ntmps72
 go_wp2_with fail
 have x1 := boxed_new w (.int .i64 x.kind) (.int .i64 x.num) (.string x.text) (.slice fa x.list.length fc);have b1 := (Below.refl _ w).alloc (Nat.le_refl _) (.cells #[.int .i64 x.kind, .int .i64 x.num, .string x.text, .slice fa x.list.length fc] 28);have s1 := World.size_alloc w (.cells #[.int .i64 x.kind, .int .i64 x.num, .string x.text, .slice fa x.list.length fc] 28);generalize w.alloc (.cells #[.int .i64 x.kind, .int .i64 x.num, .string x.text, .slice fa x.list.length fc] 28) = w1 at *;have y2 := boxed_new w1 (.int .i64 y.kind) (.int .i64 y.num) (.string y.text) (.slice ga y.list.length gc);have b2 := (Below.refl _ w1).alloc (Nat.le_refl _) (.cells #[.int .i64 y.kind, .int .i64 y.num, .string y.text, .slice ga y.list.length gc] 28);have s2 := World.size_alloc w1 (.cells #[.int .i64 y.kind, .int .i64 y.num, .string y.text, .slice ga y.list.length gc] 28);generalize w1.alloc (.cells #[.int .i64 y.kind, .int .i64 y.num, .string y.text, .slice ga y.list.length gc] 28) = w2 at *;have r3 := boxed_new w2 (.int .i64 0) (.int .i64 0) (.string ⟨#[]⟩) (.slice none 0 0);have b3 := (Below.refl _ w2).alloc (Nat.le_refl _) (.cells #[.int .i64 0, .int .i64 0, .string ⟨#[]⟩, .slice none 0 0] 28);generalize w2.alloc (.cells #[.int .i64 0, .int .i64 0, .string ⟨#[]⟩, .slice none 0 0] 28) = w3 at *;rw [s1] at y2;rw [s2, s1] at r3;have X3 := (x1.on b2).on b3;have Y3 := y2.on b3;have B3 := Below.step (Below.step b1 b2) b3;clear x1 b1 b2 b3 s1 s2 y2;have hs3 := B3.size;refine (isNumber_any x B _ _ _ _ _ (by omega) (RepV.below (fun j hj => B3.block j (by omega)) x HX.out)).mono ?_;rintro e w4 ⟨rfl, b4⟩;have X4 := X3.on b4; have Y4 := Y3.on b4; have R4 := Lib.hid (r3.on b4); have B4 := Lib.hid (Below.step B3 b4)
 clear X3 Y3 r3 B3 b4;have HX4 := Lib.hid X4; have HY4 := Lib.hid Y4
 obtain ⟨q0, q1, q2, q3⟩ := Y4.cells
 have fin : ∀ (w' : World), Below w.heap.size w w' → OpPost none w (.returned (.tuple #[.agg #[.int .i64 0, .int .i64 0, .string ⟨#[]⟩, .slice none 0 0], .bool false])) ((((w'.setCell ⟨w.heap.size + 1 + 1, 0, none⟩ (.int .i64 0)).setCell ⟨w.heap.size + 1 + 1, 1, none⟩ (.int .i64 0)).setCell ⟨w.heap.size + 1 + 1, 2, none⟩ (.string ⟨#[]⟩)).setCell ⟨w.heap.size + 1 + 1, 3, none⟩ (.slice none 0 0)) := fun w' hw =>
  ⟨rfl, stored4 hw (w.heap.size + 1 + 1) (by omega) _ _ _ _⟩
 have FIN := Lib.hid fin;clear X4 Y4 fin
 cases hnx : numB x with
 | false =>
  have HE : Hid (opZ s x y = none) := by show _ = _; rw [opZ, if_neg (by rw [hnx]; simp)]
  obtain ⟨r0, r1, r2, r3⟩ := R4.out.cells;have z0 := frozen_of_row w4 _ 0 _ _ R4.out;have z1 := frozen_of_row w4 _ 1 _ _ R4.out;have z2 := frozen_of_row w4 _ 2 _ _ R4.out;have z3 := frozen_of_row w4 _ 3 _ _ R4.out;clear hnx;go_wp2_with fail
  refine bodyPost_ret (v := .tuple #[.agg #[.int .i64 0, .int .i64 0, .string ⟨#[]⟩, .slice none 0 0], .bool false]) (by simp [results, Try.results72, go_sem, r0, r1, r2, r3]) rfl ?_;rw [HE.out];exact FIN.out _ B4.out
 | true =>
  have HNX := Lib.hid hnx;have hbx := num_bounds hnx;clear hnx;go_wp2_with fail
  have hs4 := B4.out.size;refine (isNumber_any y B _ _ _ _ _ (by omega) (RepV.below (fun j hj => B4.out.block j (by omega)) y HY.out)).mono ?_;rintro e w5 ⟨rfl, b5⟩;have X5 := HX4.out.on b5; have Y5 := HY4.out.on b5; have R5 := Lib.hid (R4.out.on b5); have B5 := Lib.hid (Below.step B4.out b5)
  clear HX4 HY4 R4 B4 b5 q0 q1 q2 q3
  cases hny : numB y with
  | false =>
   have HE : Hid (opZ s x y = none) := by show _ = _; rw [opZ, if_neg (by rw [hny]; simp)]
   obtain ⟨r0, r1, r2, r3⟩ := R5.out.cells;have z0 := frozen_of_row w5 _ 0 _ _ R5.out;have z1 := frozen_of_row w5 _ 1 _ _ R5.out;have z2 := frozen_of_row w5 _ 2 _ _ R5.out;have z3 := frozen_of_row w5 _ 3 _ _ R5.out;clear hny;go_wp2_with fail
   refine bodyPost_ret (v := .tuple #[.agg #[.int .i64 0, .int .i64 0, .string ⟨#[]⟩, .slice none 0 0], .bool false]) (by simp [results, Try.results72, go_sem, r0, r1, r2, r3]) rfl ?_;rw [HE.out];exact FIN.out _ B5.out
  | true =>
   have HNY := Lib.hid hny;have hby := num_bounds hny;clear hny;have p1 := X5.cells.2.1;have q1 := Y5.cells.2.1
   have HE : Hid (opZ s x y = match reckonZ s x.num y.num with | none => none | some n => if rightV 4 (numV n) = true then some n else none) := by
    show _ = _; rw [opZ, if_pos ⟨HNX.out, HNY.out⟩]
   go_wp2_with fail
   refine (reckon_any s x.num y.num _ hbx hby).mono ?_;rintro e w6 ⟨rfl, rfl⟩
   have hrb : ∀ n, reckonZ s x.num y.num = some n → I64 n := by
    intro n hn;have hp := mul_bound hbx hby;unfold reckonZ at hn
    split at hn
    ·cases hn; exact ⟨by omega, by omega⟩
    ·split at hn
     ·cases hn; exact ⟨by omega, by omega⟩
     ·split at hn
      ·cases hn; exact ⟨by omega, by omega⟩
      ·cases hn
   have HRB := Lib.hid hrb;clear hrb;generalize reckonZ s x.num y.num = rk at *;clear X5 Y5 p1 q1 hbx hby
   cases rk with
   | none =>
    have HE2 : Hid (opZ s x y = none) := HE.out;go_wp2_with fail
    refine (number_any _ _).mono ?_;rintro e w7 ⟨rfl, b7⟩;have R7 := R5.out.on b7;have B7 := Lib.hid (Below.step B5.out b7);have R8 := R7.on ((Below.refl _ w7).alloc (Nat.le_refl _) (.cells #[.int .i64 1, .int .i64 0, .string ⟨#[]⟩, .slice none 0 0] 28));obtain ⟨r0, r1, r2, r3⟩ := R8.cells;have z0 := frozen_of_row _ _ 0 _ _ R8;have z1 := frozen_of_row _ _ 1 _ _ R8;have z2 := frozen_of_row _ _ 2 _ _ R8;have z3 := frozen_of_row _ _ 3 _ _ R8;have B8 := Lib.hid (Below.step B7.out ((Below.refl _ w7).alloc (Nat.le_refl _) (.cells #[.int .i64 1, .int .i64 0, .string ⟨#[]⟩, .slice none 0 0] 28)));clear R7 R8 b7;go_wp2_with fail
    refine bodyPost_ret (v := .tuple #[.agg #[.int .i64 0, .int .i64 0, .string ⟨#[]⟩, .slice none 0 0], .bool false]) (by simp [results, Try.results72, go_sem, r0, r1, r2, r3]) rfl ?_;rw [HE2.out];exact FIN.out _ B8.out
   | some n =>
    have hin := HRB.out n rfl;have HI := Lib.hid hin;clear hin HRB;have HE2 : Hid (opZ s x y = if rightV 4 (numV n) = true then some n else none) := HE.out;clear HE;go_wp2_with fail
    refine (number_any _ _).mono ?_;rintro e w7 ⟨rfl, b7⟩;have R7 := R5.out.on b7;have B7 := Lib.hid (Below.step B5.out b7);clear b7 R5 B5;go_wp2_with fail
    have V8 := boxed_new w7 (.int .i64 1) (.int .i64 n) (.string ⟨#[]⟩) (.slice none 0 0);have b8 := (Below.refl _ w7).alloc (Nat.le_refl _) (.cells #[.int .i64 1, .int .i64 n, .string ⟨#[]⟩, .slice none 0 0] 28);generalize w7.alloc (.cells #[.int .i64 1, .int .i64 n, .string ⟨#[]⟩, .slice none 0 0] 28) = w8 at *;refine (right_any (numV n) 0 w8 _ _ _ _ (Nat.zero_le _) (rep_num HI.out)).mono ?_;rintro e w9 ⟨rfl, b9⟩;have V9 := V8.on b9;have R9 := (R7.on b8).on b9;have B9 := Lib.hid (Below.step B7.out (Below.step b8 b9));obtain ⟨r0, r1, r2, r3⟩ := R9.cells;obtain ⟨p0, p1, p2, p3⟩ := V9.cells;have z0 := frozen_of_row _ _ 0 _ _ R9;have z1 := frozen_of_row _ _ 1 _ _ R9;have z2 := frozen_of_row _ _ 2 _ _ R9;have z3 := frozen_of_row _ _ 3 _ _ R9;clear V8 V9 R7 R9 b8 b9 B7
    cases hr : rightV 4 (numV n) with
    | false =>
     have HE3 : Hid (opZ s x y = none) := by show _ = _; rw [HE2.out, hr]; rfl
     clear hr;go_wp2_with fail
     refine bodyPost_ret (v := .tuple #[.agg #[.int .i64 0, .int .i64 0, .string ⟨#[]⟩, .slice none 0 0], .bool false]) (by simp [results, Try.results72, go_sem, r0, r1, r2, r3]) rfl ?_;rw [HE3.out];exact FIN.out _ B9.out
    | true =>
     have HE3 : Hid (opZ s x y = some n) := by show _ = _; rw [HE2.out, hr]; rfl
     clear hr;go_wp2_with fail
     refine bodyPost_ret (v := .tuple #[.agg #[.int .i64 1, .int .i64 n, .string ⟨#[]⟩, .slice none 0 0], .bool true]) (by simp [results, Try.results72, go_sem, r0, r1, r2, r3]) rfl ?_;rw [HE3.out];exact ⟨rfl, stored4 B9.out (w.heap.size + 1 + 1) (by omega) _ _ _ _⟩
end Go.Proofs.Ytjmnnjikmmglpaa
