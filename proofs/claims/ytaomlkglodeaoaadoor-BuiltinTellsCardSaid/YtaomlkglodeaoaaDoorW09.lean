/-
  builtin.Op and builtin.Test of any values.
-/
import Derived.Test.YtaomlkglodeaoaaDoorW08
import Derived.Test.YtaomlkglodeaoaaDoorW02
import Derived.Test.YtaomlkglodeaoaaDoorW04
namespace Go.Proofs.YtaomlkglodeaoaaDoor
open Go.RowKit

def numB (x : V) : Bool := (x.kind == 1) && rightV 4 x
theorem num_bounds {x : V} (h : numB x = true) : -2147483647 ≤ x.num ∧ x.num ≤ 2147483647 := by
  rw [numB, Bool.and_eq_true, beq_iff_eq] at h
  cases x with
  | mk k n s l =>
    obtain ⟨h1, h2⟩ := h
    rw [rightV_mk] at h2
    obtain rfl : k = 1 := h1
    rcases baseB_cases h2 with ⟨_, _, _, h3, h4⟩ | ⟨e, _⟩ | ⟨e, _⟩ | ⟨e, _⟩
    · exact ⟨h3, h4⟩
    all_goals exact absurd e (by decide)

set_option maxRecDepth 100000 in
set_option maxHeartbeats 1000000 in
theorem isNumber_any (x : V) (B : Nat) (w : World) (c0 c1 c2 c3 : Value) (hB : B ≤ w.heap.size) (hx : RepV B w x c0 c1 c2 c3) :
    Calls Tryd.prog 29 #[.agg #[c0, c1, c2, c3]] w fun e w' => e = .returned (.bool (numB x)) ∧ Below w.heap.size w w' := by
  have HX := Lib.hid hx
  obtain ⟨fa, fc, rfl, rfl, rfl, rfl⟩ := hx.form
  clear hx
  have b1 := (Below.refl _ w).alloc (Nat.le_refl _) (.cells #[.int .i64 x.kind, .int .i64 x.num, .string x.text, .slice fa x.list.length fc] 24)
  have HB1 := Lib.hid b1
  cases hk : (x.kind == 1) with
  | false =>
    have HK : Hid (numB x = false) := by show _ = _; rw [numB, hk]; rfl
    have hk2 : ¬ x.kind = 1 := by simpa using hk
    clear b1
    go_enter Tryd.func29, Tryd.ntmps29
    go_wp2_with fail
    go_ret
    exact ⟨retBool HK.out.symm, HB1.out⟩
  | true =>
    have HK : Hid (numB x = rightV 4 x) := by show _ = _; rw [numB, hk]; rfl
    have hk1 : x.kind = 1 := by simpa using hk
    have HK1 := Lib.hid hk1
    clear hk b1
    rw [hk1] at HX HB1 ⊢
    clear hk1
    go_enter Tryd.func29, Tryd.ntmps29
    go_wp2_with fail
    refine (right_any x B _ _ _ _ _ (by simp; omega) (RepV.below (fun j hj => HB1.out.block j (by omega)) x HX.out)).mono ?_
    rintro e w2 ⟨rfl, hb2⟩
    go_wp2_with fail
    go_ret
    exact ⟨retBool HK.out.symm, Below.step HB1.out hb2⟩

def reckonZ (s : ByteArray) (n m : Int) : Option Int :=
  if (s.toList == [43]) = true then some (n + m) else if (s.toList == [45]) = true then some (n - m) else if (s.toList == [42]) = true then some (n * m) else none
theorem mul_bound {n m : Int} (hn : -2147483647 ≤ n ∧ n ≤ 2147483647) (hm : -2147483647 ≤ m ∧ m ≤ 2147483647) : -4611686014132420609 ≤ n * m ∧ n * m ≤ 4611686014132420609 := by
  have h1 : (n * m).natAbs ≤ 2147483647 * 2147483647 := by
    rw [Int.natAbs_mul]
    exact Nat.mul_le_mul (by omega) (by omega)
  omega
def ReckonPost (r : Option Int) (w : World) (e : Ending) (w' : World) : Prop := e = .returned (.tuple #[.int .i64 (r.getD 0), .bool r.isSome]) ∧ w = w'
set_option maxRecDepth 100000 in
set_option maxHeartbeats 1000000 in
theorem reckon_any (s : ByteArray) (n m : Int) (w : World) (hn : -2147483647 ≤ n ∧ n ≤ 2147483647) (hm : -2147483647 ≤ m ∧ m ≤ 2147483647) :
    Calls Tryd.prog 30 #[.string s, .int .i64 n, .int .i64 m] w (ReckonPost (reckonZ s n m) w) := by
  have hp := mul_bound hn hm
  obtain ⟨hn1, hn2⟩ := hn
  obtain ⟨hm1, hm2⟩ := hm
  obtain ⟨hp1, hp2⟩ := hp
  unfold reckonZ
  cases h0 : (s.toList == [43]) with
  | true =>
    rw [if_pos rfl]
    go_enter Tryd.func30, Tryd.ntmps30
    go_wp2_with fail
    go_ret2
    exact ⟨rfl, rfl⟩
  | false =>
  rw [if_neg (by decide)]
  cases h1 : (s.toList == [45]) with
  | true =>
    rw [if_pos rfl]
    go_enter Tryd.func30, Tryd.ntmps30
    go_wp2_with fail
    go_ret2
    exact ⟨rfl, rfl⟩
  | false =>
  rw [if_neg (by decide)]
  cases h2 : (s.toList == [42]) with
  | true =>
    rw [if_pos rfl]
    have HM : Hid (IntKind.i64.wrap (n * m) = n * m) := by show _ = _; rw [IntKind.wrap_i64]; omega
    go_enter Tryd.func30, Tryd.ntmps30
    go_wp2_with fail
    go_ret2
    first
      | exact ⟨rfl, rfl⟩
      | exact ⟨by show Ending.returned (.tuple #[.int .i64 (IntKind.i64.wrap (n * m)), .bool true]) = _; rw [HM.out]; rfl, rfl⟩
  | false =>
    rw [if_neg (by decide)]
    go_enter Tryd.func30, Tryd.ntmps30
    go_wp2_with fail
    go_ret2
    exact ⟨rfl, rfl⟩

end Go.Proofs.YtaomlkglodeaoaaDoor

/-
  builtin.Op of any op and values.
-/
namespace Go.Proofs.YtaomlkglodeaoaaDoor
open Go.RowKit

theorem empty_none : (⟨#[]⟩ : ByteArray).toList.isEmpty = true := by rw [isEmpty_size]; rfl
theorem right_num (n : Int) : rightV 4 (numV n) = (decide (-2147483647 ≤ n) && decide (n ≤ 2147483647)) := by
  rw [numV, rightV_mk, baseB, if_pos rfl, empty_none]; rfl
def opZ (s : ByteArray) (a b : V) : Option Int :=
  if numB a = true ∧ numB b = true then (match reckonZ s a.num b.num with | none => none | some n => if rightV 4 (numV n) = true then some n else none) else none
def opCells : Option Int → Value
  | none => .agg #[.int .i64 0, .int .i64 0, .string ⟨#[]⟩, .slice none 0 0]
  | some n => .agg #[.int .i64 1, .int .i64 n, .string ⟨#[]⟩, .slice none 0 0]
def OpPost (r : Option Int) (w : World) (e : Ending) (w' : World) : Prop := e = .returned (.tuple #[opCells r, .bool r.isSome]) ∧ Below w.heap.size w w'

set_option maxRecDepth 100000 in
set_option maxHeartbeats 4000000 in
theorem op_any (s : ByteArray) (x y : V) (B : Nat) (w : World) (c0 c1 c2 c3 d0 d1 d2 d3 : Value) (hB : B ≤ w.heap.size) (hx : RepV B w x c0 c1 c2 c3) (hy : RepV B w y d0 d1 d2 d3) :
    Calls Tryd.prog 7 #[.string s, .agg #[c0, c1, c2, c3], .agg #[d0, d1, d2, d3]] w (OpPost (opZ s x y) w) := by
  have HX := Lib.hid hx; have HY := Lib.hid hy
  obtain ⟨fa, fc, rfl, rfl, rfl, rfl⟩ := hx.form
  obtain ⟨ga, gc, rfl, rfl, rfl, rfl⟩ := hy.form
  clear hx hy
  go_enter Tryd.func7, Tryd.ntmps7
  go_wp2_with fail
  have x1 := boxed_new w (.int .i64 x.kind) (.int .i64 x.num) (.string x.text) (.slice fa x.list.length fc)
  have b1 := (Below.refl _ w).alloc (Nat.le_refl _) (.cells #[.int .i64 x.kind, .int .i64 x.num, .string x.text, .slice fa x.list.length fc] 24)
  have s1 := World.size_alloc w (.cells #[.int .i64 x.kind, .int .i64 x.num, .string x.text, .slice fa x.list.length fc] 24)
  generalize w.alloc (.cells #[.int .i64 x.kind, .int .i64 x.num, .string x.text, .slice fa x.list.length fc] 24) = w1 at *
  have y2 := boxed_new w1 (.int .i64 y.kind) (.int .i64 y.num) (.string y.text) (.slice ga y.list.length gc)
  have b2 := (Below.refl _ w1).alloc (Nat.le_refl _) (.cells #[.int .i64 y.kind, .int .i64 y.num, .string y.text, .slice ga y.list.length gc] 24)
  have s2 := World.size_alloc w1 (.cells #[.int .i64 y.kind, .int .i64 y.num, .string y.text, .slice ga y.list.length gc] 24)
  generalize w1.alloc (.cells #[.int .i64 y.kind, .int .i64 y.num, .string y.text, .slice ga y.list.length gc] 24) = w2 at *
  have r3 := boxed_new w2 (.int .i64 0) (.int .i64 0) (.string ⟨#[]⟩) (.slice none 0 0)
  have b3 := (Below.refl _ w2).alloc (Nat.le_refl _) (.cells #[.int .i64 0, .int .i64 0, .string ⟨#[]⟩, .slice none 0 0] 24)
  generalize w2.alloc (.cells #[.int .i64 0, .int .i64 0, .string ⟨#[]⟩, .slice none 0 0] 24) = w3 at *
  rw [s1] at y2
  rw [s2, s1] at r3
  have X3 := (x1.on b2).on b3
  have Y3 := y2.on b3
  have B3 := Below.step (Below.step b1 b2) b3
  clear x1 b1 b2 b3 s1 s2 y2
  have hs3 := B3.size
  refine (isNumber_any x B _ _ _ _ _ (by omega) (RepV.below (fun j hj => B3.block j (by omega)) x HX.out)).mono ?_
  rintro e w4 ⟨rfl, b4⟩
  have X4 := X3.on b4; have Y4 := Y3.on b4; have R4 := Lib.hid (r3.on b4); have B4 := Lib.hid (Below.step B3 b4)
  clear X3 Y3 r3 B3 b4
  have HX4 := Lib.hid X4; have HY4 := Lib.hid Y4
  obtain ⟨q0, q1, q2, q3⟩ := Y4.cells
  have fin : ∀ (w' : World), Below w.heap.size w w' → OpPost none w (.returned (.tuple #[.agg #[.int .i64 0, .int .i64 0, .string ⟨#[]⟩, .slice none 0 0], .bool false])) ((((w'.setCell ⟨w.heap.size + 1 + 1, 0, none⟩ (.int .i64 0)).setCell ⟨w.heap.size + 1 + 1, 1, none⟩ (.int .i64 0)).setCell ⟨w.heap.size + 1 + 1, 2, none⟩ (.string ⟨#[]⟩)).setCell ⟨w.heap.size + 1 + 1, 3, none⟩ (.slice none 0 0)) := fun w' hw =>
    ⟨rfl, stored4 hw (w.heap.size + 1 + 1) (by omega) _ _ _ _⟩
  have FIN := Lib.hid fin
  clear X4 Y4 fin
  cases hnx : numB x with
  | false =>
    have HE : Hid (opZ s x y = none) := by show _ = _; rw [opZ, if_neg (by rw [hnx]; simp)]
    obtain ⟨r0, r1, r2, r3⟩ := R4.out.cells
    have z0 := frozen_of_row w4 _ 0 _ _ R4.out
    have z1 := frozen_of_row w4 _ 1 _ _ R4.out
    have z2 := frozen_of_row w4 _ 2 _ _ R4.out
    have z3 := frozen_of_row w4 _ 3 _ _ R4.out
    clear hnx
    go_wp2_with fail
    refine bodyPost_ret (v := .tuple #[.agg #[.int .i64 0, .int .i64 0, .string ⟨#[]⟩, .slice none 0 0], .bool false]) (by simp [results, Tryd.results7, go_sem, r0, r1, r2, r3]) rfl ?_
    rw [HE.out]
    exact FIN.out _ B4.out
  | true =>
    have HNX := Lib.hid hnx
    have hbx := num_bounds hnx
    clear hnx
    go_wp2_with fail
    have hs4 := B4.out.size
    refine (isNumber_any y B _ _ _ _ _ (by omega) (RepV.below (fun j hj => B4.out.block j (by omega)) y HY.out)).mono ?_
    rintro e w5 ⟨rfl, b5⟩
    have X5 := HX4.out.on b5; have Y5 := HY4.out.on b5; have R5 := Lib.hid (R4.out.on b5); have B5 := Lib.hid (Below.step B4.out b5)
    clear HX4 HY4 R4 B4 b5 q0 q1 q2 q3
    cases hny : numB y with
    | false =>
      have HE : Hid (opZ s x y = none) := by show _ = _; rw [opZ, if_neg (by rw [hny]; simp)]
      obtain ⟨r0, r1, r2, r3⟩ := R5.out.cells
      have z0 := frozen_of_row w5 _ 0 _ _ R5.out
      have z1 := frozen_of_row w5 _ 1 _ _ R5.out
      have z2 := frozen_of_row w5 _ 2 _ _ R5.out
      have z3 := frozen_of_row w5 _ 3 _ _ R5.out
      clear hny
      go_wp2_with fail
      refine bodyPost_ret (v := .tuple #[.agg #[.int .i64 0, .int .i64 0, .string ⟨#[]⟩, .slice none 0 0], .bool false]) (by simp [results, Tryd.results7, go_sem, r0, r1, r2, r3]) rfl ?_
      rw [HE.out]
      exact FIN.out _ B5.out
    | true =>
      have HNY := Lib.hid hny
      have hby := num_bounds hny
      clear hny
      have p1 := X5.cells.2.1
      have q1 := Y5.cells.2.1
      have HE : Hid (opZ s x y = match reckonZ s x.num y.num with | none => none | some n => if rightV 4 (numV n) = true then some n else none) := by
        show _ = _; rw [opZ, if_pos ⟨HNX.out, HNY.out⟩]
      go_wp2_with fail
      refine (reckon_any s x.num y.num _ hbx hby).mono ?_
      rintro e w6 ⟨rfl, rfl⟩
      have hrb : ∀ n, reckonZ s x.num y.num = some n → I64 n := by
        intro n hn
        have hp := mul_bound hbx hby
        unfold reckonZ at hn
        split at hn
        · cases hn; exact ⟨by omega, by omega⟩
        · split at hn
          · cases hn; exact ⟨by omega, by omega⟩
          · split at hn
            · cases hn; exact ⟨by omega, by omega⟩
            · cases hn
      have HRB := Lib.hid hrb
      clear hrb
      generalize reckonZ s x.num y.num = rk at *
      clear X5 Y5 p1 q1 hbx hby
      cases rk with
      | none =>
        have HE2 : Hid (opZ s x y = none) := HE.out
        go_wp2_with fail
        refine (number_any _ _).mono ?_
        rintro e w7 ⟨rfl, b7⟩
        have R7 := R5.out.on b7
        have B7 := Lib.hid (Below.step B5.out b7)
        have R8 := R7.on ((Below.refl _ w7).alloc (Nat.le_refl _) (.cells #[.int .i64 1, .int .i64 0, .string ⟨#[]⟩, .slice none 0 0] 24))
        obtain ⟨r0, r1, r2, r3⟩ := R8.cells
        have z0 := frozen_of_row _ _ 0 _ _ R8
        have z1 := frozen_of_row _ _ 1 _ _ R8
        have z2 := frozen_of_row _ _ 2 _ _ R8
        have z3 := frozen_of_row _ _ 3 _ _ R8
        have B8 := Lib.hid (Below.step B7.out ((Below.refl _ w7).alloc (Nat.le_refl _) (.cells #[.int .i64 1, .int .i64 0, .string ⟨#[]⟩, .slice none 0 0] 24)))
        clear R7 R8 b7
        go_wp2_with fail
        refine bodyPost_ret (v := .tuple #[.agg #[.int .i64 0, .int .i64 0, .string ⟨#[]⟩, .slice none 0 0], .bool false]) (by simp [results, Tryd.results7, go_sem, r0, r1, r2, r3]) rfl ?_
        rw [HE2.out]
        exact FIN.out _ B8.out
      | some n =>
        have hin := HRB.out n rfl
        have HI := Lib.hid hin
        clear hin HRB
        have HE2 : Hid (opZ s x y = if rightV 4 (numV n) = true then some n else none) := HE.out
        clear HE
        go_wp2_with fail
        refine (number_any _ _).mono ?_
        rintro e w7 ⟨rfl, b7⟩
        have R7 := R5.out.on b7
        have B7 := Lib.hid (Below.step B5.out b7)
        clear b7 R5 B5
        go_wp2_with fail
        have V8 := boxed_new w7 (.int .i64 1) (.int .i64 n) (.string ⟨#[]⟩) (.slice none 0 0)
        have b8 := (Below.refl _ w7).alloc (Nat.le_refl _) (.cells #[.int .i64 1, .int .i64 n, .string ⟨#[]⟩, .slice none 0 0] 24)
        generalize w7.alloc (.cells #[.int .i64 1, .int .i64 n, .string ⟨#[]⟩, .slice none 0 0] 24) = w8 at *
        refine (right_any (numV n) 0 w8 _ _ _ _ (Nat.zero_le _) (rep_num HI.out)).mono ?_
        rintro e w9 ⟨rfl, b9⟩
        have V9 := V8.on b9
        have R9 := (R7.on b8).on b9
        have B9 := Lib.hid (Below.step B7.out (Below.step b8 b9))
        obtain ⟨r0, r1, r2, r3⟩ := R9.cells
        obtain ⟨p0, p1, p2, p3⟩ := V9.cells
        have z0 := frozen_of_row _ _ 0 _ _ R9
        have z1 := frozen_of_row _ _ 1 _ _ R9
        have z2 := frozen_of_row _ _ 2 _ _ R9
        have z3 := frozen_of_row _ _ 3 _ _ R9
        clear V8 V9 R7 R9 b8 b9 B7
        cases hr : rightV 4 (numV n) with
        | false =>
          have HE3 : Hid (opZ s x y = none) := by show _ = _; rw [HE2.out, hr]; rfl
          clear hr
          go_wp2_with fail
          refine bodyPost_ret (v := .tuple #[.agg #[.int .i64 0, .int .i64 0, .string ⟨#[]⟩, .slice none 0 0], .bool false]) (by simp [results, Tryd.results7, go_sem, r0, r1, r2, r3]) rfl ?_
          rw [HE3.out]
          exact FIN.out _ B9.out
        | true =>
          have HE3 : Hid (opZ s x y = some n) := by show _ = _; rw [HE2.out, hr]; rfl
          clear hr
          go_wp2_with fail
          refine bodyPost_ret (v := .tuple #[.agg #[.int .i64 1, .int .i64 n, .string ⟨#[]⟩, .slice none 0 0], .bool true]) (by simp [results, Tryd.results7, go_sem, r0, r1, r2, r3]) rfl ?_
          rw [HE3.out]
          exact ⟨rfl, stored4 B9.out (w.heap.size + 1 + 1) (by omega) _ _ _ _⟩

end Go.Proofs.YtaomlkglodeaoaaDoor

/-
  builtin.Test of any op and values.
-/
namespace Go.Proofs.YtaomlkglodeaoaaDoor
open Go.RowKit

def tstZ (s : ByteArray) (c : Int) : Bool :=
  if (s.toList == [61, 61]) = true then (c == 0)
  else if (s.toList == [33, 61]) = true then (c != 0)
  else if (s.toList == [60]) = true then (decide (c < 0))
  else if (s.toList == [60, 61]) = true then (decide (c ≤ 0))
  else if (s.toList == [62]) = true then (decide (0 < c))
  else if (s.toList == [62, 61]) = true then (decide (0 ≤ c))
  else false
def testB (s : ByteArray) (x y : V) : Bool := rightV 4 x && rightV 4 y && tstZ s (cmpV x y)

set_option maxRecDepth 100000 in
set_option maxHeartbeats 4000000 in
theorem test_any (s : ByteArray) (x y : V) (B : Nat) (w : World) (c0 c1 c2 c3 d0 d1 d2 d3 : Value) (hB : B ≤ w.heap.size) (hx : RepV B w x c0 c1 c2 c3) (hy : RepV B w y d0 d1 d2 d3) :
    Calls Tryd.prog 12 #[.string s, .agg #[c0, c1, c2, c3], .agg #[d0, d1, d2, d3]] w fun e w' => e = .returned (.bool (testB s x y)) ∧ Below w.heap.size w w' := by
  have HX := Lib.hid hx; have HY := Lib.hid hy
  obtain ⟨fa, fc, rfl, rfl, rfl, rfl⟩ := hx.form
  obtain ⟨ga, gc, rfl, rfl, rfl, rfl⟩ := hy.form
  clear hx hy
  go_enter Tryd.func12, Tryd.ntmps12
  go_wp2_with fail
  have x1 := boxed_new w (.int .i64 x.kind) (.int .i64 x.num) (.string x.text) (.slice fa x.list.length fc)
  have b1 := (Below.refl _ w).alloc (Nat.le_refl _) (.cells #[.int .i64 x.kind, .int .i64 x.num, .string x.text, .slice fa x.list.length fc] 24)
  have s1 := World.size_alloc w (.cells #[.int .i64 x.kind, .int .i64 x.num, .string x.text, .slice fa x.list.length fc] 24)
  generalize w.alloc (.cells #[.int .i64 x.kind, .int .i64 x.num, .string x.text, .slice fa x.list.length fc] 24) = w1 at *
  have y2 := boxed_new w1 (.int .i64 y.kind) (.int .i64 y.num) (.string y.text) (.slice ga y.list.length gc)
  have b2 := (Below.refl _ w1).alloc (Nat.le_refl _) (.cells #[.int .i64 y.kind, .int .i64 y.num, .string y.text, .slice ga y.list.length gc] 24)
  generalize w1.alloc (.cells #[.int .i64 y.kind, .int .i64 y.num, .string y.text, .slice ga y.list.length gc] 24) = w2 at *
  rw [s1] at y2
  have X2 := x1.on b2
  have B2 := Below.step b1 b2
  clear x1 b1 b2 s1
  have hs2 := B2.size
  refine (right_any x B _ _ _ _ _ (by omega) (RepV.below (fun j hj => B2.block j (by omega)) x HX.out)).mono ?_
  rintro e w4 ⟨rfl, b4⟩
  have X4 := X2.on b4; have Y4 := y2.on b4; have B4 := Lib.hid (Below.step B2 b4)
  clear X2 y2 B2 b4
  have HX4 := Lib.hid X4; have HY4 := Lib.hid Y4
  obtain ⟨q0, q1, q2, q3⟩ := Y4.cells
  clear X4 Y4
  have hs4 := B4.out.size
  cases hnx : rightV 4 x with
  | false =>
    have HE : Hid (testB s x y = false) := by show _ = _; rw [testB, hnx]; rfl
    clear hnx
    go_wp2_with fail
    go_ret
    exact ⟨retBool HE.out.symm, B4.out⟩
  | true =>
    have HNX := Lib.hid hnx
    clear hnx
    go_wp2_with fail
    refine (right_any y B _ _ _ _ _ (by omega) (RepV.below (fun j hj => B4.out.block j (by omega)) y HY.out)).mono ?_
    rintro e w5 ⟨rfl, b5⟩
    have X5 := HX4.out.on b5; have Y5 := HY4.out.on b5; have B5 := Lib.hid (Below.step B4.out b5)
    clear HX4 HY4 B4 b5 q0 q1 q2 q3
    cases hny : rightV 4 y with
    | false =>
      have HE : Hid (testB s x y = false) := by show _ = _; rw [testB, hny, Bool.and_false]; rfl
      clear hny
      go_wp2_with fail
      go_ret
      exact ⟨retBool HE.out.symm, B5.out⟩
    | true =>
      have HE : Hid (testB s x y = tstZ s (cmpV x y)) := by show _ = _; rw [testB, hny, HNX.out]; rfl
      clear hny
      obtain ⟨p0, p1, p2, p3⟩ := X5.cells
      obtain ⟨q0, q1, q2, q3⟩ := Y5.cells
      have hs5 := B5.out.size
      clear X5 Y5
      go_wp2_with fail
      refine (cmp_any x y B _ _ _ _ _ _ _ _ _ (by omega) (RepV.below (fun j hj => B5.out.block j (by omega)) x HX.out) (RepV.below (fun j hj => B5.out.block j (by omega)) y HY.out)).mono ?_
      rintro e w6 ⟨rfl, b6⟩
      have B6 := Lib.hid (Below.step B5.out b6)
      clear b6 B5 p0 p1 p2 p3 q0 q1 q2 q3
      generalize cmpV x y = c at *
      unfold tstZ at HE
      cases h0 : (s.toList == [61, 61]) with
      | true =>
        have HF : Hid (testB s x y = (c == 0)) := by show _ = _; rw [HE.out, h0]; rfl
        go_wp2_with fail
        go_ret
        exact ⟨retBool HF.out.symm, B6.out⟩
      | false =>
      cases h1 : (s.toList == [33, 61]) with
      | true =>
        have HF : Hid (testB s x y = (c != 0)) := by show _ = _; rw [HE.out, h0, h1]; rfl
        go_wp2_with fail
        go_ret
        exact ⟨retBool HF.out.symm, B6.out⟩
      | false =>
      cases h2 : (s.toList == [60]) with
      | true =>
        have HF : Hid (testB s x y = (decide (c < 0))) := by show _ = _; rw [HE.out, h0, h1, h2]; rfl
        go_wp2_with fail
        go_ret
        exact ⟨retBool HF.out.symm, B6.out⟩
      | false =>
      cases h3 : (s.toList == [60, 61]) with
      | true =>
        have HF : Hid (testB s x y = (decide (c ≤ 0))) := by show _ = _; rw [HE.out, h0, h1, h2, h3]; rfl
        go_wp2_with fail
        go_ret
        exact ⟨retBool HF.out.symm, B6.out⟩
      | false =>
      cases h4 : (s.toList == [62]) with
      | true =>
        have HF : Hid (testB s x y = (decide (0 < c))) := by show _ = _; rw [HE.out, h0, h1, h2, h3, h4]; rfl
        go_wp2_with fail
        go_ret
        exact ⟨retBool HF.out.symm, B6.out⟩
      | false =>
      cases h5 : (s.toList == [62, 61]) with
      | true =>
        have HF : Hid (testB s x y = (decide (0 ≤ c))) := by show _ = _; rw [HE.out, h0, h1, h2, h3, h4, h5]; rfl
        go_wp2_with fail
        go_ret
        exact ⟨retBool HF.out.symm, B6.out⟩
      | false =>
      have HF : Hid (testB s x y = false) := by show _ = _; rw [HE.out, h0, h1, h2, h3, h4, h5]; rfl
      go_wp2_with fail
      go_ret
      exact ⟨retBool HF.out.symm, B6.out⟩

end Go.Proofs.YtaomlkglodeaoaaDoor

/-
  What the first calls whose answers are fixed ('awake') speak of.
-/
namespace Go.Proofs.YtaomlkglodeaoaaDoor
open Go.RowKit

def exV : V := .mk 4 0 ⟨#[]⟩ [.mk 1 3 ⟨#[]⟩ [], .mk 2 0 ⟨#[97, 98]⟩ [], .mk 3 0 ⟨#[110, 49]⟩ []]
theorem text_ab : textB ⟨#[97, 98]⟩ = true := by decide
theorem name_n1 : nameB ⟨#[110, 49]⟩ = true := by decide
theorem name_1n : nameB ⟨#[49, 110]⟩ = false := by decide
theorem right_ex : rightV 4 exV = true := by
  simp [exV, rightV, baseB, text_ab, name_n1, ByteArray.toList, ByteArray.toList.loop, ByteArray.size]
theorem print_ex : printB exV = [91, 51, 44, 34, 97, 98, 34, 44, 110, 49, 93] := by
  rw [printB, if_pos right_ex]
  have h3 : Lib.itoa 3 = [51] := by simp [Lib.itoa, Lib.decDigits_one (i := 3) (by omega)]
  simp [exV, prV, prL, h3]
theorem right_nil : rightV 4 (.mk 4 0 ⟨#[]⟩ []) = true := by
  simp [rightV, baseB, ByteArray.toList, ByteArray.toList.loop, ByteArray.size]
theorem print_nil : printB (.mk 4 0 ⟨#[]⟩ []) = [91, 93] := by
  rw [printB, if_pos right_nil]
  simp [prV, prL]

theorem cmp_ex : cmpV (.mk 1 3 ⟨#[]⟩ []) (.mk 2 0 ⟨#[]⟩ []) = -1 := by simp [cmpV, Lib.compareInt]
def exL : List V := [.mk 1 3 ⟨#[]⟩ [], .mk 2 0 ⟨#[97, 98]⟩ [], .mk 3 0 ⟨#[110, 49]⟩ []]
abbrev exRow : Array Value := #[.int .i64 1, .int .i64 3, .string ⟨#[]⟩, .slice none 0 0, .int .i64 2, .int .i64 0, .string ⟨#[97, 98]⟩, .slice none 0 0, .int .i64 3, .int .i64 0, .string ⟨#[110, 49]⟩, .slice none 0 0]
theorem exL_at (w : World) : RepL (w.heap.size + 1) (w.alloc (.cells exRow 24)) exL (.slice (some ⟨w.heap.size, 0, none⟩) 3 3) := by
  refine RepRow.slice (cur := exRow) ?_ (alloc_new _ _) (Nat.lt_succ_self _) (Nat.le_refl _) (by simp [exL])
  intro i hi
  match i, hi with
  | 0, _ => exact ⟨_, _, _, _, rfl, rfl, rfl, rfl, repV_num _ _ _ ⟨by omega, by omega⟩⟩
  | 1, _ => exact ⟨_, _, _, _, rfl, rfl, rfl, rfl, repV_str _ _ _ _ ⟨by omega, by omega⟩ (by unfold maxLen; decide)⟩
  | 2, _ => exact ⟨_, _, _, _, rfl, rfl, rfl, rfl, repV_str _ _ _ _ ⟨by omega, by omega⟩ (by unfold maxLen; decide)⟩

end Go.Proofs.YtaomlkglodeaoaaDoor
