/-
  builtin.Test of any op and values.
-/
import Derived.Test.YtgkgnfafjbjbnaaDoorOp
namespace Go.Proofs.YtgkgnfafjbjbnaaDoor
open Go.RowKit

def tstZ (s : ByteArray) (c : Int) : Bool :=
  if (s.toList == [61, 61]) = true then (c == 0)
  else if (s.toList == [33, 61]) = true then (c != 0)
  else if (s.toList == [60]) = true then (decide (c < 0))
  else if (s.toList == [60, 61]) = true then (decide (c ≤ 0))
  else if (s.toList == [62]) = true then (decide (0 < c))
  else if (s.toList == [62, 61]) = true then (decide (0 ≤ c))
  else false
def testB (s : ByteArray) (x y : V) : Bool := rightV 4 x && rightV 4 y && tstZ s (cmpV x y)

set_option maxRecDepth 100000 in
set_option maxHeartbeats 4000000 in
theorem test_any (s : ByteArray) (x y : V) (B : Nat) (w : World) (c0 c1 c2 c3 d0 d1 d2 d3 : Value) (hB : B ≤ w.heap.size) (hx : RepV B w x c0 c1 c2 c3) (hy : RepV B w y d0 d1 d2 d3) :
    Calls Tryd.prog 25 #[.string s, .agg #[c0, c1, c2, c3], .agg #[d0, d1, d2, d3]] w fun e w' => e = .returned (.bool (testB s x y)) ∧ Below w.heap.size w w' := by
  have HX := Lib.hid hx; have HY := Lib.hid hy
  obtain ⟨fa, fc, rfl, rfl, rfl, rfl⟩ := hx.form
  obtain ⟨ga, gc, rfl, rfl, rfl, rfl⟩ := hy.form
  clear hx hy
  go_enter Tryd.func25, Tryd.ntmps25
  go_wp2_with fail
  have x1 := boxed_new w (.int .i64 x.kind) (.int .i64 x.num) (.string x.text) (.slice fa x.list.length fc)
  have b1 := (Below.refl _ w).alloc (Nat.le_refl _) (.cells #[.int .i64 x.kind, .int .i64 x.num, .string x.text, .slice fa x.list.length fc] 24)
  have s1 := World.size_alloc w (.cells #[.int .i64 x.kind, .int .i64 x.num, .string x.text, .slice fa x.list.length fc] 24)
  generalize w.alloc (.cells #[.int .i64 x.kind, .int .i64 x.num, .string x.text, .slice fa x.list.length fc] 24) = w1 at *
  have y2 := boxed_new w1 (.int .i64 y.kind) (.int .i64 y.num) (.string y.text) (.slice ga y.list.length gc)
  have b2 := (Below.refl _ w1).alloc (Nat.le_refl _) (.cells #[.int .i64 y.kind, .int .i64 y.num, .string y.text, .slice ga y.list.length gc] 24)
  generalize w1.alloc (.cells #[.int .i64 y.kind, .int .i64 y.num, .string y.text, .slice ga y.list.length gc] 24) = w2 at *
  rw [s1] at y2
  have X2 := x1.on b2
  have B2 := Below.step b1 b2
  clear x1 b1 b2 s1
  have hs2 := B2.size
  refine (right_any x B _ _ _ _ _ (by omega) (RepV.below (fun j hj => B2.block j (by omega)) x HX.out)).mono ?_
  rintro e w4 ⟨rfl, b4⟩
  have X4 := X2.on b4; have Y4 := y2.on b4; have B4 := Lib.hid (Below.step B2 b4)
  clear X2 y2 B2 b4
  have HX4 := Lib.hid X4; have HY4 := Lib.hid Y4
  obtain ⟨q0, q1, q2, q3⟩ := Y4.cells
  clear X4 Y4
  have hs4 := B4.out.size
  cases hnx : rightV 4 x with
  | false =>
    have HE : Hid (testB s x y = false) := by show _ = _; rw [testB, hnx]; rfl
    clear hnx
    go_wp2_with fail
    go_ret
    exact ⟨retBool HE.out.symm, B4.out⟩
  | true =>
    have HNX := Lib.hid hnx
    clear hnx
    go_wp2_with fail
    refine (right_any y B _ _ _ _ _ (by omega) (RepV.below (fun j hj => B4.out.block j (by omega)) y HY.out)).mono ?_
    rintro e w5 ⟨rfl, b5⟩
    have X5 := HX4.out.on b5; have Y5 := HY4.out.on b5; have B5 := Lib.hid (Below.step B4.out b5)
    clear HX4 HY4 B4 b5 q0 q1 q2 q3
    cases hny : rightV 4 y with
    | false =>
      have HE : Hid (testB s x y = false) := by show _ = _; rw [testB, hny, Bool.and_false]; rfl
      clear hny
      go_wp2_with fail
      go_ret
      exact ⟨retBool HE.out.symm, B5.out⟩
    | true =>
      have HE : Hid (testB s x y = tstZ s (cmpV x y)) := by show _ = _; rw [testB, hny, HNX.out]; rfl
      clear hny
      obtain ⟨p0, p1, p2, p3⟩ := X5.cells
      obtain ⟨q0, q1, q2, q3⟩ := Y5.cells
      have hs5 := B5.out.size
      clear X5 Y5
      go_wp2_with fail
      refine (cmp_any x y B _ _ _ _ _ _ _ _ _ (by omega) (RepV.below (fun j hj => B5.out.block j (by omega)) x HX.out) (RepV.below (fun j hj => B5.out.block j (by omega)) y HY.out)).mono ?_
      rintro e w6 ⟨rfl, b6⟩
      have B6 := Lib.hid (Below.step B5.out b6)
      clear b6 B5 p0 p1 p2 p3 q0 q1 q2 q3
      generalize cmpV x y = c at *
      unfold tstZ at HE
      cases h0 : (s.toList == [61, 61]) with
      | true =>
        have HF : Hid (testB s x y = (c == 0)) := by show _ = _; rw [HE.out, h0]; rfl
        go_wp2_with fail
        go_ret
        exact ⟨retBool HF.out.symm, B6.out⟩
      | false =>
      cases h1 : (s.toList == [33, 61]) with
      | true =>
        have HF : Hid (testB s x y = (c != 0)) := by show _ = _; rw [HE.out, h0, h1]; rfl
        go_wp2_with fail
        go_ret
        exact ⟨retBool HF.out.symm, B6.out⟩
      | false =>
      cases h2 : (s.toList == [60]) with
      | true =>
        have HF : Hid (testB s x y = (decide (c < 0))) := by show _ = _; rw [HE.out, h0, h1, h2]; rfl
        go_wp2_with fail
        go_ret
        exact ⟨retBool HF.out.symm, B6.out⟩
      | false =>
      cases h3 : (s.toList == [60, 61]) with
      | true =>
        have HF : Hid (testB s x y = (decide (c ≤ 0))) := by show _ = _; rw [HE.out, h0, h1, h2, h3]; rfl
        go_wp2_with fail
        go_ret
        exact ⟨retBool HF.out.symm, B6.out⟩
      | false =>
      cases h4 : (s.toList == [62]) with
      | true =>
        have HF : Hid (testB s x y = (decide (0 < c))) := by show _ = _; rw [HE.out, h0, h1, h2, h3, h4]; rfl
        go_wp2_with fail
        go_ret
        exact ⟨retBool HF.out.symm, B6.out⟩
      | false =>
      cases h5 : (s.toList == [62, 61]) with
      | true =>
        have HF : Hid (testB s x y = (decide (0 ≤ c))) := by show _ = _; rw [HE.out, h0, h1, h2, h3, h4, h5]; rfl
        go_wp2_with fail
        go_ret
        exact ⟨retBool HF.out.symm, B6.out⟩
      | false =>
      have HF : Hid (testB s x y = false) := by show _ = _; rw [HE.out, h0, h1, h2, h3, h4, h5]; rfl
      go_wp2_with fail
      go_ret
      exact ⟨retBool HF.out.symm, B6.out⟩

end Go.Proofs.YtgkgnfafjbjbnaaDoor
