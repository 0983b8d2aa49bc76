/-
  ValueOrder: for every three values the law returns true: Compare is an order. No condition beyond the form's own reach.
-/
import Derived.Test.YtagehmcnihebdaaDoorLaw
import Derived.Test.YtagehmcnihebdaaDoorOrder
namespace Go.Proofs.YtagehmcnihebdaaDoor.valueOrder
open Go.ChangeShapes Go.WideShapes Go.ChangeAt Go.RowKit

set_option maxHeartbeats 4000000 in
theorem walk (x y z : V) (W : World) (c0 c1 c2 c3 d0 d1 d2 d3 e0 e1 e2 e3 : Value) (htab : TabOk W) (hx : RepV W.heap.size W x c0 c1 c2 c3) (hy : RepV W.heap.size W y d0 d1 d2 d3) (hz : RepV W.heap.size W z e0 e1 e2 e3) :
    Calls Tryd.prog 5 #[.agg #[c0, c1, c2, c3], .agg #[d0, d1, d2, d3], .agg #[e0, e1, e2, e3]] W fun e W' => e = .returned (.bool true) ∧ Below W.heap.size W W' := by
  have HO := Lib.hid (ord_value x y z)
  have HX := Lib.hid hx; have HY := Lib.hid hy; have HZ := Lib.hid hz
  have HT := Lib.hid htab
  have hg := tab_lt htab
  obtain ⟨fa, fc, rfl, rfl, rfl, rfl⟩ := hx.form
  obtain ⟨ga, gc, rfl, rfl, rfl, rfl⟩ := hy.form
  obtain ⟨ha, hc, rfl, rfl, rfl, rfl⟩ := hz.form
  clear hx hy hz htab
  go_enter Tryd.func5, Tryd.ntmps5
  go_wp2_with fail
  have x1 := boxed_new W (.int .i64 x.kind) (.int .i64 x.num) (.string x.text) (.slice fa x.list.length fc)
  have b1 := stands_alloc W (.cells #[.int .i64 x.kind, .int .i64 x.num, .string x.text, .slice fa x.list.length fc] 24)
  have s1 := World.size_alloc W (.cells #[.int .i64 x.kind, .int .i64 x.num, .string x.text, .slice fa x.list.length fc] 24)
  generalize W.alloc (.cells #[.int .i64 x.kind, .int .i64 x.num, .string x.text, .slice fa x.list.length fc] 24) = W1 at *
  have y2 := boxed_new W1 (.int .i64 y.kind) (.int .i64 y.num) (.string y.text) (.slice ga y.list.length gc)
  have b2 := stands_alloc W1 (.cells #[.int .i64 y.kind, .int .i64 y.num, .string y.text, .slice ga y.list.length gc] 24)
  have s2 := World.size_alloc W1 (.cells #[.int .i64 y.kind, .int .i64 y.num, .string y.text, .slice ga y.list.length gc] 24)
  generalize W1.alloc (.cells #[.int .i64 y.kind, .int .i64 y.num, .string y.text, .slice ga y.list.length gc] 24) = W2 at *
  have z3 := boxed_new W2 (.int .i64 z.kind) (.int .i64 z.num) (.string z.text) (.slice ha z.list.length hc)
  have b3 := stands_alloc W2 (.cells #[.int .i64 z.kind, .int .i64 z.num, .string z.text, .slice ha z.list.length hc] 24)
  have s3 := World.size_alloc W2 (.cells #[.int .i64 z.kind, .int .i64 z.num, .string z.text, .slice ha z.list.length hc] 24)
  generalize W2.alloc (.cells #[.int .i64 z.kind, .int .i64 z.num, .string z.text, .slice ha z.list.length hc] 24) = W3 at *
  rw [s2, s1] at z3
  rw [s1] at y2
  have X3 := (x1.on b2).on b3
  have Y3 := y2.on b3
  have B3 := Below.step (Below.step b1 b2) b3
  clear x1 y2 b1 b2 b3 s1 s2 s3
  refine (awake_any _ (Nat.lt_of_lt_of_le hg B3.size) (HT.out.below hg B3)).mono ?_
  rintro e w4 ⟨rfl, b4⟩
  have X4 := X3.on b4; have Y4 := Y3.on b4; have Z4 := z3.on b4; have B4 := Below.step B3 b4
  clear X3 Y3 z3 B3 b4
  have HX4 := Lib.hid X4; have HY4 := Lib.hid Y4; have HZ4 := Lib.hid Z4
  obtain ⟨p0, p1, p2, p3⟩ := X4.cells
  obtain ⟨q0, q1, q2, q3⟩ := Y4.cells
  clear X4 Y4 Z4
  go_wp2_with fail
  refine (cmp_any x y W.heap.size _ _ _ _ _ _ _ _ _ B4.size (HX.out.on B4 (Nat.le_refl _)) (HY.out.on B4 (Nat.le_refl _))).mono ?_
  rintro e w5 ⟨rfl, b5⟩
  have X5 := Lib.hid (HX4.out.on b5); have Y5 := Lib.hid (HY4.out.on b5); have Z5 := Lib.hid (HZ4.out.on b5); have B5 := Below.step B4 b5
  clear p0 p1 p2 p3 q0 q1 q2 q3 HX4 HY4 HZ4 B4 b5
  obtain ⟨p0, p1, p2, p3⟩ := Y5.out.cells
  obtain ⟨q0, q1, q2, q3⟩ := Z5.out.cells
  go_wp2_with fail
  refine (cmp_any y z W.heap.size _ _ _ _ _ _ _ _ _ B5.size (HY.out.on B5 (Nat.le_refl _)) (HZ.out.on B5 (Nat.le_refl _))).mono ?_
  rintro e w6 ⟨rfl, b6⟩
  have X6 := Lib.hid (X5.out.on b6); have Y6 := Lib.hid (Y5.out.on b6); have Z6 := Lib.hid (Z5.out.on b6); have B6 := Below.step B5 b6
  clear p0 p1 p2 p3 q0 q1 q2 q3 X5 Y5 Z5 B5 b6
  obtain ⟨p0, p1, p2, p3⟩ := X6.out.cells
  obtain ⟨q0, q1, q2, q3⟩ := Z6.out.cells
  go_wp2_with fail
  refine (cmp_any x z W.heap.size _ _ _ _ _ _ _ _ _ B6.size (HX.out.on B6 (Nat.le_refl _)) (HZ.out.on B6 (Nat.le_refl _))).mono ?_
  rintro e w7 ⟨rfl, b7⟩
  have X7 := Lib.hid (X6.out.on b7); have Y7 := Lib.hid (Y6.out.on b7); have B7 := Below.step B6 b7
  clear p0 p1 p2 p3 q0 q1 q2 q3 X6 Y6 Z6 B6 b7
  obtain ⟨p0, p1, p2, p3⟩ := X7.out.cells
  obtain ⟨q0, q1, q2, q3⟩ := Y7.out.cells
  have HSY := Lib.hid HO.out.sym
  have HXX : Hid (cmpV x x = 0) := by
    have := (ord_value x x x).sym
    show _ = _
    omega
  have hr := HO.out.rng
  have HE := Lib.hid HO.out.eqv; have HL := Lib.hid HO.out.lt; have HG := Lib.hid HO.out.gt
  clear HO
  generalize cmpV x y = r at *
  generalize cmpV y z = u at *
  generalize cmpV x z = t at *
  rcases hr with rfl | rfl | rfl
  all_goals
    go_wp2_with fail
    refine (cmp_any y x W.heap.size _ _ _ _ _ _ _ _ _ B7.size (HY.out.on B7 (Nat.le_refl _)) (HX.out.on B7 (Nat.le_refl _))).mono ?_
    rintro e w8 ⟨rfl, b8⟩
    rw [HSY.out]
    have X8 := Lib.hid (X7.out.on b8); have B8 := Below.step B7 b8
    clear p0 p1 p2 p3 q0 q1 q2 q3 X7 Y7 B7 b8
    obtain ⟨p0, p1, p2, p3⟩ := X8.out.cells
    go_wp2_with fail
    refine (cmp_any x x W.heap.size _ _ _ _ _ _ _ _ _ B8.size (HX.out.on B8 (Nat.le_refl _)) (HX.out.on B8 (Nat.le_refl _))).mono ?_
    rintro e w9 ⟨rfl, b9⟩
    rw [HXX.out]
    have B9 := Below.step B8 b9
    clear p0 p1 p2 p3 X8 B8 b9
    go_wp2_with fail
  all_goals
    go_ret
    have e := HE.out; have l := HL.out; have g := HG.out
    refine ⟨ret_bool ?_, B9⟩
    clear HE HL HG HSY
    simp at e l g ⊢
    try omega

end Go.Proofs.YtagehmcnihebdaaDoor.valueOrder
