/-
  BuiltinTests: for every two values the law returns true: of any two right values one of ==, < and > is so, and just one; the others are what these make.
-/
import Derived.Test.YtlnkngahiapidaaDoorAwakeWalk
import Derived.Test.YtlnkngahiapidaaDoorLaw
import Derived.Test.YtlnkngahiapidaaDoorFit
import Derived.Test.YtlnkngahiapidaaDoorFitRight
import Derived.Test.YtlnkngahiapidaaDoorOrder
namespace Go.Proofs.YtlnkngahiapidaaDoor.builtinTests
open Go.ChangeShapes Go.WideShapes Go.ChangeAt Go.RowKit

theorem test_of {u v : V} (hu : rightV 4 u = true) (hv : rightV 4 v = true) (s : ByteArray) : testB s u v = tstZ s (cmpV u v) := by rw [testB, hu, hv]; rfl
/-- What the six tests, one turned about and one that there is not, tell where Compare is c. -/
def Told (u v : V) (e l g n le ge : Bool) : Prop := testB ⟨#[61, 61]⟩ u v = e ∧ testB ⟨#[60]⟩ u v = l ∧ testB ⟨#[62]⟩ u v = g ∧ testB ⟨#[33, 61]⟩ u v = n ∧ testB ⟨#[60, 61]⟩ u v = le ∧ testB ⟨#[62, 61]⟩ u v = ge ∧ testB ⟨#[62]⟩ v u = l ∧ testB ⟨#[61]⟩ u v = false
theorem told {u v : V} (hu : rightV 4 u = true) (hv : rightV 4 v = true) : Told u v true false false false true true ∨ Told u v false true false true true false ∨ Told u v false false true true false true := by
  have hs := (ord_value u v u).sym
  unfold Told
  rw [test_of hu hv, test_of hu hv, test_of hu hv, test_of hu hv, test_of hu hv, test_of hu hv, test_of hv hu, test_of hu hv, hs]
  rcases (ord_value u v u).rng with h | h | h
  · refine .inr (.inl ?_); rw [h]; simp [tstZ, Lib.toList_data]
  · refine .inl ?_; rw [h]; simp [tstZ, Lib.toList_data]
  · refine .inr (.inr ?_); rw [h]; simp [tstZ, Lib.toList_data]

set_option maxRecDepth 100000 in
set_option maxHeartbeats 16000000 in
theorem walk (x y : V) (W : World) (c0 c1 c2 c3 d0 d1 d2 d3 : Value) (htab : TabOk W) (hx : RepV W.heap.size W x c0 c1 c2 c3) (hy : RepV W.heap.size W y d0 d1 d2 d3) :
    Calls Tryd.prog 10 #[.agg #[c0, c1, c2, c3], .agg #[d0, d1, d2, d3]] W fun e W' => e = .returned (.bool true) ∧ Below W.heap.size W W' := by
  have HX := Lib.hid hx; have HY := Lib.hid hy
  have HT := Lib.hid htab
  have hg := tab_lt htab
  obtain ⟨fa, fc, rfl, rfl, rfl, rfl⟩ := hx.form
  obtain ⟨ga, gc, rfl, rfl, rfl, rfl⟩ := hy.form
  clear hx hy htab
  have htold := told (fit_right 4 x) (fit_right 4 y)
  have HTO := Lib.hid htold; clear htold
  go_enter Tryd.func10, Tryd.ntmps10
  go_wp2_with fail
  have x1 := boxed_new W (.int .i64 x.kind) (.int .i64 x.num) (.string x.text) (.slice fa x.list.length fc)
  have b1 := stands_alloc W (.cells #[.int .i64 x.kind, .int .i64 x.num, .string x.text, .slice fa x.list.length fc] 24)
  have s1 := World.size_alloc W (.cells #[.int .i64 x.kind, .int .i64 x.num, .string x.text, .slice fa x.list.length fc] 24)
  generalize W.alloc (.cells #[.int .i64 x.kind, .int .i64 x.num, .string x.text, .slice fa x.list.length fc] 24) = W1 at *
  have y2 := boxed_new W1 (.int .i64 y.kind) (.int .i64 y.num) (.string y.text) (.slice ga y.list.length gc)
  have b2 := stands_alloc W1 (.cells #[.int .i64 y.kind, .int .i64 y.num, .string y.text, .slice ga y.list.length gc] 24)
  generalize W1.alloc (.cells #[.int .i64 y.kind, .int .i64 y.num, .string y.text, .slice ga y.list.length gc] 24) = W2 at *
  rw [s1] at y2
  have X2 := x1.on b2
  have B2 := Below.step b1 b2
  clear x1 b1 b2 s1
  refine (awake2_any _ (Nat.lt_of_lt_of_le hg B2.size) (HT.out.below hg B2)).mono ?_
  rintro e w4 ⟨rfl, b4⟩
  have X4 := X2.on b4; have Y4 := Lib.hid (y2.on b4); have B4 := Lib.hid (Below.step B2 b4)
  clear X2 y2 B2 b4
  obtain ⟨p0, p1, p2, p3⟩ := X4.cells
  go_wp2_with fail
  refine (Fit_any x W.heap.size _ _ _ _ _ B4.out.size (HX.out.on B4.out (Nat.le_refl _))).mono ?_
  rintro e w5 ⟨e0, e1, e2, e3, rfl, hr5, hb5⟩
  have HU := Lib.hid (hr5.on (S' := fun b => b < w5.heap.size) (fun b hb => hb.2) (fun _ _ => rfl))
  obtain ⟨pa, pc, rfl, rfl, rfl, rfl⟩ := hr5.form
  have B5 := Lib.hid (Below.step B4.out hb5)
  have Y5 := Lib.hid (Y4.out.on hb5)
  clear X4 Y4 B4 hr5 hb5 p0 p1 p2 p3
  generalize fitV 4 x = u at *
  obtain ⟨q0, q1, q2, q3⟩ := (Y5.out.on (stands_alloc w5 (.cells #[.int .i64 u.kind, .int .i64 u.num, .string u.text, .slice pa u.list.length pc] 24))).cells
  go_wp2_with fail
  have u6 := boxed_new w5 (.int .i64 u.kind) (.int .i64 u.num) (.string u.text) (.slice pa u.list.length pc)
  have b6 := stands_alloc w5 (.cells #[.int .i64 u.kind, .int .i64 u.num, .string u.text, .slice pa u.list.length pc] 24)
  generalize w5.alloc (.cells #[.int .i64 u.kind, .int .i64 u.num, .string u.text, .slice pa u.list.length pc] 24) = w6 at *
  have B6 := Lib.hid (Below.step B5.out b6)
  refine (Fit_any y W.heap.size _ _ _ _ _ B6.out.size (HY.out.on B6.out (Nat.le_refl _))).mono ?_
  rintro e w7 ⟨e0, e1, e2, e3, rfl, hr7, hb7⟩
  have HV := Lib.hid (hr7.on (S' := fun b => b < w7.heap.size) (fun b hb => hb.2) (fun _ _ => rfl))
  obtain ⟨ra, rc, rfl, rfl, rfl, rfl⟩ := hr7.form
  have u7 := Lib.hid (u6.on hb7)
  have B7 := Lib.hid (Below.step B6.out hb7)
  have HU7 := Lib.hid ((RepV.on (Below.step b6 hb7) (Nat.le_refl _) HU.out).up (Below.step b6 hb7).size _)
  clear Y5 B5 b6 B6 u6 hr7 hb7 q0 q1 q2 q3 HU
  generalize fitV 4 y = v at *
  obtain ⟨q0, q1, q2, q3⟩ := (u7.out.on (stands_alloc w7 (.cells #[.int .i64 v.kind, .int .i64 v.num, .string v.text, .slice ra v.list.length rc] 24))).cells
  go_wp2_with fail
  have v8 := Lib.hid (boxed_new w7 (.int .i64 v.kind) (.int .i64 v.num) (.string v.text) (.slice ra v.list.length rc))
  have b8 := stands_alloc w7 (.cells #[.int .i64 v.kind, .int .i64 v.num, .string v.text, .slice ra v.list.length rc] 24)
  generalize w7.alloc (.cells #[.int .i64 v.kind, .int .i64 v.num, .string v.text, .slice ra v.list.length rc] 24) = w8 at *
  have XU8 := Lib.hid (u7.out.on b8)
  have XV8 := v8
  have HB8 := Lib.hid (Below.step B7.out b8)
  have RU8 := Lib.hid ((RepV.on b8 (Nat.le_refl _) HU7.out).up b8.size _)
  have RV8 := Lib.hid ((RepV.on b8 (Nat.le_refl _) HV.out).up b8.size _)
  clear u7 b8 B7 HU7 HV q0 q1 q2 q3 v8 HX HY
  have B8 := HB8
  clear HB8
  generalize w5.heap.size = bu at *
  generalize w7.heap.size = bv at *
  refine (test_any ⟨#[61, 61]⟩ u v w8.heap.size _ _ _ _ _ _ _ _ _ (Nat.le_refl _) RU8.out RV8.out).mono ?_
  rintro e w9 ⟨rfl, hb⟩
  rcases HTO.out with ht | ht | ht
  all_goals
    obtain ⟨t0, t1, t2, t3, t4, t5, t6, t7⟩ := ht
    have T1 := Lib.hid t1; have T2 := Lib.hid t2; have T3 := Lib.hid t3; have T4 := Lib.hid t4; have T5 := Lib.hid t5; have T6 := Lib.hid t6; have T7 := Lib.hid t7
    rw [t0]
    clear t0 t1 t2 t3 t4 t5 t6 t7
    have B9 := Lib.hid (Below.step B8.out hb)
    have XU9 := Lib.hid (XU8.out.on hb)
    have RU9 := Lib.hid ((RepV.on hb (Nat.le_refl _) RU8.out).up hb.size _)
    have XV9 := Lib.hid (XV8.out.on hb)
    have RV9 := Lib.hid ((RepV.on hb (Nat.le_refl _) RV8.out).up hb.size _)
    clear B8 XU8 RU8 XV8 RV8
    clear hb
    obtain ⟨cU0, cU1, cU2, cU3⟩ := XU9.out.cells
    obtain ⟨cV0, cV1, cV2, cV3⟩ := XV9.out.cells
    go_wp2_with fail
    refine (test_any ⟨#[60]⟩ u v w9.heap.size _ _ _ _ _ _ _ _ _ (Nat.le_refl _) RU9.out RV9.out).mono ?_
    rintro e w10 ⟨rfl, hb⟩
    rw [T1.out]
    clear cU0 cU1 cU2 cU3
    clear cV0 cV1 cV2 cV3
    have B10 := Lib.hid (Below.step B9.out hb)
    have XU10 := Lib.hid (XU9.out.on hb)
    have RU10 := Lib.hid ((RepV.on hb (Nat.le_refl _) RU9.out).up hb.size _)
    have XV10 := Lib.hid (XV9.out.on hb)
    have RV10 := Lib.hid ((RepV.on hb (Nat.le_refl _) RV9.out).up hb.size _)
    clear B9 XU9 RU9 XV9 RV9
    clear hb
    obtain ⟨cU0, cU1, cU2, cU3⟩ := XU10.out.cells
    obtain ⟨cV0, cV1, cV2, cV3⟩ := XV10.out.cells
    go_wp2_with fail
    refine (test_any ⟨#[62]⟩ u v w10.heap.size _ _ _ _ _ _ _ _ _ (Nat.le_refl _) RU10.out RV10.out).mono ?_
    rintro e w11 ⟨rfl, hb⟩
    rw [T2.out]
    clear cU0 cU1 cU2 cU3
    clear cV0 cV1 cV2 cV3
    have B11 := Lib.hid (Below.step B10.out hb)
    have XU11 := Lib.hid (XU10.out.on hb)
    have RU11 := Lib.hid ((RepV.on hb (Nat.le_refl _) RU10.out).up hb.size _)
    have XV11 := Lib.hid (XV10.out.on hb)
    have RV11 := Lib.hid ((RepV.on hb (Nat.le_refl _) RV10.out).up hb.size _)
    clear B10 XU10 RU10 XV10 RV10
    clear hb
    obtain ⟨cU0, cU1, cU2, cU3⟩ := XU11.out.cells
    obtain ⟨cV0, cV1, cV2, cV3⟩ := XV11.out.cells
    go_wp2_with fail
    refine (test_any ⟨#[33, 61]⟩ u v w11.heap.size _ _ _ _ _ _ _ _ _ (Nat.le_refl _) RU11.out RV11.out).mono ?_
    rintro e w12 ⟨rfl, hb⟩
    rw [T3.out]
    clear cU0 cU1 cU2 cU3
    clear cV0 cV1 cV2 cV3
    have B12 := Lib.hid (Below.step B11.out hb)
    have XU12 := Lib.hid (XU11.out.on hb)
    have RU12 := Lib.hid ((RepV.on hb (Nat.le_refl _) RU11.out).up hb.size _)
    have XV12 := Lib.hid (XV11.out.on hb)
    have RV12 := Lib.hid ((RepV.on hb (Nat.le_refl _) RV11.out).up hb.size _)
    clear B11 XU11 RU11 XV11 RV11
    clear hb
    obtain ⟨cU0, cU1, cU2, cU3⟩ := XU12.out.cells
    obtain ⟨cV0, cV1, cV2, cV3⟩ := XV12.out.cells
    go_wp2_with fail
    refine (test_any ⟨#[60, 61]⟩ u v w12.heap.size _ _ _ _ _ _ _ _ _ (Nat.le_refl _) RU12.out RV12.out).mono ?_
    rintro e w13 ⟨rfl, hb⟩
    rw [T4.out]
    clear cU0 cU1 cU2 cU3
    clear cV0 cV1 cV2 cV3
    have B13 := Lib.hid (Below.step B12.out hb)
    have XU13 := Lib.hid (XU12.out.on hb)
    have RU13 := Lib.hid ((RepV.on hb (Nat.le_refl _) RU12.out).up hb.size _)
    have XV13 := Lib.hid (XV12.out.on hb)
    have RV13 := Lib.hid ((RepV.on hb (Nat.le_refl _) RV12.out).up hb.size _)
    clear B12 XU12 RU12 XV12 RV12
    clear hb
    obtain ⟨cU0, cU1, cU2, cU3⟩ := XU13.out.cells
    obtain ⟨cV0, cV1, cV2, cV3⟩ := XV13.out.cells
    go_wp2_with fail
    refine (test_any ⟨#[62, 61]⟩ u v w13.heap.size _ _ _ _ _ _ _ _ _ (Nat.le_refl _) RU13.out RV13.out).mono ?_
    rintro e w14 ⟨rfl, hb⟩
    rw [T5.out]
    clear cU0 cU1 cU2 cU3
    clear cV0 cV1 cV2 cV3
    have B14 := Lib.hid (Below.step B13.out hb)
    have XU14 := Lib.hid (XU13.out.on hb)
    have RU14 := Lib.hid ((RepV.on hb (Nat.le_refl _) RU13.out).up hb.size _)
    have XV14 := Lib.hid (XV13.out.on hb)
    have RV14 := Lib.hid ((RepV.on hb (Nat.le_refl _) RV13.out).up hb.size _)
    clear B13 XU13 RU13 XV13 RV13
    clear hb
    obtain ⟨cU0, cU1, cU2, cU3⟩ := XU14.out.cells
    obtain ⟨cV0, cV1, cV2, cV3⟩ := XV14.out.cells
    go_wp2_with fail
    refine (test_any ⟨#[62]⟩ v u w14.heap.size _ _ _ _ _ _ _ _ _ (Nat.le_refl _) RV14.out RU14.out).mono ?_
    rintro e w15 ⟨rfl, hb⟩
    rw [T6.out]
    clear cU0 cU1 cU2 cU3
    clear cV0 cV1 cV2 cV3
    have B15 := Lib.hid (Below.step B14.out hb)
    have XU15 := Lib.hid (XU14.out.on hb)
    have RU15 := Lib.hid ((RepV.on hb (Nat.le_refl _) RU14.out).up hb.size _)
    have XV15 := Lib.hid (XV14.out.on hb)
    have RV15 := Lib.hid ((RepV.on hb (Nat.le_refl _) RV14.out).up hb.size _)
    clear B14 XU14 RU14 XV14 RV14
    clear hb
    obtain ⟨cU0, cU1, cU2, cU3⟩ := XU15.out.cells
    obtain ⟨cV0, cV1, cV2, cV3⟩ := XV15.out.cells
    go_wp2_with fail
    refine (test_any ⟨#[61]⟩ u v w15.heap.size _ _ _ _ _ _ _ _ _ (Nat.le_refl _) RU15.out RV15.out).mono ?_
    rintro e w16 ⟨rfl, hb⟩
    rw [T7.out]
    clear cU0 cU1 cU2 cU3
    clear cV0 cV1 cV2 cV3
    have B16 := Lib.hid (Below.step B15.out hb)
    have XU16 := Lib.hid (XU15.out.on hb)
    have RU16 := Lib.hid ((RepV.on hb (Nat.le_refl _) RU15.out).up hb.size _)
    have XV16 := Lib.hid (XV15.out.on hb)
    have RV16 := Lib.hid ((RepV.on hb (Nat.le_refl _) RV15.out).up hb.size _)
    clear B15 XU15 RU15 XV15 RV15
    clear hb
    go_wp2_with fail
    go_ret
    exact ⟨rfl, B16.out⟩

end Go.Proofs.YtlnkngahiapidaaDoor.builtinTests
