/-
  ValueGoes: for every two values the law returns true: what is told of any values is told of right ones, which are right and are printed.
-/
import Derived.Test.YtagehmcnihebdaaDoorFitRight
import Derived.Test.YtagehmcnihebdaaDoorLawTells
namespace Go.Proofs.YtagehmcnihebdaaDoor.valueGoes
open Go.ChangeShapes Go.WideShapes Go.ChangeAt Go.RowKit

theorem fit_text_size (x : V) : (fitV 4 x).text.size ≤ 32 := by
  have hf : ∀ y, (fitFlat y).text.size ≤ 32 := by
    intro y
    unfold fitFlat
    split
    · show (0 : Nat) ≤ 32; omega
    · split
      · show (⟨(textOf y.text).toArray⟩ : ByteArray).size ≤ 32; rw [size_mk', textOf_length]; omega
      · show (⟨(nameOf y.text).toArray⟩ : ByteArray).size ≤ 32; rw [size_mk', nameOf_length]; omega
  unfold fitV
  split
  · show (0 : Nat) ≤ 32; omega
  · exact hf x

/-- What 'Fit' is known to do. -/
def FitC : Prop := ∀ (x : V) (B : Nat) (w : World) (c0 c1 c2 c3 : Value), B ≤ w.heap.size → RepV B w x c0 c1 c2 c3 → Calls Tryd.prog 28 #[.agg #[c0, c1, c2, c3]] w (FitPost (fitV 4 x) w)

set_option maxHeartbeats 4000000 in
theorem walkF (hfit : FitC) (x y : V) (W : World) (c0 c1 c2 c3 d0 d1 d2 d3 : Value) (htab : TabOk W) (hx : RepV W.heap.size W x c0 c1 c2 c3) (hy : RepV W.heap.size W y d0 d1 d2 d3) :
    Calls Tryd.prog 4 #[.agg #[c0, c1, c2, c3], .agg #[d0, d1, d2, d3]] W fun e W' => e = .returned (.bool true) ∧ Below W.heap.size W W' := by
  have HX := Lib.hid hx; have HY := Lib.hid hy
  have HT := Lib.hid htab
  have hg := tab_lt htab
  obtain ⟨fa, fc, rfl, rfl, rfl, rfl⟩ := hx.form
  obtain ⟨ga, gc, rfl, rfl, rfl, rfl⟩ := hy.form
  clear hx hy htab
  go_enter Tryd.func4, Tryd.ntmps4
  go_wp2_with fail
  have b1 := stands_alloc W (.cells #[.int .i64 x.kind, .int .i64 x.num, .string x.text, .slice fa x.list.length fc] 24)
  have s1 := World.size_alloc W (.cells #[.int .i64 x.kind, .int .i64 x.num, .string x.text, .slice fa x.list.length fc] 24)
  generalize W.alloc (.cells #[.int .i64 x.kind, .int .i64 x.num, .string x.text, .slice fa x.list.length fc] 24) = W1 at *
  have y2 := boxed_new W1 (.int .i64 y.kind) (.int .i64 y.num) (.string y.text) (.slice ga y.list.length gc)
  have b2 := stands_alloc W1 (.cells #[.int .i64 y.kind, .int .i64 y.num, .string y.text, .slice ga y.list.length gc] 24)
  generalize W1.alloc (.cells #[.int .i64 y.kind, .int .i64 y.num, .string y.text, .slice ga y.list.length gc] 24) = W2 at *
  rw [s1] at y2
  have B2 := Below.step b1 b2
  clear b1 b2 s1
  refine (hfit x W.heap.size _ _ _ _ _ B2.size (HX.out.on B2 (Nat.le_refl _))).mono ?_
  rintro e w3 ⟨e0, e1, e2, e3, rfl, hr3, hb3⟩
  have HU := Lib.hid (hr3.on (S' := fun b => b < w3.heap.size) (fun b hb => hb.2) (fun _ _ => rfl))
  obtain ⟨pa, pc, rfl, rfl, rfl, rfl⟩ := hr3.form
  have y3 := y2.on hb3
  have B3 := Below.step B2 hb3
  have HRX := Lib.hid (fit_right 4 x)
  have HPX := Lib.hid (fit_printed x)
  have hsx := fit_text_size x
  clear y2 B2 hr3 hb3
  generalize fitV 4 x = u at *
  obtain ⟨q0, q1, q2, q3⟩ := (y3.on (stands_alloc w3 (.cells #[.int .i64 u.kind, .int .i64 u.num, .string u.text, .slice pa u.list.length pc] 24))).cells
  go_wp2_with fail
  have u4 := boxed_new w3 (.int .i64 u.kind) (.int .i64 u.num) (.string u.text) (.slice pa u.list.length pc)
  have b4 := stands_alloc w3 (.cells #[.int .i64 u.kind, .int .i64 u.num, .string u.text, .slice pa u.list.length pc] 24)
  generalize w3.alloc (.cells #[.int .i64 u.kind, .int .i64 u.num, .string u.text, .slice pa u.list.length pc] 24) = w4 at *
  have B4 := Below.step B3 b4
  refine (hfit y W.heap.size _ _ _ _ _ B4.size (HY.out.on B4 (Nat.le_refl _))).mono ?_
  rintro e w5 ⟨e0, e1, e2, e3, rfl, hr5, hb5⟩
  have HV := Lib.hid (hr5.on (S' := fun b => b < w5.heap.size) (fun b hb => hb.2) (fun _ _ => rfl))
  obtain ⟨ra, rc, rfl, rfl, rfl, rfl⟩ := hr5.form
  have u5 := u4.on hb5
  have B5 := Below.step B4 hb5
  have HU5 := Lib.hid ((RepV.on (Below.step b4 hb5) (Nat.le_refl _) HU.out).up (Below.step b4 hb5).size _)
  clear y3 B3 b4 B4 u4 hr5 hb5 q0 q1 q2 q3 HU
  generalize fitV 4 y = v at *
  obtain ⟨q0, q1, q2, q3⟩ := (u5.on (stands_alloc w5 (.cells #[.int .i64 v.kind, .int .i64 v.num, .string v.text, .slice ra v.list.length rc] 24))).cells
  go_wp2_with fail
  have b6 := stands_alloc w5 (.cells #[.int .i64 v.kind, .int .i64 v.num, .string v.text, .slice ra v.list.length rc] 24)
  generalize w5.alloc (.cells #[.int .i64 v.kind, .int .i64 v.num, .string v.text, .slice ra v.list.length rc] 24) = w6 at *
  have u6 := u5.on b6
  have B6 := Below.step B5 b6
  have HU6 := Lib.hid ((RepV.on b6 (Nat.le_refl _) HU5.out).up b6.size _)
  have HV6 := Lib.hid ((RepV.on b6 (Nat.le_refl _) HV.out).up b6.size _)
  obtain ⟨-, hun, -⟩ := RepG.bounds HU6.out
  clear u5 b6 B5 HU5 HV q0 q1 q2 q3
  refine (valueTells.walk u v u.num u.text _ _ _ _ _ _ _ _ _ (HT.out.below hg B6) HU6.out HV6.out hun (by unfold maxLen; omega) (by omega)).mono ?_
  rintro e w7 ⟨rfl, hb7⟩
  have u7 := u6.on hb7
  have B7 := Below.step B6 hb7
  have HU7 := Lib.hid ((RepV.on hb7 (Nat.le_refl _) HU6.out).up hb7.size _)
  clear u6 hb7 B6 HU6 HV6
  obtain ⟨q0, q1, q2, q3⟩ := u7.cells
  go_wp2_with fail
  refine (right_any u w7.heap.size _ _ _ _ _ (Nat.le_refl _) HU7.out).mono ?_
  rintro e w8 ⟨rfl, hb8⟩
  rw [HRX.out]
  have u8 := u7.on hb8
  have B8 := Below.step B7 hb8
  have HU8 := Lib.hid ((RepV.on hb8 (Nat.le_refl _) HU7.out).up hb8.size _)
  clear u7 hb8 B7 HU7 q0 q1 q2 q3
  obtain ⟨q0, q1, q2, q3⟩ := u8.cells
  go_wp2_with fail
  refine (print_any u w8.heap.size _ _ _ _ _ (Nat.le_refl _) (Nat.lt_of_lt_of_le hg B8.size) (HT.out.below hg B8) HU8.out).mono ?_
  rintro e w9 ⟨rfl, hb9⟩
  have B9 := Below.step B8 hb9
  clear u8 hb9 B8 HU8 q0 q1 q2 q3
  have hne : (⟨(printB u).toArray⟩ : ByteArray).toList.isEmpty = false := by
    rw [← Bool.not_eq_true, isEmpty_size, size_mk']
    exact fun e => HPX.out (List.length_eq_zero_iff.1 e)
  generalize (⟨(printB u).toArray⟩ : ByteArray) = sb at *
  go_wp2_with fail
  go_ret
  exact ⟨rfl, B9⟩

end Go.Proofs.YtagehmcnihebdaaDoor.valueGoes
