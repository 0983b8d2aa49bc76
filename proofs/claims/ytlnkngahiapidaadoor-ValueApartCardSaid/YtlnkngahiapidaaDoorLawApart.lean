/-
  ValueApart: for every two values the law returns true: of right values Compare is 0 just if they are the same, and just then they have one Print.
-/
import Derived.Test.YtlnkngahiapidaaDoorPrintApart
import Derived.Test.YtlnkngahiapidaaDoorLaw
import Derived.Test.YtlnkngahiapidaaDoorFit
import Derived.Deep.RegionHeld3
namespace Go.Proofs.YtlnkngahiapidaaDoor.valueApart
open Go.ChangeShapes Go.WideShapes Go.ChangeAt Go.RowKit

theorem cmp_self (x : V) : cmpV x x = 0 := by have := (ord_value x x x).sym; omega
/-- What holds of two right values, the same or not. -/
def Facts (u v : V) (b : Bool) : Prop := sameV u v = b ∧ (b = true → u = v) ∧ (cmpV u v == 0) = b ∧ ((⟨(printB u).toArray⟩ : ByteArray).toList == (⟨(printB v).toArray⟩ : ByteArray).toList) = b
theorem facts {u v : V} (hu : rightV 4 u = true) (hv : rightV 4 v = true) : ∃ b, Facts u v b := by
  by_cases h : u = v
  · subst h
    exact ⟨true, (sameV_iff u u).2 rfl, fun _ => rfl, by simp [cmp_self], by simp⟩
  · refine ⟨false, ?_, (fun h => by cases h), ?_, ?_⟩
    · rw [← Bool.not_eq_true]; exact fun e => h ((sameV_iff u v).1 e)
    · rw [← Bool.not_eq_true]; exact fun e => h (cmp_zero u v 4 hu hv (by simpa using e))
    · rw [← Bool.not_eq_true]
      intro e
      have e' : (⟨(printB u).toArray⟩ : ByteArray).toList = (⟨(printB v).toArray⟩ : ByteArray).toList := by simpa using e
      rw [Lib.toList_data, Lib.toList_data] at e'
      exact h (print_apart hu hv (by simpa using e'))

set_option maxRecDepth 100000 in
set_option maxHeartbeats 8000000 in
theorem walk (x y : V) (W : World) (c0 c1 c2 c3 d0 d1 d2 d3 : Value) (htab : TabOk W) (hx : RepV W.heap.size W x c0 c1 c2 c3) (hy : RepV W.heap.size W y d0 d1 d2 d3) :
    Calls Tryd.prog 3 #[.agg #[c0, c1, c2, c3], .agg #[d0, d1, d2, d3]] W fun e W' => e = .returned (.bool true) ∧ Below W.heap.size W W' := by
  have HX := Lib.hid hx; have HY := Lib.hid hy
  have HT := Lib.hid htab
  have hg := tab_lt htab
  obtain ⟨fa, fc, rfl, rfl, rfl, rfl⟩ := hx.form
  obtain ⟨ga, gc, rfl, rfl, rfl, rfl⟩ := hy.form
  clear hx hy htab
  obtain ⟨b, hfacts⟩ := facts (fit_right 4 x) (fit_right 4 y)
  have HF := Lib.hid hfacts; clear hfacts
  go_enter Tryd.func3, Tryd.ntmps3
  go_wp2_with fail
  have x1 := boxed_new W (.int .i64 x.kind) (.int .i64 x.num) (.string x.text) (.slice fa x.list.length fc)
  have b1 := stands_alloc W (.cells #[.int .i64 x.kind, .int .i64 x.num, .string x.text, .slice fa x.list.length fc] 24)
  have s1 := World.size_alloc W (.cells #[.int .i64 x.kind, .int .i64 x.num, .string x.text, .slice fa x.list.length fc] 24)
  generalize W.alloc (.cells #[.int .i64 x.kind, .int .i64 x.num, .string x.text, .slice fa x.list.length fc] 24) = W1 at *
  have y2 := boxed_new W1 (.int .i64 y.kind) (.int .i64 y.num) (.string y.text) (.slice ga y.list.length gc)
  have b2 := stands_alloc W1 (.cells #[.int .i64 y.kind, .int .i64 y.num, .string y.text, .slice ga y.list.length gc] 24)
  generalize W1.alloc (.cells #[.int .i64 y.kind, .int .i64 y.num, .string y.text, .slice ga y.list.length gc] 24) = W2 at *
  rw [s1] at y2
  have X2 := x1.on b2
  have B2 := Below.step b1 b2
  clear x1 b1 b2 s1
  refine (awake_any _ (Nat.lt_of_lt_of_le hg B2.size) (HT.out.below hg B2)).mono ?_
  rintro e w4 ⟨rfl, b4⟩
  have X4 := X2.on b4; have Y4 := Lib.hid (y2.on b4); have B4 := Lib.hid (Below.step B2 b4)
  clear X2 y2 B2 b4
  obtain ⟨p0, p1, p2, p3⟩ := X4.cells
  go_wp2_with fail
  refine (Fit_any x W.heap.size _ _ _ _ _ B4.out.size (HX.out.on B4.out (Nat.le_refl _))).mono ?_
  rintro e w5 ⟨e0, e1, e2, e3, rfl, hr5, hb5⟩
  have HU := Lib.hid (hr5.on (S' := fun b => b < w5.heap.size) (fun b hb => hb.2) (fun _ _ => rfl))
  obtain ⟨pa, pc, rfl, rfl, rfl, rfl⟩ := hr5.form
  have B5 := Lib.hid (Below.step B4.out hb5)
  have Y5 := Lib.hid (Y4.out.on hb5)
  clear X4 Y4 B4 hr5 hb5 p0 p1 p2 p3
  generalize fitV 4 x = u at *
  obtain ⟨q0, q1, q2, q3⟩ := (Y5.out.on (stands_alloc w5 (.cells #[.int .i64 u.kind, .int .i64 u.num, .string u.text, .slice pa u.list.length pc] 24))).cells
  go_wp2_with fail
  have u6 := boxed_new w5 (.int .i64 u.kind) (.int .i64 u.num) (.string u.text) (.slice pa u.list.length pc)
  have b6 := stands_alloc w5 (.cells #[.int .i64 u.kind, .int .i64 u.num, .string u.text, .slice pa u.list.length pc] 24)
  generalize w5.alloc (.cells #[.int .i64 u.kind, .int .i64 u.num, .string u.text, .slice pa u.list.length pc] 24) = w6 at *
  have B6 := Lib.hid (Below.step B5.out b6)
  refine (Fit_any y W.heap.size _ _ _ _ _ B6.out.size (HY.out.on B6.out (Nat.le_refl _))).mono ?_
  rintro e w7 ⟨e0, e1, e2, e3, rfl, hr7, hb7⟩
  have HV := Lib.hid (hr7.on (S' := fun b => b < w7.heap.size) (fun b hb => hb.2) (fun _ _ => rfl))
  obtain ⟨ra, rc, rfl, rfl, rfl, rfl⟩ := hr7.form
  have u7 := Lib.hid (u6.on hb7)
  have B7 := Lib.hid (Below.step B6.out hb7)
  have HU7 := Lib.hid ((RepV.on (Below.step b6 hb7) (Nat.le_refl _) HU.out).up (Below.step b6 hb7).size _)
  clear Y5 B5 b6 B6 u6 hr7 hb7 q0 q1 q2 q3 HU
  generalize fitV 4 y = v at *
  obtain ⟨q0, q1, q2, q3⟩ := (u7.out.on (stands_alloc w7 (.cells #[.int .i64 v.kind, .int .i64 v.num, .string v.text, .slice ra v.list.length rc] 24))).cells
  go_wp2_with fail
  have v8 := Lib.hid (boxed_new w7 (.int .i64 v.kind) (.int .i64 v.num) (.string v.text) (.slice ra v.list.length rc))
  have b8 := stands_alloc w7 (.cells #[.int .i64 v.kind, .int .i64 v.num, .string v.text, .slice ra v.list.length rc] 24)
  generalize w7.alloc (.cells #[.int .i64 v.kind, .int .i64 v.num, .string v.text, .slice ra v.list.length rc] 24) = w8 at *
  have u8 := Lib.hid (u7.out.on b8)
  have B8 := Lib.hid (Below.step B7.out b8)
  have HU8 := Lib.hid ((RepV.on b8 (Nat.le_refl _) HU7.out).up b8.size _)
  have HV8 := Lib.hid ((RepV.on b8 (Nat.le_refl _) HV.out).up b8.size _)
  clear u7 b8 B7 HU7 HV q0 q1 q2 q3
  refine (same_any u v w8.heap.size _ _ _ _ _ _ _ _ _ (Nat.le_refl _) HU8.out HV8.out).mono ?_
  rintro e w9 ⟨rfl, hb9⟩
  rw [HF.out.1]
  have U9 := Lib.hid (u8.out.on hb9)
  have V9 := Lib.hid (v8.out.on hb9)
  have B9 := Lib.hid (Below.step B8.out hb9)
  have HRU := Lib.hid ((RepV.on hb9 (Nat.le_refl _) HU8.out).up hb9.size _)
  have HRV := Lib.hid ((RepV.on hb9 (Nat.le_refl _) HV8.out).up hb9.size _)
  have HT9 := Lib.hid (HT.out.below hg B9.out)
  have hg9 : 0 < w9.heap.size := Nat.lt_of_lt_of_le hg B9.out.size
  clear u8 v8 hb9 B8 HU8 HV8 HX HY
  generalize w5.heap.size = bu at *
  generalize w7.heap.size = bv at *
  obtain ⟨p0, p1, p2, p3⟩ := U9.out.cells
  obtain ⟨q0, q1, q2, q3⟩ := V9.out.cells
  have HK := Lib.hid (Below.drew (Below.refl w9.heap.size w9))
  cases b with
  | true =>
    obtain rfl : u = v := HF.out.2.1 rfl
    have HC : Hid (cmpV u u = 0) := cmp_self u
    clear HF
    go_wp2_with fail
    go_region_held3 (fun w' => w'.cell? ⟨bu, 0, none⟩ = some (.int .i64 u.kind) ∧ w'.cell? ⟨bu, 1, none⟩ = some (.int .i64 u.num) ∧ w'.cell? ⟨bu, 2, none⟩ = some (.string u.text) ∧ w'.cell? ⟨bu, 3, none⟩ = some (.slice pa u.list.length pc) ∧
        w'.cell? ⟨bv, 0, none⟩ = some (.int .i64 u.kind) ∧ w'.cell? ⟨bv, 1, none⟩ = some (.int .i64 u.num) ∧ w'.cell? ⟨bv, 2, none⟩ = some (.string u.text) ∧ w'.cell? ⟨bv, 3, none⟩ = some (.slice ra u.list.length rc))
      (first | exact ⟨(U9.out.on HK.out).cells.1, (U9.out.on HK.out).cells.2.1, (U9.out.on HK.out).cells.2.2.1, (U9.out.on HK.out).cells.2.2.2, (V9.out.on HK.out).cells.1, (V9.out.on HK.out).cells.2.1, (V9.out.on HK.out).cells.2.2.1, (V9.out.on HK.out).cells.2.2.2⟩)
      (first
        | (go_at_call 15; refine (cmp_any u u w9.heap.size _ _ _ _ _ _ _ _ _ HK.out.size (HRU.out.on HK.out (Nat.le_refl _)) (HRV.out.on HK.out (Nat.le_refl _))).mono ?_; rintro e w' ⟨rfl, hb⟩; rw [HC.out]; replace HK := Lib.hid (Below.step HK.out hb); clear hb)
        | (go_at_call 16; ((with_reducible refine (print_any u w9.heap.size _ _ _ _ _ HK.out.size (Nat.lt_of_lt_of_le hg9 HK.out.size) (HT9.out.below hg9 HK.out) (HRU.out.on HK.out (Nat.le_refl _))).mono ?_); rintro e w' ⟨rfl, hb⟩; replace HK := Lib.hid (Below.step HK.out hb); clear hb))
        | (go_at_call 16; ((with_reducible refine (print_any u w9.heap.size _ _ _ _ _ HK.out.size (Nat.lt_of_lt_of_le hg9 HK.out.size) (HT9.out.below hg9 HK.out) (HRV.out.on HK.out (Nat.le_refl _))).mono ?_); rintro e w' ⟨rfl, hb⟩; replace HK := Lib.hid (Below.step HK.out hb); clear hb)))
    go_wp2_with fail
    go_ret
    exact ⟨rfl, Below.step B9.out HK.out⟩
  | false =>
    have HC := Lib.hid HF.out.2.2.1
    have HP := Lib.hid HF.out.2.2.2
    clear HF
    have hc := HC.out
    have hp := HP.out
    have hp' : ¬ ((⟨(printB u).toArray⟩ : ByteArray).toList = (⟨(printB v).toArray⟩ : ByteArray).toList) := by simpa using hp
    have HCM := Lib.hid (cmp_any u v); have HPU := Lib.hid (print_any u); have HPV := Lib.hid (print_any v)
    have hc2 : ¬ cmpV u v = 0 := by simpa using hc
    have hp2 : ¬ printB u = printB v := fun e => hp' (by rw [e])
    have hp3 : (printB u == printB v) = false := by simpa using hp2
    go_wp2_with fail
    go_region_held3 (fun w' => w'.cell? ⟨bu, 0, none⟩ = some (.int .i64 u.kind) ∧ w'.cell? ⟨bu, 1, none⟩ = some (.int .i64 u.num) ∧ w'.cell? ⟨bu, 2, none⟩ = some (.string u.text) ∧ w'.cell? ⟨bu, 3, none⟩ = some (.slice pa u.list.length pc) ∧
        w'.cell? ⟨bv, 0, none⟩ = some (.int .i64 v.kind) ∧ w'.cell? ⟨bv, 1, none⟩ = some (.int .i64 v.num) ∧ w'.cell? ⟨bv, 2, none⟩ = some (.string v.text) ∧ w'.cell? ⟨bv, 3, none⟩ = some (.slice ra v.list.length rc))
      (first | exact ⟨(U9.out.on HK.out).cells.1, (U9.out.on HK.out).cells.2.1, (U9.out.on HK.out).cells.2.2.1, (U9.out.on HK.out).cells.2.2.2, (V9.out.on HK.out).cells.1, (V9.out.on HK.out).cells.2.1, (V9.out.on HK.out).cells.2.2.1, (V9.out.on HK.out).cells.2.2.2⟩)
      (first
        | (go_at_call 15; refine (HCM.out w9.heap.size _ _ _ _ _ _ _ _ _ HK.out.size (HRU.out.on HK.out (Nat.le_refl _)) (HRV.out.on HK.out (Nat.le_refl _))).mono ?_; rintro e w' ⟨rfl, hb⟩; replace HK := Lib.hid (Below.step HK.out hb); clear hb)
        | (go_at_call 16; ((with_reducible refine (HPU.out w9.heap.size _ _ _ _ _ HK.out.size (Nat.lt_of_lt_of_le hg9 HK.out.size) (HT9.out.below hg9 HK.out) (HRU.out.on HK.out (Nat.le_refl _))).mono ?_); rintro e w' ⟨rfl, hb⟩; replace HK := Lib.hid (Below.step HK.out hb); clear hb))
        | (go_at_call 16; ((with_reducible refine (HPV.out w9.heap.size _ _ _ _ _ HK.out.size (Nat.lt_of_lt_of_le hg9 HK.out.size) (HT9.out.below hg9 HK.out) (HRV.out.on HK.out (Nat.le_refl _))).mono ?_); rintro e w' ⟨rfl, hb⟩; replace HK := Lib.hid (Below.step HK.out hb); clear hb)))
    go_wp2_with fail
    go_ret
    exact ⟨rfl, Below.step B9.out HK.out⟩

end Go.Proofs.YtlnkngahiapidaaDoor.valueApart
