/-
  SamePr
-/
import Derived.Test.YtgjemmdhamkngaaGreatDoorKB
import Derived.Test.YtgjemmdhamkngaaGreatDoorKSameFour
import Derived.Deep.Cut
namespace Go.Proofs.YtgjemmdhamkngaaGreatDoor
open Go.RowKit
theorem fa_ext {x y : Fa} : x = y ↔ (x.name = y.name ∧ x.args = y.args) := by
 cases x; cases y
 simp
theorem ru_ext {x y : Ru} : x = y ↔ (x.label = y.label ∧ x.head = y.head ∧ x.agg = y.agg ∧ x.at' = y.at' ∧ x.args = y.args ∧ x.body = y.body) := by
 cases x; cases y
 simp only [Ru.mk.injEq]
 exact ⟨fun ⟨a, b, c, d, e, f⟩ => ⟨a, b, d, e, c, f⟩, fun ⟨a, b, d, e, c, f⟩ => ⟨a, b, c, d, e, f⟩⟩
theorem nm_true {a b : ByteArray} (h : a = b) : (a.toList == b.toList) = true := by simp [h]
theorem nm_false {a b : ByteArray} (h : ¬ a = b) : (a.toList == b.toList) = false := by
 cases e : (a.toList == b.toList) with
 | false => rfl
 | true => exact absurd (toList_inj (by simpa using e)) h
theorem int_false {a b : Int} (h : ¬ a = b) : (a == b) = false := by simp [h]
theorem sameL_eqB (l m : List V) : sameL l m = eqB (l = m) := by
 by_cases h : l = m
 ·rw [eqB_true h]; exact (sameL_iff l m).2 h
 ·rw [eqB_false h]
  cases e : sameL l m with
  | false => rfl
  | true => exact absurd ((sameL_iff l m).1 e) h
set_option maxRecDepth 100000 in
set_option maxHeartbeats 2000000 in
theorem sameFa_any (x y : Fa) (S : Nat → Prop) (w : World) (c0 c1 d0 d1 : Value) (hS : ∀ k, S k → k < w.heap.size) (hx : RepFa S w x c0 c1) (hy : RepFa S w y d0 d1) :
  Calls Tryz.prog 61 #[.agg #[c0, c1], .agg #[d0, d1]] w fun e w' => e = .returned (.bool (eqB (x = y))) ∧ Below w.heap.size w w' := by
 have HS := Lib.hid hS; have HX := Lib.hid hx; have HY := Lib.hid hy
 obtain ⟨ga, gc, rfl, rfl⟩ := hx.form
 obtain ⟨ya, yc, rfl, rfl⟩ := hy.form
 have HEX := Lib.hid (fa_ext (x := x) (y := y))
 clear hx hy hS
 go_enter Tryz.func61, Tryz.ntmps61
 go_upto_region 1 with fail
 have x0 := boxFa_new w (.string x.name) (.slice ga x.args.length gc)
 have b0 := below_alloc w (.cells #[.string x.name, .slice ga x.args.length gc] 33)
 have s0 := World.size_alloc w (.cells #[.string x.name, .slice ga x.args.length gc] 33)
 generalize w.alloc (.cells #[.string x.name, .slice ga x.args.length gc] 33) = w0 at *
 have x1 := boxFa_new w0 (.string y.name) (.slice ya y.args.length yc)
 have b1 := below_alloc w0 (.cells #[.string y.name, .slice ya y.args.length yc] 33)
 generalize w0.alloc (.cells #[.string y.name, .slice ya y.args.length yc] 33) = w1 at *
 rw [s0] at x1
 have X0 := Lib.hid (x0.on b1); have X1 := Lib.hid x1; have B1 := Lib.hid (Below.step b0 b1)
 clear x0 x1 b0 b1 s0
 obtain ⟨p0, p1⟩ := X0.out.cells
 obtain ⟨q0, q1⟩ := X1.out.cells
 by_cases h0 : x.name = y.name
 ·have e0 := nm_true h0
  go_wp2_with fail
  refine (values_of x.args y.args (fun a _ b => same_any a b) w1.heap.size w1 _ _ (Nat.le_refl _) (RepLG.on (fun k hk => Nat.lt_of_lt_of_le (HS.out k hk) B1.out.size) (fun k hk => B1.out.block k (HS.out k hk)) HX.out.2.2) (RepLG.on (fun k hk => Nat.lt_of_lt_of_le (HS.out k hk) B1.out.size) (fun k hk => B1.out.block k (HS.out k hk)) HY.out.2.2)).mono ?_
  rw [sameL_eqB]
  rintro e w2 ⟨rfl, hb⟩
  have B2 := Lib.hid (Below.step B1.out hb)
  have HF : Hid (eqB (x = y) = eqB (x.args = y.args)) := by
   show _ = _
   exact eqB_iff (HEX.out.trans ⟨fun h => h.2, fun h => ⟨h0, h⟩⟩)
  generalize eqB (x.args = y.args) = v at *
  clear hb p0 p1 q0 q1
  cases v with
  | false =>
   go_wp2_with fail
   go_ret
   exact ⟨retB HF.out.symm, B2.out⟩
  | true =>
   go_wp2_with fail
   go_ret
   exact ⟨retB HF.out.symm, B2.out⟩
 ·have e0 := nm_false h0
  have HF : Hid (eqB (x = y) = false) := by
   show _ = _
   exact eqB_false (fun e => h0 (HEX.out.1 e).1)
  go_wp2_with fail
  go_ret
  exact ⟨retB HF.out.symm, B1.out⟩
set_option maxRecDepth 100000 in
set_option maxHeartbeats 4000000 in
theorem sameRu_any (x y : Ru) (S : Nat → Prop) (w : World) (c0 c1 c2 c3 c4 c5 d0 d1 d2 d3 d4 d5 : Value) (hS : ∀ k, S k → k < w.heap.size) (hx : RepRu S w x c0 c1 c2 c3 c4 c5) (hy : RepRu S w y d0 d1 d2 d3 d4 d5) :
  Calls Tryz.prog 62 #[.agg #[c0, c1, c2, c3, c4, c5], .agg #[d0, d1, d2, d3, d4, d5]] w fun e w' => e = .returned (.bool (eqB (x = y))) ∧ Below w.heap.size w w' := by
 have HS := Lib.hid hS; have HX := Lib.hid hx; have HY := Lib.hid hy
 obtain ⟨xa, xc, xd, xe, rfl, rfl, rfl, rfl, rfl, rfl⟩ := hx.form
 obtain ⟨ya, yc, yd, ye, rfl, rfl, rfl, rfl, rfl, rfl⟩ := hy.form
 have HEX := Lib.hid (ru_ext (x := x) (y := y))
 clear hx hy hS
 go_enter Tryz.func62, Tryz.ntmps62
 go_upto_region 1 with fail
 have x0 := boxRu_new w (.string x.label) (.string x.head) (.slice xa x.args.length xc) (.string x.agg) (.int .i64 x.at') (.slice xd x.body.length xe)
 have b0 := below_alloc w (.cells #[.string x.label, .string x.head, .slice xa x.args.length xc, .string x.agg, .int .i64 x.at', .slice xd x.body.length xe] 37)
 have s0 := World.size_alloc w (.cells #[.string x.label, .string x.head, .slice xa x.args.length xc, .string x.agg, .int .i64 x.at', .slice xd x.body.length xe] 37)
 generalize w.alloc (.cells #[.string x.label, .string x.head, .slice xa x.args.length xc, .string x.agg, .int .i64 x.at', .slice xd x.body.length xe] 37) = w0 at *
 have x1 := boxRu_new w0 (.string y.label) (.string y.head) (.slice ya y.args.length yc) (.string y.agg) (.int .i64 y.at') (.slice yd y.body.length ye)
 have b1 := below_alloc w0 (.cells #[.string y.label, .string y.head, .slice ya y.args.length yc, .string y.agg, .int .i64 y.at', .slice yd y.body.length ye] 37)
 generalize w0.alloc (.cells #[.string y.label, .string y.head, .slice ya y.args.length yc, .string y.agg, .int .i64 y.at', .slice yd y.body.length ye] 37) = w1 at *
 rw [s0] at x1
 have X0 := Lib.hid (x0.on b1); have X1 := Lib.hid x1; have B1 := Lib.hid (Below.step b0 b1)
 clear x0 x1 b0 b1 s0
 obtain ⟨p0, p1, p2, p3, p4, p5⟩ := X0.out.cells
 obtain ⟨q0, q1, q2, q3, q4, q5⟩ := X1.out.cells
 by_cases h0 : x.label = y.label
 ·have e0 := nm_true h0
  by_cases h1 : x.head = y.head
  ·have e1 := nm_true h1
   by_cases h2 : x.agg = y.agg
   ·have e2 := nm_true h2
    by_cases h3 : x.at' = y.at'
    ·have e3 := (beq_iff_eq.2 h3 : (x.at' == y.at') = true)
     go_wp2_with fail
     refine (sameTms_any x.args y.args S w1 _ _ (fun k hk => Nat.lt_of_lt_of_le (HS.out k hk) B1.out.size) (RepMs.on (fun _ h => h) (fun k hk => B1.out.block k (HS.out k hk)) HX.out.2.2.2.2.2.2.2.2.1) (RepMs.on (fun _ h => h) (fun k hk => B1.out.block k (HS.out k hk)) HY.out.2.2.2.2.2.2.2.2.1)).mono ?_
     rintro e w2 ⟨rfl, hb⟩
     have B2 := Lib.hid (Below.step B1.out hb); have Y0 := Lib.hid (X0.out.on hb); have Y1 := Lib.hid (X1.out.on hb)
     clear hb p0 p1 p2 p3 p4 p5 q0 q1 q2 q3 q4 q5
     obtain ⟨p0, p1, p2, p3, p4, p5⟩ := Y0.out.cells
     obtain ⟨q0, q1, q2, q3, q4, q5⟩ := Y1.out.cells
     by_cases h4 : x.args = y.args
     ·rw [eqB_true h4]
      go_wp2_with fail
      refine (sameLis_any x.body y.body S w2 _ _ (fun k hk => Nat.lt_of_lt_of_le (HS.out k hk) B2.out.size) (RepLis.on (fun _ h => h) (fun k hk => B2.out.block k (HS.out k hk)) HX.out.2.2.2.2.2.2.2.2.2) (RepLis.on (fun _ h => h) (fun k hk => B2.out.block k (HS.out k hk)) HY.out.2.2.2.2.2.2.2.2.2)).mono ?_
      rintro e w3 ⟨rfl, hb⟩
      have B3 := Lib.hid (Below.step B2.out hb)
      have HF : Hid (eqB (x = y) = eqB (x.body = y.body)) := by
       show _ = _
       exact eqB_iff (HEX.out.trans ⟨fun h => h.2.2.2.2.2, fun h => ⟨h0, h1, h2, h3, h4, h⟩⟩)
      generalize eqB (x.body = y.body) = v at *
      clear hb p0 p1 p2 p3 p4 p5 q0 q1 q2 q3 q4 q5
      cases v with
      | false =>
       go_wp2_with fail
       go_ret
       exact ⟨retB HF.out.symm, B3.out⟩
      | true =>
       go_wp2_with fail
       go_ret
       exact ⟨retB HF.out.symm, B3.out⟩
     ·rw [eqB_false h4]
      have HF : Hid (eqB (x = y) = false) := by
       show _ = _
       exact eqB_false (fun e => h4 (HEX.out.1 e).2.2.2.2.1)
      go_wp2_with fail
      go_ret
      exact ⟨retB HF.out.symm, B2.out⟩
    ·have e3 := int_false h3
     have HF : Hid (eqB (x = y) = false) := by
      show _ = _
      exact eqB_false (fun e => h3 (HEX.out.1 e).2.2.2.1)
     go_wp2_with fail
     go_ret
     exact ⟨retB HF.out.symm, B1.out⟩
   ·have e2 := nm_false h2
    have HF : Hid (eqB (x = y) = false) := by
     show _ = _
     exact eqB_false (fun e => h2 (HEX.out.1 e).2.2.1)
    go_wp2_with fail
    go_ret
    exact ⟨retB HF.out.symm, B1.out⟩
  ·have e1 := nm_false h1
   have HF : Hid (eqB (x = y) = false) := by
    show _ = _
    exact eqB_false (fun e => h1 (HEX.out.1 e).2.1)
   go_wp2_with fail
   go_ret
   exact ⟨retB HF.out.symm, B1.out⟩
 ·have e0 := nm_false h0
  have HF : Hid (eqB (x = y) = false) := by
   show _ = _
   exact eqB_false (fun e => h0 (HEX.out.1 e).1)
  go_wp2_with fail
  go_ret
  exact ⟨retB HF.out.symm, B1.out⟩
end Go.Proofs.YtgjemmdhamkngaaGreatDoor
