/-
  builtin's function.takes: does a function take these arguments?
-/
import Derived.Test.YtgkgnfafjbjbnaaDoorFind
import Derived.Test.YtgkgnfafjbjbnaaDoorRight
namespace Go.Proofs.YtgkgnfafjbjbnaaDoor
open Go.RowKit

/-- One argument: it is right, and a list where one must be. -/
def argB (l : Bool) (x : V) : Bool := rightV 4 x && (!l || (x.kind == 4))
theorem argB_wrong {l : Bool} {x : V} (h : rightV 4 x = false) : argB l x = false := by rw [argB, h]; rfl
theorem argB_any {x : V} (h : rightV 4 x = true) : argB false x = true := by rw [argB, h]; rfl
theorem argB_list {x : V} (h : rightV 4 x = true) : argB true x = (x.kind == 4) := by rw [argB, h]; simp

theorem retBool {a b : Bool} (h : a = b) : Ending.returned (.bool a) = .returned (.bool b) := by rw [h]

set_option maxRecDepth 100000 in
set_option maxHeartbeats 2000000 in
theorem takes_not (ar : Int) (l0 l1 : Bool) (k : Nat) (w : World) (a : Option Addr) (n cap : Nat) (h : ((n : Int) != ar) = true) :
    Calls Tryd.prog 51 #[.agg #[.int .i64 ar, .bool l0, .bool l1, fnDo k], .slice a n cap] w fun e w' => e = .returned (.bool false) ∧ Below w.heap.size w w' := by
  generalize fnDo k = d
  go_enter Tryd.func51, Tryd.ntmps51
  go_wp2_with fail
  go_ret
  exact ⟨rfl, (Below.refl _ _).alloc (Nat.le_refl _) _⟩

set_option maxRecDepth 100000 in
set_option maxHeartbeats 2000000 in
theorem takes_one (l0 l1 : Bool) (k : Nat) (x : V) (B : Nat) (w : World) (a : Value) (hB : B ≤ w.heap.size) (ha : RepL B w [x] a) :
    Calls Tryd.prog 51 #[.agg #[.int .i64 1, .bool l0, .bool l1, fnDo k], a] w fun e w' => e = .returned (.bool (argB l0 x)) ∧ Below w.heap.size w w' := by
  generalize fnDo k = d
  have hb1 : Below w.heap.size w (w.alloc (.cells #[.int .i64 1, .bool l0, .bool l1, d] 74)) := (Below.refl _ w).alloc (Nat.le_refl _) _
  have HF := Lib.hid (alloc_new' w (.cells #[.int .i64 1, .bool l0, .bool l1, d] 74))
  have HB1 := Lib.hid hb1
  obtain ⟨aa, ab, ao, ac, rfl, hac, -⟩ := id ha
  obtain ⟨-, -, b, o, fa, fc, rfl, hSb, g0, g1, g2, g3, g⟩ := RepLG.at (RepL.below (w' := w.alloc (.cells #[.int .i64 1, .bool l0, .bool l1, d] 74)) (fun j hj => hb1.block j (by omega)) ha) 0 (by simp)
  simp only [List.getElem_cons_zero, Nat.zero_mul, Nat.add_zero, List.length_cons, List.length_nil, Nat.zero_add] at g0 g1 g2 g3 g hac ⊢
  have HG := Lib.hid g
  have hs1 := World.size_alloc w (.cells #[.int .i64 1, .bool l0, .bool l1, d] 74)
  have HS1 := Lib.hid hs1
  clear ha hb1 g hs1
  go_enter Tryd.func51, Tryd.ntmps51
  go_wp2_with fail
  generalize w.alloc (.cells #[.int .i64 1, .bool l0, .bool l1, d] 74) = w1 at *
  refine wp_loop_rounds 2 ?_
  rw [rounds_succ]
  go_wp2_with fail
  have Z := boxed_new w1 (.int .i64 x.kind) (.int .i64 x.num) (.string x.text) (.slice fa x.list.length fc)
  have b2 := (Below.refl _ w1).alloc (Nat.le_refl _) (.cells #[.int .i64 x.kind, .int .i64 x.num, .string x.text, .slice fa x.list.length fc] 24)
  generalize w1.alloc (.cells #[.int .i64 x.kind, .int .i64 x.num, .string x.text, .slice fa x.list.length fc] 24) = w2 at *
  have hs2 := b2.size
  refine (right_any x B w2 _ _ _ _ (by have := HS1.out; omega) (HG.out.on (fun _ h => h) (fun j hj => b2.block j (by have := HS1.out; omega)))).mono ?_
  rintro e w3 ⟨rfl, hb3⟩
  have HB3 := Lib.hid (Below.trans HB1.out ((Below.step b2 hb3).mono (by have := HS1.out; omega)))
  have hf := ((Below.step b2 hb3).block w.heap.size (by have := HS1.out; omega)).trans HF.out
  have f1 := cell_of_block' (i := 1) hf _ rfl
  have z0 := (Z.on hb3).cells.1
  clear Z b2 hb3 hf g0 g1 g2 g3
  cases hr : rightV 4 x with
  | false =>
    have HR := Lib.hid (argB_wrong (l := l0) hr)
    clear hr
    go_wp2_with fail
    go_ret
    exact ⟨retBool HR.out.symm, HB3.out⟩
  | true =>
    cases l0 with
    | false =>
      have HR := Lib.hid (argB_any hr)
      clear hr
      go_wp2_with fail
      rw [rounds_succ]
      go_wp2_with fail
      go_ret
      exact ⟨retBool HR.out.symm, HB3.out⟩
    | true =>
      have HR := Lib.hid (argB_list hr)
      clear hr
      cases hk : (x.kind == 4) with
      | false =>
        have HK := Lib.hid hk
        have hk2 : (x.kind != 4) = true := by simpa using hk
        clear hk
        go_wp2_with fail
        go_ret
        exact ⟨retBool (HR.out.trans HK.out).symm, HB3.out⟩
      | true =>
        have HK := Lib.hid hk
        have hk2 : (x.kind != 4) = false := by simpa using hk
        clear hk
        go_wp2_with fail
        rw [rounds_succ]
        go_wp2_with fail
        go_ret
        exact ⟨retBool (HR.out.trans HK.out).symm, HB3.out⟩

set_option maxRecDepth 100000 in
set_option maxHeartbeats 4000000 in
theorem takes_two (l0 l1 : Bool) (k : Nat) (x y : V) (B : Nat) (w : World) (a : Value) (hB : B ≤ w.heap.size) (ha : RepL B w [x, y] a) :
    Calls Tryd.prog 51 #[.agg #[.int .i64 2, .bool l0, .bool l1, fnDo k], a] w fun e w' => e = .returned (.bool (argB l0 x && argB l1 y)) ∧ Below w.heap.size w w' := by
  generalize fnDo k = d
  have hb1 : Below w.heap.size w (w.alloc (.cells #[.int .i64 2, .bool l0, .bool l1, d] 74)) := (Below.refl _ w).alloc (Nat.le_refl _) _
  have HF := Lib.hid (alloc_new' w (.cells #[.int .i64 2, .bool l0, .bool l1, d] 74))
  have HB1 := Lib.hid hb1
  obtain ⟨aa, ab, ao, ac, rfl, hac, -⟩ := id ha
  have ha1 : RepL B (w.alloc (.cells #[.int .i64 2, .bool l0, .bool l1, d] 74)) [x, y] (.slice aa [x, y].length ac) := RepL.below (fun j hj => hb1.block j (by omega)) ha
  obtain ⟨-, -, b, o, fa, fc, rfl, hSb, g0, g1, g2, g3, g⟩ := RepLG.at ha1 0 (by simp)
  obtain ⟨-, -, b', o', fa', fc', e', -, e0, e1, e2, e3, g'⟩ := RepLG.at ha1 1 (by simp)
  cases e'
  simp only [List.getElem_cons_zero, List.getElem_cons_succ, Nat.zero_mul, Nat.one_mul, Nat.add_zero, List.length_cons, List.length_nil, Nat.zero_add, Nat.reduceAdd] at g0 g1 g2 g3 g e0 e1 e2 e3 g' hac ⊢
  have HG := Lib.hid g; have HG' := Lib.hid g'
  have E0 := Lib.hid e0; have E1 := Lib.hid e1; have E2 := Lib.hid e2; have E3 := Lib.hid e3
  have hs1 := World.size_alloc w (.cells #[.int .i64 2, .bool l0, .bool l1, d] 74)
  have HS1 := Lib.hid hs1
  clear ha ha1 hb1 g g' hs1 e0 e1 e2 e3
  go_enter Tryd.func51, Tryd.ntmps51
  go_wp2_with fail
  generalize w.alloc (.cells #[.int .i64 2, .bool l0, .bool l1, d] 74) = w1 at *
  refine wp_loop_rounds 3 ?_
  rw [rounds_succ]
  go_wp2_with fail
  have Z := boxed_new w1 (.int .i64 x.kind) (.int .i64 x.num) (.string x.text) (.slice fa x.list.length fc)
  have b2 := (Below.refl _ w1).alloc (Nat.le_refl _) (.cells #[.int .i64 x.kind, .int .i64 x.num, .string x.text, .slice fa x.list.length fc] 24)
  generalize w1.alloc (.cells #[.int .i64 x.kind, .int .i64 x.num, .string x.text, .slice fa x.list.length fc] 24) = w2 at *
  have hs2 := b2.size
  refine (right_any x B w2 _ _ _ _ (by have := HS1.out; omega) (HG.out.on (fun _ h => h) (fun j hj => b2.block j (by have := HS1.out; omega)))).mono ?_
  rintro e w3 ⟨rfl, hb3⟩
  have HW3 := Lib.hid (Below.step b2 hb3)
  have HB3 := Lib.hid (Below.trans HB1.out (HW3.out.mono (by have := HS1.out; omega)))
  have hf := (HW3.out.block w.heap.size (by have := HS1.out; omega)).trans HF.out
  have f1 := cell_of_block' (i := 1) hf _ rfl
  have z0 := (Z.on hb3).cells.1
  have e0 := (HW3.out.cell (p := ⟨b, o + 4, none⟩) (by have := HS1.out; simp; omega)).trans E0.out
  have e1 := (HW3.out.cell (p := ⟨b, o + 4 + 1, none⟩) (by have := HS1.out; simp; omega)).trans E1.out
  have e2 := (HW3.out.cell (p := ⟨b, o + 4 + 2, none⟩) (by have := HS1.out; simp; omega)).trans E2.out
  have e3 := (HW3.out.cell (p := ⟨b, o + 4 + 3, none⟩) (by have := HS1.out; simp; omega)).trans E3.out
  have hs3 := HW3.out.size
  clear Z b2 hb3 hf g0 g1 g2 g3
  -- what the second argument brings
  cases hr : argB l0 x with
  | false =>
    have hcase : rightV 4 x = false ∨ (rightV 4 x = true ∧ l0 = true ∧ (x.kind == 4) = false) := by
      cases h1 : rightV 4 x with
      | false => exact .inl rfl
      | true =>
        cases l0 with
        | false => rw [argB_any h1] at hr; cases hr
        | true => rw [argB_list h1] at hr; exact .inr ⟨rfl, rfl, hr⟩
    have HA := Lib.hid hr
    clear hr
    rcases hcase with h1 | ⟨h1, rfl, h2⟩
    · rw [h1]
      clear h1
      go_wp2_with fail
      go_ret
      exact ⟨retBool (by rw [HA.out]; rfl), HB3.out⟩
    · rw [h1]
      have hk2 : (x.kind != 4) = true := by simpa using h2
      clear h1 h2
      go_wp2_with fail
      go_ret
      exact ⟨retBool (by rw [HA.out]; rfl), HB3.out⟩
  | true =>
    have hcase : rightV 4 x = true ∧ (l0 = false ∨ (l0 = true ∧ (x.kind != 4) = false)) := by
      cases h1 : rightV 4 x with
      | false => rw [argB_wrong h1] at hr; cases hr
      | true =>
        cases l0 with
        | false => exact ⟨rfl, .inl rfl⟩
        | true => rw [argB_list h1] at hr; exact ⟨rfl, .inr ⟨rfl, by simpa using hr⟩⟩
    have HA := Lib.hid hr
    clear hr
    obtain ⟨h1, hc⟩ := hcase
    rw [h1]
    clear h1
    rcases hc with rfl | ⟨rfl, h2⟩
    all_goals
      go_wp2_with fail
      rw [rounds_succ]
      go_wp2_with fail
      have Z := boxed_new w3 (.int .i64 y.kind) (.int .i64 y.num) (.string y.text) (.slice fa' y.list.length fc')
      have b4 := (Below.refl _ w3).alloc (Nat.le_refl _) (.cells #[.int .i64 y.kind, .int .i64 y.num, .string y.text, .slice fa' y.list.length fc'] 24)
      generalize w3.alloc (.cells #[.int .i64 y.kind, .int .i64 y.num, .string y.text, .slice fa' y.list.length fc'] 24) = w4 at *
      have hs4 := b4.size
      refine (right_any y B w4 _ _ _ _ (by have := HS1.out; omega) (HG'.out.on (fun _ h => h) (fun j hj => (Below.step HW3.out b4).block j (by have := HS1.out; omega)))).mono ?_
      rintro e w5 ⟨rfl, hb5⟩
      have HB5 := Lib.hid (Below.trans HB3.out ((Below.step b4 hb5).mono (by have := HS1.out; omega)))
      have hf := ((Below.step HW3.out (Below.step b4 hb5)).block w.heap.size (by have := HS1.out; omega)).trans HF.out
      have f2 := cell_of_block' (i := 2) hf _ rfl
      have y0 := (Z.on hb5).cells.1
      clear Z b4 hb5 hf e0 e1 e2 e3 z0 f1
      cases hr : rightV 4 y with
      | false =>
        have HR := Lib.hid (argB_wrong (l := l1) hr)
        clear hr
        go_wp2_with fail
        go_ret
        exact ⟨retBool (by rw [HA.out, HR.out]; rfl), HB5.out⟩
      | true =>
        cases l1 with
        | false =>
          have HR := Lib.hid (argB_any hr)
          clear hr
          go_wp2_with fail
          rw [rounds_succ]
          go_wp2_with fail
          go_ret
          exact ⟨retBool (by rw [HA.out, HR.out]; rfl), HB5.out⟩
        | true =>
          have HR := Lib.hid (argB_list hr)
          clear hr
          cases hk : (y.kind == 4) with
          | false =>
            have HK := Lib.hid hk
            have hk2 : (y.kind != 4) = true := by simpa using hk
            clear hk
            go_wp2_with fail
            go_ret
            exact ⟨retBool (by rw [HA.out, HR.out, HK.out]; rfl), HB5.out⟩
          | true =>
            have HK := Lib.hid hk
            have hk2 : (y.kind != 4) = false := by simpa using hk
            clear hk
            go_wp2_with fail
            rw [rounds_succ]
            go_wp2_with fail
            go_ret
            exact ⟨retBool (by rw [HA.out, HR.out, HK.out]; rfl), HB5.out⟩

end Go.Proofs.YtgkgnfafjbjbnaaDoor
