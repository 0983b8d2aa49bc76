/-
  The law's own 'Fit'.
-/
import Derived.Test.YtkaiihoijcpldaaFitList
namespace Go.Proofs.Ytkaiihoijcpldaa
open Go.RowKit

/-- 'Fit' of any value. -/
theorem Fit_any (x : V) (B : Nat) (w : World) (c0 c1 c2 c3 : Value) (hB : B ≤ w.heap.size) (hx : RepV B w x c0 c1 c2 c3) :
    Calls Try.prog 29 #[.agg #[c0, c1, c2, c3]] w (FitPost (fitV 4 x) w) := by
  obtain ⟨fa, fc, rfl, rfl, rfl, rfl⟩ := hx.form
  have HX := Lib.hid hx; clear hx
  go_enter Try.func29, Try.ntmps29
  go_wp2_with fail
  have b1 := below_alloc w (.cells #[.int .i64 x.kind, .int .i64 x.num, .string x.text, .slice fa x.list.length fc] 46)
  have s1 := World.size_alloc w (.cells #[.int .i64 x.kind, .int .i64 x.num, .string x.text, .slice fa x.list.length fc] 46)
  generalize w.alloc (.cells #[.int .i64 x.kind, .int .i64 x.num, .string x.text, .slice fa x.list.length fc] 46) = w1 at *
  have r2 := boxed_new w1 (.int .i64 0) (.int .i64 0) (.string ⟨#[]⟩) (.slice none 0 0)
  have b2 := below_alloc w1 (.cells #[.int .i64 0, .int .i64 0, .string ⟨#[]⟩, .slice none 0 0] 46)
  have s2 := World.size_alloc w1 (.cells #[.int .i64 0, .int .i64 0, .string ⟨#[]⟩, .slice none 0 0] 46)
  generalize w1.alloc (.cells #[.int .i64 0, .int .i64 0, .string ⟨#[]⟩, .slice none 0 0] 46) = w2 at *
  rw [s1] at r2
  have B2 := Below.step b1 b2
  refine (fit_any 4 (by omega) x B _ _ _ _ _ (by omega) (RepV.on B2 hB HX.out) (fun h => by omega)).mono ?_
  rintro e w3 ⟨c0, c1, c2, c3, rfl, hrep, hb⟩
  have RR := r2.on hb
  have HR := Lib.hid hrep
  have HB := Lib.hid (stored_below (k := w.heap.size + 1) (by omega) (Below.step B2 hb) c0 c1 c2 c3)
  obtain ⟨fa', fc', rfl, rfl, rfl, rfl⟩ := hrep.form
  generalize fitV 4 x = y at *
  clear r2 b1 b2 B2 hb hrep
  obtain ⟨r0, r1, r2, r3⟩ := RR.cells
  have z0 := frozen_of_row w3 _ 0 _ _ RR
  have z1 := frozen_of_row w3 _ 1 _ _ RR
  have z2 := frozen_of_row w3 _ 2 _ _ RR
  have z3 := frozen_of_row w3 _ 3 _ _ RR
  clear RR
  go_wp2_with fail
  refine bodyPost_ret (v := .agg #[.int .i64 y.kind, .int .i64 y.num, .string y.text, .slice fa' y.list.length fc']) (by simp [results, Try.results29, go_sem, r0, r1, r2, r3]) rfl ?_
  refine ⟨_, _, _, _, rfl, HR.out.on (fun b hb => ⟨by omega, by simp [World.setCell]; exact hb.2⟩) (fun b hb => ?_), HB.out⟩
  rw [Below.heap_setCell _ _ _ _ (by simp; omega), Below.heap_setCell _ _ _ _ (by simp; omega), Below.heap_setCell _ _ _ _ (by simp; omega), Below.heap_setCell _ _ _ _ (by simp; omega)]

end Go.Proofs.Ytkaiihoijcpldaa
