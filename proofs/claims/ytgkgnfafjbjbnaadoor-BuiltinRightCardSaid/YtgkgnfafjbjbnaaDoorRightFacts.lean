/-
  What comes out of Call and Op is right, and comes of right values alone.
-/
import Derived.Test.YtgkgnfafjbjbnaaDoorAwakeTwo
namespace Go.Proofs.YtgkgnfafjbjbnaaDoor
open Go.RowKit

theorem call_right {k : Nat} {args : List V} {r : V} (h : callV k args = some r) : rightV 4 r = true ∧ takesB k args = true := by
  unfold callV at h
  split at h
  · rename_i hc; cases h; exact ⟨hc.2, hc.1⟩
  · cases h
theorem takes_right {k : Nat} {args : List V} (h : takesB k args = true) : (∀ x ∈ args, rightV 4 x = true) ∧ (args.length : Int) = fnArity k := by
  rcases takes_args h with ⟨x, rfl, har, hx⟩ | ⟨x, y, rfl, har, hx, hy⟩
  · exact ⟨fun z hz => by simp at hz; rw [hz]; exact hx, by rw [har]; rfl⟩
  · refine ⟨fun z hz => ?_, by rw [har]; rfl⟩
    simp at hz
    rcases hz with rfl | rfl
    · exact hx
    · exact hy
theorem op_right {s : ByteArray} {a b : V} {n : Int} (h : opZ s a b = some n) : rightV 4 (numV n) = true ∧ rightV 4 a = true ∧ rightV 4 b = true := by
  unfold opZ at h
  split at h
  · rename_i hc
    have ha := hc.1
    have hb := hc.2
    rw [numB, Bool.and_eq_true] at ha hb
    split at h
    · cases h
    · split at h
      · rename_i hr
        cases h
        exact ⟨hr, ha.2, hb.2⟩
      · cases h
  · cases h

end Go.Proofs.YtgkgnfafjbjbnaaDoor
