/-
  For layer 2's laws: rows of arguments, and Same of what is the same.
-/
import Derived.Test.YtgkgnfafjbjbnaaDoorAwakeWalk
import Derived.Test.YtgkgnfafjbjbnaaDoorListFacts
import Derived.Test.YtgkgnfafjbjbnaaDoorPickTwo
import Derived.Test.YtgkgnfafjbjbnaaDoorLaw
import Derived.Test.YtgkgnfafjbjbnaaDoorSame
namespace Go.Proofs.YtgkgnfafjbjbnaaDoor
open Go.RowKit

theorem one_at {v w : World} {b : Nat} {x : V} {c0 c1 c2 c3 : Value} (hb : w.heap[b]? = some (.cells #[c0, c1, c2, c3] 24 (0, 0))) (hv : Below v.heap.size v w) (hx : RepV v.heap.size v x c0 c1 c2 c3) : RepL w.heap.size w [x] (.slice (some ⟨b, 0, none⟩) 1 1) :=
  one_in (S := fun b => b < v.heap.size) hb (RepV.below (fun j hj => hv.block j hj) x hx) (fun _k hk => Nat.lt_of_lt_of_le hk hv.size)
theorem two_at {v w : World} {b : Nat} {x y : V} {c0 c1 c2 c3 d0 d1 d2 d3 : Value} (hb : w.heap[b]? = some (.cells #[c0, c1, c2, c3, d0, d1, d2, d3] 24 (0, 0))) (hv : Below v.heap.size v w) (hx : RepV v.heap.size v x c0 c1 c2 c3) (hy : RepV v.heap.size v y d0 d1 d2 d3) : RepL w.heap.size w [x, y] (.slice (some ⟨b, 0, none⟩) 2 2) :=
  two_in (S := fun b => b < v.heap.size) hb hv hx hy (fun _ h => h)
theorem same_one (x : V) (B : Nat) (w : World) (c0 c1 c2 c3 d0 d1 d2 d3 : Value) (hB : B ≤ w.heap.size) (h1 : RepV B w x c0 c1 c2 c3) (h2 : RepV B w x d0 d1 d2 d3) :
    Calls Tryd.prog 24 #[.agg #[c0, c1, c2, c3], .agg #[d0, d1, d2, d3]] w fun e w' => e = .returned (.bool true) ∧ Below w.heap.size w w' :=
  (same_any x x B w c0 c1 c2 c3 d0 d1 d2 d3 hB h1 h2).mono fun e w' ⟨he, hb⟩ => ⟨by rw [he, (sameV_iff x x).2 rfl], hb⟩

end Go.Proofs.YtgkgnfafjbjbnaaDoor
