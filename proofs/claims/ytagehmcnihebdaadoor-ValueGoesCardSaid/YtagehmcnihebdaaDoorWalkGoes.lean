/-
  ValueGoes, with 'Fit' as it is.
-/
import Derived.Test.YtagehmcnihebdaaDoorLawGoes
import Derived.Test.YtagehmcnihebdaaDoorFit
namespace Go.Proofs.YtagehmcnihebdaaDoor.valueGoes
open Go.RowKit

theorem walk (x y : V) (W : World) (c0 c1 c2 c3 d0 d1 d2 d3 : Value) (htab : TabOk W) (hx : RepV W.heap.size W x c0 c1 c2 c3) (hy : RepV W.heap.size W y d0 d1 d2 d3) :
    Calls Tryd.prog 4 #[.agg #[c0, c1, c2, c3], .agg #[d0, d1, d2, d3]] W fun e W' => e = .returned (.bool true) ∧ Below W.heap.size W W' :=
  walkF Fit_any x y W c0 c1 c2 c3 d0 d1 d2 d3 htab hx hy

end Go.Proofs.YtagehmcnihebdaaDoor.valueGoes
