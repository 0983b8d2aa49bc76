/-
  PrinterTells, the walk: for every program the law returns true.
-/
import Derived.Test.YtgjemmdhamkngaaGreatDoorW19
import Derived.Test.YtgjemmdhamkngaaGreatDoorW20
namespace Go.Proofs.YtgjemmdhamkngaaGreatDoor.printerTells
open Go.RowKit

theorem walk (x : Pr) (W : World) (c0 c1 c2 : Value) (htab : TabOk W) (hx : RepPr (fun k => k < W.heap.size) W x c0 c1 c2) :
    Calls Tryz.prog 3 #[.agg #[c0, c1, c2]] W fun e W' => e = .returned (.bool true) ∧ Below W.heap.size W W' :=
  tells_any x _ W c0 c1 c2 (fun _ h => h) (tab_lt htab) htab hx

end Go.Proofs.YtgjemmdhamkngaaGreatDoor.printerTells
