/-
  A sum of texts.
-/
import Derived.Test.YtkaiihoijcpldaaW01
namespace Go.Proofs.Ytkaiihoijcpldaa
open Go.RowKit

theorem strAdd (a b : ByteArray) (h : a.size + b.size ≤ 140737488355328) : Op.stringOp .add a b = pure (.string (a ++ b)) := by
  simp only [Op.stringOp]
  rw [if_neg (by rw [show IntKind.i64.max = 9223372036854775807 from by decide]; omega)]
theorem ret_ba {a b : ByteArray} (h : a = b) : Ending.returned (.string a) = .returned (.string b) := by rw [h]


end Go.Proofs.Ytkaiihoijcpldaa
