/-
  How many bytes a list of them has.
-/
import Derived.RowKit
namespace Go.Proofs.Ytkaiihoijcpldaa
open Go.RowKit

theorem size_mk (l : List UInt8) : (⟨l.toArray⟩ : ByteArray).size = l.length := by
  show l.toArray.size = _
  simp


end Go.Proofs.Ytkaiihoijcpldaa
