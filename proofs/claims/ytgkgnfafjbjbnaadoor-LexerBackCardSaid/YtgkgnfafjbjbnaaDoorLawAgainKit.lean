/-
  For layer 3's laws: bytes one behind the other.
-/
import Derived.Test.YtgkgnfafjbjbnaaDoorLexLaw
namespace Go.Proofs.YtgkgnfafjbjbnaaDoor
open Go.RowKit

theorem bytes_app (a b : ByteArray) : (a ++ b).data.toList = a.data.toList ++ b.data.toList := by
  rw [ByteArray.data_append, Array.toList_append]

end Go.Proofs.YtgkgnfafjbjbnaaDoor
