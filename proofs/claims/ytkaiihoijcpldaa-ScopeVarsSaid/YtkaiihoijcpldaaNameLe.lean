/-
  How long names are; which values are right.
-/
import Derived.Test.YtkaiihoijcpldaaW11
import Derived.Test.YtkaiihoijcpldaaW10
namespace Go.Proofs.Ytkaiihoijcpldaa
open Go.RowKit

theorem relB_name {s : ByteArray} (h : relB s = true) : nameB s = true := by
  rw [relB, Bool.and_eq_true] at h; exact h.1
theorem varB_le {s : ByteArray} (h : varB s = true) : s.size ≤ 16 := (of_decide_eq_true h).2.1
theorem relB_le {s : ByteArray} (h : relB s = true) : s.size ≤ 16 := (of_decide_eq_true (relB_name h)).2.1

end Go.Proofs.Ytkaiihoijcpldaa
