/-
  What 'fit' makes of a raw value, as plain data.
-/
import Derived.Test.YtkaiihoijcpldaaFitText
namespace Go.Proofs.Ytkaiihoijcpldaa
open Go.RowKit

theorem RepG.bounds {S : Nat → Prop} {w : World} {x : V} {c0 c1 c2 c3 : Value} (h : RepG S w x c0 c1 c2 c3) : I64 x.kind ∧ I64 x.num ∧ x.text.size ≤ maxLen := by
  cases x with
  | mk k n s l => exact ⟨(repG_mk.1 h).2.2.2.1, (repG_mk.1 h).2.2.2.2.1, (repG_mk.1 h).2.2.2.2.2.1⟩

def unlist (d : Nat) (x : V) : V := if d ≤ 1 ∧ pickZ x.kind 4 = 3 then .mk 0 x.num x.text x.list else x
/-- A value as 'fit' makes it. -/
def fitV : Nat → V → V
  | 0, x => fitFlat x
  | d + 1, x => if pickZ x.kind 4 = 3 then .mk 4 0 ⟨#[]⟩ ((x.list.take 16).map fun y => fitV d (unlist (d + 1) y)) else fitFlat x

def fitTo (d : Nat) (l : List V) (k : Nat) : List V := (l.take k).map fun y => fitV d (unlist (d + 1) y)


end Go.Proofs.Ytkaiihoijcpldaa
