/-
  NARROWER THAN 'FOR EVERY INPUT', by the rows' own cells (each row's printed sentence says how): BindVariables: loops.
  DERIVED. THE GIVEN ROWS OF THIS SEAT. 6 by the template 'for every input the law returns true; each argument reads behind the call as it read before'; 0 by the template 'total and deterministic' (their statements: YtpnaegohjbaggaaTotals.lean).
  GIVEN WITH THE SEED: the statements are not yours to turn. If you find one false, say at which input.
  Laid BY PROGRAM, IN A SANDBOX (cutbox-rows.mjs): the forced cells as the released guide's own fill.sh prints them over the translation 053a157f7b0a4ed8… (all of the seat's roots in one cut). By AI agents, Wed Nov 11 2026. No macro, syntax, notation, axiom, sorry.
-/
import Derived.Test.YtpnaegohjbaggaaChecked
import GoSem.Claim
import GoSem.ClaimJoined
import GoSem.ClaimMapViews
import Derived.JoinedTies
import Derived.KernelRfl
namespace Go.Proofs.Ytpnaegohjbaggaa
/- THE CELL 'sum', in the pinned program and in every row, IS THE sha256 OF THE DUMP (.gsa) THAT YtpnaegohjbaggaaProg.lean LOADS. Nothing in Lean hashes anything: it is a label: what it is worth is what the hold of that sum in a sandbox is worth. -/
noncomputable def Try.pinned : Pinned := { name := "ytpnaegohjbaggaa", sum := "053a157f7b0a4ed8996bc06201ddf907a61214a2413e3ac11cf68271763e2de7", checked := Try.checked }
namespace Rows
def none {H : Type} : Left H := { results := [], args := [] }

/-- 'beaconrylaw09.BindVariables': WHATEVER THE INPUT: true; the input reads as it did. -/
def bindVariablesSpec : ChangeSpec := { name := "bindVariables", fn := fun _ => fun
  | [d1, d2, d3] => { results := [.lit (.bool true)], args := [d1, d2, d3] }
  | _ => none }
def bindVariablesRow : OpenClaim := { program := "ytpnaegohjbaggaa", sum := "053a157f7b0a4ed8996bc06201ddf907a61214a2413e3ac11cf68271763e2de7", func := "beaconry/beaconrylaw09.BindVariables", spec := "bindVariables", unfollowed := true, recurses := true, loops := true, apart := false }
def BindVariablesSaid : Prop := bindVariablesRow.holds Try.pinned (OpenSpec.ofChange bindVariablesSpec)

/-- ITS FALSE NEIGHBOUR: 'it returns false'. Refute it at one input. -/
def bindVariablesWrong : ChangeSpec := { name := "bindVariables", fn := fun _ => fun
  | [d1, d2, d3] => { results := [.lit (.bool false)], args := [d1, d2, d3] }
  | _ => none }
def BindVariablesWrongFalsely : Prop := bindVariablesRow.holds Try.pinned (OpenSpec.ofChange bindVariablesWrong)

/-- 'beaconrylaw11.GroupSets': WHATEVER THE INPUT: true; the input reads as it did. -/
def groupSetsSpec : ChangeSpec := { name := "groupSets", fn := fun _ => fun
  | [d1, d2, d3] => { results := [.lit (.bool true)], args := [d1, d2, d3] }
  | _ => none }
def groupSetsRow : OpenClaim := { program := "ytpnaegohjbaggaa", sum := "053a157f7b0a4ed8996bc06201ddf907a61214a2413e3ac11cf68271763e2de7", func := "beaconry/beaconrylaw11.GroupSets", spec := "groupSets", unfollowed := true, recurses := true, apart := false }
def GroupSetsSaid : Prop := groupSetsRow.holds Try.pinned (OpenSpec.ofChange groupSetsSpec)

/-- ITS FALSE NEIGHBOUR: 'it returns false'. Refute it at one input. -/
def groupSetsWrong : ChangeSpec := { name := "groupSets", fn := fun _ => fun
  | [d1, d2, d3] => { results := [.lit (.bool false)], args := [d1, d2, d3] }
  | _ => none }
def GroupSetsWrongFalsely : Prop := groupSetsRow.holds Try.pinned (OpenSpec.ofChange groupSetsWrong)

/-- 'beaconrylaw11.GroupEnds': WHATEVER THE INPUT: true; the input reads as it did. -/
def groupEndsSpec : ChangeSpec := { name := "groupEnds", fn := fun _ => fun
  | [d1, d2] => { results := [.lit (.bool true)], args := [d1, d2] }
  | _ => none }
def groupEndsRow : OpenClaim := { program := "ytpnaegohjbaggaa", sum := "053a157f7b0a4ed8996bc06201ddf907a61214a2413e3ac11cf68271763e2de7", func := "beaconry/beaconrylaw11.GroupEnds", spec := "groupEnds", unfollowed := true, recurses := true, apart := false }
def GroupEndsSaid : Prop := groupEndsRow.holds Try.pinned (OpenSpec.ofChange groupEndsSpec)

/-- ITS FALSE NEIGHBOUR: 'it returns false'. Refute it at one input. -/
def groupEndsWrong : ChangeSpec := { name := "groupEnds", fn := fun _ => fun
  | [d1, d2] => { results := [.lit (.bool false)], args := [d1, d2] }
  | _ => none }
def GroupEndsWrongFalsely : Prop := groupEndsRow.holds Try.pinned (OpenSpec.ofChange groupEndsWrong)

/-- 'beaconrylaw11.GroupCounts': WHATEVER THE INPUT: true; the input reads as it did. -/
def groupCountsSpec : ChangeSpec := { name := "groupCounts", fn := fun _ => fun
  | [d1, d2] => { results := [.lit (.bool true)], args := [d1, d2] }
  | _ => none }
def groupCountsRow : OpenClaim := { program := "ytpnaegohjbaggaa", sum := "053a157f7b0a4ed8996bc06201ddf907a61214a2413e3ac11cf68271763e2de7", func := "beaconry/beaconrylaw11.GroupCounts", spec := "groupCounts", unfollowed := true, recurses := true, apart := false }
def GroupCountsSaid : Prop := groupCountsRow.holds Try.pinned (OpenSpec.ofChange groupCountsSpec)

/-- ITS FALSE NEIGHBOUR: 'it returns false'. Refute it at one input. -/
def groupCountsWrong : ChangeSpec := { name := "groupCounts", fn := fun _ => fun
  | [d1, d2] => { results := [.lit (.bool false)], args := [d1, d2] }
  | _ => none }
def GroupCountsWrongFalsely : Prop := groupCountsRow.holds Try.pinned (OpenSpec.ofChange groupCountsWrong)

/-- 'beaconrylaw11.GroupOnce': WHATEVER THE INPUT: true; the input reads as it did. -/
def groupOnceSpec : ChangeSpec := { name := "groupOnce", fn := fun _ => fun
  | [d1, d2] => { results := [.lit (.bool true)], args := [d1, d2] }
  | _ => none }
def groupOnceRow : OpenClaim := { program := "ytpnaegohjbaggaa", sum := "053a157f7b0a4ed8996bc06201ddf907a61214a2413e3ac11cf68271763e2de7", func := "beaconry/beaconrylaw11.GroupOnce", spec := "groupOnce", unfollowed := true, recurses := true, apart := false }
def GroupOnceSaid : Prop := groupOnceRow.holds Try.pinned (OpenSpec.ofChange groupOnceSpec)

/-- ITS FALSE NEIGHBOUR: 'it returns false'. Refute it at one input. -/
def groupOnceWrong : ChangeSpec := { name := "groupOnce", fn := fun _ => fun
  | [d1, d2] => { results := [.lit (.bool false)], args := [d1, d2] }
  | _ => none }
def GroupOnceWrongFalsely : Prop := groupOnceRow.holds Try.pinned (OpenSpec.ofChange groupOnceWrong)

/-- 'beaconrylaw11.GroupTurns': WHATEVER THE INPUT: true; the input reads as it did. -/
def groupTurnsSpec : ChangeSpec := { name := "groupTurns", fn := fun _ => fun
  | [d1, d2, d3] => { results := [.lit (.bool true)], args := [d1, d2, d3] }
  | _ => none }
def groupTurnsRow : OpenClaim := { program := "ytpnaegohjbaggaa", sum := "053a157f7b0a4ed8996bc06201ddf907a61214a2413e3ac11cf68271763e2de7", func := "beaconry/beaconrylaw11.GroupTurns", spec := "groupTurns", unfollowed := true, recurses := true, apart := false }
def GroupTurnsSaid : Prop := groupTurnsRow.holds Try.pinned (OpenSpec.ofChange groupTurnsSpec)

/-- ITS FALSE NEIGHBOUR: 'it returns false'. Refute it at one input. -/
def groupTurnsWrong : ChangeSpec := { name := "groupTurns", fn := fun _ => fun
  | [d1, d2, d3] => { results := [.lit (.bool false)], args := [d1, d2, d3] }
  | _ => none }
def GroupTurnsWrongFalsely : Prop := groupTurnsRow.holds Try.pinned (OpenSpec.ofChange groupTurnsWrong)

/- THE SECOND FORM. 'bulk': how many values and letters a reading holds, each counted each time it is reached (what is shared counts as often as it is met; a slice's spare places count too). A statement '..UptoSaid' is the law's where the arguments, and the package variables that the reading takes, are together of bulk at most 1048576: NARROWER than '..Said'. Prove '..Said' where nothing that the law and all that it calls make is longer than what came in: it says more and counts as full. Else prove '..UptoSaid'. A law counts once. -/
mutual
def uptoBulk {H : Type} : DataW H → Nat
  | .lit (.string bytes) => bytes.length + 1
  | .lit _ => 1
  | .nil => 1
  | .ptr d => uptoBulk d + 1
  | .slice elems spare => uptoBulkAll elems + uptoBulkAll spare + 1
  | .agg parts => uptoBulkAll parts + 1
  | .iface _ d => uptoBulk d + 1
  | .map entries => uptoBulkEntries entries + 1
  | .held _ => 1
def uptoBulkAll {H : Type} : List (DataW H) → Nat
  | [] => 0
  | d :: r => uptoBulk d + uptoBulkAll r
def uptoBulkEntries {H : Type} : List (Lit × DataW H) → Nat
  | [] => 0
  | x :: r => uptoBulkEntry x + uptoBulkEntries r
def uptoBulkEntry {H : Type} : Lit × DataW H → Nat
  | (.string bytes, d) => bytes.length + uptoBulk d + 1
  | (_, d) => uptoBulk d + 1
 end
def uptoSmall : (H : Type) → List (DataW H) → Bool := fun _ ds => decide (uptoBulkAll ds ≤ 1048576)
def OpenSpec.upto (s : _root_.Go.ChangeSpec) : _root_.Go.OpenSpec := { _root_.Go.OpenSpec.ofChange s with cond := some uptoSmall }

/-- 'beaconrylaw09.BindVariables', WHERE WHAT IT READS IS OF BULK AT MOST 1048576: true; the input reads as it did. -/
def bindVariablesUptoRow : OpenClaim := { program := "ytpnaegohjbaggaa", sum := "053a157f7b0a4ed8996bc06201ddf907a61214a2413e3ac11cf68271763e2de7", func := "beaconry/beaconrylaw09.BindVariables", spec := "bindVariables", unfollowed := true, recurses := true, loops := true, apart := false, narrowed := true }
def BindVariablesUptoSaid : Prop := bindVariablesUptoRow.holds Try.pinned (OpenSpec.upto bindVariablesSpec)

/-- 'beaconrylaw11.GroupSets', WHERE WHAT IT READS IS OF BULK AT MOST 1048576: true; the input reads as it did. -/
def groupSetsUptoRow : OpenClaim := { program := "ytpnaegohjbaggaa", sum := "053a157f7b0a4ed8996bc06201ddf907a61214a2413e3ac11cf68271763e2de7", func := "beaconry/beaconrylaw11.GroupSets", spec := "groupSets", unfollowed := true, recurses := true, apart := false, narrowed := true }
def GroupSetsUptoSaid : Prop := groupSetsUptoRow.holds Try.pinned (OpenSpec.upto groupSetsSpec)

/-- 'beaconrylaw11.GroupEnds', WHERE WHAT IT READS IS OF BULK AT MOST 1048576: true; the input reads as it did. -/
def groupEndsUptoRow : OpenClaim := { program := "ytpnaegohjbaggaa", sum := "053a157f7b0a4ed8996bc06201ddf907a61214a2413e3ac11cf68271763e2de7", func := "beaconry/beaconrylaw11.GroupEnds", spec := "groupEnds", unfollowed := true, recurses := true, apart := false, narrowed := true }
def GroupEndsUptoSaid : Prop := groupEndsUptoRow.holds Try.pinned (OpenSpec.upto groupEndsSpec)

/-- 'beaconrylaw11.GroupCounts', WHERE WHAT IT READS IS OF BULK AT MOST 1048576: true; the input reads as it did. -/
def groupCountsUptoRow : OpenClaim := { program := "ytpnaegohjbaggaa", sum := "053a157f7b0a4ed8996bc06201ddf907a61214a2413e3ac11cf68271763e2de7", func := "beaconry/beaconrylaw11.GroupCounts", spec := "groupCounts", unfollowed := true, recurses := true, apart := false, narrowed := true }
def GroupCountsUptoSaid : Prop := groupCountsUptoRow.holds Try.pinned (OpenSpec.upto groupCountsSpec)

/-- 'beaconrylaw11.GroupOnce', WHERE WHAT IT READS IS OF BULK AT MOST 1048576: true; the input reads as it did. -/
def groupOnceUptoRow : OpenClaim := { program := "ytpnaegohjbaggaa", sum := "053a157f7b0a4ed8996bc06201ddf907a61214a2413e3ac11cf68271763e2de7", func := "beaconry/beaconrylaw11.GroupOnce", spec := "groupOnce", unfollowed := true, recurses := true, apart := false, narrowed := true }
def GroupOnceUptoSaid : Prop := groupOnceUptoRow.holds Try.pinned (OpenSpec.upto groupOnceSpec)

/-- 'beaconrylaw11.GroupTurns', WHERE WHAT IT READS IS OF BULK AT MOST 1048576: true; the input reads as it did. -/
def groupTurnsUptoRow : OpenClaim := { program := "ytpnaegohjbaggaa", sum := "053a157f7b0a4ed8996bc06201ddf907a61214a2413e3ac11cf68271763e2de7", func := "beaconry/beaconrylaw11.GroupTurns", spec := "groupTurns", unfollowed := true, recurses := true, apart := false, narrowed := true }
def GroupTurnsUptoSaid : Prop := groupTurnsUptoRow.holds Try.pinned (OpenSpec.upto groupTurnsSpec)

end Rows
end Go.Proofs.Ytpnaegohjbaggaa
