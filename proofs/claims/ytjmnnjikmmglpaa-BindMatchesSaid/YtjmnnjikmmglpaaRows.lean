/-
  NARROWER THAN 'FOR EVERY INPUT', by the rows' own cells (each row's printed sentence says how): BindTells: loops · BindMatches: loops · BindHangs: loops · BindVariables: loops · BindValues: loops · BindAgain: loops.
  DERIVED. THE GIVEN ROWS OF THIS SEAT. 6 by the template 'for every input the law returns true; each argument reads behind the call as it read before'; 0 by the template 'total and deterministic' (their statements: YtjmnnjikmmglpaaTotals.lean).
  GIVEN WITH THE SEED: the statements are not yours to turn. If you find one false, say at which input.
  Laid BY PROGRAM, IN A SANDBOX (cutbox-rows.mjs): the forced cells as the released guide's own fill.sh prints them over the translation 1382127ff22c66ed… (all of the seat's roots in one cut). By AI agents, Wed Nov 11 2026. No macro, syntax, notation, axiom, sorry.
-/
import Derived.Test.YtjmnnjikmmglpaaChecked
import GoSem.Claim
import GoSem.ClaimJoined
import GoSem.ClaimMapViews
import Derived.JoinedTies
import Derived.KernelRfl
namespace Go.Proofs.Ytjmnnjikmmglpaa
/- THE CELL 'sum', in the pinned program and in every row, IS THE sha256 OF THE DUMP (.gsa) THAT YtjmnnjikmmglpaaProg.lean LOADS. Nothing in Lean hashes anything: it is a label: what it is worth is what the hold of that sum in a sandbox is worth. -/
noncomputable def Try.pinned : Pinned := { name := "ytjmnnjikmmglpaa", sum := "1382127ff22c66ed41eca781deada4b093a855d0febd6c50ff335daf009d9e39", checked := Try.checked }
namespace Rows
def none {H : Type} : Left H := { results := [], args := [] }

/-- 'beaconrylaw09.BindTells': WHATEVER THE INPUT: true; the input reads as it did. -/
def bindTellsSpec : ChangeSpec := { name := "bindTells", fn := fun _ => fun
  | [d1, d2, d3, d4] => { results := [.lit (.bool true)], args := [d1, d2, d3, d4] }
  | _ => none }
def bindTellsRow : OpenClaim := { program := "ytjmnnjikmmglpaa", sum := "1382127ff22c66ed41eca781deada4b093a855d0febd6c50ff335daf009d9e39", func := "beaconry/beaconrylaw09.BindTells", spec := "bindTells", unfollowed := true, recurses := true, loops := true, apart := false }
def BindTellsSaid : Prop := bindTellsRow.holds Try.pinned (OpenSpec.ofChange bindTellsSpec)

/-- ITS FALSE NEIGHBOUR: 'it returns false'. Refute it at one input. -/
def bindTellsWrong : ChangeSpec := { name := "bindTells", fn := fun _ => fun
  | [d1, d2, d3, d4] => { results := [.lit (.bool false)], args := [d1, d2, d3, d4] }
  | _ => none }
def BindTellsWrongFalsely : Prop := bindTellsRow.holds Try.pinned (OpenSpec.ofChange bindTellsWrong)

/-- 'beaconrylaw09.BindMatches': WHATEVER THE INPUT: true; the input reads as it did. -/
def bindMatchesSpec : ChangeSpec := { name := "bindMatches", fn := fun _ => fun
  | [d1, d2, d3, d4] => { results := [.lit (.bool true)], args := [d1, d2, d3, d4] }
  | _ => none }
def bindMatchesRow : OpenClaim := { program := "ytjmnnjikmmglpaa", sum := "1382127ff22c66ed41eca781deada4b093a855d0febd6c50ff335daf009d9e39", func := "beaconry/beaconrylaw09.BindMatches", spec := "bindMatches", unfollowed := true, recurses := true, loops := true, apart := false }
def BindMatchesSaid : Prop := bindMatchesRow.holds Try.pinned (OpenSpec.ofChange bindMatchesSpec)

/-- ITS FALSE NEIGHBOUR: 'it returns false'. Refute it at one input. -/
def bindMatchesWrong : ChangeSpec := { name := "bindMatches", fn := fun _ => fun
  | [d1, d2, d3, d4] => { results := [.lit (.bool false)], args := [d1, d2, d3, d4] }
  | _ => none }
def BindMatchesWrongFalsely : Prop := bindMatchesRow.holds Try.pinned (OpenSpec.ofChange bindMatchesWrong)

/-- 'beaconrylaw09.BindHangs': WHATEVER THE INPUT: true; the input reads as it did. -/
def bindHangsSpec : ChangeSpec := { name := "bindHangs", fn := fun _ => fun
  | [d1, d2, d3] => { results := [.lit (.bool true)], args := [d1, d2, d3] }
  | _ => none }
def bindHangsRow : OpenClaim := { program := "ytjmnnjikmmglpaa", sum := "1382127ff22c66ed41eca781deada4b093a855d0febd6c50ff335daf009d9e39", func := "beaconry/beaconrylaw09.BindHangs", spec := "bindHangs", unfollowed := true, recurses := true, loops := true, apart := false }
def BindHangsSaid : Prop := bindHangsRow.holds Try.pinned (OpenSpec.ofChange bindHangsSpec)

/-- ITS FALSE NEIGHBOUR: 'it returns false'. Refute it at one input. -/
def bindHangsWrong : ChangeSpec := { name := "bindHangs", fn := fun _ => fun
  | [d1, d2, d3] => { results := [.lit (.bool false)], args := [d1, d2, d3] }
  | _ => none }
def BindHangsWrongFalsely : Prop := bindHangsRow.holds Try.pinned (OpenSpec.ofChange bindHangsWrong)

/-- 'beaconrylaw09.BindVariables': WHATEVER THE INPUT: true; the input reads as it did. -/
def bindVariablesSpec : ChangeSpec := { name := "bindVariables", fn := fun _ => fun
  | [d1, d2, d3] => { results := [.lit (.bool true)], args := [d1, d2, d3] }
  | _ => none }
def bindVariablesRow : OpenClaim := { program := "ytjmnnjikmmglpaa", sum := "1382127ff22c66ed41eca781deada4b093a855d0febd6c50ff335daf009d9e39", func := "beaconry/beaconrylaw09.BindVariables", spec := "bindVariables", unfollowed := true, recurses := true, loops := true, apart := false }
def BindVariablesSaid : Prop := bindVariablesRow.holds Try.pinned (OpenSpec.ofChange bindVariablesSpec)

/-- ITS FALSE NEIGHBOUR: 'it returns false'. Refute it at one input. -/
def bindVariablesWrong : ChangeSpec := { name := "bindVariables", fn := fun _ => fun
  | [d1, d2, d3] => { results := [.lit (.bool false)], args := [d1, d2, d3] }
  | _ => none }
def BindVariablesWrongFalsely : Prop := bindVariablesRow.holds Try.pinned (OpenSpec.ofChange bindVariablesWrong)

/-- 'beaconrylaw09.BindValues': WHATEVER THE INPUT: true; the input reads as it did. -/
def bindValuesSpec : ChangeSpec := { name := "bindValues", fn := fun _ => fun
  | [d1, d2, d3, d4] => { results := [.lit (.bool true)], args := [d1, d2, d3, d4] }
  | _ => none }
def bindValuesRow : OpenClaim := { program := "ytjmnnjikmmglpaa", sum := "1382127ff22c66ed41eca781deada4b093a855d0febd6c50ff335daf009d9e39", func := "beaconry/beaconrylaw09.BindValues", spec := "bindValues", unfollowed := true, recurses := true, loops := true, apart := false }
def BindValuesSaid : Prop := bindValuesRow.holds Try.pinned (OpenSpec.ofChange bindValuesSpec)

/-- ITS FALSE NEIGHBOUR: 'it returns false'. Refute it at one input. -/
def bindValuesWrong : ChangeSpec := { name := "bindValues", fn := fun _ => fun
  | [d1, d2, d3, d4] => { results := [.lit (.bool false)], args := [d1, d2, d3, d4] }
  | _ => none }
def BindValuesWrongFalsely : Prop := bindValuesRow.holds Try.pinned (OpenSpec.ofChange bindValuesWrong)

/-- 'beaconrylaw09.BindAgain': WHATEVER THE INPUT: true; the input reads as it did. -/
def bindAgainSpec : ChangeSpec := { name := "bindAgain", fn := fun _ => fun
  | [d1, d2] => { results := [.lit (.bool true)], args := [d1, d2] }
  | _ => none }
def bindAgainRow : OpenClaim := { program := "ytjmnnjikmmglpaa", sum := "1382127ff22c66ed41eca781deada4b093a855d0febd6c50ff335daf009d9e39", func := "beaconry/beaconrylaw09.BindAgain", spec := "bindAgain", unfollowed := true, recurses := true, loops := true, apart := false }
def BindAgainSaid : Prop := bindAgainRow.holds Try.pinned (OpenSpec.ofChange bindAgainSpec)

/-- ITS FALSE NEIGHBOUR: 'it returns false'. Refute it at one input. -/
def bindAgainWrong : ChangeSpec := { name := "bindAgain", fn := fun _ => fun
  | [d1, d2] => { results := [.lit (.bool false)], args := [d1, d2] }
  | _ => none }
def BindAgainWrongFalsely : Prop := bindAgainRow.holds Try.pinned (OpenSpec.ofChange bindAgainWrong)

/- THE SECOND FORM. 'bulk': how many values and letters a reading holds, each counted each time it is reached (what is shared counts as often as it is met; a slice's spare places count too). A statement '..UptoSaid' is the law's where the arguments, and the package variables that the reading takes, are together of bulk at most 1048576: NARROWER than '..Said'. Prove '..Said' where nothing that the law and all that it calls make is longer than what came in: it says more and counts as full. Else prove '..UptoSaid'. A law counts once. -/
mutual
def uptoBulk {H : Type} : DataW H → Nat
  | .lit (.string bytes) => bytes.length + 1
  | .lit _ => 1
  | .nil => 1
  | .ptr d => uptoBulk d + 1
  | .slice elems spare => uptoBulkAll elems + uptoBulkAll spare + 1
  | .agg parts => uptoBulkAll parts + 1
  | .iface _ d => uptoBulk d + 1
  | .map entries => uptoBulkEntries entries + 1
  | .held _ => 1
def uptoBulkAll {H : Type} : List (DataW H) → Nat
  | [] => 0
  | d :: r => uptoBulk d + uptoBulkAll r
def uptoBulkEntries {H : Type} : List (Lit × DataW H) → Nat
  | [] => 0
  | x :: r => uptoBulkEntry x + uptoBulkEntries r
def uptoBulkEntry {H : Type} : Lit × DataW H → Nat
  | (.string bytes, d) => bytes.length + uptoBulk d + 1
  | (_, d) => uptoBulk d + 1
 end
def uptoSmall : (H : Type) → List (DataW H) → Bool := fun _ ds => decide (uptoBulkAll ds ≤ 1048576)
def OpenSpec.upto (s : _root_.Go.ChangeSpec) : _root_.Go.OpenSpec := { _root_.Go.OpenSpec.ofChange s with cond := some uptoSmall }

/-- 'beaconrylaw09.BindTells', WHERE WHAT IT READS IS OF BULK AT MOST 1048576: true; the input reads as it did. -/
def bindTellsUptoRow : OpenClaim := { program := "ytjmnnjikmmglpaa", sum := "1382127ff22c66ed41eca781deada4b093a855d0febd6c50ff335daf009d9e39", func := "beaconry/beaconrylaw09.BindTells", spec := "bindTells", unfollowed := true, recurses := true, loops := true, apart := false, narrowed := true }
def BindTellsUptoSaid : Prop := bindTellsUptoRow.holds Try.pinned (OpenSpec.upto bindTellsSpec)

/-- 'beaconrylaw09.BindMatches', WHERE WHAT IT READS IS OF BULK AT MOST 1048576: true; the input reads as it did. -/
def bindMatchesUptoRow : OpenClaim := { program := "ytjmnnjikmmglpaa", sum := "1382127ff22c66ed41eca781deada4b093a855d0febd6c50ff335daf009d9e39", func := "beaconry/beaconrylaw09.BindMatches", spec := "bindMatches", unfollowed := true, recurses := true, loops := true, apart := false, narrowed := true }
def BindMatchesUptoSaid : Prop := bindMatchesUptoRow.holds Try.pinned (OpenSpec.upto bindMatchesSpec)

/-- 'beaconrylaw09.BindHangs', WHERE WHAT IT READS IS OF BULK AT MOST 1048576: true; the input reads as it did. -/
def bindHangsUptoRow : OpenClaim := { program := "ytjmnnjikmmglpaa", sum := "1382127ff22c66ed41eca781deada4b093a855d0febd6c50ff335daf009d9e39", func := "beaconry/beaconrylaw09.BindHangs", spec := "bindHangs", unfollowed := true, recurses := true, loops := true, apart := false, narrowed := true }
def BindHangsUptoSaid : Prop := bindHangsUptoRow.holds Try.pinned (OpenSpec.upto bindHangsSpec)

/-- 'beaconrylaw09.BindVariables', WHERE WHAT IT READS IS OF BULK AT MOST 1048576: true; the input reads as it did. -/
def bindVariablesUptoRow : OpenClaim := { program := "ytjmnnjikmmglpaa", sum := "1382127ff22c66ed41eca781deada4b093a855d0febd6c50ff335daf009d9e39", func := "beaconry/beaconrylaw09.BindVariables", spec := "bindVariables", unfollowed := true, recurses := true, loops := true, apart := false, narrowed := true }
def BindVariablesUptoSaid : Prop := bindVariablesUptoRow.holds Try.pinned (OpenSpec.upto bindVariablesSpec)

/-- 'beaconrylaw09.BindValues', WHERE WHAT IT READS IS OF BULK AT MOST 1048576: true; the input reads as it did. -/
def bindValuesUptoRow : OpenClaim := { program := "ytjmnnjikmmglpaa", sum := "1382127ff22c66ed41eca781deada4b093a855d0febd6c50ff335daf009d9e39", func := "beaconry/beaconrylaw09.BindValues", spec := "bindValues", unfollowed := true, recurses := true, loops := true, apart := false, narrowed := true }
def BindValuesUptoSaid : Prop := bindValuesUptoRow.holds Try.pinned (OpenSpec.upto bindValuesSpec)

/-- 'beaconrylaw09.BindAgain', WHERE WHAT IT READS IS OF BULK AT MOST 1048576: true; the input reads as it did. -/
def bindAgainUptoRow : OpenClaim := { program := "ytjmnnjikmmglpaa", sum := "1382127ff22c66ed41eca781deada4b093a855d0febd6c50ff335daf009d9e39", func := "beaconry/beaconrylaw09.BindAgain", spec := "bindAgain", unfollowed := true, recurses := true, loops := true, apart := false, narrowed := true }
def BindAgainUptoSaid : Prop := bindAgainUptoRow.holds Try.pinned (OpenSpec.upto bindAgainSpec)

end Rows
end Go.Proofs.Ytjmnnjikmmglpaa
