/-
  NARROWER THAN 'FOR EVERY INPUT', by the rows' own cells (each row's printed sentence says how): ScopeTells: loops.
  DERIVED. THE GIVEN ROWS OF THIS SEAT. 5 by the template 'for every input the law returns true; each argument reads behind the call as it read before'; 0 by the template 'total and deterministic' (their statements: YtjohcnhiblfbnaaGreatTotals.lean).
  GIVEN WITH THE SEED: the statements are not yours to turn. If you find one false, say at which input.
  Laid BY PROGRAM, IN A SANDBOX (cutbox-rows.mjs): the forced cells as the released guide's own fill.sh prints them over the translation 99b26612bdd3e372… (all of the seat's roots in one cut). By AI agents, Wed Nov 11 2026. No macro, syntax, notation, axiom, sorry.
-/
import Derived.Test.YtjohcnhiblfbnaaGreatChecked
import GoSem.Claim
import GoSem.ClaimJoined
import GoSem.ClaimMapViews
import Derived.JoinedTies
import Derived.KernelRfl
namespace Go.Proofs.YtjohcnhiblfbnaaGreat
/- THE CELL 'sum', in the pinned program and in every row, IS THE sha256 OF THE DUMP (.gsa) THAT YtjohcnhiblfbnaaGreatProg.lean LOADS. Nothing in Lean hashes anything: it is a label: what it is worth is what the hold of that sum in a sandbox is worth. -/
noncomputable def Tryz.pinned : Pinned := { name := "ytjohcnhiblfbnaagreat", sum := "99b26612bdd3e37299e2ca28c94d4c124bdfd9f9618f2187abcf605bc7d545c8", checked := Tryz.checked }
namespace Rows
def none {H : Type} : Left H := { results := [], args := [] }

/-- 'beaconrylaw06.ScopeTells': WHATEVER THE INPUT: true; the input reads as it did. -/
def scopeTellsSpec : ChangeSpec := { name := "scopeTells", fn := fun _ => fun
  | [d1, d2, d3, d4, d5] => { results := [.lit (.bool true)], args := [d1, d2, d3, d4, d5] }
  | _ => none }
def scopeTellsRow : OpenClaim := { program := "ytjohcnhiblfbnaagreat", sum := "99b26612bdd3e37299e2ca28c94d4c124bdfd9f9618f2187abcf605bc7d545c8", func := "beaconry/beaconrylaw06.ScopeTells", spec := "scopeTells", unfollowed := true, recurses := true, loops := true, apart := false }
def ScopeTellsSaid : Prop := scopeTellsRow.holds Tryz.pinned (OpenSpec.ofChange scopeTellsSpec)

/-- ITS FALSE NEIGHBOUR: 'it returns false'. Refute it at one input. -/
def scopeTellsWrong : ChangeSpec := { name := "scopeTells", fn := fun _ => fun
  | [d1, d2, d3, d4, d5] => { results := [.lit (.bool false)], args := [d1, d2, d3, d4, d5] }
  | _ => none }
def ScopeTellsWrongFalsely : Prop := scopeTellsRow.holds Tryz.pinned (OpenSpec.ofChange scopeTellsWrong)

/-- 'beaconrylaw08.StrataCycles': WHATEVER THE INPUT: true; the input reads as it did. -/
def strataCyclesSpec : ChangeSpec := { name := "strataCycles", fn := fun _ => fun
  | [d] => { results := [.lit (.bool true)], args := [d] }
  | _ => none }
def strataCyclesRow : OpenClaim := { program := "ytjohcnhiblfbnaagreat", sum := "99b26612bdd3e37299e2ca28c94d4c124bdfd9f9618f2187abcf605bc7d545c8", func := "beaconry/beaconrylaw08.StrataCycles", spec := "strataCycles", unfollowed := true, recurses := true, apart := false }
def StrataCyclesSaid : Prop := strataCyclesRow.holds Tryz.pinned (OpenSpec.ofChange strataCyclesSpec)

/-- ITS FALSE NEIGHBOUR: 'it returns false'. Refute it at one input. -/
def strataCyclesWrong : ChangeSpec := { name := "strataCycles", fn := fun _ => fun
  | [d] => { results := [.lit (.bool false)], args := [d] }
  | _ => none }
def StrataCyclesWrongFalsely : Prop := strataCyclesRow.holds Tryz.pinned (OpenSpec.ofChange strataCyclesWrong)

/-- 'beaconrylaw08.StrataLeast': WHATEVER THE INPUT: true; the input reads as it did. -/
def strataLeastSpec : ChangeSpec := { name := "strataLeast", fn := fun _ => fun
  | [d] => { results := [.lit (.bool true)], args := [d] }
  | _ => none }
def strataLeastRow : OpenClaim := { program := "ytjohcnhiblfbnaagreat", sum := "99b26612bdd3e37299e2ca28c94d4c124bdfd9f9618f2187abcf605bc7d545c8", func := "beaconry/beaconrylaw08.StrataLeast", spec := "strataLeast", unfollowed := true, recurses := true, apart := false }
def StrataLeastSaid : Prop := strataLeastRow.holds Tryz.pinned (OpenSpec.ofChange strataLeastSpec)

/-- ITS FALSE NEIGHBOUR: 'it returns false'. Refute it at one input. -/
def strataLeastWrong : ChangeSpec := { name := "strataLeast", fn := fun _ => fun
  | [d] => { results := [.lit (.bool false)], args := [d] }
  | _ => none }
def StrataLeastWrongFalsely : Prop := strataLeastRow.holds Tryz.pinned (OpenSpec.ofChange strataLeastWrong)

/-- 'beaconrylaw08.StrataOrder': WHATEVER THE INPUT: true; the input reads as it did. -/
def strataOrderSpec : ChangeSpec := { name := "strataOrder", fn := fun _ => fun
  | [d1, d2] => { results := [.lit (.bool true)], args := [d1, d2] }
  | _ => none }
def strataOrderRow : OpenClaim := { program := "ytjohcnhiblfbnaagreat", sum := "99b26612bdd3e37299e2ca28c94d4c124bdfd9f9618f2187abcf605bc7d545c8", func := "beaconry/beaconrylaw08.StrataOrder", spec := "strataOrder", unfollowed := true, recurses := true, apart := false }
def StrataOrderSaid : Prop := strataOrderRow.holds Tryz.pinned (OpenSpec.ofChange strataOrderSpec)

/-- ITS FALSE NEIGHBOUR: 'it returns false'. Refute it at one input. -/
def strataOrderWrong : ChangeSpec := { name := "strataOrder", fn := fun _ => fun
  | [d1, d2] => { results := [.lit (.bool false)], args := [d1, d2] }
  | _ => none }
def StrataOrderWrongFalsely : Prop := strataOrderRow.holds Tryz.pinned (OpenSpec.ofChange strataOrderWrong)

/-- 'beaconrylaw08.StrataLess': WHATEVER THE INPUT: true; the input reads as it did. -/
def strataLessSpec : ChangeSpec := { name := "strataLess", fn := fun _ => fun
  | [d1, d2] => { results := [.lit (.bool true)], args := [d1, d2] }
  | _ => none }
def strataLessRow : OpenClaim := { program := "ytjohcnhiblfbnaagreat", sum := "99b26612bdd3e37299e2ca28c94d4c124bdfd9f9618f2187abcf605bc7d545c8", func := "beaconry/beaconrylaw08.StrataLess", spec := "strataLess", unfollowed := true, recurses := true, apart := false }
def StrataLessSaid : Prop := strataLessRow.holds Tryz.pinned (OpenSpec.ofChange strataLessSpec)

/-- ITS FALSE NEIGHBOUR: 'it returns false'. Refute it at one input. -/
def strataLessWrong : ChangeSpec := { name := "strataLess", fn := fun _ => fun
  | [d1, d2] => { results := [.lit (.bool false)], args := [d1, d2] }
  | _ => none }
def StrataLessWrongFalsely : Prop := strataLessRow.holds Tryz.pinned (OpenSpec.ofChange strataLessWrong)

/- THE SECOND FORM. 'bulk': how many values and letters a reading holds, each counted each time it is reached (what is shared counts as often as it is met; a slice's spare places count too). A statement '..UptoSaid' is the law's where the arguments, and the package variables that the reading takes, are together of bulk at most 1048576: NARROWER than '..Said'. Prove '..Said' where nothing that the law and all that it calls make is longer than what came in: it says more and counts as full. Else prove '..UptoSaid'. A law counts once. -/
mutual
def uptoBulk {H : Type} : DataW H → Nat
  | .lit (.string bytes) => bytes.length + 1
  | .lit _ => 1
  | .nil => 1
  | .ptr d => uptoBulk d + 1
  | .slice elems spare => uptoBulkAll elems + uptoBulkAll spare + 1
  | .agg parts => uptoBulkAll parts + 1
  | .iface _ d => uptoBulk d + 1
  | .map entries => uptoBulkEntries entries + 1
  | .held _ => 1
def uptoBulkAll {H : Type} : List (DataW H) → Nat
  | [] => 0
  | d :: r => uptoBulk d + uptoBulkAll r
def uptoBulkEntries {H : Type} : List (Lit × DataW H) → Nat
  | [] => 0
  | x :: r => uptoBulkEntry x + uptoBulkEntries r
def uptoBulkEntry {H : Type} : Lit × DataW H → Nat
  | (.string bytes, d) => bytes.length + uptoBulk d + 1
  | (_, d) => uptoBulk d + 1
 end
def uptoSmall : (H : Type) → List (DataW H) → Bool := fun _ ds => decide (uptoBulkAll ds ≤ 1048576)
def OpenSpec.upto (s : _root_.Go.ChangeSpec) : _root_.Go.OpenSpec := { _root_.Go.OpenSpec.ofChange s with cond := some uptoSmall }

/-- 'beaconrylaw06.ScopeTells', WHERE WHAT IT READS IS OF BULK AT MOST 1048576: true; the input reads as it did. -/
def scopeTellsUptoRow : OpenClaim := { program := "ytjohcnhiblfbnaagreat", sum := "99b26612bdd3e37299e2ca28c94d4c124bdfd9f9618f2187abcf605bc7d545c8", func := "beaconry/beaconrylaw06.ScopeTells", spec := "scopeTells", unfollowed := true, recurses := true, loops := true, apart := false, narrowed := true }
def ScopeTellsUptoSaid : Prop := scopeTellsUptoRow.holds Tryz.pinned (OpenSpec.upto scopeTellsSpec)

/-- 'beaconrylaw08.StrataCycles', WHERE WHAT IT READS IS OF BULK AT MOST 1048576: true; the input reads as it did. -/
def strataCyclesUptoRow : OpenClaim := { program := "ytjohcnhiblfbnaagreat", sum := "99b26612bdd3e37299e2ca28c94d4c124bdfd9f9618f2187abcf605bc7d545c8", func := "beaconry/beaconrylaw08.StrataCycles", spec := "strataCycles", unfollowed := true, recurses := true, apart := false, narrowed := true }
def StrataCyclesUptoSaid : Prop := strataCyclesUptoRow.holds Tryz.pinned (OpenSpec.upto strataCyclesSpec)

/-- 'beaconrylaw08.StrataLeast', WHERE WHAT IT READS IS OF BULK AT MOST 1048576: true; the input reads as it did. -/
def strataLeastUptoRow : OpenClaim := { program := "ytjohcnhiblfbnaagreat", sum := "99b26612bdd3e37299e2ca28c94d4c124bdfd9f9618f2187abcf605bc7d545c8", func := "beaconry/beaconrylaw08.StrataLeast", spec := "strataLeast", unfollowed := true, recurses := true, apart := false, narrowed := true }
def StrataLeastUptoSaid : Prop := strataLeastUptoRow.holds Tryz.pinned (OpenSpec.upto strataLeastSpec)

/-- 'beaconrylaw08.StrataOrder', WHERE WHAT IT READS IS OF BULK AT MOST 1048576: true; the input reads as it did. -/
def strataOrderUptoRow : OpenClaim := { program := "ytjohcnhiblfbnaagreat", sum := "99b26612bdd3e37299e2ca28c94d4c124bdfd9f9618f2187abcf605bc7d545c8", func := "beaconry/beaconrylaw08.StrataOrder", spec := "strataOrder", unfollowed := true, recurses := true, apart := false, narrowed := true }
def StrataOrderUptoSaid : Prop := strataOrderUptoRow.holds Tryz.pinned (OpenSpec.upto strataOrderSpec)

/-- 'beaconrylaw08.StrataLess', WHERE WHAT IT READS IS OF BULK AT MOST 1048576: true; the input reads as it did. -/
def strataLessUptoRow : OpenClaim := { program := "ytjohcnhiblfbnaagreat", sum := "99b26612bdd3e37299e2ca28c94d4c124bdfd9f9618f2187abcf605bc7d545c8", func := "beaconry/beaconrylaw08.StrataLess", spec := "strataLess", unfollowed := true, recurses := true, apart := false, narrowed := true }
def StrataLessUptoSaid : Prop := strataLessUptoRow.holds Tryz.pinned (OpenSpec.upto strataLessSpec)

end Rows
end Go.Proofs.YtjohcnhiblfbnaaGreat
