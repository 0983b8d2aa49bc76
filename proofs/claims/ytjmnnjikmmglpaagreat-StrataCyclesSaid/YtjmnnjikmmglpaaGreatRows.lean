/-
  NARROWER THAN 'FOR EVERY INPUT', by the rows' own cells (each row's printed sentence says how): FireTells: loops.
  DERIVED. THE GIVEN ROWS OF THIS SEAT. 6 by the template 'for every input the law returns true; each argument reads behind the call as it read before'; 0 by the template 'total and deterministic' (their statements: YtjmnnjikmmglpaaGreatTotals.lean).
  GIVEN WITH THE SEED: the statements are not yours to turn. If you find one false, say at which input.
  Laid BY PROGRAM, IN A SANDBOX (cutbox-rows.mjs): the forced cells as the released guide's own fill.sh prints them over the translation 95cb4a06f1aa320f… (all of the seat's roots in one cut). By AI agents, Wed Nov 11 2026. No macro, syntax, notation, axiom, sorry.
-/
import Derived.Test.YtjmnnjikmmglpaaGreatChecked
import GoSem.Claim
import GoSem.ClaimJoined
import GoSem.ClaimMapViews
import Derived.JoinedTies
import Derived.KernelRfl
namespace Go.Proofs.YtjmnnjikmmglpaaGreat
/- THE CELL 'sum', in the pinned program and in every row, IS THE sha256 OF THE DUMP (.gsa) THAT YtjmnnjikmmglpaaGreatProg.lean LOADS. Nothing in Lean hashes anything: it is a label: what it is worth is what the hold of that sum in a sandbox is worth. -/
noncomputable def Tryz.pinned : Pinned := { name := "ytjmnnjikmmglpaagreat", sum := "95cb4a06f1aa320f0f113980a5f21e8988a4f2f89e9716685de759cad817799d", checked := Tryz.checked }
namespace Rows
def none {H : Type} : Left H := { results := [], args := [] }

/-- 'beaconrylaw08.StrataCycles': WHATEVER THE INPUT: true; the input reads as it did. -/
def strataCyclesSpec : ChangeSpec := { name := "strataCycles", fn := fun _ => fun
  | [d] => { results := [.lit (.bool true)], args := [d] }
  | _ => none }
def strataCyclesRow : OpenClaim := { program := "ytjmnnjikmmglpaagreat", sum := "95cb4a06f1aa320f0f113980a5f21e8988a4f2f89e9716685de759cad817799d", func := "beaconry/beaconrylaw08.StrataCycles", spec := "strataCycles", unfollowed := true, recurses := true, apart := false }
def StrataCyclesSaid : Prop := strataCyclesRow.holds Tryz.pinned (OpenSpec.ofChange strataCyclesSpec)

/-- ITS FALSE NEIGHBOUR: 'it returns false'. Refute it at one input. -/
def strataCyclesWrong : ChangeSpec := { name := "strataCycles", fn := fun _ => fun
  | [d] => { results := [.lit (.bool false)], args := [d] }
  | _ => none }
def StrataCyclesWrongFalsely : Prop := strataCyclesRow.holds Tryz.pinned (OpenSpec.ofChange strataCyclesWrong)

/-- 'beaconrylaw10.FireTells': WHATEVER THE INPUT: true; the input reads as it did. -/
def fireTellsSpec : ChangeSpec := { name := "fireTells", fn := fun _ => fun
  | [d1, d2, d3] => { results := [.lit (.bool true)], args := [d1, d2, d3] }
  | _ => none }
def fireTellsRow : OpenClaim := { program := "ytjmnnjikmmglpaagreat", sum := "95cb4a06f1aa320f0f113980a5f21e8988a4f2f89e9716685de759cad817799d", func := "beaconry/beaconrylaw10.FireTells", spec := "fireTells", unfollowed := true, recurses := true, loops := true, apart := false }
def FireTellsSaid : Prop := fireTellsRow.holds Tryz.pinned (OpenSpec.ofChange fireTellsSpec)

/-- ITS FALSE NEIGHBOUR: 'it returns false'. Refute it at one input. -/
def fireTellsWrong : ChangeSpec := { name := "fireTells", fn := fun _ => fun
  | [d1, d2, d3] => { results := [.lit (.bool false)], args := [d1, d2, d3] }
  | _ => none }
def FireTellsWrongFalsely : Prop := fireTellsRow.holds Tryz.pinned (OpenSpec.ofChange fireTellsWrong)

/-- 'beaconrylaw10.FireMerges': WHATEVER THE INPUT: true; the input reads as it did. -/
def fireMergesSpec : ChangeSpec := { name := "fireMerges", fn := fun _ => fun
  | [d] => { results := [.lit (.bool true)], args := [d] }
  | _ => none }
def fireMergesRow : OpenClaim := { program := "ytjmnnjikmmglpaagreat", sum := "95cb4a06f1aa320f0f113980a5f21e8988a4f2f89e9716685de759cad817799d", func := "beaconry/beaconrylaw10.FireMerges", spec := "fireMerges", unfollowed := true, recurses := true, apart := false }
def FireMergesSaid : Prop := fireMergesRow.holds Tryz.pinned (OpenSpec.ofChange fireMergesSpec)

/-- ITS FALSE NEIGHBOUR: 'it returns false'. Refute it at one input. -/
def fireMergesWrong : ChangeSpec := { name := "fireMerges", fn := fun _ => fun
  | [d] => { results := [.lit (.bool false)], args := [d] }
  | _ => none }
def FireMergesWrongFalsely : Prop := fireMergesRow.holds Tryz.pinned (OpenSpec.ofChange fireMergesWrong)

/-- 'beaconrylaw10.FireMore': WHATEVER THE INPUT: true; the input reads as it did. -/
def fireMoreSpec : ChangeSpec := { name := "fireMore", fn := fun _ => fun
  | [d1, d2, d3] => { results := [.lit (.bool true)], args := [d1, d2, d3] }
  | _ => none }
def fireMoreRow : OpenClaim := { program := "ytjmnnjikmmglpaagreat", sum := "95cb4a06f1aa320f0f113980a5f21e8988a4f2f89e9716685de759cad817799d", func := "beaconry/beaconrylaw10.FireMore", spec := "fireMore", unfollowed := true, recurses := true, apart := false }
def FireMoreSaid : Prop := fireMoreRow.holds Tryz.pinned (OpenSpec.ofChange fireMoreSpec)

/-- ITS FALSE NEIGHBOUR: 'it returns false'. Refute it at one input. -/
def fireMoreWrong : ChangeSpec := { name := "fireMore", fn := fun _ => fun
  | [d1, d2, d3] => { results := [.lit (.bool false)], args := [d1, d2, d3] }
  | _ => none }
def FireMoreWrongFalsely : Prop := fireMoreRow.holds Tryz.pinned (OpenSpec.ofChange fireMoreWrong)

/-- 'beaconrylaw10.FireOthers': WHATEVER THE INPUT: true; the input reads as it did. -/
def fireOthersSpec : ChangeSpec := { name := "fireOthers", fn := fun _ => fun
  | [d1, d2, d3] => { results := [.lit (.bool true)], args := [d1, d2, d3] }
  | _ => none }
def fireOthersRow : OpenClaim := { program := "ytjmnnjikmmglpaagreat", sum := "95cb4a06f1aa320f0f113980a5f21e8988a4f2f89e9716685de759cad817799d", func := "beaconry/beaconrylaw10.FireOthers", spec := "fireOthers", unfollowed := true, recurses := true, apart := false }
def FireOthersSaid : Prop := fireOthersRow.holds Tryz.pinned (OpenSpec.ofChange fireOthersSpec)

/-- ITS FALSE NEIGHBOUR: 'it returns false'. Refute it at one input. -/
def fireOthersWrong : ChangeSpec := { name := "fireOthers", fn := fun _ => fun
  | [d1, d2, d3] => { results := [.lit (.bool false)], args := [d1, d2, d3] }
  | _ => none }
def FireOthersWrongFalsely : Prop := fireOthersRow.holds Tryz.pinned (OpenSpec.ofChange fireOthersWrong)

/-- 'beaconrylaw10.FireMerged': WHATEVER THE INPUT: true; the input reads as it did. -/
def fireMergedSpec : ChangeSpec := { name := "fireMerged", fn := fun _ => fun
  | [d1, d2] => { results := [.lit (.bool true)], args := [d1, d2] }
  | _ => none }
def fireMergedRow : OpenClaim := { program := "ytjmnnjikmmglpaagreat", sum := "95cb4a06f1aa320f0f113980a5f21e8988a4f2f89e9716685de759cad817799d", func := "beaconry/beaconrylaw10.FireMerged", spec := "fireMerged", unfollowed := true, recurses := true, apart := false }
def FireMergedSaid : Prop := fireMergedRow.holds Tryz.pinned (OpenSpec.ofChange fireMergedSpec)

/-- ITS FALSE NEIGHBOUR: 'it returns false'. Refute it at one input. -/
def fireMergedWrong : ChangeSpec := { name := "fireMerged", fn := fun _ => fun
  | [d1, d2] => { results := [.lit (.bool false)], args := [d1, d2] }
  | _ => none }
def FireMergedWrongFalsely : Prop := fireMergedRow.holds Tryz.pinned (OpenSpec.ofChange fireMergedWrong)

/- THE SECOND FORM. 'bulk': how many values and letters a reading holds, each counted each time it is reached (what is shared counts as often as it is met; a slice's spare places count too). A statement '..UptoSaid' is the law's where the arguments, and the package variables that the reading takes, are together of bulk at most 1048576: NARROWER than '..Said'. Prove '..Said' where nothing that the law and all that it calls make is longer than what came in: it says more and counts as full. Else prove '..UptoSaid'. A law counts once. -/
mutual
def uptoBulk {H : Type} : DataW H → Nat
  | .lit (.string bytes) => bytes.length + 1
  | .lit _ => 1
  | .nil => 1
  | .ptr d => uptoBulk d + 1
  | .slice elems spare => uptoBulkAll elems + uptoBulkAll spare + 1
  | .agg parts => uptoBulkAll parts + 1
  | .iface _ d => uptoBulk d + 1
  | .map entries => uptoBulkEntries entries + 1
  | .held _ => 1
def uptoBulkAll {H : Type} : List (DataW H) → Nat
  | [] => 0
  | d :: r => uptoBulk d + uptoBulkAll r
def uptoBulkEntries {H : Type} : List (Lit × DataW H) → Nat
  | [] => 0
  | x :: r => uptoBulkEntry x + uptoBulkEntries r
def uptoBulkEntry {H : Type} : Lit × DataW H → Nat
  | (.string bytes, d) => bytes.length + uptoBulk d + 1
  | (_, d) => uptoBulk d + 1
 end
def uptoSmall : (H : Type) → List (DataW H) → Bool := fun _ ds => decide (uptoBulkAll ds ≤ 1048576)
def OpenSpec.upto (s : _root_.Go.ChangeSpec) : _root_.Go.OpenSpec := { _root_.Go.OpenSpec.ofChange s with cond := some uptoSmall }

/-- 'beaconrylaw08.StrataCycles', WHERE WHAT IT READS IS OF BULK AT MOST 1048576: true; the input reads as it did. -/
def strataCyclesUptoRow : OpenClaim := { program := "ytjmnnjikmmglpaagreat", sum := "95cb4a06f1aa320f0f113980a5f21e8988a4f2f89e9716685de759cad817799d", func := "beaconry/beaconrylaw08.StrataCycles", spec := "strataCycles", unfollowed := true, recurses := true, apart := false, narrowed := true }
def StrataCyclesUptoSaid : Prop := strataCyclesUptoRow.holds Tryz.pinned (OpenSpec.upto strataCyclesSpec)

/-- 'beaconrylaw10.FireTells', WHERE WHAT IT READS IS OF BULK AT MOST 1048576: true; the input reads as it did. -/
def fireTellsUptoRow : OpenClaim := { program := "ytjmnnjikmmglpaagreat", sum := "95cb4a06f1aa320f0f113980a5f21e8988a4f2f89e9716685de759cad817799d", func := "beaconry/beaconrylaw10.FireTells", spec := "fireTells", unfollowed := true, recurses := true, loops := true, apart := false, narrowed := true }
def FireTellsUptoSaid : Prop := fireTellsUptoRow.holds Tryz.pinned (OpenSpec.upto fireTellsSpec)

/-- 'beaconrylaw10.FireMerges', WHERE WHAT IT READS IS OF BULK AT MOST 1048576: true; the input reads as it did. -/
def fireMergesUptoRow : OpenClaim := { program := "ytjmnnjikmmglpaagreat", sum := "95cb4a06f1aa320f0f113980a5f21e8988a4f2f89e9716685de759cad817799d", func := "beaconry/beaconrylaw10.FireMerges", spec := "fireMerges", unfollowed := true, recurses := true, apart := false, narrowed := true }
def FireMergesUptoSaid : Prop := fireMergesUptoRow.holds Tryz.pinned (OpenSpec.upto fireMergesSpec)

/-- 'beaconrylaw10.FireMore', WHERE WHAT IT READS IS OF BULK AT MOST 1048576: true; the input reads as it did. -/
def fireMoreUptoRow : OpenClaim := { program := "ytjmnnjikmmglpaagreat", sum := "95cb4a06f1aa320f0f113980a5f21e8988a4f2f89e9716685de759cad817799d", func := "beaconry/beaconrylaw10.FireMore", spec := "fireMore", unfollowed := true, recurses := true, apart := false, narrowed := true }
def FireMoreUptoSaid : Prop := fireMoreUptoRow.holds Tryz.pinned (OpenSpec.upto fireMoreSpec)

/-- 'beaconrylaw10.FireOthers', WHERE WHAT IT READS IS OF BULK AT MOST 1048576: true; the input reads as it did. -/
def fireOthersUptoRow : OpenClaim := { program := "ytjmnnjikmmglpaagreat", sum := "95cb4a06f1aa320f0f113980a5f21e8988a4f2f89e9716685de759cad817799d", func := "beaconry/beaconrylaw10.FireOthers", spec := "fireOthers", unfollowed := true, recurses := true, apart := false, narrowed := true }
def FireOthersUptoSaid : Prop := fireOthersUptoRow.holds Tryz.pinned (OpenSpec.upto fireOthersSpec)

/-- 'beaconrylaw10.FireMerged', WHERE WHAT IT READS IS OF BULK AT MOST 1048576: true; the input reads as it did. -/
def fireMergedUptoRow : OpenClaim := { program := "ytjmnnjikmmglpaagreat", sum := "95cb4a06f1aa320f0f113980a5f21e8988a4f2f89e9716685de759cad817799d", func := "beaconry/beaconrylaw10.FireMerged", spec := "fireMerged", unfollowed := true, recurses := true, apart := false, narrowed := true }
def FireMergedUptoSaid : Prop := fireMergedUptoRow.holds Tryz.pinned (OpenSpec.upto fireMergedSpec)

end Rows
end Go.Proofs.YtjmnnjikmmglpaaGreat
