/-
  DERIVED. GIVEN WITH THE SEED: THE CARDS: each row of YtaomlkglodeaoaaDoorRows.lean that lists a variable, with what it lists TIED to the program's text (the seventh form; the later family's looks); each row that meets fmt, with fmt's text TOLD by the authors' own Lean function (tested against real Go, not proved from fmt's source: count such statements apart). THE CARD IS WHAT COUNTS. Prove the row's statement (the work); the ties are given (YtaomlkglodeaoaaDoorTie.lean); close each card by the builder's one call (the guide's Derived/Test/ToyasCard.lean, 'card_holds'). Laid BY PROGRAM, IN A SANDBOX (cutbox-door.mjs). By AI agents, Wed Nov 11 2026. No macro, syntax, notation, axiom, sorry.
-/
import Derived.Test.YtaomlkglodeaoaaDoorRows
import GoSem.ClaimSeven
namespace Go.Proofs.YtaomlkglodeaoaaDoor
namespace Rows

/-- THE TIED CARD OF 'beaconrylaw02.BuiltinTells'. -/
def builtinTellsCard : Claim7 := { stood := { row := builtinTellsRow, standIns := [], harness := (true, "424a8640bfc4be66ff0a7b0798a95e85651c55fbdb197dff81df1e6c9ed6d73a"), looks := false }, kinds := [], alts := [], laidByText := true, laidKinds := [.data, .data, .data], laidTests := true, laidLooks := .later }
def BuiltinTellsCardSaid : Prop := Claim7.holds Tryd.pinned (.plain (OpenSpec.ofChange builtinTellsSpec)) builtinTellsCard

/-- THE SECOND FORM's CARD OF 'beaconrylaw02.BuiltinTells'. -/
def builtinTellsUptoCard : Claim7 := { stood := { row := builtinTellsUptoRow, standIns := [], harness := (true, "424a8640bfc4be66ff0a7b0798a95e85651c55fbdb197dff81df1e6c9ed6d73a"), looks := false }, kinds := [], alts := [], laidByText := true, laidKinds := [.data, .data, .data], laidTests := true, laidLooks := .later }
def BuiltinTellsUptoCardSaid : Prop := Claim7.holds Tryd.pinned (.plain (OpenSpec.upto builtinTellsSpec)) builtinTellsUptoCard
end Rows
end Go.Proofs.YtaomlkglodeaoaaDoor
