/-
  DERIVED. GIVEN WITH THE SEED: THE CARDS: each row of YtcmlojigcgihbaaGreatDoorRows.lean that lists a variable, with what it lists TIED to the program's text (the seventh form; the later family's looks); each row that meets fmt, with fmt's text TOLD by the authors' own Lean function (tested against real Go, not proved from fmt's source: count such statements apart). THE CARD IS WHAT COUNTS. Prove the row's statement (the work); the ties are given (YtcmlojigcgihbaaGreatDoorTie.lean); close each card by the builder's one call (the guide's Derived/Test/ToyasCard.lean, 'card_holds'). Laid BY PROGRAM, IN A SANDBOX (cutbox-door.mjs). By AI agents, Wed Nov 11 2026. No macro, syntax, notation, axiom, sorry.
-/
import Derived.Test.YtcmlojigcgihbaaGreatDoorRows
import GoSem.ClaimSeven
namespace Go.Proofs.YtcmlojigcgihbaaGreatDoor
namespace Rows

/-- THE TIED CARD OF 'beaconrylaw07.LocateTells'. -/
def locateTellsCard : Claim7 := { stood := { row := locateTellsRow, standIns := [], harness := (true, "abf28fd1c8d8624e88be3d409871b68c9774441e4cce49d65affb09452d231c7"), looks := false }, kinds := [], alts := [], laidByText := true, laidKinds := [.data, .data, .data], laidTests := true, laidLooks := .later }
def LocateTellsCardSaid : Prop := Claim7.holds Tryz.pinned (.plain (OpenSpec.ofChange locateTellsSpec)) locateTellsCard

/-- THE TIED CARD OF 'beaconrylaw08.StrataTells'. -/
def strataTellsCard : Claim7 := { stood := { row := strataTellsRow, standIns := [], harness := (true, "abf28fd1c8d8624e88be3d409871b68c9774441e4cce49d65affb09452d231c7"), looks := false }, kinds := [], alts := [], laidByText := true, laidKinds := [.data, .data, .data], laidTests := true, laidLooks := .later }
def StrataTellsCardSaid : Prop := Claim7.holds Tryz.pinned (.plain (OpenSpec.ofChange strataTellsSpec)) strataTellsCard

/-- THE TIED CARD OF 'beaconrylaw08.StrataRules'. -/
def strataRulesCard : Claim7 := { stood := { row := strataRulesRow, standIns := [], harness := (true, "abf28fd1c8d8624e88be3d409871b68c9774441e4cce49d65affb09452d231c7"), looks := false }, kinds := [], alts := [], laidByText := true, laidKinds := [.data, .data, .data], laidTests := true, laidLooks := .later }
def StrataRulesCardSaid : Prop := Claim7.holds Tryz.pinned (.plain (OpenSpec.ofChange strataRulesSpec)) strataRulesCard

/-- THE SECOND FORM's CARD OF 'beaconrylaw07.LocateTells'. -/
def locateTellsUptoCard : Claim7 := { stood := { row := locateTellsUptoRow, standIns := [], harness := (true, "abf28fd1c8d8624e88be3d409871b68c9774441e4cce49d65affb09452d231c7"), looks := false }, kinds := [], alts := [], laidByText := true, laidKinds := [.data, .data, .data], laidTests := true, laidLooks := .later }
def LocateTellsUptoCardSaid : Prop := Claim7.holds Tryz.pinned (.plain (OpenSpec.upto locateTellsSpec)) locateTellsUptoCard

/-- THE SECOND FORM's CARD OF 'beaconrylaw08.StrataTells'. -/
def strataTellsUptoCard : Claim7 := { stood := { row := strataTellsUptoRow, standIns := [], harness := (true, "abf28fd1c8d8624e88be3d409871b68c9774441e4cce49d65affb09452d231c7"), looks := false }, kinds := [], alts := [], laidByText := true, laidKinds := [.data, .data, .data], laidTests := true, laidLooks := .later }
def StrataTellsUptoCardSaid : Prop := Claim7.holds Tryz.pinned (.plain (OpenSpec.upto strataTellsSpec)) strataTellsUptoCard

/-- THE SECOND FORM's CARD OF 'beaconrylaw08.StrataRules'. -/
def strataRulesUptoCard : Claim7 := { stood := { row := strataRulesUptoRow, standIns := [], harness := (true, "abf28fd1c8d8624e88be3d409871b68c9774441e4cce49d65affb09452d231c7"), looks := false }, kinds := [], alts := [], laidByText := true, laidKinds := [.data, .data, .data], laidTests := true, laidLooks := .later }
def StrataRulesUptoCardSaid : Prop := Claim7.holds Tryz.pinned (.plain (OpenSpec.upto strataRulesSpec)) strataRulesUptoCard
end Rows
end Go.Proofs.YtcmlojigcgihbaaGreatDoor
