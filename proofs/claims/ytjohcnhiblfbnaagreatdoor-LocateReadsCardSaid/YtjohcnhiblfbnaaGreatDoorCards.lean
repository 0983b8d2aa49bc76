/-
  DERIVED. GIVEN WITH THE SEED: THE CARDS: each row of YtjohcnhiblfbnaaGreatDoorRows.lean that lists a variable, with what it lists TIED to the program's text (the seventh form; the later family's looks); each row that meets fmt, with fmt's text TOLD by the authors' own Lean function (tested against real Go, not proved from fmt's source: count such statements apart). THE CARD IS WHAT COUNTS. Prove the row's statement (the work); the ties are given (YtjohcnhiblfbnaaGreatDoorTie.lean); close each card by the builder's one call (the guide's Derived/Test/ToyasCard.lean, 'card_holds'). Laid BY PROGRAM, IN A SANDBOX (cutbox-door.mjs). By AI agents, Wed Nov 11 2026. No macro, syntax, notation, axiom, sorry.
-/
import Derived.Test.YtjohcnhiblfbnaaGreatDoorRows
import GoSem.ClaimSeven
namespace Go.Proofs.YtjohcnhiblfbnaaGreatDoor
namespace Rows

/-- THE TIED CARD OF 'beaconrylaw07.LocateTells'. -/
def locateTellsCard : Claim7 := { stood := { row := locateTellsRow, standIns := [], harness := (true, "f3dca6e1156080885526721504600bdac4d23c4548dfbe85f1ac8f0e507d53b4"), looks := false }, kinds := [], alts := [], laidByText := true, laidKinds := [.data, .data, .data], laidTests := true, laidLooks := .later }
def LocateTellsCardSaid : Prop := Claim7.holds Tryz.pinned (.plain (OpenSpec.ofChange locateTellsSpec)) locateTellsCard

/-- THE TIED CARD OF 'beaconrylaw07.LocateReads'. -/
def locateReadsCard : Claim7 := { stood := { row := locateReadsRow, standIns := [], harness := (true, "f3dca6e1156080885526721504600bdac4d23c4548dfbe85f1ac8f0e507d53b4"), looks := false }, kinds := [], alts := [], laidByText := true, laidKinds := [.data, .data, .data], laidTests := true, laidLooks := .later }
def LocateReadsCardSaid : Prop := Claim7.holds Tryz.pinned (.plain (OpenSpec.ofChange locateReadsSpec)) locateReadsCard

/-- THE TIED CARD OF 'beaconrylaw07.LocateChecks'. -/
def locateChecksCard : Claim7 := { stood := { row := locateChecksRow, standIns := [], harness := (true, "f3dca6e1156080885526721504600bdac4d23c4548dfbe85f1ac8f0e507d53b4"), looks := false }, kinds := [], alts := [], laidByText := true, laidKinds := [.data, .data, .data], laidTests := true, laidLooks := .later }
def LocateChecksCardSaid : Prop := Claim7.holds Tryz.pinned (.plain (OpenSpec.ofChange locateChecksSpec)) locateChecksCard

/-- THE TIED CARD OF 'beaconrylaw07.LocateMore'. -/
def locateMoreCard : Claim7 := { stood := { row := locateMoreRow, standIns := [], harness := (true, "f3dca6e1156080885526721504600bdac4d23c4548dfbe85f1ac8f0e507d53b4"), looks := false }, kinds := [], alts := [], laidByText := true, laidKinds := [.data, .data, .data], laidTests := true, laidLooks := .later }
def LocateMoreCardSaid : Prop := Claim7.holds Tryz.pinned (.plain (OpenSpec.ofChange locateMoreSpec)) locateMoreCard

/-- THE TIED CARD OF 'beaconrylaw07.LocateNames'. -/
def locateNamesCard : Claim7 := { stood := { row := locateNamesRow, standIns := [], harness := (true, "f3dca6e1156080885526721504600bdac4d23c4548dfbe85f1ac8f0e507d53b4"), looks := false }, kinds := [], alts := [], laidByText := true, laidKinds := [.data, .data, .data], laidTests := true, laidLooks := .later }
def LocateNamesCardSaid : Prop := Claim7.holds Tryz.pinned (.plain (OpenSpec.ofChange locateNamesSpec)) locateNamesCard

/-- THE TIED CARD OF 'beaconrylaw08.StrataTells'. -/
def strataTellsCard : Claim7 := { stood := { row := strataTellsRow, standIns := [], harness := (true, "f3dca6e1156080885526721504600bdac4d23c4548dfbe85f1ac8f0e507d53b4"), looks := false }, kinds := [], alts := [], laidByText := true, laidKinds := [.data, .data, .data], laidTests := true, laidLooks := .later }
def StrataTellsCardSaid : Prop := Claim7.holds Tryz.pinned (.plain (OpenSpec.ofChange strataTellsSpec)) strataTellsCard

/-- THE TIED CARD OF 'beaconrylaw08.StrataRules'. -/
def strataRulesCard : Claim7 := { stood := { row := strataRulesRow, standIns := [], harness := (true, "f3dca6e1156080885526721504600bdac4d23c4548dfbe85f1ac8f0e507d53b4"), looks := false }, kinds := [], alts := [], laidByText := true, laidKinds := [.data, .data, .data], laidTests := true, laidLooks := .later }
def StrataRulesCardSaid : Prop := Claim7.holds Tryz.pinned (.plain (OpenSpec.ofChange strataRulesSpec)) strataRulesCard

/-- THE SECOND FORM's CARD OF 'beaconrylaw07.LocateTells'. -/
def locateTellsUptoCard : Claim7 := { stood := { row := locateTellsUptoRow, standIns := [], harness := (true, "f3dca6e1156080885526721504600bdac4d23c4548dfbe85f1ac8f0e507d53b4"), looks := false }, kinds := [], alts := [], laidByText := true, laidKinds := [.data, .data, .data], laidTests := true, laidLooks := .later }
def LocateTellsUptoCardSaid : Prop := Claim7.holds Tryz.pinned (.plain (OpenSpec.upto locateTellsSpec)) locateTellsUptoCard

/-- THE SECOND FORM's CARD OF 'beaconrylaw07.LocateReads'. -/
def locateReadsUptoCard : Claim7 := { stood := { row := locateReadsUptoRow, standIns := [], harness := (true, "f3dca6e1156080885526721504600bdac4d23c4548dfbe85f1ac8f0e507d53b4"), looks := false }, kinds := [], alts := [], laidByText := true, laidKinds := [.data, .data, .data], laidTests := true, laidLooks := .later }
def LocateReadsUptoCardSaid : Prop := Claim7.holds Tryz.pinned (.plain (OpenSpec.upto locateReadsSpec)) locateReadsUptoCard

/-- THE SECOND FORM's CARD OF 'beaconrylaw07.LocateChecks'. -/
def locateChecksUptoCard : Claim7 := { stood := { row := locateChecksUptoRow, standIns := [], harness := (true, "f3dca6e1156080885526721504600bdac4d23c4548dfbe85f1ac8f0e507d53b4"), looks := false }, kinds := [], alts := [], laidByText := true, laidKinds := [.data, .data, .data], laidTests := true, laidLooks := .later }
def LocateChecksUptoCardSaid : Prop := Claim7.holds Tryz.pinned (.plain (OpenSpec.upto locateChecksSpec)) locateChecksUptoCard

/-- THE SECOND FORM's CARD OF 'beaconrylaw07.LocateMore'. -/
def locateMoreUptoCard : Claim7 := { stood := { row := locateMoreUptoRow, standIns := [], harness := (true, "f3dca6e1156080885526721504600bdac4d23c4548dfbe85f1ac8f0e507d53b4"), looks := false }, kinds := [], alts := [], laidByText := true, laidKinds := [.data, .data, .data], laidTests := true, laidLooks := .later }
def LocateMoreUptoCardSaid : Prop := Claim7.holds Tryz.pinned (.plain (OpenSpec.upto locateMoreSpec)) locateMoreUptoCard

/-- THE SECOND FORM's CARD OF 'beaconrylaw07.LocateNames'. -/
def locateNamesUptoCard : Claim7 := { stood := { row := locateNamesUptoRow, standIns := [], harness := (true, "f3dca6e1156080885526721504600bdac4d23c4548dfbe85f1ac8f0e507d53b4"), looks := false }, kinds := [], alts := [], laidByText := true, laidKinds := [.data, .data, .data], laidTests := true, laidLooks := .later }
def LocateNamesUptoCardSaid : Prop := Claim7.holds Tryz.pinned (.plain (OpenSpec.upto locateNamesSpec)) locateNamesUptoCard

/-- THE SECOND FORM's CARD OF 'beaconrylaw08.StrataTells'. -/
def strataTellsUptoCard : Claim7 := { stood := { row := strataTellsUptoRow, standIns := [], harness := (true, "f3dca6e1156080885526721504600bdac4d23c4548dfbe85f1ac8f0e507d53b4"), looks := false }, kinds := [], alts := [], laidByText := true, laidKinds := [.data, .data, .data], laidTests := true, laidLooks := .later }
def StrataTellsUptoCardSaid : Prop := Claim7.holds Tryz.pinned (.plain (OpenSpec.upto strataTellsSpec)) strataTellsUptoCard

/-- THE SECOND FORM's CARD OF 'beaconrylaw08.StrataRules'. -/
def strataRulesUptoCard : Claim7 := { stood := { row := strataRulesUptoRow, standIns := [], harness := (true, "f3dca6e1156080885526721504600bdac4d23c4548dfbe85f1ac8f0e507d53b4"), looks := false }, kinds := [], alts := [], laidByText := true, laidKinds := [.data, .data, .data], laidTests := true, laidLooks := .later }
def StrataRulesUptoCardSaid : Prop := Claim7.holds Tryz.pinned (.plain (OpenSpec.upto strataRulesSpec)) strataRulesUptoCard
end Rows
end Go.Proofs.YtjohcnhiblfbnaaGreatDoor
