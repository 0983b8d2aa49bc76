/-
  DERIVED. GIVEN WITH THE SEED: THE CARDS: each row of YtgjemmdhamkngaaGreatDoorRows.lean that lists a variable, with what it lists TIED to the program's text (the seventh form; the later family's looks); each row that meets fmt, with fmt's text TOLD by the authors' own Lean function (tested against real Go, not proved from fmt's source: count such statements apart). THE CARD IS WHAT COUNTS. Prove the row's statement (the work); the ties are given (YtgjemmdhamkngaaGreatDoorTie.lean); close each card by the builder's one call (the guide's Derived/Test/ToyasCard.lean, 'card_holds'). Laid BY PROGRAM, IN A SANDBOX (cutbox-door.mjs). By AI agents, Wed Nov 11 2026. No macro, syntax, notation, axiom, sorry.
-/
import Derived.Test.YtgjemmdhamkngaaGreatDoorRows
import GoSem.ClaimSeven
namespace Go.Proofs.YtgjemmdhamkngaaGreatDoor
namespace Rows

/-- THE TIED CARD OF 'beaconrylaw04.PrinterTells'. -/
def printerTellsCard : Claim7 := { stood := { row := printerTellsRow, standIns := [], harness := (true, "9090e174d0e24f75201e3d5cfc90c7b82615978fa02b09fabf7ee2f6caad1a03"), looks := false }, kinds := [], alts := [], laidByText := true, laidKinds := [.data, .data, .data], laidTests := true, laidLooks := .later }
def PrinterTellsCardSaid : Prop := Claim7.holds Tryz.pinned (.plain (OpenSpec.ofChange printerTellsSpec)) printerTellsCard

/-- THE TIED CARD OF 'beaconrylaw04.PrinterGoes'. -/
def printerGoesCard : Claim7 := { stood := { row := printerGoesRow, standIns := [], harness := (true, "9090e174d0e24f75201e3d5cfc90c7b82615978fa02b09fabf7ee2f6caad1a03"), looks := false }, kinds := [], alts := [], laidByText := true, laidKinds := [.data, .data, .data], laidTests := true, laidLooks := .later }
def PrinterGoesCardSaid : Prop := Claim7.holds Tryz.pinned (.plain (OpenSpec.ofChange printerGoesSpec)) printerGoesCard

/-- THE TIED CARD OF 'beaconrylaw04.PrinterApart'. -/
def printerApartCard : Claim7 := { stood := { row := printerApartRow, standIns := [], harness := (true, "9090e174d0e24f75201e3d5cfc90c7b82615978fa02b09fabf7ee2f6caad1a03"), looks := false }, kinds := [], alts := [], laidByText := true, laidKinds := [.data, .data, .data], laidTests := true, laidLooks := .later }
def PrinterApartCardSaid : Prop := Claim7.holds Tryz.pinned (.plain (OpenSpec.ofChange printerApartSpec)) printerApartCard

/-- THE TIED CARD OF 'beaconrylaw04.PrinterTerms'. -/
def printerTermsCard : Claim7 := { stood := { row := printerTermsRow, standIns := [], harness := (true, "9090e174d0e24f75201e3d5cfc90c7b82615978fa02b09fabf7ee2f6caad1a03"), looks := false }, kinds := [], alts := [], laidByText := true, laidKinds := [.data, .data, .data], laidTests := true, laidLooks := .later }
def PrinterTermsCardSaid : Prop := Claim7.holds Tryz.pinned (.plain (OpenSpec.ofChange printerTermsSpec)) printerTermsCard

/-- THE TIED CARD OF 'beaconrylaw04.PrinterWrong'. -/
def printerWrongCard : Claim7 := { stood := { row := printerWrongRow, standIns := [], harness := (true, "9090e174d0e24f75201e3d5cfc90c7b82615978fa02b09fabf7ee2f6caad1a03"), looks := false }, kinds := [], alts := [], laidByText := true, laidKinds := [.data, .data, .data], laidTests := true, laidLooks := .later }
def PrinterWrongCardSaid : Prop := Claim7.holds Tryz.pinned (.plain (OpenSpec.ofChange printerWrongSpec)) printerWrongCard

/-- THE TIED CARD OF 'beaconrylaw04.PrinterJoins'. -/
def printerJoinsCard : Claim7 := { stood := { row := printerJoinsRow, standIns := [], harness := (true, "9090e174d0e24f75201e3d5cfc90c7b82615978fa02b09fabf7ee2f6caad1a03"), looks := false }, kinds := [], alts := [], laidByText := true, laidKinds := [.data, .data, .data], laidTests := true, laidLooks := .later }
def PrinterJoinsCardSaid : Prop := Claim7.holds Tryz.pinned (.plain (OpenSpec.ofChange printerJoinsSpec)) printerJoinsCard

/-- THE SECOND FORM's CARD OF 'beaconrylaw04.PrinterTells'. -/
def printerTellsUptoCard : Claim7 := { stood := { row := printerTellsUptoRow, standIns := [], harness := (true, "9090e174d0e24f75201e3d5cfc90c7b82615978fa02b09fabf7ee2f6caad1a03"), looks := false }, kinds := [], alts := [], laidByText := true, laidKinds := [.data, .data, .data], laidTests := true, laidLooks := .later }
def PrinterTellsUptoCardSaid : Prop := Claim7.holds Tryz.pinned (.plain (OpenSpec.upto printerTellsSpec)) printerTellsUptoCard

/-- THE SECOND FORM's CARD OF 'beaconrylaw04.PrinterGoes'. -/
def printerGoesUptoCard : Claim7 := { stood := { row := printerGoesUptoRow, standIns := [], harness := (true, "9090e174d0e24f75201e3d5cfc90c7b82615978fa02b09fabf7ee2f6caad1a03"), looks := false }, kinds := [], alts := [], laidByText := true, laidKinds := [.data, .data, .data], laidTests := true, laidLooks := .later }
def PrinterGoesUptoCardSaid : Prop := Claim7.holds Tryz.pinned (.plain (OpenSpec.upto printerGoesSpec)) printerGoesUptoCard

/-- THE SECOND FORM's CARD OF 'beaconrylaw04.PrinterApart'. -/
def printerApartUptoCard : Claim7 := { stood := { row := printerApartUptoRow, standIns := [], harness := (true, "9090e174d0e24f75201e3d5cfc90c7b82615978fa02b09fabf7ee2f6caad1a03"), looks := false }, kinds := [], alts := [], laidByText := true, laidKinds := [.data, .data, .data], laidTests := true, laidLooks := .later }
def PrinterApartUptoCardSaid : Prop := Claim7.holds Tryz.pinned (.plain (OpenSpec.upto printerApartSpec)) printerApartUptoCard

/-- THE SECOND FORM's CARD OF 'beaconrylaw04.PrinterTerms'. -/
def printerTermsUptoCard : Claim7 := { stood := { row := printerTermsUptoRow, standIns := [], harness := (true, "9090e174d0e24f75201e3d5cfc90c7b82615978fa02b09fabf7ee2f6caad1a03"), looks := false }, kinds := [], alts := [], laidByText := true, laidKinds := [.data, .data, .data], laidTests := true, laidLooks := .later }
def PrinterTermsUptoCardSaid : Prop := Claim7.holds Tryz.pinned (.plain (OpenSpec.upto printerTermsSpec)) printerTermsUptoCard

/-- THE SECOND FORM's CARD OF 'beaconrylaw04.PrinterWrong'. -/
def printerWrongUptoCard : Claim7 := { stood := { row := printerWrongUptoRow, standIns := [], harness := (true, "9090e174d0e24f75201e3d5cfc90c7b82615978fa02b09fabf7ee2f6caad1a03"), looks := false }, kinds := [], alts := [], laidByText := true, laidKinds := [.data, .data, .data], laidTests := true, laidLooks := .later }
def PrinterWrongUptoCardSaid : Prop := Claim7.holds Tryz.pinned (.plain (OpenSpec.upto printerWrongSpec)) printerWrongUptoCard

/-- THE SECOND FORM's CARD OF 'beaconrylaw04.PrinterJoins'. -/
def printerJoinsUptoCard : Claim7 := { stood := { row := printerJoinsUptoRow, standIns := [], harness := (true, "9090e174d0e24f75201e3d5cfc90c7b82615978fa02b09fabf7ee2f6caad1a03"), looks := false }, kinds := [], alts := [], laidByText := true, laidKinds := [.data, .data, .data], laidTests := true, laidLooks := .later }
def PrinterJoinsUptoCardSaid : Prop := Claim7.holds Tryz.pinned (.plain (OpenSpec.upto printerJoinsSpec)) printerJoinsUptoCard
end Rows
end Go.Proofs.YtgjemmdhamkngaaGreatDoor
