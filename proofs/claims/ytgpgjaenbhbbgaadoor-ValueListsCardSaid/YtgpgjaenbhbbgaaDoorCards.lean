/-
  DERIVED. GIVEN WITH THE SEED: THE CARDS: each row of YtgpgjaenbhbbgaaDoorRows.lean that lists a variable, with what it lists TIED to the program's text (the seventh form; the later family's looks); each row that meets fmt, with fmt's text TOLD by the authors' own Lean function (tested against real Go, not proved from fmt's source: count such statements apart). THE CARD IS WHAT COUNTS. Prove the row's statement (the work); the ties are given (YtgpgjaenbhbbgaaDoorTie.lean); close each card by the builder's one call (the guide's Derived/Test/ToyasCard.lean, 'card_holds'). Laid BY PROGRAM, IN A SANDBOX (cutbox-door.mjs). By AI agents, Wed Nov 11 2026. No macro, syntax, notation, axiom, sorry.
-/
import Derived.Test.YtgpgjaenbhbbgaaDoorRows
import GoSem.ClaimSeven
namespace Go.Proofs.YtgpgjaenbhbbgaaDoor
namespace Rows

/-- THE TIED CARD OF 'beaconrylaw01.ValueLists'. -/
def valueListsCard : Claim7 := { stood := { row := valueListsRow, standIns := [], harness := (true, "2dca61d429f3955f89d11665e98dd2a29e1716e1fd2598fa3dd797d9c8ed1b88"), looks := false }, kinds := [], alts := [], laidByText := true, laidKinds := [.data, .data, .data], laidTests := true, laidLooks := .later }
def ValueListsCardSaid : Prop := Claim7.holds Tryd.pinned (.plain (OpenSpec.ofChange valueListsSpec)) valueListsCard

/-- THE TIED CARD OF 'beaconrylaw02.BuiltinTells'. -/
def builtinTellsCard : Claim7 := { stood := { row := builtinTellsRow, standIns := [], harness := (true, "2dca61d429f3955f89d11665e98dd2a29e1716e1fd2598fa3dd797d9c8ed1b88"), looks := false }, kinds := [], alts := [], laidByText := true, laidKinds := [.data, .data, .data], laidTests := true, laidLooks := .later }
def BuiltinTellsCardSaid : Prop := Claim7.holds Tryd.pinned (.plain (OpenSpec.ofChange builtinTellsSpec)) builtinTellsCard

/-- THE TIED CARD OF 'beaconrylaw03.LexerTells'. -/
def lexerTellsCard : Claim7 := { stood := { row := lexerTellsRow, standIns := [], harness := (true, "2dca61d429f3955f89d11665e98dd2a29e1716e1fd2598fa3dd797d9c8ed1b88"), looks := false }, kinds := [], alts := [], laidByText := true, laidKinds := [.data], laidTests := true, laidLooks := .later }
def LexerTellsCardSaid : Prop := Claim7.holds Tryd.pinned (.plain (OpenSpec.ofChange lexerTellsSpec)) lexerTellsCard

/-- THE SECOND FORM's CARD OF 'beaconrylaw01.ValueLists'. -/
def valueListsUptoCard : Claim7 := { stood := { row := valueListsUptoRow, standIns := [], harness := (true, "2dca61d429f3955f89d11665e98dd2a29e1716e1fd2598fa3dd797d9c8ed1b88"), looks := false }, kinds := [], alts := [], laidByText := true, laidKinds := [.data, .data, .data], laidTests := true, laidLooks := .later }
def ValueListsUptoCardSaid : Prop := Claim7.holds Tryd.pinned (.plain (OpenSpec.upto valueListsSpec)) valueListsUptoCard

/-- THE SECOND FORM's CARD OF 'beaconrylaw02.BuiltinTells'. -/
def builtinTellsUptoCard : Claim7 := { stood := { row := builtinTellsUptoRow, standIns := [], harness := (true, "2dca61d429f3955f89d11665e98dd2a29e1716e1fd2598fa3dd797d9c8ed1b88"), looks := false }, kinds := [], alts := [], laidByText := true, laidKinds := [.data, .data, .data], laidTests := true, laidLooks := .later }
def BuiltinTellsUptoCardSaid : Prop := Claim7.holds Tryd.pinned (.plain (OpenSpec.upto builtinTellsSpec)) builtinTellsUptoCard

/-- THE SECOND FORM's CARD OF 'beaconrylaw03.LexerTells'. -/
def lexerTellsUptoCard : Claim7 := { stood := { row := lexerTellsUptoRow, standIns := [], harness := (true, "2dca61d429f3955f89d11665e98dd2a29e1716e1fd2598fa3dd797d9c8ed1b88"), looks := false }, kinds := [], alts := [], laidByText := true, laidKinds := [.data], laidTests := true, laidLooks := .later }
def LexerTellsUptoCardSaid : Prop := Claim7.holds Tryd.pinned (.plain (OpenSpec.upto lexerTellsSpec)) lexerTellsUptoCard
end Rows
end Go.Proofs.YtgpgjaenbhbbgaaDoor
