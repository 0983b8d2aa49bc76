/-
  DERIVED. GIVEN WITH THE SEED: THE CARDS: each row of YtgkgnfafjbjbnaaDoorRows.lean that lists a variable, with what it lists TIED to the program's text (the seventh form; the later family's looks); each row that meets fmt, with fmt's text TOLD by the authors' own Lean function (tested against real Go, not proved from fmt's source: count such statements apart). THE CARD IS WHAT COUNTS. Prove the row's statement (the work); the ties are given (YtgkgnfafjbjbnaaDoorTie.lean); close each card by the builder's one call (the guide's Derived/Test/ToyasCard.lean, 'card_holds'). Laid BY PROGRAM, IN A SANDBOX (cutbox-door.mjs). By AI agents, Wed Nov 11 2026. No macro, syntax, notation, axiom, sorry.
-/
import Derived.Test.YtgkgnfafjbjbnaaDoorRows
import GoSem.ClaimSeven
namespace Go.Proofs.YtgkgnfafjbjbnaaDoor
namespace Rows

/-- THE TIED CARD OF 'beaconrylaw01.ValueLists'. -/
def valueListsCard : Claim7 := { stood := { row := valueListsRow, standIns := [], harness := (true, "756f184325ccc91b6f74aedfb0778d695cd47ac0292a56d805975e9cb3580e2e"), looks := false }, kinds := [], alts := [], laidByText := true, laidKinds := [.data, .data, .data], laidTests := true, laidLooks := .later }
def ValueListsCardSaid : Prop := Claim7.holds Tryd.pinned (.plain (OpenSpec.ofChange valueListsSpec)) valueListsCard

/-- THE TIED CARD OF 'beaconrylaw02.BuiltinTells'. -/
def builtinTellsCard : Claim7 := { stood := { row := builtinTellsRow, standIns := [], harness := (true, "756f184325ccc91b6f74aedfb0778d695cd47ac0292a56d805975e9cb3580e2e"), looks := false }, kinds := [], alts := [], laidByText := true, laidKinds := [.data, .data, .data], laidTests := true, laidLooks := .later }
def BuiltinTellsCardSaid : Prop := Claim7.holds Tryd.pinned (.plain (OpenSpec.ofChange builtinTellsSpec)) builtinTellsCard

/-- THE TIED CARD OF 'beaconrylaw02.BuiltinRight'. -/
def builtinRightCard : Claim7 := { stood := { row := builtinRightRow, standIns := [], harness := (true, "756f184325ccc91b6f74aedfb0778d695cd47ac0292a56d805975e9cb3580e2e"), looks := false }, kinds := [], alts := [], laidByText := true, laidKinds := [.data, .data, .data], laidTests := true, laidLooks := .later }
def BuiltinRightCardSaid : Prop := Claim7.holds Tryd.pinned (.plain (OpenSpec.ofChange builtinRightSpec)) builtinRightCard

/-- THE TIED CARD OF 'beaconrylaw03.LexerTells'. -/
def lexerTellsCard : Claim7 := { stood := { row := lexerTellsRow, standIns := [], harness := (true, "756f184325ccc91b6f74aedfb0778d695cd47ac0292a56d805975e9cb3580e2e"), looks := false }, kinds := [], alts := [], laidByText := true, laidKinds := [.data], laidTests := true, laidLooks := .later }
def LexerTellsCardSaid : Prop := Claim7.holds Tryd.pinned (.plain (OpenSpec.ofChange lexerTellsSpec)) lexerTellsCard

/-- THE TIED CARD OF 'beaconrylaw03.LexerBack'. -/
def lexerBackCard : Claim7 := { stood := { row := lexerBackRow, standIns := [], harness := (true, "756f184325ccc91b6f74aedfb0778d695cd47ac0292a56d805975e9cb3580e2e"), looks := false }, kinds := [], alts := [], laidByText := true, laidKinds := [.data], laidTests := true, laidLooks := .later }
def LexerBackCardSaid : Prop := Claim7.holds Tryd.pinned (.plain (OpenSpec.ofChange lexerBackSpec)) lexerBackCard

/-- THE TIED CARD OF 'beaconrylaw03.LexerAgain'. -/
def lexerAgainCard : Claim7 := { stood := { row := lexerAgainRow, standIns := [], harness := (true, "756f184325ccc91b6f74aedfb0778d695cd47ac0292a56d805975e9cb3580e2e"), looks := false }, kinds := [], alts := [], laidByText := true, laidKinds := [.data], laidTests := true, laidLooks := .later }
def LexerAgainCardSaid : Prop := Claim7.holds Tryd.pinned (.plain (OpenSpec.ofChange lexerAgainSpec)) lexerAgainCard

/-- THE TIED CARD OF 'beaconrylaw03.LexerBlanks'. -/
def lexerBlanksCard : Claim7 := { stood := { row := lexerBlanksRow, standIns := [], harness := (true, "756f184325ccc91b6f74aedfb0778d695cd47ac0292a56d805975e9cb3580e2e"), looks := false }, kinds := [], alts := [], laidByText := true, laidKinds := [.data], laidTests := true, laidLooks := .later }
def LexerBlanksCardSaid : Prop := Claim7.holds Tryd.pinned (.plain (OpenSpec.ofChange lexerBlanksSpec)) lexerBlanksCard

/-- THE TIED CARD OF 'beaconrylaw03.LexerWhere'. -/
def lexerWhereCard : Claim7 := { stood := { row := lexerWhereRow, standIns := [], harness := (true, "756f184325ccc91b6f74aedfb0778d695cd47ac0292a56d805975e9cb3580e2e"), looks := false }, kinds := [], alts := [], laidByText := true, laidKinds := [.data], laidTests := true, laidLooks := .later }
def LexerWhereCardSaid : Prop := Claim7.holds Tryd.pinned (.plain (OpenSpec.ofChange lexerWhereSpec)) lexerWhereCard

/-- THE TIED CARD OF 'beaconrylaw03.LexerLines'. -/
def lexerLinesCard : Claim7 := { stood := { row := lexerLinesRow, standIns := [], harness := (true, "756f184325ccc91b6f74aedfb0778d695cd47ac0292a56d805975e9cb3580e2e"), looks := false }, kinds := [], alts := [], laidByText := true, laidKinds := [.data], laidTests := true, laidLooks := .later }
def LexerLinesCardSaid : Prop := Claim7.holds Tryd.pinned (.plain (OpenSpec.ofChange lexerLinesSpec)) lexerLinesCard

/-- THE TIED CARD OF 'beaconrylaw03.LexerNothing'. -/
def lexerNothingCard : Claim7 := { stood := { row := lexerNothingRow, standIns := [], harness := (true, "756f184325ccc91b6f74aedfb0778d695cd47ac0292a56d805975e9cb3580e2e"), looks := false }, kinds := [], alts := [], laidByText := true, laidKinds := [.data], laidTests := true, laidLooks := .later }
def LexerNothingCardSaid : Prop := Claim7.holds Tryd.pinned (.plain (OpenSpec.ofChange lexerNothingSpec)) lexerNothingCard

/-- THE SECOND FORM's CARD OF 'beaconrylaw01.ValueLists'. -/
def valueListsUptoCard : Claim7 := { stood := { row := valueListsUptoRow, standIns := [], harness := (true, "756f184325ccc91b6f74aedfb0778d695cd47ac0292a56d805975e9cb3580e2e"), looks := false }, kinds := [], alts := [], laidByText := true, laidKinds := [.data, .data, .data], laidTests := true, laidLooks := .later }
def ValueListsUptoCardSaid : Prop := Claim7.holds Tryd.pinned (.plain (OpenSpec.upto valueListsSpec)) valueListsUptoCard

/-- THE SECOND FORM's CARD OF 'beaconrylaw02.BuiltinTells'. -/
def builtinTellsUptoCard : Claim7 := { stood := { row := builtinTellsUptoRow, standIns := [], harness := (true, "756f184325ccc91b6f74aedfb0778d695cd47ac0292a56d805975e9cb3580e2e"), looks := false }, kinds := [], alts := [], laidByText := true, laidKinds := [.data, .data, .data], laidTests := true, laidLooks := .later }
def BuiltinTellsUptoCardSaid : Prop := Claim7.holds Tryd.pinned (.plain (OpenSpec.upto builtinTellsSpec)) builtinTellsUptoCard

/-- THE SECOND FORM's CARD OF 'beaconrylaw02.BuiltinRight'. -/
def builtinRightUptoCard : Claim7 := { stood := { row := builtinRightUptoRow, standIns := [], harness := (true, "756f184325ccc91b6f74aedfb0778d695cd47ac0292a56d805975e9cb3580e2e"), looks := false }, kinds := [], alts := [], laidByText := true, laidKinds := [.data, .data, .data], laidTests := true, laidLooks := .later }
def BuiltinRightUptoCardSaid : Prop := Claim7.holds Tryd.pinned (.plain (OpenSpec.upto builtinRightSpec)) builtinRightUptoCard

/-- THE SECOND FORM's CARD OF 'beaconrylaw03.LexerTells'. -/
def lexerTellsUptoCard : Claim7 := { stood := { row := lexerTellsUptoRow, standIns := [], harness := (true, "756f184325ccc91b6f74aedfb0778d695cd47ac0292a56d805975e9cb3580e2e"), looks := false }, kinds := [], alts := [], laidByText := true, laidKinds := [.data], laidTests := true, laidLooks := .later }
def LexerTellsUptoCardSaid : Prop := Claim7.holds Tryd.pinned (.plain (OpenSpec.upto lexerTellsSpec)) lexerTellsUptoCard

/-- THE SECOND FORM's CARD OF 'beaconrylaw03.LexerBack'. -/
def lexerBackUptoCard : Claim7 := { stood := { row := lexerBackUptoRow, standIns := [], harness := (true, "756f184325ccc91b6f74aedfb0778d695cd47ac0292a56d805975e9cb3580e2e"), looks := false }, kinds := [], alts := [], laidByText := true, laidKinds := [.data], laidTests := true, laidLooks := .later }
def LexerBackUptoCardSaid : Prop := Claim7.holds Tryd.pinned (.plain (OpenSpec.upto lexerBackSpec)) lexerBackUptoCard

/-- THE SECOND FORM's CARD OF 'beaconrylaw03.LexerAgain'. -/
def lexerAgainUptoCard : Claim7 := { stood := { row := lexerAgainUptoRow, standIns := [], harness := (true, "756f184325ccc91b6f74aedfb0778d695cd47ac0292a56d805975e9cb3580e2e"), looks := false }, kinds := [], alts := [], laidByText := true, laidKinds := [.data], laidTests := true, laidLooks := .later }
def LexerAgainUptoCardSaid : Prop := Claim7.holds Tryd.pinned (.plain (OpenSpec.upto lexerAgainSpec)) lexerAgainUptoCard

/-- THE SECOND FORM's CARD OF 'beaconrylaw03.LexerBlanks'. -/
def lexerBlanksUptoCard : Claim7 := { stood := { row := lexerBlanksUptoRow, standIns := [], harness := (true, "756f184325ccc91b6f74aedfb0778d695cd47ac0292a56d805975e9cb3580e2e"), looks := false }, kinds := [], alts := [], laidByText := true, laidKinds := [.data], laidTests := true, laidLooks := .later }
def LexerBlanksUptoCardSaid : Prop := Claim7.holds Tryd.pinned (.plain (OpenSpec.upto lexerBlanksSpec)) lexerBlanksUptoCard

/-- THE SECOND FORM's CARD OF 'beaconrylaw03.LexerWhere'. -/
def lexerWhereUptoCard : Claim7 := { stood := { row := lexerWhereUptoRow, standIns := [], harness := (true, "756f184325ccc91b6f74aedfb0778d695cd47ac0292a56d805975e9cb3580e2e"), looks := false }, kinds := [], alts := [], laidByText := true, laidKinds := [.data], laidTests := true, laidLooks := .later }
def LexerWhereUptoCardSaid : Prop := Claim7.holds Tryd.pinned (.plain (OpenSpec.upto lexerWhereSpec)) lexerWhereUptoCard

/-- THE SECOND FORM's CARD OF 'beaconrylaw03.LexerLines'. -/
def lexerLinesUptoCard : Claim7 := { stood := { row := lexerLinesUptoRow, standIns := [], harness := (true, "756f184325ccc91b6f74aedfb0778d695cd47ac0292a56d805975e9cb3580e2e"), looks := false }, kinds := [], alts := [], laidByText := true, laidKinds := [.data], laidTests := true, laidLooks := .later }
def LexerLinesUptoCardSaid : Prop := Claim7.holds Tryd.pinned (.plain (OpenSpec.upto lexerLinesSpec)) lexerLinesUptoCard

/-- THE SECOND FORM's CARD OF 'beaconrylaw03.LexerNothing'. -/
def lexerNothingUptoCard : Claim7 := { stood := { row := lexerNothingUptoRow, standIns := [], harness := (true, "756f184325ccc91b6f74aedfb0778d695cd47ac0292a56d805975e9cb3580e2e"), looks := false }, kinds := [], alts := [], laidByText := true, laidKinds := [.data], laidTests := true, laidLooks := .later }
def LexerNothingUptoCardSaid : Prop := Claim7.holds Tryd.pinned (.plain (OpenSpec.upto lexerNothingSpec)) lexerNothingUptoCard
end Rows
end Go.Proofs.YtgkgnfafjbjbnaaDoor
