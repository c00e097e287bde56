/-
  DERIVED. GIVEN WITH THE SEED: THE CARDS: each row of YtajomoclbpobhaaGreatDoorRows.lean that lists a variable, with what it lists TIED to the program's text (the seventh form; the later family's looks); each row that meets fmt, with fmt's text TOLD by the authors' own Lean function (tested against real Go, not proved from fmt's source: count such statements apart). THE CARD IS WHAT COUNTS. Prove the row's statement (the work); the ties are given (YtajomoclbpobhaaGreatDoorTie.lean); close each card by the builder's one call (the guide's Derived/Test/ToyasCard.lean, 'card_holds'). Laid BY PROGRAM, IN A SANDBOX (cutbox-door.mjs). By AI agents, Wed Nov 11 2026. No macro, syntax, notation, axiom, sorry.
-/
import Derived.Test.YtajomoclbpobhaaGreatDoorRows
import GoSem.ClaimSeven
namespace Go.Proofs.YtajomoclbpobhaaGreatDoor
namespace Rows

/-- THE TIED CARD OF 'augurlaw03.PrintForms'. -/
def printFormsCard : Claim7 := { stood := { row := printFormsRow, standIns := [], harness := (true, "f7e715ce0b057d73e618914f647809c2ed082394f7ded68737476ce428f914b0"), looks := true }, kinds := [], alts := [], laidByText := true, laidKinds := [.data, .data, .data, .sentinel, .sentinel, .sentinel, .sentinel, .sentinel, .sentinel, .data, .data], laidTests := true, laidLooks := .later }
def PrintFormsCardSaid : Prop := Claim7.holds Tryz.pinned (.plain (OpenSpec.ofChange printFormsSpec)) printFormsCard

/-- THE TIED CARD OF 'augurlaw03.PrintBack'. -/
def printBackCard : Claim7 := { stood := { row := printBackRow, standIns := [], harness := (true, "f7e715ce0b057d73e618914f647809c2ed082394f7ded68737476ce428f914b0"), looks := true }, kinds := [], alts := [], laidByText := true, laidKinds := [.data, .data, .data, .sentinel, .sentinel, .sentinel, .sentinel, .sentinel, .sentinel, .data, .data], laidTests := true, laidLooks := .later }
def PrintBackCardSaid : Prop := Claim7.holds Tryz.pinned (.plain (OpenSpec.ofChange printBackSpec)) printBackCard

/-- THE TIED CARD OF 'augurlaw03.PrintParts'. -/
def printPartsCard : Claim7 := { stood := { row := printPartsRow, standIns := [], harness := (true, "f7e715ce0b057d73e618914f647809c2ed082394f7ded68737476ce428f914b0"), looks := true }, kinds := [], alts := [], laidByText := true, laidKinds := [.data, .data, .data, .sentinel, .sentinel, .sentinel, .sentinel, .sentinel, .sentinel, .data, .data], laidTests := true, laidLooks := .later }
def PrintPartsCardSaid : Prop := Claim7.holds Tryz.pinned (.plain (OpenSpec.ofChange printPartsSpec)) printPartsCard

/-- THE TIED CARD OF 'augurlaw03.PrintItems'. -/
def printItemsCard : Claim7 := { stood := { row := printItemsRow, standIns := [], harness := (true, "f7e715ce0b057d73e618914f647809c2ed082394f7ded68737476ce428f914b0"), looks := true }, kinds := [], alts := [], laidByText := true, laidKinds := [.data, .data, .data, .sentinel, .sentinel, .sentinel, .sentinel, .sentinel, .sentinel, .data, .data], laidTests := true, laidLooks := .later }
def PrintItemsCardSaid : Prop := Claim7.holds Tryz.pinned (.plain (OpenSpec.ofChange printItemsSpec)) printItemsCard

/-- THE TIED CARD OF 'augurlaw03.PrintTokens'. -/
def printTokensCard : Claim7 := { stood := { row := printTokensRow, standIns := [], harness := (true, "f7e715ce0b057d73e618914f647809c2ed082394f7ded68737476ce428f914b0"), looks := true }, kinds := [], alts := [], laidByText := true, laidKinds := [.data, .data, .data, .sentinel, .sentinel, .sentinel, .sentinel, .sentinel, .sentinel, .data, .data], laidTests := true, laidLooks := .later }
def PrintTokensCardSaid : Prop := Claim7.holds Tryz.pinned (.plain (OpenSpec.ofChange printTokensSpec)) printTokensCard

/-- THE TIED CARD OF 'augurlaw03.PrintNests'. -/
def printNestsCard : Claim7 := { stood := { row := printNestsRow, standIns := [], harness := (true, "f7e715ce0b057d73e618914f647809c2ed082394f7ded68737476ce428f914b0"), looks := true }, kinds := [], alts := [], laidByText := true, laidKinds := [.data, .data, .data, .sentinel, .sentinel, .sentinel, .sentinel, .sentinel, .sentinel, .data, .data], laidTests := true, laidLooks := .later }
def PrintNestsCardSaid : Prop := Claim7.holds Tryz.pinned (.plain (OpenSpec.ofChange printNestsSpec)) printNestsCard

/-- THE SECOND FORM's CARD OF 'augurlaw03.PrintForms'. -/
def printFormsUptoCard : Claim7 := { stood := { row := printFormsUptoRow, standIns := [], harness := (true, "f7e715ce0b057d73e618914f647809c2ed082394f7ded68737476ce428f914b0"), looks := true }, kinds := [], alts := [], laidByText := true, laidKinds := [.data, .data, .data, .sentinel, .sentinel, .sentinel, .sentinel, .sentinel, .sentinel, .data, .data], laidTests := true, laidLooks := .later }
def PrintFormsUptoCardSaid : Prop := Claim7.holds Tryz.pinned (.plain (OpenSpec.upto printFormsSpec)) printFormsUptoCard

/-- THE SECOND FORM's CARD OF 'augurlaw03.PrintBack'. -/
def printBackUptoCard : Claim7 := { stood := { row := printBackUptoRow, standIns := [], harness := (true, "f7e715ce0b057d73e618914f647809c2ed082394f7ded68737476ce428f914b0"), looks := true }, kinds := [], alts := [], laidByText := true, laidKinds := [.data, .data, .data, .sentinel, .sentinel, .sentinel, .sentinel, .sentinel, .sentinel, .data, .data], laidTests := true, laidLooks := .later }
def PrintBackUptoCardSaid : Prop := Claim7.holds Tryz.pinned (.plain (OpenSpec.upto printBackSpec)) printBackUptoCard

/-- THE SECOND FORM's CARD OF 'augurlaw03.PrintParts'. -/
def printPartsUptoCard : Claim7 := { stood := { row := printPartsUptoRow, standIns := [], harness := (true, "f7e715ce0b057d73e618914f647809c2ed082394f7ded68737476ce428f914b0"), looks := true }, kinds := [], alts := [], laidByText := true, laidKinds := [.data, .data, .data, .sentinel, .sentinel, .sentinel, .sentinel, .sentinel, .sentinel, .data, .data], laidTests := true, laidLooks := .later }
def PrintPartsUptoCardSaid : Prop := Claim7.holds Tryz.pinned (.plain (OpenSpec.upto printPartsSpec)) printPartsUptoCard

/-- THE SECOND FORM's CARD OF 'augurlaw03.PrintItems'. -/
def printItemsUptoCard : Claim7 := { stood := { row := printItemsUptoRow, standIns := [], harness := (true, "f7e715ce0b057d73e618914f647809c2ed082394f7ded68737476ce428f914b0"), looks := true }, kinds := [], alts := [], laidByText := true, laidKinds := [.data, .data, .data, .sentinel, .sentinel, .sentinel, .sentinel, .sentinel, .sentinel, .data, .data], laidTests := true, laidLooks := .later }
def PrintItemsUptoCardSaid : Prop := Claim7.holds Tryz.pinned (.plain (OpenSpec.upto printItemsSpec)) printItemsUptoCard

/-- THE SECOND FORM's CARD OF 'augurlaw03.PrintTokens'. -/
def printTokensUptoCard : Claim7 := { stood := { row := printTokensUptoRow, standIns := [], harness := (true, "f7e715ce0b057d73e618914f647809c2ed082394f7ded68737476ce428f914b0"), looks := true }, kinds := [], alts := [], laidByText := true, laidKinds := [.data, .data, .data, .sentinel, .sentinel, .sentinel, .sentinel, .sentinel, .sentinel, .data, .data], laidTests := true, laidLooks := .later }
def PrintTokensUptoCardSaid : Prop := Claim7.holds Tryz.pinned (.plain (OpenSpec.upto printTokensSpec)) printTokensUptoCard

/-- THE SECOND FORM's CARD OF 'augurlaw03.PrintNests'. -/
def printNestsUptoCard : Claim7 := { stood := { row := printNestsUptoRow, standIns := [], harness := (true, "f7e715ce0b057d73e618914f647809c2ed082394f7ded68737476ce428f914b0"), looks := true }, kinds := [], alts := [], laidByText := true, laidKinds := [.data, .data, .data, .sentinel, .sentinel, .sentinel, .sentinel, .sentinel, .sentinel, .data, .data], laidTests := true, laidLooks := .later }
def PrintNestsUptoCardSaid : Prop := Claim7.holds Tryz.pinned (.plain (OpenSpec.upto printNestsSpec)) printNestsUptoCard
end Rows
end Go.Proofs.YtajomoclbpobhaaGreatDoor
