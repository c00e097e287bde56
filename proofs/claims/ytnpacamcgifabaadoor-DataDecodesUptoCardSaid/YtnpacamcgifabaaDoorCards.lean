/-
  DERIVED. GIVEN WITH THE SEED: THE CARDS: each row of YtnpacamcgifabaaDoorRows.lean that lists a variable, with what it lists TIED to the program's text (the seventh form; the later family's looks); each row that meets fmt, with fmt's text TOLD by the authors' own Lean function (tested against real Go, not proved from fmt's source: count such statements apart). THE CARD IS WHAT COUNTS. Prove the row's statement (the work); the ties are given (YtnpacamcgifabaaDoorTie.lean); close each card by the builder's one call (the guide's Derived/Test/ToyasCard.lean, 'card_holds'). Laid BY PROGRAM, IN A SANDBOX (cutbox-door.mjs). By AI agents, Wed Nov 11 2026. No macro, syntax, notation, axiom, sorry.
-/
import Derived.Test.YtnpacamcgifabaaDoorRows
import GoSem.ClaimSeven
namespace Go.Proofs.YtnpacamcgifabaaDoor
namespace Rows

/-- THE TIED CARD OF 'augurlaw06.UnifyPlays'. -/
def unifyPlaysCard : Claim7 := { stood := { row := unifyPlaysRow, standIns := [], harness := (true, "fcdbecbcc1fae035003a553ab5c213d02b5a146f45e6516c6e7b9975c2f70257"), looks := true }, kinds := [], alts := [], laidByText := true, laidKinds := [.sentinel, .sentinel, .sentinel, .sentinel, .sentinel, .sentinel, .sentinel, .sentinel, .sentinel, .sentinel, .sentinel, .sentinel, .sentinel, .sentinel, .sentinel, .sentinel], laidTests := true, laidLooks := .later }
def UnifyPlaysCardSaid : Prop := Claim7.holds Tryd.pinned (.plain (OpenSpec.ofChange unifyPlaysSpec)) unifyPlaysCard

/-- THE TIED CARD OF 'augurlaw06.UnifyForms'. -/
def unifyFormsCard : Claim7 := { stood := { row := unifyFormsRow, standIns := [], harness := (true, "fcdbecbcc1fae035003a553ab5c213d02b5a146f45e6516c6e7b9975c2f70257"), looks := true }, kinds := [], alts := [], laidByText := true, laidKinds := [.data, .data, .data, .sentinel, .sentinel, .sentinel], laidTests := true, laidLooks := .later }
def UnifyFormsCardSaid : Prop := Claim7.holds Tryd.pinned (.plain (OpenSpec.ofChange unifyFormsSpec)) unifyFormsCard

/-- THE TIED CARD OF 'augurlaw06.UnifyMakes'. -/
def unifyMakesCard : Claim7 := { stood := { row := unifyMakesRow, standIns := [], harness := (true, "fcdbecbcc1fae035003a553ab5c213d02b5a146f45e6516c6e7b9975c2f70257"), looks := true }, kinds := [], alts := [], laidByText := true, laidKinds := [.sentinel, .sentinel, .sentinel, .sentinel, .sentinel, .sentinel, .sentinel, .sentinel, .sentinel, .sentinel, .sentinel, .sentinel, .sentinel, .sentinel, .sentinel, .sentinel], laidTests := true, laidLooks := .later }
def UnifyMakesCardSaid : Prop := Claim7.holds Tryd.pinned (.plain (OpenSpec.ofChange unifyMakesSpec)) unifyMakesCard

/-- THE TIED CARD OF 'augurlaw06.UnifyTurns'. -/
def unifyTurnsCard : Claim7 := { stood := { row := unifyTurnsRow, standIns := [], harness := (true, "fcdbecbcc1fae035003a553ab5c213d02b5a146f45e6516c6e7b9975c2f70257"), looks := true }, kinds := [], alts := [], laidByText := true, laidKinds := [.sentinel, .sentinel, .sentinel, .sentinel, .sentinel, .sentinel, .sentinel, .sentinel, .sentinel, .sentinel, .sentinel, .sentinel, .sentinel, .sentinel, .sentinel, .sentinel], laidTests := true, laidLooks := .later }
def UnifyTurnsCardSaid : Prop := Claim7.holds Tryd.pinned (.plain (OpenSpec.ofChange unifyTurnsSpec)) unifyTurnsCard

/-- THE TIED CARD OF 'augurlaw06.UnifySelf'. -/
def unifySelfCard : Claim7 := { stood := { row := unifySelfRow, standIns := [], harness := (true, "fcdbecbcc1fae035003a553ab5c213d02b5a146f45e6516c6e7b9975c2f70257"), looks := true }, kinds := [], alts := [], laidByText := true, laidKinds := [.sentinel, .sentinel, .sentinel], laidTests := true, laidLooks := .later }
def UnifySelfCardSaid : Prop := Claim7.holds Tryd.pinned (.plain (OpenSpec.ofChange unifySelfSpec)) unifySelfCard

/-- THE TIED CARD OF 'augurlaw10.DataDecodes'. -/
def dataDecodesCard : Claim7 := { stood := { row := dataDecodesRow, standIns := [], harness := (true, "fcdbecbcc1fae035003a553ab5c213d02b5a146f45e6516c6e7b9975c2f70257"), looks := true }, kinds := [], alts := [], laidByText := true, laidKinds := [.sentinel, .sentinel, .sentinel], laidTests := true, laidLooks := .later }
def DataDecodesCardSaid : Prop := Claim7.holds Tryd.pinned (.plain (OpenSpec.ofChange dataDecodesSpec)) dataDecodesCard

/-- THE TIED CARD OF 'augurlaw10.DataOrders'. -/
def dataOrdersCard : Claim7 := { stood := { row := dataOrdersRow, standIns := [], harness := (true, "fcdbecbcc1fae035003a553ab5c213d02b5a146f45e6516c6e7b9975c2f70257"), looks := true }, kinds := [], alts := [], laidByText := true, laidKinds := [.sentinel, .sentinel], laidTests := true, laidLooks := .later }
def DataOrdersCardSaid : Prop := Claim7.holds Tryd.pinned (.plain (OpenSpec.ofChange dataOrdersSpec)) dataOrdersCard

/-- THE TIED CARD OF 'augurlaw10.DataSizes'. -/
def dataSizesCard : Claim7 := { stood := { row := dataSizesRow, standIns := [], harness := (true, "fcdbecbcc1fae035003a553ab5c213d02b5a146f45e6516c6e7b9975c2f70257"), looks := true }, kinds := [], alts := [], laidByText := true, laidKinds := [.sentinel, .sentinel], laidTests := true, laidLooks := .later }
def DataSizesCardSaid : Prop := Claim7.holds Tryd.pinned (.plain (OpenSpec.ofChange dataSizesSpec)) dataSizesCard

/-- THE TIED CARD OF 'augurlaw10.DataSlips'. -/
def dataSlipsCard : Claim7 := { stood := { row := dataSlipsRow, standIns := [], harness := (true, "fcdbecbcc1fae035003a553ab5c213d02b5a146f45e6516c6e7b9975c2f70257"), looks := true }, kinds := [], alts := [], laidByText := true, laidKinds := [.sentinel, .sentinel, .sentinel], laidTests := true, laidLooks := .later }
def DataSlipsCardSaid : Prop := Claim7.holds Tryd.pinned (.plain (OpenSpec.ofChange dataSlipsSpec)) dataSlipsCard

/-- THE SECOND FORM's CARD OF 'augurlaw06.UnifyPlays'. -/
def unifyPlaysUptoCard : Claim7 := { stood := { row := unifyPlaysUptoRow, standIns := [], harness := (true, "fcdbecbcc1fae035003a553ab5c213d02b5a146f45e6516c6e7b9975c2f70257"), looks := true }, kinds := [], alts := [], laidByText := true, laidKinds := [.sentinel, .sentinel, .sentinel, .sentinel, .sentinel, .sentinel, .sentinel, .sentinel, .sentinel, .sentinel, .sentinel, .sentinel, .sentinel, .sentinel, .sentinel, .sentinel], laidTests := true, laidLooks := .later }
def UnifyPlaysUptoCardSaid : Prop := Claim7.holds Tryd.pinned (.plain (OpenSpec.upto unifyPlaysSpec)) unifyPlaysUptoCard

/-- THE SECOND FORM's CARD OF 'augurlaw06.UnifyForms'. -/
def unifyFormsUptoCard : Claim7 := { stood := { row := unifyFormsUptoRow, standIns := [], harness := (true, "fcdbecbcc1fae035003a553ab5c213d02b5a146f45e6516c6e7b9975c2f70257"), looks := true }, kinds := [], alts := [], laidByText := true, laidKinds := [.data, .data, .data, .sentinel, .sentinel, .sentinel], laidTests := true, laidLooks := .later }
def UnifyFormsUptoCardSaid : Prop := Claim7.holds Tryd.pinned (.plain (OpenSpec.upto unifyFormsSpec)) unifyFormsUptoCard

/-- THE SECOND FORM's CARD OF 'augurlaw06.UnifyMakes'. -/
def unifyMakesUptoCard : Claim7 := { stood := { row := unifyMakesUptoRow, standIns := [], harness := (true, "fcdbecbcc1fae035003a553ab5c213d02b5a146f45e6516c6e7b9975c2f70257"), looks := true }, kinds := [], alts := [], laidByText := true, laidKinds := [.sentinel, .sentinel, .sentinel, .sentinel, .sentinel, .sentinel, .sentinel, .sentinel, .sentinel, .sentinel, .sentinel, .sentinel, .sentinel, .sentinel, .sentinel, .sentinel], laidTests := true, laidLooks := .later }
def UnifyMakesUptoCardSaid : Prop := Claim7.holds Tryd.pinned (.plain (OpenSpec.upto unifyMakesSpec)) unifyMakesUptoCard

/-- THE SECOND FORM's CARD OF 'augurlaw06.UnifyTurns'. -/
def unifyTurnsUptoCard : Claim7 := { stood := { row := unifyTurnsUptoRow, standIns := [], harness := (true, "fcdbecbcc1fae035003a553ab5c213d02b5a146f45e6516c6e7b9975c2f70257"), looks := true }, kinds := [], alts := [], laidByText := true, laidKinds := [.sentinel, .sentinel, .sentinel, .sentinel, .sentinel, .sentinel, .sentinel, .sentinel, .sentinel, .sentinel, .sentinel, .sentinel, .sentinel, .sentinel, .sentinel, .sentinel], laidTests := true, laidLooks := .later }
def UnifyTurnsUptoCardSaid : Prop := Claim7.holds Tryd.pinned (.plain (OpenSpec.upto unifyTurnsSpec)) unifyTurnsUptoCard

/-- THE SECOND FORM's CARD OF 'augurlaw06.UnifySelf'. -/
def unifySelfUptoCard : Claim7 := { stood := { row := unifySelfUptoRow, standIns := [], harness := (true, "fcdbecbcc1fae035003a553ab5c213d02b5a146f45e6516c6e7b9975c2f70257"), looks := true }, kinds := [], alts := [], laidByText := true, laidKinds := [.sentinel, .sentinel, .sentinel], laidTests := true, laidLooks := .later }
def UnifySelfUptoCardSaid : Prop := Claim7.holds Tryd.pinned (.plain (OpenSpec.upto unifySelfSpec)) unifySelfUptoCard

/-- THE SECOND FORM's CARD OF 'augurlaw10.DataDecodes'. -/
def dataDecodesUptoCard : Claim7 := { stood := { row := dataDecodesUptoRow, standIns := [], harness := (true, "fcdbecbcc1fae035003a553ab5c213d02b5a146f45e6516c6e7b9975c2f70257"), looks := true }, kinds := [], alts := [], laidByText := true, laidKinds := [.sentinel, .sentinel, .sentinel], laidTests := true, laidLooks := .later }
def DataDecodesUptoCardSaid : Prop := Claim7.holds Tryd.pinned (.plain (OpenSpec.upto dataDecodesSpec)) dataDecodesUptoCard

/-- THE SECOND FORM's CARD OF 'augurlaw10.DataOrders'. -/
def dataOrdersUptoCard : Claim7 := { stood := { row := dataOrdersUptoRow, standIns := [], harness := (true, "fcdbecbcc1fae035003a553ab5c213d02b5a146f45e6516c6e7b9975c2f70257"), looks := true }, kinds := [], alts := [], laidByText := true, laidKinds := [.sentinel, .sentinel], laidTests := true, laidLooks := .later }
def DataOrdersUptoCardSaid : Prop := Claim7.holds Tryd.pinned (.plain (OpenSpec.upto dataOrdersSpec)) dataOrdersUptoCard

/-- THE SECOND FORM's CARD OF 'augurlaw10.DataSizes'. -/
def dataSizesUptoCard : Claim7 := { stood := { row := dataSizesUptoRow, standIns := [], harness := (true, "fcdbecbcc1fae035003a553ab5c213d02b5a146f45e6516c6e7b9975c2f70257"), looks := true }, kinds := [], alts := [], laidByText := true, laidKinds := [.sentinel, .sentinel], laidTests := true, laidLooks := .later }
def DataSizesUptoCardSaid : Prop := Claim7.holds Tryd.pinned (.plain (OpenSpec.upto dataSizesSpec)) dataSizesUptoCard

/-- THE SECOND FORM's CARD OF 'augurlaw10.DataSlips'. -/
def dataSlipsUptoCard : Claim7 := { stood := { row := dataSlipsUptoRow, standIns := [], harness := (true, "fcdbecbcc1fae035003a553ab5c213d02b5a146f45e6516c6e7b9975c2f70257"), looks := true }, kinds := [], alts := [], laidByText := true, laidKinds := [.sentinel, .sentinel, .sentinel], laidTests := true, laidLooks := .later }
def DataSlipsUptoCardSaid : Prop := Claim7.holds Tryd.pinned (.plain (OpenSpec.upto dataSlipsSpec)) dataSlipsUptoCard
end Rows
end Go.Proofs.YtnpacamcgifabaaDoor
