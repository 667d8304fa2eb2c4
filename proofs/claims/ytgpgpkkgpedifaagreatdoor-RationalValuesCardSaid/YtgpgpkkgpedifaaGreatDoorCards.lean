/-
  DERIVED. GIVEN WITH THE SEED: THE CARDS: each row of YtgpgpkkgpedifaaGreatDoorRows.lean that lists a variable, with what it lists TIED to the program's text (the seventh form; the later family's looks); each row that meets fmt, with fmt's text TOLD by the authors' own Lean function (tested against real Go, not proved from fmt's source: count such statements apart). THE CARD IS WHAT COUNTS. Prove the row's statement (the work); the ties are given (YtgpgpkkgpedifaaGreatDoorTie.lean); close each card by the builder's one call (the guide's Derived/Test/ToyasCard.lean, 'card_holds'). Laid BY PROGRAM, IN A SANDBOX (cutbox-door.mjs). By AI agents, Wed Nov 11 2026. No macro, syntax, notation, axiom, sorry.
-/
import Derived.Test.YtgpgpkkgpedifaaGreatDoorRows
import GoSem.ClaimSeven
namespace Go.Proofs.YtgpgpkkgpedifaaGreatDoor
namespace Rows

/-- THE TIED CARD OF 'robuststatslaw03.RationalHasAFloor'. -/
def rationalHasAFloorCard : Claim7 := { stood := { row := rationalHasAFloorRow, standIns := [], harness := (true, "316e47cad018328ab36ae2c8f820b0d9c94f653147db8520efb411986b0a0e20"), looks := true }, kinds := [], alts := [], laidByText := true, laidKinds := [.data, .data, .data, .data, .sentinel, .sentinel, .pinned], laidTests := true, laidLooks := .later }
def RationalHasAFloorCardSaid : Prop := Claim7.holds Tryz.pinned (.plain (OpenSpec.ofChange rationalHasAFloorSpec)) rationalHasAFloorCard

/-- THE TIED CARD OF 'robuststatslaw03.RationalIsOrdered'. -/
def rationalIsOrderedCard : Claim7 := { stood := { row := rationalIsOrderedRow, standIns := [], harness := (true, "316e47cad018328ab36ae2c8f820b0d9c94f653147db8520efb411986b0a0e20"), looks := true }, kinds := [], alts := [], laidByText := true, laidKinds := [.data, .data, .data, .data, .sentinel, .sentinel, .pinned], laidTests := true, laidLooks := .later }
def RationalIsOrderedCardSaid : Prop := Claim7.holds Tryz.pinned (.plain (OpenSpec.ofChange rationalIsOrderedSpec)) rationalIsOrderedCard

/-- THE TIED CARD OF 'robuststatslaw03.RationalIsAField'. -/
def rationalIsAFieldCard : Claim7 := { stood := { row := rationalIsAFieldRow, standIns := [], harness := (true, "316e47cad018328ab36ae2c8f820b0d9c94f653147db8520efb411986b0a0e20"), looks := true }, kinds := [], alts := [], laidByText := true, laidKinds := [.data, .data, .data, .data, .sentinel, .sentinel, .pinned], laidTests := true, laidLooks := .later }
def RationalIsAFieldCardSaid : Prop := Claim7.holds Tryz.pinned (.plain (OpenSpec.ofChange rationalIsAFieldSpec)) rationalIsAFieldCard

/-- THE TIED CARD OF 'robuststatslaw03.RationalValues'. -/
def rationalValuesCard : Claim7 := { stood := { row := rationalValuesRow, standIns := [], harness := (true, "316e47cad018328ab36ae2c8f820b0d9c94f653147db8520efb411986b0a0e20"), looks := true }, kinds := [], alts := [], laidByText := true, laidKinds := [.data, .data, .data, .data, .sentinel, .sentinel, .pinned], laidTests := true, laidLooks := .later }
def RationalValuesCardSaid : Prop := Claim7.holds Tryz.pinned (.plain (OpenSpec.ofChange rationalValuesSpec)) rationalValuesCard

/-- THE TIED CARD OF 'robuststatslaw03.RationalCalculates'. -/
def rationalCalculatesCard : Claim7 := { stood := { row := rationalCalculatesRow, standIns := [], harness := (true, "316e47cad018328ab36ae2c8f820b0d9c94f653147db8520efb411986b0a0e20"), looks := true }, kinds := [], alts := [], laidByText := true, laidKinds := [.data, .data, .data, .data, .sentinel, .sentinel, .pinned], laidTests := true, laidLooks := .later }
def RationalCalculatesCardSaid : Prop := Claim7.holds Tryz.pinned (.plain (OpenSpec.ofChange rationalCalculatesSpec)) rationalCalculatesCard

/-- THE TIED CARD OF 'robuststatslaw03.RationalWrites'. -/
def rationalWritesCard : Claim7 := { stood := { row := rationalWritesRow, standIns := [], harness := (true, "316e47cad018328ab36ae2c8f820b0d9c94f653147db8520efb411986b0a0e20"), looks := true }, kinds := [], alts := [], laidByText := true, laidKinds := [.data, .data, .data, .data, .sentinel, .sentinel, .pinned], laidTests := true, laidLooks := .later }
def RationalWritesCardSaid : Prop := Claim7.holds Tryz.pinned (.plain (OpenSpec.ofChange rationalWritesSpec)) rationalWritesCard

/-- THE TIED CARD OF 'robuststatslaw03.RationalDecimalIsNear'. -/
def rationalDecimalIsNearCard : Claim7 := { stood := { row := rationalDecimalIsNearRow, standIns := [], harness := (true, "316e47cad018328ab36ae2c8f820b0d9c94f653147db8520efb411986b0a0e20"), looks := true }, kinds := [], alts := [], laidByText := true, laidKinds := [.data, .data, .data, .data, .sentinel, .sentinel, .pinned], laidTests := true, laidLooks := .later }
def RationalDecimalIsNearCardSaid : Prop := Claim7.holds Tryz.pinned (.plain (OpenSpec.ofChange rationalDecimalIsNearSpec)) rationalDecimalIsNearCard

/-- THE SECOND FORM's CARD OF 'robuststatslaw03.RationalHasAFloor'. -/
def rationalHasAFloorUptoCard : Claim7 := { stood := { row := rationalHasAFloorUptoRow, standIns := [], harness := (true, "316e47cad018328ab36ae2c8f820b0d9c94f653147db8520efb411986b0a0e20"), looks := true }, kinds := [], alts := [], laidByText := true, laidKinds := [.data, .data, .data, .data, .sentinel, .sentinel, .pinned], laidTests := true, laidLooks := .later }
def RationalHasAFloorUptoCardSaid : Prop := Claim7.holds Tryz.pinned (.plain (OpenSpec.upto rationalHasAFloorSpec)) rationalHasAFloorUptoCard

/-- THE SECOND FORM's CARD OF 'robuststatslaw03.RationalIsOrdered'. -/
def rationalIsOrderedUptoCard : Claim7 := { stood := { row := rationalIsOrderedUptoRow, standIns := [], harness := (true, "316e47cad018328ab36ae2c8f820b0d9c94f653147db8520efb411986b0a0e20"), looks := true }, kinds := [], alts := [], laidByText := true, laidKinds := [.data, .data, .data, .data, .sentinel, .sentinel, .pinned], laidTests := true, laidLooks := .later }
def RationalIsOrderedUptoCardSaid : Prop := Claim7.holds Tryz.pinned (.plain (OpenSpec.upto rationalIsOrderedSpec)) rationalIsOrderedUptoCard

/-- THE SECOND FORM's CARD OF 'robuststatslaw03.RationalIsAField'. -/
def rationalIsAFieldUptoCard : Claim7 := { stood := { row := rationalIsAFieldUptoRow, standIns := [], harness := (true, "316e47cad018328ab36ae2c8f820b0d9c94f653147db8520efb411986b0a0e20"), looks := true }, kinds := [], alts := [], laidByText := true, laidKinds := [.data, .data, .data, .data, .sentinel, .sentinel, .pinned], laidTests := true, laidLooks := .later }
def RationalIsAFieldUptoCardSaid : Prop := Claim7.holds Tryz.pinned (.plain (OpenSpec.upto rationalIsAFieldSpec)) rationalIsAFieldUptoCard

/-- THE SECOND FORM's CARD OF 'robuststatslaw03.RationalValues'. -/
def rationalValuesUptoCard : Claim7 := { stood := { row := rationalValuesUptoRow, standIns := [], harness := (true, "316e47cad018328ab36ae2c8f820b0d9c94f653147db8520efb411986b0a0e20"), looks := true }, kinds := [], alts := [], laidByText := true, laidKinds := [.data, .data, .data, .data, .sentinel, .sentinel, .pinned], laidTests := true, laidLooks := .later }
def RationalValuesUptoCardSaid : Prop := Claim7.holds Tryz.pinned (.plain (OpenSpec.upto rationalValuesSpec)) rationalValuesUptoCard

/-- THE SECOND FORM's CARD OF 'robuststatslaw03.RationalCalculates'. -/
def rationalCalculatesUptoCard : Claim7 := { stood := { row := rationalCalculatesUptoRow, standIns := [], harness := (true, "316e47cad018328ab36ae2c8f820b0d9c94f653147db8520efb411986b0a0e20"), looks := true }, kinds := [], alts := [], laidByText := true, laidKinds := [.data, .data, .data, .data, .sentinel, .sentinel, .pinned], laidTests := true, laidLooks := .later }
def RationalCalculatesUptoCardSaid : Prop := Claim7.holds Tryz.pinned (.plain (OpenSpec.upto rationalCalculatesSpec)) rationalCalculatesUptoCard

/-- THE SECOND FORM's CARD OF 'robuststatslaw03.RationalWrites'. -/
def rationalWritesUptoCard : Claim7 := { stood := { row := rationalWritesUptoRow, standIns := [], harness := (true, "316e47cad018328ab36ae2c8f820b0d9c94f653147db8520efb411986b0a0e20"), looks := true }, kinds := [], alts := [], laidByText := true, laidKinds := [.data, .data, .data, .data, .sentinel, .sentinel, .pinned], laidTests := true, laidLooks := .later }
def RationalWritesUptoCardSaid : Prop := Claim7.holds Tryz.pinned (.plain (OpenSpec.upto rationalWritesSpec)) rationalWritesUptoCard

/-- THE SECOND FORM's CARD OF 'robuststatslaw03.RationalDecimalIsNear'. -/
def rationalDecimalIsNearUptoCard : Claim7 := { stood := { row := rationalDecimalIsNearUptoRow, standIns := [], harness := (true, "316e47cad018328ab36ae2c8f820b0d9c94f653147db8520efb411986b0a0e20"), looks := true }, kinds := [], alts := [], laidByText := true, laidKinds := [.data, .data, .data, .data, .sentinel, .sentinel, .pinned], laidTests := true, laidLooks := .later }
def RationalDecimalIsNearUptoCardSaid : Prop := Claim7.holds Tryz.pinned (.plain (OpenSpec.upto rationalDecimalIsNearSpec)) rationalDecimalIsNearUptoCard
end Rows
end Go.Proofs.YtgpgpkkgpedifaaGreatDoor
