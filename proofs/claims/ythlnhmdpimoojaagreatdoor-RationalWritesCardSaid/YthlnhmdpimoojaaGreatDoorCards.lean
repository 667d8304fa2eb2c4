/-
  DERIVED. GIVEN WITH THE SEED: THE CARDS: each row of YthlnhmdpimoojaaGreatDoorRows.lean that lists a variable, with what it lists TIED to the program's text (the seventh form; the later family's looks); each row that meets fmt, with fmt's text TOLD by the authors' own Lean function (tested against real Go, not proved from fmt's source: count such statements apart). THE CARD IS WHAT COUNTS. Prove the row's statement (the work); the ties are given (YthlnhmdpimoojaaGreatDoorTie.lean); close each card by the builder's one call (the guide's Derived/Test/ToyasCard.lean, 'card_holds'). Laid BY PROGRAM, IN A SANDBOX (cutbox-door.mjs). By AI agents, Wed Nov 11 2026. No macro, syntax, notation, axiom, sorry.
-/
import Derived.Test.YthlnhmdpimoojaaGreatDoorRows
import GoSem.ClaimSeven
namespace Go.Proofs.YthlnhmdpimoojaaGreatDoor
namespace Rows

/-- THE TIED CARD OF 'robuststatslaw03.RationalWrites'. -/
def rationalWritesCard : Claim7 := { stood := { row := rationalWritesRow, standIns := [], harness := (true, "eb95e792123b4e25d5abf05612224b8f6b53ef9040b63eee78e290ed2f2b2e70"), looks := true }, kinds := [], alts := [], laidByText := true, laidKinds := [.data, .data, .data, .data, .sentinel, .sentinel, .pinned], laidTests := true, laidLooks := .later }
def RationalWritesCardSaid : Prop := Claim7.holds Tryz.pinned (.plain (OpenSpec.ofChange rationalWritesSpec)) rationalWritesCard

/-- THE SECOND FORM's CARD OF 'robuststatslaw03.RationalWrites'. -/
def rationalWritesUptoCard : Claim7 := { stood := { row := rationalWritesUptoRow, standIns := [], harness := (true, "eb95e792123b4e25d5abf05612224b8f6b53ef9040b63eee78e290ed2f2b2e70"), looks := true }, kinds := [], alts := [], laidByText := true, laidKinds := [.data, .data, .data, .data, .sentinel, .sentinel, .pinned], laidTests := true, laidLooks := .later }
def RationalWritesUptoCardSaid : Prop := Claim7.holds Tryz.pinned (.plain (OpenSpec.upto rationalWritesSpec)) rationalWritesUptoCard
end Rows
end Go.Proofs.YthlnhmdpimoojaaGreatDoor
