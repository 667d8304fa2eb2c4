/-
  DERIVED. GIVEN WITH THE SEED: THE CARDS: each row of YtekmoaedidigpaaGreatDoorRows.lean that lists a variable, with what it lists TIED to the program's text (the seventh form; the later family's looks); each row that meets fmt, with fmt's text TOLD by the authors' own Lean function (tested against real Go, not proved from fmt's source: count such statements apart). THE CARD IS WHAT COUNTS. Prove the row's statement (the work); the ties are given (YtekmoaedidigpaaGreatDoorTie.lean); close each card by the builder's one call (the guide's Derived/Test/ToyasCard.lean, 'card_holds'). Laid BY PROGRAM, IN A SANDBOX (cutbox-door.mjs). By AI agents, Wed Nov 11 2026. No macro, syntax, notation, axiom, sorry.
-/
import Derived.Test.YtekmoaedidigpaaGreatDoorRows
import GoSem.ClaimSeven
namespace Go.Proofs.YtekmoaedidigpaaGreatDoor
namespace Rows

/-- THE TIED CARD OF 'robuststatslaw03.RationalWrites'. -/
def rationalWritesCard : Claim7 := { stood := { row := rationalWritesRow, standIns := [], harness := (true, "fde9968f3e1869aa36df72dc4de0f3c024e5a004405231967d56fc3755184be2"), looks := true }, kinds := [], alts := [], laidByText := true, laidKinds := [.data, .data, .data, .data, .sentinel, .sentinel, .pinned], laidTests := true, laidLooks := .later }
def RationalWritesCardSaid : Prop := Claim7.holds Tryz.pinned (.plain (OpenSpec.ofChange rationalWritesSpec)) rationalWritesCard

/-- THE TIED CARD OF 'robuststatslaw03.RationalDecimalIsNear'. -/
def rationalDecimalIsNearCard : Claim7 := { stood := { row := rationalDecimalIsNearRow, standIns := [], harness := (true, "fde9968f3e1869aa36df72dc4de0f3c024e5a004405231967d56fc3755184be2"), looks := true }, kinds := [], alts := [], laidByText := true, laidKinds := [.data, .data, .data, .data, .sentinel, .sentinel, .pinned], laidTests := true, laidLooks := .later }
def RationalDecimalIsNearCardSaid : Prop := Claim7.holds Tryz.pinned (.plain (OpenSpec.ofChange rationalDecimalIsNearSpec)) rationalDecimalIsNearCard

/-- THE SECOND FORM's CARD OF 'robuststatslaw03.RationalWrites'. -/
def rationalWritesUptoCard : Claim7 := { stood := { row := rationalWritesUptoRow, standIns := [], harness := (true, "fde9968f3e1869aa36df72dc4de0f3c024e5a004405231967d56fc3755184be2"), looks := true }, kinds := [], alts := [], laidByText := true, laidKinds := [.data, .data, .data, .data, .sentinel, .sentinel, .pinned], laidTests := true, laidLooks := .later }
def RationalWritesUptoCardSaid : Prop := Claim7.holds Tryz.pinned (.plain (OpenSpec.upto rationalWritesSpec)) rationalWritesUptoCard

/-- THE SECOND FORM's CARD OF 'robuststatslaw03.RationalDecimalIsNear'. -/
def rationalDecimalIsNearUptoCard : Claim7 := { stood := { row := rationalDecimalIsNearUptoRow, standIns := [], harness := (true, "fde9968f3e1869aa36df72dc4de0f3c024e5a004405231967d56fc3755184be2"), looks := true }, kinds := [], alts := [], laidByText := true, laidKinds := [.data, .data, .data, .data, .sentinel, .sentinel, .pinned], laidTests := true, laidLooks := .later }
def RationalDecimalIsNearUptoCardSaid : Prop := Claim7.holds Tryz.pinned (.plain (OpenSpec.upto rationalDecimalIsNearSpec)) rationalDecimalIsNearUptoCard
end Rows
end Go.Proofs.YtekmoaedidigpaaGreatDoor
