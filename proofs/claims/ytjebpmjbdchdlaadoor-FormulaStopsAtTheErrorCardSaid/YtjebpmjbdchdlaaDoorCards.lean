/-
  DERIVED. GIVEN WITH THE SEED: THE CARDS: each row of YtjebpmjbdchdlaaDoorRows.lean that lists a variable, with what it lists TIED to the program's text (the seventh form; the later family's looks); each row that meets fmt, with fmt's text TOLD by the authors' own Lean function (tested against real Go, not proved from fmt's source: count such statements apart). THE CARD IS WHAT COUNTS. Prove the row's statement (the work); the ties are given (YtjebpmjbdchdlaaDoorTie.lean); close each card by the builder's one call (the guide's Derived/Test/ToyasCard.lean, 'card_holds'). Laid BY PROGRAM, IN A SANDBOX (cutbox-door.mjs). By AI agents, Wed Nov 11 2026. No macro, syntax, notation, axiom, sorry.
-/
import Derived.Test.YtjebpmjbdchdlaaDoorRows
import GoSem.ClaimSeven
namespace Go.Proofs.YtjebpmjbdchdlaaDoor
namespace Rows

/-- THE TIED CARD OF 'robuststatslaw09.FormulaStopsAtTheError'. -/
def formulaStopsAtTheErrorCard : Claim7 := { stood := { row := formulaStopsAtTheErrorRow, standIns := [], harness := (true, "4d869c2cf8e268dfa6246d4d5a5c3eb7ffc03c895b4f9c867c14da513e83c6b6"), looks := false }, kinds := [], alts := [], laidByText := true, laidKinds := [.data, .data, .data, .data, .data, .pinned], laidTests := true, laidLooks := .later }
def FormulaStopsAtTheErrorCardSaid : Prop := Claim7.holds Tryd.pinned (.plain (OpenSpec.ofChange formulaStopsAtTheErrorSpec)) formulaStopsAtTheErrorCard

/-- THE SECOND FORM's CARD OF 'robuststatslaw09.FormulaStopsAtTheError'. -/
def formulaStopsAtTheErrorUptoCard : Claim7 := { stood := { row := formulaStopsAtTheErrorUptoRow, standIns := [], harness := (true, "4d869c2cf8e268dfa6246d4d5a5c3eb7ffc03c895b4f9c867c14da513e83c6b6"), looks := false }, kinds := [], alts := [], laidByText := true, laidKinds := [.data, .data, .data, .data, .data, .pinned], laidTests := true, laidLooks := .later }
def FormulaStopsAtTheErrorUptoCardSaid : Prop := Claim7.holds Tryd.pinned (.plain (OpenSpec.upto formulaStopsAtTheErrorSpec)) formulaStopsAtTheErrorUptoCard
end Rows
end Go.Proofs.YtjebpmjbdchdlaaDoor
