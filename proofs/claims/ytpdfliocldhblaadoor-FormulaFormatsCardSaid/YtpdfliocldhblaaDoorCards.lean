/-
  DERIVED. GIVEN WITH THE SEED: THE CARDS: each row of YtpdfliocldhblaaDoorRows.lean that lists a variable, with what it lists TIED to the program's text (the seventh form; the later family's looks); each row that meets fmt, with fmt's text TOLD by the authors' own Lean function (tested against real Go, not proved from fmt's source: count such statements apart). THE CARD IS WHAT COUNTS. Prove the row's statement (the work); the ties are given (YtpdfliocldhblaaDoorTie.lean); close each card by the builder's one call (the guide's Derived/Test/ToyasCard.lean, 'card_holds'). Laid BY PROGRAM, IN A SANDBOX (cutbox-door.mjs). By AI agents, Wed Nov 11 2026. No macro, syntax, notation, axiom, sorry.
-/
import Derived.Test.YtpdfliocldhblaaDoorRows
import GoSem.ClaimSeven
namespace Go.Proofs.YtpdfliocldhblaaDoor
namespace Rows

/-- THE TIED CARD OF 'robuststatslaw09.FormulaParses'. -/
def formulaParsesCard : Claim7 := { stood := { row := formulaParsesRow, standIns := [], harness := (true, "06a364c2a20a6662c2cc39019234e6d8862323f30c515294e83dc1e995ed58f3"), looks := false }, kinds := [], alts := [], laidByText := true, laidKinds := [.data, .data, .data, .data, .data, .pinned], laidTests := true, laidLooks := .later }
def FormulaParsesCardSaid : Prop := Claim7.holds Tryd.pinned (.plain (OpenSpec.ofChange formulaParsesSpec)) formulaParsesCard

/-- THE TIED CARD OF 'robuststatslaw09.FormulaFormats'. -/
def formulaFormatsCard : Claim7 := { stood := { row := formulaFormatsRow, standIns := [], harness := (true, "06a364c2a20a6662c2cc39019234e6d8862323f30c515294e83dc1e995ed58f3"), looks := false }, kinds := [], alts := [], laidByText := true, laidKinds := [.data, .data, .data, .data, .data, .pinned], laidTests := true, laidLooks := .later }
def FormulaFormatsCardSaid : Prop := Claim7.holds Tryd.pinned (.plain (OpenSpec.ofChange formulaFormatsSpec)) formulaFormatsCard

/-- THE TIED CARD OF 'robuststatslaw09.FormulaReadsBack'. -/
def formulaReadsBackCard : Claim7 := { stood := { row := formulaReadsBackRow, standIns := [], harness := (true, "06a364c2a20a6662c2cc39019234e6d8862323f30c515294e83dc1e995ed58f3"), looks := false }, kinds := [], alts := [], laidByText := true, laidKinds := [.data, .data, .data, .data, .data, .pinned], laidTests := true, laidLooks := .later }
def FormulaReadsBackCardSaid : Prop := Claim7.holds Tryd.pinned (.plain (OpenSpec.ofChange formulaReadsBackSpec)) formulaReadsBackCard

/-- THE TIED CARD OF 'robuststatslaw09.FormulaIsStable'. -/
def formulaIsStableCard : Claim7 := { stood := { row := formulaIsStableRow, standIns := [], harness := (true, "06a364c2a20a6662c2cc39019234e6d8862323f30c515294e83dc1e995ed58f3"), looks := false }, kinds := [], alts := [], laidByText := true, laidKinds := [.data, .data, .data, .data, .data, .pinned], laidTests := true, laidLooks := .later }
def FormulaIsStableCardSaid : Prop := Claim7.holds Tryd.pinned (.plain (OpenSpec.ofChange formulaIsStableSpec)) formulaIsStableCard

/-- THE TIED CARD OF 'robuststatslaw09.FormulaIgnoresBrackets'. -/
def formulaIgnoresBracketsCard : Claim7 := { stood := { row := formulaIgnoresBracketsRow, standIns := [], harness := (true, "06a364c2a20a6662c2cc39019234e6d8862323f30c515294e83dc1e995ed58f3"), looks := false }, kinds := [], alts := [], laidByText := true, laidKinds := [.data, .data, .data, .data, .data, .pinned], laidTests := true, laidLooks := .later }
def FormulaIgnoresBracketsCardSaid : Prop := Claim7.holds Tryd.pinned (.plain (OpenSpec.ofChange formulaIgnoresBracketsSpec)) formulaIgnoresBracketsCard

/-- THE TIED CARD OF 'robuststatslaw09.FormulaStopsAtTheError'. -/
def formulaStopsAtTheErrorCard : Claim7 := { stood := { row := formulaStopsAtTheErrorRow, standIns := [], harness := (true, "06a364c2a20a6662c2cc39019234e6d8862323f30c515294e83dc1e995ed58f3"), looks := false }, kinds := [], alts := [], laidByText := true, laidKinds := [.data, .data, .data, .data, .data, .pinned], laidTests := true, laidLooks := .later }
def FormulaStopsAtTheErrorCardSaid : Prop := Claim7.holds Tryd.pinned (.plain (OpenSpec.ofChange formulaStopsAtTheErrorSpec)) formulaStopsAtTheErrorCard

/-- THE TIED CARD OF 'robuststatslaw09.FormulaGrows'. -/
def formulaGrowsCard : Claim7 := { stood := { row := formulaGrowsRow, standIns := [], harness := (true, "06a364c2a20a6662c2cc39019234e6d8862323f30c515294e83dc1e995ed58f3"), looks := false }, kinds := [], alts := [], laidByText := true, laidKinds := [.data, .data, .data, .data, .data, .pinned], laidTests := true, laidLooks := .later }
def FormulaGrowsCardSaid : Prop := Claim7.holds Tryd.pinned (.plain (OpenSpec.ofChange formulaGrowsSpec)) formulaGrowsCard

/-- THE TIED CARD OF 'robuststatslaw10.TermsExpand'. -/
def termsExpandCard : Claim7 := { stood := { row := termsExpandRow, standIns := [], harness := (true, "06a364c2a20a6662c2cc39019234e6d8862323f30c515294e83dc1e995ed58f3"), looks := false }, kinds := [], alts := [], laidByText := true, laidKinds := [.data], laidTests := true, laidLooks := .later }
def TermsExpandCardSaid : Prop := Claim7.holds Tryd.pinned (.plain (OpenSpec.ofChange termsExpandSpec)) termsExpandCard

/-- THE TIED CARD OF 'robuststatslaw10.TermsCheck'. -/
def termsCheckCard : Claim7 := { stood := { row := termsCheckRow, standIns := [], harness := (true, "06a364c2a20a6662c2cc39019234e6d8862323f30c515294e83dc1e995ed58f3"), looks := false }, kinds := [], alts := [], laidByText := true, laidKinds := [.data], laidTests := true, laidLooks := .later }
def TermsCheckCardSaid : Prop := Claim7.holds Tryd.pinned (.plain (OpenSpec.ofChange termsCheckSpec)) termsCheckCard

/-- THE TIED CARD OF 'robuststatslaw10.TermsAreValid'. -/
def termsAreValidCard : Claim7 := { stood := { row := termsAreValidRow, standIns := [], harness := (true, "06a364c2a20a6662c2cc39019234e6d8862323f30c515294e83dc1e995ed58f3"), looks := false }, kinds := [], alts := [], laidByText := true, laidKinds := [.data], laidTests := true, laidLooks := .later }
def TermsAreValidCardSaid : Prop := Claim7.holds Tryd.pinned (.plain (OpenSpec.ofChange termsAreValidSpec)) termsAreValidCard

/-- THE TIED CARD OF 'robuststatslaw10.TermsFollowLaws'. -/
def termsFollowLawsCard : Claim7 := { stood := { row := termsFollowLawsRow, standIns := [], harness := (true, "06a364c2a20a6662c2cc39019234e6d8862323f30c515294e83dc1e995ed58f3"), looks := false }, kinds := [], alts := [], laidByText := true, laidKinds := [.data], laidTests := true, laidLooks := .later }
def TermsFollowLawsCardSaid : Prop := Claim7.holds Tryd.pinned (.plain (OpenSpec.ofChange termsFollowLawsSpec)) termsFollowLawsCard

/-- THE TIED CARD OF 'robuststatslaw10.TermsRemove'. -/
def termsRemoveCard : Claim7 := { stood := { row := termsRemoveRow, standIns := [], harness := (true, "06a364c2a20a6662c2cc39019234e6d8862323f30c515294e83dc1e995ed58f3"), looks := false }, kinds := [], alts := [], laidByText := true, laidKinds := [.data], laidTests := true, laidLooks := .later }
def TermsRemoveCardSaid : Prop := Claim7.holds Tryd.pinned (.plain (OpenSpec.ofChange termsRemoveSpec)) termsRemoveCard

/-- THE TIED CARD OF 'robuststatslaw10.TermsOfPowers'. -/
def termsOfPowersCard : Claim7 := { stood := { row := termsOfPowersRow, standIns := [], harness := (true, "06a364c2a20a6662c2cc39019234e6d8862323f30c515294e83dc1e995ed58f3"), looks := false }, kinds := [], alts := [], laidByText := true, laidKinds := [.data], laidTests := true, laidLooks := .later }
def TermsOfPowersCardSaid : Prop := Claim7.holds Tryd.pinned (.plain (OpenSpec.ofChange termsOfPowersSpec)) termsOfPowersCard

/-- THE SECOND FORM's CARD OF 'robuststatslaw09.FormulaParses'. -/
def formulaParsesUptoCard : Claim7 := { stood := { row := formulaParsesUptoRow, standIns := [], harness := (true, "06a364c2a20a6662c2cc39019234e6d8862323f30c515294e83dc1e995ed58f3"), looks := false }, kinds := [], alts := [], laidByText := true, laidKinds := [.data, .data, .data, .data, .data, .pinned], laidTests := true, laidLooks := .later }
def FormulaParsesUptoCardSaid : Prop := Claim7.holds Tryd.pinned (.plain (OpenSpec.upto formulaParsesSpec)) formulaParsesUptoCard

/-- THE SECOND FORM's CARD OF 'robuststatslaw09.FormulaFormats'. -/
def formulaFormatsUptoCard : Claim7 := { stood := { row := formulaFormatsUptoRow, standIns := [], harness := (true, "06a364c2a20a6662c2cc39019234e6d8862323f30c515294e83dc1e995ed58f3"), looks := false }, kinds := [], alts := [], laidByText := true, laidKinds := [.data, .data, .data, .data, .data, .pinned], laidTests := true, laidLooks := .later }
def FormulaFormatsUptoCardSaid : Prop := Claim7.holds Tryd.pinned (.plain (OpenSpec.upto formulaFormatsSpec)) formulaFormatsUptoCard

/-- THE SECOND FORM's CARD OF 'robuststatslaw09.FormulaReadsBack'. -/
def formulaReadsBackUptoCard : Claim7 := { stood := { row := formulaReadsBackUptoRow, standIns := [], harness := (true, "06a364c2a20a6662c2cc39019234e6d8862323f30c515294e83dc1e995ed58f3"), looks := false }, kinds := [], alts := [], laidByText := true, laidKinds := [.data, .data, .data, .data, .data, .pinned], laidTests := true, laidLooks := .later }
def FormulaReadsBackUptoCardSaid : Prop := Claim7.holds Tryd.pinned (.plain (OpenSpec.upto formulaReadsBackSpec)) formulaReadsBackUptoCard

/-- THE SECOND FORM's CARD OF 'robuststatslaw09.FormulaIsStable'. -/
def formulaIsStableUptoCard : Claim7 := { stood := { row := formulaIsStableUptoRow, standIns := [], harness := (true, "06a364c2a20a6662c2cc39019234e6d8862323f30c515294e83dc1e995ed58f3"), looks := false }, kinds := [], alts := [], laidByText := true, laidKinds := [.data, .data, .data, .data, .data, .pinned], laidTests := true, laidLooks := .later }
def FormulaIsStableUptoCardSaid : Prop := Claim7.holds Tryd.pinned (.plain (OpenSpec.upto formulaIsStableSpec)) formulaIsStableUptoCard

/-- THE SECOND FORM's CARD OF 'robuststatslaw09.FormulaIgnoresBrackets'. -/
def formulaIgnoresBracketsUptoCard : Claim7 := { stood := { row := formulaIgnoresBracketsUptoRow, standIns := [], harness := (true, "06a364c2a20a6662c2cc39019234e6d8862323f30c515294e83dc1e995ed58f3"), looks := false }, kinds := [], alts := [], laidByText := true, laidKinds := [.data, .data, .data, .data, .data, .pinned], laidTests := true, laidLooks := .later }
def FormulaIgnoresBracketsUptoCardSaid : Prop := Claim7.holds Tryd.pinned (.plain (OpenSpec.upto formulaIgnoresBracketsSpec)) formulaIgnoresBracketsUptoCard

/-- THE SECOND FORM's CARD OF 'robuststatslaw09.FormulaStopsAtTheError'. -/
def formulaStopsAtTheErrorUptoCard : Claim7 := { stood := { row := formulaStopsAtTheErrorUptoRow, standIns := [], harness := (true, "06a364c2a20a6662c2cc39019234e6d8862323f30c515294e83dc1e995ed58f3"), looks := false }, kinds := [], alts := [], laidByText := true, laidKinds := [.data, .data, .data, .data, .data, .pinned], laidTests := true, laidLooks := .later }
def FormulaStopsAtTheErrorUptoCardSaid : Prop := Claim7.holds Tryd.pinned (.plain (OpenSpec.upto formulaStopsAtTheErrorSpec)) formulaStopsAtTheErrorUptoCard

/-- THE SECOND FORM's CARD OF 'robuststatslaw09.FormulaGrows'. -/
def formulaGrowsUptoCard : Claim7 := { stood := { row := formulaGrowsUptoRow, standIns := [], harness := (true, "06a364c2a20a6662c2cc39019234e6d8862323f30c515294e83dc1e995ed58f3"), looks := false }, kinds := [], alts := [], laidByText := true, laidKinds := [.data, .data, .data, .data, .data, .pinned], laidTests := true, laidLooks := .later }
def FormulaGrowsUptoCardSaid : Prop := Claim7.holds Tryd.pinned (.plain (OpenSpec.upto formulaGrowsSpec)) formulaGrowsUptoCard

/-- THE SECOND FORM's CARD OF 'robuststatslaw10.TermsExpand'. -/
def termsExpandUptoCard : Claim7 := { stood := { row := termsExpandUptoRow, standIns := [], harness := (true, "06a364c2a20a6662c2cc39019234e6d8862323f30c515294e83dc1e995ed58f3"), looks := false }, kinds := [], alts := [], laidByText := true, laidKinds := [.data], laidTests := true, laidLooks := .later }
def TermsExpandUptoCardSaid : Prop := Claim7.holds Tryd.pinned (.plain (OpenSpec.upto termsExpandSpec)) termsExpandUptoCard

/-- THE SECOND FORM's CARD OF 'robuststatslaw10.TermsCheck'. -/
def termsCheckUptoCard : Claim7 := { stood := { row := termsCheckUptoRow, standIns := [], harness := (true, "06a364c2a20a6662c2cc39019234e6d8862323f30c515294e83dc1e995ed58f3"), looks := false }, kinds := [], alts := [], laidByText := true, laidKinds := [.data], laidTests := true, laidLooks := .later }
def TermsCheckUptoCardSaid : Prop := Claim7.holds Tryd.pinned (.plain (OpenSpec.upto termsCheckSpec)) termsCheckUptoCard

/-- THE SECOND FORM's CARD OF 'robuststatslaw10.TermsAreValid'. -/
def termsAreValidUptoCard : Claim7 := { stood := { row := termsAreValidUptoRow, standIns := [], harness := (true, "06a364c2a20a6662c2cc39019234e6d8862323f30c515294e83dc1e995ed58f3"), looks := false }, kinds := [], alts := [], laidByText := true, laidKinds := [.data], laidTests := true, laidLooks := .later }
def TermsAreValidUptoCardSaid : Prop := Claim7.holds Tryd.pinned (.plain (OpenSpec.upto termsAreValidSpec)) termsAreValidUptoCard

/-- THE SECOND FORM's CARD OF 'robuststatslaw10.TermsFollowLaws'. -/
def termsFollowLawsUptoCard : Claim7 := { stood := { row := termsFollowLawsUptoRow, standIns := [], harness := (true, "06a364c2a20a6662c2cc39019234e6d8862323f30c515294e83dc1e995ed58f3"), looks := false }, kinds := [], alts := [], laidByText := true, laidKinds := [.data], laidTests := true, laidLooks := .later }
def TermsFollowLawsUptoCardSaid : Prop := Claim7.holds Tryd.pinned (.plain (OpenSpec.upto termsFollowLawsSpec)) termsFollowLawsUptoCard

/-- THE SECOND FORM's CARD OF 'robuststatslaw10.TermsRemove'. -/
def termsRemoveUptoCard : Claim7 := { stood := { row := termsRemoveUptoRow, standIns := [], harness := (true, "06a364c2a20a6662c2cc39019234e6d8862323f30c515294e83dc1e995ed58f3"), looks := false }, kinds := [], alts := [], laidByText := true, laidKinds := [.data], laidTests := true, laidLooks := .later }
def TermsRemoveUptoCardSaid : Prop := Claim7.holds Tryd.pinned (.plain (OpenSpec.upto termsRemoveSpec)) termsRemoveUptoCard

/-- THE SECOND FORM's CARD OF 'robuststatslaw10.TermsOfPowers'. -/
def termsOfPowersUptoCard : Claim7 := { stood := { row := termsOfPowersUptoRow, standIns := [], harness := (true, "06a364c2a20a6662c2cc39019234e6d8862323f30c515294e83dc1e995ed58f3"), looks := false }, kinds := [], alts := [], laidByText := true, laidKinds := [.data], laidTests := true, laidLooks := .later }
def TermsOfPowersUptoCardSaid : Prop := Claim7.holds Tryd.pinned (.plain (OpenSpec.upto termsOfPowersSpec)) termsOfPowersUptoCard
end Rows
end Go.Proofs.YtpdfliocldhblaaDoor
