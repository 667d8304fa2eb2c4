/-
  DERIVED. GIVEN WITH THE SEED: THE CARDS: each row of YthbkdjbmkhmlnaaDoorRows.lean that lists a variable, with what it lists TIED to the program's text (the seventh form; the later family's looks); each row that meets fmt, with fmt's text TOLD by the authors' own Lean function (tested against real Go, not proved from fmt's source: count such statements apart). THE CARD IS WHAT COUNTS. Prove the row's statement (the work); the ties are given (YthbkdjbmkhmlnaaDoorTie.lean); close each card by the builder's one call (the guide's Derived/Test/ToyasCard.lean, 'card_holds'). Laid BY PROGRAM, IN A SANDBOX (cutbox-door.mjs). By AI agents, Wed Nov 11 2026. No macro, syntax, notation, axiom, sorry.
-/
import Derived.Test.YthbkdjbmkhmlnaaDoorRows
import GoSem.ClaimSeven
namespace Go.Proofs.YthbkdjbmkhmlnaaDoor
namespace Rows

/-- THE TIED CARD OF 'robuststatslaw10.TermsExpand'. -/
def termsExpandCard : Claim7 := { stood := { row := termsExpandRow, standIns := [], harness := (true, "7b3db29b1448cc81fd1c8a241304bd182006d81564124ea5f0cd21708e84a4ba"), looks := false }, kinds := [], alts := [], laidByText := true, laidKinds := [.data], laidTests := true, laidLooks := .later }
def TermsExpandCardSaid : Prop := Claim7.holds Tryd.pinned (.plain (OpenSpec.ofChange termsExpandSpec)) termsExpandCard

/-- THE TIED CARD OF 'robuststatslaw10.TermsCheck'. -/
def termsCheckCard : Claim7 := { stood := { row := termsCheckRow, standIns := [], harness := (true, "7b3db29b1448cc81fd1c8a241304bd182006d81564124ea5f0cd21708e84a4ba"), looks := false }, kinds := [], alts := [], laidByText := true, laidKinds := [.data], laidTests := true, laidLooks := .later }
def TermsCheckCardSaid : Prop := Claim7.holds Tryd.pinned (.plain (OpenSpec.ofChange termsCheckSpec)) termsCheckCard

/-- THE TIED CARD OF 'robuststatslaw10.TermsAreValid'. -/
def termsAreValidCard : Claim7 := { stood := { row := termsAreValidRow, standIns := [], harness := (true, "7b3db29b1448cc81fd1c8a241304bd182006d81564124ea5f0cd21708e84a4ba"), looks := false }, kinds := [], alts := [], laidByText := true, laidKinds := [.data], laidTests := true, laidLooks := .later }
def TermsAreValidCardSaid : Prop := Claim7.holds Tryd.pinned (.plain (OpenSpec.ofChange termsAreValidSpec)) termsAreValidCard

/-- THE TIED CARD OF 'robuststatslaw10.TermsFollowLaws'. -/
def termsFollowLawsCard : Claim7 := { stood := { row := termsFollowLawsRow, standIns := [], harness := (true, "7b3db29b1448cc81fd1c8a241304bd182006d81564124ea5f0cd21708e84a4ba"), looks := false }, kinds := [], alts := [], laidByText := true, laidKinds := [.data], laidTests := true, laidLooks := .later }
def TermsFollowLawsCardSaid : Prop := Claim7.holds Tryd.pinned (.plain (OpenSpec.ofChange termsFollowLawsSpec)) termsFollowLawsCard

/-- THE TIED CARD OF 'robuststatslaw10.TermsRemove'. -/
def termsRemoveCard : Claim7 := { stood := { row := termsRemoveRow, standIns := [], harness := (true, "7b3db29b1448cc81fd1c8a241304bd182006d81564124ea5f0cd21708e84a4ba"), looks := false }, kinds := [], alts := [], laidByText := true, laidKinds := [.data], laidTests := true, laidLooks := .later }
def TermsRemoveCardSaid : Prop := Claim7.holds Tryd.pinned (.plain (OpenSpec.ofChange termsRemoveSpec)) termsRemoveCard

/-- THE TIED CARD OF 'robuststatslaw10.TermsOfPowers'. -/
def termsOfPowersCard : Claim7 := { stood := { row := termsOfPowersRow, standIns := [], harness := (true, "7b3db29b1448cc81fd1c8a241304bd182006d81564124ea5f0cd21708e84a4ba"), looks := false }, kinds := [], alts := [], laidByText := true, laidKinds := [.data], laidTests := true, laidLooks := .later }
def TermsOfPowersCardSaid : Prop := Claim7.holds Tryd.pinned (.plain (OpenSpec.ofChange termsOfPowersSpec)) termsOfPowersCard

/-- THE SECOND FORM's CARD OF 'robuststatslaw10.TermsExpand'. -/
def termsExpandUptoCard : Claim7 := { stood := { row := termsExpandUptoRow, standIns := [], harness := (true, "7b3db29b1448cc81fd1c8a241304bd182006d81564124ea5f0cd21708e84a4ba"), looks := false }, kinds := [], alts := [], laidByText := true, laidKinds := [.data], laidTests := true, laidLooks := .later }
def TermsExpandUptoCardSaid : Prop := Claim7.holds Tryd.pinned (.plain (OpenSpec.upto termsExpandSpec)) termsExpandUptoCard

/-- THE SECOND FORM's CARD OF 'robuststatslaw10.TermsCheck'. -/
def termsCheckUptoCard : Claim7 := { stood := { row := termsCheckUptoRow, standIns := [], harness := (true, "7b3db29b1448cc81fd1c8a241304bd182006d81564124ea5f0cd21708e84a4ba"), looks := false }, kinds := [], alts := [], laidByText := true, laidKinds := [.data], laidTests := true, laidLooks := .later }
def TermsCheckUptoCardSaid : Prop := Claim7.holds Tryd.pinned (.plain (OpenSpec.upto termsCheckSpec)) termsCheckUptoCard

/-- THE SECOND FORM's CARD OF 'robuststatslaw10.TermsAreValid'. -/
def termsAreValidUptoCard : Claim7 := { stood := { row := termsAreValidUptoRow, standIns := [], harness := (true, "7b3db29b1448cc81fd1c8a241304bd182006d81564124ea5f0cd21708e84a4ba"), looks := false }, kinds := [], alts := [], laidByText := true, laidKinds := [.data], laidTests := true, laidLooks := .later }
def TermsAreValidUptoCardSaid : Prop := Claim7.holds Tryd.pinned (.plain (OpenSpec.upto termsAreValidSpec)) termsAreValidUptoCard

/-- THE SECOND FORM's CARD OF 'robuststatslaw10.TermsFollowLaws'. -/
def termsFollowLawsUptoCard : Claim7 := { stood := { row := termsFollowLawsUptoRow, standIns := [], harness := (true, "7b3db29b1448cc81fd1c8a241304bd182006d81564124ea5f0cd21708e84a4ba"), looks := false }, kinds := [], alts := [], laidByText := true, laidKinds := [.data], laidTests := true, laidLooks := .later }
def TermsFollowLawsUptoCardSaid : Prop := Claim7.holds Tryd.pinned (.plain (OpenSpec.upto termsFollowLawsSpec)) termsFollowLawsUptoCard

/-- THE SECOND FORM's CARD OF 'robuststatslaw10.TermsRemove'. -/
def termsRemoveUptoCard : Claim7 := { stood := { row := termsRemoveUptoRow, standIns := [], harness := (true, "7b3db29b1448cc81fd1c8a241304bd182006d81564124ea5f0cd21708e84a4ba"), looks := false }, kinds := [], alts := [], laidByText := true, laidKinds := [.data], laidTests := true, laidLooks := .later }
def TermsRemoveUptoCardSaid : Prop := Claim7.holds Tryd.pinned (.plain (OpenSpec.upto termsRemoveSpec)) termsRemoveUptoCard

/-- THE SECOND FORM's CARD OF 'robuststatslaw10.TermsOfPowers'. -/
def termsOfPowersUptoCard : Claim7 := { stood := { row := termsOfPowersUptoRow, standIns := [], harness := (true, "7b3db29b1448cc81fd1c8a241304bd182006d81564124ea5f0cd21708e84a4ba"), looks := false }, kinds := [], alts := [], laidByText := true, laidKinds := [.data], laidTests := true, laidLooks := .later }
def TermsOfPowersUptoCardSaid : Prop := Claim7.holds Tryd.pinned (.plain (OpenSpec.upto termsOfPowersSpec)) termsOfPowersUptoCard
end Rows
end Go.Proofs.YthbkdjbmkhmlnaaDoor
