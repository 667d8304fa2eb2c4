/- For every text, FormulaStopsAtTheError answers true: the text ahead of the place of a syntax or range error has its own first error, if it has one, at its end. -/
import Derived.Test.YtjebpmjbdchdlaaDoorRows
import Derived.Test.YtjebpmjbdchdlaaDoorCards
import Derived.Test.YtjebpmjbdchdlaaDoorTie
import Derived.Test.YtjebpmjbdchdlaaDoorQso
import Derived.Test.YtjebpmjbdchdlaaDoorQsp
import Derived.SevenTiedAt
import Derived.WalkKit
import Derived.ProofKit
import Derived.OpenShut
import Derived.ShutString
import Derived.ChangeOld
import Derived.Below
namespace Go.Proofs.YtjebpmjbdchdlaaDoor.formulaStopsAtTheError
open Go.ChangeShapes Go.WideShapes Go.ChangeAt Go.RowKit
open Go.ChangeMaps (open_string shut_string)
set_option linter.unusedVariables false

theorem proved : Rows.FormulaStopsAtTheErrorCardSaid :=
  Claim7.holds_tied_plain_at .later [] [.data, .data, .data, .data, .data, .pinned] true (true, "4d869c2cf8e268dfa6246d4d5a5c3eb7ffc03c895b4f9c867c14da513e83c6b6") false
    over (fun _ h => by cases h) hw (fun _ h => by cases h) formulaStopsAtTheError_row_tie rfl ⟨rfl, rfl⟩ hm rfl
    (fun f fn hf hfn => by
      obtain rfl : f = 3 := Option.some.inj ((show Tryd.prog.funcNamed Rows.formulaStopsAtTheErrorRow.func = some 3 by kernel_rfl).symm.trans hf) |>.symm
      obtain rfl : fn = Tryd.f3 := (Option.some.inj (Tryd.func3.symm.trans hfn)).symm
      exact ⟨hlk, fun j t ht => by
        rw [Tryd.params3] at ht
        have hm : t ∈ [9] := by simpa using Array.mem_of_getElem? ht
        have hall : ([9].all fun u => !Tryd.prog.wantsStandIn u) = true := by kernel_rfl
        exact (show Tryd.prog.wantsStandIn t = false by simpa using List.all_eq_true.1 hall t hm)⟩)
    hg
#print axioms proved
end Go.Proofs.YtjebpmjbdchdlaaDoor.formulaStopsAtTheError
