/- Every light formula that is valid: brackets around the whole right side and blanks change nothing. -/
import Derived.Test.YtpdfliocldhblaaDoorRows
import Derived.Test.YtpdfliocldhblaaDoorCards
import Derived.Test.YtpdfliocldhblaaDoorTie
import Derived.Test.YtpdfliocldhblaaDoorQfo
import Derived.Test.YtpdfliocldhblaaDoorQfp
import Derived.SevenTiedAt
import Derived.WalkKit
import Derived.ProofKit
import Derived.OpenShut
import Derived.ShutString
import Derived.ChangeOld
import Derived.Below
namespace Go.Proofs.YtpdfliocldhblaaDoor.formulaIgnoresBrackets
open Go.ChangeShapes Go.WideShapes Go.ChangeAt Go.RowKit
open Go.ChangeMaps (open_string shut_string)
set_option linter.unusedVariables false

theorem proved : Rows.FormulaIgnoresBracketsCardSaid :=
  Claim7.holds_tied_plain_at .later [] [.data, .data, .data, .data, .data, .pinned] true (true, "06a364c2a20a6662c2cc39019234e6d8862323f30c515294e83dc1e995ed58f3") false
    over (fun _ h => by cases h) hw (fun _ h => by cases h) formulaIgnoresBrackets_row_tie rfl ⟨rfl, rfl⟩ hm rfl
    (fun f fn hf hfn => by
      obtain rfl : f = 7 := Option.some.inj ((show Tryd.prog.funcNamed Rows.formulaIgnoresBracketsRow.func = some 7 by kernel_rfl).symm.trans hf) |>.symm
      obtain rfl : fn = Tryd.f7 := (Option.some.inj (Tryd.func7.symm.trans hfn)).symm
      exact ⟨hlk, fun j t ht => by
        rw [Tryd.params7] at ht
        have hm : t ∈ [25, 5] := by simpa using Array.mem_of_getElem? ht
        have hall : ([25, 5].all fun u => !Tryd.prog.wantsStandIn u) = true := by kernel_rfl
        exact (show Tryd.prog.wantsStandIn t = false by simpa using List.all_eq_true.1 hall t hm)⟩)
    hg
#print axioms proved
end Go.Proofs.YtpdfliocldhblaaDoor.formulaIgnoresBrackets
