/- Every light formula: Format and Valid answer as specified. -/
import Derived.Test.YtpdfliocldhblaaDoorRows
import Derived.Test.YtpdfliocldhblaaDoorCards
import Derived.Test.YtpdfliocldhblaaDoorTie
import Derived.Test.YtpdfliocldhblaaDoorQeo
import Derived.Test.YtpdfliocldhblaaDoorQep
import Derived.SevenTiedAt
import Derived.WalkKit
import Derived.ProofKit
import Derived.OpenShut
import Derived.ShutString
import Derived.ChangeOld
import Derived.Below
namespace Go.Proofs.YtpdfliocldhblaaDoor.formulaFormats
open Go.ChangeShapes Go.WideShapes Go.ChangeAt Go.RowKit
open Go.ChangeMaps (open_string shut_string)
set_option linter.unusedVariables false

theorem proved : Rows.FormulaFormatsCardSaid :=
  Claim7.holds_tied_plain_at .later [] [.data, .data, .data, .data, .data, .pinned] true (true, "06a364c2a20a6662c2cc39019234e6d8862323f30c515294e83dc1e995ed58f3") false
    over (fun _ h => by cases h) hw (fun _ h => by cases h) formulaFormats_row_tie rfl ⟨rfl, rfl⟩ hm rfl
    (fun f fn hf hfn => by
      obtain rfl : f = 4 := Option.some.inj ((show Tryd.prog.funcNamed Rows.formulaFormatsRow.func = some 4 by kernel_rfl).symm.trans hf) |>.symm
      obtain rfl : fn = Tryd.f4 := (Option.some.inj (Tryd.func4.symm.trans hfn)).symm
      exact ⟨hlk, fun j t ht => by
        rw [Tryd.params4] at ht
        have hm : t ∈ [25] := by simpa using Array.mem_of_getElem? ht
        have hall : ([25].all fun u => !Tryd.prog.wantsStandIn u) = true := by kernel_rfl
        exact (show Tryd.prog.wantsStandIn t = false by simpa using List.all_eq_true.1 hall t hm)⟩)
    hg
#print axioms proved
end Go.Proofs.YtpdfliocldhblaaDoor.formulaFormats
