/- Every light formula that is valid: brackets around the whole right side and blanks change nothing. -/
import Derived.Test.YtpdfliocldhblaaDoorRows
import Derived.SevenTiedAt
import Derived.WalkKit
import Derived.ProofKit
import Derived.OpenShut
import Derived.ShutString
import Derived.ChangeOld
import Derived.Below
namespace Go.Proofs.YtpdfliocldhblaaDoor.formulaIgnoresBrackets
open Go.ChangeShapes Go.WideShapes Go.ChangeAt Go.RowKit
open Go.ChangeMaps (open_string shut_string)
set_option linter.unusedVariables false

theorem hw : Rows.formulaIgnoresBracketsRow.wfByText (OpenSpec.ofChange Rows.formulaIgnoresBracketsSpec) = true := by kernel_rfl
theorem hm : Tryd.pinned.checked.prog.mainIs = some (true, "06a364c2a20a6662c2cc39019234e6d8862323f30c515294e83dc1e995ed58f3".toList) := by kernel_rfl
theorem hlk : false = Tryd.pinned.checked.prog.looks [] := by kernel_rfl
theorem hg : false = Rows.formulaIgnoresBracketsRow.goesBy Tryd.pinned.checked.prog := by kernel_rfl
end Go.Proofs.YtpdfliocldhblaaDoor.formulaIgnoresBrackets
