/- Every light formula: Format and Valid answer as specified. -/
import Derived.Test.YtpdfliocldhblaaDoorRows
import Derived.SevenTiedAt
import Derived.WalkKit
import Derived.ProofKit
import Derived.OpenShut
import Derived.ShutString
import Derived.ChangeOld
import Derived.Below
namespace Go.Proofs.YtpdfliocldhblaaDoor.formulaFormats
open Go.ChangeShapes Go.WideShapes Go.ChangeAt Go.RowKit
open Go.ChangeMaps (open_string shut_string)
set_option linter.unusedVariables false

theorem hw : Rows.formulaFormatsRow.wfByText (OpenSpec.ofChange Rows.formulaFormatsSpec) = true := by kernel_rfl
theorem hm : Tryd.pinned.checked.prog.mainIs = some (true, "06a364c2a20a6662c2cc39019234e6d8862323f30c515294e83dc1e995ed58f3".toList) := by kernel_rfl
theorem hlk : false = Tryd.pinned.checked.prog.looks [] := by kernel_rfl
theorem hg : false = Rows.formulaFormatsRow.goesBy Tryd.pinned.checked.prog := by kernel_rfl
end Go.Proofs.YtpdfliocldhblaaDoor.formulaFormats
