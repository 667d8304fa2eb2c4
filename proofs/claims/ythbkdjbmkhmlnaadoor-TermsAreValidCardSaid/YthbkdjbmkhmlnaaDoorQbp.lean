/- For every formula, what Expand returns is a valid model whose response is the formula's and whose factors are variables of the formula, or the error is the limit's: the law TermsAreValid answers true. -/
import Derived.Test.YthbkdjbmkhmlnaaDoorRows
import Derived.SevenTiedAt
import Derived.WalkKit
import Derived.ProofKit
import Derived.OpenShut
import Derived.ShutString
import Derived.ChangeOld
import Derived.Below
namespace Go.Proofs.YthbkdjbmkhmlnaaDoor.termsAreValid
open Go.ChangeShapes Go.WideShapes Go.ChangeAt Go.RowKit
open Go.ChangeMaps (open_string shut_string)
set_option linter.unusedVariables false

theorem hw : Rows.termsAreValidRow.wfByText (OpenSpec.ofChange Rows.termsAreValidSpec) = true := by kernel_rfl
theorem hm : Tryd.pinned.checked.prog.mainIs = some (true, "7b3db29b1448cc81fd1c8a241304bd182006d81564124ea5f0cd21708e84a4ba".toList) := by kernel_rfl
theorem hlk : false = Tryd.pinned.checked.prog.looks [] := by kernel_rfl
theorem hg : false = Rows.termsAreValidRow.goesBy Tryd.pinned.checked.prog := by kernel_rfl
end Go.Proofs.YthbkdjbmkhmlnaaDoor.termsAreValid
