/- For all three formulas, * is a + b + a:b, * and : are commutative and associative, : distributes over +, and a / b with a variable a is a + a:b, up to the order of terms: the law TermsFollowLaws answers true. -/
import Derived.Test.YthbkdjbmkhmlnaaDoorRows
import Derived.SevenTiedAt
import Derived.WalkKit
import Derived.ProofKit
import Derived.OpenShut
import Derived.ShutString
import Derived.ChangeOld
import Derived.Below
namespace Go.Proofs.YthbkdjbmkhmlnaaDoor.termsFollowLaws
open Go.ChangeShapes Go.WideShapes Go.ChangeAt Go.RowKit
open Go.ChangeMaps (open_string shut_string)
set_option linter.unusedVariables false

theorem hw : Rows.termsFollowLawsRow.wfByText (OpenSpec.ofChange Rows.termsFollowLawsSpec) = true := by kernel_rfl
theorem hm : Tryd.pinned.checked.prog.mainIs = some (true, "7b3db29b1448cc81fd1c8a241304bd182006d81564124ea5f0cd21708e84a4ba".toList) := by kernel_rfl
theorem hlk : false = Tryd.pinned.checked.prog.looks [] := by kernel_rfl
theorem hg : false = Rows.termsFollowLawsRow.goesBy Tryd.pinned.checked.prog := by kernel_rfl
end Go.Proofs.YthbkdjbmkhmlnaaDoor.termsFollowLaws
