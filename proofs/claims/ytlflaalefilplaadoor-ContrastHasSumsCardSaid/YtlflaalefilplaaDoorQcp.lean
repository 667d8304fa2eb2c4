/- For every number of levels and every choice, ContrastHasSums answers true: the columns of SumToZero and Helmert have the sum 0, those of Helmert are orthogonal, and each row of Indicator has the sum 1. -/
import Derived.Test.YtlflaalefilplaaDoorRows
import Derived.SevenTiedAt
import Derived.WalkKit
import Derived.ProofKit
import Derived.OpenShut
import Derived.ShutString
import Derived.ChangeOld
import Derived.Below
namespace Go.Proofs.YtlflaalefilplaaDoor.contrastHasSums
open Go.ChangeShapes Go.WideShapes Go.ChangeAt Go.RowKit
open Go.ChangeMaps (open_string shut_string)
set_option linter.unusedVariables false

theorem hw : Rows.contrastHasSumsRow.wfByText (OpenSpec.ofChange Rows.contrastHasSumsSpec) = true := by kernel_rfl
theorem hm : Tryd.pinned.checked.prog.mainIs = some (true, "87cc4412cefe70c351e15c8e2f7fa20001094de2565ed965152d12c7d792f2a1".toList) := by kernel_rfl
theorem hlk : false = Tryd.pinned.checked.prog.looks [] := by kernel_rfl
theorem hg : false = Rows.contrastHasSumsRow.goesBy Tryd.pinned.checked.prog := by kernel_rfl
end Go.Proofs.YtlflaalefilplaaDoor.contrastHasSums
