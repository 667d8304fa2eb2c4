/- For every coding and every list of levels, ContrastNames answers true: Names returns the specified names and error, one for each column, for at most 40 levels of at most 100 bytes. -/
import Derived.Test.YtlflaalefilplaaDoorRows
import Derived.SevenTiedAt
import Derived.WalkKit
import Derived.ProofKit
import Derived.OpenShut
import Derived.ShutString
import Derived.ChangeOld
import Derived.Below
namespace Go.Proofs.YtlflaalefilplaaDoor.contrastNames
open Go.ChangeShapes Go.WideShapes Go.ChangeAt Go.RowKit
open Go.ChangeMaps (open_string shut_string)
set_option linter.unusedVariables false

theorem hw : Rows.contrastNamesRow.wfByText (OpenSpec.ofChange Rows.contrastNamesSpec) = true := by kernel_rfl
theorem hm : Tryd.pinned.checked.prog.mainIs = some (true, "87cc4412cefe70c351e15c8e2f7fa20001094de2565ed965152d12c7d792f2a1".toList) := by kernel_rfl
theorem hlk : false = Tryd.pinned.checked.prog.looks [] := by kernel_rfl
theorem hg : false = Rows.contrastNamesRow.goesBy Tryd.pinned.checked.prog := by kernel_rfl
end Go.Proofs.YtlflaalefilplaaDoor.contrastNames
