/- For every text, FormulaStopsAtTheError answers true: the text ahead of the place of a syntax or range error has its own first error, if it has one, at its end. -/
import Derived.Test.YtjebpmjbdchdlaaDoorRows
import Derived.SevenTiedAt
import Derived.WalkKit
import Derived.ProofKit
import Derived.OpenShut
import Derived.ShutString
import Derived.ChangeOld
import Derived.Below
namespace Go.Proofs.YtjebpmjbdchdlaaDoor.formulaStopsAtTheError
open Go.ChangeShapes Go.WideShapes Go.ChangeAt Go.RowKit
open Go.ChangeMaps (open_string shut_string)
set_option linter.unusedVariables false

theorem hw : Rows.formulaStopsAtTheErrorRow.wfByText (OpenSpec.ofChange Rows.formulaStopsAtTheErrorSpec) = true := by kernel_rfl
theorem hm : Tryd.pinned.checked.prog.mainIs = some (true, "4d869c2cf8e268dfa6246d4d5a5c3eb7ffc03c895b4f9c867c14da513e83c6b6".toList) := by kernel_rfl
theorem hlk : false = Tryd.pinned.checked.prog.looks [] := by kernel_rfl
theorem hg : false = Rows.formulaStopsAtTheErrorRow.goesBy Tryd.pinned.checked.prog := by kernel_rfl
end Go.Proofs.YtjebpmjbdchdlaaDoor.formulaStopsAtTheError
