/- For every text, FormulaStopsAtTheError answers true: the text ahead of the place of a syntax or range error has its own first error, if it has one, at its end. -/
import Derived.Test.YtjebpmjbdchdlaaDoorRows
import Derived.Test.YtjebpmjbdchdlaaDoorCards
import Derived.Test.YtjebpmjbdchdlaaDoorTie
import Derived.Test.YtjebpmjbdchdlaaDoorQsj
import Derived.Test.YtjebpmjbdchdlaaDoorQsl
import Derived.SevenTiedAt
import Derived.WalkKit
import Derived.ProofKit
import Derived.OpenShut
import Derived.ShutString
import Derived.ChangeOld
import Derived.Below
namespace Go.Proofs.YtjebpmjbdchdlaaDoor.formulaStopsAtTheError
open Go.ChangeShapes Go.WideShapes Go.ChangeAt Go.RowKit
open Go.ChangeMaps (open_string shut_string)
set_option linter.unusedVariables false

theorem over : Rows.formulaStopsAtTheErrorRow.holds Tryd.pinned (OpenSpec.ofChange Rows.formulaStopsAtTheErrorSpec) :=
  OpenClaim.holds_of_wide 3 Tryd.f3 rfl rfl rfl rfl rfl rfl rfl ⟨rfl, rfl, rfl, rfl, rfl⟩ rfl rfl rfl rfl rfl (by kernel_rfl) Tryd.func3 jf
    (of_decide_eq_true (by kernel_rfl)) (by unfold Func.isWrapper; first | (rw [if_pos (by decide +kernel)]; kernel_rfl) | (rw [if_neg (by decide +kernel)]; exact ⟨rfl, rfl⟩))
    (fun os started H enc _ => lifted os started H enc)

end Go.Proofs.YtjebpmjbdchdlaaDoor.formulaStopsAtTheError
