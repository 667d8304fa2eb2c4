/- Every text of at most 600 bytes: what Parse returns is valid, and is written and read as the same formula. -/
import Derived.Test.YtpdfliocldhblaaDoorRows
import Derived.Test.YtpdfliocldhblaaDoorCards
import Derived.Test.YtpdfliocldhblaaDoorTie
import Derived.Test.YtpdfliocldhblaaDoorQcj
import Derived.Test.YtpdfliocldhblaaDoorQcl
import Derived.SevenTiedAt
import Derived.WalkKit
import Derived.ProofKit
import Derived.OpenShut
import Derived.ShutString
import Derived.ChangeOld
import Derived.Below
namespace Go.Proofs.YtpdfliocldhblaaDoor.formulaIsStable
open Go.ChangeShapes Go.WideShapes Go.ChangeAt Go.RowKit
open Go.ChangeMaps (open_string shut_string)
set_option linter.unusedVariables false

theorem over : Rows.formulaIsStableRow.holds Tryd.pinned (OpenSpec.ofChange Rows.formulaIsStableSpec) :=
  OpenClaim.holds_of_wide 6 Tryd.f6 rfl rfl rfl rfl rfl rfl rfl ⟨rfl, rfl, rfl, rfl, rfl⟩ rfl rfl rfl rfl rfl (by kernel_rfl) Tryd.func6 jf
    (of_decide_eq_true (by kernel_rfl)) (by unfold Func.isWrapper; first | (rw [if_pos (by decide +kernel)]; kernel_rfl) | (rw [if_neg (by decide +kernel)]; exact ⟨rfl, rfl⟩))
    (fun os started H enc _ => lifted os started H enc)

end Go.Proofs.YtpdfliocldhblaaDoor.formulaIsStable
