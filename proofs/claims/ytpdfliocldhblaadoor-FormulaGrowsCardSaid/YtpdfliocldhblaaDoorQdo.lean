/- Two light valid right sides, joined by an operation with two operands, are valid just where they have not too many nodes. -/
import Derived.Test.YtpdfliocldhblaaDoorRows
import Derived.Test.YtpdfliocldhblaaDoorCards
import Derived.Test.YtpdfliocldhblaaDoorTie
import Derived.Test.YtpdfliocldhblaaDoorQdj
import Derived.Test.YtpdfliocldhblaaDoorQdl
import Derived.SevenTiedAt
import Derived.WalkKit
import Derived.ProofKit
import Derived.OpenShut
import Derived.ShutString
import Derived.ChangeOld
import Derived.Below
namespace Go.Proofs.YtpdfliocldhblaaDoor.formulaGrows
open Go.ChangeShapes Go.WideShapes Go.ChangeAt Go.RowKit
open Go.ChangeMaps (open_string shut_string)
set_option linter.unusedVariables false

theorem over : Rows.formulaGrowsRow.holds Tryd.pinned (OpenSpec.ofChange Rows.formulaGrowsSpec) :=
  OpenClaim.holds_of_wide 9 Tryd.f9 rfl rfl rfl rfl rfl rfl rfl ⟨rfl, rfl, rfl, rfl, rfl⟩ rfl rfl rfl rfl rfl (by kernel_rfl) Tryd.func9 jf
    (of_decide_eq_true (by kernel_rfl)) (by unfold Func.isWrapper; first | (rw [if_pos (by decide +kernel)]; kernel_rfl) | (rw [if_neg (by decide +kernel)]; exact ⟨rfl, rfl⟩))
    (fun os started H enc _ => lifted os started H enc)

end Go.Proofs.YtpdfliocldhblaaDoor.formulaGrows
