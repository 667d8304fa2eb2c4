/- Every light formula that is valid: brackets around the whole right side and blanks change nothing. -/
import Derived.Test.YtpdfliocldhblaaDoorRows
import Derived.Test.YtpdfliocldhblaaDoorCards
import Derived.Test.YtpdfliocldhblaaDoorTie
import Derived.Test.YtpdfliocldhblaaDoorQfj
import Derived.Test.YtpdfliocldhblaaDoorQfl
import Derived.SevenTiedAt
import Derived.WalkKit
import Derived.ProofKit
import Derived.OpenShut
import Derived.ShutString
import Derived.ChangeOld
import Derived.Below
namespace Go.Proofs.YtpdfliocldhblaaDoor.formulaIgnoresBrackets
open Go.ChangeShapes Go.WideShapes Go.ChangeAt Go.RowKit
open Go.ChangeMaps (open_string shut_string)
set_option linter.unusedVariables false

theorem over : Rows.formulaIgnoresBracketsRow.holds Tryd.pinned (OpenSpec.ofChange Rows.formulaIgnoresBracketsSpec) :=
  OpenClaim.holds_of_wide 7 Tryd.f7 rfl rfl rfl rfl rfl rfl rfl ⟨rfl, rfl, rfl, rfl, rfl⟩ rfl rfl rfl rfl rfl (by kernel_rfl) Tryd.func7 jf
    (of_decide_eq_true (by kernel_rfl)) (by unfold Func.isWrapper; first | (rw [if_pos (by decide +kernel)]; kernel_rfl) | (rw [if_neg (by decide +kernel)]; exact ⟨rfl, rfl⟩))
    (fun os started H enc _ => lifted os started H enc)

end Go.Proofs.YtpdfliocldhblaaDoor.formulaIgnoresBrackets
