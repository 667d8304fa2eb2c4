/- For every number of levels and every choice, ContrastHasSums answers true: the columns of SumToZero and Helmert have the sum 0, those of Helmert are orthogonal, and each row of Indicator has the sum 1. -/
import Derived.Test.YtlflaalefilplaaDoorRows
import Derived.Test.YtlflaalefilplaaDoorCards
import Derived.Test.YtlflaalefilplaaDoorTie
import Derived.Test.YtlflaalefilplaaDoorQcj
import Derived.Test.YtlflaalefilplaaDoorQcl
import Derived.SevenTiedAt
import Derived.WalkKit
import Derived.ProofKit
import Derived.OpenShut
import Derived.ShutString
import Derived.ChangeOld
import Derived.Below
namespace Go.Proofs.YtlflaalefilplaaDoor.contrastHasSums
open Go.ChangeShapes Go.WideShapes Go.ChangeAt Go.RowKit
open Go.ChangeMaps (open_string shut_string)
set_option linter.unusedVariables false

theorem over : Rows.contrastHasSumsRow.holds Tryd.pinned (OpenSpec.ofChange Rows.contrastHasSumsSpec) :=
  OpenClaim.holds_of_wide 6 Tryd.f6 rfl rfl rfl rfl rfl rfl rfl ⟨rfl, rfl, rfl, rfl, rfl⟩ rfl rfl rfl rfl rfl (by kernel_rfl) Tryd.func6 jf
    (of_decide_eq_true (by kernel_rfl)) (by unfold Func.isWrapper; first | (rw [if_pos (by decide +kernel)]; kernel_rfl) | (rw [if_neg (by decide +kernel)]; exact ⟨rfl, rfl⟩))
    (fun os started H enc _ => lifted os started H enc)

end Go.Proofs.YtlflaalefilplaaDoor.contrastHasSums
