/- For every coding and every list of levels, ContrastNames answers true: Names returns the specified names and error, one for each column, for at most 40 levels of at most 100 bytes. -/
import Derived.Test.YtlflaalefilplaaDoorRows
import Derived.Test.YtlflaalefilplaaDoorCards
import Derived.Test.YtlflaalefilplaaDoorTie
import Derived.Test.YtlflaalefilplaaDoorQbj
import Derived.Test.YtlflaalefilplaaDoorQbl
import Derived.SevenTiedAt
import Derived.WalkKit
import Derived.ProofKit
import Derived.OpenShut
import Derived.ShutString
import Derived.ChangeOld
import Derived.Below
namespace Go.Proofs.YtlflaalefilplaaDoor.contrastNames
open Go.ChangeShapes Go.WideShapes Go.ChangeAt Go.RowKit
open Go.ChangeMaps (open_string shut_string)
set_option linter.unusedVariables false

theorem over : Rows.contrastNamesRow.holds Tryd.pinned (OpenSpec.ofChange Rows.contrastNamesSpec) :=
  OpenClaim.holds_of_wide 4 Tryd.f4 rfl rfl rfl rfl rfl rfl rfl ⟨rfl, rfl, rfl, rfl, rfl⟩ rfl rfl rfl rfl rfl (by kernel_rfl) Tryd.func4 jf
    (of_decide_eq_true (by kernel_rfl)) (by unfold Func.isWrapper; first | (rw [if_pos (by decide +kernel)]; kernel_rfl) | (rw [if_neg (by decide +kernel)]; exact ⟨rfl, rfl⟩))
    (fun os started H enc _ => lifted os started H enc)

end Go.Proofs.YtlflaalefilplaaDoor.contrastNames
