/- For every formula, Expand returns the specified model and error: the law TermsExpand answers true. -/
import Derived.Test.YthbkdjbmkhmlnaaDoorRows
import Derived.Test.YthbkdjbmkhmlnaaDoorCards
import Derived.Test.YthbkdjbmkhmlnaaDoorTie
import Derived.Test.YthbkdjbmkhmlnaaDoorQdj
import Derived.Test.YthbkdjbmkhmlnaaDoorQdl
import Derived.SevenTiedAt
import Derived.WalkKit
import Derived.ProofKit
import Derived.OpenShut
import Derived.ShutString
import Derived.ChangeOld
import Derived.Below
namespace Go.Proofs.YthbkdjbmkhmlnaaDoor.termsExpand
open Go.ChangeShapes Go.WideShapes Go.ChangeAt Go.RowKit
open Go.ChangeMaps (open_string shut_string)
set_option linter.unusedVariables false

theorem over : Rows.termsExpandRow.holds Tryd.pinned (OpenSpec.ofChange Rows.termsExpandSpec) :=
  OpenClaim.holds_of_wide 3 Tryd.f3 rfl rfl rfl rfl rfl rfl rfl ⟨rfl, rfl, rfl, rfl, rfl⟩ rfl rfl rfl rfl rfl (by kernel_rfl) Tryd.func3 jf
    (of_decide_eq_true (by kernel_rfl)) (by unfold Func.isWrapper; first | (rw [if_pos (by decide +kernel)]; kernel_rfl) | (rw [if_neg (by decide +kernel)]; exact ⟨rfl, rfl⟩))
    (fun os started H enc _ => lifted os started H enc)

end Go.Proofs.YthbkdjbmkhmlnaaDoor.termsExpand
