/- For every n and k, Expand of (v1 + .. + vn) ^ k has all products of at most k of n different variables, at most 6 of them, or the error is the limit's: the law TermsOfPowers answers true. -/
import Derived.Test.YthbkdjbmkhmlnaaDoorRows
import Derived.Test.YthbkdjbmkhmlnaaDoorCards
import Derived.Test.YthbkdjbmkhmlnaaDoorTie
import Derived.Test.YthbkdjbmkhmlnaaDoorQcj
import Derived.Test.YthbkdjbmkhmlnaaDoorQcl
import Derived.SevenTiedAt
import Derived.WalkKit
import Derived.ProofKit
import Derived.OpenShut
import Derived.ShutString
import Derived.ChangeOld
import Derived.Below
namespace Go.Proofs.YthbkdjbmkhmlnaaDoor.termsOfPowers
open Go.ChangeShapes Go.WideShapes Go.ChangeAt Go.RowKit
open Go.ChangeMaps (open_string shut_string)
set_option linter.unusedVariables false

theorem over : Rows.termsOfPowersRow.holds Tryd.pinned (OpenSpec.ofChange Rows.termsOfPowersSpec) :=
  OpenClaim.holds_of_wide 8 Tryd.f8 rfl rfl rfl rfl rfl rfl rfl ⟨rfl, rfl, rfl, rfl, rfl⟩ rfl rfl rfl rfl rfl (by kernel_rfl) Tryd.func8 jf
    (of_decide_eq_true (by kernel_rfl)) (by unfold Func.isWrapper; first | (rw [if_pos (by decide +kernel)]; kernel_rfl) | (rw [if_neg (by decide +kernel)]; exact ⟨rfl, rfl⟩))
    (fun os started H enc _ => lifted os started H enc)

end Go.Proofs.YthbkdjbmkhmlnaaDoor.termsOfPowers
