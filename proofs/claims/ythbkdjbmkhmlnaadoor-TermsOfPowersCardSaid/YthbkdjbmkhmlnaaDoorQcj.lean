/- For every n and k, Expand of (v1 + .. + vn) ^ k has all products of at most k of n different variables, at most 6 of them, or the error is the limit's: the law TermsOfPowers answers true. -/
import Derived.Test.YthbkdjbmkhmlnaaDoorRows
import Derived.SevenTiedAt
import Derived.WalkKit
import Derived.ProofKit
import Derived.OpenShut
import Derived.ShutString
import Derived.ChangeOld
import Derived.Below
namespace Go.Proofs.YthbkdjbmkhmlnaaDoor.termsOfPowers
open Go.ChangeShapes Go.WideShapes Go.ChangeAt Go.RowKit
open Go.ChangeMaps (open_string shut_string)
set_option linter.unusedVariables false

set_option maxHeartbeats 40000000 in
theorem jf : joinedFacts Tryd.pinned.checked.prog 8 Tryd.f8 Rows.termsOfPowersSpec Rows.termsOfPowersRow = true := by
  simp only [joinedFacts, Bool.and_eq_true]
  repeat' apply And.intro
  all_goals (as_aux_lemma => kernel_rfl)

end Go.Proofs.YthbkdjbmkhmlnaaDoor.termsOfPowers
