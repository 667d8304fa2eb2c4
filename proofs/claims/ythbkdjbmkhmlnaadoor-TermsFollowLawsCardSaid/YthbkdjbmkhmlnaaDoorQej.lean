/- For all three formulas, * is a + b + a:b, * and : are commutative and associative, : distributes over +, and a / b with a variable a is a + a:b, up to the order of terms: the law TermsFollowLaws answers true. -/
import Derived.Test.YthbkdjbmkhmlnaaDoorRows
import Derived.SevenTiedAt
import Derived.WalkKit
import Derived.ProofKit
import Derived.OpenShut
import Derived.ShutString
import Derived.ChangeOld
import Derived.Below
namespace Go.Proofs.YthbkdjbmkhmlnaaDoor.termsFollowLaws
open Go.ChangeShapes Go.WideShapes Go.ChangeAt Go.RowKit
open Go.ChangeMaps (open_string shut_string)
set_option linter.unusedVariables false

set_option maxHeartbeats 40000000 in
theorem jf : joinedFacts Tryd.pinned.checked.prog 6 Tryd.f6 Rows.termsFollowLawsSpec Rows.termsFollowLawsRow = true := by
  simp only [joinedFacts, Bool.and_eq_true]
  repeat' apply And.intro
  all_goals (as_aux_lemma => kernel_rfl)

end Go.Proofs.YthbkdjbmkhmlnaaDoor.termsFollowLaws
