/- For every formula, Expand returns the specified model and error: the law TermsExpand answers true. -/
import Derived.Test.YthbkdjbmkhmlnaaDoorRows
import Derived.SevenTiedAt
import Derived.WalkKit
import Derived.ProofKit
import Derived.OpenShut
import Derived.ShutString
import Derived.ChangeOld
import Derived.Below
namespace Go.Proofs.YthbkdjbmkhmlnaaDoor.termsExpand
open Go.ChangeShapes Go.WideShapes Go.ChangeAt Go.RowKit
open Go.ChangeMaps (open_string shut_string)
set_option linter.unusedVariables false

set_option maxHeartbeats 40000000 in
theorem jf : joinedFacts Tryd.pinned.checked.prog 3 Tryd.f3 Rows.termsExpandSpec Rows.termsExpandRow = true := by
  simp only [joinedFacts, Bool.and_eq_true]
  repeat' apply And.intro
  all_goals (as_aux_lemma => kernel_rfl)

end Go.Proofs.YthbkdjbmkhmlnaaDoor.termsExpand
