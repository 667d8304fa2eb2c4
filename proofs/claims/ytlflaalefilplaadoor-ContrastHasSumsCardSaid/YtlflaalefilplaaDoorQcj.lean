/- For every number of levels and every choice, ContrastHasSums answers true: the columns of SumToZero and Helmert have the sum 0, those of Helmert are orthogonal, and each row of Indicator has the sum 1. -/
import Derived.Test.YtlflaalefilplaaDoorRows
import Derived.SevenTiedAt
import Derived.WalkKit
import Derived.ProofKit
import Derived.OpenShut
import Derived.ShutString
import Derived.ChangeOld
import Derived.Below
namespace Go.Proofs.YtlflaalefilplaaDoor.contrastHasSums
open Go.ChangeShapes Go.WideShapes Go.ChangeAt Go.RowKit
open Go.ChangeMaps (open_string shut_string)
set_option linter.unusedVariables false

set_option maxHeartbeats 40000000 in
theorem jf : joinedFacts Tryd.pinned.checked.prog 6 Tryd.f6 Rows.contrastHasSumsSpec Rows.contrastHasSumsRow = true := by
  simp only [joinedFacts, Bool.and_eq_true]
  repeat' apply And.intro
  all_goals (as_aux_lemma => kernel_rfl)

end Go.Proofs.YtlflaalefilplaaDoor.contrastHasSums
