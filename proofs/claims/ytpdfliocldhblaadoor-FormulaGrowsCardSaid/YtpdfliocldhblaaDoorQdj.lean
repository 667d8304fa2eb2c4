/- Two light valid right sides, joined by an operation with two operands, are valid just where they have not too many nodes. -/
import Derived.Test.YtpdfliocldhblaaDoorRows
import Derived.SevenTiedAt
import Derived.WalkKit
import Derived.ProofKit
import Derived.OpenShut
import Derived.ShutString
import Derived.ChangeOld
import Derived.Below
namespace Go.Proofs.YtpdfliocldhblaaDoor.formulaGrows
open Go.ChangeShapes Go.WideShapes Go.ChangeAt Go.RowKit
open Go.ChangeMaps (open_string shut_string)
set_option linter.unusedVariables false

set_option maxHeartbeats 40000000 in
theorem jf : joinedFacts Tryd.pinned.checked.prog 9 Tryd.f9 Rows.formulaGrowsSpec Rows.formulaGrowsRow = true := by
  simp only [joinedFacts, Bool.and_eq_true]
  repeat' apply And.intro
  all_goals (as_aux_lemma => kernel_rfl)

end Go.Proofs.YtpdfliocldhblaaDoor.formulaGrows
