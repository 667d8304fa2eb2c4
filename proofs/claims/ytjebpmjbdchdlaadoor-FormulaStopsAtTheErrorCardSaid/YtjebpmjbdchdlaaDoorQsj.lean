/- For every text, FormulaStopsAtTheError answers true: the text ahead of the place of a syntax or range error has its own first error, if it has one, at its end. -/
import Derived.Test.YtjebpmjbdchdlaaDoorRows
import Derived.SevenTiedAt
import Derived.WalkKit
import Derived.ProofKit
import Derived.OpenShut
import Derived.ShutString
import Derived.ChangeOld
import Derived.Below
namespace Go.Proofs.YtjebpmjbdchdlaaDoor.formulaStopsAtTheError
open Go.ChangeShapes Go.WideShapes Go.ChangeAt Go.RowKit
open Go.ChangeMaps (open_string shut_string)
set_option linter.unusedVariables false

set_option maxHeartbeats 40000000 in
theorem jf : joinedFacts Tryd.pinned.checked.prog 3 Tryd.f3 Rows.formulaStopsAtTheErrorSpec Rows.formulaStopsAtTheErrorRow = true := by
  simp only [joinedFacts, Bool.and_eq_true]
  repeat' apply And.intro
  all_goals (as_aux_lemma => kernel_rfl)

end Go.Proofs.YtjebpmjbdchdlaaDoor.formulaStopsAtTheError
