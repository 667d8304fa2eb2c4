/- For every coding and every number of levels, ContrastCodes answers true: Matrix returns the specified matrix and error. -/
import Derived.Test.YtlflaalefilplaaDoorRows
import Derived.Test.YtlflaalefilplaaDoorCards
import Derived.Test.YtlflaalefilplaaDoorTie
import Derived.Test.YtlflaalefilplaaDoorQao
import Derived.Test.YtlflaalefilplaaDoorQap
import Derived.SevenTiedAt
import Derived.WalkKit
import Derived.ProofKit
import Derived.OpenShut
import Derived.ShutString
import Derived.ChangeOld
import Derived.Below
namespace Go.Proofs.YtlflaalefilplaaDoor.contrastCodes
open Go.ChangeShapes Go.WideShapes Go.ChangeAt Go.RowKit
open Go.ChangeMaps (open_string shut_string)
set_option linter.unusedVariables false

theorem proved : Rows.ContrastCodesCardSaid :=
  Claim7.holds_tied_plain_at .later [] [.data, .data, .data] true (true, "87cc4412cefe70c351e15c8e2f7fa20001094de2565ed965152d12c7d792f2a1") false
    over (fun _ h => by cases h) hw (fun _ h => by cases h) contrastCodes_row_tie rfl ⟨rfl, rfl⟩ hm rfl
    (fun f fn hf hfn => by
      obtain rfl : f = 3 := Option.some.inj ((show Tryd.prog.funcNamed Rows.contrastCodesRow.func = some 3 by kernel_rfl).symm.trans hf) |>.symm
      obtain rfl : fn = Tryd.f3 := (Option.some.inj (Tryd.func3.symm.trans hfn)).symm
      exact ⟨hlk, fun j t ht => by
        rw [Tryd.params3] at ht
        have hm : t ∈ [3, 3] := by simpa using Array.mem_of_getElem? ht
        have hall : ([3, 3].all fun u => !Tryd.prog.wantsStandIn u) = true := by kernel_rfl
        exact (show Tryd.prog.wantsStandIn t = false by simpa using List.all_eq_true.1 hall t hm)⟩)
    hg
#print axioms proved
end Go.Proofs.YtlflaalefilplaaDoor.contrastCodes
