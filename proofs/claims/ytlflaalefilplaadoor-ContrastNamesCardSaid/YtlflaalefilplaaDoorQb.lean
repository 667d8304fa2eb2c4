/- For every coding and every list of levels, ContrastNames answers true: Names returns the specified names and error, one for each column, for at most 40 levels of at most 100 bytes. -/
import Derived.Test.YtlflaalefilplaaDoorRows
import Derived.Test.YtlflaalefilplaaDoorCards
import Derived.Test.YtlflaalefilplaaDoorTie
import Derived.Test.YtlflaalefilplaaDoorQbo
import Derived.Test.YtlflaalefilplaaDoorQbp
import Derived.SevenTiedAt
import Derived.WalkKit
import Derived.ProofKit
import Derived.OpenShut
import Derived.ShutString
import Derived.ChangeOld
import Derived.Below
namespace Go.Proofs.YtlflaalefilplaaDoor.contrastNames
open Go.ChangeShapes Go.WideShapes Go.ChangeAt Go.RowKit
open Go.ChangeMaps (open_string shut_string)
set_option linter.unusedVariables false

theorem proved : Rows.ContrastNamesCardSaid :=
  Claim7.holds_tied_plain_at .later [] [.data, .data, .data] true (true, "87cc4412cefe70c351e15c8e2f7fa20001094de2565ed965152d12c7d792f2a1") false
    over (fun _ h => by cases h) hw (fun _ h => by cases h) contrastNames_row_tie rfl ⟨rfl, rfl⟩ hm rfl
    (fun f fn hf hfn => by
      obtain rfl : f = 4 := Option.some.inj ((show Tryd.prog.funcNamed Rows.contrastNamesRow.func = some 4 by kernel_rfl).symm.trans hf) |>.symm
      obtain rfl : fn = Tryd.f4 := (Option.some.inj (Tryd.func4.symm.trans hfn)).symm
      exact ⟨hlk, fun j t ht => by
        rw [Tryd.params4] at ht
        have hm : t ∈ [3, 29] := by simpa using Array.mem_of_getElem? ht
        have hall : ([3, 29].all fun u => !Tryd.prog.wantsStandIn u) = true := by kernel_rfl
        exact (show Tryd.prog.wantsStandIn t = false by simpa using List.all_eq_true.1 hall t hm)⟩)
    hg
#print axioms proved
end Go.Proofs.YtlflaalefilplaaDoor.contrastNames
