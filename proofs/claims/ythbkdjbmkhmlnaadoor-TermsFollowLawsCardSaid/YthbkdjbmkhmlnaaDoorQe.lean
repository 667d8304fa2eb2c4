/- For all three formulas, * is a + b + a:b, * and : are commutative and associative, : distributes over +, and a / b with a variable a is a + a:b, up to the order of terms: the law TermsFollowLaws answers true. -/
import Derived.Test.YthbkdjbmkhmlnaaDoorRows
import Derived.Test.YthbkdjbmkhmlnaaDoorCards
import Derived.Test.YthbkdjbmkhmlnaaDoorTie
import Derived.Test.YthbkdjbmkhmlnaaDoorQeo
import Derived.Test.YthbkdjbmkhmlnaaDoorQep
import Derived.SevenTiedAt
import Derived.WalkKit
import Derived.ProofKit
import Derived.OpenShut
import Derived.ShutString
import Derived.ChangeOld
import Derived.Below
namespace Go.Proofs.YthbkdjbmkhmlnaaDoor.termsFollowLaws
open Go.ChangeShapes Go.WideShapes Go.ChangeAt Go.RowKit
open Go.ChangeMaps (open_string shut_string)
set_option linter.unusedVariables false

theorem proved : Rows.TermsFollowLawsCardSaid :=
  Claim7.holds_tied_plain_at .later [] [.data] true (true, "7b3db29b1448cc81fd1c8a241304bd182006d81564124ea5f0cd21708e84a4ba") false
    over (fun _ h => by cases h) hw (fun _ h => by cases h) termsFollowLaws_row_tie rfl ⟨rfl, rfl⟩ hm rfl
    (fun f fn hf hfn => by
      obtain rfl : f = 6 := Option.some.inj ((show Tryd.prog.funcNamed Rows.termsFollowLawsRow.func = some 6 by kernel_rfl).symm.trans hf) |>.symm
      obtain rfl : fn = Tryd.f6 := (Option.some.inj (Tryd.func6.symm.trans hfn)).symm
      exact ⟨hlk, fun j t ht => by
        rw [Tryd.params6] at ht
        have hm : t ∈ [24, 24, 24] := by simpa using Array.mem_of_getElem? ht
        have hall : ([24, 24, 24].all fun u => !Tryd.prog.wantsStandIn u) = true := by kernel_rfl
        exact (show Tryd.prog.wantsStandIn t = false by simpa using List.all_eq_true.1 hall t hm)⟩)
    hg
#print axioms proved
end Go.Proofs.YthbkdjbmkhmlnaaDoor.termsFollowLaws
