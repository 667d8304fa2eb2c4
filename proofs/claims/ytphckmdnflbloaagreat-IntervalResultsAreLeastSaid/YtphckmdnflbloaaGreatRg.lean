/- isOdd, powerOfTen and divideToNearest of rational. -/
import Derived.Test.YtphckmdnflbloaaGreatRe
import Derived.Test.YtphckmdnflbloaaGreatQIlz
import Derived.Test.YtphckmdnflbloaaGreatIh
import Derived.Test.YtphckmdnflbloaaGreatSi
import Derived.Lib.BitFns
namespace Go.Proofs.YtphckmdnflbloaaGreat
open Go.RowKit RQ
theorem ngN (N:Nat):ng (N:Int)=false:=decide_eq_false (by omega)
/-- What a function that returns one number without a sign leaves. -/
def RetU (N:Nat) (w:World) (e:Ending) (w':World):Prop:=∃ A n c,e=.returned (.agg #[.bool false,.slice A n c])∧Rd w' A n c (limbs N)∧Below w.heap.size w w'
theorem RetI.u {N:Nat} {w:World} {e:Ending} {w':World} (h:RetI (N:Int) w e w'):RetU N w e w':=by
 obtain⟨A,n,c,he,R,B⟩:=h
 rw[ngN] at he
 rw[Int.natAbs_natCast] at R
 exact⟨A,n,c,he,R,B⟩
theorem RetU.i {N:Nat} {w:World} {e:Ending} {w':World} (h:RetU N w e w'):RetI (N:Int) w e w':=by
 obtain⟨A,n,c,he,R,B⟩:=h
 refine⟨A,n,c,by rw[ngN];exact he,by rw[Int.natAbs_natCast];exact R,B⟩
end Go.Proofs.YtphckmdnflbloaaGreat
