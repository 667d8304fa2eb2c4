/- The contracts of integer in the form that the laws use. -/
import Derived.Test.YtphckmdnflbloaaGreatQIez
import Derived.Test.YtphckmdnflbloaaGreatIg
import Derived.Test.YtphckmdnflbloaaGreatIh
import Derived.Test.YtphckmdnflbloaaGreatIi
import Derived.Test.YtphckmdnflbloaaGreatIk
import Derived.Test.YtphckmdnflbloaaGreatQIlz
import Derived.Test.YtphckmdnflbloaaGreatIp
import Derived.Test.YtphckmdnflbloaaGreatIq
import Derived.Test.YtphckmdnflbloaaGreatQIrz
namespace Go.Proofs.YtphckmdnflbloaaGreat
open Go.RowKit
/-- The same, with a bound of its size. -/
abbrev RetB (z:Int) (p:Nat) (w:World) (e:Ending) (w':World):Prop:=∃ A n c,e=.returned (.agg #[.bool (ng z),.slice A n c])∧Rd w' A n c (limbs z.natAbs)∧Below w.heap.size w w'∧n≤p
theorem RetI.b {z:Int} {p:Nat} {w:World} {e:Ending} {w':World} (h:RetI z w e w') (hl:(limbs z.natAbs).length≤p):RetB z p w e w':=by
 obtain⟨A,n,c,he,R,B⟩:=h
 exact⟨A,n,c,he,R,B,by have:=R.len;omega⟩
end Go.Proofs.YtphckmdnflbloaaGreat
