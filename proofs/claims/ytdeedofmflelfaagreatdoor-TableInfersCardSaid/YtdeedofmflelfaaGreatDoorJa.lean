/- The contracts of integer in the form that the laws use. -/
import Derived.Test.YtdeedofmflelfaaGreatDoorQIjz
import Derived.Test.YtdeedofmflelfaaGreatDoorQIgz
import Derived.Test.YtdeedofmflelfaaGreatDoorQIlz
import Derived.Test.YtdeedofmflelfaaGreatDoorIp
import Derived.Test.YtdeedofmflelfaaGreatDoorIq
import Derived.Test.YtdeedofmflelfaaGreatDoorQIrz
namespace Go.Proofs.YtdeedofmflelfaaGreatDoor
open Go.RowKit
/-- The same, with a bound of its size. -/
abbrev RetB (z:Int) (p:Nat) (w:World) (e:Ending) (w':World):Prop:=∃ A n c,e=.returned (.agg #[.bool (ng z),.slice A n c])∧Rd w' A n c (limbs z.natAbs)∧Below w.heap.size w w'∧n≤p
theorem RetI.b {z:Int} {p:Nat} {w:World} {e:Ending} {w':World} (h:RetI z w e w') (hl:(limbs z.natAbs).length≤p):RetB z p w e w':=by
 obtain⟨A,n,c,he,R,B⟩:=h
 exact⟨A,n,c,he,R,B,by have:=R.len;omega⟩
theorem iv_lt {b:Bool} {xs:List Nat} {p:Nat} (hs:Sm xs) (hl:xs.length≤p):(iv b xs).natAbs<4294967296^p:=limbs_len_le.1 (iv_abs hs hl)
end Go.Proofs.YtdeedofmflelfaaGreatDoor
