/- The reference's hull at rows; its Square, Add, Sub. -/
import Derived.Test.YtphckmdnflbloaaGreatQVyz
import Derived.Test.YtphckmdnflbloaaGreatQVpz
namespace Go.Proofs.YtphckmdnflbloaaGreat
open Go.RowKit RQ
theorem rhull4 (b1:Bool) (A1:Option Addr) (n1 c1:Nat) (x1:List Nat) (D1:Option Addr) (m1 d1:Nat) (y1:List Nat) (q1:Rat) (b2:Bool) (A2:Option Addr) (n2 c2:Nat) (x2:List Nat) (D2:Option Addr) (m2 d2:Nat) (y2:List Nat) (q2:Rat) (b3:Bool) (A3:Option Addr) (n3 c3:Nat) (x3:List Nat) (D3:Option Addr) (m3 d3:Nat) (y3:List Nat) (q3:Rat) (b4:Bool) (A4:Option Addr) (n4 c4:Nat) (x4:List Nat) (D4:Option Addr) (m4 d4:Nat) (y4:List Nat) (q4:Rat) (W:World) (g t:Nat) (h:Cb W g #[.bool b1,.slice A1 n1 c1,.slice D1 m1 d1,.bool b2,.slice A2 n2 c2,.slice D2 m2 d2,.bool b3,.slice A3 n3 c3,.slice D3 m3 d3,.bool b4,.slice A4 n4 c4,.slice D4 m4 d4] t) (X1:Rw W b1 A1 n1 c1 x1 D1 m1 d1 y1 q1) (X2:Rw W b2 A2 n2 c2 x2 D2 m2 d2 y2 q2) (X3:Rw W b3 A3 n3 c3 x3 D3 m3 d3 y3 q3) (X4:Rw W b4 A4 n4 c4 x4 D4 m4 d4 y4 q4):Calls Tryz.prog 83 #[.slice (some ⟨g,0,none⟩) 4 4] W (RetV (minL [q1,q2,q3,q4]) (maxL [q1,q2,q3,q4]) W):=
 have hL:=lt4 b1 A1 n1 c1 x1 D1 m1 d1 y1 q1 b2 A2 n2 c2 x2 D2 m2 d2 y2 q2 b3 A3 n3 c3 x3 D3 m3 d3 y3 q3 b4 A4 n4 c4 x4 D4 m4 d4 y4 q4 W g t h X1 X2 X3 X4
 rhull_any [⟨b1,A1,n1,c1,x1,D1,m1,d1,y1,q1⟩,⟨b2,A2,n2,c2,x2,D2,m2,d2,y2,q2⟩,⟨b3,A3,n3,c3,x3,D3,m3,d3,y3,q3⟩,⟨b4,A4,n4,c4,x4,D4,m4,d4,y4,q4⟩] g W hL (by simp) (by simp) (fun r hr=>(hL.at_ r hr).rs)
end Go.Proofs.YtphckmdnflbloaaGreat
