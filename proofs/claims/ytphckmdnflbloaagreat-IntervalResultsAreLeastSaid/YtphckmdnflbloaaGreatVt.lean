/- Valid, Make, Width, Mid of both. -/
import Derived.Test.YtphckmdnflbloaaGreatVr
import Derived.Test.YtphckmdnflbloaaGreatQVaz
import Derived.Test.YtphckmdnflbloaaGreatQVfz
namespace Go.Proofs.YtphckmdnflbloaaGreat
open Go.RowKit RQ
set_option maxRecDepth 100000 in
set_option maxHeartbeats 4000000 in
theorem rvalidV_any (b1:Bool) (A1:Option Addr) (n1 c1:Nat) (x1:List Nat) (D1:Option Addr) (m1 d1:Nat) (y1:List Nat) (q1:Rat) (b2:Bool) (A2:Option Addr) (n2 c2:Nat) (x2:List Nat) (D2:Option Addr) (m2 d2:Nat) (y2:List Nat) (q2:Rat) (w:World) (X1:Rw w b1 A1 n1 c1 x1 D1 m1 d1 y1 q1) (X2:Rw w b2 A2 n2 c2 x2 D2 m2 d2 y2 q2):Calls Tryz.prog 34 #[.agg #[.bool b1,.slice A1 n1 c1,.slice D1 m1 d1,.bool b2,.slice A2 n2 c2,.slice D2 m2 d2]] w fun e w'=>e=.returned (.bool ((vldR b1 x1 y1&&vldR b2 x2 y2)&&decide (q1≤q2)))∧Below w.heap.size w w':=by
 have hV1:∀ W,Rw W b1 A1 n1 c1 x1 D1 m1 d1 y1 q1→Calls Tryz.prog 109 #[.agg #[.bool b1,.slice A1 n1 c1,.slice D1 m1 d1]] W fun e w'=>e=.returned (.bool (vldR b1 x1 y1))∧Below W.heap.size W w':=fun W h=>rvalidR_any b1 A1 n1 c1 x1 D1 m1 d1 y1 W h.rn h.rd (by have:=h.k.2.1;omega) (by have:=h.k.2.2;omega)
 have hV2:∀ W,Rw W b2 A2 n2 c2 x2 D2 m2 d2 y2 q2→Calls Tryz.prog 109 #[.agg #[.bool b2,.slice A2 n2 c2,.slice D2 m2 d2]] W fun e w'=>e=.returned (.bool (vldR b2 x2 y2))∧Below W.heap.size W w':=fun W h=>rvalidR_any b2 A2 n2 c2 x2 D2 m2 d2 y2 W h.rn h.rd (by have:=h.k.2.1;omega) (by have:=h.k.2.2;omega)
 have hO:=Lib.hid (fun W h1 h2=>less_any b2 A2 n2 c2 x2 D2 m2 d2 y2 q2 b1 A1 n1 c1 x1 D1 m1 d1 y1 q1 W h1 h2)
 rw[←not_lt_le]
 generalize decide (q2<q1)=uo at *
 generalize hv1:vldR b1 x1 y1=v1 at *
 clear hv1
 generalize hv2:vldR b2 x2 y2=v2 at *
 clear hv2
 have k1:=Lib.hid X1.k
 have k2:=Lib.hid X2.k
 have S:=((((((St.new w).read X1.rn).read X1.rd).read X2.rn).read X2.rd).allocAt (w.heap.size) #[.bool b1,.slice A1 n1 c1,.slice D1 m1 d1,.bool b2,.slice A2 n2 c2,.slice D2 m2 d2] 28 (noL6 _ _ _ _ _ _ _ _ _ _ _ _ _ _) (by simp))
 replace S:=Lib.hid S
 clear X1 X2
 cases v1
 ·replace hV1:=Lib.hid hV1
  go_enter Tryz.func34,Tryz.ntmps34
  go_wp2_with fail
  refine (hV1.out _ (Rw.of (S.out.r 3 rfl) (S.out.r 2 rfl) k1.out)).mono ?_
  rintro e w1 ⟨rfl,bb⟩
  have T:=(S.out.call bb)
  clear bb S
  have S:=T
  clear T
  obtain⟨c_a0,c_a1,c_a2,c_a3,c_a4,c_a5,f_a0,f_a1,f_a2,f_a3,f_a4,f_a5⟩:=S.cf6 0 rfl
  have hz:w.heap.size<w1.heap.size:=S.lt 0 rfl
  replace S:=Lib.hid S
  clear hV1
  have S:=S.out
  replace S:=Lib.hid S
  go_wp2
  go_ret
  exact⟨rfl,S.out.bel⟩
 cases v2
 ·replace hV1:=Lib.hid hV1
  replace hV2:=Lib.hid hV2
  rw[Bool.true_and,Bool.false_and]
  go_enter Tryz.func34,Tryz.ntmps34
  go_wp2_with fail
  refine (hV1.out _ (Rw.of (S.out.r 3 rfl) (S.out.r 2 rfl) k1.out)).mono ?_
  rintro e w1 ⟨rfl,bb⟩
  have T:=(S.out.call bb)
  clear bb S
  have S:=T
  clear T
  obtain⟨c_a0,c_a1,c_a2,c_a3,c_a4,c_a5,f_a0,f_a1,f_a2,f_a3,f_a4,f_a5⟩:=S.cf6 0 rfl
  have hz:w.heap.size<w1.heap.size:=S.lt 0 rfl
  replace S:=Lib.hid S
  clear hV1
  go_wp2_with fail
  refine (hV2.out _ (Rw.of (S.out.r 1 rfl) (S.out.r 0 rfl) k2.out)).mono ?_
  rintro e w2 ⟨rfl,bb⟩
  have T:=(S.out.call bb)
  clear bb S c_a0 f_a0 c_a1 f_a1 c_a2 f_a2 c_a3 f_a3 c_a4 f_a4 c_a5 f_a5 hz
  have S:=T
  clear T
  obtain⟨c_a0,c_a1,c_a2,c_a3,c_a4,c_a5,f_a0,f_a1,f_a2,f_a3,f_a4,f_a5⟩:=S.cf6 0 rfl
  have hz:w.heap.size<w2.heap.size:=S.lt 0 rfl
  replace S:=Lib.hid S
  clear hV2
  have S:=S.out
  replace S:=Lib.hid S
  go_wp2
  go_ret
  exact⟨rfl,S.out.bel⟩
 ·replace hV1:=Lib.hid hV1
  replace hV2:=Lib.hid hV2
  rw[Bool.true_and,Bool.true_and]
  go_enter Tryz.func34,Tryz.ntmps34
  go_wp2_with fail
  refine (hV1.out _ (Rw.of (S.out.r 3 rfl) (S.out.r 2 rfl) k1.out)).mono ?_
  rintro e w1 ⟨rfl,bb⟩
  have T:=(S.out.call bb)
  clear bb S
  have S:=T
  clear T
  obtain⟨c_a0,c_a1,c_a2,c_a3,c_a4,c_a5,f_a0,f_a1,f_a2,f_a3,f_a4,f_a5⟩:=S.cf6 0 rfl
  have hz:w.heap.size<w1.heap.size:=S.lt 0 rfl
  replace S:=Lib.hid S
  clear hV1
  go_wp2_with fail
  refine (hV2.out _ (Rw.of (S.out.r 1 rfl) (S.out.r 0 rfl) k2.out)).mono ?_
  rintro e w2 ⟨rfl,bb⟩
  have T:=(S.out.call bb)
  clear bb S c_a0 f_a0 c_a1 f_a1 c_a2 f_a2 c_a3 f_a3 c_a4 f_a4 c_a5 f_a5 hz
  have S:=T
  clear T
  obtain⟨c_a0,c_a1,c_a2,c_a3,c_a4,c_a5,f_a0,f_a1,f_a2,f_a3,f_a4,f_a5⟩:=S.cf6 0 rfl
  have hz:w.heap.size<w2.heap.size:=S.lt 0 rfl
  replace S:=Lib.hid S
  clear hV2
  go_wp2_with fail
  refine (hO.out _ (Rw.of (S.out.r 1 rfl) (S.out.r 0 rfl) k2.out) (Rw.of (S.out.r 3 rfl) (S.out.r 2 rfl) k1.out)).mono ?_
  rintro e w3 ⟨rfl,bb⟩
  have T:=(S.out.call bb)
  clear bb S c_a0 f_a0 c_a1 f_a1 c_a2 f_a2 c_a3 f_a3 c_a4 f_a4 c_a5 f_a5 hz
  have S:=T
  clear T
  obtain⟨c_a0,c_a1,c_a2,c_a3,c_a4,c_a5,f_a0,f_a1,f_a2,f_a3,f_a4,f_a5⟩:=S.cf6 0 rfl
  have hz:w.heap.size<w3.heap.size:=S.lt 0 rfl
  replace S:=Lib.hid S
  clear hO
  have S:=S.out
  replace S:=Lib.hid S
  go_wp2
  go_ret
  exact⟨rfl,S.out.bel⟩
end Go.Proofs.YtphckmdnflbloaaGreat
