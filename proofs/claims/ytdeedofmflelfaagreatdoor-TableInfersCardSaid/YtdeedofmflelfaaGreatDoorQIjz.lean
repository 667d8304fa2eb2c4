/- Contracts of Gcd. Contracts of opposite and Neg. Contracts of Sign. -/
import Derived.Test.YtdeedofmflelfaaGreatDoorQIaz
import Derived.Test.YtdeedofmflelfaaGreatDoorQWqz
import Derived.Test.YtdeedofmflelfaaGreatDoorQWzz
namespace Go.Proofs.YtdeedofmflelfaaGreatDoor
open Go.RowKit
theorem run_mag (W:World) (x:Bool) (A:Option Addr) (n c:Nat):(Instr.field 44 (.agg #[.bool x,.slice A n c]) 1).run Tryz.prog W=.ok (.slice A n c) W:=by kernel_rfl
set_option maxHeartbeats 8000000 in
theorem gcdI_any (b:Bool) (A:Option Addr) (n c:Nat) (xs:List Nat) (b':Bool) (A':Option Addr) (n' c':Nat) (ys:List Nat) (w:World) (h1:Rd w A n c xs) (h2:Rd w A' n' c' ys) (hn:n≤500) (hn':n'≤500) :
  Calls Tryz.prog 202 #[.agg #[.bool b,.slice A n c],.agg #[.bool b',.slice A' n' c']] w (RetN (Int.gcd (iv b xs) (iv b' ys)) w):=by
 have hk1:=fun W (h:Rd W A n c xs)=>knownI_any b A n c xs W h (by omega)
 have hk2:=fun W (h:Rd W A' n' c' ys)=>knownI_any b' A' n' c' ys W h (by omega)
 have l1:=iv_abs (b:=b) h1.sm (Nat.le_of_eq h1.len)
 have l2:=iv_abs (b:=b') h2.sm (Nat.le_of_eq h2.len)
 generalize iv b xs=z1 at *
 generalize iv b' ys=z2 at *
 replace hk1:=Lib.hid hk1
 replace hk2:=Lib.hid hk2
 replace l1:=Lib.hid l1
 replace l2:=Lib.hid l2
 have X:=B2.new w b A n c b' A' n' c'
 have R1:=h1.below X.bel
 have R2:=h2.below X.bel
 clear h1 h2
 go_enter Tryz.func202,Tryz.ntmps202
 go_upto_region 1 with fail
 generalize (w.alloc (.cells #[.bool b,.slice A n c] 44)).alloc (.cells #[.bool b',.slice A' n' c'] 44)=W0 at X R1 R2 ⊢
 obtain⟨a0,a1,a2,a3⟩:=X.x1.at_
 obtain⟨d0,d1,d2,d3⟩:=X.x2.at_
 have XD:=Lib.hid X.drew
 have RD1:=Lib.hid (Rd.drew1 R1)
 have RD2:=Lib.hid (Rd.drew1 R2)
 clear X R1 R2
 have hmag:=run_mag
 go_region_held3 (fun w'=>w'.cell? ⟨w.heap.size,0,none⟩=some (.bool b)∧w'.cell? ⟨w.heap.size,1,none⟩=some (.slice A n c)∧w'.cell? ⟨w.heap.size+1,0,none⟩=some (.bool b')∧w'.cell? ⟨w.heap.size+1,1,none⟩=some (.slice A' n' c'))
  (first | exact⟨a0,a1,d0,d1⟩ | exact⟨f0,f1,k0,k1⟩ | exact⟨p0,p1,q0,q1⟩ | exact⟨r0,r1,t0,t1⟩)
  (first
   | (go_at_call_of 196 (Value.agg #[.bool b,.slice A n c]);refine (hk1.out _ (by exact RD1.out)).mono ?_;rintro e w1 ⟨A1,n1,c1,rfl,Q1,B1⟩;have X1:=XD.out.on B1;have R2':=RD2.out.below B1;obtain⟨f0,f1,_⟩:=X1.x1.at_;obtain⟨k0,k1,_⟩:=X1.x2.at_)
   | (go_at_call_of 196 (Value.agg #[.bool b',.slice A' n' c']);refine (hk2.out _ (by exact R2')).mono ?_;rintro e w2 ⟨A2,n2,c2,rfl,Q2,B2⟩;have X2:=X1.on B2;have Q1':=Q1.below B2;obtain⟨p0,p1,_⟩:=X2.x1.at_;obtain⟨q0,q1,_⟩:=X2.x2.at_)
   | (go_at_call 220;refine (gcd_any _ _ _ (limbs z1.natAbs) _ _ _ (limbs z2.natAbs) _ (by exact Q1') (by exact Q2) (by have:=l1.out;have:=Q1.len;omega) (by have:=l2.out;have:=Q2.len;omega)).mono ?_;rw[num_limbs,num_limbs];rintro e w3 ⟨A3,n3,c3,rfl,Q3,B3⟩;have X3:=X2.on B3;obtain⟨r0,r1,_⟩:=X3.x1.at_;obtain⟨t0,t1,_⟩:=X3.x2.at_))
 all_goals
  have Q5:=Lib.hid Q3
  have B5:=Lib.hid X3.bel
  clear r0 r1 t0 t1 p0 p1 q0 q1 f0 f1 k0 k1 Q3 X3 X2 X1 Q1 Q2 Q1' B1 B2 B3 R2' a0 a1 a2 a3 d0 d1 d2 d3
  go_wp2
  go_ret
  exact⟨_,_,_,rfl,Q5.out,B5.out⟩
set_option maxHeartbeats 8000000 in
theorem rgcdI_any (b:Bool) (A:Option Addr) (n c:Nat) (xs:List Nat) (b':Bool) (A':Option Addr) (n' c':Nat) (ys:List Nat) (w:World) (h1:Rd w A n c xs) (h2:Rd w A' n' c' ys) (hn:n≤500) (hn':n'≤500) :
  Calls Tryz.prog 110 #[.agg #[.bool b,.slice A n c],.agg #[.bool b',.slice A' n' c']] w (RetN (Int.gcd (iv b xs) (iv b' ys)) w):=by
 have hk1:=fun W (h:Rd W A n c xs)=>takeI_any b A n c xs W h (by omega)
 have hk2:=fun W (h:Rd W A' n' c' ys)=>takeI_any b' A' n' c' ys W h (by omega)
 have l1:=iv_abs (b:=b) h1.sm (Nat.le_of_eq h1.len)
 have l2:=iv_abs (b:=b') h2.sm (Nat.le_of_eq h2.len)
 generalize iv b xs=z1 at *
 generalize iv b' ys=z2 at *
 replace hk1:=Lib.hid hk1
 replace hk2:=Lib.hid hk2
 replace l1:=Lib.hid l1
 replace l2:=Lib.hid l2
 have X:=B2.new w b A n c b' A' n' c'
 have R1:=h1.below X.bel
 have R2:=h2.below X.bel
 clear h1 h2
 go_enter Tryz.func110,Tryz.ntmps110
 go_upto_region 1 with fail
 generalize (w.alloc (.cells #[.bool b,.slice A n c] 44)).alloc (.cells #[.bool b',.slice A' n' c'] 44)=W0 at X R1 R2 ⊢
 obtain⟨a0,a1,a2,a3⟩:=X.x1.at_
 obtain⟨d0,d1,d2,d3⟩:=X.x2.at_
 have XD:=Lib.hid X.drew
 have RD1:=Lib.hid (Rd.drew1 R1)
 have RD2:=Lib.hid (Rd.drew1 R2)
 clear X R1 R2
 have hmag:=run_mag
 go_region_held3 (fun w'=>w'.cell? ⟨w.heap.size,0,none⟩=some (.bool b)∧w'.cell? ⟨w.heap.size,1,none⟩=some (.slice A n c)∧w'.cell? ⟨w.heap.size+1,0,none⟩=some (.bool b')∧w'.cell? ⟨w.heap.size+1,1,none⟩=some (.slice A' n' c'))
  (first | exact⟨a0,a1,d0,d1⟩ | exact⟨f0,f1,k0,k1⟩ | exact⟨p0,p1,q0,q1⟩ | exact⟨r0,r1,t0,t1⟩)
  (first
   | (go_at_call_of 107 (Value.agg #[.bool b,.slice A n c]);refine (hk1.out _ (by exact RD1.out)).mono ?_;rintro e w1 ⟨A1,n1,c1,rfl,Q1,B1⟩;have X1:=XD.out.on B1;have R2':=RD2.out.below B1;obtain⟨f0,f1,_⟩:=X1.x1.at_;obtain⟨k0,k1,_⟩:=X1.x2.at_)
   | (go_at_call_of 107 (Value.agg #[.bool b',.slice A' n' c']);refine (hk2.out _ (by exact R2')).mono ?_;rintro e w2 ⟨A2,n2,c2,rfl,Q2,B2⟩;have X2:=X1.on B2;have Q1':=Q1.below B2;obtain⟨p0,p1,_⟩:=X2.x1.at_;obtain⟨q0,q1,_⟩:=X2.x2.at_)
   | (go_at_call 147;refine (rgcd_any _ _ _ (limbs z1.natAbs) _ _ _ (limbs z2.natAbs) _ (by exact Q1') (by exact Q2) (by have:=l1.out;have:=Q1.len;omega) (by have:=l2.out;have:=Q2.len;omega)).mono ?_;rw[num_limbs,num_limbs];rintro e w3 ⟨A3,n3,c3,rfl,Q3,B3⟩;have X3:=X2.on B3;obtain⟨r0,r1,_⟩:=X3.x1.at_;obtain⟨t0,t1,_⟩:=X3.x2.at_))
 all_goals
  have Q5:=Lib.hid Q3
  have B5:=Lib.hid X3.bel
  clear r0 r1 t0 t1 p0 p1 q0 q1 f0 f1 k0 k1 Q3 X3 X2 X1 Q1 Q2 Q1' B1 B2 B3 R2' a0 a1 a2 a3 d0 d1 d2 d3
  go_wp2
  go_ret
  exact⟨_,_,_,rfl,Q5.out,B5.out⟩
end Go.Proofs.YtdeedofmflelfaaGreatDoor

namespace Go.Proofs.YtdeedofmflelfaaGreatDoor
open Go.RowKit
theorem sg_not (z:Int):sg (!ng z) z.natAbs = -z:=by
 have h:=sg_ng z
 generalize z.natAbs=a at *
 generalize ng z=p at *
 subst h
 cases p<;>simp[sg]
theorem res_opp (W:World) (tmps:Array Value) (g:Nat) {b:Bool} {A:Option Addr} {n c:Nat} (ht:tmps.getD 2 undef=.pointer (some ⟨g,0,none⟩)) (h:Bx W g b A n c) :
  (results Tryz.f166 tmps).run Tryz.prog W=.ok (.agg #[.bool b,.slice A n c]) W:=by
 obtain⟨c0,c1,_⟩:=h.at_
 have ht':tmps[2]?.getD undef=.pointer (some ⟨g,0,none⟩):=by rw[←ht];simp[Array.getD_eq_getD_getElem?]
 simp[results,Tryz.results166,go_sem,ht',c0,c1]
set_option maxHeartbeats 4000000 in
theorem oppI_any (b:Bool) (A:Option Addr) (n c:Nat) (xs:List Nat) (w:World) (h:Rd w A n c xs) (hn:n≤1000) :
  Calls Tryz.prog 166 #[.agg #[.bool b,.slice A n c]] w (RetI (-(iv b xs)) w):=by
 have X:=B2.new w b A n c false none 0 0
 have hk:=knownI_any b A n c xs _ (h.below X.bel) (by omega)
 generalize iv b xs=z at hk ⊢
 have hs:=Lib.hid (sg_not z)
 replace hk:=Lib.hid hk
 replace X:=Lib.hid X
 clear h
 go_enter Tryz.func166,Tryz.ntmps166
 go_wp2_with (go_at_call 196;refine hk.out.mono ?_;rintro e w1 ⟨A1,n1,c1,rfl,Q1,B1⟩;refine Hid.out ?_)
 refine Lib.hid ?_
 have X1:=X.out.on B1
 obtain⟨a0,a1,a2,a3⟩:=X1.x1.at_
 have X2:=X1.put1 (ng z) A1 n1 c1
 have Q2:=Lib.hid (Q1.put X1.x1 (.bool (ng z)) (.slice A1 n1 c1))
 obtain⟨d0,d1,d2,d3⟩:=X2.x1.at_
 replace X2:=Lib.hid X2
 clear X1 Q1 B1 hk
 go_wp2_with (go_at_call 131;refine (signedI_any _ _ _ _ z.natAbs _ (by exact Q2.out)).mono ?_;rw[hs.out];rintro e w2 ⟨A3,n3,c3,rfl,Q3,B3⟩;refine Hid.out ?_)
 refine Lib.hid ?_
 have X3:=X2.out.on B3
 obtain⟨e0,e1,e2,e3⟩:=X3.x2.at_
 have X4:=Lib.hid (X3.put2 (ng (-z)) A3 n3 c3)
 have Q4:=Lib.hid (Q3.put X3.x2 (.bool (ng (-z))) (.slice A3 n3 c3))
 clear X3 Q3 B3 a0 a1 a2 a3 d0 d1 d2 d3
 go_wp2
 refine bodyPost_ret (res_opp _ _ (w.heap.size+1) rfl X4.out.x2) rfl ?_
 exact ret_I rfl Q4.out X4.out.bel
theorem res_rneg (W:World) (tmps:Array Value) (g:Nat) {b:Bool} {A:Option Addr} {n c:Nat} (ht:tmps.getD 2 undef=.pointer (some ⟨g,0,none⟩)) (h:Bx W g b A n c) :
  (results Tryz.f109 tmps).run Tryz.prog W=.ok (.agg #[.bool b,.slice A n c]) W:=by
 obtain⟨c0,c1,_⟩:=h.at_
 have ht':tmps[2]?.getD undef=.pointer (some ⟨g,0,none⟩):=by rw[←ht];simp[Array.getD_eq_getD_getElem?]
 simp[results,Tryz.results109,go_sem,ht',c0,c1]
set_option maxHeartbeats 4000000 in
theorem rnegI_any (b:Bool) (A:Option Addr) (n c:Nat) (xs:List Nat) (w:World) (h:Rd w A n c xs) (hn:n≤1000) :
  Calls Tryz.prog 109 #[.agg #[.bool b,.slice A n c]] w (RetI (-(iv b xs)) w):=by
 have X:=B2.new w b A n c false none 0 0
 have hk:=takeI_any b A n c xs _ (h.below X.bel) (by omega)
 generalize iv b xs=z at hk ⊢
 have hs:=Lib.hid (sg_not z)
 replace hk:=Lib.hid hk
 replace X:=Lib.hid X
 clear h
 go_enter Tryz.func109,Tryz.ntmps109
 go_wp2_with (go_at_call 107;refine hk.out.mono ?_;rintro e w1 ⟨A1,n1,c1,rfl,Q1,B1⟩;refine Hid.out ?_)
 refine Lib.hid ?_
 have X1:=X.out.on B1
 obtain⟨a0,a1,a2,a3⟩:=X1.x1.at_
 have X2:=X1.put1 (ng z) A1 n1 c1
 have Q2:=Lib.hid (Q1.put X1.x1 (.bool (ng z)) (.slice A1 n1 c1))
 obtain⟨d0,d1,d2,d3⟩:=X2.x1.at_
 replace X2:=Lib.hid X2
 clear X1 Q1 B1 hk
 go_wp2_with (go_at_call 113;refine (rsignedI_any _ _ _ _ z.natAbs _ (by exact Q2.out)).mono ?_;rw[hs.out];rintro e w2 ⟨A3,n3,c3,rfl,Q3,B3⟩;refine Hid.out ?_)
 refine Lib.hid ?_
 have X3:=X2.out.on B3
 obtain⟨e0,e1,e2,e3⟩:=X3.x2.at_
 have X4:=Lib.hid (X3.put2 (ng (-z)) A3 n3 c3)
 have Q4:=Lib.hid (Q3.put X3.x2 (.bool (ng (-z))) (.slice A3 n3 c3))
 clear X3 Q3 B3 a0 a1 a2 a3 d0 d1 d2 d3
 go_wp2
 refine bodyPost_ret (res_rneg _ _ (w.heap.size+1) rfl X4.out.x2) rfl ?_
 exact ret_I rfl Q4.out X4.out.bel
theorem res_neg (W:World) (tmps:Array Value) (g:Nat) {b:Bool} {A:Option Addr} {n c:Nat} (ht:tmps.getD 2 undef=.pointer (some ⟨g,0,none⟩)) (h:Bx W g b A n c) :
  (results Tryz.f130 tmps).run Tryz.prog W=.ok (.agg #[.bool b,.slice A n c]) W:=by
 obtain⟨c0,c1,_⟩:=h.at_
 have ht':tmps[2]?.getD undef=.pointer (some ⟨g,0,none⟩):=by rw[←ht];simp[Array.getD_eq_getD_getElem?]
 simp[results,Tryz.results130,go_sem,ht',c0,c1]
set_option maxHeartbeats 4000000 in
theorem negI_any (b:Bool) (A:Option Addr) (n c:Nat) (xs:List Nat) (w:World) (h:Rd w A n c xs) (hn:n≤1000) :
  Calls Tryz.prog 130 #[.agg #[.bool b,.slice A n c]] w (RetI (-(iv b xs)) w):=by
 have X:=B2.new w b A n c false none 0 0
 have hk:=oppI_any b A n c xs _ (h.below X.bel) (by omega)
 have l1:=iv_abs (b:=b) h.sm (Nat.le_of_eq h.len)
 generalize iv b xs=z at hk l1 ⊢
 have l2:Hid ((limbs (-z).natAbs).length≤n):=by rw[Int.natAbs_neg];exact Lib.hid l1
 generalize -z=y at hk l2 ⊢
 have hs:=Lib.hid (sg_ng y)
 replace hk:=Lib.hid hk
 replace X:=Lib.hid X
 clear h l1 z
 go_enter Tryz.func130,Tryz.ntmps130
 go_wp2_with (go_at_call 166;refine hk.out.mono ?_;rintro e w1 ⟨A1,n1,c1,rfl,Q1,B1⟩;refine Hid.out ?_)
 refine Lib.hid ?_
 have hn1:n1≤1000:=by have:=l2.out;have:=Q1.len;omega
 have X1:=X.out.on B1
 obtain⟨a0,a1,a2,a3⟩:=X1.x1.at_
 have X2:=X1.put1 (ng y) A1 n1 c1
 have Q2:=Q1.put X1.x1 (.bool (ng y)) (.slice A1 n1 c1)
 go_wp2_with fail
 generalize (w1.setCell ⟨w.heap.size,0,none⟩ (.bool (ng y))).setCell ⟨w.heap.size,1,none⟩ (.slice A1 n1 c1)=W2 at X2 Q2 ⊢
 obtain⟨d0,d1,d2,d3⟩:=X2.x1.at_
 have XD:=Lib.hid X2.drew
 have QD:=Lib.hid (Rd.drew1 Q2)
 clear X1 Q1 B1 hk X2 Q2 a0 a1 a2 a3
 go_region_held3 (fun w'=>w'.cell? ⟨w.heap.size,0,none⟩=some (.bool (ng y))∧w'.cell? ⟨w.heap.size,1,none⟩=some (.slice A1 n1 c1))
  (first | exact⟨d0,d1⟩ | exact⟨f0,f1⟩ | exact⟨p0,p1⟩ | exact⟨r0,r1⟩)
  (first
   | (go_at_call 120;refine (clone_any _ _ _ (limbs y.natAbs) _ (by exact QD.out) (by omega)).mono ?_;rintro e w3 ⟨A3,c3,rfl,Q3,_,B3'⟩;have Y3:=XD.out.on B3';obtain⟨f0,f1,_⟩:=Y3.x1.at_)
   | (go_at_call 131;refine (signedI_any _ _ _ _ y.natAbs _ (by exact Q3)).mono ?_;rw[hs.out];rintro e w4 ⟨A4,n4,c4,rfl,Q4,B4'⟩;have Y4:=Y3.on B4';obtain⟨p0,p1,_⟩:=Y4.x1.at_;obtain⟨v0,v1,v2,v3⟩:=Y4.x2.at_;have Y5:=Y4.put2 (ng y) A4 n4 c4;obtain⟨r0,r1,_⟩:=Y5.x1.at_))
 all_goals
  have Y5':=Lib.hid Y5
  have Q5:=Lib.hid (Q4.put Y4.x2 (.bool (ng y)) (.slice A4 n4 c4))
  clear Y5 Y4 Y3 r0 r1 v0 v1 v2 v3 p0 p1 f0 f1 Q3 Q4 B3' B4'
  go_wp2
  refine bodyPost_ret (res_neg _ _ (w.heap.size+1) rfl Y5'.out.x2) rfl ?_
  exact ret_I rfl Q5.out Y5'.out.bel
end Go.Proofs.YtdeedofmflelfaaGreatDoor

namespace Go.Proofs.YtdeedofmflelfaaGreatDoor
open Go.RowKit
set_option maxHeartbeats 4000000 in
theorem signI_any (b:Bool) (A:Option Addr) (n c:Nat) (xs:List Nat) (w:World) (h:Rd w A n c xs) (hn:n≤1000) :
  Calls Tryz.prog 172 #[.agg #[.bool b,.slice A n c]] w (fun e w'=>e=.returned (.int .i64 (iv b xs).sign)∧Below w.heap.size w w'):=by
 have X:=Bx.new w b A n c
 have Bw:=(Below.refl w.heap.size w).alloc (Nat.le_refl _) (.cells #[.bool b,.slice A n c] 44)
 have hk:=knownI_any b A n c xs _ (h.below Bw) (by omega)
 generalize iv b xs=z at hk ⊢
 replace hk:=Lib.hid hk
 replace X:=Lib.hid X
 replace Bw:=Lib.hid Bw
 clear h
 rcases Int.lt_trichotomy z 0 with hz | hz | hz
 ·have hg:Hid (ng z=true):=Lib.hid (decide_eq_true hz)
  have hs:Hid (z.sign = -1):=Lib.hid (Int.sign_eq_neg_one_of_neg hz)
  clear hz
  go_enter Tryz.func172,Tryz.ntmps172
  go_wp2_with (go_at_call 196;refine hk.out.mono ?_;rintro e w1 ⟨A1,n1,c1,rfl,Q1,B1⟩;rw[hg.out];refine Hid.out ?_)
  refine Lib.hid ?_
  have X1:=X.out.bel B1
  have Bz:=Lib.hid (put_below (.bool true) (.slice A1 n1 c1) (Bw.out.trans (B1.mono Bw.out.size)) (Nat.le_refl w.heap.size))
  obtain⟨a0,a1,a2,a3⟩:=X1.at_
  obtain⟨d0,d1,d2,d3⟩:=(X1.put true A1 n1 c1).at_
  clear X1 Q1 B1 hk
  go_wp2
  go_ret
  exact⟨by rw[hs.out];rfl,Bz.out⟩
 ·subst hz
  have hg:Hid (ng 0=false):=Lib.hid rfl
  go_enter Tryz.func172,Tryz.ntmps172
  go_wp2_with (go_at_call 196;refine hk.out.mono ?_;rintro e w1 ⟨A1,n1,c1,rfl,Q1,B1⟩;rw[hg.out];refine Hid.out ?_)
  refine Lib.hid ?_
  obtain rfl:n1=0:=by have:=Q1.len;rw[show (0:Int).natAbs=0 from rfl,limbs_zero] at this;exact this.symm
  have X1:=X.out.bel B1
  have Bz:=Lib.hid (put_below (.bool false) (.slice A1 0 c1) (Bw.out.trans (B1.mono Bw.out.size)) (Nat.le_refl w.heap.size))
  obtain⟨a0,a1,a2,a3⟩:=X1.at_
  obtain⟨d0,d1,d2,d3⟩:=(X1.put false A1 0 c1).at_
  clear X1 Q1 B1 hk
  go_wp2
  go_ret
  exact⟨rfl,Bz.out⟩
 ·have hg:Hid (ng z=false):=Lib.hid (decide_eq_false (by omega))
  have hs:Hid (z.sign=1):=Lib.hid (Int.sign_eq_one_of_pos hz)
  go_enter Tryz.func172,Tryz.ntmps172
  go_wp2_with (go_at_call 196;refine hk.out.mono ?_;rintro e w1 ⟨A1,n1,c1,rfl,Q1,B1⟩;rw[hg.out];refine Hid.out ?_)
  refine Lib.hid ?_
  have hn1:0<n1:=by have:=Q1.len;rw[limbs_pos (by omega)] at this;simp at this;omega
  have hn2:(0:Int)<(n1:Int):=by omega
  have hn3:((n1:Int)==0)=false:=by rw[beq_eq_false_iff_ne];omega
  have X1:=X.out.bel B1
  have Bz:=Lib.hid (put_below (.bool false) (.slice A1 n1 c1) (Bw.out.trans (B1.mono Bw.out.size)) (Nat.le_refl w.heap.size))
  obtain⟨a0,a1,a2,a3⟩:=X1.at_
  obtain⟨d0,d1,d2,d3⟩:=(X1.put false A1 n1 c1).at_
  clear X1 Q1 B1 hk hz hn1
  go_wp2
  go_ret
  exact⟨by rw[hs.out];rfl,Bz.out⟩
set_option maxHeartbeats 4000000 in
theorem rsignI_any (b:Bool) (A:Option Addr) (n c:Nat) (xs:List Nat) (w:World) (h:Rd w A n c xs) (hn:n≤1000) :
  Calls Tryz.prog 67 #[.agg #[.bool b,.slice A n c]] w (fun e w'=>e=.returned (.int .i64 (iv b xs).sign)∧Below w.heap.size w w'):=by
 have X:=Bx.new w b A n c
 have Bw:=(Below.refl w.heap.size w).alloc (Nat.le_refl _) (.cells #[.bool b,.slice A n c] 44)
 have hk:=takeI_any b A n c xs _ (h.below Bw) (by omega)
 generalize iv b xs=z at hk ⊢
 replace hk:=Lib.hid hk
 replace X:=Lib.hid X
 replace Bw:=Lib.hid Bw
 clear h
 rcases Int.lt_trichotomy z 0 with hz | hz | hz
 ·have hg:Hid (ng z=true):=Lib.hid (decide_eq_true hz)
  have hs:Hid (z.sign = -1):=Lib.hid (Int.sign_eq_neg_one_of_neg hz)
  clear hz
  go_enter Tryz.func67,Tryz.ntmps67
  go_wp2_with (go_at_call 107;refine hk.out.mono ?_;rintro e w1 ⟨A1,n1,c1,rfl,Q1,B1⟩;rw[hg.out];refine Hid.out ?_)
  refine Lib.hid ?_
  have X1:=X.out.bel B1
  have Bz:=Lib.hid (put_below (.bool true) (.slice A1 n1 c1) (Bw.out.trans (B1.mono Bw.out.size)) (Nat.le_refl w.heap.size))
  obtain⟨a0,a1,a2,a3⟩:=X1.at_
  obtain⟨d0,d1,d2,d3⟩:=(X1.put true A1 n1 c1).at_
  clear X1 Q1 B1 hk
  go_wp2
  go_ret
  exact⟨by rw[hs.out];rfl,Bz.out⟩
 ·subst hz
  have hg:Hid (ng 0=false):=Lib.hid rfl
  go_enter Tryz.func67,Tryz.ntmps67
  go_wp2_with (go_at_call 107;refine hk.out.mono ?_;rintro e w1 ⟨A1,n1,c1,rfl,Q1,B1⟩;rw[hg.out];refine Hid.out ?_)
  refine Lib.hid ?_
  obtain rfl:n1=0:=by have:=Q1.len;rw[show (0:Int).natAbs=0 from rfl,limbs_zero] at this;exact this.symm
  have X1:=X.out.bel B1
  have Bz:=Lib.hid (put_below (.bool false) (.slice A1 0 c1) (Bw.out.trans (B1.mono Bw.out.size)) (Nat.le_refl w.heap.size))
  obtain⟨a0,a1,a2,a3⟩:=X1.at_
  obtain⟨d0,d1,d2,d3⟩:=(X1.put false A1 0 c1).at_
  clear X1 Q1 B1 hk
  go_wp2
  go_ret
  exact⟨rfl,Bz.out⟩
 ·have hg:Hid (ng z=false):=Lib.hid (decide_eq_false (by omega))
  have hs:Hid (z.sign=1):=Lib.hid (Int.sign_eq_one_of_pos hz)
  go_enter Tryz.func67,Tryz.ntmps67
  go_wp2_with (go_at_call 107;refine hk.out.mono ?_;rintro e w1 ⟨A1,n1,c1,rfl,Q1,B1⟩;rw[hg.out];refine Hid.out ?_)
  refine Lib.hid ?_
  have hn1:0<n1:=by have:=Q1.len;rw[limbs_pos (by omega)] at this;simp at this;omega
  have hn2:(0:Int)<(n1:Int):=by omega
  have hn3:((n1:Int)==0)=false:=by rw[beq_eq_false_iff_ne];omega
  have X1:=X.out.bel B1
  have Bz:=Lib.hid (put_below (.bool false) (.slice A1 n1 c1) (Bw.out.trans (B1.mono Bw.out.size)) (Nat.le_refl w.heap.size))
  obtain⟨a0,a1,a2,a3⟩:=X1.at_
  obtain⟨d0,d1,d2,d3⟩:=(X1.put false A1 n1 c1).at_
  clear X1 Q1 B1 hk hz hn1
  go_wp2
  go_ret
  exact⟨by rw[hs.out];rfl,Bz.out⟩
end Go.Proofs.YtdeedofmflelfaaGreatDoor
