/- Contract of the reference's Add. -/
import Derived.Test.YthlinhconnmbcaaGreatB06
import Derived.Test.YthlinhconnmbcaaGreatB01
import Derived.Test.YthlinhconnmbcaaGreatB02
import Derived.Test.YthlinhconnmbcaaGreatB03
set_option maxRecDepth 100000
set_option maxHeartbeats 40000000
set_option linter.unusedVariables false
namespace Go.Proofs.YthlinhconnmbcaaGreat
open Go.RowKit
theorem res_radd (W:World) (tmps:Array Value) (g:Nat) {b:Bool} {A:Option Addr} {n c:Nat} (ht:tmps.getD 4 undef=.pointer (some ⟨g,0,none⟩)) (h:Bx W g b A n c) :
  (results Tryz.f103 tmps).run Tryz.prog W=.ok (.agg #[.bool b,.slice A n c]) W:=by
 obtain⟨c0,c1,_⟩:=h.at_;have ht':tmps[4]?.getD undef=.pointer (some ⟨g,0,none⟩):=by rw[←ht];simp[Array.getD_eq_getD_getElem?]
 simp[results,Tryz.results103,go_sem,ht',c0,c1]
theorem raddI_any (b:Bool) (A:Option Addr) (n c:Nat) (xs:List Nat) (b':Bool) (A':Option Addr) (n' c':Nat) (ys:List Nat) (w:World) (h1:Rd w A n c xs) (h2:Rd w A' n' c' ys) (hn:n≤50000000) (hn':n'≤50000000) :
  Calls Tryz.prog 103 #[.agg #[.bool b,.slice A n c],.agg #[.bool b',.slice A' n' c']] w (RetI ((iv b xs)+(iv b' ys)) w):=by
 have hk1:=fun W (h:Rd W A n c xs)=>takeI_any b A n c xs W h (by omega)
 have hk2:=fun W (h:Rd W A' n' c' ys)=>takeI_any b' A' n' c' ys W h (by omega)
 have l1:=iv_abs (b:=b) h1.sm (Nat.le_of_eq h1.len);have l2:=iv_abs (b:=b') h2.sm (Nat.le_of_eq h2.len);generalize iv b xs=z1 at *;generalize iv b' ys=z2 at *;replace hk1:=Lib.hid hk1;replace hk2:=Lib.hid hk2;replace l1:=Lib.hid l1;replace l2:=Lib.hid l2;have X:=B3.new w b A n c b' A' n' c' false none 0 0;have R1:=h1.below X.bel;have R2:=h2.below X.bel;clear h1 h2;go_enter Tryz.func103,Tryz.ntmps103
 go_upto_region 1 with fail
 generalize ((w.alloc (.cells #[.bool b,.slice A n c] 31)).alloc (.cells #[.bool b',.slice A' n' c'] 31)).alloc (.cells #[.bool false,.slice none 0 0] 31)=W0 at X R1 R2 ⊢;obtain⟨a0,a1,a2,a3⟩:=X.x1.at_;obtain⟨d0,d1,d2,d3⟩:=X.x2.at_;replace X:=Lib.hid X;replace R1:=Lib.hid R1;replace R2:=Lib.hid R2
 go_cut [] (fun wx=>∃ A1 n1 c1 A2 n2 c2,B3 w wx (ng z1) A1 n1 c1 (ng z2) A2 n2 c2 false none 0 0∧Rd wx A1 n1 c1 (limbs z1.natAbs)∧Rd wx A2 n2 c2 (limbs z2.natAbs))
 case first=>
  have XD:=Lib.hid X.out.drew;have RD1:=Lib.hid (Rd.drew1 R1.out);have RD2:=Lib.hid (Rd.drew1 R2.out)
  go_region_with (first
   | (go_at_call_of 67 (Value.agg #[.bool b,.slice A n c]);refine (hk1.out _ (by exact RD1.out)).mono ?_;rintro e w1 ⟨A1,n1,c1,rfl,Q1,B1⟩;have X1:=XD.out.on B1;have R2':=RD2.out.below B1;obtain⟨d0',d1',d2',d3'⟩:=X1.x2.at_)
   | (go_at_call_of 67 (Value.agg #[.bool b',.slice A' n' c']);refine (hk2.out _ (by exact R2')).mono ?_;rintro e w2 ⟨A2,n2,c2,rfl,Q2,B2⟩;have X2:=X1.on B2;obtain⟨f0,f1,f2,f3⟩:=X2.x1.at_;obtain⟨k0,k1,k2,k3⟩:=X2.x2.at_))
  all_goals
   have Y:=Lib.hid (X2.two_puts (ng z1) A1 n1 c1 (ng z2) A2 n2 c2);have P1:=Lib.hid (((Q1.below B2).put X2.x1 (.bool (ng z1)) (.slice A1 n1 c1)).put (X2.put1 (ng z1) A1 n1 c1).x2 (.bool (ng z2)) (.slice A2 n2 c2));have P2:=Lib.hid ((Q2.put X2.x1 (.bool (ng z1)) (.slice A1 n1 c1)).put (X2.put1 (ng z1) A1 n1 c1).x2 (.bool (ng z2)) (.slice A2 n2 c2));clear a0 a1 a2 a3 d0 d1 d2 d3 d0' d1' d2' d3' f0 f1 f2 f3 k0 k1 k2 k3 Q1 Q2 B1 B2 X1 X2 R2'
   go_wp2_with fail
   go_meet
   exact⟨_,_,_,_,_,_,Y.out,P1.out,P2.out⟩
 case rest=>
  obtain⟨A1,n1,c1,A2,n2,c2,Y,P1,P2⟩:=hcut;clear X R1 R2 a0 a1 a2 a3 d0 d1 d2 d3 hk1 hk2;have hl1:n1≤50000000:=by have:=l1.out;have:=P1.len;omega
  have hl2:n2≤50000000:=by have:=l2.out;have:=P2.len;omega
  obtain⟨a0,a1,a2,a3⟩:=Y.x1.at_;obtain⟨d0,d1,d2,d3⟩:=Y.x2.at_
  by_cases hs:ng z1=ng z2
  ·have hq:(ng z1==ng z2)=true:=by rw[hs];simp
   have hsum:=Lib.hid (sg_add hs);clear hs;have YD:=Lib.hid Y.drew;have P1D:=Lib.hid (Rd.drew1 P1);have P2D:=Lib.hid (Rd.drew1 P2);clear Y P1 P2
   go_wp2_with fail
   go_region_held3 (fun w'=>w'.cell? ⟨w.heap.size,0,none⟩=some (.bool (ng z1))∧w'.cell? ⟨w.heap.size,1,none⟩=some (.slice A1 n1 c1)∧w'.cell? ⟨w.heap.size+1,0,none⟩=some (.bool (ng z2))∧w'.cell? ⟨w.heap.size+1,1,none⟩=some (.slice A2 n2 c2))
    (first | exact⟨a0,a1,d0,d1⟩ | exact⟨f0,f1,k0,k1⟩ | exact⟨p0,p1,q0,q1⟩ | exact⟨r0,r1,t0,t1⟩)
    (first
     | (go_at_call 76;refine (radd_any _ _ _ (limbs z1.natAbs) _ _ _ (limbs z2.natAbs) _ (by exact P1D.out) (by exact P2D.out) (by omega) (by omega)).mono ?_;rw[num_limbs,num_limbs];rintro e w3 ⟨A3,n3,c3,rfl,Q3,B3'⟩;have Y3:=YD.out.on B3';obtain⟨f0,f1,_⟩:=Y3.x1.at_;obtain⟨k0,k1,_⟩:=Y3.x2.at_)
     | (go_at_call 73;refine (rsignedI_any _ _ _ _ (z1.natAbs+z2.natAbs) _ (by exact Q3)).mono ?_;rw[hsum.out];rintro e w4 ⟨A4,n4,c4,rfl,Q4,B4'⟩;have Y4:=Y3.on B4';obtain⟨p0,p1,_⟩:=Y4.x1.at_;obtain⟨q0,q1,_⟩:=Y4.x2.at_;obtain⟨v0,v1,v2,v3⟩:=Y4.x3.at_;have Y5:=Y4.put3 (ng (z1+z2)) A4 n4 c4;obtain⟨r0,r1,_⟩:=Y5.x1.at_;obtain⟨t0,t1,_⟩:=Y5.x2.at_))
   all_goals
    have Y5':=Lib.hid Y5;have Q5:=Lib.hid (Q4.put Y4.x3 (.bool (ng (z1+z2))) (.slice A4 n4 c4));clear Y5 Y4 Y3 r0 r1 t0 t1 v0 v1 v2 v3 p0 p1 q0 q1 f0 f1 k0 k1 Q3 Q4 B3' B4';go_wp2;refine bodyPost_ret (res_radd _ _ (w.heap.size+1+1) rfl Y5'.out.x3) rfl ?_
    exact ret_I rfl Q5.out Y5'.out.bel
  ·have hq:(ng z1==ng z2)=false:=by rw[beq_eq_false_iff_ne];exact hs
   have hg1:=@sg_sub1 z1 z2 hs;have hg2:=@sg_sub2 z1 z2 hs;clear hs
   rcases Nat.lt_or_ge z1.natAbs z2.natAbs with hle | hle
   ·replace hg2:=Lib.hid (hg2 (Nat.le_of_lt hle))
    clear hg1;have hd1:=Lib.hid (rsub_lt_b _ _ _ _ _ _ _ _ _ P1 P2 (by omega) (by omega) hle)
    go_wp2_with (go_at_call 95;refine hd1.out.mono ?_;rintro e w3 ⟨rfl,B3'⟩;refine Hid.out ?_)
    refine Lib.hid ?_
    have hd2:=Lib.hid (rsub_ge_b _ _ _ _ _ _ _ _ _ (P2.below B3') (P1.below B3') (by omega) (by omega) (Nat.le_of_lt hle))
    replace Y:=Y.on B3';obtain⟨u0,u1,u2,u3⟩:=Y.x1.at_;obtain⟨y0,y1,y2,y3⟩:=Y.x2.at_;clear hd1 P1 P2 a0 a1 a2 a3 d0 d1 d2 d3 B3' hle;have P1:True:=trivial;have P2:True:=trivial;have a0:True:=trivial;have a1:True:=trivial;have a2:True:=trivial;have a3:True:=trivial;have d0:True:=trivial;have d1:True:=trivial;have d2:True:=trivial;have d3:True:=trivial;replace Y:=Lib.hid Y
    go_wp2_with (go_at_call 95;refine hd2.out.mono ?_;rintro e w4 ⟨A3,n3,c3,rfl,Q3,B3'⟩;refine Hid.out ?_)
    replace Y:=Y.out;clear u0 u1 u2 u3 y0 y1 y2 y3;refine Lib.hid ?_
    have Y3:=Y.on B3';obtain⟨f0,f1,f2,f3⟩:=Y3.x1.at_;obtain⟨k0,k1,k2,k3⟩:=Y3.x2.at_;clear Y P1 P2 a0 a1 a2 a3 d0 d1 d2 d3 B3';replace Y3:=Lib.hid Y3;replace Q3:=Lib.hid Q3
    go_wp2_with (go_at_call 73;refine (rsignedI_any _ _ _ _ (z2.natAbs-z1.natAbs) _ (by exact Q3.out)).mono ?_;rw[hg2.out];rintro e w5 ⟨A4,n4,c4,rfl,Q4,B4'⟩;refine Hid.out ?_)
    refine Lib.hid ?_
    have Y4:=Y3.out.on B4';obtain⟨v0,v1,v2,v3⟩:=Y4.x3.at_;have Y5:=Lib.hid (Y4.put3 (ng (z1+z2)) A4 n4 c4);have Q5:=Lib.hid (Q4.put Y4.x3 (.bool (ng (z1+z2))) (.slice A4 n4 c4));clear Y4 Q4 B4' Y3 Q3 f0 f1 f2 f3 k0 k1 k2 k3;go_wp2;refine bodyPost_ret (res_radd _ _ (w.heap.size+1+1) rfl Y5.out.x3) rfl ?_
    exact ret_I rfl Q5.out Y5.out.bel
   ·replace hg1:=Lib.hid (hg1 hle)
    clear hg2;have hd1:=Lib.hid (rsub_ge_b _ _ _ _ _ _ _ _ _ P1 P2 (by omega) (by omega) hle)
    replace hle:=Lib.hid hle;replace Y:=Lib.hid Y;replace P1:=Lib.hid P1;replace P2:=Lib.hid P2
    go_wp2_with (go_at_call 95;refine hd1.out.mono ?_;rintro e w3 ⟨A3,n3,c3,rfl,Q3,B3'⟩;refine Hid.out ?_)
    replace Y:=Y.out;refine Lib.hid ?_
    have Y3:=Y.on B3';obtain⟨f0,f1,f2,f3⟩:=Y3.x1.at_;obtain⟨k0,k1,k2,k3⟩:=Y3.x2.at_;clear Y P1 P2 a0 a1 a2 a3 d0 d1 d2 d3 B3';replace Y3:=Lib.hid Y3;replace Q3:=Lib.hid Q3
    go_wp2_with (go_at_call 73;refine (rsignedI_any _ _ _ _ (z1.natAbs-z2.natAbs) _ (by exact Q3.out)).mono ?_;rw[hg1.out];rintro e w5 ⟨A4,n4,c4,rfl,Q4,B4'⟩;refine Hid.out ?_)
    refine Lib.hid ?_
    have Y4:=Y3.out.on B4';obtain⟨v0,v1,v2,v3⟩:=Y4.x3.at_;have Y5:=Lib.hid (Y4.put3 (ng (z1+z2)) A4 n4 c4);have Q5:=Lib.hid (Q4.put Y4.x3 (.bool (ng (z1+z2))) (.slice A4 n4 c4));clear Y4 Q4 B4' Y3 Q3 f0 f1 f2 f3 k0 k1 k2 k3;go_wp2;refine bodyPost_ret (res_radd _ _ (w.heap.size+1+1) rfl Y5.out.x3) rfl ?_
    exact ret_I rfl Q5.out Y5.out.bel
end Go.Proofs.YthlinhconnmbcaaGreat
namespace Go.Proofs.YthlinhconnmbcaaGreat
open Go.RowKit
theorem res_from (W:World) (tmps:Array Value) (g:Nat) {b:Bool} {A:Option Addr} {n c:Nat} (ht:tmps.getD 2 undef=.pointer (some ⟨g,0,none⟩)) (h:Bx W g b A n c) :
  (results Tryz.f75 tmps).run Tryz.prog W=.ok (.agg #[.bool b,.slice A n c]) W:=by
 obtain⟨c0,c1,_⟩:=h.at_;have ht':tmps[2]?.getD undef=.pointer (some ⟨g,0,none⟩):=by rw[←ht];simp[Array.getD_eq_getD_getElem?]
 simp[results,Tryz.results75,go_sem,ht',c0,c1]
theorem res_rfrom (W:World) (tmps:Array Value) (g:Nat) {b:Bool} {A:Option Addr} {n c:Nat} (ht:tmps.getD 2 undef=.pointer (some ⟨g,0,none⟩)) (h:Bx W g b A n c) :
  (results Tryz.f52 tmps).run Tryz.prog W=.ok (.agg #[.bool b,.slice A n c]) W:=by
 obtain⟨c0,c1,_⟩:=h.at_;have ht':tmps[2]?.getD undef=.pointer (some ⟨g,0,none⟩):=by rw[←ht];simp[Array.getD_eq_getD_getElem?]
 simp[results,Tryz.results52,go_sem,ht',c0,c1]
theorem fromUint_i (z:Int) (v:Nat) (w:World) (hz:z=v) (hv:v<18446744073709551616):Calls Tryz.prog 98 #[.int .u64 z] w (RetN v w):=by
 subst hz;exact fromUint_any v w hv
theorem rfromUint_ii (z:Int) (v:Nat) (w:World) (hz:z=v) (hv:v<18446744073709551616):Calls Tryz.prog 77 #[.int .u64 z] w (RetN v w):=by
 subst hz;exact rfromUint_any v w hv
theorem neg_wrap {v:Int} (h0 : -9223372036854775808≤v) (h1:v<0):IntKind.u64.wrap (-(IntKind.u64.wrap v))=(v.natAbs:Int):=by
 rw[IntKind.wrap_u64,IntKind.wrap_u64];omega
theorem sg_neg {v:Int} (h:v<0):sg true v.natAbs=v:=by
 have:=sg_ng v;rwa [show ng v=true from decide_eq_true h] at this
theorem sg_pos {v:Int} (h:0≤v):sg false v.natAbs=v:=by
 have:=sg_ng v;rwa [show ng v=false from decide_eq_false (by omega)] at this
theorem fromInt_any (v:Int) (w:World) (h0 : -9223372036854775808≤v) (h1:v≤9223372036854775807) :
  Calls Tryz.prog 75 #[.int .i64 v] w (RetI v w):=by
 have X:=Lib.hid (Bx.new w false none 0 0);have Bw:=Lib.hid ((Below.refl w.heap.size w).alloc (Nat.le_refl _) (.cells #[.bool false,.slice none 0 0] 31))
 by_cases hv:v<0
 ·have hw:=Lib.hid (neg_wrap h0 hv)
  have hs:=Lib.hid (sg_neg hv);have hb:Hid (v.natAbs<18446744073709551616):=by show v.natAbs<18446744073709551616;omega
  have hfu:=Lib.hid (fun W z (hz:z=((v.natAbs:Nat):Int))=>fromUint_i z v.natAbs W hz hb.out)
  clear hb;go_enter Tryz.func75,Tryz.ntmps75
  go_wp2_with (go_at_call 98;refine (hfu.out _ _ (by first | exact hw.out | (rw[←hw.out];congr 1))).mono ?_;rintro e w1 ⟨A1,n1,c1,rfl,Q1,B1⟩;refine Hid.out ?_)
  refine Lib.hid ?_
  have X1:=Lib.hid (X.out.bel B1);have Bw1:=Lib.hid (Bw.out.trans (B1.mono Bw.out.size));replace Q1:=Lib.hid Q1;clear B1
  go_wp2_with (go_at_call 97;refine (signedI_any _ _ _ _ v.natAbs _ (by exact Q1.out)).mono ?_;rw[hs.out];rintro e w2 ⟨A2,n2,c2,rfl,Q2,B2'⟩;refine Hid.out ?_)
  refine Lib.hid ?_
  have X2:=X1.out.bel B2';obtain⟨a0,a1,a2,a3⟩:=X2.at_;have X3:=Lib.hid (X2.put (ng v) A2 n2 c2);have Q3:=Lib.hid (Q2.put X2 (.bool (ng v)) (.slice A2 n2 c2));have Bz:=Lib.hid (put_below (.bool (ng v)) (.slice A2 n2 c2) (Bw1.out.trans (B2'.mono Bw1.out.size)) (Nat.le_refl w.heap.size));clear X2 Q2 B2' hv;go_wp2;refine bodyPost_ret (res_from _ _ w.heap.size rfl X3.out) rfl ?_
  exact ret_I rfl Q3.out Bz.out
 ·have hv0:0≤v:=by omega
  have hs:=Lib.hid (sg_pos hv0);have hb:Hid (v.natAbs<18446744073709551616):=by show v.natAbs<18446744073709551616;omega
  have hw:Hid (v=((v.natAbs:Nat):Int)):=by show v=((v.natAbs:Nat):Int);omega
  have hw2:Hid (IntKind.u64.wrap v=((v.natAbs:Nat):Int)):=by show IntKind.u64.wrap v=((v.natAbs:Nat):Int);rw[IntKind.wrap_u64];omega
  have hfu:=Lib.hid (fun W z (hz:z=((v.natAbs:Nat):Int))=>fromUint_i z v.natAbs W hz hb.out)
  clear hb;go_enter Tryz.func75,Tryz.ntmps75
  go_wp2_with (go_at_call 98;refine (hfu.out _ _ (by first | exact hw.out | exact hw2.out)).mono ?_;rintro e w1 ⟨A1,n1,c1,rfl,Q1,B1⟩;refine Hid.out ?_)
  refine Lib.hid ?_
  have X1:=Lib.hid (X.out.bel B1);have Bw1:=Lib.hid (Bw.out.trans (B1.mono Bw.out.size));replace Q1:=Lib.hid Q1;clear B1
  go_wp2_with (go_at_call 97;refine (signedI_any _ _ _ _ v.natAbs _ (by exact Q1.out)).mono ?_;rw[hs.out];rintro e w2 ⟨A2,n2,c2,rfl,Q2,B2'⟩;refine Hid.out ?_)
  refine Lib.hid ?_
  have X2:=X1.out.bel B2';obtain⟨a0,a1,a2,a3⟩:=X2.at_;have X3:=Lib.hid (X2.put (ng v) A2 n2 c2);have Q3:=Lib.hid (Q2.put X2 (.bool (ng v)) (.slice A2 n2 c2));have Bz:=Lib.hid (put_below (.bool (ng v)) (.slice A2 n2 c2) (Bw1.out.trans (B2'.mono Bw1.out.size)) (Nat.le_refl w.heap.size));clear X2 Q2 B2' hv;go_wp2;refine bodyPost_ret (res_from _ _ w.heap.size rfl X3.out) rfl ?_
  exact ret_I rfl Q3.out Bz.out
theorem rfromInt_any (v:Int) (w:World) (h0 : -9223372036854775808≤v) (h1:v≤9223372036854775807) :
  Calls Tryz.prog 52 #[.int .i64 v] w (RetI v w):=by
 have X:=Lib.hid (Bx.new w false none 0 0);have Bw:=Lib.hid ((Below.refl w.heap.size w).alloc (Nat.le_refl _) (.cells #[.bool false,.slice none 0 0] 31))
 by_cases hv:v<0
 ·have hs:=Lib.hid (sg_neg hv)
  obtain⟨N,hN⟩:∃ N:Nat,v.natAbs=N+1:=⟨v.natAbs-1,by omega⟩
  have hb:Hid (N<18446744073709551616):=by show N<18446744073709551616;omega
  have hw:Hid (-(v+1)=((N:Nat):Int)):=by show -(v+1)=((N:Nat):Int);omega
  have hw2:Hid (IntKind.u64.wrap (-(v+1))=((N:Nat):Int)):=by show IntKind.u64.wrap (-(v+1))=((N:Nat):Int);rw[IntKind.wrap_u64];omega
  have hfu:=Lib.hid (fun W z (hz:z=((N:Nat):Int))=>rfromUint_ii z N W hz hb.out)
  have hl:Hid ((limbs N).length≤2):=Lib.hid (len_of_lt (by have:=hb.out;omega))
  clear hb;replace hN:=Lib.hid hN;have g1:v+1≤0:=by omega
  have g2 : -9223372036854775807≤v+1:=by omega
  go_enter Tryz.func52,Tryz.ntmps52
  go_wp2_with (go_at_call 77;refine (hfu.out _ _ (by first | exact hw.out | exact hw2.out | (rw[←hw.out];omega))).mono ?_;rintro e w1 ⟨A1,n1,c1,rfl,Q1,B1⟩;refine Hid.out ?_)
  refine Lib.hid ?_
  have hn1:n1≤2:=by have:=hl.out;have:=Q1.len;omega
  have X1:=Lib.hid ((X.out.bel B1).alloc (.cells #[.int .u32 1] 92));have Bw1:=Lib.hid ((Bw.out.trans (B1.mono Bw.out.size)).alloc (Nat.le_trans Bw.out.size B1.size) (.cells #[.int .u32 1] 92));have ha:=Lib.hid (radd_any A1 n1 c1 (limbs N) (some ⟨w1.heap.size,0,none⟩) 1 1 [1] _ (Q1.alloc (.cells #[.int .u32 1] 92)) (lit1 w1 w1.heap.size 1 1 rfl rfl (by omega)) (by omega) (by omega))
  rw[num_limbs,show num [1]=1 from by decide,←hN.out] at ha
  clear Q1 B1
  go_wp2_with (go_at_call 76;refine ha.out.mono ?_;rintro e w2 ⟨A2,n2,c2,rfl,Q2,B2'⟩;refine Hid.out ?_)
  refine Lib.hid ?_
  replace X1:=Lib.hid (X1.out.bel B2');replace Bw1:=Lib.hid (Bw1.out.trans (B2'.mono Bw1.out.size));replace Q2:=Lib.hid Q2;clear B2' ha
  go_wp2_with (go_at_call 73;refine (rsignedI_any _ _ _ _ v.natAbs _ (by exact Q2.out)).mono ?_;rw[hs.out];rintro e w3 ⟨A3,n3,c3,rfl,Q3,B3'⟩;refine Hid.out ?_)
  refine Lib.hid ?_
  have X2:=X1.out.bel B3';obtain⟨a0,a1,a2,a3⟩:=X2.at_;have X3:=Lib.hid (X2.put (ng v) A3 n3 c3);have Q4:=Lib.hid (Q3.put X2 (.bool (ng v)) (.slice A3 n3 c3));have Bz:=Lib.hid (put_below (.bool (ng v)) (.slice A3 n3 c3) (Bw1.out.trans (B3'.mono Bw1.out.size)) (Nat.le_refl w.heap.size));clear X2 Q3 B3' hv g1 g2;go_wp2;refine bodyPost_ret (res_rfrom _ _ w.heap.size rfl X3.out) rfl ?_
  exact ret_I rfl Q4.out Bz.out
 ·have hv0:0≤v:=by omega
  have hs:=Lib.hid (sg_pos hv0);have hb:Hid (v.natAbs<18446744073709551616):=by show v.natAbs<18446744073709551616;omega
  have hw:Hid (v=((v.natAbs:Nat):Int)):=by show v=((v.natAbs:Nat):Int);omega
  have hw2:Hid (IntKind.u64.wrap v=((v.natAbs:Nat):Int)):=by show IntKind.u64.wrap v=((v.natAbs:Nat):Int);rw[IntKind.wrap_u64];omega
  have hfu:=Lib.hid (fun W z (hz:z=((v.natAbs:Nat):Int))=>rfromUint_ii z v.natAbs W hz hb.out)
  clear hb;go_enter Tryz.func52,Tryz.ntmps52
  go_wp2_with (go_at_call 77;refine (hfu.out _ _ (by first | exact hw.out | exact hw2.out)).mono ?_;rintro e w1 ⟨A1,n1,c1,rfl,Q1,B1⟩;refine Hid.out ?_)
  refine Lib.hid ?_
  have X1:=Lib.hid (X.out.bel B1);have Bw1:=Lib.hid (Bw.out.trans (B1.mono Bw.out.size));replace Q1:=Lib.hid Q1;clear B1
  go_wp2_with (go_at_call 73;refine (rsignedI_any _ _ _ _ v.natAbs _ (by exact Q1.out)).mono ?_;rw[hs.out];rintro e w2 ⟨A2,n2,c2,rfl,Q2,B2'⟩;refine Hid.out ?_)
  refine Lib.hid ?_
  have X2:=X1.out.bel B2';obtain⟨a0,a1,a2,a3⟩:=X2.at_;have X3:=Lib.hid (X2.put (ng v) A2 n2 c2);have Q3:=Lib.hid (Q2.put X2 (.bool (ng v)) (.slice A2 n2 c2));have Bz:=Lib.hid (put_below (.bool (ng v)) (.slice A2 n2 c2) (Bw1.out.trans (B2'.mono Bw1.out.size)) (Nat.le_refl w.heap.size));clear X2 Q2 B2' hv;go_wp2;refine bodyPost_ret (res_rfrom _ _ w.heap.size rfl X3.out) rfl ?_
  exact ret_I rfl Q3.out Bz.out
end Go.Proofs.YthlinhconnmbcaaGreat
namespace Go.Proofs.YthlinhconnmbcaaGreat
open Go.RowKit
section
variable {w W W':World} {b1 b2:Bool} {A1 A2:Option Addr} {n1 n2 c1 c2:Nat}
theorem B4.x4f (h:B4 w W b1 A1 n1 c1 b2 A2 n2 c2) (b':Bool) (A':Option Addr) (n' c':Nat) :
  Bx ((W.setCell ⟨w.heap.size+1+1,0,none⟩ (.bool b')).setCell ⟨w.heap.size+1+1,1,none⟩ (.slice A' n' c')) (w.heap.size+1+1+1) false none 0 0:=
 (h.x4.far (show w.heap.size+1+1+1≠w.heap.size+1+1 by omega) _).far (show w.heap.size+1+1+1≠w.heap.size+1+1 by omega) _
theorem B4.res (h:B4 w W b1 A1 n1 c1 b2 A2 n2 c2) (b':Bool) (A':Option Addr) (n' c':Nat) (b'':Bool) (A'':Option Addr) (n'' c'':Nat) :
  Bx ((((W.setCell ⟨w.heap.size+1+1,0,none⟩ (.bool b')).setCell ⟨w.heap.size+1+1,1,none⟩ (.slice A' n' c')).setCell ⟨w.heap.size+1+1+1,0,none⟩ (.bool b'')).setCell ⟨w.heap.size+1+1+1,1,none⟩ (.slice A'' n'' c'')) (w.heap.size+1+1) b' A' n' c' ∧
  Bx ((((W.setCell ⟨w.heap.size+1+1,0,none⟩ (.bool b')).setCell ⟨w.heap.size+1+1,1,none⟩ (.slice A' n' c')).setCell ⟨w.heap.size+1+1+1,0,none⟩ (.bool b'')).setCell ⟨w.heap.size+1+1+1,1,none⟩ (.slice A'' n'' c'')) (w.heap.size+1+1+1) b'' A'' n'' c'' ∧
  Below w.heap.size w ((((W.setCell ⟨w.heap.size+1+1,0,none⟩ (.bool b')).setCell ⟨w.heap.size+1+1,1,none⟩ (.slice A' n' c')).setCell ⟨w.heap.size+1+1+1,0,none⟩ (.bool b'')).setCell ⟨w.heap.size+1+1+1,1,none⟩ (.slice A'' n'' c'')):=
 ⟨((h.x3.put _ _ _ _).far (show w.heap.size+1+1≠w.heap.size+1+1+1 by omega) _).far (show w.heap.size+1+1≠w.heap.size+1+1+1 by omega) _,(h.x4f b' A' n' c').put _ _ _ _,put_below _ _ (put_below _ _ h.bel (by omega)) (by omega)⟩
end
def RetD2 (q r:Int) (w:World) (e:Ending) (w':World):Prop:=∃ A n c A' n' c',e=.returned (.tuple #[.agg #[.bool (ng q),.slice A n c],.agg #[.bool (ng r),.slice A' n' c'],.bool true])∧Rd w' A n c (limbs q.natAbs)∧Rd w' A' n' c' (limbs r.natAbs)∧Below w.heap.size w w'
theorem dm_unique {x y q r:Int} (hy:y≠0) (h:q*y+r=x) (h0:0≤r) (h1:r<y.natAbs):x / y=q∧x%y=r:=by
 have hr:r%y=r:=by
  rcases Int.lt_or_gt_of_ne hy with hlt | hgt
  ·rw[←Int.emod_neg];exact Int.emod_eq_of_lt h0 (by omega)
  ·exact Int.emod_eq_of_lt h0 (by omega)
 have hq:r / y=0:=by
  have e:=Int.mul_ediv_add_emod r y;rw[hr] at e;have:y*(r / y)=0:=by omega
  rcases Int.mul_eq_zero.1 this with h2 | h2
  ·exact absurd h2 hy
  ·exact h2
 subst h
 constructor
 ·rw[Int.add_comm,Int.add_mul_ediv_right _ _ hy,hq,Int.zero_add]
 ·rw[Int.add_comm,Int.add_mul_emod_self_right,hr]
theorem div_pos {x y:Int} (hy:y≠0) (hx:ng x=false):sg (!(ng x==ng y)) (x.natAbs / y.natAbs)=x / y∧sg false (x.natAbs%y.natAbs)=x%y:=by
 have e:=Nat.div_add_mod' x.natAbs y.natAbs;have hl:=Nat.mod_lt x.natAbs (show y.natAbs > 0 by omega)
 have h1:=sg_ng x;have h2:=sg_ng y;have:=@dm_unique x y (sg (!(ng x==ng y)) (x.natAbs / y.natAbs)) (sg false (x.natAbs%y.natAbs)) hy ?_ ?_ ?_
 ·exact⟨this.1.symm,this.2.symm⟩
 ·rw[hx] at h1 ⊢
  generalize x.natAbs / y.natAbs=q at *;generalize x.natAbs%y.natAbs=r at *;generalize x.natAbs=a at *;generalize y.natAbs=c at *;generalize ng y=p at *;have e':(q:Int)*(c:Int)+(r:Int)=(a:Int):=by rw[←e];simp
  subst h1 h2
  cases p<;>simp[sg,Int.neg_mul,Int.mul_neg]<;>omega
 ·simp[sg];omega
 ·simp only[sg];simp;omega
theorem div_neg0 {x y:Int} (hy:y≠0) (hx:ng x=true) (h0:x.natAbs%y.natAbs=0):sg (!(ng x==ng y)) (x.natAbs / y.natAbs)=x / y∧sg false (x.natAbs%y.natAbs)=x%y:=by
 have e:=Nat.div_add_mod' x.natAbs y.natAbs;have h1:=sg_ng x;have h2:=sg_ng y;have:=@dm_unique x y (sg (!(ng x==ng y)) (x.natAbs / y.natAbs)) (sg false (x.natAbs%y.natAbs)) hy ?_ ?_ ?_
 ·exact⟨this.1.symm,this.2.symm⟩
 ·rw[h0] at e ⊢
  rw[hx] at h1 ⊢;generalize x.natAbs / y.natAbs=q at *;generalize x.natAbs=a at *;generalize y.natAbs=c at *;generalize ng y=p at *;have e':(q:Int)*(c:Int)=(a:Int):=by rw[←e];simp
  subst h1 h2
  cases p<;>simp[sg,Int.neg_mul,Int.mul_neg]<;>omega
 ·rw[h0];simp[sg]
 ·rw[h0];simp only[sg];simp;omega
theorem div_neg1 {x y:Int} (hy:y≠0) (hx:ng x=true) (h0:0<x.natAbs%y.natAbs):sg (!(ng x==ng y)) (x.natAbs / y.natAbs+1)=x / y∧sg false (y.natAbs-x.natAbs%y.natAbs)=x%y:=by
 have e:=Nat.div_add_mod' x.natAbs y.natAbs;have hl:=Nat.mod_lt x.natAbs (show y.natAbs > 0 by omega)
 have h1:=sg_ng x;have h2:=sg_ng y;have:=@dm_unique x y (sg (!(ng x==ng y)) (x.natAbs / y.natAbs+1)) (sg false (y.natAbs-x.natAbs%y.natAbs)) hy ?_ ?_ ?_
 ·exact⟨this.1.symm,this.2.symm⟩
 ·rw[hx] at h1 ⊢
  generalize x.natAbs / y.natAbs=q at *;generalize x.natAbs%y.natAbs=r at *;generalize x.natAbs=a at *;generalize y.natAbs=c at *;generalize ng y=p at *;have e':(q:Int)*(c:Int)+(r:Int)=(a:Int):=by rw[←e];simp
  have e2:((c-r:Nat):Int)=(c:Int)-r:=by omega
  have e3:((q:Int)+1)*(c:Int)=(q:Int)*(c:Int)+(c:Int):=by rw[Int.add_mul,Int.one_mul]
  subst h1 h2
  cases p
  ·simp[sg,Int.neg_mul,e2,e3];omega
  ·have e4 : -((c:Int)*((q:Int)+1)) = -((q:Int)*(c:Int))-c:=by rw[Int.mul_comm,e3];omega
   simp[sg,Int.mul_neg,e2,e3];omega
 ·simp[sg]
 ·simp only[sg];simp;omega
theorem res_div (W:World) (tmps:Array Value) (g g':Nat) (q:Bool) {b:Bool} {A:Option Addr} {n c:Nat} {b':Bool} {A':Option Addr} {n' c':Nat} (ht:tmps.getD 4 undef=.pointer (some ⟨g,0,none⟩)) (ht2:tmps.getD 5 undef=.pointer (some ⟨g',0,none⟩)) (ht3:tmps.getD 6 undef=.bool q) (h:Bx W g b A n c) (h':Bx W g' b' A' n' c') :
  (results Tryz.f124 tmps).run Tryz.prog W=.ok (.tuple #[.agg #[.bool b,.slice A n c],.agg #[.bool b',.slice A' n' c'],.bool q]) W:=by
 obtain⟨c0,c1,_⟩:=h.at_;obtain⟨d0,d1,_⟩:=h'.at_;have e1:tmps[4]?.getD undef=.pointer (some ⟨g,0,none⟩):=by rw[←ht];simp[Array.getD_eq_getD_getElem?]
 have e2:tmps[5]?.getD undef=.pointer (some ⟨g',0,none⟩):=by rw[←ht2];simp[Array.getD_eq_getD_getElem?]
 have e3:tmps[6]?.getD undef=.bool q:=by rw[←ht3];simp[Array.getD_eq_getD_getElem?]
 simp[results,Tryz.results124,go_sem,e1,e2,e3,c0,c1,d0,d1]
theorem divI_any (b:Bool) (A:Option Addr) (n c:Nat) (xs:List Nat) (b':Bool) (A':Option Addr) (n' c':Nat) (ys:List Nat) (w:World) (h1:Rd w A n c xs) (h2:Rd w A' n' c' ys) (hn:n≤50000000) (hn':n'≤50000000) (hz:iv b' ys≠0) :
  Calls Tryz.prog 124 #[.agg #[.bool b,.slice A n c],.agg #[.bool b',.slice A' n' c']] w (RetD2 ((iv b xs) / (iv b' ys)) ((iv b xs)%(iv b' ys)) w):=by
 have hk1:=fun W (h:Rd W A n c xs)=>knownI_any b A n c xs W h (by omega)
 have hk2:=fun W (h:Rd W A' n' c' ys)=>knownI_any b' A' n' c' ys W h (by omega)
 have l1:=iv_abs (b:=b) h1.sm (Nat.le_of_eq h1.len);have l2:=iv_abs (b:=b') h2.sm (Nat.le_of_eq h2.len);generalize iv b xs=z1 at *;generalize iv b' ys=z2 at *;replace hk1:=Lib.hid hk1;replace hk2:=Lib.hid hk2;replace l1:=Lib.hid l1;replace l2:=Lib.hid l2;replace hz:=Lib.hid hz;have X:=B4.new w b A n c b' A' n' c';have R1:=h1.below X.bel;have R2:=h2.below X.bel;clear h1 h2;go_enter Tryz.func124,Tryz.ntmps124
 go_upto_region 1 with fail
 generalize (((w.alloc (.cells #[.bool b,.slice A n c] 31)).alloc (.cells #[.bool b',.slice A' n' c'] 31)).alloc (.cells #[.bool false,.slice none 0 0] 31)).alloc (.cells #[.bool false,.slice none 0 0] 31)=W0 at X R1 R2 ⊢;obtain⟨a0,a1,a2,a3⟩:=X.x1.at_;obtain⟨d0,d1,d2,d3⟩:=X.x2.at_;replace X:=Lib.hid X;replace R1:=Lib.hid R1;replace R2:=Lib.hid R2
 go_cut [] (fun wx=>∃ A1 n1 c1 A2 n2 c2,B4 w wx (ng z1) A1 n1 c1 (ng z2) A2 n2 c2∧Rd wx A1 n1 c1 (limbs z1.natAbs)∧Rd wx A2 n2 c2 (limbs z2.natAbs))
 case first=>
  have XD:=Lib.hid X.out.drew;have RD1:=Lib.hid (Rd.drew1 R1.out);have RD2:=Lib.hid (Rd.drew1 R2.out)
  go_region_with (first
   | (go_at_call_of 112 (Value.agg #[.bool b,.slice A n c]);refine (hk1.out _ (by exact RD1.out)).mono ?_;rintro e w1 ⟨A1,n1,c1,rfl,Q1,B1⟩;have X1:=XD.out.on B1;have R2':=RD2.out.below B1;obtain⟨d0',d1',d2',d3'⟩:=X1.x2.at_)
   | (go_at_call_of 112 (Value.agg #[.bool b',.slice A' n' c']);refine (hk2.out _ (by exact R2')).mono ?_;rintro e w2 ⟨A2,n2,c2,rfl,Q2,B2⟩;have X2:=X1.on B2;obtain⟨f0,f1,f2,f3⟩:=X2.x1.at_;obtain⟨k0,k1,k2,k3⟩:=X2.x2.at_))
  all_goals
   have Y:=Lib.hid (X2.two_puts (ng z1) A1 n1 c1 (ng z2) A2 n2 c2);have P1:=Lib.hid (((Q1.below B2).put X2.x1 (.bool (ng z1)) (.slice A1 n1 c1)).put (X2.put1 (ng z1) A1 n1 c1).x2 (.bool (ng z2)) (.slice A2 n2 c2));have P2:=Lib.hid ((Q2.put X2.x1 (.bool (ng z1)) (.slice A1 n1 c1)).put (X2.put1 (ng z1) A1 n1 c1).x2 (.bool (ng z2)) (.slice A2 n2 c2));clear a0 a1 a2 a3 d0 d1 d2 d3 d0' d1' d2' d3' f0 f1 f2 f3 k0 k1 k2 k3 Q1 Q2 B1 B2 X1 X2 R2'
   go_wp2_with fail
   go_meet
   exact⟨_,_,_,_,_,_,Y.out,P1.out,P2.out⟩
 case rest=>
  obtain⟨A1,n1,c1,A2,n2,c2,Y,P1,P2⟩:=hcut;clear X R1 R2 a0 a1 a2 a3 d0 d1 d2 d3 hk1 hk2;have hl1:n1≤50000000:=by have:=l1.out;have:=P1.len;omega
  have hl2:n2≤50000000:=by have:=l2.out;have:=P2.len;omega
  obtain⟨a0,a1,a2,a3⟩:=Y.x1.at_;obtain⟨d0,d1,d2,d3⟩:=Y.x2.at_;replace hz:=hz.out;have hpos:0<z2.natAbs:=by omega
  have hd:=div_any _ _ _ (limbs z1.natAbs) _ _ _ (limbs z2.natAbs) wc P1 P2 (by omega) (by omega) (by rw[num_limbs];exact hpos)
  rw[num_limbs,num_limbs] at hd;replace hd:=Lib.hid hd;have hlq:(limbs (z1.natAbs / z2.natAbs)).length≤50000000:=by
   have h5:=len_le (x:=z1.natAbs) (y:=z1.natAbs / z2.natAbs) (Nat.div_le_self _ _);have:=l1.out
   omega
  have hlr:(limbs (z1.natAbs%z2.natAbs)).length≤50000000:=by
   have h5:=len_le (x:=z2.natAbs) (y:=z1.natAbs%z2.natAbs) (Nat.le_of_lt (Nat.mod_lt _ hpos));have:=l2.out
   omega
  have hle:=Lib.hid (Nat.le_of_lt (Nat.mod_lt z1.natAbs hpos));replace hlq:=Lib.hid hlq;replace hlr:=Lib.hid hlr;replace Y:=Lib.hid Y;replace P2:=Lib.hid P2;clear P1 hpos
  by_cases hA:ng z1=true∧0<z1.natAbs%z2.natAbs
  ·obtain⟨hg,hr0⟩:=hA
   have hm:=Lib.hid (div_neg1 hz hg hr0);rw[hg] at hm a0;rw[show (!(true==ng z2)) = !(ng z2) by simp] at hm
   have hnr:Hid (∀ W A n c,Rd W A n c (limbs (z1.natAbs%z2.natAbs))→0<n):=Lib.hid (fun W A n c h=>by have:=h.len;rw[limbs_pos hr0] at this;simp at this;omega)
   clear hz hr0;replace hg:=Lib.hid hg
   go_wp2_with (go_at_call 132;refine hd.out.mono ?_;rintro e w3 ⟨A3,n3,c3,A4,n4,c4,rfl,Qq,Qr,B3'⟩;refine Hid.out ?_)
   refine Lib.hid ?_
   have hn4:=hnr.out _ _ _ _ Qr;have hn4i:(0:Int)<(n4:Int):=by omega
   have hn3:n3≤50000000:=by have:=hlq.out;have:=Qq.len;omega
   have hn4b:n4≤50000000:=by have:=hlr.out;have:=Qr.len;omega
   replace Y:=Y.out.on B3';replace P2:=Lib.hid (P2.out.below B3');rw[hg.out] at Y;obtain⟨f0,f1,f2,f3⟩:=Y.x1.at_;obtain⟨k0,k1,k2,k3⟩:=Y.x2.at_;replace Y:=Lib.hid Y;replace Qq:=Lib.hid Qq;replace Qr:=Lib.hid Qr;clear B3' a0 a1 a2 a3 d0 d1 d2 d3 hd hnr hn4;have hfu:=fromUint_any 1 w3 (by omega)
   replace hfu:=Lib.hid hfu
   go_wp2_with (go_at_call 98;refine hfu.out.mono ?_;rintro e w4 ⟨A7,n7,c7,rfl,Q7,B7⟩;refine Hid.out ?_)
   refine Lib.hid ?_
   replace Y:=Lib.hid (Y.out.on B7);replace P2:=Lib.hid (P2.out.below B7);replace Qr:=Lib.hid (Qr.out.below B7);have hn7:n7≤1:=by have:=Q7.len;have:=len_of_lt (x:=1) (n:=1) (by omega);omega
   have had:=add_any A3 n3 c3 (limbs (z1.natAbs / z2.natAbs)) A7 n7 c7 (limbs 1) w4 (Qq.out.below B7) Q7 (by omega) (by omega)
   rw[num_limbs,num_limbs] at had;replace had:=Lib.hid had;clear f0 f1 f2 f3 k0 k1 k2 k3 B7 Q7 hfu
   go_wp2_with (go_at_call 125;refine had.out.mono ?_;rintro e w5 ⟨A5,n5,c5,rfl,Q5,B5⟩;refine Hid.out ?_)
   refine Lib.hid ?_
   replace Y:=Y.out.on B5;obtain⟨f0,f1,f2,f3⟩:=Y.x1.at_;obtain⟨k0,k1,k2,k3⟩:=Y.x2.at_;replace P2:=P2.out.below B5;replace Qr:=Qr.out.below B5;have hsb:=Lib.hid (sub_ge_b _ _ _ _ _ _ _ _ _ 100000000 P2 Qr (by omega) (by omega) (by omega) hle.out)
   replace Y:=Lib.hid Y;replace Q5:=Lib.hid Q5;clear P2 Qr B5 Qq
   go_wp2_with (go_at_call 126;refine hsb.out.mono ?_;rintro e w6 ⟨A6,n6,c6,rfl,Qr,B6,_⟩;refine Hid.out ?_)
   refine Lib.hid ?_
   replace Y:=Y.out.on B6;clear f0 f1 f2 f3 k0 k1 k2 k3;obtain⟨f0,f1,f2,f3⟩:=Y.x1.at_;obtain⟨k0,k1,k2,k3⟩:=Y.x2.at_;have Qq:=Lib.hid (Q5.out.below B6);replace Y:=Lib.hid Y;replace Qr:=Lib.hid Qr;clear Q5 B6 hsb
   go_wp2_with (go_at_call 97;refine (signedI_any _ _ _ _ (z1.natAbs / z2.natAbs+1) _ (by exact Qq.out)).mono ?_;rw[hm.out.1];rintro e w8 ⟨A8,n8,c8,rfl,Q8,B8⟩;refine Hid.out ?_)
   refine Lib.hid ?_
   replace Y:=Lib.hid (Y.out.on B8);replace Qr:=Lib.hid (Qr.out.below B8);replace Q8:=Lib.hid Q8;clear B8 Qq
   go_wp2_with (go_at_call 97;refine (signedI_any _ _ _ _ (z2.natAbs-z1.natAbs%z2.natAbs) _ (by exact Qr.out)).mono ?_;rw[hm.out.2];rintro e w9 ⟨A9,n9,c9,rfl,Q9,B9⟩;refine Hid.out ?_)
   refine Lib.hid ?_
   have Y9:=Y.out.on B9;have Q8':=Q8.out.below B9;clear Q8 B9 Qr Y;obtain⟨v0,v1,v2,v3⟩:=Y9.x3.at_;obtain⟨y0,y1,y2,y3⟩:=Y9.x4.at_;have Z:=Lib.hid (Y9.res (ng (z1 / z2)) A8 n8 c8 (ng (z1%z2)) A9 n9 c9);have QA:=Lib.hid ((Q8'.put Y9.x3 (.bool (ng (z1 / z2))) (.slice A8 n8 c8)).put (Y9.x4f (ng (z1 / z2)) A8 n8 c8) (.bool (ng (z1%z2))) (.slice A9 n9 c9));have QB:=Lib.hid ((Q9.put Y9.x3 (.bool (ng (z1 / z2))) (.slice A8 n8 c8)).put (Y9.x4f (ng (z1 / z2)) A8 n8 c8) (.bool (ng (z1%z2))) (.slice A9 n9 c9))
   clear Y9 Q8' Q9;go_wp2;refine bodyPost_ret (res_div _ _ (w.heap.size+1+1) (w.heap.size+1+1+1) true rfl rfl rfl Z.out.1 Z.out.2.1) rfl ?_
   exact⟨_,_,_,_,_,_,rfl,QA.out,QB.out,Z.out.2.2⟩
  ·have hm:Hid (sg (!(ng z1==ng z2)) (z1.natAbs / z2.natAbs)=z1 / z2∧sg false (z1.natAbs%z2.natAbs)=z1%z2):=by
    cases hg:ng z1
    ·have:=div_pos hz hg;rw[hg] at this;exact Lib.hid this
    ·have:=div_neg0 hz hg (by rcases Nat.eq_zero_or_pos (z1.natAbs%z2.natAbs) with h | h;exact h;exact absurd ⟨hg,h⟩ hA);rw[hg] at this;exact Lib.hid this
   have hcase:Hid (∀ W A n c,Rd W A n c (limbs (z1.natAbs%z2.natAbs))→ng z1=false∨(ng z1=true∧n=0)):=by
    refine Lib.hid (fun W A n c h=>?_)
    cases hg:ng z1
    ·exact .inl rfl
    ·refine .inr ⟨rfl,?_⟩
     have h0:z1.natAbs%z2.natAbs=0:=by rcases Nat.eq_zero_or_pos (z1.natAbs%z2.natAbs) with h | h;exact h;exact absurd ⟨hg,h⟩ hA
     have:=h.len;rw[h0,limbs_zero] at this;exact this.symm
   clear hA hz
   go_wp2_with (go_at_call 132;refine hd.out.mono ?_;rintro e w3 ⟨A3,n3,c3,A4,n4,c4,rfl,Qq,Qr,B3'⟩;refine Hid.out ?_)
   refine Lib.hid ?_
   have hc2:=hcase.out _ _ _ _ Qr;replace Y:=Y.out.on B3';clear B3' a0 a1 a2 a3 d0 d1 d2 d3 hd hcase P2
   rcases hc2 with hg | ⟨hg,rfl⟩
   all_goals
    rw[hg] at Y hm
    first
     | rw[show (!(true==ng z2)) = !(ng z2) by simp] at hm
     | rw[show (!(false==ng z2))=ng z2 by simp] at hm
    obtain⟨f0,f1,f2,f3⟩:=Y.x1.at_;obtain⟨k0,k1,k2,k3⟩:=Y.x2.at_;clear hg;replace Y:=Lib.hid Y;replace Qq:=Lib.hid Qq;replace Qr:=Lib.hid Qr
    go_wp2_with (go_at_call 97;refine (signedI_any _ _ _ _ (z1.natAbs / z2.natAbs) _ (by exact Qq.out)).mono ?_;rw[hm.out.1];rintro e w8 ⟨A8,n8,c8,rfl,Q8,B8⟩;refine Hid.out ?_)
    refine Lib.hid ?_
    replace Y:=Lib.hid (Y.out.on B8);replace Qr:=Lib.hid (Qr.out.below B8);replace Q8:=Lib.hid Q8;clear B8 Qq
    go_wp2_with (go_at_call 97;refine (signedI_any _ _ _ _ (z1.natAbs%z2.natAbs) _ (by exact Qr.out)).mono ?_;rw[hm.out.2];rintro e w9 ⟨A9,n9,c9,rfl,Q9,B9⟩;refine Hid.out ?_)
    refine Lib.hid ?_
    have Y9:=Y.out.on B9;have Q8':=Q8.out.below B9;clear Q8 B9 Qr Y;obtain⟨v0,v1,v2,v3⟩:=Y9.x3.at_;obtain⟨y0,y1,y2,y3⟩:=Y9.x4.at_;have Z:=Lib.hid (Y9.res (ng (z1 / z2)) A8 n8 c8 (ng (z1%z2)) A9 n9 c9);have QA:=Lib.hid ((Q8'.put Y9.x3 (.bool (ng (z1 / z2))) (.slice A8 n8 c8)).put (Y9.x4f (ng (z1 / z2)) A8 n8 c8) (.bool (ng (z1%z2))) (.slice A9 n9 c9));have QB:=Lib.hid ((Q9.put Y9.x3 (.bool (ng (z1 / z2))) (.slice A8 n8 c8)).put (Y9.x4f (ng (z1 / z2)) A8 n8 c8) (.bool (ng (z1%z2))) (.slice A9 n9 c9))
    clear Y9 Q8' Q9;go_wp2;refine bodyPost_ret (res_div _ _ (w.heap.size+1+1) (w.heap.size+1+1+1) true rfl rfl rfl Z.out.1 Z.out.2.1) rfl ?_
    exact⟨_,_,_,_,_,_,rfl,QA.out,QB.out,Z.out.2.2⟩
end Go.Proofs.YthlinhconnmbcaaGreat
namespace Go.Proofs.YthlinhconnmbcaaGreat
open Go.RowKit
theorem res_rdiv (W:World) (tmps:Array Value) (g g':Nat) (q:Bool) {b:Bool} {A:Option Addr} {n c:Nat} {b':Bool} {A':Option Addr} {n' c':Nat} (ht:tmps.getD 4 undef=.pointer (some ⟨g,0,none⟩)) (ht2:tmps.getD 5 undef=.pointer (some ⟨g',0,none⟩)) (ht3:tmps.getD 6 undef=.bool q) (h:Bx W g b A n c) (h':Bx W g' b' A' n' c') :
  (results Tryz.f71 tmps).run Tryz.prog W=.ok (.tuple #[.agg #[.bool b,.slice A n c],.agg #[.bool b',.slice A' n' c'],.bool q]) W:=by
 obtain⟨c0,c1,_⟩:=h.at_;obtain⟨d0,d1,_⟩:=h'.at_;have e1:tmps[4]?.getD undef=.pointer (some ⟨g,0,none⟩):=by rw[←ht];simp[Array.getD_eq_getD_getElem?]
 have e2:tmps[5]?.getD undef=.pointer (some ⟨g',0,none⟩):=by rw[←ht2];simp[Array.getD_eq_getD_getElem?]
 have e3:tmps[6]?.getD undef=.bool q:=by rw[←ht3];simp[Array.getD_eq_getD_getElem?]
 simp[results,Tryz.results71,go_sem,e1,e2,e3,c0,c1,d0,d1]
theorem rdivI_any (b:Bool) (A:Option Addr) (n c:Nat) (xs:List Nat) (b':Bool) (A':Option Addr) (n' c':Nat) (ys:List Nat) (w:World) (h1:Rd w A n c xs) (h2:Rd w A' n' c' ys) (hn:n≤50000000) (hn':n'≤50000000) (hz:iv b' ys≠0) :
  Calls Tryz.prog 71 #[.agg #[.bool b,.slice A n c],.agg #[.bool b',.slice A' n' c']] w (RetD2 ((iv b xs) / (iv b' ys)) ((iv b xs)%(iv b' ys)) w):=by
 have hk1:=fun W (h:Rd W A n c xs)=>takeI_any b A n c xs W h (by omega)
 have hk2:=fun W (h:Rd W A' n' c' ys)=>takeI_any b' A' n' c' ys W h (by omega)
 have l1:=iv_abs (b:=b) h1.sm (Nat.le_of_eq h1.len);have l2:=iv_abs (b:=b') h2.sm (Nat.le_of_eq h2.len);generalize iv b xs=z1 at *;generalize iv b' ys=z2 at *;replace hk1:=Lib.hid hk1;replace hk2:=Lib.hid hk2;replace l1:=Lib.hid l1;replace l2:=Lib.hid l2;replace hz:=Lib.hid hz;have X:=B4.new w b A n c b' A' n' c';have R1:=h1.below X.bel;have R2:=h2.below X.bel;clear h1 h2;go_enter Tryz.func71,Tryz.ntmps71
 go_upto_region 1 with fail
 generalize (((w.alloc (.cells #[.bool b,.slice A n c] 31)).alloc (.cells #[.bool b',.slice A' n' c'] 31)).alloc (.cells #[.bool false,.slice none 0 0] 31)).alloc (.cells #[.bool false,.slice none 0 0] 31)=W0 at X R1 R2 ⊢;obtain⟨a0,a1,a2,a3⟩:=X.x1.at_;obtain⟨d0,d1,d2,d3⟩:=X.x2.at_;replace X:=Lib.hid X;replace R1:=Lib.hid R1;replace R2:=Lib.hid R2
 go_cut [] (fun wx=>∃ A1 n1 c1 A2 n2 c2,B4 w wx (ng z1) A1 n1 c1 (ng z2) A2 n2 c2∧Rd wx A1 n1 c1 (limbs z1.natAbs)∧Rd wx A2 n2 c2 (limbs z2.natAbs))
 case first=>
  have XD:=Lib.hid X.out.drew;have RD1:=Lib.hid (Rd.drew1 R1.out);have RD2:=Lib.hid (Rd.drew1 R2.out)
  go_region_with (first
   | (go_at_call_of 67 (Value.agg #[.bool b,.slice A n c]);refine (hk1.out _ (by exact RD1.out)).mono ?_;rintro e w1 ⟨A1,n1,c1,rfl,Q1,B1⟩;have X1:=XD.out.on B1;have R2':=RD2.out.below B1;obtain⟨d0',d1',d2',d3'⟩:=X1.x2.at_)
   | (go_at_call_of 67 (Value.agg #[.bool b',.slice A' n' c']);refine (hk2.out _ (by exact R2')).mono ?_;rintro e w2 ⟨A2,n2,c2,rfl,Q2,B2⟩;have X2:=X1.on B2;obtain⟨f0,f1,f2,f3⟩:=X2.x1.at_;obtain⟨k0,k1,k2,k3⟩:=X2.x2.at_))
  all_goals
   have Y:=Lib.hid (X2.two_puts (ng z1) A1 n1 c1 (ng z2) A2 n2 c2);have P1:=Lib.hid (((Q1.below B2).put X2.x1 (.bool (ng z1)) (.slice A1 n1 c1)).put (X2.put1 (ng z1) A1 n1 c1).x2 (.bool (ng z2)) (.slice A2 n2 c2));have P2:=Lib.hid ((Q2.put X2.x1 (.bool (ng z1)) (.slice A1 n1 c1)).put (X2.put1 (ng z1) A1 n1 c1).x2 (.bool (ng z2)) (.slice A2 n2 c2));clear a0 a1 a2 a3 d0 d1 d2 d3 d0' d1' d2' d3' f0 f1 f2 f3 k0 k1 k2 k3 Q1 Q2 B1 B2 X1 X2 R2'
   go_wp2_with fail
   go_meet
   exact⟨_,_,_,_,_,_,Y.out,P1.out,P2.out⟩
 case rest=>
  obtain⟨A1,n1,c1,A2,n2,c2,Y,P1,P2⟩:=hcut;clear X R1 R2 a0 a1 a2 a3 d0 d1 d2 d3 hk1 hk2;have hl1:n1≤50000000:=by have:=l1.out;have:=P1.len;omega
  have hl2:n2≤50000000:=by have:=l2.out;have:=P2.len;omega
  obtain⟨a0,a1,a2,a3⟩:=Y.x1.at_;obtain⟨d0,d1,d2,d3⟩:=Y.x2.at_;replace hz:=hz.out;have hpos:0<z2.natAbs:=by omega
  have hd:=rdiv_any _ _ _ (limbs z1.natAbs) _ _ _ (limbs z2.natAbs) wc P1 P2 (by omega) (by omega) (by rw[num_limbs];exact hpos)
  rw[num_limbs,num_limbs] at hd;replace hd:=Lib.hid hd;have hlq:(limbs (z1.natAbs / z2.natAbs)).length≤50000000:=by
   have h5:=len_le (x:=z1.natAbs) (y:=z1.natAbs / z2.natAbs) (Nat.div_le_self _ _);have:=l1.out
   omega
  have hlr:(limbs (z1.natAbs%z2.natAbs)).length≤50000000:=by
   have h5:=len_le (x:=z2.natAbs) (y:=z1.natAbs%z2.natAbs) (Nat.le_of_lt (Nat.mod_lt _ hpos));have:=l2.out
   omega
  have hle:=Lib.hid (Nat.le_of_lt (Nat.mod_lt z1.natAbs hpos));replace hlq:=Lib.hid hlq;replace hlr:=Lib.hid hlr;replace Y:=Lib.hid Y;replace P2:=Lib.hid P2;clear P1 hpos
  by_cases hA:ng z1=true∧0<z1.natAbs%z2.natAbs
  ·obtain⟨hg,hr0⟩:=hA
   have hm:=Lib.hid (div_neg1 hz hg hr0);rw[hg] at hm a0;rw[show (!(true==ng z2)) = !(ng z2) by simp] at hm
   have hnr:Hid (∀ W A n c,Rd W A n c (limbs (z1.natAbs%z2.natAbs))→0<n):=Lib.hid (fun W A n c h=>by have:=h.len;rw[limbs_pos hr0] at this;simp at this;omega)
   clear hz hr0;replace hg:=Lib.hid hg
   go_wp2_with (go_at_call 94;refine hd.out.mono ?_;rintro e w3 ⟨A3,n3,c3,A4,n4,c4,rfl,Qq,Qr,B3'⟩;refine Hid.out ?_)
   refine Lib.hid ?_
   have hn4:=hnr.out _ _ _ _ Qr;have hn4i:(0:Int)<(n4:Int):=by omega
   have hn3:n3≤50000000:=by have:=hlq.out;have:=Qq.len;omega
   have hn4b:n4≤50000000:=by have:=hlr.out;have:=Qr.len;omega
   replace Y:=Y.out.on B3';replace P2:=Lib.hid (P2.out.below B3');rw[hg.out] at Y;obtain⟨f0,f1,f2,f3⟩:=Y.x1.at_;obtain⟨k0,k1,k2,k3⟩:=Y.x2.at_;replace Y:=Lib.hid Y;replace Qq:=Lib.hid Qq;replace Qr:=Lib.hid Qr;clear B3' a0 a1 a2 a3 d0 d1 d2 d3 hd hnr hn4;have had:=radd_any A3 n3 c3 (limbs (z1.natAbs / z2.natAbs)) (some ⟨w3.heap.size,0,none⟩) 1 1 [1] _ (Qq.out.alloc (.cells #[.int .u32 1] 92)) (lit1 w3 w3.heap.size 1 1 rfl rfl (by omega)) (by omega) (by omega)
   rw[num_limbs,show num [1]=1 from by decide] at had
   replace had:=Lib.hid had;replace Y:=Lib.hid (Y.out.on ((Below.refl w3.heap.size w3).alloc (Nat.le_refl _) (.cells #[.int .u32 1] 92)));replace P2:=Lib.hid (P2.out.alloc (.cells #[.int .u32 1] 92));replace Qr:=Lib.hid (Qr.out.alloc (.cells #[.int .u32 1] 92))
   go_wp2_with (go_at_call 76;refine had.out.mono ?_;rintro e w5 ⟨A5,n5,c5,rfl,Q5,B5⟩;refine Hid.out ?_)
   refine Lib.hid ?_
   clear f0 f1 f2 f3 k0 k1 k2 k3;replace Y:=Y.out.on B5;obtain⟨f0,f1,f2,f3⟩:=Y.x1.at_;obtain⟨k0,k1,k2,k3⟩:=Y.x2.at_;replace P2:=P2.out.below B5;replace Qr:=Qr.out.below B5;have hsb:=Lib.hid (rsub_ge_b _ _ _ _ _ _ _ _ _ P2 Qr (by omega) (by omega) hle.out)
   replace Y:=Lib.hid Y;replace Q5:=Lib.hid Q5;clear P2 Qr B5 Qq
   go_wp2_with (go_at_call 95;refine hsb.out.mono ?_;rintro e w6 ⟨A6,n6,c6,rfl,Qr,B6⟩;refine Hid.out ?_)
   refine Lib.hid ?_
   replace Y:=Y.out.on B6;clear f0 f1 f2 f3 k0 k1 k2 k3;obtain⟨f0,f1,f2,f3⟩:=Y.x1.at_;obtain⟨k0,k1,k2,k3⟩:=Y.x2.at_;have Qq:=Lib.hid (Q5.out.below B6);replace Y:=Lib.hid Y;replace Qr:=Lib.hid Qr;clear Q5 B6 hsb
   go_wp2_with (go_at_call 73;refine (rsignedI_any _ _ _ _ (z1.natAbs / z2.natAbs+1) _ (by exact Qq.out)).mono ?_;rw[hm.out.1];rintro e w8 ⟨A8,n8,c8,rfl,Q8,B8⟩;refine Hid.out ?_)
   refine Lib.hid ?_
   replace Y:=Lib.hid (Y.out.on B8);replace Qr:=Lib.hid (Qr.out.below B8);replace Q8:=Lib.hid Q8;clear B8 Qq
   go_wp2_with (go_at_call 73;refine (rsignedI_any _ _ _ _ (z2.natAbs-z1.natAbs%z2.natAbs) _ (by exact Qr.out)).mono ?_;rw[hm.out.2];rintro e w9 ⟨A9,n9,c9,rfl,Q9,B9⟩;refine Hid.out ?_)
   refine Lib.hid ?_
   have Y9:=Y.out.on B9;have Q8':=Q8.out.below B9;clear Q8 B9 Qr Y;obtain⟨v0,v1,v2,v3⟩:=Y9.x3.at_;obtain⟨y0,y1,y2,y3⟩:=Y9.x4.at_;have Z:=Lib.hid (Y9.res (ng (z1 / z2)) A8 n8 c8 (ng (z1%z2)) A9 n9 c9);have QA:=Lib.hid ((Q8'.put Y9.x3 (.bool (ng (z1 / z2))) (.slice A8 n8 c8)).put (Y9.x4f (ng (z1 / z2)) A8 n8 c8) (.bool (ng (z1%z2))) (.slice A9 n9 c9));have QB:=Lib.hid ((Q9.put Y9.x3 (.bool (ng (z1 / z2))) (.slice A8 n8 c8)).put (Y9.x4f (ng (z1 / z2)) A8 n8 c8) (.bool (ng (z1%z2))) (.slice A9 n9 c9))
   clear Y9 Q8' Q9;go_wp2;refine bodyPost_ret (res_rdiv _ _ (w.heap.size+1+1) (w.heap.size+1+1+1) true rfl rfl rfl Z.out.1 Z.out.2.1) rfl ?_
   exact⟨_,_,_,_,_,_,rfl,QA.out,QB.out,Z.out.2.2⟩
  ·have hm:Hid (sg (!(ng z1==ng z2)) (z1.natAbs / z2.natAbs)=z1 / z2∧sg false (z1.natAbs%z2.natAbs)=z1%z2):=by
    cases hg:ng z1
    ·have:=div_pos hz hg;rw[hg] at this;exact Lib.hid this
    ·have:=div_neg0 hz hg (by rcases Nat.eq_zero_or_pos (z1.natAbs%z2.natAbs) with h | h;exact h;exact absurd ⟨hg,h⟩ hA);rw[hg] at this;exact Lib.hid this
   have hcase:Hid (∀ W A n c,Rd W A n c (limbs (z1.natAbs%z2.natAbs))→ng z1=false∨(ng z1=true∧n=0)):=by
    refine Lib.hid (fun W A n c h=>?_)
    cases hg:ng z1
    ·exact .inl rfl
    ·refine .inr ⟨rfl,?_⟩
     have h0:z1.natAbs%z2.natAbs=0:=by rcases Nat.eq_zero_or_pos (z1.natAbs%z2.natAbs) with h | h;exact h;exact absurd ⟨hg,h⟩ hA
     have:=h.len;rw[h0,limbs_zero] at this;exact this.symm
   clear hA hz
   go_wp2_with (go_at_call 94;refine hd.out.mono ?_;rintro e w3 ⟨A3,n3,c3,A4,n4,c4,rfl,Qq,Qr,B3'⟩;refine Hid.out ?_)
   refine Lib.hid ?_
   have hc2:=hcase.out _ _ _ _ Qr;replace Y:=Y.out.on B3';clear B3' a0 a1 a2 a3 d0 d1 d2 d3 hd hcase P2
   rcases hc2 with hg | ⟨hg,rfl⟩
   all_goals
    rw[hg] at Y hm
    first
     | rw[show (!(true==ng z2)) = !(ng z2) by simp] at hm
     | rw[show (!(false==ng z2))=ng z2 by simp] at hm
    obtain⟨f0,f1,f2,f3⟩:=Y.x1.at_;obtain⟨k0,k1,k2,k3⟩:=Y.x2.at_;clear hg;replace Y:=Lib.hid Y;replace Qq:=Lib.hid Qq;replace Qr:=Lib.hid Qr
    go_wp2_with (go_at_call 73;refine (rsignedI_any _ _ _ _ (z1.natAbs / z2.natAbs) _ (by exact Qq.out)).mono ?_;rw[hm.out.1];rintro e w8 ⟨A8,n8,c8,rfl,Q8,B8⟩;refine Hid.out ?_)
    refine Lib.hid ?_
    replace Y:=Lib.hid (Y.out.on B8);replace Qr:=Lib.hid (Qr.out.below B8);replace Q8:=Lib.hid Q8;clear B8 Qq
    go_wp2_with (go_at_call 73;refine (rsignedI_any _ _ _ _ (z1.natAbs%z2.natAbs) _ (by exact Qr.out)).mono ?_;rw[hm.out.2];rintro e w9 ⟨A9,n9,c9,rfl,Q9,B9⟩;refine Hid.out ?_)
    refine Lib.hid ?_
    have Y9:=Y.out.on B9;have Q8':=Q8.out.below B9;clear Q8 B9 Qr Y;obtain⟨v0,v1,v2,v3⟩:=Y9.x3.at_;obtain⟨y0,y1,y2,y3⟩:=Y9.x4.at_;have Z:=Lib.hid (Y9.res (ng (z1 / z2)) A8 n8 c8 (ng (z1%z2)) A9 n9 c9);have QA:=Lib.hid ((Q8'.put Y9.x3 (.bool (ng (z1 / z2))) (.slice A8 n8 c8)).put (Y9.x4f (ng (z1 / z2)) A8 n8 c8) (.bool (ng (z1%z2))) (.slice A9 n9 c9));have QB:=Lib.hid ((Q9.put Y9.x3 (.bool (ng (z1 / z2))) (.slice A8 n8 c8)).put (Y9.x4f (ng (z1 / z2)) A8 n8 c8) (.bool (ng (z1%z2))) (.slice A9 n9 c9))
    clear Y9 Q8' Q9;go_wp2;refine bodyPost_ret (res_rdiv _ _ (w.heap.size+1+1) (w.heap.size+1+1+1) true rfl rfl rfl Z.out.1 Z.out.2.1) rfl ?_
    exact⟨_,_,_,_,_,_,rfl,QA.out,QB.out,Z.out.2.2⟩
end Go.Proofs.YthlinhconnmbcaaGreat
namespace Go.Proofs.YthlinhconnmbcaaGreat
open Go.RowKit
def tk (z:Int):Bool:=decide (-9223372036854775808≤z∧z≤9223372036854775807)
def ti (z:Int):Int:=if tk z then z else 0
theorem tk_yes {z:Int} (h0 : -9223372036854775808≤z) (h1:z≤9223372036854775807):tk z=true∧ti z=z:=by
 have h:tk z=true:=decide_eq_true ⟨h0,h1⟩;exact⟨h,by unfold ti;rw[h];rfl⟩
theorem tk_no {z:Int} (h:z < -9223372036854775808∨9223372036854775807<z):tk z=false∧ti z=0:=by
 have h:tk z=false:=decide_eq_false (by omega)
 exact⟨h,by unfold ti;rw[h];rfl⟩
theorem toInt_any (b:Bool) (A:Option Addr) (n c:Nat) (xs:List Nat) (w:World) (h:Rd w A n c xs) (hn:n≤100000000) :
  Calls Tryz.prog 128 #[.agg #[.bool b,.slice A n c]] w fun e w'=>e=.returned (.tuple #[.int .i64 (ti (iv b xs)),.bool (tk (iv b xs))])∧Below w.heap.size w w':=by
 have X:=Bx.new w b A n c;have Bw:=(Below.refl w.heap.size w).alloc (Nat.le_refl _) (.cells #[.bool b,.slice A n c] 31);have hk:=knownI_any b A n c xs _ (h.below Bw) (by omega)
 have l1:=iv_abs (b:=b) h.sm (Nat.le_of_eq h.len);generalize iv b xs=z at hk l1 ⊢;obtain⟨a,ha⟩:∃ a:Int,a=((z.natAbs:Nat):Int):=⟨_,rfl⟩;have hu:=fun W A1 n1 c1 (h:Rd W A1 n1 c1 (limbs z.natAbs)) (hn:n1≤1000000000)=>uint_any A1 n1 c1 (limbs z.natAbs) W h hn
 rw[num_limbs] at hu;replace hk:=Lib.hid hk;replace l1:=Lib.hid l1;replace X:=Lib.hid X;replace Bw:=Lib.hid Bw;clear h;obtain⟨q,hq⟩:∃ q,ng z=q:=⟨_,rfl⟩;have hz:(q=true∧z = -a∧0≤a)∨(q=false∧z=a∧0≤a):=by
  unfold ng at hq
  by_cases h:z<0
  ·rw[decide_eq_true h] at hq;exact .inl ⟨hq.symm,by omega,by omega⟩
  ·rw[decide_eq_false h] at hq;exact .inr ⟨hq.symm,by omega,by omega⟩
 by_cases hbig:z.natAbs<18446744073709551616
 ·have hu2:Hid (∀ W A1 n1 c1,Rd W A1 n1 c1 (limbs z.natAbs)→n1≤1000000000→Calls Tryz.prog 134 #[.slice A1 n1 c1] W fun e w'=>e=.returned (.tuple #[.int .u64 a,.bool true])∧Below W.heap.size W w'):=by
   refine Lib.hid (fun W A1 n1 c1 h hn=>(hu W A1 n1 c1 h hn).mono ?_)
   rw[uval,if_pos hbig,uok,decide_eq_true hbig,←ha];rintro e w' ⟨rfl,rfl⟩;exact⟨rfl,Below.refl _ _⟩
  clear hu;have cases:(q=true∧a≤9223372036854775807∧0≤a∧tk z=true∧ti z = -a)∨(q=true∧a=9223372036854775808∧tk z=true∧ti z = -a)∨(q=true∧9223372036854775808<a∧a≤18446744073709551615∧tk z=false∧ti z=0) ∨
    (q=false∧a≤9223372036854775807∧0≤a∧tk z=true∧ti z=a)∨(q=false∧a=9223372036854775808∧tk z=false∧ti z=0)∨(q=false∧9223372036854775808<a∧a≤18446744073709551615∧tk z=false∧ti z=0):=by
   rcases hz with ⟨h1,h2,h3⟩ | ⟨h1,h2,h3⟩
   ·rcases Int.lt_trichotomy a 9223372036854775808 with h4 | h4 | h4
    ·obtain⟨h5,h6⟩:=@tk_yes z (by omega) (by omega)
     exact .inl ⟨h1,by omega,h3,h5,by rw[h6,h2]⟩
    ·obtain⟨h5,h6⟩:=@tk_yes z (by omega) (by omega)
     exact .inr (.inl ⟨h1,h4,h5,by rw[h6,h2]⟩)
    ·obtain⟨h5,h6⟩:=@tk_no z (by omega)
     exact .inr (.inr (.inl ⟨h1,h4,by omega,h5,h6⟩))
   ·rcases Int.lt_trichotomy a 9223372036854775808 with h4 | h4 | h4
    ·obtain⟨h5,h6⟩:=@tk_yes z (by omega) (by omega)
     exact .inr (.inr (.inr (.inl ⟨h1,by omega,h3,h5,by rw[h6,h2]⟩)))
    ·obtain⟨h5,h6⟩:=@tk_no z (by omega)
     exact .inr (.inr (.inr (.inr (.inl ⟨h1,h4,h5,h6⟩))))
    ·obtain⟨h5,h6⟩:=@tk_no z (by omega)
     exact .inr (.inr (.inr (.inr (.inr ⟨h1,h4,by omega,h5,h6⟩))))
  clear hz hbig ha;replace hq:=Lib.hid hq
  rcases cases with ⟨rfl,g1,g0,ht,hi⟩ | ⟨rfl,rfl,ht,hi⟩ | ⟨rfl,g1,g0,ht,hi⟩ | ⟨rfl,g1,g0,ht,hi⟩ | ⟨rfl,rfl,ht,hi⟩ | ⟨rfl,g1,g0,ht,hi⟩
  ·have e1:decide (a≤9223372036854775808)=true:=decide_eq_true (by omega)
   have e2:decide (9223372036854775808<a)=false:=decide_eq_false (by omega)
   have e3:(a==9223372036854775808)=false:=by rw[beq_eq_false_iff_ne];omega
   have hw1:wrap64 (IntKind.u64.wrap (-a)) = -a:=by rw[IntKind.wrap_u64];unfold wrap64;omega
   replace hw1:=Lib.hid hw1;have hw3:wrap64 (-(wrap64 a)) = -a:=by unfold wrap64;omega
   replace hw3:=Lib.hid hw3;have hw2:wrap64 a=a:=by unfold wrap64;omega
   replace hw2:=Lib.hid hw2;rw[ht,hi];clear ht hi;go_enter Tryz.func128,Tryz.ntmps128
   go_wp2_with (go_at_call 112;refine hk.out.mono ?_;rintro e w1 ⟨A1,n1,c1,rfl,Q1,B1⟩;rw[hq.out];refine Hid.out ?_)
   refine Lib.hid ?_
   have hn1:n1≤100000000:=by have:=l1.out;have:=Q1.len;omega
   have X1:=X.out.bel B1;have Bz:=Lib.hid (put_below (.bool true) (.slice A1 n1 c1) (Bw.out.trans (B1.mono Bw.out.size)) (Nat.le_refl w.heap.size));obtain⟨a0,a1,a2,a3⟩:=X1.at_;have X2:=X1.put true A1 n1 c1;obtain⟨d0,d1,d2,d3⟩:=X2.at_;have Q2:=Lib.hid (Q1.put X1 (.bool true) (.slice A1 n1 c1));have X3:=Lib.hid X2;clear X1 Q1 B1 X2
   go_wp2_with (go_at_call 134;refine (hu2.out _ _ _ _ Q2.out (by omega)).mono ?_;rintro e w2 ⟨rfl,B2'⟩;refine Hid.out ?_)
   refine Lib.hid ?_
   have X4:=X3.out.bel B2';have By:=Lib.hid (Bz.out.trans (B2'.mono Bz.out.size));clear d0 d1 d2 d3 a0 a1 a2 a3 B2' Q2;obtain⟨d0,d1,d2,d3⟩:=X4.at_;clear X4;go_wp2
   go_ret2
   exact⟨by first | rfl | exact congrArg (fun x=>Ending.returned (Value.tuple #[.int .i64 x,.bool true])) hw1.out | exact congrArg (fun x=>Ending.returned (Value.tuple #[.int .i64 x,.bool true])) hw2.out | exact congrArg (fun x=>Ending.returned (Value.tuple #[.int .i64 x,.bool true])) hw3.out | exact congrArg (fun x=>Ending.returned (Value.tuple #[.int .i64 x,.bool true])) (show wrap64 (IntKind.u64.wrap (-9223372036854775808)) = -9223372036854775808 by rw[IntKind.wrap_u64];unfold wrap64;omega),By.out⟩
  ·rw[ht,hi]
   clear ht hi;go_enter Tryz.func128,Tryz.ntmps128
   go_wp2_with (go_at_call 112;refine hk.out.mono ?_;rintro e w1 ⟨A1,n1,c1,rfl,Q1,B1⟩;rw[hq.out];refine Hid.out ?_)
   refine Lib.hid ?_
   have hn1:n1≤100000000:=by have:=l1.out;have:=Q1.len;omega
   have X1:=X.out.bel B1;have Bz:=Lib.hid (put_below (.bool true) (.slice A1 n1 c1) (Bw.out.trans (B1.mono Bw.out.size)) (Nat.le_refl w.heap.size));obtain⟨a0,a1,a2,a3⟩:=X1.at_;have X2:=X1.put true A1 n1 c1;obtain⟨d0,d1,d2,d3⟩:=X2.at_;have Q2:=Lib.hid (Q1.put X1 (.bool true) (.slice A1 n1 c1));have X3:=Lib.hid X2;clear X1 Q1 B1 X2
   go_wp2_with (go_at_call 134;refine (hu2.out _ _ _ _ Q2.out (by omega)).mono ?_;rintro e w2 ⟨rfl,B2'⟩;refine Hid.out ?_)
   refine Lib.hid ?_
   have X4:=X3.out.bel B2';have By:=Lib.hid (Bz.out.trans (B2'.mono Bz.out.size));clear d0 d1 d2 d3 a0 a1 a2 a3 B2' Q2;obtain⟨d0,d1,d2,d3⟩:=X4.at_;clear X4;go_wp2
   go_ret2
   exact⟨by first | rfl | exact congrArg (fun x=>Ending.returned (Value.tuple #[.int .i64 x,.bool true])) hw1.out | exact congrArg (fun x=>Ending.returned (Value.tuple #[.int .i64 x,.bool true])) hw2.out | exact congrArg (fun x=>Ending.returned (Value.tuple #[.int .i64 x,.bool true])) hw3.out | exact congrArg (fun x=>Ending.returned (Value.tuple #[.int .i64 x,.bool true])) (show wrap64 (IntKind.u64.wrap (-9223372036854775808)) = -9223372036854775808 by rw[IntKind.wrap_u64];unfold wrap64;omega),By.out⟩
  ·have e1:decide (a≤9223372036854775808)=false:=decide_eq_false (by omega)
   have e2:decide (9223372036854775808<a)=true:=decide_eq_true (by omega)
   have e3:(a==9223372036854775808)=false:=by rw[beq_eq_false_iff_ne];omega
   rw[ht,hi];clear ht hi;go_enter Tryz.func128,Tryz.ntmps128
   go_wp2_with (go_at_call 112;refine hk.out.mono ?_;rintro e w1 ⟨A1,n1,c1,rfl,Q1,B1⟩;rw[hq.out];refine Hid.out ?_)
   refine Lib.hid ?_
   have hn1:n1≤100000000:=by have:=l1.out;have:=Q1.len;omega
   have X1:=X.out.bel B1;have Bz:=Lib.hid (put_below (.bool true) (.slice A1 n1 c1) (Bw.out.trans (B1.mono Bw.out.size)) (Nat.le_refl w.heap.size));obtain⟨a0,a1,a2,a3⟩:=X1.at_;have X2:=X1.put true A1 n1 c1;obtain⟨d0,d1,d2,d3⟩:=X2.at_;have Q2:=Lib.hid (Q1.put X1 (.bool true) (.slice A1 n1 c1));have X3:=Lib.hid X2;clear X1 Q1 B1 X2
   go_wp2_with (go_at_call 134;refine (hu2.out _ _ _ _ Q2.out (by omega)).mono ?_;rintro e w2 ⟨rfl,B2'⟩;refine Hid.out ?_)
   refine Lib.hid ?_
   have X4:=X3.out.bel B2';have By:=Lib.hid (Bz.out.trans (B2'.mono Bz.out.size));clear d0 d1 d2 d3 a0 a1 a2 a3 B2' Q2;obtain⟨d0,d1,d2,d3⟩:=X4.at_;clear X4;go_wp2
   go_ret2
   exact⟨by first | rfl | exact congrArg (fun x=>Ending.returned (Value.tuple #[.int .i64 x,.bool true])) hw1.out | exact congrArg (fun x=>Ending.returned (Value.tuple #[.int .i64 x,.bool true])) hw2.out | exact congrArg (fun x=>Ending.returned (Value.tuple #[.int .i64 x,.bool true])) hw3.out | exact congrArg (fun x=>Ending.returned (Value.tuple #[.int .i64 x,.bool true])) (show wrap64 (IntKind.u64.wrap (-9223372036854775808)) = -9223372036854775808 by rw[IntKind.wrap_u64];unfold wrap64;omega),By.out⟩
  ·have e1:decide (a≤9223372036854775807)=true:=decide_eq_true (by omega)
   have e2:decide (9223372036854775808<a)=false:=decide_eq_false (by omega)
   have e3:(a==9223372036854775808)=false:=by rw[beq_eq_false_iff_ne];omega
   have hw2:wrap64 a=a:=by unfold wrap64;omega
   replace hw2:=Lib.hid hw2;rw[ht,hi];clear ht hi;go_enter Tryz.func128,Tryz.ntmps128
   go_wp2_with (go_at_call 112;refine hk.out.mono ?_;rintro e w1 ⟨A1,n1,c1,rfl,Q1,B1⟩;rw[hq.out];refine Hid.out ?_)
   refine Lib.hid ?_
   have hn1:n1≤100000000:=by have:=l1.out;have:=Q1.len;omega
   have X1:=X.out.bel B1;have Bz:=Lib.hid (put_below (.bool false) (.slice A1 n1 c1) (Bw.out.trans (B1.mono Bw.out.size)) (Nat.le_refl w.heap.size));obtain⟨a0,a1,a2,a3⟩:=X1.at_;have X2:=X1.put false A1 n1 c1;obtain⟨d0,d1,d2,d3⟩:=X2.at_;have Q2:=Lib.hid (Q1.put X1 (.bool false) (.slice A1 n1 c1));have X3:=Lib.hid X2;clear X1 Q1 B1 X2
   go_wp2_with (go_at_call 134;refine (hu2.out _ _ _ _ Q2.out (by omega)).mono ?_;rintro e w2 ⟨rfl,B2'⟩;refine Hid.out ?_)
   refine Lib.hid ?_
   have X4:=X3.out.bel B2';have By:=Lib.hid (Bz.out.trans (B2'.mono Bz.out.size));clear d0 d1 d2 d3 a0 a1 a2 a3 B2' Q2;obtain⟨d0,d1,d2,d3⟩:=X4.at_;clear X4;go_wp2
   go_ret2
   exact⟨by first | rfl | exact congrArg (fun x=>Ending.returned (Value.tuple #[.int .i64 x,.bool true])) hw1.out | exact congrArg (fun x=>Ending.returned (Value.tuple #[.int .i64 x,.bool true])) hw2.out | exact congrArg (fun x=>Ending.returned (Value.tuple #[.int .i64 x,.bool true])) hw3.out | exact congrArg (fun x=>Ending.returned (Value.tuple #[.int .i64 x,.bool true])) (show wrap64 (IntKind.u64.wrap (-9223372036854775808)) = -9223372036854775808 by rw[IntKind.wrap_u64];unfold wrap64;omega),By.out⟩
  ·rw[ht,hi]
   clear ht hi;go_enter Tryz.func128,Tryz.ntmps128
   go_wp2_with (go_at_call 112;refine hk.out.mono ?_;rintro e w1 ⟨A1,n1,c1,rfl,Q1,B1⟩;rw[hq.out];refine Hid.out ?_)
   refine Lib.hid ?_
   have hn1:n1≤100000000:=by have:=l1.out;have:=Q1.len;omega
   have X1:=X.out.bel B1;have Bz:=Lib.hid (put_below (.bool false) (.slice A1 n1 c1) (Bw.out.trans (B1.mono Bw.out.size)) (Nat.le_refl w.heap.size));obtain⟨a0,a1,a2,a3⟩:=X1.at_;have X2:=X1.put false A1 n1 c1;obtain⟨d0,d1,d2,d3⟩:=X2.at_;have Q2:=Lib.hid (Q1.put X1 (.bool false) (.slice A1 n1 c1));have X3:=Lib.hid X2;clear X1 Q1 B1 X2
   go_wp2_with (go_at_call 134;refine (hu2.out _ _ _ _ Q2.out (by omega)).mono ?_;rintro e w2 ⟨rfl,B2'⟩;refine Hid.out ?_)
   refine Lib.hid ?_
   have X4:=X3.out.bel B2';have By:=Lib.hid (Bz.out.trans (B2'.mono Bz.out.size));clear d0 d1 d2 d3 a0 a1 a2 a3 B2' Q2;obtain⟨d0,d1,d2,d3⟩:=X4.at_;clear X4;go_wp2
   go_ret2
   exact⟨by first | rfl | exact congrArg (fun x=>Ending.returned (Value.tuple #[.int .i64 x,.bool true])) hw1.out | exact congrArg (fun x=>Ending.returned (Value.tuple #[.int .i64 x,.bool true])) hw2.out | exact congrArg (fun x=>Ending.returned (Value.tuple #[.int .i64 x,.bool true])) hw3.out | exact congrArg (fun x=>Ending.returned (Value.tuple #[.int .i64 x,.bool true])) (show wrap64 (IntKind.u64.wrap (-9223372036854775808)) = -9223372036854775808 by rw[IntKind.wrap_u64];unfold wrap64;omega),By.out⟩
  ·have e1:decide (a≤9223372036854775807)=false:=decide_eq_false (by omega)
   have e2:decide (9223372036854775808<a)=true:=decide_eq_true (by omega)
   have e3:(a==9223372036854775808)=false:=by rw[beq_eq_false_iff_ne];omega
   rw[ht,hi];clear ht hi;go_enter Tryz.func128,Tryz.ntmps128
   go_wp2_with (go_at_call 112;refine hk.out.mono ?_;rintro e w1 ⟨A1,n1,c1,rfl,Q1,B1⟩;rw[hq.out];refine Hid.out ?_)
   refine Lib.hid ?_
   have hn1:n1≤100000000:=by have:=l1.out;have:=Q1.len;omega
   have X1:=X.out.bel B1;have Bz:=Lib.hid (put_below (.bool false) (.slice A1 n1 c1) (Bw.out.trans (B1.mono Bw.out.size)) (Nat.le_refl w.heap.size));obtain⟨a0,a1,a2,a3⟩:=X1.at_;have X2:=X1.put false A1 n1 c1;obtain⟨d0,d1,d2,d3⟩:=X2.at_;have Q2:=Lib.hid (Q1.put X1 (.bool false) (.slice A1 n1 c1));have X3:=Lib.hid X2;clear X1 Q1 B1 X2
   go_wp2_with (go_at_call 134;refine (hu2.out _ _ _ _ Q2.out (by omega)).mono ?_;rintro e w2 ⟨rfl,B2'⟩;refine Hid.out ?_)
   refine Lib.hid ?_
   have X4:=X3.out.bel B2';have By:=Lib.hid (Bz.out.trans (B2'.mono Bz.out.size));clear d0 d1 d2 d3 a0 a1 a2 a3 B2' Q2;obtain⟨d0,d1,d2,d3⟩:=X4.at_;clear X4;go_wp2
   go_ret2
   exact⟨by first | rfl | exact congrArg (fun x=>Ending.returned (Value.tuple #[.int .i64 x,.bool true])) hw1.out | exact congrArg (fun x=>Ending.returned (Value.tuple #[.int .i64 x,.bool true])) hw2.out | exact congrArg (fun x=>Ending.returned (Value.tuple #[.int .i64 x,.bool true])) hw3.out | exact congrArg (fun x=>Ending.returned (Value.tuple #[.int .i64 x,.bool true])) (show wrap64 (IntKind.u64.wrap (-9223372036854775808)) = -9223372036854775808 by rw[IntKind.wrap_u64];unfold wrap64;omega),By.out⟩
 ·have hu2:Hid (∀ W A1 n1 c1,Rd W A1 n1 c1 (limbs z.natAbs)→n1≤1000000000→Calls Tryz.prog 134 #[.slice A1 n1 c1] W fun e w'=>e=.returned (.tuple #[.int .u64 0,.bool false])∧Below W.heap.size W w'):=by
   refine Lib.hid (fun W A1 n1 c1 h hn=>(hu W A1 n1 c1 h hn).mono ?_)
   rw[uval,if_neg hbig,uok,decide_eq_false hbig];rintro e w' ⟨rfl,rfl⟩;exact⟨rfl,Below.refl _ _⟩
  clear hu;obtain⟨ht,hi⟩:=@tk_no z (by omega)
  clear hz hbig ha;replace hq:=Lib.hid hq
  cases q
  ·rw[ht,hi]
   clear ht hi;go_enter Tryz.func128,Tryz.ntmps128
   go_wp2_with (go_at_call 112;refine hk.out.mono ?_;rintro e w1 ⟨A1,n1,c1,rfl,Q1,B1⟩;rw[hq.out];refine Hid.out ?_)
   refine Lib.hid ?_
   have hn1:n1≤100000000:=by have:=l1.out;have:=Q1.len;omega
   have X1:=X.out.bel B1;have Bz:=Lib.hid (put_below (.bool false) (.slice A1 n1 c1) (Bw.out.trans (B1.mono Bw.out.size)) (Nat.le_refl w.heap.size));obtain⟨a0,a1,a2,a3⟩:=X1.at_;have X2:=X1.put false A1 n1 c1;obtain⟨d0,d1,d2,d3⟩:=X2.at_;have Q2:=Lib.hid (Q1.put X1 (.bool false) (.slice A1 n1 c1));have X3:=Lib.hid X2;clear X1 Q1 B1 X2
   go_wp2_with (go_at_call 134;refine (hu2.out _ _ _ _ Q2.out (by omega)).mono ?_;rintro e w2 ⟨rfl,B2'⟩;refine Hid.out ?_)
   refine Lib.hid ?_
   have X4:=X3.out.bel B2';have By:=Lib.hid (Bz.out.trans (B2'.mono Bz.out.size));clear d0 d1 d2 d3 a0 a1 a2 a3 B2' Q2;obtain⟨d0,d1,d2,d3⟩:=X4.at_;clear X4;go_wp2
   go_ret2
   exact⟨rfl,By.out⟩
  ·rw[ht,hi]
   clear ht hi;go_enter Tryz.func128,Tryz.ntmps128
   go_wp2_with (go_at_call 112;refine hk.out.mono ?_;rintro e w1 ⟨A1,n1,c1,rfl,Q1,B1⟩;rw[hq.out];refine Hid.out ?_)
   refine Lib.hid ?_
   have hn1:n1≤100000000:=by have:=l1.out;have:=Q1.len;omega
   have X1:=X.out.bel B1;have Bz:=Lib.hid (put_below (.bool true) (.slice A1 n1 c1) (Bw.out.trans (B1.mono Bw.out.size)) (Nat.le_refl w.heap.size));obtain⟨a0,a1,a2,a3⟩:=X1.at_;have X2:=X1.put true A1 n1 c1;obtain⟨d0,d1,d2,d3⟩:=X2.at_;have Q2:=Lib.hid (Q1.put X1 (.bool true) (.slice A1 n1 c1));have X3:=Lib.hid X2;clear X1 Q1 B1 X2
   go_wp2_with (go_at_call 134;refine (hu2.out _ _ _ _ Q2.out (by omega)).mono ?_;rintro e w2 ⟨rfl,B2'⟩;refine Hid.out ?_)
   refine Lib.hid ?_
   have X4:=X3.out.bel B2';have By:=Lib.hid (Bz.out.trans (B2'.mono Bz.out.size));clear d0 d1 d2 d3 a0 a1 a2 a3 B2' Q2;obtain⟨d0,d1,d2,d3⟩:=X4.at_;clear X4;go_wp2
   go_ret2
   exact⟨rfl,By.out⟩
end Go.Proofs.YthlinhconnmbcaaGreat
