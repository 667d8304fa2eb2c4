/- the law on products. -/
import Derived.Test.YtfnkpfbobdmieaaGreatM24
set_option maxRecDepth 100000
set_option maxHeartbeats 40000000
set_option linter.unusedVariables false
namespace Go.Proofs.YtfnkpfbobdmieaaGreat
open Go.RowKit RQ
theorem light5 (M:List Ro) (A:Option Addr) (n c:Nat) (w:World) (h:Mr w A n c M) (hm:∀ r∈M,inL r.L∧r.n≤9223372036854775807) (hn:n≤9223372036854775807):Calls Tryz.prog 6 #[.slice A n c] w fun e w'=>e=.returned (.bool (decide (n≤5)&&M.all (fun r=>decide (r.n≤5)&&lL r.L)))∧Below w.heap.size w w':=by
 have k:=Lib.hid (lightMatrix_any M A n c 5 5 w h (by decide) (by decide) hm hn)
 clear h hm hn;generalize (decide (n≤5)&&M.all (fun r=>decide (r.n≤5)&&lL r.L))=b at k ⊢
 go_enter Tryz.func6,Tryz.ntmps6
 go_wp2_with fail
 refine k.out.mono ?_
 rintro e w1 ⟨rfl,bb⟩;replace bb:=Lib.hid bb;go_wp2;go_ret;exact⟨rfl,bb.out⟩
theorem law_mm (hA:∀ W,Calls Tryz.prog 8 #[] W fun e w'=>e=.returned (.bool true)∧Below W.heap.size W w') (M:List Ro) (A:Option Addr) (n c:Nat) (N:List Ro) (A':Option Addr) (n' c':Nat) (L:List Rt) (A'':Option Addr) (n'' c'':Nat) (w:World) (h:Mr w A n c M) (bm:∀ r∈M,inL r.L∧r.n≤9223372036854775807∧∀ x∈r.L,x.q=rv x.b x.x x.y) (hn:n≤9223372036854775807) (h':Mr w A' n' c' N) (bn:∀ r∈N,inL r.L∧r.n≤9223372036854775807∧∀ x∈r.L,x.q=rv x.b x.x x.y) (hn':n'≤9223372036854775807) (h'':Sr w A'' n'' c'' L) (bl:inL L) (ql:∀ x∈L,x.q=rv x.b x.x x.y) (hn'':n''≤9223372036854775807):Calls Tryz.prog 3 #[.slice A n c,.slice A' n' c',.slice A'' n'' c''] w fun e w'=>e=.returned (.bool true)∧Below w.heap.size w w':=by
 have k1:=fun W (h:Mr W A n c M)=>light5 M A n c W h (fun r hr=>⟨(bm r hr).1,(bm r hr).2.1⟩) hn
 have k2:=fun W (h:Mr W A' n' c' N)=>light5 N A' n' c' W h (fun r hr=>⟨(bn r hr).1,(bn r hr).2.1⟩) hn'
 have k3:=fun W (h:Sr W A'' n'' c'' L)=>lightList_any L A'' n'' c'' 6 W h (by decide) bl hn''
 generalize hb1:(decide (n≤5)&&M.all (fun r=>decide (r.n≤5)&&lL r.L))=b1 at k1
 generalize hb2:(decide (n'≤5)&&N.all (fun r=>decide (r.n≤5)&&lL r.L))=b2 at k2
 generalize hb3:(decide (n''≤6)&&L.all (fun r=>lightB r.n r.m))=b3 at k3
 replace hA:=Lib.hid hA;replace k1:=Lib.hid k1;replace k2:=Lib.hid k2;replace k3:=Lib.hid k3
 by_cases hall:b1=true∧b2=true∧b3=true
 ·obtain⟨rfl,rfl,rfl⟩:=hall
  rw[Bool.and_eq_true,decide_eq_true_eq] at hb1 hb2 hb3;have lm:ltM M:=fun r hr=>lt_of (h.rd r hr).rd (bm r hr).2.2 (by have:=List.all_eq_true.1 hb1.2 r hr;rw[Bool.and_eq_true] at this;exact this.2)
  have ln:ltM N:=fun r hr=>lt_of (h'.rd r hr).rd (bn r hr).2.2 (by have:=List.all_eq_true.1 hb2.2 r hr;rw[Bool.and_eq_true] at this;exact this.2)
  have ll:ltL L:=lt_of h''.rd ql hb3.2;obtain⟨kt,Qt,t1,t2⟩:=trans_two M A n c (fun r hr=>(bm r hr).2.1) hn lm
  obtain⟨kp,Qp,p1,p2⟩:=mul_two M A n c h.len (fun r hr=>(bm r hr).2.1) hn lm N A' n' c' (fun r hr=>(bn r hr).2.1) hn' ln (by omega)
  obtain⟨kx,Qx,x1,x2⟩:=apply_two M A n c (fun r hr=>(bm r hr).2.1) hn lm L A'' n'' c'' ll (by omega)
  have v1:=fun W (h:Mr W A n c M)=>mvalid_any M A n c W h (fun r hr=>(bm r hr).2.1) hn lm
  have v2:=fun W (h:Mr W A n c M)=>rvalidM_any M A n c W h (fun r hr=>(bm r hr).2.1) hn lm
  generalize (wfM M&&vM M)=bv at v1 v2;have s1:=fun W M1 M2 A1 n1 c1 A2 n2 c2 (h1:Mr W A1 n1 c1 M1) (h2:Mr W A2 n2 c2 M2) k1 k2 k3 k4=>sameLists_any M1 M2 A1 n1 c1 A2 n2 c2 W h1 h2 k1 k2 k3 k4
  have s2:=fun W L1 L2 A1 n1 c1 A2 n2 c2 (h1:Sr W A1 n1 c1 L1) (h2:Sr W A2 n2 c2 L2) k1 k2 k3 k4=>sameList_any L1 L2 A1 n1 c1 A2 n2 c2 W h1 h2 k1 k2 k3 k4
  replace h:=Lib.hid h;replace h':=Lib.hid h';replace h'':=Lib.hid h'';replace t1:=Lib.hid t1;replace t2:=Lib.hid t2;replace p1:=Lib.hid p1;replace p2:=Lib.hid p2;replace x1:=Lib.hid x1;replace x2:=Lib.hid x2;replace v1:=Lib.hid v1;replace v2:=Lib.hid v2;replace s1:=Lib.hid s1;replace s2:=Lib.hid s2;clear hb1 hb2 hb3 lm ln ll bm bn bl ql hn hn' hn'';go_enter Tryz.func3,Tryz.ntmps3;have B:=Lib.hid (Below.refl w.heap.size w)
  go_wp2_with fail
  refine (k1.out _ h.out).mono ?_
  rintro e w1 ⟨rfl,bb⟩;replace h:=Lib.hid (h.out.bel bb);replace h':=Lib.hid (h'.out.bel bb);replace h'':=Lib.hid (h''.out.bel bb);replace B:=Lib.hid (B.out.trans (bb.mono B.out.size));clear bb
  go_wp2_with fail
  refine (k2.out _ h'.out).mono ?_
  rintro e w2 ⟨rfl,bb⟩;replace h:=Lib.hid (h.out.bel bb);replace h':=Lib.hid (h'.out.bel bb);replace h'':=Lib.hid (h''.out.bel bb);replace B:=Lib.hid (B.out.trans (bb.mono B.out.size));clear bb
  go_wp2_with fail
  refine (k3.out _ h''.out).mono ?_
  rintro e w3 ⟨rfl,bb⟩;replace h:=Lib.hid (h.out.bel bb);replace h':=Lib.hid (h'.out.bel bb);replace h'':=Lib.hid (h''.out.bel bb);replace B:=Lib.hid (B.out.trans (bb.mono B.out.size));clear bb
  go_wp2_with fail
  refine (t1.out _ h.out).mono ?_
  rintro e w4 ⟨A1,n1,c1,M1,rfl,r1,e1,q1,z1,bb⟩;replace h:=Lib.hid (h.out.bel bb);replace h':=Lib.hid (h'.out.bel bb);replace h'':=Lib.hid (h''.out.bel bb);replace B:=Lib.hid (B.out.trans (bb.mono B.out.size));clear bb;replace r1:=Lib.hid r1;replace e1:=Lib.hid e1;replace q1:=Lib.hid q1;replace z1:=Lib.hid z1
  go_wp2_with fail
  refine (t2.out _ h.out).mono ?_
  rintro e w5 ⟨A2,n2,c2,M2,rfl,r2,e2,q2,z2,bb⟩;replace h:=Lib.hid (h.out.bel bb);replace h':=Lib.hid (h'.out.bel bb);replace h'':=Lib.hid (h''.out.bel bb);replace r1:=Lib.hid (r1.out.bel bb);replace B:=Lib.hid (B.out.trans (bb.mono B.out.size));clear bb;replace r2:=Lib.hid r2;replace e2:=Lib.hid e2;replace q2:=Lib.hid q2;replace z2:=Lib.hid z2
  go_wp2_with fail
  refine (p1.out _ h.out h'.out).mono ?_
  rintro e w6 ⟨A3,n3,c3,M3,rfl,r3,e3,q3,z3,bb⟩;replace h:=Lib.hid (h.out.bel bb);replace h':=Lib.hid (h'.out.bel bb);replace h'':=Lib.hid (h''.out.bel bb);replace r1:=Lib.hid (r1.out.bel bb);replace r2:=Lib.hid (r2.out.bel bb);replace B:=Lib.hid (B.out.trans (bb.mono B.out.size));clear bb;replace r3:=Lib.hid r3;replace e3:=Lib.hid e3;replace q3:=Lib.hid q3;replace z3:=Lib.hid z3
  go_wp2_with fail
  refine (p2.out _ h.out h'.out).mono ?_
  rintro e w7 ⟨A4,n4,c4,M4,rfl,r4,e4,q4,z4,bb⟩;replace h:=Lib.hid (h.out.bel bb);replace h':=Lib.hid (h'.out.bel bb);replace h'':=Lib.hid (h''.out.bel bb);replace r1:=Lib.hid (r1.out.bel bb);replace r2:=Lib.hid (r2.out.bel bb);replace r3:=Lib.hid (r3.out.bel bb);replace B:=Lib.hid (B.out.trans (bb.mono B.out.size));clear bb;replace r4:=Lib.hid r4;replace e4:=Lib.hid e4;replace q4:=Lib.hid q4;replace z4:=Lib.hid z4
  go_wp2_with fail
  refine (x1.out _ h.out h''.out).mono ?_
  rintro e w8 ⟨A5,n5,c5,M5,rfl,r5,e5,q5,z5,bb⟩;replace h:=Lib.hid (h.out.bel bb);replace h':=Lib.hid (h'.out.bel bb);replace h'':=Lib.hid (h''.out.bel bb);replace r1:=Lib.hid (r1.out.bel bb);replace r2:=Lib.hid (r2.out.bel bb);replace r3:=Lib.hid (r3.out.bel bb);replace r4:=Lib.hid (r4.out.bel bb);replace B:=Lib.hid (B.out.trans (bb.mono B.out.size));clear bb;replace r5:=Lib.hid r5;replace e5:=Lib.hid e5
  replace q5:=Lib.hid q5;replace z5:=Lib.hid z5
  go_wp2_with fail
  refine (x2.out _ h.out h''.out).mono ?_
  rintro e w9 ⟨A6,n6,c6,M6,rfl,r6,e6,q6,z6,bb⟩;replace h:=Lib.hid (h.out.bel bb);replace h':=Lib.hid (h'.out.bel bb);replace h'':=Lib.hid (h''.out.bel bb);replace r1:=Lib.hid (r1.out.bel bb);replace r2:=Lib.hid (r2.out.bel bb);replace r3:=Lib.hid (r3.out.bel bb);replace r4:=Lib.hid (r4.out.bel bb);replace r5:=Lib.hid (r5.out.bel bb);replace B:=Lib.hid (B.out.trans (bb.mono B.out.size));clear bb;replace r6:=Lib.hid r6
  replace e6:=Lib.hid e6;replace q6:=Lib.hid q6;replace z6:=Lib.hid z6
  go_wp2_with fail
  refine (hA.out _).mono ?_
  rintro e w10 ⟨rfl,bb⟩;replace h:=Lib.hid (h.out.bel bb);replace h':=Lib.hid (h'.out.bel bb);replace h'':=Lib.hid (h''.out.bel bb);replace r1:=Lib.hid (r1.out.bel bb);replace r2:=Lib.hid (r2.out.bel bb);replace r3:=Lib.hid (r3.out.bel bb);replace r4:=Lib.hid (r4.out.bel bb);replace r5:=Lib.hid (r5.out.bel bb);replace r6:=Lib.hid (r6.out.bel bb);replace B:=Lib.hid (B.out.trans (bb.mono B.out.size))
  clear bb
  go_wp2_with fail
  refine (v1.out _ h.out).mono ?_
  rintro e w11 ⟨rfl,bb⟩;replace h:=Lib.hid (h.out.bel bb);replace h':=Lib.hid (h'.out.bel bb);replace h'':=Lib.hid (h''.out.bel bb);replace r1:=Lib.hid (r1.out.bel bb);replace r2:=Lib.hid (r2.out.bel bb);replace r3:=Lib.hid (r3.out.bel bb);replace r4:=Lib.hid (r4.out.bel bb);replace r5:=Lib.hid (r5.out.bel bb);replace r6:=Lib.hid (r6.out.bel bb);replace B:=Lib.hid (B.out.trans (bb.mono B.out.size))
  clear bb
  go_wp2_with fail
  refine (v2.out _ h.out).mono ?_
  rintro e w12 ⟨rfl,bb⟩;replace h:=Lib.hid (h.out.bel bb);replace h':=Lib.hid (h'.out.bel bb);replace h'':=Lib.hid (h''.out.bel bb);replace r1:=Lib.hid (r1.out.bel bb);replace r2:=Lib.hid (r2.out.bel bb);replace r3:=Lib.hid (r3.out.bel bb);replace r4:=Lib.hid (r4.out.bel bb);replace r5:=Lib.hid (r5.out.bel bb);replace r6:=Lib.hid (r6.out.bel bb);replace B:=Lib.hid (B.out.trans (bb.mono B.out.size))
  clear bb
  go_wp2_with fail
  refine (s1.out _ M1 M2 A1 n1 c1 A2 n2 c2 r1.out r2.out e1.out e2.out (q1.out.trans q2.out.symm) z1.out).mono ?_
  rintro e w13 ⟨rfl,bb⟩;replace h:=Lib.hid (h.out.bel bb);replace h':=Lib.hid (h'.out.bel bb);replace h'':=Lib.hid (h''.out.bel bb);replace r1:=Lib.hid (r1.out.bel bb);replace r2:=Lib.hid (r2.out.bel bb);replace r3:=Lib.hid (r3.out.bel bb);replace r4:=Lib.hid (r4.out.bel bb);replace r5:=Lib.hid (r5.out.bel bb);replace r6:=Lib.hid (r6.out.bel bb);replace B:=Lib.hid (B.out.trans (bb.mono B.out.size))
  clear bb
  go_wp2_with fail
  refine (s1.out _ M3 M4 A3 n3 c3 A4 n4 c4 r3.out r4.out e3.out e4.out (q3.out.trans q4.out.symm) z3.out).mono ?_
  rintro e w14 ⟨rfl,bb⟩;replace h:=Lib.hid (h.out.bel bb);replace h':=Lib.hid (h'.out.bel bb);replace h'':=Lib.hid (h''.out.bel bb);replace r1:=Lib.hid (r1.out.bel bb);replace r2:=Lib.hid (r2.out.bel bb);replace r3:=Lib.hid (r3.out.bel bb);replace r4:=Lib.hid (r4.out.bel bb);replace r5:=Lib.hid (r5.out.bel bb);replace r6:=Lib.hid (r6.out.bel bb);replace B:=Lib.hid (B.out.trans (bb.mono B.out.size))
  clear bb
  go_wp2_with fail
  refine (s2.out _ M5 M6 A5 n5 c5 A6 n6 c6 r5.out r6.out e5.out e6.out (q5.out.trans q6.out.symm) z5.out).mono ?_
  rintro e w15 ⟨rfl,bb⟩;replace h:=Lib.hid (h.out.bel bb);replace h':=Lib.hid (h'.out.bel bb);replace h'':=Lib.hid (h''.out.bel bb);replace r1:=Lib.hid (r1.out.bel bb);replace r2:=Lib.hid (r2.out.bel bb);replace r3:=Lib.hid (r3.out.bel bb);replace r4:=Lib.hid (r4.out.bel bb);replace r5:=Lib.hid (r5.out.bel bb);replace r6:=Lib.hid (r6.out.bel bb);replace B:=Lib.hid (B.out.trans (bb.mono B.out.size))
  clear bb;go_wp2;go_ret;exact⟨by simp,B.out⟩
 ·have hB:b1=false∨(b1=true∧b2=false)∨(b1=true∧b2=true∧b3=false):=by
   cases b1<;>cases b2<;>cases b3<;>simp_all
  replace h:=Lib.hid h;replace h':=Lib.hid h';replace h'':=Lib.hid h'';clear hb1 hb2 hb3 bm bn bl ql hn hn' hn'' hall;have B:=Lib.hid (Below.refl w.heap.size w)
  rcases hB with rfl | ⟨rfl,rfl⟩ | ⟨rfl,rfl,rfl⟩
  ·go_enter Tryz.func3,Tryz.ntmps3
   go_wp2_with fail
   refine (k1.out _ h.out).mono ?_
   rintro e w16 ⟨rfl,bb⟩;replace h:=Lib.hid (h.out.bel bb);replace h':=Lib.hid (h'.out.bel bb);replace h'':=Lib.hid (h''.out.bel bb);replace B:=Lib.hid (B.out.trans (bb.mono B.out.size));clear bb
   go_wp2_with fail
   refine (hA.out _).mono ?_
   rintro e w17 ⟨rfl,bb⟩;replace h:=Lib.hid (h.out.bel bb);replace h':=Lib.hid (h'.out.bel bb);replace h'':=Lib.hid (h''.out.bel bb);replace B:=Lib.hid (B.out.trans (bb.mono B.out.size));clear bb;go_wp2;go_ret;exact⟨by simp,B.out⟩
  ·go_enter Tryz.func3,Tryz.ntmps3
   go_wp2_with fail
   refine (k1.out _ h.out).mono ?_
   rintro e w18 ⟨rfl,bb⟩;replace h:=Lib.hid (h.out.bel bb);replace h':=Lib.hid (h'.out.bel bb);replace h'':=Lib.hid (h''.out.bel bb);replace B:=Lib.hid (B.out.trans (bb.mono B.out.size));clear bb
   go_wp2_with fail
   refine (k2.out _ h'.out).mono ?_
   rintro e w19 ⟨rfl,bb⟩;replace h:=Lib.hid (h.out.bel bb);replace h':=Lib.hid (h'.out.bel bb);replace h'':=Lib.hid (h''.out.bel bb);replace B:=Lib.hid (B.out.trans (bb.mono B.out.size));clear bb
   go_wp2_with fail
   refine (hA.out _).mono ?_
   rintro e w20 ⟨rfl,bb⟩;replace h:=Lib.hid (h.out.bel bb);replace h':=Lib.hid (h'.out.bel bb);replace h'':=Lib.hid (h''.out.bel bb);replace B:=Lib.hid (B.out.trans (bb.mono B.out.size));clear bb;go_wp2;go_ret;exact⟨by simp,B.out⟩
  ·go_enter Tryz.func3,Tryz.ntmps3
   go_wp2_with fail
   refine (k1.out _ h.out).mono ?_
   rintro e w21 ⟨rfl,bb⟩;replace h:=Lib.hid (h.out.bel bb);replace h':=Lib.hid (h'.out.bel bb);replace h'':=Lib.hid (h''.out.bel bb);replace B:=Lib.hid (B.out.trans (bb.mono B.out.size));clear bb
   go_wp2_with fail
   refine (k2.out _ h'.out).mono ?_
   rintro e w22 ⟨rfl,bb⟩;replace h:=Lib.hid (h.out.bel bb);replace h':=Lib.hid (h'.out.bel bb);replace h'':=Lib.hid (h''.out.bel bb);replace B:=Lib.hid (B.out.trans (bb.mono B.out.size));clear bb
   go_wp2_with fail
   refine (k3.out _ h''.out).mono ?_
   rintro e w23 ⟨rfl,bb⟩;replace h:=Lib.hid (h.out.bel bb);replace h':=Lib.hid (h'.out.bel bb);replace h'':=Lib.hid (h''.out.bel bb);replace B:=Lib.hid (B.out.trans (bb.mono B.out.size));clear bb
   go_wp2_with fail
   refine (hA.out _).mono ?_
   rintro e w24 ⟨rfl,bb⟩;replace h:=Lib.hid (h.out.bel bb);replace h':=Lib.hid (h'.out.bel bb);replace h'':=Lib.hid (h''.out.bel bb);replace B:=Lib.hid (B.out.trans (bb.mono B.out.size));clear bb;go_wp2;go_ret;exact⟨by simp,B.out⟩
end Go.Proofs.YtfnkpfbobdmieaaGreat
