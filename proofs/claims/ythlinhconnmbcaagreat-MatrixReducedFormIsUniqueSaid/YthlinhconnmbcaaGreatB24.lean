/- clear of an echelon form. -/
import Derived.Test.YthlinhconnmbcaaGreatB23
import Derived.Test.YthlinhconnmbcaaGreatB16
set_option maxRecDepth 100000
set_option maxHeartbeats 40000000
set_option linter.unusedVariables false
namespace Go.Proofs.YthlinhconnmbcaaGreat
open Go.RowKit RQ GE
set_option linter.unusedVariables false
theorem clear_any {w W0:World} {gE gR m pc c a:Nat} {B:List Nat} {P:Option Addr} {s:GS} {l:Rat} {zs:List Bk} {qs:List Rdg} (h:ESt w W0 gE gR B m P pc s l zs qs) (hn:B.length≤1000) (hm:m≤1000) (ht:s.p.length<B.length) (hc:c<m) (hl:l≠0) (hz:∀ i j,S2 a a (el s.M i j)) (hz':S2 a a l) (ha:a≤1000000):Calls Tryz.prog 64 #[.pointer (some ⟨gE,0,none⟩),.int .i64 c] W0 fun e W'=>e=.returned (.tuple #[])∧∃ P' pc',ESt w W' gE gR B m P' pc' ⟨bcls s.M c l s.p.length B.length,s.p++[c],s.f⟩ (el s.M s.p.length c) zs qs:=by
 have hec:=h.ec;have hlen:=h.len;have hrct:=h.rct;obtain⟨n,hnB⟩:∃ n,n=B.length:=⟨_,rfl⟩;obtain⟨t,htp⟩:∃ t,t=s.p.length:=⟨_,rfl⟩;rw[←hnB] at hn ht hlen ⊢;rw[←hnB,←htp] at hec;rw[←htp] at ht ⊢;obtain⟨hgE,e0,e1,fE⟩:=hec;obtain⟨r,hr⟩:∃ r,n-t=r+1:=⟨n-t-1,by omega⟩
 have g1:(t:Int)≤(n:Int):=by omega
 have g2:(0:Int)≤(t:Int):=by omega
 have g3:(n:Int)-(t:Int)=((n-t:Nat):Int):=by omega
 have hne:¬ n=t:=by omega
 have hnr:Hid (n=t+1+r):=Lib.hid (by omega)
 have hel:=Lib.hid (fun b j=>el_bcls (c:=c) (l:=l) hrct (show t<s.M.length by omega) (a:=b) (j:=j) (m:=n) (by omega))
 have T:=Lib.hid h.drew;have hcm:=Lib.hid hc;have hmm:=Lib.hid hm;replace e0:=Lib.hid e0;replace e1:=Lib.hid e1;replace hr:=Lib.hid hr;replace hz:=Lib.hid hz;replace hz':=Lib.hid hz';replace hnB:=Lib.hid hnB;replace htp:=Lib.hid htp;replace hl:=Lib.hid hl;replace hlen:=Lib.hid hlen;replace hrct:=Lib.hid hrct;have haa:=Lib.hid ha;have hnn:=Lib.hid hn;clear h hgE fE hn hm ht hc ha;go_enter Tryz.func64,Tryz.ntmps64
 go_upto_region 0 with fail
 refine Wl.start (fun W=>Below W0.heap.size W0 W) [] rfl ?_
 have hS:Below W0.heap.size W0 W0.drew:=(Below.refl _ _).drew;refine Wl.t (i:=0) (v:=.pointer (some ⟨gE,0,none⟩)) (some 11) at0 (hy:=fun _ _=>by kernel_rfl) (hS:=hS) (h:=?_)
 refine Wl.t (i:=1) (v:=.pointer (some ⟨gE,0,none⟩)) (some 12) at1 (hy:=fun _ _=>by go_simp) (hS:=hS) (h:=?_)
 refine Wl.t (i:=2) (v:=.pointer (some ⟨gE,0,none⟩)) (some 13) at2 (hy:=fun _ _=>by go_simp) (hS:=hS) (h:=?_)
 refine Wl.t (i:=3) (v:=.slice (some ⟨gR,0,none⟩) n n) (some 14) at3 (hy:=fun W hS=>by (have k0:=bel_cell hS e0.out;clear hS;go_simp)) (hS:=hS) (h:=?_)
 refine Wl.t (i:=4) (v:=.pointer (some ⟨gE,0,none⟩)) (some 15) at4 (hy:=fun _ _=>by kernel_rfl) (hS:=hS) (h:=?_)
 refine Wl.t (i:=5) (v:=.pointer (some ⟨gE,0,none⟩)) (some 16) at5 (hy:=fun _ _=>by go_simp) (hS:=hS) (h:=?_)
 refine Wl.t (i:=6) (v:=.pointer (some ⟨gE,1,none⟩)) (some 17) at6 (hy:=fun _ _=>by go_simp) (hS:=hS) (h:=?_)
 refine Wl.t (i:=7) (v:=.slice P t pc) (some 18) at7 (hy:=fun W hS=>by (have k0:=bel_cell hS e1.out;clear hS;go_simp)) (hS:=hS) (h:=?_)
 refine Wl.t (i:=8) (v:=.int .i64 t) (some 19) at8 (hy:=fun _ _=>by go_simp) (hS:=hS) (h:=?_)
 refine Wl.t (i:=9) (v:=.slice (some ⟨gR,t,none⟩) (n-t) (n-t)) (some 20) at9 (hy:=fun _ _=>by go_simp) (hS:=hS) (h:=?_)
 refine Wl.t (i:=10) (v:=.slice (some ⟨gR,t,none⟩) (n-t) (n-t)) (some 4) at10 (hy:=fun _ _=>by go_simp) (hS:=hS) (h:=?_)
 refine Wl.done (by kernel_rfl) ?_
 rw[hr.out];obtain⟨w1,hw1⟩:∃ W,W=W0.drew:=⟨_,rfl⟩;rw[←hw1] at T ⊢;clear hw1 hS e0 e1 g1 g2 g3 hne;have q0:=(T.out.row (i:=t) (by rw[←hnB.out,hnr.out];omega)).1
 obtain⟨bt,hbt⟩:∃ b,b=B.getD t 0:=⟨_,rfl⟩;rw[←hbt] at q0;replace hbt:=Lib.hid hbt;have g4:(0:Int)<(r:Int)+1:=by omega
 have g5:(1:Int)≤(r:Int)+1:=by omega
 have g6:(0:Int)≤(r:Int):=by omega
 rcases Nat.eq_zero_or_pos r with hr0 | hr0
 ·subst hr0
  go_wp2
  go_loopw [27] (fun iv wr=>∃ i:Nat,i≤0∧iv=.int .i64 i∧ESt w wr gE gR B m P pc ⟨bcls s.M c l t (t+1+i),s.p,s.f⟩ l zs qs) (fun iv _=>0-(intOf iv).toNat)
  case atStart=>exact⟨0,Nat.zero_le _,rfl,by rw[bcls_top (by omega)];exact T.out⟩
  case round=>
   clear T q0;obtain⟨i,hir,rfl,T⟩:=hrel;rename World=>V0
   obtain rfl:0=i:=by omega
   have hn2:n=t+1+0:=hnr.out;rw[←hn2] at T;clear hn2;clear hir;have hcm1:=hcm.out;have htB:Hid (t<B.length):=Lib.hid (by rw[←hnB.out,hnr.out];omega)
   obtain⟨R,ys,rs,A1,n1,c1,D1,m1,d1,A2,n2,c2,D2,m2,d2,G,K,h1,h2,h3⟩:=T;rename World=>V0
   have e1:V0.cell? ⟨gE,1,none⟩=some (.slice P s.p.length pc):=G.st.cl 0 1 rfl rfl;have G1:=G.alloc #[.int .i64 c] 3 (by
    intro i z;match i with
    | 0=>simp
    | k+1=>simp)
   have hcb:=G1.st.cb 0 rfl;obtain⟨pv,hpv⟩:∃ v,v=Value.slice P s.p.length pc:=⟨_,rfl⟩;rw[←hpv] at e1 G1;replace hpv:=Lib.hid hpv;have hpl:s.p.length≤1000:=by rw[←htp.out];have:=hnn.out;have:=hnr.out;omega
   clear G
   go_wp2_with (at_builtin;refine app_int rfl (.tmp 77) (.tmp 79) rfl rfl G1 _ rfl hcb (by show s.p.length≤100000;omega) ?_)
   clear G1 hcb e1;intro v' W5 AP;obtain⟨⟨k0,f0⟩,P',pc',rfl,T5⟩:=ESt.mkp (s:=⟨bcls s.M c l t n,s.p,s.f⟩) (zs:=zs) (qs:=qs) (c:=c) AP K h1 h2 h3;replace k0:W5.cell? ⟨gE,1,none⟩=some (.slice P s.p.length pc):=k0;replace T5:=Lib.hid T5;clear AP K h1 h2 h3;go_upto_region 14 with fail
   clear k0 f0;obtain⟨V5,hV5⟩:∃ W,W=W5.setCell ⟨gE,1,none⟩ (.slice P' (s.p.length+1) pc'):=⟨_,rfl⟩;replace T5:=T5.out;rw[←hV5] at T5 ⊢;clear hV5;obtain⟨y,yq,yc,yr,y0,y1,y2,_⟩:=T5.num htB.out hcm1;rw[←hbt.out] at y0 y1 y2;obtain⟨_,_,_,_,_,_,l0,l1,l2,_⟩:=T5.last;have fE:=T5.ec.2.2.2;have f2:=fE 2;have f3:=fE 3;have f4:=fE 4;have T6:=T5.setl y ⟨yc,yr⟩;have yq2:y.q=el s.M t c:=by
    rw[yq]
    show el (bcls s.M c l t n) t c=_
    rw[hel.out,if_neg (by omega)]
   rw[yq2] at T6;replace T6:=Lib.hid T6;have g7:(0:Int)≤(c:Int):=by omega
   have g8:(c:Int)<(m:Int):=by omega
   clear fE T5 yq yc yr yq2;go_wp2;refine bodyPost_end (results_none rfl _ _ _) rfl ?_
   exact⟨rfl,P',pc',T6.out⟩
 ·have hr1:¬ r=0:=by omega
  go_wp2
  go_loopw [27] (fun iv wr=>∃ i:Nat,i≤r∧iv=.int .i64 i∧ESt w wr gE gR B m P pc ⟨bcls s.M c l t (t+1+i),s.p,s.f⟩ l zs qs) (fun iv _=>r-(intOf iv).toNat)
  case atStart=>exact⟨0,Nat.zero_le _,rfl,by rw[bcls_top (by omega)];exact T.out⟩
  case round=>
   clear T q0 g4 g5 g6;obtain⟨i,hir,rfl,T⟩:=hrel;rename World=>V0
   by_cases hlt:i<r
   ·have g4:(i:Int)<(r:Int):=by omega
    have g5:(0:Int)≤(i:Int):=by omega
    have hih:=Lib.hid hlt;obtain⟨ri,hri⟩:∃ k,k=t+1+i:=⟨_,rfl⟩;have hriB:Hid (ri<B.length):=Lib.hid (by rw[←hnB.out,hnr.out];omega)
    have htB:Hid (t<B.length):=Lib.hid (by rw[←hnB.out,hnr.out];omega)
    obtain⟨Mi,hMi⟩:∃ M,M=bcls s.M c l t ri:=⟨_,rfl⟩;rw[←hri,←hMi] at T;have q0:=(T.row hriB.out).1;obtain⟨bi,hbi⟩:∃ b,b=B.getD ri 0:=⟨_,rfl⟩;obtain⟨x,hxq,hxc,hxr,x0,x1,x2,fx⟩:=T.num hriB.out hcm.out;rw[←hbi] at q0 x0 x1 x2;rw[hri] at q0;have hMl:Hid (Mi.length=n):=Lib.hid (by rw[hMi,bcls_len,hlen.out])
    have hMr:Hid (GE.rct m Mi):=Lib.hid T.rct;have hEi:Hid (∀ b j,(b=t∨b=ri)→el Mi b j=el s.M b j):=Lib.hid fun b j hb=>by
     rw[hMi,el_bcls hrct.out (by rw[hlen.out,hnr.out];omega) (by rw[hlen.out,hnr.out];omega),if_neg (by omega)]
    replace hri:=Lib.hid hri;replace hMi:=Lib.hid hMi;replace hbi:=Lib.hid hbi;replace hxc:=Lib.hid hxc;replace T:=Lib.hid T;have hxr_:=Lib.hid hxr;have hxq_:=Lib.hid hxq;clear hlt hir fx hxr hxq;go_upto_region 6 with fail
    obtain⟨gF,hgF⟩:∃ g,g=V0.heap.size:=⟨_,rfl⟩;obtain⟨V1,hV1⟩:∃ W,W=V0.alloc (.cells #[.bool x.b,.slice x.A x.n x.c,.slice x.D x.m x.d] 33):=⟨_,rfl⟩;have B1:Below V0.heap.size V0 V1:=by rw[hV1];exact (Below.refl _ _).alloc (Nat.le_refl _) _
    have T1:ESt w V1 gE gR B m P pc ⟨Mi,s.p,s.f⟩ l ((gF,#[.bool x.b,.slice x.A x.n x.c,.slice x.D x.m x.d],33)::zs) qs:=by rw[hV1,hgF];exact T.out.alloc _ _ (noL3 _ _ _ _ _ _ _)
    rw[←hV1,←hgF];clear hV1 hgF;have T1:=(T1.read (hxr_.out.bel B1).1).read (hxr_.out.bel B1).2;obtain⟨z,_,_,_,k0,k1,k2,f0⟩:=T1.num hriB.out hcm.out;rw[←hbi.out] at k0 k1 k2 f0;have fz0:=f0 (c*3);have fz1:=f0 (c*3+1);have fz2:=f0 (c*3+2);have T2:=T1.put (Below.refl _ _) hriB.out (j:=c) Zt ⟨Zt_can,Zt_raw _⟩;rw[←hbi.out] at T2;obtain⟨ra,hra⟩:∃ q,q=Mi.getD t []:=⟨_,rfl⟩;obtain⟨rb,hrb⟩:∃ q,q=Mi.getD ri []:=⟨_,rfl⟩
    have hrbl:rb.length=m:=by rw[hrb];exact rct_getD hMr.out (by rw[hMl.out,hnr.out,hri.out];have:=hih.out;omega)
    have e2:(Mi.getD ri []).set c Zt.q=pr1 c l ra rb (c+1):=by rw[←hrb];exact pr1_start (by rw[hrbl];exact hcm.out)
    simp only[e2] at T2;have hE2:Hid (∀ j,ra.getD j 0=el s.M t j∧rb.getD j 0=el s.M ri j):=Lib.hid fun j=>⟨by rw[hra];exact hEi.out t j (.inl rfl),by rw[hrb];exact hEi.out ri j (.inr rfl)⟩
    have hxq2:Hid (x.q=el s.M ri c):=Lib.hid (hxq_.out.trans (hEi.out ri c (.inr rfl)));replace hra:=Lib.hid hra;replace hrb:=Lib.hid hrb;replace hrbl:=Lib.hid hrbl;replace T2:=Lib.hid T2;clear T1 B1 T hxr_ f0 e2 hEi hxq_ x0 x1 x2 q0;have hcm1:=hcm.out;have hmm1:=hmm.out;go_wp2;clear k0 k1 k2 fz0 fz1 fz2
    go_loopw [9] (fun jv wr=>∃ j:Nat,c+1≤j∧j≤m∧jv=.int .i64 j∧ESt w wr gE gR B m P pc ⟨Mi.set ri (pr1 c l ra rb j),s.p,s.f⟩ l ((gF,#[.bool x.b,.slice x.A x.n x.c,.slice x.D x.m x.d],33)::zs) ((x.D,x.m,x.d,x.y)::(x.A,x.n,x.c,x.x)::qs)) (fun jv _=>m-(intOf jv).toNat)
    case atStart=>exact⟨c+1,Nat.le_refl _,by omega,by go_num,T2.out⟩
    case round=>
     clear T2 hcm1;obtain⟨j,hcj,hjm,rfl,T⟩:=hrel;rename World=>V1
     by_cases hlj:j<m
     ·have g6:(j:Int)<(m:Int):=by omega
      have g7:(0:Int)≤(j:Int):=by omega
      have g8:(0:Int)≤(c:Int):=by omega
      have g9:(c:Int)<(m:Int):=by have:=hcm.out;omega
      have hjm':Hid (j<m):=Lib.hid hlj;have hcj':=Lib.hid hcj;obtain⟨y1,q1,k1,r1,u0,u1,u2,_⟩:=T.num htB.out hcm.out;obtain⟨y2,q2,k2,r2,v0,v1,v2,_⟩:=T.num hriB.out hlj;obtain⟨y3,q3,k3,r3,s0,s1,s2,_⟩:=T.num htB.out hlj;rw[←hbt.out] at u0 u1 u2 s0 s1 s2;rw[←hbi.out] at v0 v1 v2;have hZ:=T.zc (g:=gF) List.mem_cons_self;have x0:=Lib.hid (hZ.cell (i:=0) rfl);have x1:=Lib.hid (hZ.cell (i:=1) rfl);have x2:=Lib.hid (hZ.cell (i:=2) rfl)
      have rx:x.raw V1:=⟨T.rd (List.mem_cons_of_mem _ List.mem_cons_self),T.rd List.mem_cons_self⟩;have hti:t≠ri:=by rw[hri.out];omega
      have w1:y1.q=el s.M t c:=by rw[q1];show ((Mi.set ri _).getD t []).getD c 0=_;rw[set_getD (Ne.symm hti),←hra.out];exact (hE2.out c).1
      have w3:y3.q=el s.M t j:=by rw[q3];show ((Mi.set ri _).getD t []).getD j 0=_;rw[set_getD (Ne.symm hti),←hra.out];exact (hE2.out j).1
      have hriM:ri<Mi.length:=by rw[hMl.out,hnB.out];exact hriB.out
      have w2:y2.q=el s.M ri j:=by rw[q2];show ((Mi.set ri _).getD ri []).getD j 0=_;rw[set_getS hriM,pr1_get (by omega) (by rw[hrbl.out];exact hlj)];exact (hE2.out j).2
      have z1:=hz.out t c;have z2:=hz.out ri j;have z3:=hz.out t j;have z4:=hz.out ri c;rw[←w1] at z1;rw[←w2] at z2;rw[←w3] at z3;rw[←hxq2.out] at z4;have s1_:=z1.mul z2;have s2_:=z4.mul z3;have s3_:=s1_.sub s2_;have s4_:=s3_.div hz'.out;have haq:=haa.out;have rs1:=S2.rs s1_ (p:=9000000) (by omega) (by omega)
      have rs2:=S2.rs s2_ (p:=9000000) (by omega) (by omega)
      have rs3:=S2.rs s3_ (p:=9000000) (by omega) (by omega)
      have rs4:=S2.rs s4_ (p:=9000000) (by omega) (by omega)
      have rsl:=Lib.hid (S2.rs hz'.out (p:=9000000) (by omega) (by omega))
      obtain⟨p1,hp1⟩:∃ q,q=y1.q*y2.q:=⟨_,rfl⟩;obtain⟨p2,hp2⟩:∃ q,q=x.q*y3.q:=⟨_,rfl⟩;rw[←hp1] at rs1 rs3 rs4;rw[←hp2] at rs2 rs3 rs4;obtain⟨p3,hp3⟩:∃ q,q=p1-p2:=⟨_,rfl⟩;rw[←hp3] at rs3 rs4;obtain⟨p4,hp4⟩:∃ q,q=p3 / l:=⟨_,rfl⟩;rw[←hp4] at rs4;have hM1:Hid (∀ W,Below V1.heap.size V1 W→Calls Tryz.prog 60 #[.agg #[.bool y1.b,.slice y1.A y1.n y1.c,.slice y1.D y1.m y1.d],.agg #[.bool y2.b,.slice y2.A y2.n y2.c,.slice y2.D y2.m y2.d]] W (RetR p1 W)):=Lib.hid fun W hW=>by rw[hp1];exact mulT k1 (r1.bel hW) k2 (r2.bel hW)
      have hM2:Hid (∀ W,Below V1.heap.size V1 W→Calls Tryz.prog 60 #[.agg #[.bool x.b,.slice x.A x.n x.c,.slice x.D x.m x.d],.agg #[.bool y3.b,.slice y3.A y3.n y3.c,.slice y3.D y3.m y3.d]] W (RetR p2 W)):=Lib.hid fun W hW=>by rw[hp2];exact mulT hxc.out (rx.bel hW) k3 (r3.bel hW)
      have hS1:Hid (∀ W A5 n5 c5 D5 m5 d5 A6 n6 c6 D6 m6 d6,RR W A5 n5 c5 D5 m5 d5 p1→RR W A6 n6 c6 D6 m6 d6 p2→Calls Tryz.prog 79 #[.agg #[.bool (ng p1.num),.slice A5 n5 c5,.slice D5 m5 d5],.agg #[.bool (ng p2.num),.slice A6 n6 c6,.slice D6 m6 d6]] W (RetR p3 W)):=Lib.hid fun W A5 n5 c5 D5 m5 d5 A6 n6 c6 D6 m6 d6 X Y=>by rw[hp3];exact subT (Rt.of_can A5 n5 c5 D5 m5 d5 rs1) X.raw (Rt.of_can A6 n6 c6 D6 m6 d6 rs2) Y.raw
      have hpp:Hid ((pr1 c l ra rb j).set j p4=pr1 c l ra rb (j+1)):=Lib.hid (by
       rw[←pr1_step (by omega) (by rw[hrbl.out];exact hlj),(hE2.out c).1,(hE2.out j).2,(hE2.out c).2,(hE2.out j).1,←w1,←w2,←w3,←hxq2.out,←hp1,←hp2,←hp3,←hp4])
      have hriM_:=Lib.hid hriM;replace u0:=Lib.hid u0;replace u1:=Lib.hid u1;replace u2:=Lib.hid u2;replace v0:=Lib.hid v0;replace v1:=Lib.hid v1;replace v2:=Lib.hid v2;replace s0:=Lib.hid s0;replace s1:=Lib.hid s1;replace s2:=Lib.hid s2;replace rs3:=Lib.hid rs3;replace rs4:=Lib.hid rs4;replace hp4:=Lib.hid hp4;replace T:=Lib.hid T;clear hlj hcj hjm q1 q2 q3 k1 k2 k3 r1 r2 r3 rx w1 w2 w3 z1 z2 z3 z4 s1_ s2_ s3_ s4_ rs1 rs2 hp1 hp2 hp3 hti hriM hZ haq
      go_upto_region 10 with fail
      have hbase:=Lib.hid (St.new V1);refine RW.begin (Z:=[⟨16,10,#[.bool false,.slice none 0 0,.slice none 0 0],33⟩]) (S:=(fun W=>Below V1.heap.size V1 W)) (by kernel_rfl) ?_ hbase.out ?_
      ·exact⟨by kernel_rfl,(zis_cons at16 (fun _ _=>by kernel_rfl) zis_nil),by decide,by decide,(nol_cons (noLof rfl) nol_nil),(fun _ _ h=>h.bel)⟩
      intro hzk;refine RW.t (i:=0) (v:=.slice (some ⟨bt,0,none⟩) m m) (some 47) at0 (hy:=fun _ _=>by kernel_rfl) (h:=?_)
      refine RW.t (i:=1) (v:=.int .i64 c) (some 48) at1 (hy:=fun _ _=>by kernel_rfl) (h:=?_)
      refine RW.t (i:=2) (v:=.pointer (some ⟨bt,c*3,none⟩)) (some 49) at2 (hy:=fun _ _=>by go_simp) (h:=?_)
      refine RW.t (i:=3) (v:=.agg #[.bool y1.b,.slice y1.A y1.n y1.c,.slice y1.D y1.m y1.d]) (some 50) at3 (hy:=fun W hS=>by (have k0:=bel_cell hS u0.out;have k1:=bel_cell hS u1.out;have k2:=bel_cell hS u2.out;clear hS;go_simp)) (h:=?_)
      refine RW.t (i:=4) (v:=.slice (some ⟨bi,0,none⟩) m m) (some 51) at4 (hy:=fun _ _=>by kernel_rfl) (h:=?_)
      refine RW.t (i:=5) (v:=.int .i64 j) (some 52) at5 (hy:=fun _ _=>by kernel_rfl) (h:=?_)
      refine RW.t (i:=6) (v:=.pointer (some ⟨bi,j*3,none⟩)) (some 53) at6 (hy:=fun _ _=>by go_simp) (h:=?_)
      refine RW.t (i:=7) (v:=.agg #[.bool y2.b,.slice y2.A y2.n y2.c,.slice y2.D y2.m y2.d]) (some 54) at7 (hy:=fun W hS=>by (have k0:=bel_cell hS v0.out;have k1:=bel_cell hS v1.out;have k2:=bel_cell hS v2.out;clear hS;go_simp)) (h:=?_)
      refine RW.t (i:=9) (v:=.agg #[.bool x.b,.slice x.A x.n x.c,.slice x.D x.m x.d]) (some 56) at9 (hy:=fun W hS=>by (have k0:=bel_cell hS x0.out;have k1:=bel_cell hS x1.out;have k2:=bel_cell hS x2.out;clear hS;go_simp)) (h:=?_)
      refine RW.t (i:=10) (v:=.slice (some ⟨bt,0,none⟩) m m) (some 57) at10 (hy:=fun _ _=>by kernel_rfl) (h:=?_)
      refine RW.t (i:=11) (v:=.int .i64 j) (some 58) at11 (hy:=fun _ _=>by kernel_rfl) (h:=?_)
      refine RW.t (i:=12) (v:=.pointer (some ⟨bt,j*3,none⟩)) (some 59) at12 (hy:=fun _ _=>by go_simp) (h:=?_)
      refine RW.t (i:=13) (v:=.agg #[.bool y3.b,.slice y3.A y3.n y3.c,.slice y3.D y3.m y3.d]) (some 60) at13 (hy:=fun W hS=>by (have k0:=bel_cell hS s0.out;have k1:=bel_cell hS s1.out;have k2:=bel_cell hS s2.out;clear hS;go_simp)) (h:=?_)
      refine RW.c (i:=8) (args:=#[.agg #[.bool y1.b,.slice y1.A y1.n y1.c,.slice y1.D y1.m y1.d],.agg #[.bool y2.b,.slice y2.A y2.n y2.c,.slice y2.D y2.m y2.d]]) (some 55) hzk.out at8 (hx:=fun _=>by kernel_rfl) (h:=fun W S=>(hM1.out W S.bel).mono ?_)
      rintro e w5 ⟨A5,n5,c5,D5,m5,d5,rfl,X5,bb⟩;refine⟨bb,_,[(D5,m5,d5,dn (p1)),(A5,n5,c5,limbs (p1).num.natAbs)],rfl,(rd_cons X5.d (rd_cons X5.n rd_nil)),?_⟩
      clear bb S X5;refine RW.c (i:=14) (args:=#[.agg #[.bool x.b,.slice x.A x.n x.c,.slice x.D x.m x.d],.agg #[.bool y3.b,.slice y3.A y3.n y3.c,.slice y3.D y3.m y3.d]]) (some 61) hzk.out at14 (hx:=fun _=>by kernel_rfl) (h:=fun W S=>(hM2.out W S.bel).mono ?_)
      rintro e w6 ⟨A6,n6,c6,D6,m6,d6,rfl,X6,bb⟩;refine⟨bb,_,[(D6,m6,d6,dn (p2)),(A6,n6,c6,limbs (p2).num.natAbs)],rfl,(rd_cons X6.d (rd_cons X6.n rd_nil)),?_⟩
      clear bb S X6;refine RW.c (i:=15) (args:=#[.agg #[.bool (ng p1.num),.slice A5 n5 c5,.slice D5 m5 d5],.agg #[.bool (ng p2.num),.slice A6 n6 c6,.slice D6 m6 d6]]) (some 62) hzk.out at15 (hx:=fun _=>by kernel_rfl) (h:=fun W S=>(hS1.out W A5 n5 c5 D5 m5 d5 A6 n6 c6 D6 m6 d6 ⟨S.r 3 rfl,S.r 2 rfl⟩ ⟨S.r 1 rfl,S.r 0 rfl⟩).mono ?_)
      rintro e w7 ⟨A7,n7,c7,D7,m7,d7,rfl,X7,bb⟩;refine⟨bb,_,[(D7,m7,d7,dn (p3)),(A7,n7,c7,limbs (p3).num.natAbs)],rfl,(rd_cons X7.d (rd_cons X7.n rd_nil)),?_⟩
      clear bb S X7;refine RW.tail hzk.out (by kernel_rfl) ?_
      intro gs w8 hgs hS S;obtain⟨gx,rfl⟩:=len1' hgs;clear hS hgs hzk hbase;simp only[mark,fill,List.map,Act.put,sZ0,sZ1,sZ2];replace S:=Lib.hid S;refine Wk.o (i:=17) at17 (by kernel_rfl) fun K' hK=>?_
      have z0:=St.cl S.out 0 0 rfl rfl;have z1:=St.cl S.out 0 1 rfl rfl;have z2:=St.cl S.out 0 2 rfl rfl;have y0:=St.f S.out 0 0 rfl;have y1_:=St.f S.out 0 1 rfl;have y2_:=St.f S.out 0 2 rfl
      go_simp
      have SN:=((S.out.set 0 0 (.bool (ng p3.num)) rfl (by nofun)).set 0 1 (.slice A7 n7 c7) rfl (by nofun)).set 0 2 (.slice D7 m7 d7) rfl (by nofun)
      clear S z0 z1 z2 y0 y1_ y2_;have S:=Lib.hid SN;clear SN;refine hK.out _ _ S.out.bel ?_
      clear hK K'
      try simp only[Act.put,sZ0,sZ1,sZ2]
      refine Wk.done (by kernel_rfl) ?_
      obtain⟨V2,hV2⟩:∃ W,W=((w8.setCell ⟨gx,0,none⟩ (.bool (ng p3.num))).setCell ⟨gx,1,none⟩ (.slice A7 n7 c7)).setCell ⟨gx,2,none⟩ (.slice D7 m7 d7):=⟨_,rfl⟩;rw[←hV2] at S ⊢;have X7:RR V2 A7 n7 c7 D7 m7 d7 p3:=⟨S.out.r 1 rfl,S.out.r 0 rfl⟩;have B2:Below V1.heap.size V1 V2:=S.out.bel;have c0:=Lib.hid (S.out.cl 0 0 rfl rfl);have c1_:=Lib.hid (S.out.cl 0 1 rfl rfl);have c2_:=Lib.hid (S.out.cl 0 2 rfl rfl)
      have T2:=Lib.hid (T.out.call B2);clear hV2 S T u0 u1 u2 v0 v1 v2 s0 s1 s2 x0 x1 x2 hM1 hM2 hS1
      go_simp
      obtain⟨Al,nl,cl,Dl,ml,dl,l0,l1,l2,Xl⟩:=T2.out.last;have hQ:Hid (∀ W,Below V2.heap.size V2 W→Calls Tryz.prog 41 #[.agg #[.bool (ng p3.num),.slice A7 n7 c7,.slice D7 m7 d7],.agg #[.bool (ng l.num),.slice Al nl cl,.slice Dl ml dl]] W (RetR p4 W)):=Lib.hid fun W hW=>by rw[hp4.out];exact quoT (Rt.of_can A7 n7 c7 D7 m7 d7 rs3.out) (X7.below hW).raw (Rt.of_can Al nl cl Dl ml dl rsl.out) (Xl.below hW).raw
      have hput:Hid (∀ W A9 n9 c9 D9 m9 d9,Below V2.heap.size V2 W→RR W A9 n9 c9 D9 m9 d9 p4→ESt w (((W.setCell ⟨bi,j*3,none⟩ (.bool (ng p4.num))).setCell ⟨bi,j*3+1,none⟩ (.slice A9 n9 c9)).setCell ⟨bi,j*3+2,none⟩ (.slice D9 m9 d9)) gE gR B m P pc ⟨Mi.set ri (pr1 c l ra rb (j+1)),s.p,s.f⟩ l ((gF,#[.bool x.b,.slice x.A x.n x.c,.slice x.D x.m x.d],33)::zs) ((x.D,x.m,x.d,x.y)::(x.A,x.n,x.c,x.x)::qs)):=Lib.hid fun W A9 n9 c9 D9 m9 d9 hW X=>by
       have:=T2.out.put hW hriB.out (j:=j) (Rt.of A9 n9 c9 D9 m9 d9 p4) ⟨Rt.of_can _ _ _ _ _ _ rs4.out,X.raw⟩;rw[←hbi.out] at this;have e:(Mi.set ri (pr1 c l ra rb j)).set ri (((Mi.set ri (pr1 c l ra rb j)).getD ri []).set j p4)=Mi.set ri (pr1 c l ra rb (j+1)):=by rw[set_getS hriM_.out,hpp.out,List.set_set]
       rw[←e];exact this
      replace l0:=Lib.hid l0;replace l1:=Lib.hid l1;replace l2:=Lib.hid l2;clear X7 Xl B2 rs3 rs4 rsl;go_upto_region 11 with fail
      refine Wl.start (fun W=>Below V2.heap.size V2 W) [9] rfl ?_
      have hS:Below V2.heap.size V2 V2.drew:=(Below.refl _ _).drew;refine Wl.t (i:=0) (v:=.slice (some ⟨bi,0,none⟩) m m) (some 63) at0 (hy:=fun _ _=>by kernel_rfl) (hS:=hS) (h:=?_)
      refine Wl.t (i:=1) (v:=.int .i64 j) (some 64) at1 (hy:=fun _ _=>by kernel_rfl) (hS:=hS) (h:=?_)
      refine Wl.t (i:=2) (v:=.agg #[.bool (ng p3.num),.slice A7 n7 c7,.slice D7 m7 d7]) (some 65) at2 (hy:=fun W hS=>by (have k0:=bel_cell hS c0.out;have k1:=bel_cell hS c1_.out;have k2:=bel_cell hS c2_.out;clear hS;go_simp)) (hS:=hS) (h:=?_)
      refine Wl.t (i:=3) (v:=.pointer (some ⟨gE,0,none⟩)) (some 66) at3 (hy:=fun _ _=>by kernel_rfl) (hS:=hS) (h:=?_)
      refine Wl.t (i:=4) (v:=.pointer (some ⟨gE,0,none⟩)) (some 67) at4 (hy:=fun _ _=>by go_simp) (hS:=hS) (h:=?_)
      refine Wl.t (i:=5) (v:=.pointer (some ⟨gE,2,none⟩)) (some 68) at5 (hy:=fun _ _=>by go_simp) (hS:=hS) (h:=?_)
      refine Wl.t (i:=6) (v:=.agg #[.bool (ng l.num),.slice Al nl cl,.slice Dl ml dl]) (some 69) at6 (hy:=fun W hS=>by (have k0:=bel_cell hS l0.out;have k1:=bel_cell hS l1.out;have k2:=bel_cell hS l2.out;clear hS;go_simp)) (hS:=hS) (h:=?_)
      try simp only[Act.put,sZ0,sZ1,sZ2]
      refine Wl.g (i:=7) at7 (by kernel_rfl) (by kernel_rfl) fun K' hK=>?_
      refine oper_call (f:=41) (args:=#[.agg #[.bool (ng p3.num),.slice A7 n7 c7,.slice D7 m7 d7],.agg #[.bool (ng l.num),.slice Al nl cl,.slice Dl ml dl]]) rfl (by kernel_rfl) ((hQ.out _ hS).mono ?_)
      rintro e V3 ⟨A9,n9,c9,D9,m9,d9,rfl,X9,bb⟩;have hS3:=hS.trans (bb.mono hS.size);refine⟨_,rfl,hK.out _ _ hS3 ?_⟩
      clear hK K' hS bb
      try simp only[Act.put,sZ0,sZ1,sZ2]
      refine Wl.t (i:=8) (v:=.pointer (some ⟨bi,j*3,none⟩)) (some 71) at8 (hy:=fun _ _=>by go_simp) (hS:=hS3) (h:=?_)
      obtain⟨V4,hV4,T4⟩:∃ W,W=((V3.setCell ⟨bi,j*3,none⟩ (.bool (ng p4.num))).setCell ⟨bi,j*3+1,none⟩ (.slice A9 n9 c9)).setCell ⟨bi,j*3+2,none⟩ (.slice D9 m9 d9)∧Hid (ESt w W gE gR B m P pc ⟨Mi.set ri (pr1 c l ra rb (j+1)),s.p,s.f⟩ l ((gF,#[.bool x.b,.slice x.A x.n x.c,.slice x.D x.m x.d],33)::zs) ((x.D,x.m,x.d,x.y)::(x.A,x.n,x.c,x.x)::qs)):=⟨_,rfl,Lib.hid (hput.out V3 A9 n9 c9 D9 m9 d9 hS3 X9)⟩;have T3:=T2.out.call hS3
      obtain⟨z,_,_,_,k0,k1,k2,f0⟩:=T3.num hriB.out hjm'.out;rw[←hbi.out] at k0 k1 k2 f0;have fz0:=f0 (j*3);have fz1:=f0 (j*3+1);have fz2:=f0 (j*3+2);clear f0
      try simp only[Act.put,sZ0,sZ1,sZ2]
      refine Wl.s (i:=9) at9 (by kernel_rfl) (by kernel_rfl) (by kernel_rfl) fun K' hK=>?_
      go_simp
      rw[←hV4];refine hK.out _ _ ?_
      clear hK K' k0 k1 k2 fz0 fz1 fz2 hV4 T2 T3 X9 hS3;refine Wl.done (by kernel_rfl) ?_
      have hjm1:=hjm'.out;have hcj1:=hcj'.out;have hmm2:=hmm.out
      go_simp
      go_wp2
      go_roundw
      case rel=>exact⟨j+1,by omega,by omega,by go_num,T4.out⟩
      case measure=>simp[intOf];omega
     ·obtain rfl:m=j:=by omega
      have hi1:=hih.out;have T4:Hid (ESt w V1 gE gR B m P pc ⟨bcls s.M c l t (t+1+(i+1)),s.p,s.f⟩ l zs qs):=Lib.hid (by
       have e:bcls s.M c l t (t+1+(i+1))=Mi.set ri (pr1 c l ra rb m):=by
        rw[show t+1+(i+1)=ri+1 by rw[hri.out];rfl]
        show (if ri≤t then _ else _)=_
        rw[if_neg (by rw[hri.out];omega),←hMi.out,←hra.out,←hrb.out,←pr1_end,hrbl.out]
       rw[e];exact T.pop)
      have hrr:r≤1000:=by have:=hnr.out;have:=hnn.out;omega
      clear T hlj hcj hjm;go_wp2
      go_roundw
      case rel=>exact⟨i+1,by omega,by go_num,T4.out⟩
      case measure=>simp[intOf];omega
   ·obtain rfl:r=i:=by omega
    have hn2:=hnr.out;rw[←hn2] at T;clear hn2;clear hlt hir;have hcm1:=hcm.out;have htB:Hid (t<B.length):=Lib.hid (by rw[←hnB.out,hnr.out];omega)
    obtain⟨R,ys,rs,A1,n1,c1,D1,m1,d1,A2,n2,c2,D2,m2,d2,G,K,h1,h2,h3⟩:=T;rename World=>V0
    have e1:V0.cell? ⟨gE,1,none⟩=some (.slice P s.p.length pc):=G.st.cl 0 1 rfl rfl;have G1:=G.alloc #[.int .i64 c] 3 (by
     intro i z;match i with
     | 0=>simp
     | k+1=>simp)
    have hcb:=G1.st.cb 0 rfl;obtain⟨pv,hpv⟩:∃ v,v=Value.slice P s.p.length pc:=⟨_,rfl⟩;rw[←hpv] at e1 G1;replace hpv:=Lib.hid hpv;have hpl:s.p.length≤1000:=by rw[←htp.out];have:=hnn.out;have:=hnr.out;omega
    clear G
    go_wp2_with (at_builtin;refine app_int rfl (.tmp 77) (.tmp 79) rfl rfl G1 _ rfl hcb (by show s.p.length≤100000;omega) ?_)
    clear G1 hcb e1;intro v' W5 AP;obtain⟨⟨k0,f0⟩,P',pc',rfl,T5⟩:=ESt.mkp (s:=⟨bcls s.M c l t n,s.p,s.f⟩) (zs:=zs) (qs:=qs) (c:=c) AP K h1 h2 h3;replace k0:W5.cell? ⟨gE,1,none⟩=some (.slice P s.p.length pc):=k0;replace T5:=Lib.hid T5;clear AP K h1 h2 h3;go_upto_region 14 with fail
    clear k0 f0;obtain⟨V5,hV5⟩:∃ W,W=W5.setCell ⟨gE,1,none⟩ (.slice P' (s.p.length+1) pc'):=⟨_,rfl⟩;replace T5:=T5.out;rw[←hV5] at T5 ⊢;clear hV5;obtain⟨y,yq,yc,yr,y0,y1,y2,_⟩:=T5.num htB.out hcm1;rw[←hbt.out] at y0 y1 y2;obtain⟨_,_,_,_,_,_,l0,l1,l2,_⟩:=T5.last;have fE:=T5.ec.2.2.2;have f2:=fE 2;have f3:=fE 3;have f4:=fE 4;have T6:=T5.setl y ⟨yc,yr⟩;have yq2:y.q=el s.M t c:=by
     rw[yq]
     show el (bcls s.M c l t n) t c=_
     rw[hel.out,if_neg (by omega)]
    rw[yq2] at T6;replace T6:=Lib.hid T6;have g7:(0:Int)≤(c:Int):=by omega
    have g8:(c:Int)<(m:Int):=by omega
    clear fE T5 yq yc yr yq2;go_wp2;refine bodyPost_end (results_none rfl _ _ _) rfl ?_
    exact⟨rfl,P',pc',T6.out⟩
end Go.Proofs.YthlinhconnmbcaaGreat
namespace Go.Proofs.YthlinhconnmbcaaGreat
open Go.RowKit RQ GE
set_option linter.unusedVariables false
theorem gw_app:∀ {l:List Rat} {s x:Rat},GE.wsc s (l++[x])=(if x.den=1 then GE.wsc s l else GE.wsc s l*((GE.wsc s l*x).den:Rat))
 | [],_,_=>rfl
 | y::l,s,x=>by
  show GE.wsc (if y.den=1 then s else s*((s*y).den:Rat)) (l++[x])=_
  rw[gw_app];rfl
theorem wsc_gw (l:List Rat):∀ i,i≤l.length→wsc l i=GE.wsc 1 (l.take i)
 | 0,_=>rfl
 | i+1,h=>by
  have ih:=wsc_gw l i (by omega)
  have hx:l[i]?=some (l.getD i 0):=getD_at (by omega)
  rw[List.take_add_one,hx]
  show wsc l i*(((wsc l i*l.getD i 0).den:Int):Rat)=GE.wsc 1 (l.take i++[l.getD i 0])
  rw[gw_app,←ih]
  split
  ·rename_i h1
   rw[den1_mul (wsc_den l i) h1];exact Rat.mul_one _
  ·rfl
theorem s2_mem {L:List Rt} {a d:Nat} (hs:∀ x∈L,S2 a d x.q):∀ q∈L.map (·.q),q.num.natAbs≤4294967296^a∧q.den≤4294967296^d:=fun q hq=>by
 obtain⟨x,hx,rfl⟩:=List.mem_map.1 hq;exact⟨(hs x hx).n,(hs x hx).d⟩
theorem whole_s2 (L:List Rt) (A:Option Addr) (n c:Nat) (w:World) (h:Sr w A n c L) (ka:∀ r∈L,Rk r.b r.n r.x r.m r.y r.q) (a d:Nat) (hs:∀ x∈L,S2 a d x.q) (hd:d*n+a+d<9000000) (hn:n≤1000):Calls Tryz.prog 36 #[.slice A n c] w (RetLo L n (GE.wsc 1 (L.map (·.q))) w):=by
 have hl:(L.map (·.q)).length=n:=by rw[List.length_map];exact h.len
 have e:wsc (L.map (·.q)) n=GE.wsc 1 (L.map (·.q)):=by rw[wsc_gw _ n (by omega),List.take_of_length_le (by omega)]
 have hm:=s2_mem hs;have h1:∀ i,i≤n→S2 (d*n) 0 (wsc (L.map (·.q)) i):=fun i hi=>by
  rw[wsc_gw _ i (by omega)]
  exact (wsc_s2 (m:=n) (by rw[List.length_take];omega) fun x hx=>hm x (List.mem_of_mem_take hx)).1
 have:=whole_own L A n c w h ka (fun i hi=>S2.rs (h1 i hi) (by omega) (by omega)) (fun i hi r hr=>S2.rs ((h1 i hi).mul (hs r hr)) (by omega) (by omega)) hn
 rwa [e] at this
theorem pr_s2 {f:Nat→Rat} {b:Nat} (hf:∀ i,S2 b 0 (f i)):∀ m,S2 (m*b) 0 (pr f m)
 | 0=>S2.one
 | m+1=>by
  have:=(pr_s2 hf m).mul (hf m);rw[Nat.add_mul,Nat.one_mul];exact this
theorem rsc_s2 {M:List (List Rat)} {a d k:Nat} (hk:∀ r∈M,r.length≤k) (h:∀ r∈M,∀ x∈r,S2 a d x) (i:Nat):S2 (d*k) 0 (rsc M i):=by
 unfold rsc;rw[List.getD_eq_getElem?_getD]
 cases hi:M[i]? with
 | none=>exact S2.one
 | some r=>
  have hm:=List.mem_of_getElem? hi;exact (wsc_s2 (hk r hm) fun x hx=>⟨(h r hm x hx).n,(h r hm x hx).d⟩).1
theorem wh_s2 {M:List (List Rat)} {a d k:Nat} (hk:∀ r∈M,r.length≤k) (h:∀ r∈M,∀ x∈r,S2 a d x) (i j:Nat):S2 (d*k+a) 0 (el (wh M) i j):=by
 have e:(wh M).getD i []=(M.getD i []).map fun x=>GE.wsc 1 (M.getD i [])*x:=by
  unfold wh;rw[List.getD_eq_getElem?_getD,List.getElem?_map,List.getD_eq_getElem?_getD]
  cases M[i]?<;>rfl
 unfold GE.el;rw[e];have hm:M.getD i []∈M∨M.getD i []=[]:=by
  rw[List.getD_eq_getElem?_getD]
  cases hi:M[i]? with
  | none=>exact .inr rfl
  | some r=>exact .inl (List.mem_of_getElem? hi)
 generalize M.getD i []=r at hm ⊢
 rcases hm with hm | rfl
 ·rw[List.getD_eq_getElem?_getD,List.getElem?_map]
  cases hj:r[j]? with
  | none=>exact S2.zero
  | some x=>exact (wsc_s2 (hk r hm) fun x hx=>⟨(h r hm x hx).n,(h r hm x hx).d⟩).2 x (List.mem_of_getElem? hj)
 ·exact S2.zero
end Go.Proofs.YthlinhconnmbcaaGreat
namespace Go.Proofs.YthlinhconnmbcaaGreat
open Go.RowKit RQ GE
set_option linter.unusedVariables false
def Fst (w W:World) (gE gR n:Nat) (B:List Nat) (m:Nat) (M:List (List Rat)) (l f:Rat) (zs:List Bk) (qs:List Rdg):Prop:=
 ∃ (R:List (List Rt)) (ys:List Bk) (rs:List Rdg) (A1:Option Addr) (n1 c1:Nat) (D1:Option Addr) (m1 d1:Nat) (A2:Option Addr) (n2 c2:Nat) (D2:Option Addr) (m2 d2:Nat),
  St w W ((gE,ecE gR n none 0 0 l A1 n1 c1 D1 m1 d1 f A2 n2 c2 D2 m2 d2,73)::(MB gR (B.map (rowv m)++List.replicate (n-B.length) (.slice none 0 0)) B R++(zs++ys))) rs
  ∧ RK B m R M rs∧((A1,n1,c1,limbs l.num.natAbs)∈rs∧(D1,m1,d1,dn l)∈rs)∧((A2,n2,c2,limbs f.num.natAbs)∈rs∧(D2,m2,d2,dn f)∈rs)∧∀ q∈qs,q∈rs
section
variable {w W W':World} {gE gR n m:Nat} {B:List Nat} {M:List (List Rat)} {l f:Rat} {zs:List Bk} {qs:List Rdg}
theorem Fst.call (h:Fst w W gE gR n B m M l f zs qs) (hb:Below W.heap.size W W'):Fst w W' gE gR n B m M l f zs qs:=by
 obtain⟨R,ys,rs,A1,n1,c1,D1,m1,d1,A2,n2,c2,D2,m2,d2,G,h⟩:=h;exact⟨R,ys,rs,A1,n1,c1,D1,m1,d1,A2,n2,c2,D2,m2,d2,G.call hb,h⟩
theorem Fst.bel (h:Fst w W gE gR n B m M l f zs qs):Below w.heap.size w W:=by
 obtain⟨R,ys,rs,A1,n1,c1,D1,m1,d1,A2,n2,c2,D2,m2,d2,G,h⟩:=h;exact G.bel
theorem Fst.alloc (h:Fst w W gE gR n B m M l f zs qs) (cs:Array Value) (t:Nat) (hn:NoL cs):Fst w (W.alloc (.cells cs t)) gE gR n B m M l f ((W.heap.size,cs,t)::zs) qs:=by
 obtain⟨R,ys,rs,A1,n1,c1,D1,m1,d1,A2,n2,c2,D2,m2,d2,G,h⟩:=h;refine⟨R,ys,rs,A1,n1,c1,D1,m1,d1,A2,n2,c2,D2,m2,d2,(G.alloc cs t hn).prm ?_,h⟩
 exact (List.Perm.swap _ _ _).trans (List.Perm.cons _ List.perm_middle.symm)
theorem Fst.zc {g t:Nat} {cs:Array Value} (h:Fst w W gE gR n B m M l f zs qs) (hz:(g,cs,t)∈zs):Cb W g cs t:=by
 obtain⟨R,ys,rs,A1,n1,c1,D1,m1,d1,A2,n2,c2,D2,m2,d2,G,h⟩:=h;exact (G.bk _ (List.mem_cons_of_mem _ (List.mem_append_right _ (List.mem_append_left _ hz)))).1
theorem Fst.rd (h:Fst w W gE gR n B m M l f zs qs) {A:Option Addr} {n' c:Nat} {ys:List Nat} (hq:(A,n',c,ys)∈qs):Rd W A n' c ys:=by
 obtain⟨R,ys,rs,A1,n1,c1,D1,m1,d1,A2,n2,c2,D2,m2,d2,G,K,h,h',h''⟩:=h;exact G.rd _ (h'' _ hq)
theorem Fst.read (h:Fst w W gE gR n B m M l f zs qs) {A:Option Addr} {n' c:Nat} {ys:List Nat} (R:Rd W A n' c ys):Fst w W gE gR n B m M l f zs ((A,n',c,ys)::qs):=by
 obtain⟨R',zs,rs,A1,n1,c1,D1,m1,d1,A2,n2,c2,D2,m2,d2,G,K,h,h',h''⟩:=h;refine⟨R',zs,_,A1,n1,c1,D1,m1,d1,A2,n2,c2,D2,m2,d2,G.read R,K.mono (fun p hp=>List.mem_cons_of_mem _ hp),⟨List.mem_cons_of_mem _ h.1,List.mem_cons_of_mem _ h.2⟩,⟨List.mem_cons_of_mem _ h'.1,List.mem_cons_of_mem _ h'.2⟩,fun q hq=>?_⟩
 rcases List.mem_cons.1 hq with rfl | hq
 ·exact List.mem_cons_self
 ·exact List.mem_cons_of_mem _ (h'' q hq)
theorem Fst.pop {p:Bk} {q1 q2:Rdg} (h:Fst w W gE gR n B m M l f (p::zs) (q1::q2::qs)):Fst w W gE gR n B m M l f zs qs:=by
 obtain⟨R,ys,rs,A1,n1,c1,D1,m1,d1,A2,n2,c2,D2,m2,d2,G,K,h,h',h''⟩:=h;exact⟨R,p::ys,rs,A1,n1,c1,D1,m1,d1,A2,n2,c2,D2,m2,d2,G.prm (List.Perm.cons _ (List.Perm.append_left _ List.perm_middle.symm)),K,h,h',fun q hq=>h'' q (List.mem_cons_of_mem _ (List.mem_cons_of_mem _ hq))⟩
theorem Fst.ec (h:Fst w W gE gR n B m M l f zs qs):W.cell? ⟨gE,0,none⟩=some (.slice (some ⟨gR,0,none⟩) n n)∧∀ k,W.frozen? ⟨gE,k,none⟩=false:=by
 obtain⟨R,ys,rs,A1,n1,c1,D1,m1,d1,A2,n2,c2,D2,m2,d2,G,K,h⟩:=h;exact⟨G.cl 0 0 rfl rfl,fun k=>G.f 0 k rfl⟩
theorem Fst.scl (h:Fst w W gE gR n B m M l f zs qs):∃ A1 n1 c1 D1 m1 d1,W.cell? ⟨gE,5,none⟩=some (.bool (ng f.num))∧W.cell? ⟨gE,6,none⟩=some (.slice A1 n1 c1)∧W.cell? ⟨gE,7,none⟩=some (.slice D1 m1 d1)∧RR W A1 n1 c1 D1 m1 d1 f:=by
 obtain⟨R,ys,rs,A1,n1,c1,D1,m1,d1,A2,n2,c2,D2,m2,d2,G,K,h,h',_⟩:=h;exact⟨A2,n2,c2,D2,m2,d2,G.cl 0 5 rfl rfl,G.cl 0 6 rfl rfl,G.cl 0 7 rfl rfl,G.rd _ h'.1,G.rd _ h'.2⟩
theorem Fst.nil (h:Fst w W gE gR n B m M l f zs qs) (hi:B.length<n):W.cell? ⟨gR,B.length,none⟩=some (.slice none 0 0)∧∀ k,W.frozen? ⟨gR,k,none⟩=false:=by
 obtain⟨R,ys,rs,A1,n1,c1,D1,m1,d1,A2,n2,c2,D2,m2,d2,G,K,h⟩:=h;refine MB_cell G.sub ?_
 rw[List.getElem?_append_right (by rw[List.length_map];exact Nat.le_refl _),List.length_map,Nat.sub_self,List.getElem?_replicate,if_pos (by omega)]
theorem Fst.own (h:Fst w W gE gR n B m M l f zs qs) (hb:Below W.heap.size W W') {g t:Nat} {cs:Array Value} (hg:W.heap.size≤g) (hc:Cb W' g cs t) (hn:NoL cs):Fst w W' gE gR n B m M l f ((g,cs,t)::zs) qs:=by
 obtain⟨R,ys,rs,A1,n1,c1,D1,m1,d1,A2,n2,c2,D2,m2,d2,G,h⟩:=h;refine⟨R,ys,rs,A1,n1,c1,D1,m1,d1,A2,n2,c2,D2,m2,d2,(St_own G hb hg hc hn).prm ?_,h⟩
 exact (List.Perm.swap _ _ _).trans (List.Perm.cons _ List.perm_middle.symm)
theorem Fst.row {p:Bk} {g:Nat} {L:List Rt} (h:Fst w W gE gR n B m M l f (p::(g,(csE L).toArray,33)::zs) qs) (hi:B.length<n) (hL:L.length=m) (hx:∀ x∈L,x.can∧x.raw W):Fst w (W.setCell ⟨gR,B.length,none⟩ (.slice (some ⟨g,0,none⟩) m m)) gE gR n (B++[g]) m (M++[L.map (·.q)]) l f (p::zs) qs:=by
 obtain⟨R,ys,rs,A1,n1,c1,D1,m1,d1,A2,n2,c2,D2,m2,d2,G,K,h,h',h''⟩:=h;have S1:=St_rds G (L:=L) (fun x hx'=>(hx x hx').2)
 have hrs:∀ p∈rs,p∈rdsOf L++rs:=fun p hp=>List.mem_append_right _ hp
 have S2:=S1.prm (bs':=(gR,(B.map (rowv m)++List.replicate (n-B.length) (Value.slice none 0 0)).toArray,46)::(gE,ecE gR n none 0 0 l A1 n1 c1 D1 m1 d1 f A2 n2 c2 D2 m2 d2,73)::(List.zipWith rowb (B++[g]) (R++[L])++(p::zs++ys))) (by
  rw[List.zipWith_append (by rw[K.len])]
  show ((gE,_)::((gR,_)::(List.zipWith rowb B R++(p::(rowb g L)::(zs++ys))))).Perm ((gR,_)::(gE,_)::((List.zipWith rowb B R++[rowb g L])++(p::(zs++ys))))
  refine (List.Perm.swap _ _ _).trans (List.Perm.cons _ (List.Perm.cons _ ?_))
  rw[List.append_assoc];exact List.Perm.append_left _ (List.Perm.swap _ _ _))
 have S3:=S2.set 0 B.length (.slice (some ⟨g,0,none⟩) m m) rfl (by nofun)
 have hV:((B.map (rowv m)++List.replicate (n-B.length) (Value.slice none 0 0)).toArray.setIfInBounds B.length (.slice (some ⟨g,0,none⟩) m m))=((B++[g]).map (rowv m)++List.replicate (n-(B++[g]).length) (Value.slice none 0 0)).toArray:=by
  rw[List.setIfInBounds_toArray,List.set_append_right _ _ (by rw[List.length_map];exact Nat.le_refl _),List.length_map,Nat.sub_self,List.length_append,List.length_singleton,List.map_append]
  rw[show n-B.length=(n-(B.length+1))+1 by omega,List.replicate_succ,List.set_cons_zero,List.append_assoc]
  rfl
 refine⟨R++[L],ys,rdsOf L++rs,A1,n1,c1,D1,m1,d1,A2,n2,c2,D2,m2,d2,?_,⟨by rw[List.length_append,List.length_append,K.len];rfl,fun L' hL'=>?_,fun L' hL' x hx'=>?_,by rw[List.map_append,K.q];rfl⟩,⟨hrs _ h.1,hrs _ h.2⟩,⟨hrs _ h'.1,hrs _ h'.2⟩,fun q hq=>hrs _ (h'' q hq)⟩
 ·have S4:=S3.prm (List.Perm.swap _ _ _)
  rw[hV] at S4;exact S4
 ·rcases List.mem_append.1 hL' with hL' | hL'
  ·exact K.row L' hL'
  ·rw[List.mem_singleton.1 hL'];exact hL
 ·rcases List.mem_append.1 hL' with hL' | hL'
  ·exact (K.mono hrs).el L' hL' x hx'
  ·rw[List.mem_singleton.1 hL'] at hx'
   exact⟨(hx x hx').1,rdsOf_in hx'⟩
theorem Fst.put (h:Fst w W gE gR n B m M l f zs qs) (hb:Below W.heap.size W W') (x:Rt) (hx:x.can∧x.raw W'):Fst w (((W'.setCell ⟨gE,5,none⟩ (.bool x.b)).setCell ⟨gE,6,none⟩ (.slice x.A x.n x.c)).setCell ⟨gE,7,none⟩ (.slice x.D x.m x.d)) gE gR n B m M l x.q zs qs:=by
 obtain⟨R,ys,rs,A1,n1,c1,D1,m1,d1,A2,n2,c2,D2,m2,d2,G,K,h,h',h''⟩:=h;have S:=((G.call hb).read hx.2.1).read hx.2.2;obtain⟨k1,k2,k3,_⟩:=hx.1;have hrs:∀ p∈rs,p∈(x.D,x.m,x.d,x.y)::(x.A,x.n,x.c,x.x)::rs:=fun p hp=>List.mem_cons_of_mem _ (List.mem_cons_of_mem _ hp)
 refine⟨R,ys,_,A1,n1,c1,D1,m1,d1,x.A,x.n,x.c,x.D,x.m,x.d,?_,K.mono hrs,⟨hrs _ h.1,hrs _ h.2⟩,⟨by rw[←k2];exact List.mem_cons_of_mem _ List.mem_cons_self,by rw[←k3];exact List.mem_cons_self⟩,fun q hq=>hrs _ (h'' q hq)⟩
 have S3:=((S.set 0 5 (.bool x.b) rfl (by nofun)).set 0 6 (.slice x.A x.n x.c) rfl (by nofun)).set 0 7 (.slice x.D x.m x.d) rfl (by nofun)
 rw[k1] at S3 ⊢;exact S3
theorem Fst.est (h:Fst w W gE gR B.length B m M l f zs qs):ESt w W gE gR B m none 0 ⟨M,[],f⟩ l zs qs:=by
 obtain⟨R,ys,rs,A1,n1,c1,D1,m1,d1,A2,n2,c2,D2,m2,d2,G,h⟩:=h;rw[Nat.sub_self,List.replicate_zero,List.append_nil] at G;exact⟨R,ys,rs,A1,n1,c1,D1,m1,d1,A2,n2,c2,D2,m2,d2,Apd.nil_ G _ _,h⟩
end
end Go.Proofs.YthlinhconnmbcaaGreat
namespace Go.Proofs.YthlinhconnmbcaaGreat
open Go.RowKit RQ GE
set_option linter.unusedVariables false
structure Env (W:World) (gE gR n k:Nat) (K:List Ro) (P:Option Addr) (pc:Nat) (ps:List Nat) (l:Rat) (A1:Option Addr) (n1 c1:Nat) (D1:Option Addr) (m1 d1:Nat):Prop where
 e0:W.cell? ⟨gE,0,none⟩=some (.slice (some ⟨gR,0,none⟩) n n)
 e1:W.cell? ⟨gE,1,none⟩=some (.slice P ps.length pc)
 e2:W.cell? ⟨gE,2,none⟩=some (.bool (ng l.num))
 e3:W.cell? ⟨gE,3,none⟩=some (.slice A1 n1 c1)
 e4:W.cell? ⟨gE,4,none⟩=some (.slice D1 m1 d1)
 mr:Mr W (some ⟨gR,0,none⟩) n n K
 cn:∀ r∈K,∀ x∈r.L,x.can
 rk:∀ r∈K,r.n=k
 ir:Ir W P ps.length pc ps
 lr:RR W A1 n1 c1 D1 m1 d1 l
 lt:gE<W.heap.size
section
variable {W W':World} {gE gR n k:Nat} {K:List Ro} {P:Option Addr} {pc:Nat} {ps:List Nat} {l:Rat} {A1:Option Addr} {n1 c1:Nat} {D1:Option Addr} {m1 d1:Nat}
theorem Env.bel (h:Env W gE gR n k K P pc ps l A1 n1 c1 D1 m1 d1) (hb:Below W.heap.size W W'):Env W' gE gR n k K P pc ps l A1 n1 c1 D1 m1 d1:=by
 have c:=fun j=>World.cell?_of_block (a:=⟨gE,j,none⟩) (hb.block gE h.lt)
 exact⟨(c 0).trans h.e0,(c 1).trans h.e1,(c 2).trans h.e2,(c 3).trans h.e3,(c 4).trans h.e4,h.mr.bel hb,h.cn,h.rk,h.ir.bel hb,h.lr.below hb,Nat.lt_of_lt_of_le h.lt hb.size⟩
theorem Env.row (h:Env W gE gR n k K P pc ps l A1 n1 c1 D1 m1 d1) {i:Nat} (hi:i<n) (hk:0<k):∃ b o c L,W.cell? ⟨gR,i,none⟩=some (.slice (some ⟨b,o,none⟩) k c)∧Sr W (some ⟨b,o,none⟩) k c L∧(∀ x∈L,x.can)∧L.map (·.q)=(qM K).getD i []:=by
 obtain⟨b,o,r,hA,hr,hm,e0⟩:=h.mr.get hi;obtain⟨rfl,rfl⟩:gR=b∧0=o:=by simp only[Option.some.injEq,Addr.mk.injEq] at hA;exact⟨hA.1,hA.2.1⟩
 have S:=h.mr.rd r hm;have hn:=h.rk r hm;rw[hn] at e0 S;rw[Nat.zero_add] at e0;obtain⟨b,o,x,hA2,_⟩:=S.get (i:=0) hk;rw[hA2] at e0 S;refine⟨b,o,r.c,r.L,e0,S,h.cn r hm,?_⟩
 unfold qM;rw[List.getD_eq_getElem?_getD,List.getElem?_map,hr];rfl
theorem sr_num {b o k c:Nat} {L:List Rt} {q:List Rat} (S:Sr W (some ⟨b,o,none⟩) k c L) (hc:∀ x∈L,x.can) (hq:L.map (·.q)=q) {j:Nat} (hj:j<k):∃ x:Rt,x.q=q.getD j 0∧x.can∧x.raw W∧W.cell? ⟨b,o+j*3,none⟩=some (.bool x.b)∧W.cell? ⟨b,o+j*3+1,none⟩=some (.slice x.A x.n x.c)∧W.cell? ⟨b,o+j*3+2,none⟩=some (.slice x.D x.m x.d):=by
 obtain⟨b',o',x,hA,hx,hm,e0,e1,e2⟩:=S.get hj;obtain⟨rfl,rfl⟩:b=b'∧o=o':=by simp only[Option.some.injEq,Addr.mk.injEq] at hA;exact⟨hA.1,hA.2.1⟩
 refine⟨x,?_,hc x hm,S.rd x hm,e0,e1,e2⟩
 rw[←hq,List.getD_eq_getElem?_getD,List.getElem?_map,hx];rfl
end
end Go.Proofs.YthlinhconnmbcaaGreat
namespace Go.Proofs.YthlinhconnmbcaaGreat
open Go.RowKit RQ
section
variable {P:Program} {ops:Array Oper} {Q:Exit→Act→World→Prop} {S:World→Prop} {w0:World} {Z:List Zv} {L:Array Bool} {a:Act} {bs:List (Nat×Array Value×Nat)} {rs:List (Option Addr×Nat×Nat×List Nat)}
def One (P:Program) (ops:Array Oper) (Q:Exit→Act→World→Prop) (S:World→Prop) (w0:World) (Z:List Zv) (L:Array Bool) (a:Act) (bs:List (Nat×Array Value×Nat)) (rs:List (Option Addr×Nat×Nat×List Nat)) (j:Nat):Prop:=
 ∀ (σ:List (Option Nat)) (w:World),σ.length=Z.length→S w→St w0 w (blks Z σ++bs) rs→wpOp P ops Q j (fun a' w'=>S w'∧Wk P ops Q S ((mark Z σ L).setIfInBounds j true) a' w') (fill Z σ a) w
def oneOk (ops:Array Oper) (Z:List Zv) (i:Nat) (oi:Oper):Bool:=apartZ ops Z oi&&Region.noSelect ops
def twoOk (ops:Array Oper) (Z:List Zv) (L:Array Bool) (i j:Nat):Bool:=(Region.ready .any ops (full Z L)==[i,j]&&(Region.ready .any ops L).contains i) && !((Z.map (·.op)).contains i)
theorem RW.branch {i j:Nat} (hz:ZOk P ops S w0 Z bs) (hc:twoOk ops Z L i j=true) (h1:One P ops Q S w0 Z L a bs rs i) (h2:One P ops Q S w0 Z L a bs rs j):RW P ops Q S w0 Z L a bs rs:=by
 simp only[twoOk,Bool.and_eq_true,Bool.not_eq_true',beq_iff_eq] at hc;obtain⟨⟨c1,c2⟩,c3⟩:=hc;have hcz:i∉Z.map (·.op):=by simpa using c3
 intro σ w hl hS hst;generalize hn':σ.count none=n
 induction n using Nat.strongRecOn generalizing σ w with
 | ind n ih=>
  have hcr:i∈Region.ready .any ops (mark Z σ L):=ready_mark (by simpa using c2) hcz
  refine Wk.all ⟨i,hcr⟩ fun k hk=>?_
  by_cases hkz:k∈Z.map (·.op)
  ·refine RW.alloc hz hl hst (mem_ready.1 hk).1 hkz fun σ' w' hl' hc' hS' hst'=>?_
   exact ih _ (by omega) σ' w' hl' hS' hst' rfl
  ·have:=ready_full hk hkz
   rw[c1] at this
   rcases List.mem_cons.1 this with rfl | this
   ·exact h1 σ w hl hS hst
   ·have:=List.mem_singleton.1 this
    subst this;exact h2 σ w hl hS hst
theorem One.blk {i:Nat} {oi:Oper} {cs:Array Value} {t k:Nat} (dst:Option Nat) (hz:ZOk P ops S w0 Z bs) (hi:ops[i]?=some oi) (hd:oi.dst=dst) (hc:oneOk ops Z i oi=true) (hw:Region.wanted oi (yielded ops a.tmps)=true)
  (hx:∀ w,(execOp a.eval oi).run P w=.ok (.value (.slice (some ⟨w.heap.size,0,none⟩) k k)) (w.alloc (.cells cs t))) (hn:NoL cs)
  (h:∀ g:Nat,Hid (ZOk P ops S w0 Z ((g,cs,t)::bs))→RW P ops Q S w0 Z (L.setIfInBounds i true) (a.put dst (.slice (some ⟨g,0,none⟩) k k)) ((g,cs,t)::bs) rs):One P ops Q S w0 Z L a bs rs i:=by
 have hzk:∀ g,ZOk P ops S w0 Z ((g,cs,t)::bs):=fun g=>⟨hz.ok,hz.is,hz.nd,hz.ndo,hz.nol,fun w B hB=>hz.keep w (B++[(g,cs,t)]) (by rw[List.append_assoc];exact hB)⟩
 simp only[oneOk,Bool.and_eq_true] at hc;obtain⟨c4,c5⟩:=hc;subst hd;intro σ w hl hS hst;unfold wpOp;rw[hi];simp only[wanted_fill (ops:=ops) oi Z σ a c4,hw,if_true];refine .inl ?_
 unfold Oper.wp;rw[exec_fill (ops:=ops) oi (fun cs b=>Region.noSelect_spec c5 i oi cs b hi) Z σ a c4,hx]
 show S _∧Wk P ops Q S _ (Act.put _ oi.dst _) _
 have hst':St w0 (w.alloc (.cells cs t)) (blks Z σ++(w.heap.size,cs,t)::bs) rs:=(hst.alloc cs t hn).perm (List.perm_middle.symm);have hS':S (w.alloc (.cells cs t)):=(hzk w.heap.size).keep _ _ hst'.none;refine⟨hS',?_⟩
 rw[←mark_set,←fill_put Z σ a oi.dst _ (fun z hzm e=>by
  have:=List.all_eq_true.1 c4 z hzm;simp only[Bool.and_eq_true,bne_iff_ne] at this;exact this.2 e)]
 exact h _ (Lib.hid (hzk _)) σ _ hl hS' hst'
theorem One.call {c:Nat} {oc:Oper} {f:FuncId} {args:Array Value} (dst:Option Nat) (hz:ZOk P ops S w0 Z bs) (hi:ops[c]?=some oc) (hd:oc.dst=dst) (hc:oneOk ops Z c oc=true) (hw:Region.wanted oc (yielded ops a.tmps)=true)
  (hx:∀ w,(execOp a.eval oc).run P w=.ok (.enter f args) w)
  (h:∀ w,St w0 w bs rs→Calls P f args w fun e w'=>Below w.heap.size w w'∧∃ v rs',e=.returned v∧(∀ r∈rs',Rd w' r.1 r.2.1 r.2.2.1 r.2.2.2)∧RW P ops Q S w0 Z (L.setIfInBounds c true) (a.put dst v) bs (rs'++rs)):One P ops Q S w0 Z L a bs rs c:=by
 simp only[oneOk,Bool.and_eq_true] at hc;obtain⟨hap,c5⟩:=hc;subst hd;intro σ w hl hS hst;unfold wpOp;rw[hi];simp only[wanted_fill (ops:=ops) oc Z σ a hap,hw,if_true];refine .inl ?_
 unfold Oper.wp;rw[exec_fill (ops:=ops) oc (fun cs b=>Region.noSelect_spec c5 c oc cs b hi) Z σ a hap,hx]
 show Calls P f args w _
 refine (h w hst.drop).mono ?_
 rintro e w' ⟨bb,v,rs',rfl,hrd,hrw⟩
 show S w'∧Wk P ops Q S _ (Act.put _ oc.dst v) w'
 have hst':St w0 w' (blks Z σ++bs) (rs'++rs):=(hst.call bb).reads hrd;have hS':S w':=hz.keep _ _ hst'.none;refine⟨hS',?_⟩
 rw[←mark_set,←fill_put Z σ a oc.dst v (fun z hzm e=>by
  have:=List.all_eq_true.1 hap z hzm;simp only[Bool.and_eq_true,bne_iff_ne] at this;exact this.2 e)]
 exact hrw σ w' hl hS' hst'
end
end Go.Proofs.YthlinhconnmbcaaGreat
