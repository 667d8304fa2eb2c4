/- small of law 6; what program and reference return at a small matrix. -/
import Derived.Test.YtfnkpfbobdmieaaGreatM31
set_option maxRecDepth 100000
set_option maxHeartbeats 40000000
set_option linter.unusedVariables false
namespace Go.Proofs.YtfnkpfbobdmieaaGreat
open Go.RowKit RQ GE
set_option linter.unusedVariables false
def RetSm (M:List Ro) (n:Nat) (w:World) (e:Ending) (w':World):Prop:=∃ b,e=.returned (.bool b)∧(b=true→(n≤4∧∀ r∈M,∀ x∈r.L,r.n≤4∧x.n≤2∧x.m≤2))∧Below w.heap.size w w'
theorem small_any (M:List Ro) (A:Option Addr) (n c:Nat) (w:World) (h:Mr w A n c M) (hm:∀ r∈M,inL r.L∧r.n≤9223372036854775807) (hn:n≤9223372036854775807):Calls Tryz.prog 19 #[.slice A n c] w (RetSm M n w):=by
 have hmh:=Lib.hid hm
 by_cases hn4:n≤4
 ·have hi4:¬ (4<(n:Int)):=by omega
  have hn4h:=Lib.hid hn4;have S:=Lib.hid (St.new w);replace h:=Lib.hid h;clear hm hn;go_enter Tryz.func19,Tryz.ntmps19;go_wp2
  go_loopw [3] (fun iv wr=>∃ i:Nat,i≤n∧iv=.int .i64 i∧St w wr [] []∧∀ (k:Nat) (r:Ro),k<i→M[k]?=some r→∀ x∈r.L,r.n≤4∧x.n≤2∧x.m≤2) (fun iv _=>n-(intOf iv).toNat)
  case atStart=>exact⟨0,Nat.zero_le _,rfl,S.out,fun k r hk=>absurd hk (Nat.not_lt_zero _)⟩
  case round=>
   clear S;obtain⟨i,hin,rfl,S,hall⟩:=hrel;rename World=>V0
   by_cases hlt:i<n
   ·have g1:(i:Int)<(n:Int):=by omega
    have g2:(0:Int)≤(i:Int):=by omega
    have hih:=Lib.hid hlt;have hMi:∃ r,M[i]?=some r:=⟨M[i]'(by rw[h.out.len];exact hlt),List.getElem?_eq_getElem _⟩
    obtain⟨r,hr⟩:=hMi;have hrm:=List.mem_of_getElem? hr;have hrl:r.n≤9223372036854775807:=(hmh.out r hrm).2;have hinL:=Lib.hid (hmh.out r hrm).1;have hrh:=Lib.hid hr;have hrmh:=Lib.hid hrm;replace S:=Lib.hid S;replace hall:=Lib.hid hall;clear hlt hin hr hrm;go_wp2
    go_loopw [4] (fun jv wr=>∃ j:Nat,j≤r.n∧jv=.int .i64 j∧St w wr [] []∧∀ (k:Nat) (x:Rt),k<j→r.L[k]?=some x→r.n≤4∧x.n≤2∧x.m≤2) (fun jv _=>r.n-(intOf jv).toNat)
    case atStart=>exact⟨0,Nat.zero_le _,rfl,S.out,fun k x hk=>absurd hk (Nat.not_lt_zero _)⟩
    case round=>
     clear S;obtain⟨j,hjn,rfl,S,hal2⟩:=hrel;rename World=>V1
     have hM:=h.out.bel S.bel;obtain⟨b,o,r',rfl,hr',hrm',e0⟩:=hM.get hih.out;rw[hrh.out] at hr';obtain rfl:=Option.some.inj hr';have hrow:=hM.rd r hrm'
     by_cases hlj:j<r.n
     ·have g3:(j:Int)<(r.n:Int):=by omega
      have g4:(0:Int)≤(j:Int):=by omega
      have hjh:=Lib.hid hlj;obtain⟨b2,o2,x,hA2,hx,hxm,k0,k1,k2⟩:=hrow.get hlj;rw[hA2] at e0;have hxl:=hinL.out x hxm;have hx1:x.n≤9223372036854775807:=hxl.1;have hx2:x.m≤9223372036854775807:=hxl.2;have bw:=Lib.hid S.bel;have hxh:=Lib.hid hx;replace S:=Lib.hid S;replace hal2:=Lib.hid hal2;clear hlj hjn hM hr' hrm' hrow hA2 hx hxm hxl
      by_cases c1:r.n≤4
      ·have ci1:¬ (4<(r.n:Int)):=by omega
       by_cases c2:x.n≤2
       ·have ci2:¬ (2<(x.n:Int)):=by omega
        by_cases c3:x.m≤2
        ·have ci3:¬ (2<(x.m:Int)):=by omega
         have hc:=Lib.hid (And.intro c1 (And.intro c2 c3));clear c2 c3;have hj1:=hjh.out;go_wp2
         go_roundw
         case rel=>exact⟨j+1,by omega,by go_num,S.out,fun k y hk hy=>by
          by_cases e:k=j
          ·subst e
           rw[hxh.out] at hy;obtain rfl:=Option.some.inj hy;exact hc.out
          ·exact hal2.out k y (by omega) hy⟩
         case measure=>simp[intOf];omega
        ·have ci3:2<(x.m:Int):=by omega
         clear c1 c2 c3 S;go_wp2;go_ret;exact⟨false,rfl,fun h=>(by cases h),bw.out⟩
       ·have ci2:2<(x.n:Int):=by omega
        clear c1 c2 S;go_wp2;go_ret;exact⟨false,rfl,fun h=>(by cases h),bw.out⟩
      ·have ci1:4<(r.n:Int):=by omega
       clear c1 S;go_wp2;go_ret;exact⟨false,rfl,fun h=>(by cases h),bw.out⟩
     ·obtain rfl:r.n=j:=by omega
      have hnew:∀ x∈r.L,r.n≤4∧x.n≤2∧x.m≤2:=fun x hx=>by
       obtain⟨k,hk⟩:=List.getElem?_of_mem hx
       have:=(List.getElem?_eq_some_iff.1 hk).1
       exact hal2 k x (by rw[hrow.len] at this;exact this) hk
      replace S:=Lib.hid S;replace hnew:=Lib.hid hnew;clear hal2 hlj hjn hM hr' hrm' hrow;have hi1:=hih.out;have hn5:=hn4h.out;go_wp2
      go_roundw
      case rel=>exact⟨i+1,by omega,by go_num,S.out,fun k s hk hs=>by
       by_cases e:k=i
       ·subst e
        rw[hrh.out] at hs;obtain rfl:=Option.some.inj hs;exact hnew.out
       ·exact hall.out k s (by omega) hs⟩
      case measure=>simp[intOf];omega
   ·obtain rfl:n=i:=by omega
    have hfin:Hid ((n≤4∧∀ r∈M,∀ x∈r.L,r.n≤4∧x.n≤2∧x.m≤2)):=Lib.hid ⟨hn4h.out,fun r hr x hx=>by
     obtain⟨k,hk⟩:=List.getElem?_of_mem hr
     have:=(List.getElem?_eq_some_iff.1 hk).1
     exact hall k r (by rw[h.out.len] at this;exact this) hk x hx⟩
    have bw:=Lib.hid S.bel;clear S hall hlt hin;go_wp2;go_ret;exact⟨true,rfl,fun _=>hfin.out,bw.out⟩
 ·have hi4:4<(n:Int):=by omega
  have bw:=Lib.hid (Below.refl w.heap.size w);clear hm h hn4;go_enter Tryz.func19,Tryz.ntmps19;go_wp2;go_ret;exact⟨false,rfl,fun h=>(by cases h),bw.out⟩
theorem s2_of {W:World} {L:List Rt} (hr:∀ x∈L,x.raw W) (hq:∀ x∈L,x.q=rv x.b x.x x.y) (hl:∀ x∈L,x.n≤2∧x.m≤2):∀ x∈L,Rk x.b x.n x.x x.m x.y x.q∧Rs x.q 2∧S2 2 2 x.q:=fun x hx=>by
 have h:=hl x hx;have hs:Rs x.q 2:=by
  rw[hq x hx];exact Rs.of (hr x hx).1.sm (hr x hx).2.sm (by rw[(hr x hx).1.len];exact h.1) (by rw[(hr x hx).2.len];exact h.2) (by decide)
 exact⟨⟨(hq x hx).symm,by omega,by omega⟩,hs,⟨Nat.le_of_lt hs.n,Nat.le_of_lt hs.d⟩⟩
def szChk (n k a d:Nat):Bool:=decide (d*k+a+d<1000000)&&decide ((zA (d*k+a) (n-1)).1≤1000000)&&decide ((zA (d*k+a) (n-1)).2.1≤1000000)&&decide (n*(d*k)<1000000)&&tzB (zA (d*k+a) (n-1)).1 (zA (d*k+a) (n-1)).2.1 n
theorem sz_of {n k a d:Nat} (h:szChk n k a d=true):SzE n k a d∧SzT n k a d:=by
 unfold szChk at h;simp only[Bool.and_eq_true,decide_eq_true_eq] at h;exact⟨⟨h.1.1.1.1,⟨h.1.1.1.2,h.1.1.2⟩,h.1.2⟩,tzO_of h.2⟩
theorem sz_tab:((List.range 5).all fun n=>(List.range 9).all fun k=>szChk n k 2 2)=true:=by kernel_rfl
theorem sz22 {n k:Nat} (hn:n≤4) (hk:k≤8):SzE n k 2 2∧SzT n k 2 2:=
 sz_of (List.all_eq_true.1 (List.all_eq_true.1 sz_tab n (List.mem_range.2 (by omega))) k (List.mem_range.2 (by omega)))
theorem pow5 {n b:Nat} (hn:n≤4) (hb:b≤14400):b*5^n≤9000000:=Nat.le_trans (Nat.mul_le_mul hb (Nat.pow_le_pow_right (by decide) hn)) (by decide)
section
variable {M:List Ro} {A:Option Addr} {n c:Nat}
structure Sml (M:List Ro) (n:Nat):Prop where
 hm:∀ r∈M,r.n≤9223372036854775807
 hn:n≤4
 ka:∀ r∈M,∀ x∈r.L,Rk x.b x.n x.x x.m x.y x.q
 rs:∀ r∈M,∀ x∈r.L,Rs x.q 2
 s2:∀ r∈M,∀ x∈r.L,S2 2 2 x.q
 k4:wfM M=true→colM M≤4
 rl:∀ r∈M,r.L.length=r.n
 ml:M.length=n
theorem Sml.rct (s:Sml M n) (hw:wfM M=true):GE.rct (colM M) (qM M)∧(qM M).length=n:=⟨fun q hq=>by
 obtain⟨r,hr,rfl⟩:=List.mem_map.1 hq;rw[List.length_map,s.rl r hr];exact (wf_row hw hr).2.2,by unfold qM;rw[List.length_map];exact s.ml⟩
theorem red_two (s:Sml M n):∃ k Q ps,(∀ W,Mr W A n c M→Calls Tryz.prog 20 #[.slice A n c] W (RetRx k Q ps W))∧(∀ W,Mr W A n c M→Calls Tryz.prog 21 #[.slice A n c] W (RetRx k Q ps W))∧(∀ W,Mr W A n c M→Calls Tryz.prog 22 #[.slice A n c] W fun e w'=>e=.returned (.tuple #[.int .i64 ps.length,.int .i64 k])∧Below W.heap.size W w')∧(∀ W,Mr W A n c M→Calls Tryz.prog 23 #[.slice A n c] W fun e w'=>e=.returned (.tuple #[.int .i64 ps.length,.int .i64 k])∧Below W.heap.size W w')∧ps.length≤1000:=by
 have hn:=s.hn
 cases hw:wfM M
 ·exact⟨6,[],[],fun W h=>preduce_bad M A n c W h s.hm (by omega) hw,fun W h=>rReduce_bad M A n c W h s.hm (by omega) hw,fun W h=>prank_bad M A n c W h s.hm (by omega) hw,fun W h=>rRank_bad M A n c W h s.hm (by omega) hw,by decide⟩
 ·obtain⟨z1,z2⟩:=sz22 hn (k:=colM M) (by have:=s.k4 hw;omega)
  obtain⟨hr,hQ⟩:=s.rct hw;refine⟨0,_,_,fun W h=>preduce_any M A n c W h s.hm (by omega) hw s.ka 2 2 s.s2 z1 z2,fun W h=>rReduce_any M A n c W h s.hm (by omega) hw s.ka 2 s.rs (by decide) (pow5 hn (by decide)),fun W h=>prank_any M A n c W h s.hm (by omega) hw s.ka 2 2 s.s2 z1,fun W h=>rRank_any M A n c W h s.hm (by omega) hw s.ka 2 s.rs (by decide) (pow5 hn (by decide)),?_⟩
  have:=(red_rf hQ hr).1.ple
  omega
theorem det_two (s:Sml M n):∃ k q,Rs q 9000000∧(∀ W,Mr W A n c M→Calls Tryz.prog 24 #[.slice A n c] W (RetDx k q W))∧(∀ W,Mr W A n c M→Calls Tryz.prog 25 #[.slice A n c] W (RetDx k q W)):=by
 have hn:=s.hn
 cases hw:wfM M
 ·exact⟨6,0,rs_zero (by decide),fun W h=>pdet_bad M A n c W h s.hm (by omega) hw,fun W h=>rDet_bad M A n c W h s.hm (by omega) hw⟩
 ·by_cases hsq:colM M=n
  ·obtain⟨z1,z2⟩:=sz22 hn (k:=colM M) (by omega)
   obtain⟨hr,hQ⟩:=s.rct hw;rw[hsq] at hr;refine⟨0,dE n (el (qM M)),?_,fun W h=>pdet_any M A n c W h s.hm (by omega) hw s.ka 2 2 s.s2 z1 hsq hn,fun W h=>rDet_any M A n c W h s.hm (by omega) hw s.ka 2 s.rs (by decide) (pow5 hn (by decide)) hsq⟩
   unfold dE
   split
   ·rw[mk_el hQ hr]
    exact (red_rs hQ hr (b:=2) (fun r hr q hq=>by
     obtain⟨y,hy,rfl⟩:=List.mem_map.1 hr;obtain⟨z,hz,rfl⟩:=List.mem_map.1 hq;exact s.rs y hy z hz) (by decide) (pow5 hn (by decide))).2.2
   ·exact rs_zero (by decide)
  ·exact⟨6,0,rs_zero (by decide),fun W h=>pdet_shape M A n c W h s.hm (by omega) hw hsq,fun W h=>rDet_shape M A n c W h s.hm (by omega) hw hsq⟩
theorem inv_two (s:Sml M n):∃ k Q,(∀ W,Mr W A n c M→Calls Tryz.prog 26 #[.slice A n c] W (RetMX k Q W))∧(∀ W,Mr W A n c M→Calls Tryz.prog 27 #[.slice A n c] W (RetMX k Q W)):=by
 have hn:=s.hn
 cases hw:wfM M
 ·exact⟨6,[],fun W h=>pinv_bad M A n c W h s.hm (by omega) hw,fun W h=>rinv_bad M A n c W h s.hm (by omega) hw⟩
 ·by_cases hsq:colM M=n
  ·obtain⟨z1,z2⟩:=sz22 hn (k:=n+n) (by omega)
   have p:=fun W h=>pinv_any M A n c W h s.hm (by omega) hw hsq s.ka 2 2 s.s2 z1 z2
   have r:=fun W h=>rinv_any M A n c W h s.hm (by omega) hw s.ka 2 s.rs (by decide) (pow5 hn (by decide)) hsq hn
   by_cases hrk:rk n n (el (qM M))=n
   ·exact⟨0,invQ n (qM M),fun W h=>(p W h).mono fun e w' x=>x.elim (fun y=>y.2) (fun y=>absurd hrk y.1),fun W h=>(r W h).mono fun e w' x=>x.elim (fun y=>y.2) (fun y=>absurd hrk y.1)⟩
   ·exact⟨7,[],fun W h=>(p W h).mono fun e w' x=>x.elim (fun y=>absurd y.1 hrk) (fun y=>y.2),fun W h=>(r W h).mono fun e w' x=>x.elim (fun y=>absurd y.1 hrk) (fun y=>y.2)⟩
  ·exact⟨6,[],fun W h=>pinv_shape M A n c W h s.hm (by omega) hw hsq,fun W h=>rinv_shape M A n c W h s.hm (by omega) hw hsq⟩
end
end Go.Proofs.YtfnkpfbobdmieaaGreat
namespace Go.Proofs.YtfnkpfbobdmieaaGreat
open Go.RowKit RQ GE
set_option linter.unusedVariables false
theorem sml_of {M:List Ro} {A:Option Addr} {n c:Nat} {w:World} (h:Mr w A n c M) (bm:∀ r∈M,inL r.L∧r.n≤9223372036854775807∧∀ x∈r.L,x.q=rv x.b x.x x.y) (hs:n≤4∧∀ r∈M,∀ x∈r.L,r.n≤4∧x.n≤2∧x.m≤2):Sml M n:=by
 have hx:=fun r (hr:r∈M)=>s2_of (h.rd r hr).rd (bm r hr).2.2 (fun x hx=>(hs.2 r hr x hx).2)
 refine⟨fun r hr=>(bm r hr).2.1,hs.1,fun r hr x hx'=>(hx r hr x hx').1,fun r hr x hx'=>(hx r hr x hx').2.1,fun r hr x hx'=>(hx r hr x hx').2.2,fun hw=>?_,fun r hr=>(h.rd r hr).len,h.len⟩
 match M,h,hs,hw with
 | [],_,_,_=>exact Nat.zero_le _
 | r::M',h,hs,hw=>
  obtain⟨k1,k2,k3⟩:=wf_row hw (List.mem_cons_self (a:=r) (l:=M'))
  show r.n≤4
  have hl:=(h.rd r List.mem_cons_self).len;have hx0:r.L[0]?=some r.L[0]:=List.getElem?_eq_getElem (by omega)
  exact (hs.2 r List.mem_cons_self _ (List.mem_of_getElem? hx0)).1
theorem law_mr (M:List Ro) (A:Option Addr) (n c:Nat) (w:World) (h:Mr w A n c M) (bm:∀ r∈M,inL r.L∧r.n≤9223372036854775807∧∀ x∈r.L,x.q=rv x.b x.x x.y) (hn:n≤9223372036854775807):Calls Tryz.prog 4 #[.slice A n c] w fun e w'=>e=.returned (.bool true)∧Below w.heap.size w w':=by
 have hA:=Lib.hid awake_any;have hSm:=Lib.hid (small_any M A n c w h (fun r hr=>⟨(bm r hr).1,(bm r hr).2.1⟩) hn)
 have hTo:Hid ((n≤4∧∀ r∈M,∀ x∈r.L,r.n≤4∧x.n≤2∧x.m≤2)→Sml M n):=Lib.hid (sml_of h bm);have S0:=Lib.hid (St.new w);replace h:=Lib.hid h;clear bm hn;go_enter Tryz.func4,Tryz.ntmps4
 go_wp2_with fail
 refine hSm.out.mono ?_
 rintro e w1 ⟨b,rfl,hb,bb⟩;replace h:=Lib.hid (h.out.bel bb);replace S0:=Lib.hid (S0.out.call bb);clear bb hSm
 cases b
 ·clear hb hTo h
  go_wp2_with fail
  refine (hA.out _).mono ?_
  rintro e w2 ⟨rfl,bb⟩;replace S0:=Lib.hid (S0.out.call bb);clear bb hA;go_wp2;go_ret;exact⟨rfl,S0.out.bel⟩
 ·have sm:=hTo.out (hb rfl)
  obtain⟨kr,Qr,ps,r1,r2,r3,r4,hps⟩:=red_two (A:=A) (c:=c) sm;obtain⟨kd,qd,hqd,d1,d2⟩:=det_two (A:=A) (c:=c) sm;obtain⟨ki,Qi,i1,i2⟩:=inv_two (A:=A) (c:=c) sm;replace r1:=Lib.hid r1;replace r2:=Lib.hid r2;replace r3:=Lib.hid r3;replace r4:=Lib.hid r4;replace d1:=Lib.hid d1;replace d2:=Lib.hid d2;replace i1:=Lib.hid i1;replace i2:=Lib.hid i2;replace hqd:=Lib.hid hqd;replace hps:=Lib.hid hps;clear sm hb hTo
  go_wp2_with fail
  refine (r1.out _ h.out).mono ?_
  rintro e w' ⟨A1,n1,c1,M1,P1,pc1,rfl,m1,k1,q1,l1,i1_,bb⟩;replace h:=Lib.hid (h.out.bel bb);replace S0:=Lib.hid (S0.out.call bb);replace m1:=Lib.hid m1;replace k1:=Lib.hid k1;replace q1:=Lib.hid q1;replace l1:=Lib.hid l1;replace i1_:=Lib.hid i1_;clear bb;clear r1
  go_wp2_with fail
  refine (r2.out _ h.out).mono ?_
  rintro e w' ⟨A2,n2,c2,M2,P2,pc2,rfl,m2,k2,q2,l2,i2_,bb⟩;replace h:=Lib.hid (h.out.bel bb);replace m1:=Lib.hid (m1.out.bel bb);replace i1_:=Lib.hid (i1_.out.bel bb);replace S0:=Lib.hid (S0.out.call bb);replace m2:=Lib.hid m2;replace k2:=Lib.hid k2;replace q2:=Lib.hid q2;replace l2:=Lib.hid l2;replace i2_:=Lib.hid i2_;clear bb;clear r2
  go_wp2_with fail
  refine (r3.out _ h.out).mono ?_
  rintro e w' ⟨rfl,bb⟩;replace h:=Lib.hid (h.out.bel bb);replace m1:=Lib.hid (m1.out.bel bb);replace i1_:=Lib.hid (i1_.out.bel bb);replace m2:=Lib.hid (m2.out.bel bb);replace i2_:=Lib.hid (i2_.out.bel bb);replace S0:=Lib.hid (S0.out.call bb);clear bb;clear r3
  go_wp2_with fail
  refine (r4.out _ h.out).mono ?_
  rintro e w' ⟨rfl,bb⟩;replace h:=Lib.hid (h.out.bel bb);replace m1:=Lib.hid (m1.out.bel bb);replace i1_:=Lib.hid (i1_.out.bel bb);replace m2:=Lib.hid (m2.out.bel bb);replace i2_:=Lib.hid (i2_.out.bel bb);replace S0:=Lib.hid (S0.out.call bb);clear bb;clear r4
  go_wp2_with fail
  refine (d1.out _ h.out).mono ?_
  rintro e v3 ⟨A3,n3,c3,D3,m3,d3,rfl,x3,bb⟩;replace h:=Lib.hid (h.out.bel bb);replace m1:=Lib.hid (m1.out.bel bb);replace i1_:=Lib.hid (i1_.out.bel bb);replace m2:=Lib.hid (m2.out.bel bb);replace i2_:=Lib.hid (i2_.out.bel bb);replace S0:=Lib.hid (S0.out.call bb);have B:=(Below.refl v3.heap.size v3).alloc (Nat.le_refl _) (.cells #[.bool (ng qd.num),.slice A3 n3 c3,.slice D3 m3 d3] 45);replace S0:=Lib.hid (((S0.out.read x3.n).read x3.d).allocAt v3.heap.size #[.bool (ng qd.num),.slice A3 n3 c3,.slice D3 m3 d3] 45 (noLof rfl) rfl)
  obtain⟨V3,hV⟩:∃ W,W=v3.alloc (.cells #[.bool (ng qd.num),.slice A3 n3 c3,.slice D3 m3 d3] 45):=⟨_,rfl⟩;obtain⟨g3,hg⟩:∃ g,g=v3.heap.size:=⟨_,rfl⟩;rw[←hV] at B S0;rw[←hg] at S0;replace h:=Lib.hid (h.out.bel B);replace m1:=Lib.hid (m1.out.bel B);replace i1_:=Lib.hid (i1_.out.bel B);replace m2:=Lib.hid (m2.out.bel B);replace i2_:=Lib.hid (i2_.out.bel B);go_upto_region 8 with fail
  rw[←hg,←hV];clear hV hg B bb x3 d1
  go_wp2_with fail
  refine (d2.out _ h.out).mono ?_
  rintro e v4 ⟨A4,n4,c4,D4,m4,d4,rfl,x4,bb⟩;replace h:=Lib.hid (h.out.bel bb);replace m1:=Lib.hid (m1.out.bel bb);replace i1_:=Lib.hid (i1_.out.bel bb);replace m2:=Lib.hid (m2.out.bel bb);replace i2_:=Lib.hid (i2_.out.bel bb);replace S0:=Lib.hid (S0.out.call bb);have B:=(Below.refl v4.heap.size v4).alloc (Nat.le_refl _) (.cells #[.bool (ng qd.num),.slice A4 n4 c4,.slice D4 m4 d4] 45);replace S0:=Lib.hid (((S0.out.read x4.n).read x4.d).allocAt v4.heap.size #[.bool (ng qd.num),.slice A4 n4 c4,.slice D4 m4 d4] 45 (noLof rfl) rfl)
  obtain⟨V4,hV⟩:∃ W,W=v4.alloc (.cells #[.bool (ng qd.num),.slice A4 n4 c4,.slice D4 m4 d4] 45):=⟨_,rfl⟩;obtain⟨g4,hg⟩:∃ g,g=v4.heap.size:=⟨_,rfl⟩;rw[←hV] at B S0;rw[←hg] at S0;replace h:=Lib.hid (h.out.bel B);replace m1:=Lib.hid (m1.out.bel B);replace i1_:=Lib.hid (i1_.out.bel B);replace m2:=Lib.hid (m2.out.bel B);replace i2_:=Lib.hid (i2_.out.bel B);go_upto_region 9 with fail
  rw[←hg,←hV];clear hV hg B bb x4 d2
  go_wp2_with fail
  refine (i1.out _ h.out).mono ?_
  rintro e w' ⟨A5,n5,c5,M5,rfl,m5,k5,q5,l5,bb⟩;replace h:=Lib.hid (h.out.bel bb);replace m1:=Lib.hid (m1.out.bel bb);replace i1_:=Lib.hid (i1_.out.bel bb);replace m2:=Lib.hid (m2.out.bel bb);replace i2_:=Lib.hid (i2_.out.bel bb);replace S0:=Lib.hid (S0.out.call bb);replace m5:=Lib.hid m5;replace k5:=Lib.hid k5;replace q5:=Lib.hid q5;replace l5:=Lib.hid l5;clear bb;clear i1
  go_wp2_with fail
  refine (i2.out _ h.out).mono ?_
  rintro e w' ⟨A6,n6,c6,M6,rfl,m6,k6,q6,l6,bb⟩;replace h:=Lib.hid (h.out.bel bb);replace m1:=Lib.hid (m1.out.bel bb);replace i1_:=Lib.hid (i1_.out.bel bb);replace m2:=Lib.hid (m2.out.bel bb);replace i2_:=Lib.hid (i2_.out.bel bb);replace m5:=Lib.hid (m5.out.bel bb);replace S0:=Lib.hid (S0.out.call bb);replace m6:=Lib.hid m6;replace k6:=Lib.hid k6;replace q6:=Lib.hid q6;replace l6:=Lib.hid l6;clear bb
  clear i2
  go_wp2_with fail
  refine (hA.out _).mono ?_
  rintro e w' ⟨rfl,bb⟩;replace h:=Lib.hid (h.out.bel bb);replace m1:=Lib.hid (m1.out.bel bb);replace i1_:=Lib.hid (i1_.out.bel bb);replace m2:=Lib.hid (m2.out.bel bb);replace i2_:=Lib.hid (i2_.out.bel bb);replace m5:=Lib.hid (m5.out.bel bb);replace m6:=Lib.hid (m6.out.bel bb);replace S0:=Lib.hid (S0.out.call bb);clear bb;clear hA
  go_wp2_with fail
  refine (sameLists_any M1 M2 A1 n1 c1 A2 n2 c2 _ m1.out m2.out k1.out k2.out (by rw[q1.out,q2.out]) l1.out).mono ?_
  rintro e w' ⟨rfl,bb⟩;replace h:=Lib.hid (h.out.bel bb);replace m1:=Lib.hid (m1.out.bel bb);replace i1_:=Lib.hid (i1_.out.bel bb);replace m2:=Lib.hid (m2.out.bel bb);replace i2_:=Lib.hid (i2_.out.bel bb);replace m5:=Lib.hid (m5.out.bel bb);replace m6:=Lib.hid (m6.out.bel bb);replace S0:=Lib.hid (S0.out.call bb);clear bb
  go_wp2_with fail
  refine (sameInts_any ps P1 ps.length pc1 P2 pc2 _ i1_.out i2_.out hps.out).mono ?_
  rintro e w' ⟨rfl,bb⟩;replace h:=Lib.hid (h.out.bel bb);replace m1:=Lib.hid (m1.out.bel bb);replace i1_:=Lib.hid (i1_.out.bel bb);replace m2:=Lib.hid (m2.out.bel bb);replace i2_:=Lib.hid (i2_.out.bel bb);replace m5:=Lib.hid (m5.out.bel bb);replace m6:=Lib.hid (m6.out.bel bb);replace S0:=Lib.hid (S0.out.call bb);clear bb;obtain⟨u3,u4,u5⟩:=S0.out.c3 1 rfl;obtain⟨v0,v1,v2⟩:=S0.out.c3 0 rfl;have hSd:=sameE (Rt.of A3 n3 c3 D3 m3 d3 qd) (Rt.of A4 n4 c4 D4 m4 d4 qd) (Rt.of_can _ _ _ _ _ _ hqd.out) (Rt.of_can _ _ _ _ _ _ hqd.out) rfl _ ⟨S0.out.rd (A3,n3,c3,limbs qd.num.natAbs) (by simp),S0.out.rd (D3,m3,d3,dn qd) (by simp)⟩ ⟨S0.out.rd (A4,n4,c4,limbs qd.num.natAbs) (by simp),S0.out.rd (D4,m4,d4,dn qd) (by simp)⟩
  replace hSd:=Lib.hid hSd
  go_wp2_with fail
  refine hSd.out.mono ?_
  rintro e w' ⟨rfl,bb⟩;replace h:=Lib.hid (h.out.bel bb);replace m1:=Lib.hid (m1.out.bel bb);replace i1_:=Lib.hid (i1_.out.bel bb);replace m2:=Lib.hid (m2.out.bel bb);replace i2_:=Lib.hid (i2_.out.bel bb);replace m5:=Lib.hid (m5.out.bel bb);replace m6:=Lib.hid (m6.out.bel bb);replace S0:=Lib.hid (S0.out.call bb);clear bb hSd u3 u4 u5 v0 v1 v2
  go_wp2_with fail
  refine (sameLists_any M5 M6 A5 n5 c5 A6 n6 c6 _ m5.out m6.out k5.out k6.out (by rw[q5.out,q6.out]) l5.out).mono ?_
  rintro e w' ⟨rfl,bb⟩;replace h:=Lib.hid (h.out.bel bb);replace m1:=Lib.hid (m1.out.bel bb);replace i1_:=Lib.hid (i1_.out.bel bb);replace m2:=Lib.hid (m2.out.bel bb);replace i2_:=Lib.hid (i2_.out.bel bb);replace m5:=Lib.hid (m5.out.bel bb);replace m6:=Lib.hid (m6.out.bel bb);replace S0:=Lib.hid (S0.out.call bb);clear bb;go_wp2;go_ret;exact⟨rfl,S0.out.bel⟩
end Go.Proofs.YtfnkpfbobdmieaaGreat
