/- Null of the reference. -/
import Derived.Test.YtfnkpfbobdmieaaGreatM29
set_option maxRecDepth 100000
set_option maxHeartbeats 40000000
set_option linter.unusedVariables false
namespace Go.Proofs.YtfnkpfbobdmieaaGreat
open Go.RowKit RQ GE
set_option linter.unusedVariables false
theorem fnegT {x:Rt} {W:World} (hx:x.can) (hr:x.raw W):Calls Tryz.prog 64 #[.agg #[.bool x.b,.slice x.A x.n x.c,.slice x.D x.m x.d]] W (RetR (-x.q) W):=by
 rw[hx.1];exact fnegQ x.q x.A x.n x.c x.D x.m x.d W ⟨hx.2.1 ▸ hr.1,hx.2.2.1 ▸ hr.2⟩ (hx.2.2.2.mono (by omega))
def pAt (ps:List Nat) (j a:Nat):Prop:=a≤ps.length∧(∀ t (h:t<ps.length),t<a→ps[t]<j)∧∀ t (h:t<ps.length),a≤t→j≤ps[t]
theorem pAt.mem {ps:List Nat} {j a:Nat} (h:pAt ps j a) (hs:ps.Pairwise (· < ·)):j∈ps↔ps[a]?=some j:=by
 constructor
 ·intro hm
  obtain⟨t,ht,e⟩:=List.getElem_of_mem hm;have h1:a≤t:=by
   rcases Nat.lt_or_ge t a with g | g
   ·have:=h.2.1 t ht g;omega
   ·exact g
  rcases Nat.lt_or_ge a t with g | g
  ·have h2:=h.2.2 a (by omega) (Nat.le_refl _)
   have h3:=List.pairwise_iff_getElem.1 hs a t (by omega) ht g
   omega
  ·obtain rfl:a=t:=by omega
   rw[List.getElem?_eq_getElem ht,e]
 ·intro e
  exact List.mem_of_getElem? e
theorem pAt.step {ps:List Nat} {j a:Nat} (h:pAt ps j a) (hs:ps.Pairwise (· < ·)):(ps[a]?=some j→pAt ps (j+1) (a+1))∧(ps[a]?≠some j→pAt ps (j+1) a):=by
 refine⟨fun e=>?_,fun e=>⟨h.1,fun t ht g=>Nat.lt_succ_of_lt (h.2.1 t ht g),fun t ht g=>?_⟩⟩
 ·obtain⟨ha,e⟩:=List.getElem?_eq_some_iff.1 e
  refine⟨ha,fun t ht g=>?_,fun t ht g=>?_⟩
  ·rcases Nat.lt_or_ge t a with g' | g'
   ·exact Nat.lt_succ_of_lt (h.2.1 t ht g')
   ·obtain rfl:t=a:=by omega
    omega
  ·have:=List.pairwise_iff_getElem.1 hs a t ha ht (by omega)
   omega
 ·have h1:=h.2.2 t ht g
  rcases Nat.lt_or_ge a t with g' | g'
  ·have h2:=h.2.2 a (by omega) (Nat.le_refl _)
   have h3:=List.pairwise_iff_getElem.1 hs a t (by omega) ht g'
   omega
  ·obtain rfl:a=t:=by omega
   rcases Nat.lt_or_ge j ps[a] with g2 | g2
   ·exact g2
   ·exact absurd (by rw[List.getElem?_eq_getElem ht];congr 1;omega) e
theorem rnull_any (M:List Ro) (A:Option Addr) (n c:Nat) (w:World) (h:Mr w A n c M) (hm:∀ r∈M,r.n≤9223372036854775807) (hn:n≤9223372036854775807) (hw:wfM M=true) (ka:∀ r∈M,∀ x∈r.L,Rk x.b x.n x.x x.m x.y x.q) (b:Nat) (hs:∀ r∈M,∀ x∈r.L,Rs x.q b) (hb:1≤b) (hB:b*5^n≤9000000):Calls Tryz.prog 33 #[.slice A n c] w (RetMX 0 (nullQ (colM M) (red (colM M) (qM M)).M (red (colM M) (qM M)).p) w):=by
 obtain⟨hr,hq,hk,h0,hn96,hk96⟩:=wf_rct h hw;have hR:=Lib.hid (rReduce_any M A n c w h hm hn hw ka b hs hb hB);have hC:=Lib.hid (fun W h'=>rcols_any M A n c W h')
 have RFx:=(red_rf hq hr).1;obtain⟨k,hkk⟩:∃ k,k=colM M:=⟨_,rfl⟩;rw[←hkk] at hR hC RFx hk96 ⊢;obtain⟨RM,hRM⟩:∃ z,z=(red k (qM M)).M:=⟨_,rfl⟩;obtain⟨ps,hps⟩:∃ z,z=(red k (qM M)).p:=⟨_,rfl⟩;rw[←hRM,←hps] at hR RFx ⊢;have hp9:ps.length≤96:=by have:=RFx.ple;omega
 have hk9:k≤96:=hk96;have hmk:=make_rat k (by omega)
 obtain⟨f1,hf1⟩:∃ q:Rat,q=1:=⟨_,rfl⟩;have hFI:Hid (∀ W,Calls Tryz.prog 36 #[.int .i64 1] W (RetR f1 W)):=Lib.hid (fun W=>by rw[hf1];exact FfromInt_any 1 W (by omega) (by omega))
 have rs1:Hid (Rs f1 9000000):=Lib.hid (by rw[hf1];exact S2.rs (S2.one (a:=1) (d:=1)) (by decide) (by decide))
 replace hf1:=Lib.hid hf1;replace RFx:=Lib.hid RFx;replace h:=Lib.hid h;clear hm hn hw ka hs hb hB hr hq hk h0 hk96 hkk hRM hps;go_enter Tryz.func33,Tryz.ntmps33
 go_wp2_with fail
 refine hR.out.mono ?_
 rintro e V1 ⟨A2,n2,c2,M2,P,pc,rfl,m2,hc2,hq2,hn2,hi2,bb⟩;have hn2n:n2=n:=by
  have h1:=RFx.out.len;rw[←hq2] at h1;unfold qM at h1;rw[List.length_map,m2.len] at h1;exact h1
 subst hn2n;have hr2:Hid (∀ r∈M2,r.n=k∧∀ x∈r.L,x.can):=Lib.hid fun r hr=>⟨by
  have h1:=RFx.out.rect (r.L.map (·.q)) (by rw[←hq2];exact List.mem_map_of_mem hr)
  rw[List.length_map,(m2.rd r hr).len] at h1;exact h1,(hc2 r hr).2⟩
 have hR2:Hid (∀ i r,M2[i]?=some r→RM.getD i []=r.L.map (·.q)):=Lib.hid fun i r hi=>by
  rw[←hq2];unfold qM;rw[List.getD_eq_getElem?_getD,List.getElem?_map,hi];rfl
 replace h:=Lib.hid (h.out.bel bb);have bw:=Lib.hid bb;have m2h:=Lib.hid m2;have hi2h:=Lib.hid hi2;have S0:=Lib.hid (St.new V1);have hn9:=hn96;clear bb m2 hc2 hq2 hn2 hi2 hR;go_wp2
 go_loopw [7,8,9] (fun ov av jv wr=>∃ (j a:Nat) (K:List Ro) (bs:List Bk) (rs:List Rdg),j≤k∧jv=.int .i64 j∧av=.int .i64 a∧pAt ps j a∧K.length=(freeL j ps).length∧Apd V1 wr bs rs 23 1 ov (freeL j ps).length (K.map Ro.v)∧(∀ r∈K,r.In bs rs)∧canM K∧qM K=(freeL j ps).map fun c=>nst k c (fun i=>el RM i c) ps ps.length) (fun _ _ jv _=>k-(intOf jv).toNat)
 case atStart=>exact⟨0,0,[],[],[],Nat.zero_le _,rfl,rfl,⟨Nat.zero_le _,fun t ht g=>absurd g (Nat.not_lt_zero _),fun t ht g=>Nat.zero_le _⟩,rfl,Apd.nil_ S0.out _ _,fun x hx=>(by cases hx),fun x hx=>(by cases hx),rfl⟩
 case round=>
  clear S0;obtain⟨j,a,K,bs,rs,hjk,rfl,rfl,hpa,hK,AP,hIn,hcan,hqK⟩:=hrel;rename World=>V2
  have hCx:=Lib.hid (hC.out V2 (h.out.bel AP.st.bel));have hfl:=freeL_le j ps
  by_cases hlt:j<k
  ·have hjh:=Lib.hid hlt
   have g1:(j:Int)<(k:Int):=by omega
   have g2:(0:Int)≤(j:Int):=by omega
   have hmem:=hpa.mem RFx.out.mono;have hst:=hpa.step RFx.out.mono;have hap:=hpa.1;have hfs:=freeL_step j ps;have bV:=Lib.hid AP.st.bel;replace AP:=Lib.hid AP;replace hIn:=Lib.hid hIn;replace hcan:=Lib.hid hcan;replace hqK:=Lib.hid hqK;replace hK:=Lib.hid hK;clear hlt hjk hpa
   by_cases hja:ps[a]?=some j
   ·have hal:a<ps.length:=(List.getElem?_eq_some_iff.1 hja).1
    have g3:(a:Int)<(ps.length:Int):=by omega
    have g4:(0:Int)≤(a:Int):=by omega
    obtain⟨bP,oP,pk,hPA,hp1,pc0⟩:=(hi2h.out.bel bV.out).get hal;rw[hja] at hp1;obtain rfl:=Option.some.inj hp1;subst hPA;have hfe:freeL (j+1) ps=freeL j ps:=by rw[hfs,if_pos (hmem.2 hja),List.append_nil]
    have hp2:=Lib.hid (hst.1 hja);replace hfe:=Lib.hid hfe;have hj1:=hjh.out;clear hja hmem hst hfs hp1 hap
    go_wp2_with fail
    refine hCx.out.mono ?_
    rintro e V3 ⟨rfl,bb⟩;replace pc0:=bel_cell bb pc0;replace AP:=Lib.hid (AP.out.call bb);clear bb hCx;go_wp2
    go_roundw
    case rel=>exact⟨j+1,a+1,K,bs,rs,by omega,by go_num,by go_num,hp2.out,by rw[hfe.out];exact hK.out,by rw[hfe.out];exact AP.out,hIn.out,hcan.out,by rw[hfe.out];exact hqK.out⟩
    case measure=>simp[intOf];omega
   ·have hjn:j∉ps:=fun hm=>hja (hmem.1 hm)
    have hfe:freeL (j+1) ps=freeL j ps++[j]:=by rw[hfs,if_neg hjn]
    have hp2:=Lib.hid (hst.2 hja);replace hfe:=Lib.hid hfe
    by_cases hal:a<ps.length
    ·have g3:(a:Int)<(ps.length:Int):=by omega
     have g4:(0:Int)≤(a:Int):=by omega
     obtain⟨bP,oP,pk,hPA,hp1,pc0⟩:=(hi2h.out.bel bV.out).get hal;have hne:¬ ((pk:Int)=(j:Int)):=fun e=>hja (by rw[hp1];congr 1;omega)
     subst hPA;clear hja hmem hst hfs hp1 hap hjn hal
     go_wp2_with fail
     refine hCx.out.mono ?_
     rintro e V3 ⟨rfl,bb⟩;replace pc0:=bel_cell bb pc0;replace AP:=Lib.hid (AP.out.call bb);have hC2:=Lib.hid (hC.out V3 ((h.out.bel bV.out).bel bb));obtain⟨ob,hob,So⟩:=AP.out.open_;replace hob:=Lib.hid hob;replace So:=Lib.hid So;clear bb hCx AP bV
     go_wp2_with fail
     refine hC2.out.mono ?_
     rintro e V4 ⟨rfl,bb⟩;have SE:=Lib.hid (((So.out.call bb).allocAt V4.heap.size (csE (List.replicate k Zt)).toArray 45 (NoLl.csE _).arr rfl).read (show Rd _ none 0 0 [] from Rd.nil_ _ _ _))
     clear bb So hC2 pc0;go_upto_region 12 with fail
     obtain⟨gN,hgN⟩:∃ g,g=V4.heap.size:=⟨_,rfl⟩;obtain⟨V5,hV5⟩:∃ W,W=V4.alloc (.cells (csE (List.replicate k Zt)).toArray 45):=⟨_,rfl⟩;rw[←hgN,←hV5] at SE ⊢;clear hgN hV5
     go_wp2_with fail
     refine (hFI.out _).mono ?_
     rintro e V6 ⟨A9,n9,c9,D9,m9,d9,rfl,X9,bb⟩;have SE1:=((SE.out.call bb).read X9.n).read X9.d;have hZi:(List.replicate k Zt)[j]?=some Zt:=by rw[List.getElem?_replicate,if_pos hjh.out]
     obtain⟨⟨k0,k1,k2⟩,f0⟩:=St_lcl SE1 hZi;have f2:=f0 (j*3);have f3:=f0 (j*3+1);have f4:=f0 (j*3+2);have SE2:=Lib.hid (St_lset SE1 j (Rt.of A9 n9 c9 D9 m9 d9 f1));clear SE SE1 hZi f0 bb X9;go_upto_region 13 with fail
     clear k0 k1 k2 f2 f3 f4;obtain⟨V7,hV7⟩:∃ W,W=((V6.setCell ⟨gN,j*3,none⟩ (.bool (ng f1.num))).setCell ⟨gN,j*3+1,none⟩ (.slice A9 n9 c9)).setCell ⟨gN,j*3+2,none⟩ (.slice D9 m9 d9):=⟨_,rfl⟩
     change Hid (St V1 (((V6.setCell ⟨gN,j*3,none⟩ (.bool (ng f1.num))).setCell ⟨gN,j*3+1,none⟩ (.slice A9 n9 c9)).setCell ⟨gN,j*3+2,none⟩ (.slice D9 m9 d9)) _ _) at SE2
     rw[←hV7] at SE2 ⊢;clear hV7;obtain⟨E0,hE0⟩:∃ U,U=(List.replicate k Zt).set j (Rt.of A9 n9 c9 D9 m9 d9 f1):=⟨_,rfl⟩;obtain⟨rs2,hrs2⟩:∃ r,r=(D9,m9,d9,dn f1)::(A9,n9,c9,limbs f1.num.natAbs)::(none,0,0,[])::rs:=⟨_,rfl⟩;rw[←hE0,←hrs2] at SE2;have hE1:Hid (E0.length=k∧(∀ x∈E0,x.can∧x.rdIn rs2)∧E0.map (·.q)=nst k j (fun i=>el RM i j) ps 0):=Lib.hid ⟨by rw[hE0,List.length_set,List.length_replicate],fun x hx=>by
      rw[hE0] at hx;rw[hrs2]
      rcases List.mem_or_eq_of_mem_set hx with hx | rfl
      ·obtain rfl:=(List.mem_replicate.1 hx).2
       exact⟨Zt_can,by simp[Zt],by simp[Zt]⟩
      ·exact⟨Rt.of_can _ _ _ _ _ _ rs1.out,List.mem_cons_of_mem _ List.mem_cons_self,List.mem_cons_self⟩,by
      rw[hE0,List.map_set,List.map_replicate]
      show (List.replicate k 0).set j f1=(List.replicate k 0).set j 1
      rw[hf1.out]⟩
     have hrsub:Hid (∀ z∈rs,z∈rs2):=Lib.hid fun z hz=>by rw[hrs2];exact List.mem_cons_of_mem _ (List.mem_cons_of_mem _ (List.mem_cons_of_mem _ hz))
     clear hE0 hrs2;go_wp2
     go_loopw [11] (fun iv wr=>∃ (i:Nat) (E:List Rt) (rs':List Rdg),i≤ps.length∧iv=.int .i64 i∧St V1 wr ((gN,(csE E).toArray,45)::(bs++ob)) rs'∧E.length=k∧(∀ x∈E,x.can∧x.rdIn rs')∧E.map (·.q)=nst k j (fun i=>el RM i j) ps i∧∀ z∈rs2,z∈rs') (fun iv _=>ps.length-(intOf iv).toNat)
     case atStart=>exact⟨0,E0,_,Nat.zero_le _,rfl,SE2.out,hE1.out.1,hE1.out.2.1,hE1.out.2.2,fun z hz=>hz⟩
     case round=>
      clear SE2 hE1;obtain⟨i,E,rs',hip,rfl,T,hEl,hEc,hEq,hrs'⟩:=hrel;rename World=>V8
      by_cases hli:i<ps.length
      ·have g6:(i:Int)<(ps.length:Int):=by omega
       have g7:(0:Int)≤(i:Int):=by omega
       obtain⟨bQ,oQ,pq,hPB,hpq,pc1⟩:=(hi2h.out.bel T.bel).get hli;obtain⟨rfl,rfl⟩:bP=bQ∧oP=oQ:=by simp only[Option.some.injEq,Addr.mk.injEq] at hPB;exact⟨hPB.1,hPB.2.1⟩
       have hpk:pq<k:=RFx.out.lt pq (List.mem_of_getElem? hpq);have hpg:Hid (ps.getD i 0=pq):=Lib.hid (by rw[List.getD_eq_getElem?_getD,hpq];rfl)
       have g8:(pq:Int)<(k:Int):=by omega
       have g9:(0:Int)≤(pq:Int):=by omega
       have hin:i<n2:=by have:=RFx.out.ple;omega
       have g10:(i:Int)<(n2:Int):=by omega
       have hM:=m2h.out.bel T.bel;obtain⟨bR,oR,r,rfl,hr,hrm,e0⟩:=hM.get hin;have hrow:=hM.rd r hrm;have hrn:=(hr2.out r hrm).1;rw[hrn] at hrow e0;obtain⟨bX,oX,x,hXA,hx,hxm,x0,x1,x2⟩:=hrow.get hjh.out;rw[hXA] at e0;have xc:=(hr2.out r hrm).2 x hxm;have xr:=hrow.rd x hxm;have xq:Hid (x.q=el RM i j):=Lib.hid (by
        unfold GE.el;rw[hR2.out i r hr,List.getD_eq_getElem?_getD,List.getElem?_map,hx];rfl)
       obtain⟨y,hEk⟩:∃ y,E[pq]?=some y:=⟨E[pq]'(by rw[hEl];exact hpk),List.getElem?_eq_getElem _⟩
       obtain⟨q1,hq1⟩:∃ q,q = -x.q:=⟨_,rfl⟩;have rq1:Hid (Rs q1 9000000):=Lib.hid (by rw[hq1];exact xc.2.2.2.neg)
       have hNg:Hid (∀ W,Below V8.heap.size V8 W→Calls Tryz.prog 64 #[.agg #[.bool x.b,.slice x.A x.n x.c,.slice x.D x.m x.d]] W (RetR q1 W)):=Lib.hid fun W hW=>by rw[hq1];exact fnegT xc (xr.bel hW)
       have g11:(j:Int)<(k:Int):=by have:=hjh.out;omega
       have hih:=Lib.hid hli;replace pc1:=Lib.hid pc1;replace e0:=Lib.hid e0;replace x0:=Lib.hid x0;replace x1:=Lib.hid x1;replace x2:=Lib.hid x2;replace T:=Lib.hid T;replace hEl:=Lib.hid hEl;replace hEc:=Lib.hid hEc;replace hEq:=Lib.hid hEq;replace hEk:=Lib.hid hEk;replace hrs':=Lib.hid hrs';replace hq1:=Lib.hid hq1;clear hli hip hpq hpk hin hM hr hrm hrow hrn hXA hx hxm xc xr;go_upto_region 16 with fail
       refine Wl.start (fun W=>Below V8.heap.size V8 W) [14] rfl ?_
       have hS:Below V8.heap.size V8 V8.drew:=(Below.refl _ _).drew;refine Wl.t (i:=0) (v:=.slice (some ⟨gN,0,none⟩) k k) (some 54) at0 (hy:=fun _ _=>by kernel_rfl) (hS:=hS) (h:=?_)
       refine Wl.t (i:=1) (v:=.slice (some ⟨bP,oP,none⟩) ps.length pc) (some 55) at1 (hy:=fun _ _=>by kernel_rfl) (hS:=hS) (h:=?_)
       refine Wl.t (i:=2) (v:=.int .i64 i) (some 56) at2 (hy:=fun _ _=>by kernel_rfl) (hS:=hS) (h:=?_)
       refine Wl.t (i:=3) (v:=.pointer (some ⟨bP,oP+i,none⟩)) (some 57) at3 (hy:=fun _ _=>by go_simp) (hS:=hS) (h:=?_)
       refine Wl.t (i:=4) (v:=.int .i64 pq) (some 58) at4 (hy:=fun W hS=>by (have k0:=bel_cell hS pc1.out;clear hS;go_simp)) (hS:=hS) (h:=?_)
       refine Wl.t (i:=5) (v:=.slice (some ⟨bR,oR,none⟩) n2 c2) (some 59) at5 (hy:=fun _ _=>by kernel_rfl) (hS:=hS) (h:=?_)
       refine Wl.t (i:=6) (v:=.int .i64 i) (some 60) at6 (hy:=fun _ _=>by kernel_rfl) (hS:=hS) (h:=?_)
       refine Wl.t (i:=7) (v:=.pointer (some ⟨bR,oR+i,none⟩)) (some 61) at7 (hy:=fun _ _=>by go_simp) (hS:=hS) (h:=?_)
       refine Wl.t (i:=8) (v:=.slice (some ⟨bX,oX,none⟩) k r.c) (some 62) at8 (hy:=fun W hS=>by (have k0:=bel_cell hS e0.out;clear hS;go_simp)) (hS:=hS) (h:=?_)
       refine Wl.t (i:=9) (v:=.int .i64 j) (some 63) at9 (hy:=fun _ _=>by kernel_rfl) (hS:=hS) (h:=?_)
       refine Wl.t (i:=10) (v:=.pointer (some ⟨bX,oX+j*3,none⟩)) (some 64) at10 (hy:=fun _ _=>by go_simp) (hS:=hS) (h:=?_)
       refine Wl.t (i:=11) (v:=.agg #[.bool x.b,.slice x.A x.n x.c,.slice x.D x.m x.d]) (some 65) at11 (hy:=fun W hS=>by (have k0:=bel_cell hS x0.out;have k1:=bel_cell hS x1.out;have k2:=bel_cell hS x2.out;clear hS;go_simp)) (hS:=hS) (h:=?_)
       try simp only[Act.put,sZ0,sZ1,sZ2]
       refine Wl.g (i:=12) at12 (by kernel_rfl) (by kernel_rfl) fun K' hK2=>?_
       refine oper_call (f:=64) (args:=#[.agg #[.bool x.b,.slice x.A x.n x.c,.slice x.D x.m x.d]]) rfl (by kernel_rfl) ((hNg.out _ hS).mono ?_)
       rintro e Va ⟨A8,n8,c8,D8,m8,d8,rfl,X8,bb⟩;have hSa:=hS.trans (bb.mono hS.size);refine⟨_,rfl,hK2.out _ _ hSa ?_⟩
       clear hK2 K' hS bb
       try simp only[Act.put,sZ0,sZ1,sZ2]
       refine Wl.t (i:=13) (v:=.pointer (some ⟨gN,pq*3,none⟩)) (some 67) at13 (hy:=fun _ _=>by go_simp) (hS:=hSa) (h:=?_)
       have S3:=(((T.out.call hSa).read X8.n).read X8.d);obtain⟨⟨k0,k1,k2⟩,f0⟩:=St_lcl S3 hEk.out;have f2:=f0 (pq*3);have f3:=f0 (pq*3+1);have f4:=f0 (pq*3+2);obtain⟨Vb,hVb,T⟩:∃ W,W=((Va.setCell ⟨gN,pq*3,none⟩ (.bool (ng q1.num))).setCell ⟨gN,pq*3+1,none⟩ (.slice A8 n8 c8)).setCell ⟨gN,pq*3+2,none⟩ (.slice D8 m8 d8)∧Hid (St V1 W ((gN,(csE (E.set pq (Rt.of A8 n8 c8 D8 m8 d8 q1))).toArray,45)::(bs++ob)) ((D8,m8,d8,dn q1)::(A8,n8,c8,limbs q1.num.natAbs)::rs')):=⟨_,rfl,Lib.hid (St_lset S3 pq (Rt.of A8 n8 c8 D8 m8 d8 q1))⟩
       clear f0
       try simp only[Act.put,sZ0,sZ1,sZ2]
       refine Wl.s (i:=14) at14 (by kernel_rfl) (by kernel_rfl) (by kernel_rfl) fun K' hK2=>?_
       go_simp
       rw[←hVb];refine hK2.out _ _ ?_
       clear hK2 K' k0 k1 k2 f2 f3 f4 hVb S3 X8 hSa hNg;refine Wl.done (by kernel_rfl) ?_
       clear pc1 e0 x0 x1 x2 hEk;have hp1:=hih.out;go_wp2
       go_roundw
       case rel=>exact⟨i+1,E.set pq (Rt.of A8 n8 c8 D8 m8 d8 q1),_,by omega,by go_num,T.out,by rw[List.length_set];exact hEl.out,fun z hz=>(by rcases List.mem_or_eq_of_mem_set hz with hz | rfl;exact⟨(hEc.out z hz).1,List.mem_cons_of_mem _ (List.mem_cons_of_mem _ (hEc.out z hz).2.1),List.mem_cons_of_mem _ (List.mem_cons_of_mem _ (hEc.out z hz).2.2)⟩;exact⟨Rt.of_can _ _ _ _ _ _ rq1.out,List.mem_cons_of_mem _ List.mem_cons_self,List.mem_cons_self⟩),by rw[List.map_set,hEq.out];show _=(nst k j (fun i=>el RM i j) ps i).set (ps.getD i 0) (-(el RM i j));rw[hpg.out,←xq.out,←hq1.out];rfl,fun z hz=>List.mem_cons_of_mem _ (List.mem_cons_of_mem _ (hrs'.out z hz))⟩
       case measure=>simp[intOf];omega
      ·have hpi:i=ps.length:=by omega
       have hqf:E.map (·.q)=nst k j (fun i=>el RM i j) ps ps.length:=by rw[hEq,hpi]
       have T2:St V1 V8 (((gN,(csE E).toArray,45)::bs)++ob) rs':=T;have APo:=Apd.close hob.out T2;have APl:=APo.alloc #[.slice (some ⟨gN,0,none⟩) k k] 23 (noL1 _ _ _);have hcb1:=APl.st.cb 0 rfl;have hIr:Hid ((⟨some ⟨gN,0,none⟩,k,k,E⟩:Ro).In ((gN,(csE E).toArray,45)::bs) rs'):=Lib.hid ⟨hEl,.inr ⟨gN,(csE E).toArray,rfl,Nat.le_refl _,List.mem_cons_self,by
        show ((csE E).toArray.toList).take (k*3)=csE E
        rw[List.toList_toArray,List.take_of_length_le (by rw[csE_len,hEl];exact Nat.le_refl _)]⟩,fun x hx=>(hEc x hx).2⟩
       have hcn':=Lib.hid (fun x hx=>(hEc x hx).1)
       have hsub:Hid (∀ z∈rs,z∈rs'):=Lib.hid fun z hz=>hrs' z (hrsub.out z hz)
       replace hqf:=Lib.hid hqf;clear T T2 hEc hEq hEl hrs' hip hob APo;have hjl:=hjh.out;have g6:¬ ((i:Int)<(ps.length:Int)):=by omega
       clear hli hpi
       go_wp2_with (at_builtin;refine app_row rfl (.tmp 68) (.tmp 70) rfl rfl APl _ rfl hcb1 (by omega) ?_)
       clear APl hcb1;intro v' W' AP;replace AP:=Lib.hid AP;go_wp2
       go_roundw
       case rel=>exact⟨j+1,a,K++[⟨some ⟨gN,0,none⟩,k,k,E⟩],_,rs',by omega,by go_num,rfl,hp2.out,by rw[hfe.out,List.length_append,List.length_append,hK.out];rfl,by rw[hfe.out,List.length_append,List.map_append];exact AP.out.sub,In_app hIn.out (fun z hz=>List.mem_cons_of_mem _ hz) hsub.out hIr.out,canM_app hcan.out (by show k≤1000;omega) hcn'.out,by rw[qM_app,hqK.out,hfe.out,List.map_append];show _++[E.map (·.q)]=_;rw[hqf.out];rfl⟩
       case measure=>simp[intOf];omega
    ·have g3:¬ ((a:Int)<(ps.length:Int)):=by omega
     clear hja hmem hst hfs hap hjn hal
     go_wp2_with fail
     refine hCx.out.mono ?_
     rintro e V3 ⟨rfl,bb⟩;replace AP:=Lib.hid (AP.out.call bb);have hC2:=Lib.hid (hC.out V3 ((h.out.bel bV.out).bel bb));obtain⟨ob,hob,So⟩:=AP.out.open_;replace hob:=Lib.hid hob;replace So:=Lib.hid So;clear bb hCx AP bV
     go_wp2_with fail
     refine hC2.out.mono ?_
     rintro e V4 ⟨rfl,bb⟩;have SE:=Lib.hid (((So.out.call bb).allocAt V4.heap.size (csE (List.replicate k Zt)).toArray 45 (NoLl.csE _).arr rfl).read (show Rd _ none 0 0 [] from Rd.nil_ _ _ _))
     clear bb So hC2;go_upto_region 12 with fail
     obtain⟨gN,hgN⟩:∃ g,g=V4.heap.size:=⟨_,rfl⟩;obtain⟨V5,hV5⟩:∃ W,W=V4.alloc (.cells (csE (List.replicate k Zt)).toArray 45):=⟨_,rfl⟩;rw[←hgN,←hV5] at SE ⊢;clear hgN hV5
     go_wp2_with fail
     refine (hFI.out _).mono ?_
     rintro e V6 ⟨A9,n9,c9,D9,m9,d9,rfl,X9,bb⟩;have SE1:=((SE.out.call bb).read X9.n).read X9.d;have hZi:(List.replicate k Zt)[j]?=some Zt:=by rw[List.getElem?_replicate,if_pos hjh.out]
     obtain⟨⟨k0,k1,k2⟩,f0⟩:=St_lcl SE1 hZi;have f2:=f0 (j*3);have f3:=f0 (j*3+1);have f4:=f0 (j*3+2);have SE2:=Lib.hid (St_lset SE1 j (Rt.of A9 n9 c9 D9 m9 d9 f1));clear SE SE1 hZi f0 bb X9;go_upto_region 13 with fail
     clear k0 k1 k2 f2 f3 f4;obtain⟨V7,hV7⟩:∃ W,W=((V6.setCell ⟨gN,j*3,none⟩ (.bool (ng f1.num))).setCell ⟨gN,j*3+1,none⟩ (.slice A9 n9 c9)).setCell ⟨gN,j*3+2,none⟩ (.slice D9 m9 d9):=⟨_,rfl⟩
     change Hid (St V1 (((V6.setCell ⟨gN,j*3,none⟩ (.bool (ng f1.num))).setCell ⟨gN,j*3+1,none⟩ (.slice A9 n9 c9)).setCell ⟨gN,j*3+2,none⟩ (.slice D9 m9 d9)) _ _) at SE2
     rw[←hV7] at SE2 ⊢;clear hV7;obtain⟨E0,hE0⟩:∃ U,U=(List.replicate k Zt).set j (Rt.of A9 n9 c9 D9 m9 d9 f1):=⟨_,rfl⟩;obtain⟨rs2,hrs2⟩:∃ r,r=(D9,m9,d9,dn f1)::(A9,n9,c9,limbs f1.num.natAbs)::(none,0,0,[])::rs:=⟨_,rfl⟩;rw[←hE0,←hrs2] at SE2;have hE1:Hid (E0.length=k∧(∀ x∈E0,x.can∧x.rdIn rs2)∧E0.map (·.q)=nst k j (fun i=>el RM i j) ps 0):=Lib.hid ⟨by rw[hE0,List.length_set,List.length_replicate],fun x hx=>by
      rw[hE0] at hx;rw[hrs2]
      rcases List.mem_or_eq_of_mem_set hx with hx | rfl
      ·obtain rfl:=(List.mem_replicate.1 hx).2
       exact⟨Zt_can,by simp[Zt],by simp[Zt]⟩
      ·exact⟨Rt.of_can _ _ _ _ _ _ rs1.out,List.mem_cons_of_mem _ List.mem_cons_self,List.mem_cons_self⟩,by
      rw[hE0,List.map_set,List.map_replicate]
      show (List.replicate k 0).set j f1=(List.replicate k 0).set j 1
      rw[hf1.out]⟩
     have hrsub:Hid (∀ z∈rs,z∈rs2):=Lib.hid fun z hz=>by rw[hrs2];exact List.mem_cons_of_mem _ (List.mem_cons_of_mem _ (List.mem_cons_of_mem _ hz))
     clear hE0 hrs2;go_wp2
     go_loopw [11] (fun iv wr=>∃ (i:Nat) (E:List Rt) (rs':List Rdg),i≤ps.length∧iv=.int .i64 i∧St V1 wr ((gN,(csE E).toArray,45)::(bs++ob)) rs'∧E.length=k∧(∀ x∈E,x.can∧x.rdIn rs')∧E.map (·.q)=nst k j (fun i=>el RM i j) ps i∧∀ z∈rs2,z∈rs') (fun iv _=>ps.length-(intOf iv).toNat)
     case atStart=>exact⟨0,E0,_,Nat.zero_le _,rfl,SE2.out,hE1.out.1,hE1.out.2.1,hE1.out.2.2,fun z hz=>hz⟩
     case round=>
      clear SE2 hE1;obtain⟨i,E,rs',hip,rfl,T,hEl,hEc,hEq,hrs'⟩:=hrel;rename World=>V8
      by_cases hli:i<ps.length
      ·have g6:(i:Int)<(ps.length:Int):=by omega
       have g7:(0:Int)≤(i:Int):=by omega
       obtain⟨bQ,oQ,pq,hPB,hpq,pc1⟩:=(hi2h.out.bel T.bel).get hli;subst hPB;have hpk:pq<k:=RFx.out.lt pq (List.mem_of_getElem? hpq);have hpg:Hid (ps.getD i 0=pq):=Lib.hid (by rw[List.getD_eq_getElem?_getD,hpq];rfl)
       have g8:(pq:Int)<(k:Int):=by omega
       have g9:(0:Int)≤(pq:Int):=by omega
       have hin:i<n2:=by have:=RFx.out.ple;omega
       have g10:(i:Int)<(n2:Int):=by omega
       have hM:=m2h.out.bel T.bel;obtain⟨bR,oR,r,rfl,hr,hrm,e0⟩:=hM.get hin;have hrow:=hM.rd r hrm;have hrn:=(hr2.out r hrm).1;rw[hrn] at hrow e0;obtain⟨bX,oX,x,hXA,hx,hxm,x0,x1,x2⟩:=hrow.get hjh.out;rw[hXA] at e0;have xc:=(hr2.out r hrm).2 x hxm;have xr:=hrow.rd x hxm;have xq:Hid (x.q=el RM i j):=Lib.hid (by
        unfold GE.el;rw[hR2.out i r hr,List.getD_eq_getElem?_getD,List.getElem?_map,hx];rfl)
       obtain⟨y,hEk⟩:∃ y,E[pq]?=some y:=⟨E[pq]'(by rw[hEl];exact hpk),List.getElem?_eq_getElem _⟩
       obtain⟨q1,hq1⟩:∃ q,q = -x.q:=⟨_,rfl⟩;have rq1:Hid (Rs q1 9000000):=Lib.hid (by rw[hq1];exact xc.2.2.2.neg)
       have hNg:Hid (∀ W,Below V8.heap.size V8 W→Calls Tryz.prog 64 #[.agg #[.bool x.b,.slice x.A x.n x.c,.slice x.D x.m x.d]] W (RetR q1 W)):=Lib.hid fun W hW=>by rw[hq1];exact fnegT xc (xr.bel hW)
       have g11:(j:Int)<(k:Int):=by have:=hjh.out;omega
       have hih:=Lib.hid hli;replace pc1:=Lib.hid pc1;replace e0:=Lib.hid e0;replace x0:=Lib.hid x0;replace x1:=Lib.hid x1;replace x2:=Lib.hid x2;replace T:=Lib.hid T;replace hEl:=Lib.hid hEl;replace hEc:=Lib.hid hEc;replace hEq:=Lib.hid hEq;replace hEk:=Lib.hid hEk;replace hrs':=Lib.hid hrs';replace hq1:=Lib.hid hq1;clear hli hip hpq hpk hin hM hr hrm hrow hrn hXA hx hxm xc xr;go_upto_region 16 with fail
       refine Wl.start (fun W=>Below V8.heap.size V8 W) [14] rfl ?_
       have hS:Below V8.heap.size V8 V8.drew:=(Below.refl _ _).drew;refine Wl.t (i:=0) (v:=.slice (some ⟨gN,0,none⟩) k k) (some 54) at0 (hy:=fun _ _=>by kernel_rfl) (hS:=hS) (h:=?_)
       refine Wl.t (i:=1) (v:=.slice (some ⟨bQ,oQ,none⟩) ps.length pc) (some 55) at1 (hy:=fun _ _=>by kernel_rfl) (hS:=hS) (h:=?_)
       refine Wl.t (i:=2) (v:=.int .i64 i) (some 56) at2 (hy:=fun _ _=>by kernel_rfl) (hS:=hS) (h:=?_)
       refine Wl.t (i:=3) (v:=.pointer (some ⟨bQ,oQ+i,none⟩)) (some 57) at3 (hy:=fun _ _=>by go_simp) (hS:=hS) (h:=?_)
       refine Wl.t (i:=4) (v:=.int .i64 pq) (some 58) at4 (hy:=fun W hS=>by (have k0:=bel_cell hS pc1.out;clear hS;go_simp)) (hS:=hS) (h:=?_)
       refine Wl.t (i:=5) (v:=.slice (some ⟨bR,oR,none⟩) n2 c2) (some 59) at5 (hy:=fun _ _=>by kernel_rfl) (hS:=hS) (h:=?_)
       refine Wl.t (i:=6) (v:=.int .i64 i) (some 60) at6 (hy:=fun _ _=>by kernel_rfl) (hS:=hS) (h:=?_)
       refine Wl.t (i:=7) (v:=.pointer (some ⟨bR,oR+i,none⟩)) (some 61) at7 (hy:=fun _ _=>by go_simp) (hS:=hS) (h:=?_)
       refine Wl.t (i:=8) (v:=.slice (some ⟨bX,oX,none⟩) k r.c) (some 62) at8 (hy:=fun W hS=>by (have k0:=bel_cell hS e0.out;clear hS;go_simp)) (hS:=hS) (h:=?_)
       refine Wl.t (i:=9) (v:=.int .i64 j) (some 63) at9 (hy:=fun _ _=>by kernel_rfl) (hS:=hS) (h:=?_)
       refine Wl.t (i:=10) (v:=.pointer (some ⟨bX,oX+j*3,none⟩)) (some 64) at10 (hy:=fun _ _=>by go_simp) (hS:=hS) (h:=?_)
       refine Wl.t (i:=11) (v:=.agg #[.bool x.b,.slice x.A x.n x.c,.slice x.D x.m x.d]) (some 65) at11 (hy:=fun W hS=>by (have k0:=bel_cell hS x0.out;have k1:=bel_cell hS x1.out;have k2:=bel_cell hS x2.out;clear hS;go_simp)) (hS:=hS) (h:=?_)
       try simp only[Act.put,sZ0,sZ1,sZ2]
       refine Wl.g (i:=12) at12 (by kernel_rfl) (by kernel_rfl) fun K' hK2=>?_
       refine oper_call (f:=64) (args:=#[.agg #[.bool x.b,.slice x.A x.n x.c,.slice x.D x.m x.d]]) rfl (by kernel_rfl) ((hNg.out _ hS).mono ?_)
       rintro e Va ⟨A8,n8,c8,D8,m8,d8,rfl,X8,bb⟩;have hSa:=hS.trans (bb.mono hS.size);refine⟨_,rfl,hK2.out _ _ hSa ?_⟩
       clear hK2 K' hS bb
       try simp only[Act.put,sZ0,sZ1,sZ2]
       refine Wl.t (i:=13) (v:=.pointer (some ⟨gN,pq*3,none⟩)) (some 67) at13 (hy:=fun _ _=>by go_simp) (hS:=hSa) (h:=?_)
       have S3:=(((T.out.call hSa).read X8.n).read X8.d);obtain⟨⟨k0,k1,k2⟩,f0⟩:=St_lcl S3 hEk.out;have f2:=f0 (pq*3);have f3:=f0 (pq*3+1);have f4:=f0 (pq*3+2);obtain⟨Vb,hVb,T⟩:∃ W,W=((Va.setCell ⟨gN,pq*3,none⟩ (.bool (ng q1.num))).setCell ⟨gN,pq*3+1,none⟩ (.slice A8 n8 c8)).setCell ⟨gN,pq*3+2,none⟩ (.slice D8 m8 d8)∧Hid (St V1 W ((gN,(csE (E.set pq (Rt.of A8 n8 c8 D8 m8 d8 q1))).toArray,45)::(bs++ob)) ((D8,m8,d8,dn q1)::(A8,n8,c8,limbs q1.num.natAbs)::rs')):=⟨_,rfl,Lib.hid (St_lset S3 pq (Rt.of A8 n8 c8 D8 m8 d8 q1))⟩
       clear f0
       try simp only[Act.put,sZ0,sZ1,sZ2]
       refine Wl.s (i:=14) at14 (by kernel_rfl) (by kernel_rfl) (by kernel_rfl) fun K' hK2=>?_
       go_simp
       rw[←hVb];refine hK2.out _ _ ?_
       clear hK2 K' k0 k1 k2 f2 f3 f4 hVb S3 X8 hSa hNg;refine Wl.done (by kernel_rfl) ?_
       clear pc1 e0 x0 x1 x2 hEk;have hp1:=hih.out;go_wp2
       go_roundw
       case rel=>exact⟨i+1,E.set pq (Rt.of A8 n8 c8 D8 m8 d8 q1),_,by omega,by go_num,T.out,by rw[List.length_set];exact hEl.out,fun z hz=>(by rcases List.mem_or_eq_of_mem_set hz with hz | rfl;exact⟨(hEc.out z hz).1,List.mem_cons_of_mem _ (List.mem_cons_of_mem _ (hEc.out z hz).2.1),List.mem_cons_of_mem _ (List.mem_cons_of_mem _ (hEc.out z hz).2.2)⟩;exact⟨Rt.of_can _ _ _ _ _ _ rq1.out,List.mem_cons_of_mem _ List.mem_cons_self,List.mem_cons_self⟩),by rw[List.map_set,hEq.out];show _=(nst k j (fun i=>el RM i j) ps i).set (ps.getD i 0) (-(el RM i j));rw[hpg.out,←xq.out,←hq1.out];rfl,fun z hz=>List.mem_cons_of_mem _ (List.mem_cons_of_mem _ (hrs'.out z hz))⟩
       case measure=>simp[intOf];omega
      ·have hpi:i=ps.length:=by omega
       have hqf:E.map (·.q)=nst k j (fun i=>el RM i j) ps ps.length:=by rw[hEq,hpi]
       have T2:St V1 V8 (((gN,(csE E).toArray,45)::bs)++ob) rs':=T;have APo:=Apd.close hob.out T2;have APl:=APo.alloc #[.slice (some ⟨gN,0,none⟩) k k] 23 (noL1 _ _ _);have hcb1:=APl.st.cb 0 rfl;have hIr:Hid ((⟨some ⟨gN,0,none⟩,k,k,E⟩:Ro).In ((gN,(csE E).toArray,45)::bs) rs'):=Lib.hid ⟨hEl,.inr ⟨gN,(csE E).toArray,rfl,Nat.le_refl _,List.mem_cons_self,by
        show ((csE E).toArray.toList).take (k*3)=csE E
        rw[List.toList_toArray,List.take_of_length_le (by rw[csE_len,hEl];exact Nat.le_refl _)]⟩,fun x hx=>(hEc x hx).2⟩
       have hcn':=Lib.hid (fun x hx=>(hEc x hx).1)
       have hsub:Hid (∀ z∈rs,z∈rs'):=Lib.hid fun z hz=>hrs' z (hrsub.out z hz)
       replace hqf:=Lib.hid hqf;clear T T2 hEc hEq hEl hrs' hip hob APo;have hjl:=hjh.out;have g6:¬ ((i:Int)<(ps.length:Int)):=by omega
       clear hli hpi
       go_wp2_with (at_builtin;refine app_row rfl (.tmp 68) (.tmp 70) rfl rfl APl _ rfl hcb1 (by omega) ?_)
       clear APl hcb1;intro v' W' AP;replace AP:=Lib.hid AP;go_wp2
       go_roundw
       case rel=>exact⟨j+1,a,K++[⟨some ⟨gN,0,none⟩,k,k,E⟩],_,rs',by omega,by go_num,rfl,hp2.out,by rw[hfe.out,List.length_append,List.length_append,hK.out];rfl,by rw[hfe.out,List.length_append,List.map_append];exact AP.out.sub,In_app hIn.out (fun z hz=>List.mem_cons_of_mem _ hz) hsub.out hIr.out,canM_app hcan.out (by show k≤1000;omega) hcn'.out,by rw[qM_app,hqK.out,hfe.out,List.map_append];show _++[E.map (·.q)]=_;rw[hqf.out];rfl⟩
       case measure=>simp[intOf];omega
  ·obtain rfl:k=j:=by omega
   have bV:=AP.st.bel;rw[←hK] at AP;replace AP:=Lib.hid AP;replace hqK:=Lib.hid hqK;replace hcan:=Lib.hid hcan;replace hIn:=Lib.hid hIn;replace hK:=Lib.hid hK;replace bw:=Lib.hid (bw.out.trans (bV.mono bw.out.size));clear hlt hjk bV hpa
   go_wp2_with fail
   refine hCx.out.mono ?_
   rintro e V3 ⟨rfl,bb⟩;obtain⟨A7,c7,hv,M7⟩:=(AP.out.call bb).mat hIn.out;subst hv;replace bw:=Lib.hid (bw.out.trans (bb.mono bw.out.size));replace M7:=Lib.hid M7;clear AP hIn bb hCx;go_wp2
   go_ret2
   exact⟨A7,K.length,c7,K,rfl,M7.out,hcan.out,hqK.out,by rw[hK.out];omega,bw.out⟩
end Go.Proofs.YtfnkpfbobdmieaaGreat
namespace Go.Proofs.YtfnkpfbobdmieaaGreat
open Go.RowKit RQ GE
set_option linter.unusedVariables false
theorem Sr.one {W:World} {b o n c i:Nat} {L:List Rt} {x:Rt} (h:Sr W (some ⟨b,o,none⟩) n c L) (hi:L[i]?=some x):Sr W (some ⟨b,o+i*3,none⟩) 1 (c-i) [x]:=by
 have hin:i<n:=by rw[←h.len];exact (List.getElem?_eq_some_iff.1 hi).1
 have hc:=h.cap;refine⟨rfl,by omega,?_,fun r hr=>by rw[List.mem_singleton.1 hr];exact h.rd x (List.mem_of_getElem? hi)⟩
 rcases h.mem with h0 | ⟨b',o',hA,hlt,hc⟩
 ·omega
 ·right
  obtain⟨rfl,rfl⟩:b=b'∧o=o':=by simp only[Option.some.injEq,Addr.mk.injEq] at hA;exact⟨hA.1,hA.2.1⟩
  refine⟨b,o+i*3,rfl,hlt,fun j r hj=>?_⟩
  match j,hj with
  | 0,hj=>
   obtain rfl:=Option.some.inj hj;rw[Nat.zero_mul,Nat.add_zero];exact hc _ _ hi
def widQ (Q:List (List Rat)) (bq:List Rat):List (List Rat):=List.zipWith (fun r x=>r++[x]) Q bq
def slt (k:Nat) (f:Nat→Rat) (ps:List Nat):Nat→List Rat
 | 0=>List.replicate k 0
 | i+1=>(slt k f ps i).set (ps.getD i 0) (f i)
theorem slt_congr {k:Nat} {f g:Nat→Rat} {ps:List Nat}:∀ {i:Nat},(∀ j<i,f j=g j)→slt k f ps i=slt k g ps i
 | 0,_=>rfl
 | i+1,h=>by
  show (slt k f ps i).set _ _=(slt k g ps i).set _ _
  rw[slt_congr (fun j hj=>h j (by omega)),h i (by omega)]
def wcol (n k:Nat):Nat:=if n=0 then 0 else k+1
def solQ (n k:Nat) (Q:List (List Rat)) (bq:List Rat):List Rat:=slt k (fun i=>el (red (wcol n k) (widQ Q bq)).M i k) (red (wcol n k) (widQ Q bq)).p (red (wcol n k) (widQ Q bq)).p.length
theorem wid_at {Q:List (List Rat)} {bq:List Rat} {i:Nat} {r:List Rat} {x:Rat} (h1:Q[i]?=some r) (h2:bq[i]?=some x):(widQ Q bq)[i]?=some (r++[x]):=by
 unfold widQ;rw[List.getElem?_zipWith,h1,h2]
theorem wid_of {Q:List (List Rat)} {bq:List Rat} {r:List Rat} (h:r∈widQ Q bq):∃ s∈Q,∃ x∈bq,r=s++[x]:=by
 obtain⟨i,hi⟩:=List.getElem?_of_mem h
 unfold widQ at hi;rw[List.getElem?_zipWith] at hi
 cases hs:Q[i]? with
 | none=>rw[hs] at hi;cases hi
 | some s=>cases hx:bq[i]? with
  | none=>rw[hs,hx] at hi;cases hi
  | some x=>rw[hs,hx] at hi;exact⟨s,List.mem_of_getElem? hs,x,List.mem_of_getElem? hx,(Option.some.inj hi).symm⟩
theorem wid_len {Q:List (List Rat)} {bq:List Rat} {n:Nat} (h1:Q.length=n) (h2:bq.length=n):(widQ Q bq).length=n:=by
 unfold widQ;rw[List.length_zipWith,h1,h2,Nat.min_self]
theorem wid_rct {Q:List (List Rat)} {bq:List Rat} {n k:Nat} (hq:Q.length=n) (hr:rct k Q):rct (wcol n k) (widQ Q bq):=fun r hr'=>by
 obtain⟨s,hs,x,hx,rfl⟩:=wid_of hr';have:0<Q.length:=List.length_pos_of_mem hs;unfold wcol;rw[if_neg (by omega),List.length_append,hr s hs];rfl
theorem psolve_any (M:List Ro) (A:Option Addr) (n c:Nat) (w:World) (h:Mr w A n c M) (hm:∀ r∈M,r.n≤9223372036854775807) (hn:n≤9223372036854775807) (hw:wfM M=true) (ka:∀ r∈M,∀ x∈r.L,Rk x.b x.n x.x x.m x.y x.q) (Lb:List Rt) (Ab:Option Addr) (cb:Nat) (hbl:Sr w Ab n cb Lb) (kb:∀ x∈Lb,Rk x.b x.n x.x x.m x.y x.q) (a d:Nat) (hs:∀ r∈M,∀ x∈r.L,S2 a d x.q) (hsb:∀ x∈Lb,S2 a d x.q) (hz:SzE n (wcol n (colM M)) a d) (hT:SzT n (wcol n (colM M)) a d):Calls Tryz.prog 30 #[.slice A n c,.slice Ab n cb] w (fun e w'=>(colM M∉(red (wcol n (colM M)) (widQ (qM M) (Lb.map (·.q)))).p∧RetLX 0 (solQ n (colM M) (qM M) (Lb.map (·.q))) w e w')∨(colM M∈(red (wcol n (colM M)) (widQ (qM M) (Lb.map (·.q)))).p∧RetLX 11 [] w e w')):=by
 obtain⟨hr,hq,hk,h0,hn96,hk96⟩:=wf_rct h hw;have hF:=fun W h'=>wf_any M A n c W h' hm hn
 rw[hw] at hF;have hC:=Lib.hid (fun W h'=>cols_any M A n c W h')
 obtain⟨k,hkk⟩:∃ k,k=colM M:=⟨_,rfl⟩;obtain⟨Q,hQ⟩:∃ Q,Q=qM M:=⟨_,rfl⟩;obtain⟨bq,hbq⟩:∃ z,z=Lb.map (·.q):=⟨_,rfl⟩;have hbql:bq.length=n:=by rw[hbq,List.length_map];exact hbl.len
 have hQ1:Hid (∀ (i:Nat) (r:Ro),M[i]?=some r→Q[i]?=some (r.L.map (·.q))):=Lib.hid fun i r hi=>by
  rw[hQ];unfold qM;rw[List.getElem?_map,hi];rfl
 have hQs:=qM_s2 hs;simp only[←hkk,←hQ,←hbq] at hC hr hq hk h0 hk96 hz hQs hT ⊢;obtain⟨m,hm_⟩:∃ m,m=wcol n k:=⟨_,rfl⟩;have hm1:0<n→m=k+1:=fun h=>by rw[hm_];unfold wcol;rw[if_neg (by omega)]
 have hm2:n=0→m=0:=fun h=>by rw[hm_];unfold wcol;rw[if_pos h]
 have hb1:=wid_len hq hbql;have hb2:rct m (widQ Q bq):=by rw[hm_];exact wid_rct hq hr
 have hb3:∀ r∈widQ Q bq,∀ x∈r,S2 a d x:=fun r hr' x hx=>by
  obtain⟨s,hs',y,hy,rfl⟩:=wid_of hr'
  rcases List.mem_append.1 hx with hx | hx
  ·exact hQs s hs' x hx
  ·rw[List.mem_singleton.1 hx]
   rw[hbq] at hy;obtain⟨z,hz',rfl⟩:=List.mem_map.1 hy;exact hsb z hz'
 unfold solQ;simp only[←hm_] at hz hT ⊢;obtain⟨S,hS⟩:∃ S,S=(brun m 0 ⟨wh (widQ Q bq),[],pr (rsc (widQ Q bq)) n⟩ 1).1:=⟨_,rfl⟩;obtain⟨l,hl⟩:∃ l,l=(brun m 0 ⟨wh (widQ Q bq),[],pr (rsc (widQ Q bq)) n⟩ 1).2:=⟨_,rfl⟩;have hbr:brun m 0 ⟨wh (widQ Q bq),[],pr (rsc (widQ Q bq)) n⟩ 1=(S,l):=by rw[hS,hl]
 have hmle:m≤97:=by
  rcases Nat.eq_zero_or_pos n with h1 | h1
  ·rw[hm2 h1];omega
  ·rw[hm1 h1];omega
 obtain⟨e1,e2,e3,e4,e5,e6,e7⟩:=el_all hb1 hb2 hm2 hb3 hbr;have hE:=Lib.hid (fun W (Mw:List Ro) (A':Option Addr) (hM:Mr W A' n n Mw) (hkw:∀ r∈Mw,r.n=k+1) (hqw:qM Mw=widQ Q bq) (kaw:∀ r∈Mw,∀ x∈r.L,Rk x.b x.n x.x x.m x.y x.q)=>by
  have hkw2:∀ r∈Mw,r.n=m:=fun r hr=>by
   have h1:0<Mw.length:=List.length_pos_of_mem hr;rw[hM.len] at h1;rw[hkw r hr,hm1 h1]
  have hc1:colM Mw=m:=by
   match Mw,hM.len with
   | [],h1=>simp at h1;rw[hm2 h1.symm];rfl
   | r::_,_=>exact hkw2 r List.mem_cons_self
  have hsw:∀ r∈Mw,∀ x∈r.L,S2 a d x.q:=fun r hr' x hx=>hb3 (r.L.map (·.q)) (by rw[←hqw];exact List.mem_map_of_mem hr') x.q (List.mem_map_of_mem hx)
  have h1:=elim_any Mw A' n n m W hM hkw2 hc1 kaw a d hsw (by omega) (by omega) hz.s1 hz.s2 hz.s3
  rw[hqw,←hS,←hl] at h1;exact h1)
 have hR:=Lib.hid (fun W gE gR K P pc A1 n1 c1 D1 m1 d1 (hW:Env W gE gR n m K P pc S.p l A1 n1 c1 D1 m1 d1) (hK:qM K=S.M)=>by
  have h1:=redcol_any (c:=k) hW e4 e3 (fun hp=>by rw[hm1 (by omega)];omega) (by omega) (by omega) (by rw[hK];exact e1) e2 hz.s2 (hT.mono e4)
  rw[hK] at h1;exact h1)
 have hCt:=Lib.hid (fun W P pc (hW:Ir W P S.p.length pc S.p)=>contains_any S.p P S.p.length pc k W hW (by omega))
 have htm:=(elim_red hb1 hb2 hbr).2.2.2;have hsl:k∉S.p→slt k (fun i=>el (red m (widQ Q bq)).M i k) S.p S.p.length=slt k (fun i=>tmf S.M S.p l k S.p.length i / l) S.p S.p.length:=fun hk=>slt_congr fun i hi=>htm k (by rw[hm1 (by omega)];omega) hk i hi
 rw[←e6];have hpk:k∉S.p→∀ x∈S.p,x<k:=fun hk x hx=>by
  have h1:=e3 x hx;have h2:0<S.p.length:=List.length_pos_of_mem hx;rw[hm1 (by omega)] at h1
  have h3:x≠k:=fun e=>hk (e ▸ hx)
  omega
 have hrow:Hid (∀ W A',Mr W A' n c M→∀ r∈M,r.L.length=k):=Lib.hid fun W A' h' r hr'=>by rw[(h'.rd r hr').len];exact hk r hr'
 have hmr:=make_row n (by omega)
 have hmk:=make_rat k (by omega)
 have hkk2:=Lib.hid hk;have hk1:Hid (∀ r∈M,1≤r.n):=Lib.hid fun r hr=>(wf_row hw hr).1
 have ka:=Lib.hid ka;have kb:=Lib.hid kb;have hn9:=hn96;have hk9:k≤96:=hk96;have hp9:S.p.length≤96:=by omega
 obtain⟨ff,hff⟩:∃ f:Nat→Rat,f=fun i=>tmf S.M S.p l k S.p.length i / l:=⟨_,rfl⟩
 rw[show slt k (fun i=>tmf S.M S.p l k S.p.length i / l) S.p S.p.length=slt k ff S.p S.p.length by rw[hff]] at hsl
 replace hff:=Lib.hid hff;have hbq1:Hid (∀ (i:Nat) (x:Rt),Lb[i]?=some x→bq[i]?=some x.q):=Lib.hid fun i x hi=>by rw[hbq,List.getElem?_map,hi];rfl
 have hbx:=Lib.hid hbql;replace h:=Lib.hid h;replace hF:=Lib.hid hF;replace hbl:=Lib.hid hbl;replace hsl:=Lib.hid hsl;replace hpk:=Lib.hid hpk;replace hb1:=Lib.hid hb1;replace e6:=Lib.hid e6;clear hm hn hw hs hsb hb2 hb3 e1 e2 e3 e4 e5 e7 hbr hr hq h0 hk96 hQ hz hT hn96 hS hl hkk hk hbq htm hm1 hm2 hmle hQs hm_ hbql;go_enter Tryz.func30,Tryz.ntmps30
 go_wp2_with fail
 refine (hF.out _ h.out).mono ?_
 rintro e w1 ⟨rfl,bb⟩;have bw:=Lib.hid bb;clear hF bb
 go_wp2_with fail
 refine (hC.out _ (h.out.bel bw.out)).mono ?_
 rintro e w2 ⟨rfl,bb⟩;replace bw:=Lib.hid (bw.out.trans (bb.mono bw.out.size));clear hC bb;have S0:=Lib.hid (Wm.start (m:=k+1) (((St.new w).call bw.out).allocAt w2.heap.size (csR (List.replicate n Ro0)).toArray 23 (NoLl.rows _).arr rfl));go_upto_region 5 with fail
 obtain⟨gW,hgW⟩:∃ g,g=w2.heap.size:=⟨_,rfl⟩;rw[←hgW] at S0;rw[←hgW];clear hgW hmr bw;go_wp2
 go_loopw [31] (fun iv wr=>∃ i:Nat,i≤n∧iv=.int .i64 i∧∃ (B:List Nat) (R:List (List Rt)),B.length=i∧Wm w wr gW n B (k+1) R []∧(∀ (j:Nat) (L:List Rt),R[j]?=some L→∃ r x,M[j]?=some r∧Lb[j]?=some x∧L=r.L++[x])) (fun iv _=>n-(intOf iv).toNat)
 case atStart=>exact⟨0,Nat.zero_le _,rfl,[],[],rfl,S0.out,fun j L hL=>(by cases hL)⟩
 case round=>
  clear S0;obtain⟨i,hin,rfl,B,R,hB,T,hRj⟩:=hrel;rename World=>V0
  by_cases hlt:i<n
  ·have g4:(i:Int)<(n:Int):=by omega
   have g5:(0:Int)≤(i:Int):=by omega
   have hih:=Lib.hid hlt;have hM:=h.out.bel T.bel;obtain⟨b,o,r,rfl,hr,hrm,e0⟩:=hM.get hlt;have hrn:=hkk2.out r hrm;have hrow2:=hM.rd r hrm;rw[hrn] at e0 hrow2;have hbV:=hbl.out.bel T.bel;obtain⟨bB,oB,y,rfl,hy,hym,_,_,_⟩:=hbV.get hlt;have hcb:=hbV.cap;have hb1_:=hbV.one hy;have hkp:0<k:=by have:=hk1.out r hrm;omega
   have hbr_:=Lib.hid (⟨hr,hrm⟩:M[i]?=some r∧r∈M);have hyh:=Lib.hid hy;have hJ:=Lib.hid (joined_any r.L [y] r.A (some ⟨bB,oB+i*3,none⟩) k 1 r.c (cb-i) V0 hrow2 hb1_ hkp (by omega) (by omega) (by omega))
   have hJx:Hid (∀ W,Below V0.heap.size V0 W→∀ x∈r.L++[y],x.raw W):=Lib.hid fun W hW x hx=>by
    rcases List.mem_append.1 hx with hx | hx
    ·exact (hrow2.rd x hx).bel hW
    ·exact (hb1_.rd x hx).bel hW
   have hRl:=Lib.hid (T.len.trans hB);replace T:=Lib.hid T;replace hB:=Lib.hid hB;replace hRj:=Lib.hid hRj;have g6:(i:Int)<(cb:Int):=by omega
   have g7:(i:Int)+1≤(cb:Int):=by omega
   have g8:i<cb:=by omega
   clear hlt hin hM hr hrm hrn hrow2 hbV hy hym hb1_ hkp
   go_wp2_with fail
   refine hJ.out.mono ?_
   rintro e w4 ⟨gJ,rfl,hg,hcbj,hlj,bb⟩;have T1:=T.out.own bb hg hcbj (NoLl.csE _).arr;have hBn:B.length<n:=by rw[hB.out];exact hih.out
   obtain⟨nl,fn⟩:=T1.nil hBn;rw[hB.out] at nl;have fn:=fn i;have T2:=Lib.hid (T1.row hBn hlj (hJx.out _ bb));rw[hB.out] at T2;have hi1:=hih.out;clear T T1 hBn hg hcbj hlj hJ hJx bb e0;go_wp2
   go_roundw
   case rel=>
    refine⟨i+1,by omega,by go_num,B++[gJ],R++[r.L++[y]],by rw[List.length_append,hB.out];rfl,T2.out,fun j L hL=>?_⟩
    by_cases hj:j<R.length
    ·rw[List.getElem?_append_left hj] at hL
     exact hRj.out j L hL
    ·rw[List.getElem?_append_right (by omega)] at hL
     have hj1:j=i:=by
      have:=(List.getElem?_eq_some_iff.1 hL).1
      simp at this
      have:=hRl.out
      omega
     subst hj1;rw[hRl.out,Nat.sub_self] at hL;obtain rfl:=Option.some.inj hL;exact⟨r,y,hbr_.out.1,hyh.out,rfl⟩
   case measure=>simp[intOf];omega
  ·obtain rfl:n=i:=by omega
   obtain⟨hM1,hM2,hM3⟩:=T.mat hB;have hRl:=T.len.trans hB;have hMw:qM (KR (k+1) B R)=widQ Q bq:=by
    rw[hM3]
    apply List.ext_getElem?
    intro j;rw[List.getElem?_map]
    have hl2:=hb1.out
    by_cases hj:j<n
    ·have hLj:R[j]?=some R[j]:=List.getElem?_eq_getElem (by omega)
     obtain⟨r,x,hr,hx,hL⟩:=hRj j _ hLj;rw[hLj,wid_at (hQ1.out j r hr) (hbq1.out j x hx),hL]
     show some ((r.L++[x]).map (·.q))=_
     rw[List.map_append];rfl
    ·rw[List.getElem?_eq_none (by omega),List.getElem?_eq_none (by omega)];rfl
   have hMk:∀ r∈KR (k+1) B R,∀ x∈r.L,Rk x.b x.n x.x x.m x.y x.q:=fun r hr x hx=>by
    obtain⟨j,hj⟩:=List.getElem?_of_mem hr
    obtain⟨b,L,hb,hL,rfl⟩:=KR_of hj;obtain⟨r',y,hr',hy,rfl⟩:=hRj j L hL
    rcases List.mem_append.1 hx with hx | hx
    ·exact ka.out r' (List.mem_of_getElem? hr') x hx
    ·rw[List.mem_singleton.1 hx]
     exact kb.out y (List.mem_of_getElem? hy)
   have hEx:=Lib.hid (hE.out V0 (KR (k+1) B R) (some ⟨gW,0,none⟩) hM1 hM2 hMw hMk);have bw:=Lib.hid T.bel;clear T hRj hM1 hM2 hM3 hRl hMw hMk hlt hin hE hkk2 hrow ka kb hQ1 h hbl hbq1 hb1
   go_wp2_with fail
   refine hEx.out.mono ?_
   rintro e w3 ⟨gR,K,P,pc,A1,n1,c1,D1,m1,d1,A2,n2,c2,D2,m2,d2,rfl,hm2,hk2,hq2,hi2,x1,x2,b2⟩;unfold ecE;go_upto_region 11 with fail
   obtain⟨gF,hgF⟩:∃ g,g=w3.heap.size:=⟨_,rfl⟩;obtain⟨V,hV⟩:∃ W,W=w3.alloc (.cells #[.slice (some ⟨gR,0,none⟩) n n,.slice P S.p.length pc,.bool (ng l.num),.slice A1 n1 c1,.slice D1 m1 d1,.bool (ng S.f.num),.slice A2 n2 c2,.slice D2 m2 d2] 64):=⟨_,rfl⟩;have B2:Below w3.heap.size w3 V:=by rw[hV];exact (Below.refl _ _).alloc (Nat.le_refl _) _
   have hcb:Cb V gF (ecE gR n P S.p.length pc l A1 n1 c1 D1 m1 d1 S.f A2 n2 c2 D2 m2 d2) 64:=by rw[hV,hgF];exact Cb.new _ _ _
   have hEV:=Lib.hid (ec_env hcb (hm2.bel B2) hk2 (hi2.bel B2) (x1.below B2));replace bw:=Lib.hid (bw.out.trans ((b2.trans (B2.mono b2.size)).mono bw.out.size));rw[←hgF,←hV];have hq2h:=Lib.hid hq2;have hCx:=hCt.out V P pc hEV.out.ir;have u1:V.cell? ⟨gF,1,none⟩=some (.slice P S.p.length pc):=hEV.out.e1;obtain⟨v,hv⟩:∃ v,v=decide (k∈S.p):=⟨_,rfl⟩;rw[←hv] at hCx;replace hCx:=Lib.hid hCx;replace hv:=Lib.hid hv
   clear hV hgF hm2 hi2 x1 x2 b2 B2 hcb hEx hB hCt hq2
   go_wp2_with fail
   refine hCx.out.mono ?_
   rintro e V1 ⟨rfl,bb⟩;replace bw:=Lib.hid (bw.out.trans (bb.mono bw.out.size));replace hEV:=Lib.hid (hEV.out.bel bb);clear bb hCx u1
   cases v
   ·have hkn:Hid (k∉S.p):=Lib.hid (of_decide_eq_false hv.out.symm)
    replace hsl:=Lib.hid (hsl.out hkn.out);replace hpk:=Lib.hid (hpk.out hkn.out);have SE:=Lib.hid (((St.new V1).allocAt V1.heap.size (csE (List.replicate k Zt)).toArray 45 (NoLl.csE _).arr rfl).read (show Rd _ none 0 0 [] from Rd.nil_ _ _ _))
    clear hv;go_upto_region 14 with fail
    obtain⟨gN,hgN⟩:∃ g,g=V1.heap.size:=⟨_,rfl⟩;obtain⟨V2,hV2⟩:∃ W,W=V1.alloc (.cells (csE (List.replicate k Zt)).toArray 45):=⟨_,rfl⟩;rw[←hgN,←hV2] at SE ⊢;clear hgN hV2;have hRx:=Lib.hid (hR.out V2 gF gR K P pc A1 n1 c1 D1 m1 d1 (hEV.out.bel SE.out.bel) hq2h.out);clear hR
    go_wp2_with fail
    refine hRx.out.mono ?_
    rintro e V3 ⟨gC,L,rfl,⟨hg,hcb⟩,hL,hx,hLq,bb⟩;have SL:=Lib.hid ((St_rds (St_own SE.out bb hg hcb (NoLl.csE _).arr) (fun x h=>(hx x h).2)).swap)
    have hxc:Hid (∀ x∈L,x.can):=Lib.hid fun x h=>(hx x h).1
    replace hL:=Lib.hid hL;replace hLq:=Lib.hid hLq;clear SE hg hcb hx bb hRx;go_wp2
    go_loopw [58] (fun iv wr=>∃ (i:Nat) (E:List Rt) (rs':List Rdg),i≤S.p.length∧iv=.int .i64 i∧St V1 wr [(gN,(csE E).toArray,45),(gC,(csE L).toArray,45)] rs'∧E.length=k∧(∀ x∈E,x.can∧x.rdIn rs')∧E.map (·.q)=slt k ff S.p i∧∀ z∈rdsOf L++[(none,0,0,[])],z∈rs') (fun iv _=>S.p.length-(intOf iv).toNat)
    case atStart=>exact⟨0,List.replicate k Zt,_,Nat.zero_le _,rfl,SL.out,List.length_replicate,fun x hx=>(by obtain rfl:=(List.mem_replicate.1 hx).2;exact⟨Zt_can,List.mem_append_right _ List.mem_cons_self,List.mem_append_right _ List.mem_cons_self⟩),by rw[List.map_replicate];rfl,fun z hz=>hz⟩
    case round=>
     clear SL;obtain⟨i,E,rs',hip,rfl,T,hEl,hEc,hEq,hrs'⟩:=hrel;rename World=>V8
     by_cases hli:i<S.p.length
     ·have g6:(i:Int)<(S.p.length:Int):=by omega
      have g7:(0:Int)≤(i:Int):=by omega
      obtain⟨bP,oP,pk,hPA,hp1,pc0⟩:=(hEV.out.bel T.bel).ir.get hli;subst hPA;have hpkk:pk<k:=hpk.out pk (List.mem_of_getElem? hp1);have hpg:Hid (S.p.getD i 0=pk):=Lib.hid (by rw[List.getD_eq_getElem?_getD,hp1];rfl)
      have g8:(pk:Int)<(k:Int):=by omega
      have g9:(0:Int)≤(pk:Int):=by omega
      obtain⟨x,hLi⟩:∃ y,L[i]?=some y:=⟨L[i]'(by rw[hL.out];exact hli),List.getElem?_eq_getElem _⟩
      have xm:=List.mem_of_getElem? hLi;have xq:Hid (x.q=ff i):=Lib.hid (by
       have h1:=el_at hLq.out hLi;rw[←h1,List.getD_eq_getElem?_getD,List.getElem?_map,List.getElem?_range hli,hff.out];rfl)
      have xin:=rdsOf_in (rs:=[(none,0,0,[])]) xm;have xrd:Hid (x.rdIn rs'):=Lib.hid ⟨hrs' _ xin.1,hrs' _ xin.2⟩;obtain⟨⟨x0,x1,x2⟩,_⟩:=St_lcl T.swap hLi;obtain⟨y,hEk⟩:∃ y,E[pk]?=some y:=⟨E[pk]'(by rw[hEl];exact hpkk),List.getElem?_eq_getElem _⟩
      have xc:=Lib.hid (hxc.out x xm);have e1h:V8.cell? ⟨gF,1,none⟩=some (.slice (some ⟨bP,oP,none⟩) S.p.length pc):=(hEV.out.bel T.bel).e1;have hih:=Lib.hid hli;replace e1h:=Lib.hid e1h;replace pc0:=Lib.hid pc0;replace T:=Lib.hid T;replace hEl:=Lib.hid hEl;replace hEc:=Lib.hid hEc;replace hEq:=Lib.hid hEq;replace hEk:=Lib.hid hEk;replace hrs':=Lib.hid hrs';clear hli hip hp1 hpkk hLi xm xin;go_upto_region 17 with fail
      obtain⟨gX,hgX⟩:∃ g,g=V8.heap.size:=⟨_,rfl⟩;obtain⟨V9,hV9⟩:∃ W,W=V8.alloc (.cells #[.bool x.b,.slice x.A x.n x.c,.slice x.D x.m x.d] 45):=⟨_,rfl⟩;have B9:Below V8.heap.size V8 V9:=by rw[hV9];exact (Below.refl _ _).alloc (Nat.le_refl _) _
      have hCX:Cb V9 gX #[.bool x.b,.slice x.A x.n x.c,.slice x.D x.m x.d] 45:=by rw[hV9,hgX];exact Cb.new _ _ _
      rw[←hV9,←hgX];have c0_:=Lib.hid (hCX.cell (i:=0) rfl);have c1_:=Lib.hid (hCX.cell (i:=1) rfl);have c2_:=Lib.hid (hCX.cell (i:=2) rfl);replace e1h:=Lib.hid (bel_cell B9 e1h.out);replace pc0:=Lib.hid (bel_cell B9 pc0.out);replace T:=Lib.hid (T.out.call B9);clear hV9 hgX hCX B9 x0 x1 x2;refine Wl.start (fun W=>Below V9.heap.size V9 W) [8] rfl ?_
      have hS:Below V9.heap.size V9 V9.drew:=(Below.refl _ _).drew;refine Wl.t (i:=0) (v:=.slice (some ⟨gN,0,none⟩) k k) (some 63) at0 (hy:=fun _ _=>by kernel_rfl) (hS:=hS) (h:=?_)
      refine Wl.t (i:=1) (v:=.pointer (some ⟨gF,1,none⟩)) (some 64) at1 (hy:=fun _ _=>by go_simp) (hS:=hS) (h:=?_)
      refine Wl.t (i:=2) (v:=.slice (some ⟨bP,oP,none⟩) S.p.length pc) (some 65) at2 (hy:=fun W hS=>by (have k0:=bel_cell hS e1h.out;clear hS;go_simp)) (hS:=hS) (h:=?_)
      refine Wl.t (i:=3) (v:=.int .i64 i) (some 66) at3 (hy:=fun _ _=>by kernel_rfl) (hS:=hS) (h:=?_)
      refine Wl.t (i:=4) (v:=.pointer (some ⟨bP,oP+i,none⟩)) (some 67) at4 (hy:=fun _ _=>by go_simp) (hS:=hS) (h:=?_)
      refine Wl.t (i:=5) (v:=.int .i64 pk) (some 68) at5 (hy:=fun W hS=>by (have k0:=bel_cell hS pc0.out;clear hS;go_simp)) (hS:=hS) (h:=?_)
      refine Wl.t (i:=6) (v:=.agg #[.bool x.b,.slice x.A x.n x.c,.slice x.D x.m x.d]) (some 69) at6 (hy:=fun W hS=>by (have k0:=bel_cell hS c0_.out;have k1:=bel_cell hS c1_.out;have k2:=bel_cell hS c2_.out;clear hS;go_simp)) (hS:=hS) (h:=?_)
      refine Wl.t (i:=7) (v:=.pointer (some ⟨gN,pk*3,none⟩)) (some 70) at7 (hy:=fun _ _=>by go_simp) (hS:=hS) (h:=?_)
      obtain⟨Va,hVa⟩:∃ W,W=V9.drew:=⟨_,rfl⟩;rw[←hVa] at hS ⊢;clear hVa;have S3:=T.out.call hS;obtain⟨⟨k0,k1,k2⟩,f0⟩:=St_lcl S3 hEk.out;have f2:=f0 (pk*3);have f3:=f0 (pk*3+1);have f4:=f0 (pk*3+2);obtain⟨Vb,hVb,T⟩:∃ W,W=((Va.setCell ⟨gN,pk*3,none⟩ (.bool x.b)).setCell ⟨gN,pk*3+1,none⟩ (.slice x.A x.n x.c)).setCell ⟨gN,pk*3+2,none⟩ (.slice x.D x.m x.d)∧Hid (St V1 W [(gN,(csE (E.set pk x)).toArray,45),(gC,(csE L).toArray,45)] rs'):=⟨_,rfl,Lib.hid (St_lset S3 pk x)⟩
      clear f0
      try simp only[Act.put,sZ0,sZ1,sZ2]
      refine Wl.s (i:=8) at8 (by kernel_rfl) (by kernel_rfl) (by kernel_rfl) fun K' hK=>?_
      go_simp
      rw[←hVb];refine hK.out _ _ ?_
      clear hK K' k0 k1 k2 f2 f3 f4 hVb S3 hS;refine Wl.done (by kernel_rfl) ?_
      clear e1h pc0 c0_ c1_ c2_ hEk;have hp1:=hih.out;go_wp2
      go_roundw
      case rel=>exact⟨i+1,E.set pk x,rs',by omega,by go_num,T.out,by rw[List.length_set];exact hEl.out,fun z hz=>(by rcases List.mem_or_eq_of_mem_set hz with hz | rfl;exact hEc.out z hz;exact⟨xc.out,xrd.out⟩),by rw[List.map_set,hEq.out];show _=(slt k ff S.p i).set (S.p.getD i 0) (ff i);rw[hpg.out,←xq.out],hrs'.out⟩
      case measure=>simp[intOf];omega
     ·have hpi:i=S.p.length:=by omega
      have hqf:Hid (E.map (·.q)=slt k ff S.p S.p.length):=Lib.hid (by rw[hEq,hpi])
      have hSr:=Lib.hid (St_srm T List.mem_cons_self hEl (fun x hx=>(hEc x hx).2))
      have hcn:=Lib.hid (fun x hx=>(hEc x hx).1)
      replace bw:=Lib.hid (bw.out.trans (T.bel.mono bw.out.size));have g6:¬ ((i:Int)<(S.p.length:Int)):=by omega
      clear T hEc hEq hEl hrs' hip hli hpi;go_wp2
      go_ret2
      exact .inl ⟨hkn.out,_,k,k,E,rfl,hSr.out,hcn.out,by rw[hsl.out];exact hqf.out,by omega,bw.out⟩
   ·have hkn:Hid (k∈S.p):=Lib.hid (of_decide_eq_true hv.out.symm)
    clear hv hsl hpk hR hEV;go_wp2
    go_ret2
    exact .inr ⟨hkn.out,none,0,0,[],rfl,Sr.none_ _ _ _,fun r hr=>(by cases hr),rfl,by omega,bw.out⟩
end Go.Proofs.YtfnkpfbobdmieaaGreat
