/- slices of rows that are made. -/
import Derived.Test.YthlinhconnmbcaaGreatB19
set_option maxRecDepth 100000
set_option maxHeartbeats 40000000
set_option linter.unusedVariables false
namespace Go.Proofs.YthlinhconnmbcaaGreat
open Go.RowKit RQ
def Ro0:Ro:=⟨none,0,0,[]⟩
theorem made1 (v:Value) (n:Nat):madeCells #[v] (n*1)=(List.replicate n v).toArray:=by
 apply Array.ext'
 apply List.ext_getElem?
 intro j
 rcases Nat.lt_or_ge j n with hj | hj
 ·have hl:(madeCells #[v] (n*1)).toList[j]?=some (#[v][j%1]!):=by
   unfold madeCells
   simp[hj]
  rw[hl,List.toList_toArray,List.getElem?_replicate,if_pos hj,Nat.mod_one]
  rfl
 ·rw[List.getElem?_eq_none (by simpa [size_madeCells] using hj),List.getElem?_eq_none (by simpa using hj)]
def csR (K:List Ro):List Value:=K.map Ro.v
theorem make_row (n:Nat) (hn:n≤1000000) (w:World) :
  (Instr.makeSlice 23 (.int .i64 (n:Int)) (.int .i64 (n:Int))).run Tryz.prog w=.ok (.slice (some ⟨w.heap.size,0,none⟩) n n) (w.alloc (.cells (csR (List.replicate n Ro0)).toArray 46)):=by
 obtain⟨i0,hi,hzz⟩:=Option.map_eq_some_iff.1 infoRow;simp only[Prod.mk.injEq] at hzz;obtain⟨hz0,hz1,hz2⟩:=hzz;have hr:=run_make (P:=Tryz.prog) w 23 46 i0 _ Tryz.underlying23 hi hz0 .i64 .i64 n n (by omega) (Int.le_refl _) (by rw[hz2];omega) (by omega)
 simp only[Int.toNat_natCast,hz1] at hr;have e:madeCells (Value.cells (.slice none 0 0)) (n*1)=(csR (List.replicate n Ro0)).toArray:=by
  unfold csR;rw[List.map_replicate];exact made1 (.slice none 0 0) n
 rw[hr,←e]
theorem NoLl.rows (K:List Ro):NoLl (csR K):=by
 intro v hv z e;obtain⟨r,_,hr⟩:=List.mem_map.1 hv;subst e
 simp[Ro.v] at hr
section
variable {w W:World} {bs:List Bk} {rs:List Rdg} {K:List Ro} {g t:Nat}
theorem St_rcl (h:St w W ((g,(csR K).toArray,t)::bs) rs) {j:Nat} {r:Ro} (hj:K[j]?=some r):W.cell? ⟨g,j,none⟩=some (.slice r.A r.n r.c)∧∀ k,W.frozen? ⟨g,k,none⟩=false:=by
 have hb:=h.cb 0 rfl;refine⟨hb.cell ?_,fun k=>hb.frozen k⟩
 unfold csR;rw[List.getElem?_toArray,List.getElem?_map,hj];rfl
theorem St_rset (h:St w W ((g,(csR K).toArray,t)::bs) rs) (j:Nat) (r:Ro):St w (W.setCell ⟨g,j,none⟩ (.slice r.A r.n r.c)) ((g,(csR (K.set j r)).toArray,t)::bs) rs:=by
 have:=h.set 0 j (.slice r.A r.n r.c) rfl (by nofun)
 unfold csR;rw[List.map_set,←List.setIfInBounds_toArray];exact this
theorem St_mat (h:St w W ((g,(csR K).toArray,t)::bs) rs) (hr:∀ r∈K,r.In bs rs) {k:Nat} (hk:K.length=k):Mr W (some ⟨g,0,none⟩) k k K:=by
 refine⟨hk,Nat.le_refl _,.inr ⟨g,0,rfl,(h.cb 0 rfl).lt,fun i r hi=>?_⟩,fun r hr'=>(hr r hr').sr h.sub⟩
 rw[Nat.zero_add];exact (St_rcl h hi).1
end
theorem Sr.get' {W:World} {A:Option Addr} {n c:Nat} {L:List Rt} (h:Sr W A n c L) {i:Nat} (hi:i<n):∃ b o r,A=some ⟨b,o,none⟩∧b<W.heap.size∧L[i]?=some r∧r∈L∧W.cell? ⟨b,o+i*3,none⟩=some (.bool r.b)∧W.cell? ⟨b,o+i*3+1,none⟩=some (.slice r.A r.n r.c)∧W.cell? ⟨b,o+i*3+2,none⟩=some (.slice r.D r.m r.d):=by
 have hl:=h.len
 rcases h.mem with h0 | ⟨b,o,hA,hb,hc⟩
 ·omega
 ·have e:L[i]?=some L[i]:=List.getElem?_eq_getElem (by omega)
  exact⟨b,o,L[i],hA,hb,e,List.getElem_mem _,hc i _ e⟩
end Go.Proofs.YthlinhconnmbcaaGreat
namespace Go.Proofs.YthlinhconnmbcaaGreat
open Go.RowKit RQ
theorem mtrans_yes (M:List Ro) (A:Option Addr) (n c:Nat) (w:World) (h:Mr w A n c M) (hm:∀ r∈M,r.n≤9223372036854775807) (hn:n≤9223372036854775807) (lm:ltM M) (hwf:wfM M=true):Calls Tryz.prog 10 #[.slice A n c] w (RetME (tQ M) w):=by
 have hF:=fun W h'=>wf_any M A n c W h' hm hn
 rw[hwf] at hF;have hC:=Lib.hid (fun W h'=>cols_any M A n c W h')
 replace hF:=Lib.hid hF;have hlen:=Lib.hid h.len;have hb:=Lib.hid (show n≤96 by rw[←hlen.out];exact wf_len hwf)
 have hrw:=Lib.hid (fun r (hr:r∈M)=>wf_row hwf hr)
 have hcb:=Lib.hid (show colM M≤96 by
  cases hM:M with
  | nil=>show 0≤96;omega
  | cons r l=>have:=(wf_row hwf (r:=r) (by rw[hM];exact List.mem_cons_self));rw[←hM];omega)
 have hCp:Hid (∀ r∈M,∀ x∈r.L,∀ W,x.raw W→Calls Tryz.prog 39 #[.agg #[.bool x.b,.slice x.A x.n x.c,.slice x.D x.m x.d]] W (RetR x.q W)):=Lib.hid fun r hr x hx W hX=>mcopy_any _ _ _ _ _ _ _ _ _ _ W (hX.at_ (lm r hr x hx).1)
 have hR:Hid (∀ r∈M,∀ x∈r.L,Rs x.q 9000000):=Lib.hid fun r hr x hx=>(lm r hr x hx).2.mono (by decide)
 replace h:=Lib.hid h;clear hm hn lm hwf;obtain⟨k,hk⟩:∃ z,z=colM M:=⟨_,rfl⟩;rw[←hk] at hC hcb hrw;replace hk:=Lib.hid hk;have hmk1:=make_row k (by have:=hcb.out;omega)
 have hmk2:=make_rat n (by have:=hb.out;omega)
 go_enter Tryz.func10,Tryz.ntmps10
 go_wp2_with fail
 refine (hF.out _ h.out).mono ?_
 rintro e w1 ⟨rfl,bb⟩;replace bb:=Lib.hid bb
 go_wp2_with fail
 refine (hC.out _ (h.out.bel bb.out)).mono ?_
 rintro e w2 ⟨rfl,bb2⟩;have T:=Lib.hid ((((St.new w).call (bb.out.trans (bb2.mono bb.out.size))).allocAt w2.heap.size (csR (List.replicate k Ro0)).toArray 46 (NoLl.rows _).arr rfl).read (show Rd _ none 0 0 [] from Rd.nil_ _ _ _))
 clear bb bb2 hC hF;go_wp2
 go_loopw [16] (fun jv wr=>∃ (j:Nat) (K:List Ro) (bs:List Bk) (rs:List Rdg),j≤k∧jv=.int .i64 j∧K.length=k∧St w wr ((w2.heap.size,(csR K).toArray,46)::bs) rs∧(none,0,0,[])∈rs∧(∀ r∈K,r.In bs rs)∧canM K∧(∀ i,i<j→(K[i]?).map (fun r=>r.L.map (·.q))=some (colQ M i))) (fun jv _=>k-(intOf jv).toNat)
 case atStart=>exact⟨0,List.replicate k Ro0,[],_,Nat.zero_le _,rfl,List.length_replicate,T.out,List.mem_cons_self,fun r hr=>(by obtain rfl:=(List.mem_replicate.1 hr).2;exact⟨rfl,.inl ⟨rfl,rfl,rfl⟩,fun x hx=>by cases hx⟩),fun r hr=>(by obtain rfl:=(List.mem_replicate.1 hr).2;exact⟨Nat.zero_le _,fun x hx=>by cases hx⟩),fun i hi=>absurd hi (Nat.not_lt_zero _)⟩
 case round=>
  clear T;obtain⟨j,K,bs,rs,hjk,rfl,hKl,S,hz0,hIn,hcan,hq⟩:=hrel
  by_cases hlt:j<k
  ·have hjh:=Lib.hid hlt
   have g1:(j:Int)<(k:Int):=by omega
   have g2:(0:Int)≤(j:Int):=by omega
   have hKj:K[j]?=some K[j]:=List.getElem?_eq_getElem (by omega)
   obtain⟨kj,hkj⟩:∃ z,z=K[j]:=⟨_,rfl⟩;rw[←hkj] at hKj;obtain⟨q0,qf⟩:=St_rcl S hKj;have hgT:=S.lt 0 rfl;have T:=Lib.hid ((St_rset S j ⟨some ⟨wr.heap.size,0,none⟩,n,n,[]⟩).allocAt wr.heap.size (csE (List.replicate n Zt)).toArray 33 (NoLl.csE _).arr (by simp))
   obtain⟨gr,hgr⟩:∃ g,g=wr.heap.size:=⟨_,rfl⟩;replace hgr:=Lib.hid hgr;have hTj:(csR (K.set j ⟨some ⟨gr,0,none⟩,n,n,[]⟩)).toArray[j]?=some (.slice (some ⟨gr,0,none⟩) n n):=by
    unfold csR;rw[List.getElem?_toArray,List.getElem?_map,List.getElem?_set_self (by omega)];rfl
   replace hTj:=Lib.hid hTj;replace hz0:=Lib.hid hz0;replace hIn:=Lib.hid hIn;replace hcan:=Lib.hid hcan;replace hq:=Lib.hid hq;replace hKl:=Lib.hid hKl;clear hlt hjk hKj hkj S;go_wp2;clear q0 qf hgT
   go_loopw [27] (fun iv wr=>∃ (i:Nat) (L:List Rt) (rs':List Rdg),i≤n∧iv=.int .i64 i∧L.length=n∧St w wr ((gr,(csE L).toArray,33)::(w2.heap.size,(csR (K.set j ⟨some ⟨gr,0,none⟩,n,n,[]⟩)).toArray,46)::bs) rs'∧(∀ x∈L,x.can∧x.rdIn rs')∧(∀ p∈rs,p∈rs')∧(∀ m,m<i→(L[m]?).map (·.q)=(colQ M j)[m]?)) (fun iv _=>n-(intOf iv).toNat)
   case atStart=>exact⟨0,List.replicate n Zt,rs,Nat.zero_le _,rfl,List.length_replicate,by have e:=hgr.out;subst e;exact T.out,fun x hx=>(by obtain rfl:=(List.mem_replicate.1 hx).2;exact⟨Zt_can,hz0.out,hz0.out⟩),fun _ h=>h,fun m hm=>absurd hm (Nat.not_lt_zero _)⟩
   case round=>
    clear T;obtain⟨i,L,rs',hin,rfl,hL,S,hcn,hsub,hqL⟩:=hrel
    by_cases hli:i<n
    ·obtain⟨b,o,r,rfl,hr,hrm,e0⟩:=(h.out.bel S.bel).get hli
     obtain⟨_,_,k3⟩:=hrw.out r hrm;obtain⟨b',o',x,hA,hbx,hx,hxm,e1,e2,e3⟩:=(h.out.rd r hrm).get' (i:=j) (by rw[k3];exact hjh.out)
     rw[hA] at e0;have hX:=Lib.hid ((h.out.rd r hrm).rd x hxm);have hCx:=Lib.hid (hCp.out r hrm x hxm);have hRx:=Lib.hid (hR.out r hrm x hxm);have hqi:=Lib.hid (show some x.q=(colQ M j)[i]? by unfold colQ;rw[List.getElem?_map,hr];exact congrArg some (getD_get hx).symm)
     obtain⟨q,hqx⟩:∃ z,z=x.q:=⟨_,rfl⟩;rw[←hqx] at hCx hRx hqi;have hih:=Lib.hid hli;have g3:(i:Int)<(n:Int):=by omega
     have g4:(0:Int)≤(i:Int):=by omega
     have g5:(j:Int)<(r.n:Int):=by rw[k3];have:=hjh.out;omega
     have hKj:L[i]?=some L[i]:=List.getElem?_eq_getElem (by omega)
     obtain⟨kj,hkj⟩:∃ z,z=L[i]:=⟨_,rfl⟩;rw[←hkj] at hKj;replace e1:=Lib.hid e1;replace e2:=Lib.hid e2;replace e3:=Lib.hid e3;replace hbx:=Lib.hid hbx;replace hKj:=Lib.hid hKj;replace S:=Lib.hid S;replace hcn:=Lib.hid hcn;replace hsub:=Lib.hid hsub;replace hqL:=Lib.hid hqL;replace hL:=Lib.hid hL;clear hli hin hr hrm hx hxm hA hqx k3 hkj;go_upto_region 11 with fail
     refine RW.begin (Z:=[]) (S:=(fun W=>Cb W (w2.heap.size) (csR (K.set j ⟨some ⟨gr,0,none⟩,n,n,[]⟩)).toArray 46∧W.cell? ⟨b',o'+j*3,none⟩=some (.bool x.b)∧W.cell? ⟨b',o'+j*3+1,none⟩=some (.slice x.A x.n x.c)∧W.cell? ⟨b',o'+j*3+2,none⟩=some (.slice x.D x.m x.d))) (by kernel_rfl) ?_ S.out ?_
     ·exact⟨by kernel_rfl,zis_nil,by decide,by decide,nol_nil,(fun _ _ h=>⟨h.kb 1 rfl,(World.cell?_of_block (h.bel.block b' hbx.out)).trans e1.out,(World.cell?_of_block (h.bel.block b' hbx.out)).trans e2.out,(World.cell?_of_block (h.bel.block b' hbx.out)).trans e3.out⟩)⟩
     intro hzk;clear S;refine RW.t (i:=0) (v:=.slice (some ⟨w2.heap.size,0,none⟩) k k) (some 32) at0 (hy:=fun _ _=>by kernel_rfl) (h:=?_)
     refine RW.t (i:=1) (v:=.int .i64 j) (some 33) at1 (hy:=fun _ _=>by kernel_rfl) (h:=?_)
     refine RW.t (i:=2) (v:=.pointer (some ⟨w2.heap.size,j,none⟩)) (some 34) at2 (hy:=fun _ _=>by go_simp) (h:=?_)
     refine RW.t (i:=3) (v:=.slice (some ⟨gr,0,none⟩) n n) (some 35) at3 (hy:=fun W hS=>by (have k0:=Cb.cell (i:=j) hS.1 hTj.out;clear hS;go_simp)) (h:=?_)
     refine RW.t (i:=4) (v:=.int .i64 i) (some 36) at4 (hy:=fun _ _=>by kernel_rfl) (h:=?_)
     refine RW.t (i:=5) (v:=.slice (some ⟨b',o',none⟩) r.n r.c) (some 37) at5 (hy:=fun _ _=>by kernel_rfl) (h:=?_)
     refine RW.t (i:=6) (v:=.int .i64 j) (some 38) at6 (hy:=fun _ _=>by kernel_rfl) (h:=?_)
     refine RW.t (i:=7) (v:=.pointer (some ⟨b',o'+j*3,none⟩)) (some 39) at7 (hy:=fun _ _=>by go_simp) (h:=?_)
     refine RW.t (i:=8) (v:=.agg #[.bool x.b,.slice x.A x.n x.c,.slice x.D x.m x.d]) (some 40) at8 (hy:=fun W hS=>by (have k0:=hS.2.1;have k1:=hS.2.2.1;have k2:=hS.2.2.2;clear hS;go_simp)) (h:=?_)
     refine RW.tail hzk.out (by kernel_rfl) ?_
     intro gs w21 hgs hS S;obtain rfl:=len0 hgs;clear hS hgs hzk;simp only[mark,fill,Act.put,sZ0,sZ1,sZ2];replace S:=Lib.hid S;refine Wk.o (i:=9) at9 (by kernel_rfl) fun K' hK=>?_
     refine oper_call (f:=39) (args:=#[.agg #[.bool x.b,.slice x.A x.n x.c,.slice x.D x.m x.d]]) rfl (by kernel_rfl) ((hCx.out _ ⟨hX.out.1.below S.out.bel,hX.out.2.below S.out.bel⟩).mono ?_)
     rintro e w21 ⟨A22,n22,c22,D22,m22,d22,rfl,Q22,bb2⟩;have S2:=((S.out.call bb2).read Q22.n).read Q22.d;clear S bb2 Q22;refine⟨_,rfl,hK.out _ _ ⟨S2.cb 1 rfl,((World.cell?_of_block (S2.bel.block b' hbx.out)).trans e1.out),((World.cell?_of_block (S2.bel.block b' hbx.out)).trans e2.out),((World.cell?_of_block (S2.bel.block b' hbx.out)).trans e3.out)⟩ ?_⟩
     clear hK K';replace S2:=Lib.hid S2
     try simp only[Act.put,sZ0,sZ1,sZ2]
     refine Wk.o (i:=10) at10 (by kernel_rfl) fun K' hK=>?_
     go_simp
     refine hK.out _ _ ⟨S2.out.cb 1 rfl,((World.cell?_of_block (S2.out.bel.block b' hbx.out)).trans e1.out),((World.cell?_of_block (S2.out.bel.block b' hbx.out)).trans e2.out),((World.cell?_of_block (S2.out.bel.block b' hbx.out)).trans e3.out)⟩ ?_
     clear hK K'
     try simp only[Act.put,sZ0,sZ1,sZ2]
     refine Wk.o (i:=11) at11 (by kernel_rfl) fun K' hK=>?_
     obtain⟨⟨q0,q1,q2⟩,qf⟩:=St_lcl S2.out hKj.out
     go_simp
     have S:=St_lset S2.out i (Rt.of A22 n22 c22 D22 m22 d22 q);refine hK.out _ _ ⟨S.cb 1 rfl,((World.cell?_of_block (S.bel.block b' hbx.out)).trans e1.out),((World.cell?_of_block (S.bel.block b' hbx.out)).trans e2.out),((World.cell?_of_block (S.bel.block b' hbx.out)).trans e3.out)⟩ ?_
     clear hK K' S2 q0 q1 q2 qf;replace S:=Lib.hid S
     try simp only[Act.put,sZ0,sZ1,sZ2]
     refine Wk.done (by kernel_rfl) ?_
     have hli:=hih.out;have hbb:=hb.out;go_wp2
     go_roundw
     case rel=>
      refine⟨i+1,L.set i (Rt.of A22 n22 c22 D22 m22 d22 q),_,by omega,by go_num,by rw[List.length_set];exact hL.out,S.out,fun x hx=>?_,fun p hp=>List.mem_cons_of_mem _ (List.mem_cons_of_mem _ (hsub.out p hp)),fun m hm=>?_⟩
      ·rcases List.mem_or_eq_of_mem_set hx with hx | rfl
       ·exact⟨(hcn.out x hx).1,rd_cons_ (rd_cons_ (hcn.out x hx).2)⟩
       ·exact⟨Rt.of_can _ _ _ _ _ _ hRx.out,List.mem_cons_of_mem _ List.mem_cons_self,List.mem_cons_self⟩
      ·by_cases e:i=m
       ·subst e
        rw[List.getElem?_set_self (by rw[hL.out];exact hli)]
        exact hqi.out
       ·rw[List.getElem?_set_ne e];exact hqL.out m (by omega)
     case measure=>simp[intOf];omega
    ·obtain rfl:i=n:=by omega
     have hqf:L.map (·.q)=colQ M j:=by
      apply List.ext_getElem?
      intro m
      rcases Nat.lt_or_ge m i with hm | hm
      ·rw[List.getElem?_map];exact hqL m hm
      ·rw[List.getElem?_eq_none (by rw[List.length_map];omega),List.getElem?_eq_none (by unfold colQ;rw[List.length_map,hlen.out];omega)]
     have S3:=S.swap;have hvv:csR (K.set j ⟨some ⟨gr,0,none⟩,i,i,[]⟩)=csR (K.set j ⟨some ⟨gr,0,none⟩,i,i,L⟩):=by unfold csR;rw[List.map_set,List.map_set];rfl
     rw[hvv] at S3;replace S3:=Lib.hid S3;replace hqf:=Lib.hid hqf;replace hcn:=Lib.hid hcn;replace hsub:=Lib.hid hsub;replace hL:=Lib.hid hL;clear S hqL hin hli hvv;have hjl:=hjh.out;have hcc:=hcb.out;go_wp2
     go_roundw
     case rel=>
      refine⟨j+1,K.set j ⟨some ⟨gr,0,none⟩,i,i,L⟩,(gr,(csE L).toArray,33)::bs,rs',by omega,by go_num,by rw[List.length_set];exact hKl.out,S3.out,hsub.out _ hz0.out,fun r hr=>?_,fun r hr=>?_,fun m hm=>?_⟩
      ·rcases List.mem_or_eq_of_mem_set hr with hr | rfl
       ·exact (hIn.out r hr).mono (fun p hp=>List.mem_cons_of_mem _ hp) hsub.out
       ·exact⟨hL.out,.inr ⟨_,_,rfl,Nat.le_refl _,List.mem_cons_self,by rw[List.toList_toArray,List.take_of_length_le (by rw[csE_len,hL.out];exact Nat.le_refl _)]⟩,fun x hx=>(hcn.out x hx).2⟩
      ·rcases List.mem_or_eq_of_mem_set hr with hr | rfl
       ·exact hcan.out r hr
       ·exact⟨by have:=hb.out;show i≤1000;omega,fun x hx=>(hcn.out x hx).1⟩
      ·by_cases e:j=m
       ·subst e
        rw[List.getElem?_set_self (by rw[hKl.out];exact hjl)]
        exact congrArg some hqf.out
       ·rw[List.getElem?_set_ne e];exact hq.out m (by omega)
     case measure=>simp[intOf];omega
  ·obtain rfl:j=k:=by omega
   have hfin:qM K=tQ M:=by
    apply List.ext_getElem?
    intro m
    rcases Nat.lt_or_ge m j with hm | hm
    ·unfold qM;rw[List.getElem?_map,tQ_get (by rw[←hk.out];exact hm)];exact hq m hm
    ·rw[List.getElem?_eq_none (by unfold qM;rw[List.length_map];omega),List.getElem?_eq_none (by rw[tQ_len,←hk.out];omega)]
   have M5:=Lib.hid (St_mat S hIn hKl);have hbl:=Lib.hid S.bel;replace hcan:=Lib.hid hcan;replace hfin:=Lib.hid hfin;clear S hIn hq hjk hKl hz0;go_wp2
   go_ret2
   exact⟨_,_,_,K,rfl,M5.out,hcan.out,hfin.out,hbl.out⟩
end Go.Proofs.YthlinhconnmbcaaGreat
namespace Go.Proofs.YthlinhconnmbcaaGreat
open Go.RowKit RQ
structure Ln where
 A:Option Addr
 n:Nat
 c:Nat
 r:Rt
def Ln.cs (l:Ln):List Value:=.slice l.A l.n l.c::l.r.cs
def csL (K:List Ln):List Value:=K.flatMap Ln.cs
def Ln0:Ln:=⟨none,0,0,Zt⟩
theorem csL_len (L:List Ln):(csL L).length=L.length*4:=by
 induction L with
 | nil=>rfl
 | cons r l ih=>simp only[csL,List.flatMap_cons,List.length_append,List.length_cons] at ih ⊢;rw[ih];simp[Ln.cs,Rt.cs];omega
theorem csL_get {L:List Ln} {i:Nat} {l:Ln} (h:L[i]?=some l):(csL L)[i*4]?=some (.slice l.A l.n l.c)∧(csL L)[i*4+1]?=some (.bool l.r.b)∧(csL L)[i*4+2]?=some (.slice l.r.A l.r.n l.r.c)∧(csL L)[i*4+3]?=some (.slice l.r.D l.r.m l.r.d):=by
 induction L generalizing i with
 | nil=>simp at h
 | cons s l' ih=>
  have e:csL (s::l')=s.cs++csL l':=rfl
  cases i with
  | zero=>
   simp at h
   subst h;rw[e];exact⟨rfl,rfl,rfl,rfl⟩
  | succ i=>
   obtain⟨h0,h1,h2,h3⟩:=ih (i:=i) (by simpa using h)
   have k:∀ j,(s.cs++csL l')[(i+1)*4+j]?=(csL l')[i*4+j]?:=fun j=>by
    rw[List.getElem?_append_right (by simp[Ln.cs,Rt.cs];omega)]
    congr 1
    simp[Ln.cs,Rt.cs];omega
   rw[e];exact⟨(k 0).trans h0,(k 1).trans h1,(k 2).trans h2,(k 3).trans h3⟩
theorem csL_set (L:List Ln) (i:Nat) (l:Ln):((((csL L).toArray.setIfInBounds (i*4) (.slice l.A l.n l.c)).setIfInBounds (i*4+1) (.bool l.r.b)).setIfInBounds (i*4+2) (.slice l.r.A l.r.n l.r.c)).setIfInBounds (i*4+3) (.slice l.r.D l.r.m l.r.d)=(csL (L.set i l)).toArray:=by
 apply Array.ext'
 rw[Array.toList_setIfInBounds,Array.toList_setIfInBounds,Array.toList_setIfInBounds,Array.toList_setIfInBounds,List.toList_toArray,List.toList_toArray]
 induction L generalizing i with
 | nil=>rfl
 | cons s t ih=>
  have e:csL (s::t)=.slice s.A s.n s.c :: .bool s.r.b :: .slice s.r.A s.r.n s.r.c :: .slice s.r.D s.r.m s.r.d::csL t:=rfl
  cases i with
  | zero=>rw[e];rfl
  | succ i=>
   have e2:csL ((s::t).set (i+1) l)=.slice s.A s.n s.c :: .bool s.r.b :: .slice s.r.A s.r.n s.r.c :: .slice s.r.D s.r.m s.r.d::csL (t.set i l):=rfl;rw[e,e2,←ih i];rw[show (i+1)*4=i*4+1+1+1+1 by omega,show i*4+1+1+1+1+1=(i*4+1)+1+1+1+1 by omega,show i*4+1+1+1+1+2=(i*4+2)+1+1+1+1 by omega,show i*4+1+1+1+1+3=(i*4+3)+1+1+1+1 by omega]
   rfl
theorem NoLl.csL (L:List Ln):NoLl (csL L):=by
 intro v hv z e;obtain⟨r,_,hr⟩:=List.mem_flatMap.1 hv;subst e
 simp[Ln.cs,Rt.cs] at hr
theorem csL_zero (n:Nat):madeCells #[.slice none 0 0,.bool false,.slice none 0 0,.slice none 0 0] (n*4)=(csL (List.replicate n Ln0)).toArray:=by
 apply Array.ext'
 apply List.ext_getElem?
 intro j
 rcases Nat.lt_or_ge j (n*4) with hj | hj
 ·have h3:=Nat.div_add_mod j 4
  have hm:=Nat.mod_lt j (show 0<4 by decide)
  have hi:j / 4<n:=by omega
  obtain⟨e0,e1,e2,e3⟩:=csL_get (L:=List.replicate n Ln0) (i:=j / 4) (l:=Ln0) (by rw[List.getElem?_replicate,if_pos hi])
  have hl:(madeCells #[Value.slice none 0 0,.bool false,.slice none 0 0,.slice none 0 0] (n*4)).toList[j]?=some (#[Value.slice none 0 0,.bool false,.slice none 0 0,.slice none 0 0][j%4]!):=by
   unfold madeCells
   simp[hj]
  rw[hl];have hc:j%4=0∨j%4=1∨j%4=2∨j%4=3:=by omega
  rcases hc with h | h | h | h
  ·rw[show j=j / 4*4 by omega]
   rw[e0,show (j / 4*4)%4=0 by omega];rfl
  ·rw[show j=j / 4*4+1 by omega]
   rw[e1,show (j / 4*4+1)%4=1 by omega];rfl
  ·rw[show j=j / 4*4+2 by omega]
   rw[e2,show (j / 4*4+2)%4=2 by omega];rfl
  ·rw[show j=j / 4*4+3 by omega]
   rw[e3,show (j / 4*4+3)%4=3 by omega];rfl
 ·rw[List.getElem?_eq_none (by simpa [size_madeCells] using hj),List.getElem?_eq_none (by rw[List.toList_toArray,csL_len,List.length_replicate];exact hj)]
theorem infoL:(Tryz.prog.info? 67).map (fun i=>(i.zero,i.size,i.bytes))=some (some (.agg #[.slice none 0 0,.bool false,.slice none 0 0,.slice none 0 0]),4,80):=by kernel_rfl
theorem make_line (n:Nat) (hn:n≤1000000) (w:World) :
  (Instr.makeSlice 65 (.int .i64 (n:Int)) (.int .i64 (n:Int))).run Tryz.prog w=.ok (.slice (some ⟨w.heap.size,0,none⟩) n n) (w.alloc (.cells (csL (List.replicate n Ln0)).toArray 67)):=by
 obtain⟨i0,hi,hzz⟩:=Option.map_eq_some_iff.1 infoL;simp only[Prod.mk.injEq] at hzz;obtain⟨hz0,hz1,hz2⟩:=hzz;have hr:=run_make (P:=Tryz.prog) w 65 67 i0 _ Tryz.underlying65 hi hz0 .i64 .i64 n n (by omega) (Int.le_refl _) (by rw[hz2];omega) (by omega)
 simp only[Int.toNat_natCast,hz1] at hr;rw[hr,←csL_zero]
 rfl
section
variable {w W W':World} {bs:List Bk} {rs:List Rdg} {K:List Ln} {g t:Nat}
theorem St_ncl (h:St w W ((g,(csL K).toArray,t)::bs) rs) {j:Nat} {l:Ln} (hj:K[j]?=some l):(W.cell? ⟨g,j*4,none⟩=some (.slice l.A l.n l.c)∧W.cell? ⟨g,j*4+1,none⟩=some (.bool l.r.b)∧W.cell? ⟨g,j*4+2,none⟩=some (.slice l.r.A l.r.n l.r.c)∧W.cell? ⟨g,j*4+3,none⟩=some (.slice l.r.D l.r.m l.r.d))∧∀ k,W.frozen? ⟨g,k,none⟩=false:=by
 have hb:=h.cb 0 rfl;obtain⟨e0,e1,e2,e3⟩:=csL_get hj;exact⟨⟨hb.cell (by rw[List.getElem?_toArray];exact e0),hb.cell (by rw[List.getElem?_toArray];exact e1),hb.cell (by rw[List.getElem?_toArray];exact e2),hb.cell (by rw[List.getElem?_toArray];exact e3)⟩,fun k=>hb.frozen k⟩
theorem St_nset (h:St w W ((g,(csL K).toArray,t)::bs) rs) (j:Nat) (l:Ln):St w ((((W.setCell ⟨g,j*4,none⟩ (.slice l.A l.n l.c)).setCell ⟨g,j*4+1,none⟩ (.bool l.r.b)).setCell ⟨g,j*4+2,none⟩ (.slice l.r.A l.r.n l.r.c)).setCell ⟨g,j*4+3,none⟩ (.slice l.r.D l.r.m l.r.d)) ((g,(csL (K.set j l)).toArray,t)::bs) rs:=by
 have:=(((h.set 0 (j*4) (.slice l.A l.n l.c) rfl (by nofun)).set 0 (j*4+1) (.bool l.r.b) rfl (by nofun)).set 0 (j*4+2) (.slice l.r.A l.r.n l.r.c) rfl (by nofun)).set 0 (j*4+3) (.slice l.r.D l.r.m l.r.d) rfl (by nofun)
 rw[←csL_set];exact this
theorem St_own {cs:Array Value} (h:St w W bs rs) (hb:Below W.heap.size W W') (hg:W.heap.size≤g) (hc:Cb W' g cs t) (hn:NoL cs):St w W' ((g,cs,t)::bs) rs:=by
 have h2:=h.call hb;refine⟨h2.bel,fun p hp=>?_,List.pairwise_cons.2 ⟨fun p hp=>?_,h2.nd⟩,h2.rd⟩
 ·rcases List.mem_cons.1 hp with rfl | hp
  ·exact⟨hc,hn,Nat.le_trans h.bel.size hg⟩
  ·exact h2.bk p hp
 ·have:=(h.bk p hp).1.lt
  show g≠p.1
  omega
def rdsOf (L:List Rt):List Rdg:=L.flatMap fun x=>[(x.A,x.n,x.c,x.x),(x.D,x.m,x.d,x.y)]
theorem St_rds (h:St w W bs rs) {L:List Rt} (hr:∀ x∈L,x.raw W):St w W bs (rdsOf L++rs):=h.reads fun p hp=>by
 obtain⟨x,hx,hp⟩:=List.mem_flatMap.1 hp
 rcases List.mem_cons.1 hp with rfl | hp
 ·exact (hr x hx).1
 ·obtain rfl:=List.mem_singleton.1 hp;exact (hr x hx).2
theorem rdsOf_in {L:List Rt} {x:Rt} (hx:x∈L):x.rdIn (rdsOf L++rs):=⟨List.mem_append_left _ (List.mem_flatMap.2 ⟨x,hx,List.mem_cons_self⟩),List.mem_append_left _ (List.mem_flatMap.2 ⟨x,hx,List.mem_cons_of_mem _ List.mem_cons_self⟩)⟩
theorem St_srm (h:St w W bs rs) {L:List Rt} {n:Nat} (hm:(g,(csE L).toArray,t)∈bs) (hL:L.length=n) (hr:∀ x∈L,x.rdIn rs):Sr W (some ⟨g,0,none⟩) n n L:=by
 have hb:=(h.bk _ hm).1;refine⟨hL,Nat.le_refl _,.inr ⟨g,0,rfl,hb.lt,fun i r hi=>?_⟩,fun x hx=>⟨h.rd _ (hr x hx).1,h.rd _ (hr x hx).2⟩⟩
 obtain⟨e0,e1,e2⟩:=csE_arr hi;rw[Nat.zero_add];exact⟨hb.cell e0,hb.cell e1,hb.cell e2⟩
end
theorem whole_lo (L:List Rt) (A:Option Addr) (n c:Nat) (w:World) (h:Sr w A n c L) (ll:ltL L) (hn:n≤6):Calls Tryz.prog 36 #[.slice A n c] w (RetLo L n (sca L n) w):=
 whole_own L A n c w h (fun r hr=>(ll r hr).1) (fun i hi=>(sca_rs ll (by omega)).mono (by decide)) (fun i hi r hr=>((sca_rs (n:=i) ll (by omega)).mul (ll r hr).2).mono (by decide)) (by omega)
end Go.Proofs.YthlinhconnmbcaaGreat
namespace Go.Proofs.YthlinhconnmbcaaGreat
open Go.RowKit RQ
def LnIn (l:Ln) (L:List Rt) (n:Nat) (bs:List Bk) (rs:List Rdg):Prop:=∃ g K,l.A=some ⟨g,0,none⟩∧l.n=n∧l.c=n∧(g,(csE K).toArray,33)∈bs∧K.length=n∧(∀ x∈K,x.can∧x.rdIn rs)∧K.map (·.q)=L.map (fun r=>sca L n*r.q)∧l.r.b=ng (sca L n).num∧(l.r.A,l.r.n,l.r.c,limbs (sca L n).num.natAbs)∈rs∧(l.r.D,l.r.m,l.r.d,dn (sca L n))∈rs
theorem LnIn.mono {l:Ln} {L:List Rt} {n:Nat} {bs bs':List Bk} {rs rs':List Rdg} (h:LnIn l L n bs rs) (hb:∀ p∈bs,p∈bs') (hr:∀ p∈rs,p∈rs'):LnIn l L n bs' rs':=by
 obtain⟨g,K,h1,h2,h3,h4,h5,h6,h7,h8,h9,h10⟩:=h;exact⟨g,K,h1,h2,h3,hb _ h4,h5,fun x hx=>⟨(h6 x hx).1,hr _ (h6 x hx).2.1,hr _ (h6 x hx).2.2⟩,h7,h8,hr _ h9,hr _ h10⟩
theorem prod_eq' (M N:List Ro):prodQ M N=M.map fun r=>(List.range (colM N)).map fun j=>dq (r.L.map (·.q)) (colQ N j) (colM M):=by
 unfold prodQ tQ;refine List.map_congr_left fun r _=>?_
 rw[List.map_map]
 rfl
theorem mmul_yes (M:List Ro) (A:Option Addr) (n c:Nat) (N:List Ro) (A':Option Addr) (n' c':Nat) (w:World) (h:Mr w A n c M) (hm:∀ r∈M,r.n≤9223372036854775807) (hn:n≤9223372036854775807) (h':Mr w A' n' c' N) (hm':∀ r∈N,r.n≤9223372036854775807) (hn':n'≤9223372036854775807) (lm:ltM M) (ln:ltM N) (hwf:wfM M=true) (hwg:wfM N=true) (hc:colM M=n') (h6:n'≤6):Calls Tryz.prog 9 #[.slice A n c,.slice A' n' c'] w (RetME (prodQ M N) w):=by
 have hF:=fun W h'=>wf_any M A n c W h' hm hn
 rw[hwf] at hF;have hG:=fun W h=>wf_any N A' n' c' W h hm' hn'
 rw[hwg] at hG;replace hF:=Lib.hid hF;replace hG:=Lib.hid hG;have hC:=fun W h'=>cols_any M A n c W h'
 rw[hc] at hC;replace hC:=Lib.hid hC;have hC2:=fun W h=>cols_any N A' n' c' W h
 have hlen:=Lib.hid h.len;have hlen':=Lib.hid h'.len;have hb:=Lib.hid (show n≤96 by rw[←hlen.out];exact wf_len hwf)
 have hkb:colM N≤96:=by
  cases hN:N with
  | nil=>show 0≤96;omega
  | cons r l=>have:=(wf_row hwg (r:=r) (by rw[hN];exact List.mem_cons_self));rw[←hN];omega
 have hrn:∀ r∈M,r.n=n':=fun r hr=>(wf_row hwf hr).2.2.trans hc
 have hCo:Hid (∀ j,j<colM N→∀ W,Mr W A' n' c' N→Calls Tryz.prog 37 #[.slice A' n' c',.int .i64 j] W fun e w'=>∃ A7,e=.returned (.slice A7 n' n')∧Sr w' A7 n' n' (colL N j)∧Below W.heap.size W w'):=Lib.hid fun j hj W h=>column_any N A' n' c' j W h (fun r hr=>by rw[(wf_row hwg hr).2.2];exact hj) (by omega) (by omega)
 have hWc:Hid (∀ j W A7,Sr W A7 n' n' (colL N j)→Calls Tryz.prog 36 #[.slice A7 n' n'] W (RetLo (colL N j) n' (sca (colL N j) n') W)):=Lib.hid fun j W A7 h=>whole_lo (colL N j) A7 n' n' W h (colL_lt ln j) h6
 have hWr:Hid (∀ r∈M,∀ W,Sr W r.A r.n r.c r.L→Calls Tryz.prog 36 #[.slice r.A r.n r.c] W (RetLo r.L n' (sca r.L n') W)):=Lib.hid fun r hr W h=>by
  rw[hrn r hr] at h ⊢;exact whole_lo r.L r.A n' r.c W h (lm r hr) h6
 have hD:Hid (∀ r∈M,∀ j K K' c1 c2 A1 A2 A3 n3 c3 D3 m3 d3 A4 n4 c4 D4 m4 d4 W,Sr W A1 n' c1 K→Sr W A2 n' c2 K'→(∀ x∈K,x.can)→(∀ x∈K',x.can)→K.map (·.q)=r.L.map (fun x=>sca r.L n'*x.q)→K'.map (·.q)=(colL N j).map (fun x=>sca (colL N j) n'*x.q)→RR W A3 n3 c3 D3 m3 d3 (sca r.L n')→RR W A4 n4 c4 D4 m4 d4 (sca (colL N j) n')→Calls Tryz.prog 38 #[.agg #[.slice A1 n' c1,.bool (ng (sca r.L n').num),.slice A3 n3 c3,.slice D3 m3 d3],.agg #[.slice A2 n' c2,.bool (ng (sca (colL N j) n').num),.slice A4 n4 c4,.slice D4 m4 d4]] W (RetR (dq (r.L.map (·.q)) (colQ N j) n') W)):=Lib.hid fun r hr j K K' c1 c2 A1 A2 A3 n3 c3 D3 m3 d3 A4 n4 c4 D4 m4 d4 W k1 k2 k3 k4 k5 k6 k7 k8=>by
  have:=dot_l r.L (colL N j) K K' n' c1 c2 A1 A2 A3 A4 D3 D4 n3 c3 m3 d3 n4 c4 m4 d4 W k1 k2 k3 k4 k5 k6 k7 k8 (lm r hr) (colL_lt ln j) h6;rw[colL_q] at this;exact this
 have hR:Hid (∀ r∈M,∀ j,Rs (dq (r.L.map (·.q)) (colQ N j) n') 9000000):=Lib.hid fun r hr j=>
  (dq_rs (p:=8000) (fun x hx=>by obtain⟨z,hz,rfl⟩:=List.mem_map.1 hx;exact (lm r hr z hz).2) (colQ_rs ln j) (by decide) _).mono (by omega)
 rw[prod_eq',hc];obtain⟨k,hk⟩:∃ z,z=colM N:=⟨_,rfl⟩;rw[←hk] at hC2 hkb hCo ⊢;replace hC2:=Lib.hid hC2;have hcb:=Lib.hid hkb;generalize hfd:(fun (r:Ro) (j:Nat)=>dq (r.L.map (·.q)) (colQ N j) n')=f
 have hf:∀ r j,dq (r.L.map (·.q)) (colQ N j) n'=f r j:=fun r j=>by rw[←hfd]
 simp only[hf] at hD hR ⊢;generalize hFd:(fun r:Ro=>(List.range k).map fun j=>f r j)=G
 have hGl:Hid (∀ r,(G r).length=k):=Lib.hid fun r=>by rw[←hFd];simp
 have hGg:Hid (∀ r j,j<k→(G r)[j]?=some (f r j)):=Lib.hid fun r j hj=>by rw[←hFd];simp[hj]
 replace h:=Lib.hid h;replace h':=Lib.hid h';have hmk1:=make_line k (by omega)
 have hmk2:=make_row n (by have:=hb.out;omega)
 have hmk3:=make_rat k (by omega)
 clear hm hn hm' hn' lm ln hwf hwg hf hfd hFd hc h6 hrn hkb hk;go_enter Tryz.func9,Tryz.ntmps9
 go_wp2_with fail
 refine (hF.out _ h.out).mono ?_
 rintro e w1 ⟨rfl,bb⟩;replace bb:=Lib.hid bb
 go_wp2_with fail
 refine (hG.out _ (h'.out.bel bb.out)).mono ?_
 rintro e w2 ⟨rfl,bb2⟩;replace bb2:=Lib.hid (bb.out.trans (bb2.mono bb.out.size));clear bb
 go_wp2_with fail
 refine (hC.out _ (h.out.bel bb2.out)).mono ?_
 rintro e w3 ⟨rfl,bb3⟩;replace bb3:=Lib.hid (bb2.out.trans (bb3.mono bb2.out.size));clear bb2;clear hF hG hC
 go_wp2_with fail
 refine (hC2.out _ (h'.out.bel bb3.out)).mono ?_
 rintro e w4 ⟨rfl,bb4⟩;replace bb4:=Lib.hid (bb3.out.trans (bb4.mono bb3.out.size));have hM4:=Lib.hid (h.out.bel bb4.out);have hN4:=Lib.hid (h'.out.bel bb4.out);have T:=Lib.hid ((St.new w4).allocAt w4.heap.size (csL (List.replicate k Ln0)).toArray 67 (NoLl.csL _).arr rfl);clear bb3 hC2 h h';go_wp2
 go_loopw [33] (fun jv wr=>∃ (j:Nat) (K:List Ln) (bs:List Bk) (rs:List Rdg),j≤k∧jv=.int .i64 j∧K.length=k∧St w4 wr ((w4.heap.size,(csL K).toArray,67)::bs) rs∧(∀ i,i<j→∃ l,K[i]?=some l∧LnIn l (colL N i) n' bs rs)) (fun jv _=>k-(intOf jv).toNat)
 case atStart=>exact⟨0,List.replicate k Ln0,[],[],Nat.zero_le _,rfl,List.length_replicate,T.out,fun i hi=>absurd hi (Nat.not_lt_zero _)⟩
 case round=>
  clear T;obtain⟨j,K,bs,rs,hjk,rfl,hKl,S,hIn⟩:=hrel
  by_cases hlt:j<k
  ·have hjh:=Lib.hid hlt
   have g1:(j:Int)<(k:Int):=by omega
   have g2:(0:Int)≤(j:Int):=by omega
   have hKj:K[j]?=some K[j]:=List.getElem?_eq_getElem (by omega)
   obtain⟨kj,hkj⟩:∃ z,z=K[j]:=⟨_,rfl⟩;rw[←hkj] at hKj;replace hKj:=Lib.hid hKj;replace S:=Lib.hid S;replace hIn:=Lib.hid hIn;replace hKl:=Lib.hid hKl;clear hlt hjk hkj
   go_wp2_with fail
   refine (hCo.out j hjh.out _ (hN4.out.bel S.out.bel)).mono ?_
   rintro e w5 ⟨A7,rfl,hS7,bb5⟩;have S5:=Lib.hid (S.out.call bb5);replace hS7:=Lib.hid hS7;clear bb5 S
   go_wp2_with fail
   refine (hWc.out j _ A7 hS7.out).mono ?_
   rintro e w6 ⟨A3,n3,c3,D3,m3,d3,g,K1,rfl,Q,⟨hg,hcb1⟩,hK1,hq1,hl1,bb6⟩;have S6:=St_rds (((St_own S5.out bb6 hg hcb1 (NoLl.csE _).arr).swap.read Q.n).read Q.d) (fun x hx=>(hK1 x hx).2)
   obtain⟨⟨q0,q1,q2,q3⟩,qf⟩:=St_ncl S6 hKj.out;have hg4:=S6.lt 0 rfl;have T:=Lib.hid (St_nset S6 j ⟨some ⟨g,0,none⟩,n',n',Rt.of A3 n3 c3 D3 m3 d3 (sca (colL N j) n')⟩);replace hK1:=Lib.hid hK1;replace hq1:=Lib.hid hq1;replace hl1:=Lib.hid hl1;clear S5 S6 hg hcb1 Q bb6 hS7;have hlt:=hjh.out;have hkk:=hcb.out;go_wp2
   go_roundw
   case rel=>
    refine⟨j+1,K.set j ⟨some ⟨g,0,none⟩,n',n',Rt.of A3 n3 c3 D3 m3 d3 (sca (colL N j) n')⟩,(g,(csE K1).toArray,33)::bs,_,by omega,by go_num,by rw[List.length_set];exact hKl.out,T.out,fun m hm=>?_⟩
    by_cases e:j=m
    ·subst e
     exact⟨_,List.getElem?_set_self (by rw[hKl.out];exact hlt),g,K1,rfl,rfl,rfl,List.mem_cons_self,hl1.out,fun x hx=>⟨(hK1.out x hx).1,rdsOf_in hx⟩,hq1.out,rfl,List.mem_append_right _ (List.mem_cons_of_mem _ List.mem_cons_self),List.mem_append_right _ List.mem_cons_self⟩
    ·rw[List.getElem?_set_ne e]
     obtain⟨l,k1,k2⟩:=hIn.out m (by omega)
     exact⟨l,k1,k2.mono (fun p hp=>List.mem_cons_of_mem _ hp) (fun p hp=>List.mem_append_right _ (List.mem_cons_of_mem _ (List.mem_cons_of_mem _ hp)))⟩
   case measure=>simp[intOf];omega
  ·obtain rfl:j=k:=by omega
   have hgR:=Lib.hid (S.lt 0 rfl);have hLn:Hid (∀ i,i<j→∃ g K1 A3 n3 c3 D3 m3 d3,(wr.cell? ⟨w4.heap.size,i*4,none⟩=some (.slice (some ⟨g,0,none⟩) n' n')∧wr.cell? ⟨w4.heap.size,i*4+1,none⟩=some (.bool (ng (sca (colL N i) n').num))∧wr.cell? ⟨w4.heap.size,i*4+2,none⟩=some (.slice A3 n3 c3)∧wr.cell? ⟨w4.heap.size,i*4+3,none⟩=some (.slice D3 m3 d3))∧Sr wr (some ⟨g,0,none⟩) n' n' K1∧(∀ x∈K1,x.can)∧K1.map (·.q)=(colL N i).map (fun x=>sca (colL N i) n'*x.q)∧RR wr A3 n3 c3 D3 m3 d3 (sca (colL N i) n')):=Lib.hid fun i hi=>by
    obtain⟨l,k1,g,K1,e1,e2,e3,e4,e5,e6,e7,e8,e9,e10⟩:=hIn i hi;obtain⟨⟨c0,c1,c2,c3⟩,_⟩:=St_ncl S k1;rw[e1,e2,e3] at c0;rw[e8] at c1;exact⟨g,K1,_,_,_,_,_,_,⟨c0,c1,c2,c3⟩,St_srm S.sub e4 e5 (fun x hx=>(e6 x hx).2),fun x hx=>(e6 x hx).1,e7,S.rd _ e9,S.rd _ e10⟩
   have hM5:=Lib.hid (hM4.out.bel S.bel);have hbb5:=Lib.hid (bb4.out.trans (S.bel.mono bb4.out.size));have T:=Lib.hid (((St.new wr).allocAt wr.heap.size (csR (List.replicate n Ro0)).toArray 46 (NoLl.rows _).arr rfl).read (show Rd _ none 0 0 [] from Rd.nil_ _ _ _))
   obtain⟨w5,hw5⟩:∃ z,z=wr:=⟨_,rfl⟩;subst hw5;clear S hIn hKl hjk hM4 hN4 hlt;go_wp2
   go_loopw [49] (fun iv wr=>∃ (i:Nat) (K:List Ro) (bs:List Bk) (rs:List Rdg),i≤n∧iv=.int .i64 i∧K.length=n∧St w5 wr ((w5.heap.size,(csR K).toArray,46)::bs) rs∧(none,0,0,[])∈rs∧(∀ r∈K,r.In bs rs)∧canM K∧(∀ m,m<i→(K[m]?).map (fun r=>r.L.map (·.q))=(M[m]?).map G)) (fun iv _=>n-(intOf iv).toNat)
   case atStart=>exact⟨0,List.replicate n Ro0,[],_,Nat.zero_le _,rfl,List.length_replicate,T.out,List.mem_cons_self,fun r hr=>(by obtain rfl:=(List.mem_replicate.1 hr).2;exact⟨rfl,.inl ⟨rfl,rfl,rfl⟩,fun x hx=>by cases hx⟩),fun r hr=>(by obtain rfl:=(List.mem_replicate.1 hr).2;exact⟨Nat.zero_le _,fun x hx=>by cases hx⟩),fun i hi=>absurd hi (Nat.not_lt_zero _)⟩
   case round=>
    clear T;obtain⟨i,K,bs,rs,hin,rfl,hKl,S,hz0,hIn,hcan,hq⟩:=hrel
    by_cases hlt:i<n
    ·obtain⟨b,o,r,rfl,hbk,hr,hrm,e0⟩:=hM5.out.get' hlt
     have hrow:=Lib.hid (hM5.out.rd r hrm);replace e0:=(World.cell?_of_block (S.bel.block b hbk)).trans e0
     have hih:=Lib.hid hlt;have g1:(i:Int)<(n:Int):=by omega
     have g2:(0:Int)≤(i:Int):=by omega
     have hKj:K[i]?=some K[i]:=List.getElem?_eq_getElem (by omega)
     obtain⟨kj,hkj⟩:∃ z,z=K[i]:=⟨_,rfl⟩;rw[←hkj] at hKj;have hWx:=Lib.hid (hWr.out r hrm);have hDx:=Lib.hid (hD.out r hrm);have hRx:=Lib.hid (hR.out r hrm);have hGr:=Lib.hid (show some (G r)=(M[i]?).map G by rw[hr];rfl)
     replace hKj:=Lib.hid hKj;replace S:=Lib.hid S;replace hz0:=Lib.hid hz0;replace hIn:=Lib.hid hIn;replace hcan:=Lib.hid hcan;replace hq:=Lib.hid hq;replace hKl:=Lib.hid hKl;clear hlt hin hr hrm hbk hkj
     go_wp2_with fail
     refine (hWx.out _ (hrow.out.bel S.out.bel)).mono ?_
     rintro e w6 ⟨A3,n3,c3,D3,m3,d3,g1_,K1,rfl,Q,⟨hg,hcb1⟩,hK1,hq1,hl1,bb6⟩;have S6:=St_rds (((St_own S.out bb6 hg hcb1 (NoLl.csE _).arr).swap.read Q.n).read Q.d) (fun x hx=>(hK1 x hx).2)
     obtain⟨g1,hg1⟩:∃ z,z=g1_:=⟨_,rfl⟩;rw[←hg1] at S6;have hK1i:∀ x∈K1,x.rdIn (rdsOf K1++(D3,m3,d3,dn (sca r.L n'))::(A3,n3,c3,limbs (sca r.L n').num.natAbs)::rs):=fun x hx=>rdsOf_in hx
     have hm1:(D3,m3,d3,dn (sca r.L n'))∈rdsOf K1++(D3,m3,d3,dn (sca r.L n'))::(A3,n3,c3,limbs (sca r.L n').num.natAbs)::rs:=List.mem_append_right _ List.mem_cons_self;have hm2:(A3,n3,c3,limbs (sca r.L n').num.natAbs)∈rdsOf K1++(D3,m3,d3,dn (sca r.L n'))::(A3,n3,c3,limbs (sca r.L n').num.natAbs)::rs:=List.mem_append_right _ (List.mem_cons_of_mem _ List.mem_cons_self);have hss:∀ p∈rs,p∈rdsOf K1++(D3,m3,d3,dn (sca r.L n'))::(A3,n3,c3,limbs (sca r.L n').num.natAbs)::rs:=fun p hp=>List.mem_append_right _ (List.mem_cons_of_mem _ (List.mem_cons_of_mem _ hp))
     generalize rdsOf K1++(D3,m3,d3,dn (sca r.L n'))::(A3,n3,c3,limbs (sca r.L n').num.natAbs)::rs=rs6 at S6 hK1i hm1 hm2 hss;obtain⟨q0,qf⟩:=St_rcl S6 hKj.out;have hgP:=S6.lt 0 rfl;subst hg1;have T:=Lib.hid (((St_rset S6 i ⟨some ⟨w6.heap.size+1,0,none⟩,j,j,[]⟩).allocAt w6.heap.size #[.slice (some ⟨g1,0,none⟩) n' n',.bool (ng (sca r.L n').num),.slice A3 n3 c3,.slice D3 m3 d3] 67 (noL4 _ _ _ _ _ _ _ _ _ _) (by simp)).allocAt (w6.heap.size+1) (csE (List.replicate j Zt)).toArray 33 (NoLl.csE _).arr (by simp))
     obtain⟨gr,hgr⟩:∃ z,z=w6.heap.size+1:=⟨_,rfl⟩;have hPi:(csR (K.set i ⟨some ⟨gr,0,none⟩,j,j,[]⟩)).toArray[i]?=some (.slice (some ⟨gr,0,none⟩) j j):=by
      unfold csR;rw[List.getElem?_toArray,List.getElem?_map,List.getElem?_set_self (by rw[hKl.out];exact hih.out)];rfl
     replace hgr:=Lib.hid hgr;replace hPi:=Lib.hid hPi;replace hK1:=Lib.hid hK1;replace hK1i:=Lib.hid hK1i;replace hm1:=Lib.hid hm1;replace hm2:=Lib.hid hm2;replace hss:=Lib.hid hss;replace hq1:=Lib.hid hq1;replace hl1:=Lib.hid hl1;clear S S6 hg hcb1 Q bb6;go_wp2;clear q0 qf hgP
     go_loopw [64] (fun jv wr=>∃ (m:Nat) (L:List Rt) (rs':List Rdg),m≤j∧jv=.int .i64 m∧L.length=j∧St w5 wr ((gr,(csE L).toArray,33)::(w6.heap.size,#[.slice (some ⟨g1,0,none⟩) n' n',.bool (ng (sca r.L n').num),.slice A3 n3 c3,.slice D3 m3 d3],67)::(w5.heap.size,(csR (K.set i ⟨some ⟨gr,0,none⟩,j,j,[]⟩)).toArray,46)::(g1,(csE K1).toArray,33)::bs) rs'∧(∀ x∈L,x.can∧x.rdIn rs')∧(∀ p∈rs6,p∈rs')∧(∀ t,t<m→(L[t]?).map (·.q)=(G r)[t]?)) (fun jv _=>j-(intOf jv).toNat)
     case atStart=>exact⟨0,List.replicate j Zt,rs6,Nat.zero_le _,rfl,List.length_replicate,by have e:=hgr.out;subst e;exact T.out,fun x hx=>(by obtain rfl:=(List.mem_replicate.1 hx).2;exact⟨Zt_can,hss.out _ hz0.out,hss.out _ hz0.out⟩),fun _ h=>h,fun m hm=>absurd hm (Nat.not_lt_zero _)⟩
     case round=>
      clear T;obtain⟨m,L,rs',hmj,rfl,hL,S,hcn,hsub,hqL⟩:=hrel
      by_cases hlm:m<j
      ·obtain⟨g2_,K2,A4,n4,c4,D4,m4,d4,⟨y0,y1,y2,y3⟩,hS2,hc2,hq2,X2⟩:=hLn.out m hlm
       have hDm:=Lib.hid (fun W s1 k1 s2 x1=>hDx.out m K1 K2 n' n' (some ⟨g1,0,none⟩) (some ⟨g2_,0,none⟩) A3 n3 c3 D3 m3 d3 A4 n4 c4 D4 m4 d4 W s1 s2 k1 hc2 hq1.out hq2 x1)
       have hRm:=Lib.hid (hRx.out m);have hqi:=Lib.hid (show some (f r m)=(G r)[m]? from (hGg.out r m hlm).symm)
       obtain⟨q,hqx⟩:∃ z,z=f r m:=⟨_,rfl⟩;rw[←hqx] at hDm hRm hqi;have hmh:=Lib.hid hlm;have g3:(m:Int)<(j:Int):=by omega
       have g4:(0:Int)≤(m:Int):=by omega
       have hKm:L[m]?=some L[m]:=List.getElem?_eq_getElem (by omega)
       obtain⟨km,hkm⟩:∃ z,z=L[m]:=⟨_,rfl⟩;rw[←hkm] at hKm;replace hKm:=Lib.hid hKm;replace y0:=Lib.hid y0;replace y1:=Lib.hid y1;replace y2:=Lib.hid y2;replace y3:=Lib.hid y3;replace hS2:=Lib.hid hS2;replace X2:=Lib.hid X2;replace S:=Lib.hid S;replace hcn:=Lib.hid hcn;replace hsub:=Lib.hid hsub;replace hqL:=Lib.hid hqL;replace hL:=Lib.hid hL;clear hlm hmj hkm hqx hc2 hq2;go_upto_region 18 with fail
       refine RW.begin (Z:=[]) (S:=(fun W=>Cb W (w6.heap.size) #[.slice (some ⟨g1,0,none⟩) n' n',.bool (ng (sca r.L n').num),.slice A3 n3 c3,.slice D3 m3 d3] 67∧Cb W (w5.heap.size) (csR (K.set i ⟨some ⟨gr,0,none⟩,j,j,[]⟩)).toArray 46∧W.cell? ⟨w4.heap.size,m*4,none⟩=some (.slice (some ⟨g2_,0,none⟩) n' n')∧W.cell? ⟨w4.heap.size,m*4+1,none⟩=some (.bool (ng (sca (colL N m) n').num))∧W.cell? ⟨w4.heap.size,m*4+2,none⟩=some (.slice A4 n4 c4)∧W.cell? ⟨w4.heap.size,m*4+3,none⟩=some (.slice D4 m4 d4))) (by kernel_rfl) ?_ S.out ?_
       ·exact⟨by kernel_rfl,zis_nil,by decide,by decide,nol_nil,(fun _ _ h=>⟨h.kb 1 rfl,h.kb 2 rfl,(World.cell?_of_block (h.bel.block w4.heap.size hgR.out)).trans y0.out,(World.cell?_of_block (h.bel.block w4.heap.size hgR.out)).trans y1.out,(World.cell?_of_block (h.bel.block w4.heap.size hgR.out)).trans y2.out,(World.cell?_of_block (h.bel.block w4.heap.size hgR.out)).trans y3.out⟩)⟩
       intro hzk;clear S;refine RW.t (i:=0) (v:=.slice (some ⟨w5.heap.size,0,none⟩) n n) (some 67) at0 (hy:=fun _ _=>by kernel_rfl) (h:=?_)
       refine RW.t (i:=1) (v:=.int .i64 i) (some 68) at1 (hy:=fun _ _=>by kernel_rfl) (h:=?_)
       refine RW.t (i:=2) (v:=.pointer (some ⟨w5.heap.size,i,none⟩)) (some 69) at2 (hy:=fun _ _=>by go_simp) (h:=?_)
       refine RW.t (i:=3) (v:=.slice (some ⟨gr,0,none⟩) j j) (some 70) at3 (hy:=fun W hS=>by (have k0:=Cb.cell (i:=i) hS.2.1 hPi.out;clear hS;go_simp)) (h:=?_)
       refine RW.t (i:=4) (v:=.int .i64 m) (some 71) at4 (hy:=fun _ _=>by kernel_rfl) (h:=?_)
       refine RW.t (i:=5) (v:=.agg #[.slice (some ⟨g1,0,none⟩) n' n',.bool (ng (sca r.L n').num),.slice A3 n3 c3,.slice D3 m3 d3]) (some 72) at5 (hy:=fun W hS=>by (have k0:=Cb.cell (i:=0) hS.1 rfl;have k1:=Cb.cell (i:=1) hS.1 rfl;have k2:=Cb.cell (i:=2) hS.1 rfl;have k3:=Cb.cell (i:=3) hS.1 rfl;clear hS;go_simp)) (h:=?_)
       refine RW.t (i:=6) (v:=.slice (some ⟨w4.heap.size,0,none⟩) j j) (some 73) at6 (hy:=fun _ _=>by kernel_rfl) (h:=?_)
       refine RW.t (i:=7) (v:=.int .i64 m) (some 74) at7 (hy:=fun _ _=>by kernel_rfl) (h:=?_)
       refine RW.t (i:=8) (v:=.pointer (some ⟨w4.heap.size,m*4,none⟩)) (some 75) at8 (hy:=fun _ _=>by go_simp) (h:=?_)
       refine RW.t (i:=9) (v:=.agg #[.slice (some ⟨g2_,0,none⟩) n' n',.bool (ng (sca (colL N m) n').num),.slice A4 n4 c4,.slice D4 m4 d4]) (some 76) at9 (hy:=fun W hS=>by (have k0:=hS.2.2.1;have k1:=hS.2.2.2.1;have k2:=hS.2.2.2.2.1;have k3:=hS.2.2.2.2.2;clear hS;go_simp)) (h:=?_)
       refine RW.tail hzk.out (by kernel_rfl) ?_
       intro gs w21 hgs hS S;obtain rfl:=len0 hgs;clear hS hgs hzk;simp only[mark,fill,Act.put,sZ0,sZ1,sZ2];replace S:=Lib.hid S;refine Wk.o (i:=10) at10 (by kernel_rfl) fun K' hK=>?_
       refine oper_call (f:=38) (args:=#[.agg #[.slice (some ⟨g1,0,none⟩) n' n',.bool (ng (sca r.L n').num),.slice A3 n3 c3,.slice D3 m3 d3],.agg #[.slice (some ⟨g2_,0,none⟩) n' n',.bool (ng (sca (colL N m) n').num),.slice A4 n4 c4,.slice D4 m4 d4]]) rfl (by kernel_rfl) ((hDm.out _ (St_srm (g:=g1) S.out (List.mem_cons_of_mem _ (List.mem_cons_of_mem _ (List.mem_cons_of_mem _ List.mem_cons_self))) hl1.out (fun x hx=>⟨hsub.out _ (hK1i.out x hx).1,hsub.out _ (hK1i.out x hx).2⟩)) (fun x hx=>(hK1.out x hx).1) (hS2.out.bel S.out.bel) ⟨S.out.rd _ (hsub.out _ hm2.out),S.out.rd _ (hsub.out _ hm1.out)⟩ (X2.out.below S.out.bel)).mono ?_)
       rintro e w21 ⟨A22,n22,c22,D22,m22,d22,rfl,Q22,bb2⟩;have S2:=((S.out.call bb2).read Q22.n).read Q22.d;clear S bb2 Q22;refine⟨_,rfl,hK.out _ _ ⟨S2.cb 1 rfl,S2.cb 2 rfl,((World.cell?_of_block (S2.bel.block w4.heap.size hgR.out)).trans y0.out),((World.cell?_of_block (S2.bel.block w4.heap.size hgR.out)).trans y1.out),((World.cell?_of_block (S2.bel.block w4.heap.size hgR.out)).trans y2.out),((World.cell?_of_block (S2.bel.block w4.heap.size hgR.out)).trans y3.out)⟩ ?_⟩
       clear hK K';replace S2:=Lib.hid S2
       try simp only[Act.put,sZ0,sZ1,sZ2]
       refine Wk.o (i:=11) at11 (by kernel_rfl) fun K' hK=>?_
       go_simp
       refine hK.out _ _ ⟨S2.out.cb 1 rfl,S2.out.cb 2 rfl,((World.cell?_of_block (S2.out.bel.block w4.heap.size hgR.out)).trans y0.out),((World.cell?_of_block (S2.out.bel.block w4.heap.size hgR.out)).trans y1.out),((World.cell?_of_block (S2.out.bel.block w4.heap.size hgR.out)).trans y2.out),((World.cell?_of_block (S2.out.bel.block w4.heap.size hgR.out)).trans y3.out)⟩ ?_
       clear hK K'
       try simp only[Act.put,sZ0,sZ1,sZ2]
       refine Wk.o (i:=12) at12 (by kernel_rfl) fun K' hK=>?_
       obtain⟨⟨q0,q1,q2⟩,qf⟩:=St_lcl S2.out hKm.out
       go_simp
       have S:=St_lset S2.out m (Rt.of A22 n22 c22 D22 m22 d22 q);refine hK.out _ _ ⟨S.cb 1 rfl,S.cb 2 rfl,((World.cell?_of_block (S.bel.block w4.heap.size hgR.out)).trans y0.out),((World.cell?_of_block (S.bel.block w4.heap.size hgR.out)).trans y1.out),((World.cell?_of_block (S.bel.block w4.heap.size hgR.out)).trans y2.out),((World.cell?_of_block (S.bel.block w4.heap.size hgR.out)).trans y3.out)⟩ ?_
       clear hK K' S2 q0 q1 q2 qf;replace S:=Lib.hid S
       try simp only[Act.put,sZ0,sZ1,sZ2]
       refine Wk.done (by kernel_rfl) ?_
       have hlm:=hmh.out;have hkk:=hcb.out;go_wp2
       go_roundw
       case rel=>
        refine⟨m+1,L.set m (Rt.of A22 n22 c22 D22 m22 d22 q),_,by omega,by go_num,by rw[List.length_set];exact hL.out,S.out,fun x hx=>?_,fun p hp=>List.mem_cons_of_mem _ (List.mem_cons_of_mem _ (hsub.out p hp)),fun t ht=>?_⟩
        ·rcases List.mem_or_eq_of_mem_set hx with hx | rfl
         ·exact⟨(hcn.out x hx).1,rd_cons_ (rd_cons_ (hcn.out x hx).2)⟩
         ·exact⟨Rt.of_can _ _ _ _ _ _ hRm.out,List.mem_cons_of_mem _ List.mem_cons_self,List.mem_cons_self⟩
        ·by_cases e:m=t
         ·subst e
          rw[List.getElem?_set_self (by rw[hL.out];exact hlm)]
          exact hqi.out
         ·rw[List.getElem?_set_ne e];exact hqL.out t (by omega)
       case measure=>simp[intOf];omega
      ·obtain rfl:m=j:=by omega
       have hqf:L.map (·.q)=G r:=by
        apply List.ext_getElem?
        intro t
        rcases Nat.lt_or_ge t m with ht | ht
        ·rw[List.getElem?_map];exact hqL t ht
        ·rw[List.getElem?_eq_none (by rw[List.length_map];omega),List.getElem?_eq_none (by rw[hGl.out];omega)]
       have S3:=(S.swap.sub).swap;have hvv:csR (K.set i ⟨some ⟨gr,0,none⟩,m,m,[]⟩)=csR (K.set i ⟨some ⟨gr,0,none⟩,m,m,L⟩):=by unfold csR;rw[List.map_set,List.map_set];rfl
       rw[hvv] at S3;replace S3:=Lib.hid S3;replace hqf:=Lib.hid hqf;replace hcn:=Lib.hid hcn;replace hsub:=Lib.hid hsub;replace hL:=Lib.hid hL;clear S hqL hmj hlm hvv;have hil:=hih.out;have hbb:=hb.out;go_wp2
       go_roundw
       case rel=>
        refine⟨i+1,K.set i ⟨some ⟨gr,0,none⟩,m,m,L⟩,(gr,(csE L).toArray,33)::(g1,(csE K1).toArray,33)::bs,rs',by omega,by go_num,by rw[List.length_set];exact hKl.out,S3.out,hsub.out _ (hss.out _ hz0.out),fun r hr=>?_,fun r hr=>?_,fun t ht=>?_⟩
        ·rcases List.mem_or_eq_of_mem_set hr with hr | rfl
         ·exact (hIn.out r hr).mono (fun p hp=>List.mem_cons_of_mem _ (List.mem_cons_of_mem _ hp)) (fun p hp=>hsub.out p (hss.out p hp))
         ·exact⟨hL.out,.inr ⟨_,_,rfl,Nat.le_refl _,List.mem_cons_self,by rw[List.toList_toArray,List.take_of_length_le (by rw[csE_len,hL.out];exact Nat.le_refl _)]⟩,fun x hx=>(hcn.out x hx).2⟩
        ·rcases List.mem_or_eq_of_mem_set hr with hr | rfl
         ·exact hcan.out r hr
         ·exact⟨by have:=hcb.out;show m≤1000;omega,fun x hx=>(hcn.out x hx).1⟩
        ·by_cases e:i=t
         ·subst e
          rw[List.getElem?_set_self (by rw[hKl.out];exact hil)]
          exact (congrArg some hqf.out).trans hGr.out
         ·rw[List.getElem?_set_ne e];exact hq.out t (by omega)
       case measure=>simp[intOf];omega
    ·obtain rfl:i=n:=by omega
     have hfin:qM K=M.map G:=by
      apply List.ext_getElem?
      intro m
      rcases Nat.lt_or_ge m i with hm | hm
      ·unfold qM;rw[List.getElem?_map,List.getElem?_map];exact hq m hm
      ·rw[List.getElem?_eq_none (by unfold qM;rw[List.length_map];omega),List.getElem?_eq_none (by rw[List.length_map,hlen.out];omega)]
     have M5:=Lib.hid (St_mat S hIn hKl);have hbl:=Lib.hid (hbb5.out.trans (S.bel.mono hbb5.out.size));replace hcan:=Lib.hid hcan;replace hfin:=Lib.hid hfin;clear S hIn hq hin hKl hz0;go_wp2
     go_ret2
     exact⟨_,_,_,K,rfl,M5.out,hcan.out,hfin.out,hbl.out⟩
end Go.Proofs.YthlinhconnmbcaaGreat
