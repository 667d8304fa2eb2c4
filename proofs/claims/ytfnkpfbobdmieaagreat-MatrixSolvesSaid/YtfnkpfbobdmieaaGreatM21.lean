/- The reference's reduced form. -/
import Derived.Test.YtfnkpfbobdmieaaGreatM20
set_option maxRecDepth 100000
set_option maxHeartbeats 40000000
set_option linter.unusedVariables false
namespace Go.Proofs.YtfnkpfbobdmieaaGreat
open Go.RowKit RQ GE
set_option linter.unusedVariables false
section
variable {w wr W':World} {g fb zb n k:Nat} {pv:Value} {s:GS}
theorem RSt.lr (h:RSt w wr g fb zb n k pv s) (n0:1≤n):∃ L:List (Sl Gw),LR (slC rwC) wr (some ⟨g,0,none⟩) n L∧∀ x∈L,x.L.length=k:=by
 obtain⟨cur,bs,rs,L,y,z,G,h1,h2,h3,h4,h5,h6,h7⟩:=h;have hI:∀ x∈L,RowI ((g,cur,23)::(fb,y.vs,45)::(zb,z.vs,45)::bs) rs x:=fun x hx=>(h3 x hx).mono (fun p hp=>List.mem_cons_of_mem _ (List.mem_cons_of_mem _ (List.mem_cons_of_mem _ hp))) (fun p hp=>hp)
 have hlr:LR (slC rwC) wr (some ⟨g,0,none⟩) n L:=by
  refine⟨h1,.inr ⟨g,0,rfl,G.st.lt 0 rfl,fun i x hi j v hv=>?_⟩,fun x hx=>(slC rwC).at_ G.st ((hI x hx).in_ w)⟩
  cases j with
  | succ j=>cases j<;>cases hv
  | zero=>
   obtain rfl:x.v=v:=Option.some.inj hv;rw[show (slC rwC).sz=1 from rfl,Nat.mul_one,Nat.zero_add,Nat.add_zero]
   exact (G.st.cb 0 rfl).cell (h2 i _ hi)
 refine⟨L,hlr,fun x hx=>?_⟩
 obtain⟨i,hi,hix⟩:=List.mem_iff_getElem.1 hx;obtain⟨q,hq,hqm,hxq⟩:=map_at h4 (show L[i]?=some x by rw[List.getElem?_eq_getElem hi,hix])
 have:=congrArg List.length hxq;rw[List.length_map,List.length_map,h5 q hqm] at this;exact this
theorem RSt.pv_ (h:RSt w wr g fb zb n k pv s):∃ A c,pv=.slice A s.p.length c:=by
 obtain⟨cur,bs,rs,L,y,z,G,_⟩:=h;obtain⟨A,c,bs',hv,_⟩:=G.done;rw[List.length_map] at hv;exact⟨A,c,hv⟩
theorem RSt.num (h:RSt w wr g fb zb n k pv s) {i j:Nat} (hi:i<n) (hj:j<k):∃ (c:Nat) (R:List Gw) (b o:Nat) (x:Gw),wr.cell? ⟨g,i,none⟩=some (.slice (some ⟨b,o,none⟩) k c)∧LR rwC wr (some ⟨b,o,none⟩) k R∧R.map rwV=(s.M.getD i []).map qV∧(s.M.getD i []).length=k∧wr.cell? ⟨b,o+j*3,none⟩=some (.bool x.b)∧wr.cell? ⟨b,o+j*3+1,none⟩=some (.slice x.x.A x.x.n x.x.c)∧wr.cell? ⟨b,o+j*3+2,none⟩=some (.slice x.y.A x.y.n x.y.c)∧rwV x=qV (el s.M i j)∧Rd wr x.x.A x.x.n x.x.c x.x.x∧Rd wr x.y.A x.y.n x.y.c x.y.x:=by
 obtain⟨A,c,R,h1,h2,h3,h4⟩:=h.row hi;obtain⟨b,o,x,rfl,hx,_,e0,e1,e2,R1,R2⟩:=row_get h2 hj;obtain⟨q,hq,hqm,hxq⟩:=map_at h3 hx;have e:el s.M i j=q:=by unfold el;rw[List.getD_eq_getElem?_getD,hq];rfl
 exact⟨c,R,b,o,x,h1,h2,h3,h4,e0,e1,e2,by rw[e];exact hxq,R1,R2⟩
end
section
variable {P:Program} {ops:Array Oper} {Q:Exit→Act→World→Prop} {S:World→Prop} {K:List Nat}
theorem early_of {i:Nat} {L:Array Bool} (h:early K (L.setIfInBounds i true)=true):early K L=true:=by
 refine List.all_eq_true.2 fun k hk=>?_
 have h1:=List.all_eq_true.1 h k hk
 cases h2:L.getD k false with
 | false=>rfl
 | true=>rw[getD_set_true h2] at h1;exact h1
theorem wpL_pure {i:Nat} {oi:Oper} {v:Value} (hi:ops[i]?=some oi) (hsel:∀ (j:Nat) (o:Oper) cs b,ops[j]?=some o→o.op≠.select cs b)
  (hQ:∀ c a w,Q (.panic c) (a.put oi.dst v) w→Q (.panic c) a w) (hiK:i∉K) :
  ∀ (fuel:Nat) (L:Array Bool) (a:Act) (w:World),
   (∀ j oj,ops[j]?=some oj→j≠i→L.getD j true=false→(∀ e∈oj.after,Region.binds .any e=true→e.on≠i)→oi.apart ops oj=true) →
   i∈Region.ready .any ops L→YieldsIf P ops (fun _=>True) oi v a→(early K L=true→S w) →
   wpL P ops Q S K fuel (L.setIfInBounds i true) (a.put oi.dst v) w→wpL P ops Q S K (fuel+1) L a w:=by
 intro fuel
 induction fuel with
 | zero=>
  intro L a w _ hr hy hS H;refine⟨fun h=>(by rw[h] at hr;cases hr),fun j hj=>?_⟩
  by_cases hji:j=i
  ·subst hji;exact hy.wpOp hi trivial ⟨fun he=>hS (early_of he),H⟩
  ·have:=ready_mono hj hji
   rw[H.1] at this
   cases this
 | succ fuel ih=>
  intro L a w hfree hr hy hS H;refine⟨fun h=>(by rw[h] at hr;cases hr),fun j hj=>?_⟩
  by_cases hji:j=i
  ·subst hji;exact hy.wpOp hi trivial ⟨fun he=>hS (early_of he),H⟩
  ·have h1:=H.2 j (ready_mono hj hji)
   obtain⟨hjun,oj,hoj,hall⟩:=mem_ready.1 hj;have hnot:∀ e∈oj.after,Region.binds .any e=true→e.on≠i:=fun e he hb heq=>by
    have h1:=hall e he hb;have h0:=(mem_ready.1 hr).1;rw[heq] at h1
    rcases Nat.lt_or_ge i L.size with h' | h'
    ·simp[h'] at h0 h1;rw[h0] at h1;cases h1
    ·simp[Array.getElem?_eq_none h'] at h1
   have h2:=wpOp_putIf hoj (hfree j oj hoj hji hjun hnot) (fun cs b=>hsel i oi cs b hi) (fun cs b=>hsel j oj cs b hoj) hQ hy h1
   have hfree':∀ k ok,ops[k]?=some ok→k≠i→(L.setIfInBounds j true).getD k true=false →
     (∀ e∈ok.after,Region.binds .any e=true→e.on≠i)→oi.apart ops ok=true:=fun k ok hk hki hun hno=>by
    refine hfree k ok hk hki ?_ hno
    by_cases hjk:j=k
    ·subst hjk;exact hjun
    ·rw[getD_set_ne true hjk] at hun;exact hun
   refine wpOp_mono (fun a' w' h3=>⟨fun he=>h3.2.1 (by rw[Array.setIfInBounds_comm _ _ (Ne.symm hji)];exact early_set he hiK),ih (L.setIfInBounds j true) a' w' hfree' (ready_mono hr (Ne.symm hji)) h3.1 (fun he=>h3.2.1 (by rw[Array.setIfInBounds_comm _ _ (Ne.symm hji)];exact early_set he hiK)) ?_⟩) h2
   rw[Array.setIfInBounds_comm _ _ hji];exact h3.2.2
theorem Wl.p {L:Array Bool} {a:Act} {w:World} {i:Nat} {oi:Oper} {v:Value} (dst:Option Nat) (hi:ops[i]?=some oi) (hd:oi.dst=dst:=by rfl) (hc:(Region.noSelect ops&&Region.free .any ops L i&&(Region.ready .any ops L).contains i && !(K.contains i))=true:=by kernel_rfl) (hw:Region.wanted oi (yielded ops a.tmps)=true:=by kernel_rfl)
  (hQ:∀ c a w,Q (.panic c) (Act.put a dst v) w→Q (.panic c) a w:=by exact fun _ _ _ h=>h) (hy:∀ w,(execOp a.eval oi).run P w=.ok (.value v) w) (hS:early K L=true→S w)
  (h:Wl P ops Q S K (L.setIfInBounds i true) (a.put dst v) w):Wl P ops Q S K L a w:=by
 simp only[Bool.and_eq_true,Bool.not_eq_true'] at hc;obtain⟨⟨⟨c1,c2⟩,c3⟩,c6⟩:=hc;subst hd;have hm:i∈Region.ready .any ops L:=by simpa using c3
 unfold Wl at *;rw[lft_set (mem_ready.1 hm).1];exact wpL_pure hi (Region.noSelect_spec c1) hQ (by simpa using c6) _ _ _ _ (Region.free_spec hi c2) hm (.inl ⟨hw,fun w _=>hy w⟩) hS h
end
section
variable {w wr W':World} {g fb zb n k:Nat} {pv:Value} {s:GS}
theorem RSt.copy (h:RSt w wr g fb zb n k pv s) {a t:Nat} {vt:Value} (ht:t<n) (ct:wr.cell? ⟨g,t,none⟩=some vt):RSt w (wr.setCell ⟨g,a,none⟩ vt) g fb zb n k pv ⟨s.M.set a (s.M.getD t []),s.p,s.f⟩:=by
 obtain⟨cur,bs,rs,L,y,z,G,h1,h2,h3,h4,h5,h6,h7⟩:=h;have xt:L[t]?=some L[t]:=List.getElem?_eq_getElem (by omega)
 have kt:=(G.st.cb 0 rfl).cell (h2 t _ xt);rw[ct] at kt;obtain rfl:=Option.some.inj kt;obtain⟨qt,hqt,_,hxt⟩:=map_at h4 xt;have et:s.M.getD t []=qt:=by rw[List.getD_eq_getElem?_getD,hqt];rfl
 refine⟨cur.setIfInBounds a L[t].v,bs,rs,L.set a L[t],y,z,RSt.step G intC_in fun ob h=>h.set 0 a L[t].v rfl (fun _ e=>by cases e),by rw[List.length_set];exact h1,h2.set _,fun x hx=>?_,?_,?_,h6,h7⟩
 ·rcases List.mem_or_eq_of_mem_set hx with hx | rfl
  ·exact h3 x hx
  ·exact h3 _ (List.getElem_mem _)
 ·unfold MatV at *
  show _=(s.M.set a (s.M.getD t [])).map _
  rw[et,List.map_set,List.map_set,h4,hxt]
 ·exact h5.set (by rw[et];exact h5 _ (List.mem_of_getElem? hqt))
end
theorem RSt.end_ {w wr:World} {g fb zb n k:Nat} {pv:Value} {s:GS} (h:RSt w wr g fb zb n k pv s):∃ y:Gw,wr.cell? ⟨fb,0,none⟩=some (.bool y.b)∧wr.cell? ⟨fb,1,none⟩=some (.slice y.x.A y.x.n y.x.c)∧wr.cell? ⟨fb,2,none⟩=some (.slice y.y.A y.y.n y.y.c)∧∀ W,W=((wr.setCell ⟨zb,0,none⟩ (.bool y.b)).setCell ⟨zb,1,none⟩ (.slice y.x.A y.x.n y.x.c)).setCell ⟨zb,2,none⟩ (.slice y.y.A y.y.n y.y.c)→RSt w W g fb zb n k pv s∧W.cell? ⟨zb,0,none⟩=some (.bool y.b)∧W.cell? ⟨zb,1,none⟩=some (.slice y.x.A y.x.n y.x.c)∧W.cell? ⟨zb,2,none⟩=some (.slice y.y.A y.y.n y.y.c)∧rwV y=qV s.f∧Rd W y.x.A y.x.n y.x.c y.x.x∧Rd W y.y.A y.y.n y.y.c y.y.x:=by
 obtain⟨cur,bs,rs,L,y,z,G,h1,h2,h3,h4,h5,h6,h7⟩:=h;refine⟨y,(G.st.cb 1 rfl).cell rfl,(G.st.cb 1 rfl).cell rfl,(G.st.cb 1 rfl).cell rfl,fun W hW=>?_⟩
 subst hW;have G2:Gro intC w (((wr.setCell ⟨zb,0,none⟩ (.bool y.b)).setCell ⟨zb,1,none⟩ (.slice y.x.A y.x.n y.x.c)).setCell ⟨zb,2,none⟩ (.slice y.y.A y.y.n y.y.c)) ((g,cur,23)::(fb,y.vs,45)::(zb,y.vs,45)::bs) rs 3 pv (s.p.map Int.ofNat):=RSt.step G intC_in fun ob h=>St_put3 (p:=2) h rfl y
 exact⟨⟨cur,bs,rs,L,y,y,G2,h1,h2,h3,h4,h5,h6,h7⟩,(G2.st.cb 2 rfl).cell rfl,(G2.st.cb 2 rfl).cell rfl,(G2.st.cb 2 rfl).cell rfl,h7,G2.st.rd _ h6.1,G2.st.rd _ h6.2⟩
theorem res_reduce (W:World) (tmps:Array Value) (g:Nat) {v0 v1 v2 a b:Value} (h2:tmps.getD 2 undef=a) (h3:tmps.getD 3 undef=b) (ht:tmps.getD 4 undef=.pointer (some ⟨g,0,none⟩)) (c0:W.cell? ⟨g,0,none⟩=some v0) (c1:W.cell? ⟨g,1,none⟩=some v1) (c2:W.cell? ⟨g,2,none⟩=some v2) :
  (results Tryz.f51 tmps).run Tryz.prog W=.ok (.tuple #[a,b,.agg #[v0,v1,v2]]) W:=by
 have ht':tmps[4]?.getD undef=.pointer (some ⟨g,0,none⟩):=by rw[←ht];simp[Array.getD_eq_getD_getElem?]
 have h2':tmps[2]?.getD undef=a:=by rw[←h2];simp[Array.getD_eq_getD_getElem?]
 have h3':tmps[3]?.getD undef=b:=by rw[←h3];simp[Array.getD_eq_getD_getElem?]
 simp[results,Tryz.results51,go_sem,ht',h2',h3',c0,c1,c2]
theorem el_rs {M:List (List Rat)} (h:okM M=true) (i j:Nat):Rs (el M i j) 9900000:=by
 unfold el;rw[List.getD_eq_getElem?_getD]
 cases hj:(M.getD i [])[j]? with
 | none=>exact (Rs.int (z:=0) (p:=1) (by decide) (Nat.le_refl 1)).mono (by decide)
 | some q=>exact okM_rs h q (List.mem_of_getElem? hj)
theorem sr_cons {M:List (List Rat)} {a j:Nat} (ha:a<M.length):sr j (M.drop a)=if (el M a j).num=0 then sr j (M.drop (a+1))+1 else 0:=by
 rw[List.drop_eq_getElem_cons ha];have e:el M a j=(M[a]).getD j 0:=by
  show (M.getD a []).getD j 0=_
  rw[show M.getD a []=M[a] by rw[List.getD_eq_getElem?_getD,List.getElem?_eq_getElem ha];rfl]
 rw[e];rfl
theorem sr_end {M:List (List Rat)} {j:Nat}:sr j (M.drop M.length)=0:=by rw[List.drop_length];rfl
theorem gok_step {k j:Nat} {s:GS} (h:j<k) (hg:gok (k-j) j s=true):colOk j s=true∧gok (k-(j+1)) (j+1) (gcol j s)=true:=by
 rw[show k-j=(k-(j+1))+1 by omega] at hg
 unfold gok at hg
 rwa [Bool.and_eq_true] at hg
theorem grun_step {k j:Nat} {s:GS} (h:j<k):grun (k-j) j s=grun (k-(j+1)) (j+1) (gcol j s):=by
 rw[show k-j=(k-(j+1))+1 by omega];rfl
theorem colOk_of {j:Nat} {s:GS} (h:colOk j s=true) (hn:¬ gat j s=s.M.length):szB (1 / el (gm1 j s) s.p.length j)=true∧szB (gf1 j s*el (gm1 j s) s.p.length j)=true∧okR (nrm (gm1 j s) j s.p.length) j s.p.length s.M.length=true:=by
 unfold colOk at h;rw[if_neg hn,Bool.and_eq_true,Bool.and_eq_true] at h;exact⟨h.1.1,h.1.2,h.2⟩
theorem okM_getD {M:List (List Rat)} (h:okM M=true) (i:Nat):(M.getD i []).all szB=true:=by
 rw[List.getD_eq_getElem?_getD]
 cases hi:M[i]? with
 | none=>rfl
 | some r=>exact List.all_eq_true.1 h r (List.mem_of_getElem? hi)
theorem okM_set {M:List (List Rat)} (h:okM M=true) (i:Nat) {r:List Rat} (hr:r.all szB=true):okM (M.set i r)=true:=by
 refine List.all_eq_true.2 fun x hx=>?_
 rcases List.mem_or_eq_of_mem_set hx with hx | rfl
 ·exact List.all_eq_true.1 h x hx
 ·exact hr
theorem okM_swp {M:List (List Rat)} (h:okM M=true) (a t:Nat):okM (swp M a t)=true:=okM_set (okM_set h a (okM_getD h t)) t (okM_getD h a)
theorem el_swp {M:List (List Rat)} {a t j:Nat} (ht:t<M.length):el (swp M a t) t j=el M a j:=by
 unfold el swp;rw[show ((M.set a (M.getD t [])).set t (M.getD a [])).getD t []=M.getD a [] by
  rw[List.getD_eq_getElem?_getD,List.getElem?_set_self (by rw[List.length_set];exact ht)];rfl]
theorem Gro.capv {α:Type} {C:Cod α} {w W:World} {bs:List GBk} {rs:List GRd} {e:Nat} {A:Option Addr} {n c:Nat} {L:List α} (h:Gro C w W bs rs e (.slice A n c) L):n≤c:=by
 obtain⟨⟨h1,h2,⟨h3,h0,S⟩ | ⟨g,cap,cur,h3,k2,k3,k4,k5,S⟩⟩,hx⟩:=h
 ·injection h3 with h4 h5;omega
 ·injection h3 with h4 h5 h6;omega
def RedO (n k:Nat) (s:GS) (w:World) (e:Ending) (w':World):Prop:=∃ g fb zb cg pv,∃ y:Gw,n≤cg∧(rwV y=qV s.f∧Rd w' y.x.A y.x.n y.x.c y.x.x∧Rd w' y.y.A y.y.n y.y.c y.y.x)∧e=.returned (.tuple #[.slice (some ⟨g,0,none⟩) n cg,pv,.agg #[.bool y.b,.slice y.x.A y.x.n y.x.c,.slice y.y.A y.y.n y.y.c]])∧RSt w w' g fb zb n k pv s
theorem rred_any (M:List (List Rat)) (L:List Ro) (A:Option Addr) (n c k:Nat) (w:World) (h:Mr w A n c L) (hM:qM L=M) (hrk:∀ r∈L,∀ x∈r.L,Rk x.b x.n x.x x.m x.y x.q) (hok:okM M=true) (hrc:rct k M) (n0:1≤n) (n1:n≤96) (k1:k≤96) (hg:gok k 0 ⟨M,[],1⟩=true):Calls Tryz.prog 51 #[.slice A n c] w (RedO n k (grun k 0 ⟨M,[],1⟩) w):=by
 have hML:M.length=n:=by rw[←hM];unfold qM;rw[List.length_map];exact h.len
 have bx:Below w.heap.size w (w.alloc (.cells Gw0.vs 45)):=(Below.refl _ _).alloc (Nat.le_refl _) _;have S1:=Lib.hid ((St.new w).alloc Gw0.vs 45 (noL3 _ _ _ _ _ _ _));have hT:=Lib.hid (takeM_any M L A n c _ (h.bel bx) hM (fun r hr=>⟨by have h1:=(h.rd r hr).len;have h2:=hrc (r.L.map (·.q)) (by rw[←hM];exact List.mem_map_of_mem hr);rw[List.length_map] at h2;omega,hrk r hr⟩) (by omega))
 have hF1:Hid (∀ W,Calls Tryz.prog 36 #[.int .i64 1] W (RetR 1 W)):=Lib.hid fun W=>FfromInt_any 1 W (by omega) (by omega)
 replace hok:=Lib.hid hok;replace hrc:=Lib.hid hrc;replace hg:=Lib.hid hg;replace hML:=Lib.hid hML;have hn0:=Lib.hid n0;have hn1:=Lib.hid n1;have hk1:=Lib.hid k1;clear bx h hM n0 n1 k1;obtain⟨zb,hzb⟩:∃ z,z=w.heap.size:=⟨_,rfl⟩;go_enter Tryz.func51,Tryz.ntmps51
 go_wp2_with fail
 refine hT.out.mono ?_
 rintro e w1 ⟨v,bs,rs,L1,rfl,G0,hI,hV⟩;have hl1:L1.length=n:=by have:=hV.len;rw[hML.out] at this;exact this
 obtain⟨g,cg,cur,rfl,S2,hX⟩:=G0.dmat (by rw[hl1];exact hn0.out)
 have hcg:=G0.capv;rw[hl1] at hcg ⊢;replace hcg:=Lib.hid hcg;have S3:=Lib.hid (S1.out.join S2);replace hl1:=Lib.hid hl1;replace hI:=Lib.hid hI;replace hV:=Lib.hid hV;replace hX:=Lib.hid hX;clear G0 S2 S1 hT
 go_wp2_with fail
 refine (hF1.out _).mono ?_
 rintro e w2 ⟨A3,m3,c3,D3,m4,c4,rfl,X,bb⟩;have T0:=(((S3.out.call bb).read X.d).read X.n).alloc (⟨ng (1:Rat).num,⟨A3,m3,c3,limbs (1:Rat).num.natAbs⟩,⟨D3,m4,c4,dn 1⟩⟩:Gw).vs 45 (noL3 _ _ _ _ _ _ _);obtain⟨fb,hfb⟩:∃ z,z=w2.heap.size:=⟨_,rfl⟩;have RS:Hid (RSt w _ g fb zb n k (.slice none 0 0) ⟨M,[],1⟩):=Lib.hid ⟨cur,bs,_,L1,⟨ng (1:Rat).num,⟨A3,m3,c3,limbs (1:Rat).num.natAbs⟩,⟨D3,m4,c4,dn 1⟩⟩,Gw0,Gro.nil_ intC (by
  rw[hfb,hzb];exact T0.prm (by
   simp only[List.cons_append,List.nil_append];exact ((List.Perm.swap _ _ _).cons _).trans (List.Perm.swap _ _ _ |>.trans ((List.Perm.refl _).cons _) ) )) _,hl1.out,hX.out,fun x hx=>(hI.out x hx).mono (fun p hp=>hp) (fun p hp=>List.mem_cons_of_mem _ (List.mem_cons_of_mem _ (by simpa using hp))),hV.out,hrc.out,⟨List.mem_cons_self,List.mem_cons_of_mem _ List.mem_cons_self⟩,rfl⟩
 clear T0 S3 X bb hI hX hV hl1;go_wp2;rw[←hzb,←hfb];clear hzb hfb
 go_loopw [5,7] (fun pv jv wr=>∃ (j:Nat) (s:GS) (pa:Value),pa=pv∧j≤k∧jv=.int .i64 j∧RSt w wr g fb zb n k pa s∧s.p.length≤n∧okM s.M=true∧szB s.f=true∧gok (k-j) j s=true∧grun (k-j) j s=grun k 0 ⟨M,[],1⟩) (fun _ jv _=>k-(intOf jv).toNat)
 case atStart=>exact⟨0,⟨M,[],1⟩,_,rfl,Nat.zero_le _,rfl,RS.out,Nat.zero_le _,hok.out,szB_one,hg.out,rfl⟩
 case round=>
  clear RS;obtain⟨j,s,pa,hpa,hjk,rfl,T,hpn,hO,hf,hgo,hru⟩:=hrel;subst hpa;obtain⟨pA,pc,rfl⟩:=T.pv_;obtain⟨Lr,hLR,hLk⟩:=T.lr hn0.out;obtain⟨tp,htp⟩:∃ t,t=s.p.length:=⟨_,rfl⟩;rw[←htp] at T ⊢;rename World=>W0
  have hC:=Lib.hid (columnsM_any Lr (some ⟨g,0,none⟩) n cg k W0 hLR hLk hn0.out);replace T:=Lib.hid T;replace hpn:=Lib.hid hpn;replace hO:=Lib.hid hO;replace hf:=Lib.hid hf;replace hgo:=Lib.hid hgo;replace hru:=Lib.hid hru;replace htp:=Lib.hid htp;clear hLR hLk
  by_cases hlt:j<k
  ·have g1:(j:Int)<(k:Int):=by omega
   have g2:(0:Int)≤(j:Int):=by omega
   have hjh:=Lib.hid hlt;clear hlt hjk
   go_wp2_with fail
   refine hC.out.mono ?_
   rintro e w3 ⟨rfl,rfl⟩;clear hC;go_wp2
   go_loopw [9] (fun av wr=>∃ a:Nat,tp≤a∧a≤n∧av=.int .i64 a∧RSt w wr g fb zb n k (.slice pA tp pc) s∧a+sr j (s.M.drop a)=gat j s) (fun av _=>n-(intOf av).toNat)
   case atStart=>exact⟨tp,Nat.le_refl _,by rw[htp.out];exact hpn.out,rfl,T.out,by rw[htp.out];rfl⟩
   case round=>
    clear T;obtain⟨a,hta,han,rfl,T,hga⟩:=hrel;rename World=>W1
    by_cases hlt:a<n
    ·have g3:(a:Int)<(n:Int):=by omega
     have g4:(0:Int)≤(a:Int):=by omega
     have hah:=Lib.hid hlt;obtain⟨rc,R,b,o,x,c0,_,_,_,x0,x1,x2,hxq,R1,R2⟩:=T.num hlt hjh.out;obtain⟨q,hq⟩:∃ q,q=el s.M a j:=⟨_,rfl⟩;rw[←hq] at hxq;obtain⟨xb,X⟩:=rw_rr hxq R1 R2;have hSg:Hid (Calls Tryz.prog 55 #[.agg #[.bool x.b,.slice x.x.A x.x.n x.x.c,.slice x.y.A x.y.n x.y.c]] W1 (fun e w'=>e=.returned (.int .i64 q.num.sign)∧Below W1.heap.size W1 w')):=Lib.hid (by rw[xb];exact rsignQ2 q x.x.A x.x.n x.x.c x.y.A x.y.n x.y.c W1 X (by rw[hq];exact (el_rs hO.out a j).mono (by omega)))
     rw[sr_cons (by rw[T.len];exact hlt),←hq] at hga
     replace T:=Lib.hid T;replace hga:=Lib.hid hga;replace hta:=Lib.hid hta;replace hq:=Lib.hid hq;clear hlt han hxq R1 R2 xb X
     go_wp2_with fail
     refine hSg.out.mono ?_
     rintro e w4 ⟨rfl,bb⟩;have T1:=Lib.hid (T.out.call bb);clear T bb hSg c0 x0 x1 x2
     by_cases hz:q.num=0
     ·rw[show q.num.sign=0 by rw[hz];rfl]
      have hga2:=hga.out;rw[if_pos hz] at hga2;replace hga2:=Lib.hid hga2;clear hz;have hahh:=hah.out;have hn1h:=hn1.out;go_wp2;have htaa:=hta.out
      go_roundw
      case rel=>exact⟨a+1,by omega,by omega,by go_num,T1.out,by have:=hga2.out;omega⟩
      case measure=>simp[intOf];omega
     ·have hs0:¬ (q.num.sign=0):=by simpa using hz
      have hga2:=hga.out;rw[if_neg hz,Nat.add_zero] at hga2;have g5:¬ ((a:Int)=(n:Int)):=by have:=hah.out;omega
      have hgn:¬ gat j s=s.M.length:=by rw[←hga2,T1.out.len];have:=hah.out;omega
      obtain⟨hc1,hgo2⟩:=gok_step hjh.out hgo.out;obtain⟨K1,K2,K3⟩:=colOk_of hc1 hgn;have hgc:gcol j s=⟨rws (nrm (gm1 j s) j s.p.length) j s.p.length s.M.length,s.p++[j],gf1 j s*el (gm1 j s) s.p.length j⟩:=by unfold gcol;rw[if_neg hgn]
      rw[hgc] at hgo2;have hru2:=hru.out;rw[grun_step hjh.out,hgc] at hru2;have hlen:=T1.out.len;rw[←htp.out] at K1 K2 K3 hgo2 hru2;rw[hlen] at K3 hgo2 hru2;have htnH:Hid (tp<n):=Lib.hid (by have:=hta.out;have:=hah.out;omega)
      replace hgo2:=Lib.hid hgo2;replace hru2:=Lib.hid hru2;replace K1:=Lib.hid K1;replace K2:=Lib.hid K2;replace K3:=Lib.hid K3;replace hlen:=Lib.hid hlen;replace hga2:=Lib.hid hga2;replace hz:=Lib.hid hz;clear hga hgc hc1 hgn hgo hru;rename World=>W2
      obtain⟨M1,hM1⟩:∃ M1,M1=gm1 j s:=⟨_,rfl⟩;obtain⟨f1,hf1⟩:∃ f1,f1=gf1 j s:=⟨_,rfl⟩;simp only[←hM1,←hf1] at K1 K2 K3 hgo2 hru2
      by_cases hat:a=tp
      ·have hg2:gat j s=s.p.length:=by rw[←hga2.out,hat,htp.out]
       have e1:gm1 j s=s.M:=if_pos hg2;have e2:gf1 j s=s.f:=if_pos hg2;have T:Hid (RSt w W2 g fb zb n k (.slice pA tp pc) ⟨M1,s.p,f1⟩):=Lib.hid (by rw[hM1,hf1,e1,e2];exact T1.out)
       have hO1:Hid (okM M1=true):=Lib.hid (by rw[hM1,e1];exact hO.out)
       have hRf:Hid (Rs f1 9900000):=Lib.hid (by rw[hf1,e2];exact szB_rs hf.out)
       have hx0:Hid (el M1 tp j≠0):=Lib.hid (by rw[hM1,e1,←hat,←hq.out];exact fun e=>hz.out (by rw[e];rfl))
       have g8:(a:Int)=(tp:Int):=by omega
       have hat:=hat.symm;subst hat;clear hM1 hf1 e1 e2 hg2 T1 hO hf hq hz hga2;go_wp2;have htn:=htnH.out;obtain⟨rc,R,b,o,x,c0,_,_,_,x0,x1,x2,hxq,R1,R2⟩:=T.out.num htn hjh.out;obtain⟨y,y0,y1,y2,hyq,Y1,Y2⟩:=T.out.fac;obtain⟨xb,X⟩:=rw_rr hxq R1 R2;obtain⟨yb,Y⟩:=rw_rr hyq Y1 Y2;have hMu:Hid (∀ W,Below W2.heap.size W2 W→Calls Tryz.prog 72 #[.agg #[.bool y.b,.slice y.x.A y.x.n y.x.c,.slice y.y.A y.y.n y.y.c],.agg #[.bool x.b,.slice x.x.A x.x.n x.x.c,.slice x.y.A x.y.n x.y.c]] W (RetR (f1*el M1 tp j) W)):=Lib.hid fun W hW=>by
        have:=fmulQ f1 (el M1 tp j) y.x.A y.x.n y.x.c y.y.A y.y.n y.y.c x.x.A x.x.n x.x.c x.y.A x.y.n x.y.c W (Y.below hW) (X.below hW) hRf.out (el_rs hO1.out tp j);rw[←xb,←yb] at this;exact this
       have g6:(0:Int)≤(tp:Int):=by omega
       have g7:(tp:Int)<(n:Int):=by omega
       replace c0:=Lib.hid c0;replace x0:=Lib.hid x0;replace x1:=Lib.hid x1;replace x2:=Lib.hid x2;replace y0:=Lib.hid y0;replace y1:=Lib.hid y1;replace y2:=Lib.hid y2;clear hxq R1 R2 hyq Y1 Y2 xb X yb Y htn;refine Wl.start (fun W=>Below W2.heap.size W2 W) [9] rfl ?_
       have hS:Below W2.heap.size W2 W2.drew:=(Below.refl _ _).drew;refine Wl.t (i:=0) (v:=.agg #[.bool y.b,.slice y.x.A y.x.n y.x.c,.slice y.y.A y.y.n y.y.c]) (some 63) at0 (hy:=fun W hS=>by (have k0:=bel_cell hS y0.out;have k1:=bel_cell hS y1.out;have k2:=bel_cell hS y2.out;clear hS;go_simp)) (hS:=hS) (h:=?_)
       refine Wl.t (i:=1) (v:=.slice (some ⟨g,0,none⟩) n cg) (some 64) at1 (hy:=fun _ _=>by kernel_rfl) (hS:=hS) (h:=?_)
       refine Wl.t (i:=2) (v:=.int .i64 tp) (some 65) at2 (hy:=fun _ _=>by kernel_rfl) (hS:=hS) (h:=?_)
       refine Wl.t (i:=3) (v:=.pointer (some ⟨g,tp,none⟩)) (some 66) at3 (hy:=fun _ _=>by go_simp) (hS:=hS) (h:=?_)
       refine Wl.t (i:=4) (v:=.slice (some ⟨b,o,none⟩) k rc) (some 67) at4 (hy:=fun W hS=>by (have k0:=bel_cell hS c0.out;clear hS;go_simp)) (hS:=hS) (h:=?_)
       refine Wl.t (i:=5) (v:=.int .i64 j) (some 68) at5 (hy:=fun _ _=>by kernel_rfl) (hS:=hS) (h:=?_)
       refine Wl.t (i:=6) (v:=.pointer (some ⟨b,o+j*3,none⟩)) (some 69) at6 (hy:=fun _ _=>by go_simp) (hS:=hS) (h:=?_)
       refine Wl.t (i:=7) (v:=.agg #[.bool x.b,.slice x.x.A x.x.n x.x.c,.slice x.y.A x.y.n x.y.c]) (some 70) at7 (hy:=fun W hS=>by (have k0:=bel_cell hS x0.out;have k1:=bel_cell hS x1.out;have k2:=bel_cell hS x2.out;clear hS;go_simp)) (hS:=hS) (h:=?_)
       try simp only[Act.put,sZ0,sZ1,sZ2]
       refine Wl.g (i:=8) at8 (by kernel_rfl) (by kernel_rfl) fun K' hK=>?_
       refine oper_call (f:=72) (args:=#[.agg #[.bool y.b,.slice y.x.A y.x.n y.x.c,.slice y.y.A y.y.n y.y.c],.agg #[.bool x.b,.slice x.x.A x.x.n x.x.c,.slice x.y.A x.y.n x.y.c]]) rfl (by kernel_rfl) ((hMu.out _ hS).mono ?_)
       rintro e w5 ⟨A5,m5,c5,D5,m6,c6,rfl,X5,bb5⟩;have hS5:Below W2.heap.size W2 w5:=hS.trans (bb5.mono hS.size);have T5:=T.out.call hS5;obtain⟨W6,hW6,T6⟩:∃ W,W=World.setCell (World.setCell (World.setCell w5 ⟨fb,0,none⟩ (.bool (ng (f1*el M1 tp j).num))) ⟨fb,1,none⟩ (.slice A5 m5 c5)) ⟨fb,2,none⟩ (.slice D5 m6 c6)∧RSt w W g fb zb n k (.slice pA tp pc) ⟨M1,s.p,f1*el M1 tp j⟩:=⟨_,rfl,T.out.putf X5 hS5⟩
       obtain⟨_,k0,k1,k2,_⟩:=T5.fac;have k3:=T5.cells.2.1 0;have k4:=T5.cells.2.1 1;have k5:=T5.cells.2.1 2;replace T6:=Lib.hid T6;refine⟨_,rfl,hK.out _ _ hS5 ?_⟩
       clear hK K' hS bb5 X5 T5 T hMu c0 x0 x1 x2 y0 y1 y2
       try simp only[Act.put,sZ0,sZ1,sZ2]
       refine Wl.s (i:=9) at9 (by kernel_rfl) (by kernel_rfl) (by kernel_rfl) fun K' hK=>?_
       go_simp
       rw[←hW6];refine hK.out _ _ ?_
       clear hK K' k0 k1 k2 k3 k4 k5 hW6 hS5;refine Wl.done (by kernel_rfl) ?_
       have htn:=htnH.out;obtain⟨rc,R,b,o,x,c0,hLR,hRV,hRl,x0,x1,x2,hxq,R1,R2⟩:=T6.out.num htn hjh.out;obtain⟨xb,X⟩:=rw_rr hxq R1 R2;obtain⟨q1,hq1⟩:∃ q:Rat,q=1:=⟨_,rfl⟩;obtain⟨ci,hci⟩:∃ q:Rat,q=1 / el M1 tp j:=⟨_,rfl⟩;obtain⟨rt,hrt⟩:∃ r,r=M1.getD tp []:=⟨_,rfl⟩;have hRV:R.map rwV=rt.map qV:=by rw[hrt];exact hRV
       have hRl:rt.length=k:=by rw[hrt];exact hRl
       have hF2:Hid (∀ W,Calls Tryz.prog 36 #[.int .i64 1] W (RetR q1 W)):=Lib.hid (by rw[hq1];exact hF1.out)
       have hQu:Hid (∀ W A' n' c' D' m' d',Below W6.heap.size W6 W→RR W A' n' c' D' m' d' q1→Calls Tryz.prog 84 #[.agg #[.bool (ng q1.num),.slice A' n' c',.slice D' m' d'],.agg #[.bool x.b,.slice x.x.A x.x.n x.x.c,.slice x.y.A x.y.n x.y.c]] W (RetR ci W)):=Lib.hid fun W A' n' c' D' m' d' hW Z=>by
        have:=fquoQ q1 (el M1 tp j) A' n' c' D' m' d' x.x.A x.x.n x.x.c x.y.A x.y.n x.y.c W Z (X.below hW) (szB_rs (by rw[hq1];exact szB_one)) (el_rs hO1.out tp j) hx0.out
        rw[←xb,hq1,←hci,←hq1] at this;exact this
       have hTi:Hid (∀ W A' n' c' D' m' d',Below W6.heap.size W6 W→RR W A' n' c' D' m' d' ci→Calls Tryz.prog 83 #[.slice (some ⟨b,o,none⟩) k rc,.agg #[.bool (ng ci.num),.slice A' n' c',.slice D' m' d']] W (RowO (timesQ rt ci) W)):=Lib.hid fun W A' n' c' D' m' d' hW Z=>
        timesR_any rt ci R (some ⟨b,o,none⟩) k rc ⟨ng ci.num,⟨A',n',c',limbs ci.num.natAbs⟩,⟨D',m',d',dn ci⟩⟩ W (hLR.bel hW) hRV (fun q hq=>okM_rs hO1.out (i:=tp) q (by rw[←hrt];exact hq)) (by have:=hk1.out;omega) rfl Z.n Z.d (szB_rs (by rw[hci];exact K1.out))
       have hnr:Hid (nrm M1 j tp=M1.set tp (timesQ rt ci)):=Lib.hid (by rw[hrt,hci];rfl)
       have hrl:Hid ((timesQ rt ci).length=k):=Lib.hid (by rw[timesQ_len];exact hRl)
       have g6:(0:Int)≤(tp:Int):=by omega
       have g7:(tp:Int)<(n:Int):=by omega
       clear hLR hRV hRl hxq R1 R2 xb X hci hrt htn;replace c0:=Lib.hid c0;replace x0:=Lib.hid x0;replace x1:=Lib.hid x1;replace x2:=Lib.hid x2;replace hq1:=Lib.hid hq1;go_upto_region 16 with fail
       refine Wl.start (fun W=>Below W6.heap.size W6 W) [17] rfl ?_
       have hS:Below W6.heap.size W6 W6.drew:=(Below.refl _ _).drew;refine Wl.t (i:=0) (v:=.slice (some ⟨g,0,none⟩) n cg) (some 72) at0 (hy:=fun _ _=>by kernel_rfl) (hS:=hS) (h:=?_)
       refine Wl.t (i:=1) (v:=.int .i64 tp) (some 73) at1 (hy:=fun _ _=>by kernel_rfl) (hS:=hS) (h:=?_)
       refine Wl.t (i:=2) (v:=.slice (some ⟨g,0,none⟩) n cg) (some 74) at2 (hy:=fun _ _=>by kernel_rfl) (hS:=hS) (h:=?_)
       refine Wl.t (i:=3) (v:=.int .i64 tp) (some 75) at3 (hy:=fun _ _=>by kernel_rfl) (hS:=hS) (h:=?_)
       refine Wl.t (i:=4) (v:=.pointer (some ⟨g,tp,none⟩)) (some 76) at4 (hy:=fun _ _=>by go_simp) (hS:=hS) (h:=?_)
       refine Wl.t (i:=5) (v:=.slice (some ⟨b,o,none⟩) k rc) (some 77) at5 (hy:=fun W hS=>by (have k0:=bel_cell hS c0.out;clear hS;go_simp)) (hS:=hS) (h:=?_)
       refine Wl.t (i:=7) (v:=.slice (some ⟨g,0,none⟩) n cg) (some 79) at7 (hy:=fun _ _=>by kernel_rfl) (hS:=hS) (h:=?_)
       refine Wl.t (i:=8) (v:=.int .i64 tp) (some 80) at8 (hy:=fun _ _=>by kernel_rfl) (hS:=hS) (h:=?_)
       refine Wl.t (i:=9) (v:=.pointer (some ⟨g,tp,none⟩)) (some 81) at9 (hy:=fun _ _=>by go_simp) (hS:=hS) (h:=?_)
       refine Wl.t (i:=10) (v:=.slice (some ⟨b,o,none⟩) k rc) (some 82) at10 (hy:=fun W hS=>by (have k0:=bel_cell hS c0.out;clear hS;go_simp)) (hS:=hS) (h:=?_)
       refine Wl.t (i:=11) (v:=.int .i64 j) (some 83) at11 (hy:=fun _ _=>by kernel_rfl) (hS:=hS) (h:=?_)
       refine Wl.t (i:=12) (v:=.pointer (some ⟨b,o+j*3,none⟩)) (some 84) at12 (hy:=fun _ _=>by go_simp) (hS:=hS) (h:=?_)
       refine Wl.t (i:=13) (v:=.agg #[.bool x.b,.slice x.x.A x.x.n x.x.c,.slice x.y.A x.y.n x.y.c]) (some 85) at13 (hy:=fun W hS=>by (have k0:=bel_cell hS x0.out;have k1:=bel_cell hS x1.out;have k2:=bel_cell hS x2.out;clear hS;go_simp)) (hS:=hS) (h:=?_)
       try simp only[Act.put,sZ0,sZ1,sZ2]
       refine Wl.g (i:=6) at6 (by kernel_rfl) (by kernel_rfl) fun K' hK=>?_
       refine oper_call (f:=36) (args:=#[.int .i64 1]) rfl (by kernel_rfl) ((hF2.out _).mono ?_)
       rintro e w5 ⟨A5,m5,c5,D5,m6,c6,rfl,X5,bb5⟩;have hS5:Below W6.heap.size W6 w5:=hS.trans (bb5.mono hS.size);refine⟨_,rfl,hK.out _ _ hS5 ?_⟩
       clear hK K' hS bb5
       try simp only[Act.put,sZ0,sZ1,sZ2]
       refine Wl.g (i:=14) at14 (by kernel_rfl) (by kernel_rfl) fun K' hK=>?_
       refine oper_call (f:=84) (args:=#[.agg #[.bool (ng q1.num),.slice A5 m5 c5,.slice D5 m6 c6],.agg #[.bool x.b,.slice x.x.A x.x.n x.x.c,.slice x.y.A x.y.n x.y.c]]) rfl (by kernel_rfl) ((hQu.out _ _ _ _ _ _ _ hS5 X5).mono ?_)
       rintro e w7 ⟨A7,m7,c7,D7,m8,c8,rfl,X7,bb7⟩;have hS7:Below W6.heap.size W6 w7:=hS5.trans (bb7.mono hS5.size);refine⟨_,rfl,hK.out _ _ hS7 ?_⟩
       clear hK K' hS5 bb7 X5
       try simp only[Act.put,sZ0,sZ1,sZ2]
       refine Wl.g (i:=15) at15 (by kernel_rfl) (by kernel_rfl) fun K' hK=>?_
       refine oper_call (f:=83) (args:=#[.slice (some ⟨b,o,none⟩) k rc,.agg #[.bool (ng ci.num),.slice A7 m7 c7,.slice D7 m8 c8]]) rfl (by kernel_rfl) ((hTi.out _ _ _ _ _ _ _ hS7 X7).mono ?_)
       rintro e w8 ⟨A9,c9,L9,bs9,rs9,rfl,S9,I9,V9⟩;have hS8:Below W6.heap.size W6 w8:=hS7.trans (S9.bel.mono hS7.size);have hl9:L9.length=k:=by have:=congrArg List.length V9;rw[List.length_map,List.length_map,hrl.out] at this;exact this
       have T7:=T6.out.call hS7;have T8:=T6.out.call hS8;obtain⟨W9,hW9,T9⟩:∃ W,W=World.setCell w8 ⟨g,tp,none⟩ (.slice A9 k c9)∧RSt w W g fb zb n k (.slice pA tp pc) ⟨nrm M1 j tp,s.p,f1*el M1 tp j⟩:=⟨_,rfl,by rw[hnr.out];exact T7.put S9 I9 V9 hrl.out⟩
       obtain⟨_,_,_,k0,_⟩:=T8.row htnH.out;have k3:=T8.cells.1 tp;replace T9:=Lib.hid T9;rw[hl9];refine⟨_,rfl,hK.out _ _ hS8 ?_⟩
       clear hK K' hS7 X7 S9 I9 V9 T7 T8 T6 hF2 hQu hTi c0 x0 x1 x2
       try simp only[Act.put,sZ0,sZ1,sZ2]
       refine Wl.t (i:=16) (v:=.pointer (some ⟨g,tp,none⟩)) (some 88) at16 (hy:=fun _ _=>by go_simp) (hS:=hS8) (h:=?_)
       try simp only[Act.put,sZ0,sZ1,sZ2]
       refine Wl.s (i:=17) at17 (by kernel_rfl) (by kernel_rfl) (by kernel_rfl) fun K' hK=>?_
       go_simp
       rw[←hW9];refine hK.out _ _ ?_
       clear hK K' k0 k3 hW9 hS8;refine Wl.done (by kernel_rfl) ?_
       obtain⟨M2,hM2⟩:∃ M2,M2=nrm M1 j tp:=⟨_,rfl⟩;obtain⟨f2,hf2⟩:∃ f2,f2=f1*el M1 tp j:=⟨_,rfl⟩;simp only[←hM2,←hf2] at T9 K2 K3 hgo2 hru2;clear K1 hnr hrl hO1 hRf hx0;replace hM2:=Lib.hid hM2;replace hf2:=Lib.hid hf2;go_wp2
       go_loopw [10] (fun iv wr=>∃ i:Nat,i≤n∧iv=.int .i64 i∧RSt w wr g fb zb n k (.slice pA tp pc) ⟨rws M2 j tp i,s.p,f2⟩) (fun iv _=>n-(intOf iv).toNat)
       case atStart=>exact⟨0,Nat.zero_le _,rfl,T9.out⟩
       case round=>
        clear T9;obtain⟨i,hin,rfl,T⟩:=hrel;rename World=>V0
        replace T:=Lib.hid T
        by_cases hlt:i<n
        ·have g9:(i:Int)<(n:Int):=by omega
         have g10:(0:Int)≤(i:Int):=by omega
         have hih:=Lib.hid hlt;have hn1h:=hn1.out;clear hlt hin
         by_cases hit:i=tp
         ·have hit:=hit.symm
          have g11:(i:Int)=(tp:Int):=by omega
          have T2:Hid (RSt w V0 g fb zb n k (.slice pA tp pc) ⟨rws M2 j tp (i+1),s.p,f2⟩):=Lib.hid (by
           show RSt w V0 g fb zb n k (.slice pA tp pc) ⟨rw1 (rws M2 j tp i) j tp i,s.p,f2⟩
           unfold rw1;rw[if_pos hit.symm];exact T.out)
          clear T hit;go_wp2;have hii:=hih.out
          go_roundw
          case rel=>exact⟨i+1,by omega,by go_num,T2.out⟩
          case measure=>simp[intOf];omega
         ·have g11:¬ ((i:Int)=(tp:Int)):=by omega
          replace hit:=Lib.hid hit;go_upto_region 21 with fail
          obtain⟨Mi,hMi⟩:∃ M',M'=rws M2 j tp i:=⟨_,rfl⟩;have hOi:okM Mi=true:=by rw[hMi];exact okR_le K3.out (by have:=hih.out;omega)
          have hOk:=okR_at K3.out hih.out;rw[←hMi] at hOk;obtain⟨sc,R,b,o,x,c0,hLR,hRV,hRl,x0,x1,x2,hxq,R1,R2⟩:=T.out.num hih.out hjh.out;obtain⟨A2,rc,Rt,d0,hLRt,hRVt,hRlt⟩:=T.out.row htnH.out;obtain⟨xb,X⟩:=rw_rr hxq R1 R2;simp only[←hMi] at hRV hRl hRVt hRlt X xb;obtain⟨ni,hni⟩:∃ q:Rat,q = -(el Mi i j):=⟨_,rfl⟩;obtain⟨rt,hrt⟩:∃ r,r=Mi.getD tp []:=⟨_,rfl⟩;obtain⟨ri,hri⟩:∃ r,r=Mi.getD i []:=⟨_,rfl⟩
          rw[←hrt] at hRVt hRlt hOk;rw[←hri] at hRV hRl;rw[←hni] at hOk;have hkk:=hk1.out;have hNe:Hid (∀ W,Below V0.heap.size V0 W→Calls Tryz.prog 64 #[.agg #[.bool x.b,.slice x.x.A x.x.n x.x.c,.slice x.y.A x.y.n x.y.c]] W (RetR ni W)):=Lib.hid fun W hW=>by
           have:=fnegQ (el Mi i j) x.x.A x.x.n x.x.c x.y.A x.y.n x.y.c W (X.below hW) (el_rs hOi i j);rw[←xb,←hni] at this;exact this
          have hTi:Hid (∀ W A' n' c' D' m' d',Below V0.heap.size V0 W→RR W A' n' c' D' m' d' ni→Calls Tryz.prog 83 #[.slice A2 k rc,.agg #[.bool (ng ni.num),.slice A' n' c',.slice D' m' d']] W (RowO (timesQ rt ni) W)):=Lib.hid fun W A' n' c' D' m' d' hW Z=>
           timesR_any rt ni Rt A2 k rc ⟨ng ni.num,⟨A',n',c',limbs ni.num.natAbs⟩,⟨D',m',d',dn ni⟩⟩ W (hLRt.bel hW) hRVt (fun q hq=>okM_rs hOi (i:=tp) q (by rw[←hrt];exact hq)) (by omega) rfl Z.n Z.d (szB_rs hOk.1)
          have hPl:Hid (∀ W A' c' (L':List Gw),Below V0.heap.size V0 W→LR rwC W A' k L'→L'.map rwV=(timesQ rt ni).map qV→Calls Tryz.prog 85 #[.slice (some ⟨b,o,none⟩) k sc,.slice A' k c'] W (RowO (plusQ ri (timesQ rt ni)) W)):=Lib.hid fun W A' c' L' hW hL' hV'=>
           plusR_any ri (timesQ rt ni) R L' (some ⟨b,o,none⟩) k sc A' c' W (hLR.bel hW) hL' hRV hV' (fun q hq=>okM_rs hOi (i:=i) q (by rw[←hri];exact hq)) (fun q hq=>szB_rs (List.all_eq_true.1 hOk.2 q hq)) (by omega)
          have hrw:Hid (rws M2 j tp (i+1)=Mi.set i (plusQ ri (timesQ rt ni))):=Lib.hid (by
           show rw1 (rws M2 j tp i) j tp i=_
           unfold rw1;rw[if_neg hit.out,←hMi,←hri,←hrt,←hni])
          have hrl:Hid ((timesQ rt ni).length=k):=Lib.hid (by rw[timesQ_len];exact hRlt)
          have hpl:Hid ((plusQ ri (timesQ rt ni)).length=k):=Lib.hid (by rw[plusQ_len (by rw[hrl.out];exact hRl)];exact hRl)
          have g6:(0:Int)≤(tp:Int):=by omega
          have g7:(tp:Int)<(n:Int):=by have:=htnH.out;omega
          rw[←hMi] at T;clear hLR hRV hRl hLRt hRVt hRlt hxq R1 R2 xb X hni hrt hri hOk hOi hkk;replace c0:=Lib.hid c0;replace d0:=Lib.hid d0;replace x0:=Lib.hid x0;replace x1:=Lib.hid x1;replace x2:=Lib.hid x2;replace hMi:=Lib.hid hMi;refine Wl.start (fun W=>Below V0.heap.size V0 W) [21] rfl ?_
          have hS:Below V0.heap.size V0 V0.drew:=(Below.refl _ _).drew;refine Wl.t (i:=0) (v:=.slice (some ⟨g,0,none⟩) n cg) (some 98) at0 (hy:=fun _ _=>by kernel_rfl) (hS:=hS) (h:=?_)
          refine Wl.t (i:=1) (v:=.int .i64 i) (some 99) at1 (hy:=fun _ _=>by kernel_rfl) (hS:=hS) (h:=?_)
          refine Wl.t (i:=2) (v:=.slice (some ⟨g,0,none⟩) n cg) (some 100) at2 (hy:=fun _ _=>by kernel_rfl) (hS:=hS) (h:=?_)
          refine Wl.t (i:=3) (v:=.int .i64 i) (some 101) at3 (hy:=fun _ _=>by kernel_rfl) (hS:=hS) (h:=?_)
          refine Wl.t (i:=4) (v:=.pointer (some ⟨g,i,none⟩)) (some 102) at4 (hy:=fun _ _=>by go_simp) (hS:=hS) (h:=?_)
          refine Wl.t (i:=5) (v:=.slice (some ⟨b,o,none⟩) k sc) (some 103) at5 (hy:=fun W hS=>by (have k0:=bel_cell hS c0.out;clear hS;go_simp)) (hS:=hS) (h:=?_)
          refine Wl.t (i:=6) (v:=.slice (some ⟨g,0,none⟩) n cg) (some 104) at6 (hy:=fun _ _=>by kernel_rfl) (hS:=hS) (h:=?_)
          refine Wl.t (i:=7) (v:=.int .i64 tp) (some 105) at7 (hy:=fun _ _=>by kernel_rfl) (hS:=hS) (h:=?_)
          refine Wl.t (i:=8) (v:=.pointer (some ⟨g,tp,none⟩)) (some 106) at8 (hy:=fun _ _=>by go_simp) (hS:=hS) (h:=?_)
          refine Wl.t (i:=9) (v:=.slice A2 k rc) (some 107) at9 (hy:=fun W hS=>by (have k0:=bel_cell hS d0.out;clear hS;go_simp)) (hS:=hS) (h:=?_)
          refine Wl.t (i:=10) (v:=.slice (some ⟨g,0,none⟩) n cg) (some 108) at10 (hy:=fun _ _=>by kernel_rfl) (hS:=hS) (h:=?_)
          refine Wl.t (i:=11) (v:=.int .i64 i) (some 109) at11 (hy:=fun _ _=>by kernel_rfl) (hS:=hS) (h:=?_)
          refine Wl.t (i:=12) (v:=.pointer (some ⟨g,i,none⟩)) (some 110) at12 (hy:=fun _ _=>by go_simp) (hS:=hS) (h:=?_)
          refine Wl.t (i:=13) (v:=.slice (some ⟨b,o,none⟩) k sc) (some 111) at13 (hy:=fun W hS=>by (have k0:=bel_cell hS c0.out;clear hS;go_simp)) (hS:=hS) (h:=?_)
          refine Wl.t (i:=14) (v:=.int .i64 j) (some 112) at14 (hy:=fun _ _=>by kernel_rfl) (hS:=hS) (h:=?_)
          refine Wl.t (i:=15) (v:=.pointer (some ⟨b,o+j*3,none⟩)) (some 113) at15 (hy:=fun _ _=>by go_simp) (hS:=hS) (h:=?_)
          refine Wl.t (i:=16) (v:=.agg #[.bool x.b,.slice x.x.A x.x.n x.x.c,.slice x.y.A x.y.n x.y.c]) (some 114) at16 (hy:=fun W hS=>by (have k0:=bel_cell hS x0.out;have k1:=bel_cell hS x1.out;have k2:=bel_cell hS x2.out;clear hS;go_simp)) (hS:=hS) (h:=?_)
          try simp only[Act.put,sZ0,sZ1,sZ2]
          refine Wl.g (i:=17) at17 (by kernel_rfl) (by kernel_rfl) fun K' hK=>?_
          refine oper_call (f:=64) (args:=#[.agg #[.bool x.b,.slice x.x.A x.x.n x.x.c,.slice x.y.A x.y.n x.y.c]]) rfl (by kernel_rfl) ((hNe.out _ hS).mono ?_)
          rintro e w5 ⟨A5,m5,c5,D5,m6,c6,rfl,X5,bb5⟩;have hS5:Below V0.heap.size V0 w5:=hS.trans (bb5.mono hS.size);refine⟨_,rfl,hK.out _ _ hS5 ?_⟩
          clear hK K' hS bb5
          try simp only[Act.put,sZ0,sZ1,sZ2]
          refine Wl.g (i:=18) at18 (by kernel_rfl) (by kernel_rfl) fun K' hK=>?_
          refine oper_call (f:=83) (args:=#[.slice A2 k rc,.agg #[.bool (ng ni.num),.slice A5 m5 c5,.slice D5 m6 c6]]) rfl (by kernel_rfl) ((hTi.out _ _ _ _ _ _ _ hS5 X5).mono ?_)
          rintro e w7 ⟨A7,c7,L7,bs7,rs7,rfl,S7,I7,V7⟩;have hS7:Below V0.heap.size V0 w7:=hS5.trans (S7.bel.mono hS5.size);have hl7:L7.length=k:=by have:=congrArg List.length V7;rw[List.length_map,List.length_map,hrl.out] at this;exact this
          have R7:=I7.lr S7;rw[hl7] at R7 ⊢;refine⟨_,rfl,hK.out _ _ hS7 ?_⟩
          clear hK K' hS5 X5 S7 I7
          try simp only[Act.put,sZ0,sZ1,sZ2]
          refine Wl.g (i:=19) at19 (by kernel_rfl) (by kernel_rfl) fun K' hK=>?_
          refine oper_call (f:=85) (args:=#[.slice (some ⟨b,o,none⟩) k sc,.slice A7 k c7]) rfl (by kernel_rfl) ((hPl.out _ _ _ _ hS7 R7 V7).mono ?_)
          rintro e w8 ⟨A9,c9,L9,bs9,rs9,rfl,S9,I9,V9⟩;have hS8:Below V0.heap.size V0 w8:=hS7.trans (S9.bel.mono hS7.size);have hl9:L9.length=k:=by have:=congrArg List.length V9;rw[List.length_map,List.length_map,hpl.out] at this;exact this
          have T7:=T.out.call hS7;have T8:=T.out.call hS8;obtain⟨W9,hW9,T9⟩:∃ W,W=World.setCell w8 ⟨g,i,none⟩ (.slice A9 k c9)∧RSt w W g fb zb n k (.slice pA tp pc) ⟨rws M2 j tp (i+1),s.p,f2⟩:=⟨_,rfl,by rw[hrw.out];exact T7.put S9 I9 V9 hpl.out⟩
          obtain⟨_,_,_,k0,_⟩:=T8.row hih.out;have k3:=T8.cells.1 i;replace T9:=Lib.hid T9;rw[hl9];refine⟨_,rfl,hK.out _ _ hS8 ?_⟩
          clear hK K' hS7 R7 V7 S9 I9 V9 T7 T8 T hNe hTi hPl c0 d0 x0 x1 x2
          try simp only[Act.put,sZ0,sZ1,sZ2]
          refine Wl.t (i:=20) (v:=.pointer (some ⟨g,i,none⟩)) (some 118) at20 (hy:=fun _ _=>by go_simp) (hS:=hS8) (h:=?_)
          try simp only[Act.put,sZ0,sZ1,sZ2]
          refine Wl.s (i:=21) at21 (by kernel_rfl) (by kernel_rfl) (by kernel_rfl) fun K' hK=>?_
          go_simp
          rw[←hW9];refine hK.out _ _ ?_
          clear hK K' k0 k3 hW9 hS8;refine Wl.done (by kernel_rfl) ?_
          have hii:=hih.out
          go_simp
          go_wp2
          go_roundw
          case rel=>exact⟨i+1,by omega,by go_num,T9.out⟩
          case measure=>simp[intOf];omega
        ·obtain rfl:n=i:=by omega
         clear hlt hin;obtain⟨cur,bs,rs,L,y,z,G0,h1,h2,h3,h4,h5,h6,h7⟩:=T.out;have GA:=Lib.hid (G0.alloc #[.int .i64 j] 3 (noLof rfl));have hpl:Hid ((s.p.map Int.ofNat).length=tp):=Lib.hid (by rw[List.length_map];exact htp.out.symm)
         have hRe:Hid (∀ v' W',Gro intC w W' ((g,cur,23)::(fb,y.vs,45)::(zb,z.vs,45)::bs) rs 3 v' (s.p.map Int.ofNat++[(j:Int)])→RSt w W' g fb zb n k v' ⟨rws M2 j tp n,s.p++[j],f2⟩):=Lib.hid fun v' W' G'=>⟨cur,bs,rs,L,y,z,by
          show Gro intC _ _ _ _ _ _ ((s.p++[j]).map Int.ofNat)
          rw[List.map_append];exact G',h1,h2,h3,h4,h5,h6,h7⟩
         have hOn:Hid (okM (rws M2 j tp n)=true):=Lib.hid (okR_le K3.out (Nat.le_refl _));clear T G0 h1 h2 h3 h4 h5 h6 h7
         go_wp2_with (at_builtin;refine Gro.wp rfl (.tmp 119) (.tmp 121) 36 rfl (.int .i64 0) 8 Tryz.underlying36 (by kernel_rfl) rfl (fun v hv z e=>by simp[Value.cells] at hv;subst hv;cases e) (by show Value.slice _ _ _=_;rfl) GA.out V0.heap.size (j:Int) rfl ((GA.out.st).cb 0 rfl) trivial (by rw[hpl.out];have:=htnH.out;have:=hn1.out;omega) (by rw[hpl.out];have:=htnH.out;have:=hn1.out;unfold maxLen;omega) ?_)
         intro v' w5 G5;have T9:=Lib.hid (hRe.out v' w5 (Gro.sub G5 (fun _ _=>trivial)))
         clear G5 GA hRe hpl;have hjj:=hjh.out;have hkk:=hk1.out;go_wp2
         go_roundw
         case rel=>exact⟨j+1,⟨rws M2 j tp n,s.p++[j],f2⟩,_,rfl,by omega,by go_num,T9.out,by rw[List.length_append,←htp.out];have:=htnH.out;simp;omega,hOn.out,K2.out,hgo2.out,hru2.out⟩
         case measure=>simp[intOf];omega
      ·have hg2:¬ gat j s=s.p.length:=by rw[←hga2.out,←htp.out];exact hat
       have g8:¬ ((a:Int)=(tp:Int)):=by omega
       have htn:=htnH.out;have haa:=hah.out;obtain⟨At,ct,_,c0,_⟩:=T1.out.row htn;obtain⟨Aa,ca,_,d0,_⟩:=T1.out.row haa;obtain⟨W3,hW3,T3⟩:∃ W,W=(World.setCell (World.setCell W2 ⟨g,a,none⟩ (.slice At k ct)) ⟨g,tp,none⟩ (.slice Aa k ca)).drew∧RSt w W g fb zb n k (.slice pA tp pc) ⟨swp s.M a tp,s.p,s.f⟩:=⟨_,rfl,(T1.out.swap haa htn d0 c0).call ((Below.refl _ _).drew)⟩;have k3:=T1.out.cells.1 a;have g6:(0:Int)≤(tp:Int):=by omega
       have g7:(tp:Int)<(n:Int):=by omega
       have g9:(0:Int)≤(a:Int):=by omega
       have g10:(a:Int)<(n:Int):=by omega
       have e1:gm1 j s=swp s.M a tp:=by unfold gm1;rw[if_neg hg2,←hga2.out,←htp.out]
       have e2:gf1 j s = -s.f:=if_neg hg2;have hgat:=hga2.out;have T4:Hid (RSt w W3 g fb zb n k (.slice pA tp pc) ⟨M1,s.p,s.f⟩):=Lib.hid (by rw[hM1,e1];exact T3)
       have hO1:Hid (okM M1=true):=Lib.hid (by rw[hM1,e1];exact okM_swp hO.out a tp)
       have hRf:Hid (Rs f1 9900000):=Lib.hid (by rw[hf1,e2];exact (szB_rs hf.out).neg)
       have hx0:Hid (el M1 tp j≠0):=Lib.hid (by rw[hM1,e1,el_swp (by rw[hlen.out];exact htn),←hq.out];exact fun e=>hz.out (by rw[e];rfl))
       have hfr:Hid (Rs s.f 9900000):=Lib.hid (szB_rs hf.out);have hfn:Hid (f1 = -s.f):=Lib.hid (by rw[hf1,e2])
       clear hM1 hf1 e1 e2 hg2 T3 hO hf hq hz hga2 htn haa hgat;have c0h:=Lib.hid c0;have k6s:=Lib.hid (T1.out.cells.1 tp);have hne1:¬ (a=tp):=hat;have hne2:¬ (tp=a):=fun e=>hat e.symm
       clear T1 hat;replace c0:=Lib.hid c0;replace d0:=Lib.hid d0;replace k3:=Lib.hid k3;go_wp2;refine Wl.start (fun W=>Below W2.heap.size W2 W) [13,15] rfl ?_
       have hS:Below W2.heap.size W2 W2.drew:=(Below.refl _ _).drew;refine Wl.t (i:=0) (v:=.slice (some ⟨g,0,none⟩) n cg) (some 47) at0 (hy:=fun _ _=>by kernel_rfl) (hS:=hS) (h:=?_)
       refine Wl.t (i:=1) (v:=.int .i64 a) (some 48) at1 (hy:=fun _ _=>by kernel_rfl) (hS:=hS) (h:=?_)
       refine Wl.p (i:=2) (v:=.slice (some ⟨g,0,none⟩) n cg) (some 49) at2 (hy:=fun _=>by kernel_rfl) (hS:=fun _=>hS) (h:=?_)
       refine Wl.p (i:=3) (v:=.int .i64 tp) (some 50) at3 (hy:=fun _=>by kernel_rfl) (hS:=fun _=>hS) (h:=?_)
       refine Wl.t (i:=4) (v:=.slice (some ⟨g,0,none⟩) n cg) (some 51) at4 (hy:=fun _ _=>by kernel_rfl) (hS:=hS) (h:=?_)
       refine Wl.t (i:=5) (v:=.int .i64 tp) (some 52) at5 (hy:=fun _ _=>by kernel_rfl) (hS:=hS) (h:=?_)
       refine Wl.t (i:=6) (v:=.pointer (some ⟨g,tp,none⟩)) (some 53) at6 (hy:=fun _ _=>by go_simp) (hS:=hS) (h:=?_)
       refine Wl.t (i:=7) (v:=.slice At k ct) (some 54) at7 (hy:=fun W hS=>by (have k0:=bel_cell hS c0.out;clear hS;go_simp)) (hS:=hS) (h:=?_)
       refine Wl.t (i:=8) (v:=.slice (some ⟨g,0,none⟩) n cg) (some 55) at8 (hy:=fun _ _=>by kernel_rfl) (hS:=hS) (h:=?_)
       refine Wl.t (i:=9) (v:=.int .i64 a) (some 56) at9 (hy:=fun _ _=>by kernel_rfl) (hS:=hS) (h:=?_)
       refine Wl.t (i:=10) (v:=.pointer (some ⟨g,a,none⟩)) (some 57) at10 (hy:=fun _ _=>by go_simp) (hS:=hS) (h:=?_)
       refine Wl.t (i:=11) (v:=.slice Aa k ca) (some 58) at11 (hy:=fun W hS=>by (have k0:=bel_cell hS d0.out;clear hS;go_simp)) (hS:=hS) (h:=?_)
       refine Wl.p (i:=12) (v:=.pointer (some ⟨g,a,none⟩)) (some 59) at12 (hy:=fun _=>by go_simp) (hS:=fun _=>hS) (h:=?_)
       have c0:W2.cell? ⟨g,a,none⟩=some (.slice Aa k ca):=d0.out;have c0s:Hid (W2.cell? ⟨g,tp,none⟩=some (.slice At k ct)):=Lib.hid c0h.out;have k3:=k3.out
       try simp only[Act.put,sZ0,sZ1,sZ2]
       refine Wl.s (i:=13) at13 (by kernel_rfl) (by kernel_rfl) (by kernel_rfl) fun K' hK=>?_
       go_simp
       refine hK.out _ _ ?_
       clear hK K' c0 k3 hS
       try simp only[Act.put,sZ0,sZ1,sZ2]
       refine Wl.s (i:=14) at14 (by kernel_rfl) (by kernel_rfl) (by kernel_rfl) fun K' hK=>?_
       go_simp
       refine hK.out _ _ ?_
       clear hK K';have c1:W2.cell? ⟨g,tp,none⟩=some (.slice At k ct):=c0s.out;have k6:=k6s.out
       try simp only[Act.put,sZ0,sZ1,sZ2]
       refine Wl.s (i:=15) at15 (by kernel_rfl) (by kernel_rfl) (by kernel_rfl) fun K' hK=>?_
       go_simp
       rw[←hW3];refine hK.out _ _ ?_
       clear hK K' hW3 c0 d0 c1 k6 hne1 hne2 c0s c0h k6s;refine Wl.done (by kernel_rfl) ?_
       obtain⟨y,y0,y1,y2,hyq,Y1,Y2⟩:=T4.out.fac;obtain⟨yb,Y⟩:=rw_rr hyq Y1 Y2;have hNe:Hid (Calls Tryz.prog 64 #[.agg #[.bool y.b,.slice y.x.A y.x.n y.x.c,.slice y.y.A y.y.n y.y.c]] W3 (RetR f1 W3)):=Lib.hid (by
        have:=fnegQ s.f y.x.A y.x.n y.x.c y.y.A y.y.n y.y.c W3 Y hfr.out;rw[←yb,←hfn.out] at this;exact this)
       clear hyq Y1 Y2 yb Y hfr hfn
       go_wp2_with fail
       refine hNe.out.mono ?_
       rintro e w5 ⟨A5,m5,c5,D5,m6,c6,rfl,X5,bb5⟩;have T5:=T4.out.call bb5;obtain⟨W2,hW4,T⟩:∃ W,W=World.setCell (World.setCell (World.setCell w5 ⟨fb,0,none⟩ (.bool (ng f1.num))) ⟨fb,1,none⟩ (.slice A5 m5 c5)) ⟨fb,2,none⟩ (.slice D5 m6 c6)∧RSt w W g fb zb n k (.slice pA tp pc) ⟨M1,s.p,f1⟩:=⟨_,rfl,T4.out.putf X5 bb5⟩;obtain⟨_,k0,k1,k2,_⟩:=T5.fac;have k3:=T5.cells.2.1 0;have k4:=T5.cells.2.1 1;have k5:=T5.cells.2.1 2
       replace T:=Lib.hid T;clear y0 y1 y2 bb5 X5 T5 T4 hNe;go_wp2;rw[←hW4];clear k0 k1 k2 k3 k4 k5 hW4;have htn:=htnH.out;obtain⟨rc,R,b,o,x,c0,_,_,_,x0,x1,x2,hxq,R1,R2⟩:=T.out.num htn hjh.out;obtain⟨y,y0,y1,y2,hyq,Y1,Y2⟩:=T.out.fac;obtain⟨xb,X⟩:=rw_rr hxq R1 R2;obtain⟨yb,Y⟩:=rw_rr hyq Y1 Y2;have hMu:Hid (∀ W,Below W2.heap.size W2 W→Calls Tryz.prog 72 #[.agg #[.bool y.b,.slice y.x.A y.x.n y.x.c,.slice y.y.A y.y.n y.y.c],.agg #[.bool x.b,.slice x.x.A x.x.n x.x.c,.slice x.y.A x.y.n x.y.c]] W (RetR (f1*el M1 tp j) W)):=Lib.hid fun W hW=>by
        have:=fmulQ f1 (el M1 tp j) y.x.A y.x.n y.x.c y.y.A y.y.n y.y.c x.x.A x.x.n x.x.c x.y.A x.y.n x.y.c W (Y.below hW) (X.below hW) hRf.out (el_rs hO1.out tp j);rw[←xb,←yb] at this;exact this
       have g6:(0:Int)≤(tp:Int):=by omega
       have g7:(tp:Int)<(n:Int):=by omega
       replace c0:=Lib.hid c0;replace x0:=Lib.hid x0;replace x1:=Lib.hid x1;replace x2:=Lib.hid x2;replace y0:=Lib.hid y0;replace y1:=Lib.hid y1;replace y2:=Lib.hid y2;clear hxq R1 R2 hyq Y1 Y2 xb X yb Y htn;refine Wl.start (fun W=>Below W2.heap.size W2 W) [9] rfl ?_
       have hS:Below W2.heap.size W2 W2.drew:=(Below.refl _ _).drew;refine Wl.t (i:=0) (v:=.agg #[.bool y.b,.slice y.x.A y.x.n y.x.c,.slice y.y.A y.y.n y.y.c]) (some 63) at0 (hy:=fun W hS=>by (have k0:=bel_cell hS y0.out;have k1:=bel_cell hS y1.out;have k2:=bel_cell hS y2.out;clear hS;go_simp)) (hS:=hS) (h:=?_)
       refine Wl.t (i:=1) (v:=.slice (some ⟨g,0,none⟩) n cg) (some 64) at1 (hy:=fun _ _=>by kernel_rfl) (hS:=hS) (h:=?_)
       refine Wl.t (i:=2) (v:=.int .i64 tp) (some 65) at2 (hy:=fun _ _=>by kernel_rfl) (hS:=hS) (h:=?_)
       refine Wl.t (i:=3) (v:=.pointer (some ⟨g,tp,none⟩)) (some 66) at3 (hy:=fun _ _=>by go_simp) (hS:=hS) (h:=?_)
       refine Wl.t (i:=4) (v:=.slice (some ⟨b,o,none⟩) k rc) (some 67) at4 (hy:=fun W hS=>by (have k0:=bel_cell hS c0.out;clear hS;go_simp)) (hS:=hS) (h:=?_)
       refine Wl.t (i:=5) (v:=.int .i64 j) (some 68) at5 (hy:=fun _ _=>by kernel_rfl) (hS:=hS) (h:=?_)
       refine Wl.t (i:=6) (v:=.pointer (some ⟨b,o+j*3,none⟩)) (some 69) at6 (hy:=fun _ _=>by go_simp) (hS:=hS) (h:=?_)
       refine Wl.t (i:=7) (v:=.agg #[.bool x.b,.slice x.x.A x.x.n x.x.c,.slice x.y.A x.y.n x.y.c]) (some 70) at7 (hy:=fun W hS=>by (have k0:=bel_cell hS x0.out;have k1:=bel_cell hS x1.out;have k2:=bel_cell hS x2.out;clear hS;go_simp)) (hS:=hS) (h:=?_)
       try simp only[Act.put,sZ0,sZ1,sZ2]
       refine Wl.g (i:=8) at8 (by kernel_rfl) (by kernel_rfl) fun K' hK=>?_
       refine oper_call (f:=72) (args:=#[.agg #[.bool y.b,.slice y.x.A y.x.n y.x.c,.slice y.y.A y.y.n y.y.c],.agg #[.bool x.b,.slice x.x.A x.x.n x.x.c,.slice x.y.A x.y.n x.y.c]]) rfl (by kernel_rfl) ((hMu.out _ hS).mono ?_)
       rintro e w5 ⟨A5,m5,c5,D5,m6,c6,rfl,X5,bb5⟩;have hS5:Below W2.heap.size W2 w5:=hS.trans (bb5.mono hS.size);have T5:=T.out.call hS5;obtain⟨W6,hW6,T6⟩:∃ W,W=World.setCell (World.setCell (World.setCell w5 ⟨fb,0,none⟩ (.bool (ng (f1*el M1 tp j).num))) ⟨fb,1,none⟩ (.slice A5 m5 c5)) ⟨fb,2,none⟩ (.slice D5 m6 c6)∧RSt w W g fb zb n k (.slice pA tp pc) ⟨M1,s.p,f1*el M1 tp j⟩:=⟨_,rfl,T.out.putf X5 hS5⟩
       obtain⟨_,k0,k1,k2,_⟩:=T5.fac;have k3:=T5.cells.2.1 0;have k4:=T5.cells.2.1 1;have k5:=T5.cells.2.1 2;replace T6:=Lib.hid T6;refine⟨_,rfl,hK.out _ _ hS5 ?_⟩
       clear hK K' hS bb5 X5 T5 T hMu c0 x0 x1 x2 y0 y1 y2
       try simp only[Act.put,sZ0,sZ1,sZ2]
       refine Wl.s (i:=9) at9 (by kernel_rfl) (by kernel_rfl) (by kernel_rfl) fun K' hK=>?_
       go_simp
       rw[←hW6];refine hK.out _ _ ?_
       clear hK K' k0 k1 k2 k3 k4 k5 hW6 hS5;refine Wl.done (by kernel_rfl) ?_
       have htn:=htnH.out;obtain⟨rc,R,b,o,x,c0,hLR,hRV,hRl,x0,x1,x2,hxq,R1,R2⟩:=T6.out.num htn hjh.out;obtain⟨xb,X⟩:=rw_rr hxq R1 R2;obtain⟨q1,hq1⟩:∃ q:Rat,q=1:=⟨_,rfl⟩;obtain⟨ci,hci⟩:∃ q:Rat,q=1 / el M1 tp j:=⟨_,rfl⟩;obtain⟨rt,hrt⟩:∃ r,r=M1.getD tp []:=⟨_,rfl⟩;have hRV:R.map rwV=rt.map qV:=by rw[hrt];exact hRV
       have hRl:rt.length=k:=by rw[hrt];exact hRl
       have hF2:Hid (∀ W,Calls Tryz.prog 36 #[.int .i64 1] W (RetR q1 W)):=Lib.hid (by rw[hq1];exact hF1.out)
       have hQu:Hid (∀ W A' n' c' D' m' d',Below W6.heap.size W6 W→RR W A' n' c' D' m' d' q1→Calls Tryz.prog 84 #[.agg #[.bool (ng q1.num),.slice A' n' c',.slice D' m' d'],.agg #[.bool x.b,.slice x.x.A x.x.n x.x.c,.slice x.y.A x.y.n x.y.c]] W (RetR ci W)):=Lib.hid fun W A' n' c' D' m' d' hW Z=>by
        have:=fquoQ q1 (el M1 tp j) A' n' c' D' m' d' x.x.A x.x.n x.x.c x.y.A x.y.n x.y.c W Z (X.below hW) (szB_rs (by rw[hq1];exact szB_one)) (el_rs hO1.out tp j) hx0.out
        rw[←xb,hq1,←hci,←hq1] at this;exact this
       have hTi:Hid (∀ W A' n' c' D' m' d',Below W6.heap.size W6 W→RR W A' n' c' D' m' d' ci→Calls Tryz.prog 83 #[.slice (some ⟨b,o,none⟩) k rc,.agg #[.bool (ng ci.num),.slice A' n' c',.slice D' m' d']] W (RowO (timesQ rt ci) W)):=Lib.hid fun W A' n' c' D' m' d' hW Z=>
        timesR_any rt ci R (some ⟨b,o,none⟩) k rc ⟨ng ci.num,⟨A',n',c',limbs ci.num.natAbs⟩,⟨D',m',d',dn ci⟩⟩ W (hLR.bel hW) hRV (fun q hq=>okM_rs hO1.out (i:=tp) q (by rw[←hrt];exact hq)) (by have:=hk1.out;omega) rfl Z.n Z.d (szB_rs (by rw[hci];exact K1.out))
       have hnr:Hid (nrm M1 j tp=M1.set tp (timesQ rt ci)):=Lib.hid (by rw[hrt,hci];rfl)
       have hrl:Hid ((timesQ rt ci).length=k):=Lib.hid (by rw[timesQ_len];exact hRl)
       have g6:(0:Int)≤(tp:Int):=by omega
       have g7:(tp:Int)<(n:Int):=by omega
       clear hLR hRV hRl hxq R1 R2 xb X hci hrt htn;replace c0:=Lib.hid c0;replace x0:=Lib.hid x0;replace x1:=Lib.hid x1;replace x2:=Lib.hid x2;replace hq1:=Lib.hid hq1;go_upto_region 16 with fail
       refine Wl.start (fun W=>Below W6.heap.size W6 W) [17] rfl ?_
       have hS:Below W6.heap.size W6 W6.drew:=(Below.refl _ _).drew;refine Wl.t (i:=0) (v:=.slice (some ⟨g,0,none⟩) n cg) (some 72) at0 (hy:=fun _ _=>by kernel_rfl) (hS:=hS) (h:=?_)
       refine Wl.t (i:=1) (v:=.int .i64 tp) (some 73) at1 (hy:=fun _ _=>by kernel_rfl) (hS:=hS) (h:=?_)
       refine Wl.t (i:=2) (v:=.slice (some ⟨g,0,none⟩) n cg) (some 74) at2 (hy:=fun _ _=>by kernel_rfl) (hS:=hS) (h:=?_)
       refine Wl.t (i:=3) (v:=.int .i64 tp) (some 75) at3 (hy:=fun _ _=>by kernel_rfl) (hS:=hS) (h:=?_)
       refine Wl.t (i:=4) (v:=.pointer (some ⟨g,tp,none⟩)) (some 76) at4 (hy:=fun _ _=>by go_simp) (hS:=hS) (h:=?_)
       refine Wl.t (i:=5) (v:=.slice (some ⟨b,o,none⟩) k rc) (some 77) at5 (hy:=fun W hS=>by (have k0:=bel_cell hS c0.out;clear hS;go_simp)) (hS:=hS) (h:=?_)
       refine Wl.t (i:=7) (v:=.slice (some ⟨g,0,none⟩) n cg) (some 79) at7 (hy:=fun _ _=>by kernel_rfl) (hS:=hS) (h:=?_)
       refine Wl.t (i:=8) (v:=.int .i64 tp) (some 80) at8 (hy:=fun _ _=>by kernel_rfl) (hS:=hS) (h:=?_)
       refine Wl.t (i:=9) (v:=.pointer (some ⟨g,tp,none⟩)) (some 81) at9 (hy:=fun _ _=>by go_simp) (hS:=hS) (h:=?_)
       refine Wl.t (i:=10) (v:=.slice (some ⟨b,o,none⟩) k rc) (some 82) at10 (hy:=fun W hS=>by (have k0:=bel_cell hS c0.out;clear hS;go_simp)) (hS:=hS) (h:=?_)
       refine Wl.t (i:=11) (v:=.int .i64 j) (some 83) at11 (hy:=fun _ _=>by kernel_rfl) (hS:=hS) (h:=?_)
       refine Wl.t (i:=12) (v:=.pointer (some ⟨b,o+j*3,none⟩)) (some 84) at12 (hy:=fun _ _=>by go_simp) (hS:=hS) (h:=?_)
       refine Wl.t (i:=13) (v:=.agg #[.bool x.b,.slice x.x.A x.x.n x.x.c,.slice x.y.A x.y.n x.y.c]) (some 85) at13 (hy:=fun W hS=>by (have k0:=bel_cell hS x0.out;have k1:=bel_cell hS x1.out;have k2:=bel_cell hS x2.out;clear hS;go_simp)) (hS:=hS) (h:=?_)
       try simp only[Act.put,sZ0,sZ1,sZ2]
       refine Wl.g (i:=6) at6 (by kernel_rfl) (by kernel_rfl) fun K' hK=>?_
       refine oper_call (f:=36) (args:=#[.int .i64 1]) rfl (by kernel_rfl) ((hF2.out _).mono ?_)
       rintro e w5 ⟨A5,m5,c5,D5,m6,c6,rfl,X5,bb5⟩;have hS5:Below W6.heap.size W6 w5:=hS.trans (bb5.mono hS.size);refine⟨_,rfl,hK.out _ _ hS5 ?_⟩
       clear hK K' hS bb5
       try simp only[Act.put,sZ0,sZ1,sZ2]
       refine Wl.g (i:=14) at14 (by kernel_rfl) (by kernel_rfl) fun K' hK=>?_
       refine oper_call (f:=84) (args:=#[.agg #[.bool (ng q1.num),.slice A5 m5 c5,.slice D5 m6 c6],.agg #[.bool x.b,.slice x.x.A x.x.n x.x.c,.slice x.y.A x.y.n x.y.c]]) rfl (by kernel_rfl) ((hQu.out _ _ _ _ _ _ _ hS5 X5).mono ?_)
       rintro e w7 ⟨A7,m7,c7,D7,m8,c8,rfl,X7,bb7⟩;have hS7:Below W6.heap.size W6 w7:=hS5.trans (bb7.mono hS5.size);refine⟨_,rfl,hK.out _ _ hS7 ?_⟩
       clear hK K' hS5 bb7 X5
       try simp only[Act.put,sZ0,sZ1,sZ2]
       refine Wl.g (i:=15) at15 (by kernel_rfl) (by kernel_rfl) fun K' hK=>?_
       refine oper_call (f:=83) (args:=#[.slice (some ⟨b,o,none⟩) k rc,.agg #[.bool (ng ci.num),.slice A7 m7 c7,.slice D7 m8 c8]]) rfl (by kernel_rfl) ((hTi.out _ _ _ _ _ _ _ hS7 X7).mono ?_)
       rintro e w8 ⟨A9,c9,L9,bs9,rs9,rfl,S9,I9,V9⟩;have hS8:Below W6.heap.size W6 w8:=hS7.trans (S9.bel.mono hS7.size);have hl9:L9.length=k:=by have:=congrArg List.length V9;rw[List.length_map,List.length_map,hrl.out] at this;exact this
       have T7:=T6.out.call hS7;have T8:=T6.out.call hS8;obtain⟨W9,hW9,T9⟩:∃ W,W=World.setCell w8 ⟨g,tp,none⟩ (.slice A9 k c9)∧RSt w W g fb zb n k (.slice pA tp pc) ⟨nrm M1 j tp,s.p,f1*el M1 tp j⟩:=⟨_,rfl,by rw[hnr.out];exact T7.put S9 I9 V9 hrl.out⟩
       obtain⟨_,_,_,k0,_⟩:=T8.row htnH.out;have k3:=T8.cells.1 tp;replace T9:=Lib.hid T9;rw[hl9];refine⟨_,rfl,hK.out _ _ hS8 ?_⟩
       clear hK K' hS7 X7 S9 I9 V9 T7 T8 T6 hF2 hQu hTi c0 x0 x1 x2
       try simp only[Act.put,sZ0,sZ1,sZ2]
       refine Wl.t (i:=16) (v:=.pointer (some ⟨g,tp,none⟩)) (some 88) at16 (hy:=fun _ _=>by go_simp) (hS:=hS8) (h:=?_)
       try simp only[Act.put,sZ0,sZ1,sZ2]
       refine Wl.s (i:=17) at17 (by kernel_rfl) (by kernel_rfl) (by kernel_rfl) fun K' hK=>?_
       go_simp
       rw[←hW9];refine hK.out _ _ ?_
       clear hK K' k0 k3 hW9 hS8;refine Wl.done (by kernel_rfl) ?_
       obtain⟨M2,hM2⟩:∃ M2,M2=nrm M1 j tp:=⟨_,rfl⟩;obtain⟨f2,hf2⟩:∃ f2,f2=f1*el M1 tp j:=⟨_,rfl⟩;simp only[←hM2,←hf2] at T9 K2 K3 hgo2 hru2;clear K1 hnr hrl hO1 hRf hx0;replace hM2:=Lib.hid hM2;replace hf2:=Lib.hid hf2;go_wp2
       go_loopw [10] (fun iv wr=>∃ i:Nat,i≤n∧iv=.int .i64 i∧RSt w wr g fb zb n k (.slice pA tp pc) ⟨rws M2 j tp i,s.p,f2⟩) (fun iv _=>n-(intOf iv).toNat)
       case atStart=>exact⟨0,Nat.zero_le _,rfl,T9.out⟩
       case round=>
        clear T9;obtain⟨i,hin,rfl,T⟩:=hrel;rename World=>V0
        replace T:=Lib.hid T
        by_cases hlt:i<n
        ·have g9:(i:Int)<(n:Int):=by omega
         have g10:(0:Int)≤(i:Int):=by omega
         have hih:=Lib.hid hlt;have hn1h:=hn1.out;clear hlt hin
         by_cases hit:i=tp
         ·have hit:=hit.symm
          have g11:(i:Int)=(tp:Int):=by omega
          have T2:Hid (RSt w V0 g fb zb n k (.slice pA tp pc) ⟨rws M2 j tp (i+1),s.p,f2⟩):=Lib.hid (by
           show RSt w V0 g fb zb n k (.slice pA tp pc) ⟨rw1 (rws M2 j tp i) j tp i,s.p,f2⟩
           unfold rw1;rw[if_pos hit.symm];exact T.out)
          clear T hit;go_wp2;have hii:=hih.out
          go_roundw
          case rel=>exact⟨i+1,by omega,by go_num,T2.out⟩
          case measure=>simp[intOf];omega
         ·have g11:¬ ((i:Int)=(tp:Int)):=by omega
          replace hit:=Lib.hid hit;go_upto_region 21 with fail
          obtain⟨Mi,hMi⟩:∃ M',M'=rws M2 j tp i:=⟨_,rfl⟩;have hOi:okM Mi=true:=by rw[hMi];exact okR_le K3.out (by have:=hih.out;omega)
          have hOk:=okR_at K3.out hih.out;rw[←hMi] at hOk;obtain⟨sc,R,b,o,x,c0,hLR,hRV,hRl,x0,x1,x2,hxq,R1,R2⟩:=T.out.num hih.out hjh.out;obtain⟨A2,rc,Rt,d0,hLRt,hRVt,hRlt⟩:=T.out.row htnH.out;obtain⟨xb,X⟩:=rw_rr hxq R1 R2;simp only[←hMi] at hRV hRl hRVt hRlt X xb;obtain⟨ni,hni⟩:∃ q:Rat,q = -(el Mi i j):=⟨_,rfl⟩;obtain⟨rt,hrt⟩:∃ r,r=Mi.getD tp []:=⟨_,rfl⟩;obtain⟨ri,hri⟩:∃ r,r=Mi.getD i []:=⟨_,rfl⟩
          rw[←hrt] at hRVt hRlt hOk;rw[←hri] at hRV hRl;rw[←hni] at hOk;have hkk:=hk1.out;have hNe:Hid (∀ W,Below V0.heap.size V0 W→Calls Tryz.prog 64 #[.agg #[.bool x.b,.slice x.x.A x.x.n x.x.c,.slice x.y.A x.y.n x.y.c]] W (RetR ni W)):=Lib.hid fun W hW=>by
           have:=fnegQ (el Mi i j) x.x.A x.x.n x.x.c x.y.A x.y.n x.y.c W (X.below hW) (el_rs hOi i j);rw[←xb,←hni] at this;exact this
          have hTi:Hid (∀ W A' n' c' D' m' d',Below V0.heap.size V0 W→RR W A' n' c' D' m' d' ni→Calls Tryz.prog 83 #[.slice A2 k rc,.agg #[.bool (ng ni.num),.slice A' n' c',.slice D' m' d']] W (RowO (timesQ rt ni) W)):=Lib.hid fun W A' n' c' D' m' d' hW Z=>
           timesR_any rt ni Rt A2 k rc ⟨ng ni.num,⟨A',n',c',limbs ni.num.natAbs⟩,⟨D',m',d',dn ni⟩⟩ W (hLRt.bel hW) hRVt (fun q hq=>okM_rs hOi (i:=tp) q (by rw[←hrt];exact hq)) (by omega) rfl Z.n Z.d (szB_rs hOk.1)
          have hPl:Hid (∀ W A' c' (L':List Gw),Below V0.heap.size V0 W→LR rwC W A' k L'→L'.map rwV=(timesQ rt ni).map qV→Calls Tryz.prog 85 #[.slice (some ⟨b,o,none⟩) k sc,.slice A' k c'] W (RowO (plusQ ri (timesQ rt ni)) W)):=Lib.hid fun W A' c' L' hW hL' hV'=>
           plusR_any ri (timesQ rt ni) R L' (some ⟨b,o,none⟩) k sc A' c' W (hLR.bel hW) hL' hRV hV' (fun q hq=>okM_rs hOi (i:=i) q (by rw[←hri];exact hq)) (fun q hq=>szB_rs (List.all_eq_true.1 hOk.2 q hq)) (by omega)
          have hrw:Hid (rws M2 j tp (i+1)=Mi.set i (plusQ ri (timesQ rt ni))):=Lib.hid (by
           show rw1 (rws M2 j tp i) j tp i=_
           unfold rw1;rw[if_neg hit.out,←hMi,←hri,←hrt,←hni])
          have hrl:Hid ((timesQ rt ni).length=k):=Lib.hid (by rw[timesQ_len];exact hRlt)
          have hpl:Hid ((plusQ ri (timesQ rt ni)).length=k):=Lib.hid (by rw[plusQ_len (by rw[hrl.out];exact hRl)];exact hRl)
          have g6:(0:Int)≤(tp:Int):=by omega
          have g7:(tp:Int)<(n:Int):=by have:=htnH.out;omega
          rw[←hMi] at T;clear hLR hRV hRl hLRt hRVt hRlt hxq R1 R2 xb X hni hrt hri hOk hOi hkk;replace c0:=Lib.hid c0;replace d0:=Lib.hid d0;replace x0:=Lib.hid x0;replace x1:=Lib.hid x1;replace x2:=Lib.hid x2;replace hMi:=Lib.hid hMi;refine Wl.start (fun W=>Below V0.heap.size V0 W) [21] rfl ?_
          have hS:Below V0.heap.size V0 V0.drew:=(Below.refl _ _).drew;refine Wl.t (i:=0) (v:=.slice (some ⟨g,0,none⟩) n cg) (some 98) at0 (hy:=fun _ _=>by kernel_rfl) (hS:=hS) (h:=?_)
          refine Wl.t (i:=1) (v:=.int .i64 i) (some 99) at1 (hy:=fun _ _=>by kernel_rfl) (hS:=hS) (h:=?_)
          refine Wl.t (i:=2) (v:=.slice (some ⟨g,0,none⟩) n cg) (some 100) at2 (hy:=fun _ _=>by kernel_rfl) (hS:=hS) (h:=?_)
          refine Wl.t (i:=3) (v:=.int .i64 i) (some 101) at3 (hy:=fun _ _=>by kernel_rfl) (hS:=hS) (h:=?_)
          refine Wl.t (i:=4) (v:=.pointer (some ⟨g,i,none⟩)) (some 102) at4 (hy:=fun _ _=>by go_simp) (hS:=hS) (h:=?_)
          refine Wl.t (i:=5) (v:=.slice (some ⟨b,o,none⟩) k sc) (some 103) at5 (hy:=fun W hS=>by (have k0:=bel_cell hS c0.out;clear hS;go_simp)) (hS:=hS) (h:=?_)
          refine Wl.t (i:=6) (v:=.slice (some ⟨g,0,none⟩) n cg) (some 104) at6 (hy:=fun _ _=>by kernel_rfl) (hS:=hS) (h:=?_)
          refine Wl.t (i:=7) (v:=.int .i64 tp) (some 105) at7 (hy:=fun _ _=>by kernel_rfl) (hS:=hS) (h:=?_)
          refine Wl.t (i:=8) (v:=.pointer (some ⟨g,tp,none⟩)) (some 106) at8 (hy:=fun _ _=>by go_simp) (hS:=hS) (h:=?_)
          refine Wl.t (i:=9) (v:=.slice A2 k rc) (some 107) at9 (hy:=fun W hS=>by (have k0:=bel_cell hS d0.out;clear hS;go_simp)) (hS:=hS) (h:=?_)
          refine Wl.t (i:=10) (v:=.slice (some ⟨g,0,none⟩) n cg) (some 108) at10 (hy:=fun _ _=>by kernel_rfl) (hS:=hS) (h:=?_)
          refine Wl.t (i:=11) (v:=.int .i64 i) (some 109) at11 (hy:=fun _ _=>by kernel_rfl) (hS:=hS) (h:=?_)
          refine Wl.t (i:=12) (v:=.pointer (some ⟨g,i,none⟩)) (some 110) at12 (hy:=fun _ _=>by go_simp) (hS:=hS) (h:=?_)
          refine Wl.t (i:=13) (v:=.slice (some ⟨b,o,none⟩) k sc) (some 111) at13 (hy:=fun W hS=>by (have k0:=bel_cell hS c0.out;clear hS;go_simp)) (hS:=hS) (h:=?_)
          refine Wl.t (i:=14) (v:=.int .i64 j) (some 112) at14 (hy:=fun _ _=>by kernel_rfl) (hS:=hS) (h:=?_)
          refine Wl.t (i:=15) (v:=.pointer (some ⟨b,o+j*3,none⟩)) (some 113) at15 (hy:=fun _ _=>by go_simp) (hS:=hS) (h:=?_)
          refine Wl.t (i:=16) (v:=.agg #[.bool x.b,.slice x.x.A x.x.n x.x.c,.slice x.y.A x.y.n x.y.c]) (some 114) at16 (hy:=fun W hS=>by (have k0:=bel_cell hS x0.out;have k1:=bel_cell hS x1.out;have k2:=bel_cell hS x2.out;clear hS;go_simp)) (hS:=hS) (h:=?_)
          try simp only[Act.put,sZ0,sZ1,sZ2]
          refine Wl.g (i:=17) at17 (by kernel_rfl) (by kernel_rfl) fun K' hK=>?_
          refine oper_call (f:=64) (args:=#[.agg #[.bool x.b,.slice x.x.A x.x.n x.x.c,.slice x.y.A x.y.n x.y.c]]) rfl (by kernel_rfl) ((hNe.out _ hS).mono ?_)
          rintro e w5 ⟨A5,m5,c5,D5,m6,c6,rfl,X5,bb5⟩;have hS5:Below V0.heap.size V0 w5:=hS.trans (bb5.mono hS.size);refine⟨_,rfl,hK.out _ _ hS5 ?_⟩
          clear hK K' hS bb5
          try simp only[Act.put,sZ0,sZ1,sZ2]
          refine Wl.g (i:=18) at18 (by kernel_rfl) (by kernel_rfl) fun K' hK=>?_
          refine oper_call (f:=83) (args:=#[.slice A2 k rc,.agg #[.bool (ng ni.num),.slice A5 m5 c5,.slice D5 m6 c6]]) rfl (by kernel_rfl) ((hTi.out _ _ _ _ _ _ _ hS5 X5).mono ?_)
          rintro e w7 ⟨A7,c7,L7,bs7,rs7,rfl,S7,I7,V7⟩;have hS7:Below V0.heap.size V0 w7:=hS5.trans (S7.bel.mono hS5.size);have hl7:L7.length=k:=by have:=congrArg List.length V7;rw[List.length_map,List.length_map,hrl.out] at this;exact this
          have R7:=I7.lr S7;rw[hl7] at R7 ⊢;refine⟨_,rfl,hK.out _ _ hS7 ?_⟩
          clear hK K' hS5 X5 S7 I7
          try simp only[Act.put,sZ0,sZ1,sZ2]
          refine Wl.g (i:=19) at19 (by kernel_rfl) (by kernel_rfl) fun K' hK=>?_
          refine oper_call (f:=85) (args:=#[.slice (some ⟨b,o,none⟩) k sc,.slice A7 k c7]) rfl (by kernel_rfl) ((hPl.out _ _ _ _ hS7 R7 V7).mono ?_)
          rintro e w8 ⟨A9,c9,L9,bs9,rs9,rfl,S9,I9,V9⟩;have hS8:Below V0.heap.size V0 w8:=hS7.trans (S9.bel.mono hS7.size);have hl9:L9.length=k:=by have:=congrArg List.length V9;rw[List.length_map,List.length_map,hpl.out] at this;exact this
          have T7:=T.out.call hS7;have T8:=T.out.call hS8;obtain⟨W9,hW9,T9⟩:∃ W,W=World.setCell w8 ⟨g,i,none⟩ (.slice A9 k c9)∧RSt w W g fb zb n k (.slice pA tp pc) ⟨rws M2 j tp (i+1),s.p,f2⟩:=⟨_,rfl,by rw[hrw.out];exact T7.put S9 I9 V9 hpl.out⟩
          obtain⟨_,_,_,k0,_⟩:=T8.row hih.out;have k3:=T8.cells.1 i;replace T9:=Lib.hid T9;rw[hl9];refine⟨_,rfl,hK.out _ _ hS8 ?_⟩
          clear hK K' hS7 R7 V7 S9 I9 V9 T7 T8 T hNe hTi hPl c0 d0 x0 x1 x2
          try simp only[Act.put,sZ0,sZ1,sZ2]
          refine Wl.t (i:=20) (v:=.pointer (some ⟨g,i,none⟩)) (some 118) at20 (hy:=fun _ _=>by go_simp) (hS:=hS8) (h:=?_)
          try simp only[Act.put,sZ0,sZ1,sZ2]
          refine Wl.s (i:=21) at21 (by kernel_rfl) (by kernel_rfl) (by kernel_rfl) fun K' hK=>?_
          go_simp
          rw[←hW9];refine hK.out _ _ ?_
          clear hK K' k0 k3 hW9 hS8;refine Wl.done (by kernel_rfl) ?_
          have hii:=hih.out
          go_simp
          go_wp2
          go_roundw
          case rel=>exact⟨i+1,by omega,by go_num,T9.out⟩
          case measure=>simp[intOf];omega
        ·obtain rfl:n=i:=by omega
         clear hlt hin;obtain⟨cur,bs,rs,L,y,z,G0,h1,h2,h3,h4,h5,h6,h7⟩:=T.out;have GA:=Lib.hid (G0.alloc #[.int .i64 j] 3 (noLof rfl));have hpl:Hid ((s.p.map Int.ofNat).length=tp):=Lib.hid (by rw[List.length_map];exact htp.out.symm)
         have hRe:Hid (∀ v' W',Gro intC w W' ((g,cur,23)::(fb,y.vs,45)::(zb,z.vs,45)::bs) rs 3 v' (s.p.map Int.ofNat++[(j:Int)])→RSt w W' g fb zb n k v' ⟨rws M2 j tp n,s.p++[j],f2⟩):=Lib.hid fun v' W' G'=>⟨cur,bs,rs,L,y,z,by
          show Gro intC _ _ _ _ _ _ ((s.p++[j]).map Int.ofNat)
          rw[List.map_append];exact G',h1,h2,h3,h4,h5,h6,h7⟩
         have hOn:Hid (okM (rws M2 j tp n)=true):=Lib.hid (okR_le K3.out (Nat.le_refl _));clear T G0 h1 h2 h3 h4 h5 h6 h7
         go_wp2_with (at_builtin;refine Gro.wp rfl (.tmp 119) (.tmp 121) 36 rfl (.int .i64 0) 8 Tryz.underlying36 (by kernel_rfl) rfl (fun v hv z e=>by simp[Value.cells] at hv;subst hv;cases e) (by show Value.slice _ _ _=_;rfl) GA.out V0.heap.size (j:Int) rfl ((GA.out.st).cb 0 rfl) trivial (by rw[hpl.out];have:=htnH.out;have:=hn1.out;omega) (by rw[hpl.out];have:=htnH.out;have:=hn1.out;unfold maxLen;omega) ?_)
         intro v' w5 G5;have T9:=Lib.hid (hRe.out v' w5 (Gro.sub G5 (fun _ _=>trivial)))
         clear G5 GA hRe hpl;have hjj:=hjh.out;have hkk:=hk1.out;go_wp2
         go_roundw
         case rel=>exact⟨j+1,⟨rws M2 j tp n,s.p++[j],f2⟩,_,rfl,by omega,by go_num,T9.out,by rw[List.length_append,←htp.out];have:=htnH.out;simp;omega,hOn.out,K2.out,hgo2.out,hru2.out⟩
         case measure=>simp[intOf];omega
    ·obtain rfl:n=a:=by omega
     have hgn:gat j s=s.M.length:=by rw[←hga,T.len,←T.len,sr_end,Nat.add_zero]
     obtain⟨hc1,hgo2⟩:=gok_step hjh.out hgo.out;have hgc:gcol j s=s:=by unfold gcol;rw[if_pos hgn]
     rw[hgc] at hgo2;have hru2:=hru.out;rw[grun_step hjh.out,hgc] at hru2;replace hgo2:=Lib.hid hgo2;replace hru2:=Lib.hid hru2;replace T:=Lib.hid T;clear hgc hc1 hgn hgo hru hga hlt han;have hjj:=hjh.out;have hkk:=hk1.out;go_wp2
     go_roundw
     case rel=>exact⟨j+1,s,_,rfl,by omega,by go_num,T.out,hpn.out,hO.out,hf.out,hgo2.out,hru2.out⟩
     case measure=>simp[intOf];omega
  ·obtain rfl:k=j:=by omega
   have hru2:=hru.out;rw[Nat.sub_self] at hru2;have hru3:Hid (s=grun k 0 ⟨M,[],1⟩):=Lib.hid hru2;clear hru2 hru hgo hO hf hlt hjk
   go_wp2_with fail
   refine hC.out.mono ?_
   rintro e w3 ⟨rfl,rfl⟩;clear hC;obtain⟨y,y0,y1,y2,hend⟩:=T.out.end_;obtain⟨z,z0,z1,z2⟩:=T.out.zcell;have k3:=T.out.cells.2.2 0;have k4:=T.out.cells.2.2 1;have k5:=T.out.cells.2.2 2;rename World=>W2
   obtain⟨W3,hW3⟩:∃ W,W=(World.setCell (World.setCell (World.setCell W2 ⟨zb,0,none⟩ (.bool y.b)) ⟨zb,1,none⟩ (.slice y.x.A y.x.n y.x.c)) ⟨zb,2,none⟩ (.slice y.y.A y.y.n y.y.c)).drew:=⟨_,rfl⟩;have hb3:Hid (RSt w W3 g fb zb n k (.slice pA tp pc) s∧W3.cell? ⟨zb,0,none⟩=some (.bool y.b)∧W3.cell? ⟨zb,1,none⟩=some (.slice y.x.A y.x.n y.x.c)∧W3.cell? ⟨zb,2,none⟩=some (.slice y.y.A y.y.n y.y.c)∧rwV y=qV s.f∧Rd W3 y.x.A y.x.n y.x.c y.x.x∧Rd W3 y.y.A y.y.n y.y.c y.y.x):=Lib.hid (by
    have:=hend _ rfl;rw[hW3];exact⟨this.1.call ((Below.refl _ _).drew),this.2.1,this.2.2.1,this.2.2.2.1,this.2.2.2.2.1,this.2.2.2.2.2.1.below ((Below.refl _ _).drew),this.2.2.2.2.2.2.below ((Below.refl _ _).drew)⟩)
   clear hend;replace y0:=Lib.hid y0;replace y1:=Lib.hid y1;replace y2:=Lib.hid y2;clear T;go_upto_region 23 with fail
   refine Wl.start (fun W=>Below W2.heap.size W2 W) [5] rfl ?_
   have hS:Below W2.heap.size W2 W2.drew:=(Below.refl _ _).drew;refine Wl.p (i:=0) (v:=.slice (some ⟨g,0,none⟩) n cg) (some 123) at0 (hy:=fun _=>by kernel_rfl) (hS:=fun _=>hS) (h:=?_)
   refine Wl.p (i:=1) (v:=.slice pA tp pc) (some 124) at1 (hy:=fun _=>by kernel_rfl) (hS:=fun _=>hS) (h:=?_)
   refine Wl.t (i:=2) (v:=.agg #[.bool y.b,.slice y.x.A y.x.n y.x.c,.slice y.y.A y.y.n y.y.c]) (some 125) at2 (hy:=fun W hS=>by (have k0:=bel_cell hS y0.out;have k1:=bel_cell hS y1.out;have k2:=bel_cell hS y2.out;clear hS;go_simp)) (hS:=hS) (h:=?_)
   refine Wl.p (i:=3) (v:=.slice (some ⟨g,0,none⟩) n cg) (some 2) at3 (hy:=fun _=>by kernel_rfl) (hS:=fun _=>hS) (h:=?_)
   refine Wl.p (i:=4) (v:=.slice pA tp pc) (some 3) at4 (hy:=fun _=>by kernel_rfl) (hS:=fun _=>hS) (h:=?_)
   try simp only[Act.put,sZ0,sZ1,sZ2]
   refine Wl.s (i:=5) at5 (by kernel_rfl) (by kernel_rfl) (by kernel_rfl) fun K' hK=>?_
   go_simp
   rw[←hW3];refine hK.out _ _ ?_
   clear hK K' y0 y1 y2 z0 z1 z2 k3 k4 k5 hS hW3;refine Wl.done (by kernel_rfl) ?_
   go_simp
   go_wp2;refine bodyPost_ret (res_reduce _ _ zb rfl rfl rfl hb3.out.2.1 hb3.out.2.2.1 hb3.out.2.2.2.1) rfl ?_
   exact⟨g,fb,zb,cg,_,y,hcg.out,by rw[←hru3.out];exact hb3.out.2.2.2.2,rfl,by rw[←hru3.out];exact hb3.out.1⟩
end Go.Proofs.YtfnkpfbobdmieaaGreat
