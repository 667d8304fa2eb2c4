/- The reference's reduced form. -/
import Derived.Test.YthlinhconnmbcaaGreatM27
set_option linter.unusedVariables false
namespace Go.Proofs.YthlinhconnmbcaaGreat
open Go.RowKit RQ GE
set_option linter.unusedVariables false
section
variable {w wr W':World} {g fb zb n k:Nat} {pv:Value} {s:GS}
theorem RSt.lr (h:RSt w wr g fb zb n k pv s) (n0:1≤n):∃ L:List (Sl Gw),LR (slC rwC) wr (some ⟨g,0,none⟩) n L∧∀ x∈L,x.L.length=k:=by
 obtain⟨cur,bs,rs,L,y,z,G,h1,h2,h3,h4,h5,h6,h7⟩:=h;have hI:∀ x∈L,RowI ((g,cur,46)::(fb,y.vs,33)::(zb,z.vs,33)::bs) rs x:=fun x hx=>(h3 x hx).mono (fun p hp=>List.mem_cons_of_mem _ (List.mem_cons_of_mem _ (List.mem_cons_of_mem _ hp))) (fun p hp=>hp)
 have hlr:LR (slC rwC) wr (some ⟨g,0,none⟩) n L:=by
  refine⟨h1,.inr ⟨g,0,rfl,G.st.lt 0 rfl,fun i x hi j v hv=>?_⟩,fun x hx=>(slC rwC).at_ G.st ((hI x hx).in_ w)⟩
  cases j with
  | succ j=>cases j<;>cases hv
  | zero=>
   obtain rfl:x.v=v:=Option.some.inj hv;rw[show (slC rwC).sz=1 from rfl,Nat.mul_one,Nat.zero_add,Nat.add_zero]
   exact (G.st.cb 0 rfl).cell (h2 i _ hi)
 refine⟨L,hlr,fun x hx=>?_⟩
 obtain⟨i,hi,hix⟩:=List.mem_iff_getElem.1 hx;obtain⟨q,hq,hqm,hxq⟩:=map_at h4 (show L[i]?=some x by rw[List.getElem?_eq_getElem hi,hix])
 have:=congrArg List.length hxq;rw[List.length_map,List.length_map,h5 q hqm] at this;exact this
theorem RSt.num (h:RSt w wr g fb zb n k pv s) {i j:Nat} (hi:i<n) (hj:j<k):∃ (c:Nat) (R:List Gw) (b o:Nat) (x:Gw),wr.cell? ⟨g,i,none⟩=some (.slice (some ⟨b,o,none⟩) k c)∧LR rwC wr (some ⟨b,o,none⟩) k R∧R.map rwV=(s.M.getD i []).map qV∧(s.M.getD i []).length=k∧wr.cell? ⟨b,o+j*3,none⟩=some (.bool x.b)∧wr.cell? ⟨b,o+j*3+1,none⟩=some (.slice x.x.A x.x.n x.x.c)∧wr.cell? ⟨b,o+j*3+2,none⟩=some (.slice x.y.A x.y.n x.y.c)∧rwV x=qV (el s.M i j)∧Rd wr x.x.A x.x.n x.x.c x.x.x∧Rd wr x.y.A x.y.n x.y.c x.y.x:=by
 obtain⟨A,c,R,h1,h2,h3,h4⟩:=h.row hi;obtain⟨b,o,x,rfl,hx,_,e0,e1,e2,R1,R2⟩:=row_get h2 hj;obtain⟨q,hq,hqm,hxq⟩:=map_at h3 hx;have e:el s.M i j=q:=by unfold el;rw[List.getD_eq_getElem?_getD,hq];rfl
 exact⟨c,R,b,o,x,h1,h2,h3,h4,e0,e1,e2,by rw[e];exact hxq,R1,R2⟩
end
section
variable {P:Program} {ops:Array Oper} {Q:Exit→Act→World→Prop} {S:World→Prop} {K:List Nat}
theorem early_of {i:Nat} {L:Array Bool} (h:early K (L.setIfInBounds i true)=true):early K L=true:=by
 refine List.all_eq_true.2 fun k hk=>?_
 have h1:=List.all_eq_true.1 h k hk
 cases h2:L.getD k false with
 | false=>rfl
 | true=>rw[getD_set_true h2] at h1;exact h1
theorem wpL_pure {i:Nat} {oi:Oper} {v:Value} (hi:ops[i]?=some oi) (hsel:∀ (j:Nat) (o:Oper) cs b,ops[j]?=some o→o.op≠.select cs b)
  (hQ:∀ c a w,Q (.panic c) (a.put oi.dst v) w→Q (.panic c) a w) (hiK:i∉K) :
  ∀ (fuel:Nat) (L:Array Bool) (a:Act) (w:World),
   (∀ j oj,ops[j]?=some oj→j≠i→L.getD j true=false→(∀ e∈oj.after,Region.binds .any e=true→e.on≠i)→oi.apart ops oj=true) →
   i∈Region.ready .any ops L→YieldsIf P ops (fun _=>True) oi v a→(early K L=true→S w) →
   wpL P ops Q S K fuel (L.setIfInBounds i true) (a.put oi.dst v) w→wpL P ops Q S K (fuel+1) L a w:=by
 intro fuel
 induction fuel with
 | zero=>
  intro L a w _ hr hy hS H;refine⟨fun h=>(by rw[h] at hr;cases hr),fun j hj=>?_⟩
  by_cases hji:j=i
  ·subst hji;exact hy.wpOp hi trivial ⟨fun he=>hS (early_of he),H⟩
  ·have:=ready_mono hj hji
   rw[H.1] at this
   cases this
 | succ fuel ih=>
  intro L a w hfree hr hy hS H;refine⟨fun h=>(by rw[h] at hr;cases hr),fun j hj=>?_⟩
  by_cases hji:j=i
  ·subst hji;exact hy.wpOp hi trivial ⟨fun he=>hS (early_of he),H⟩
  ·have h1:=H.2 j (ready_mono hj hji)
   obtain⟨hjun,oj,hoj,hall⟩:=mem_ready.1 hj;have hnot:∀ e∈oj.after,Region.binds .any e=true→e.on≠i:=fun e he hb heq=>by
    have h1:=hall e he hb;have h0:=(mem_ready.1 hr).1;rw[heq] at h1
    rcases Nat.lt_or_ge i L.size with h' | h'
    ·simp[h'] at h0 h1;rw[h0] at h1;cases h1
    ·simp[Array.getElem?_eq_none h'] at h1
   have h2:=wpOp_putIf hoj (hfree j oj hoj hji hjun hnot) (fun cs b=>hsel i oi cs b hi) (fun cs b=>hsel j oj cs b hoj) hQ hy h1
   have hfree':∀ k ok,ops[k]?=some ok→k≠i→(L.setIfInBounds j true).getD k true=false →
     (∀ e∈ok.after,Region.binds .any e=true→e.on≠i)→oi.apart ops ok=true:=fun k ok hk hki hun hno=>by
    refine hfree k ok hk hki ?_ hno
    by_cases hjk:j=k
    ·subst hjk;exact hjun
    ·rw[getD_set_ne true hjk] at hun;exact hun
   refine wpOp_mono (fun a' w' h3=>⟨fun he=>h3.2.1 (by rw[Array.setIfInBounds_comm _ _ (Ne.symm hji)];exact early_set he hiK),ih (L.setIfInBounds j true) a' w' hfree' (ready_mono hr (Ne.symm hji)) h3.1 (fun he=>h3.2.1 (by rw[Array.setIfInBounds_comm _ _ (Ne.symm hji)];exact early_set he hiK)) ?_⟩) h2
   rw[Array.setIfInBounds_comm _ _ hji];exact h3.2.2
theorem Wl.p {L:Array Bool} {a:Act} {w:World} {i:Nat} {oi:Oper} {v:Value} (dst:Option Nat) (hi:ops[i]?=some oi) (hd:oi.dst=dst:=by rfl) (hc:(Region.noSelect ops&&Region.free .any ops L i&&(Region.ready .any ops L).contains i && !(K.contains i))=true:=by kernel_rfl) (hw:Region.wanted oi (yielded ops a.tmps)=true:=by kernel_rfl)
  (hQ:∀ c a w,Q (.panic c) (Act.put a dst v) w→Q (.panic c) a w:=by exact fun _ _ _ h=>h) (hy:∀ w,(execOp a.eval oi).run P w=.ok (.value v) w) (hS:early K L=true→S w)
  (h:Wl P ops Q S K (L.setIfInBounds i true) (a.put dst v) w):Wl P ops Q S K L a w:=by
 simp only[Bool.and_eq_true,Bool.not_eq_true'] at hc;obtain⟨⟨⟨c1,c2⟩,c3⟩,c6⟩:=hc;subst hd;have hm:i∈Region.ready .any ops L:=by simpa using c3
 unfold Wl at *;rw[lft_set (mem_ready.1 hm).1];exact wpL_pure hi (Region.noSelect_spec c1) hQ (by simpa using c6) _ _ _ _ (Region.free_spec hi c2) hm (.inl ⟨hw,fun w _=>hy w⟩) hS h
end
section
variable {w wr W':World} {g fb zb n k:Nat} {pv:Value} {s:GS}
end
theorem el_swp {M:List (List Rat)} {a t j:Nat} (ht:t<M.length):el (swp M a t) t j=el M a j:=by
 unfold el swp;rw[show ((M.set a (M.getD t [])).set t (M.getD a [])).getD t []=M.getD a [] by
  rw[List.getD_eq_getElem?_getD,List.getElem?_set_self (by rw[List.length_set];exact ht)];rfl]
end Go.Proofs.YthlinhconnmbcaaGreat
