/- A region whose order is open, where what is known of the memory holds until the late stores. -/
import Derived.Test.YtfnkpfbobdmieaaGreatM19
set_option maxRecDepth 100000
set_option maxHeartbeats 40000000
set_option linter.unusedVariables false
namespace Go.Proofs.YtfnkpfbobdmieaaGreat
open Go.RowKit RQ GE
set_option linter.unusedVariables false
section
variable {P:Program} {ops:Array Oper} {Q:Exit→Act→World→Prop} {S:World→Prop} {K:List Nat}
def early (K:List Nat) (L:Array Bool):Bool:=K.all fun k=>!(L.getD k false)
def wpL (P:Program) (ops:Array Oper) (Q:Exit→Act→World→Prop) (S:World→Prop) (K:List Nat):Nat→Array Bool→Act→World→Prop
 | 0,L,a,w=>Region.ready .any ops L=[]∧Q .normal a w
 | n+1,L,a,w=>(Region.ready .any ops L=[]→Q .normal a w) ∧
  ∀ i∈Region.ready .any ops L,wpOp P ops Q i (fun a' w'=>(early K (L.setIfInBounds i true)=true→S w')∧wpL P ops Q S K n (L.setIfInBounds i true) a' w') a w
theorem wpAny_of_L:∀ (fuel:Nat) (L:Array Bool) (a:Act) (w:World),wpL P ops Q S K fuel L a w→wpAny P .any ops Q fuel L a w
 | 0,_,_,_,h=>h
 | n+1,_,_,_,h=>⟨h.1,fun i hi=>wpOp_mono (fun a' w' h'=>wpAny_of_L n _ a' w' h'.2) (h.2 i hi)⟩
def clos (ops:Array Oper) (L:Array Bool):Prop:=∀ j o,ops[j]?=some o→L.getD j false=true→∀ e∈o.after,Region.binds .any e=true→L.getD e.on false=true
def closB (ops:Array Oper) (L:Array Bool):Bool:=(List.range ops.size).all fun j=>!(L.getD j false)||match ops[j]? with
 | some o=>o.after.toList.all fun e=>!(Region.binds .any e)||L.getD e.on false
 | none=>true
theorem clos_of {L:Array Bool} (h:closB ops L=true):clos ops L:=by
 intro j o ho hj e he hb;have hlt:j<ops.size:=(Array.getElem?_eq_some_iff.1 ho).1
 have:=List.all_eq_true.1 h j (List.mem_range.2 hlt);rw[ho,hj] at this;simp only[Bool.not_true,Bool.false_or] at this;have:=List.all_eq_true.1 this e (by simpa using he)
 rw[hb] at this
 simpa using this
def waits (ops:Array Oper) (i:Nat):Nat→Nat→Bool
 | 0,_=>false
 | n+1,k=>match ops[k]? with
  | some o=>o.after.toList.any fun e=>Region.binds .any e&&(e.on==i||waits ops i n e.on)
  | none=>false
theorem waits_done {i:Nat} {L:Array Bool} (hc:clos ops L):∀ (n k:Nat) (o:Oper),ops[k]?=some o→(∀ e∈o.after,Region.binds .any e=true→L.getD e.on false=true)→waits ops i n k=true→L.getD i false=true:=by
 intro n
 induction n with
 | zero=>intro k o _ _ h;cases h
 | succ n ih=>
  intro k o ho hd h;unfold waits at h;rw[ho] at h;obtain⟨e,he,h⟩:=List.any_eq_true.1 h;rw[Bool.and_eq_true,Bool.or_eq_true] at h;obtain⟨hb,h⟩:=h;have hde:=hd e (by simpa using he) hb
  rcases h with h | h
  ·rw[←eq_of_beq h];exact hde
  ·cases hn:ops[e.on]? with
   | none=>cases n with
    | zero=>cases h
    | succ n=>unfold waits at h;rw[hn] at h;cases h
   | some o'=>exact ih e.on o' hn (fun e' he' hb'=>hc _ o' hn hde e' he' hb') h
theorem clos_set {j:Nat} {L:Array Bool} (hc:clos ops L) (hj:j∈Region.ready .any ops L):clos ops (L.setIfInBounds j true):=by
 intro k o ho hk e he hb;obtain⟨hju,oj,hoj,hall⟩:=mem_ready.1 hj
 by_cases hkj:j=k
 ·subst hkj
  rw[ho] at hoj;obtain rfl:=Option.some.inj hoj;exact getD_set_true (hall e he hb)
 ·have:L.getD k false=true:=by
   rwa [getD_set_ne false hkj] at hk
  exact getD_set_true (hc k o ho this e he hb)
theorem early_set {j:Nat} {L:Array Bool} (h:early K L=true) (hj:j∉K):early K (L.setIfInBounds j true)=true:=by
 refine List.all_eq_true.2 fun k hk=>?_
 have:=List.all_eq_true.1 h k hk
 rwa [getD_set_ne false (show j≠k from fun e=>hj (by rw[e];exact hk))]
theorem wpL_first {i:Nat} {oi:Oper} {v:Value} (hi:ops[i]?=some oi) (hsel:∀ (j:Nat) (o:Oper) cs b,ops[j]?=some o→o.op≠.select cs b)
  (hQ:∀ c a w,Q (.panic c) (a.put oi.dst v) w→Q (.panic c) a w) (hiK:i∉K) (hw:∀ k∈K,∃ n,waits ops i n k=true) :
  ∀ (fuel:Nat) (L:Array Bool) (a:Act) (w:World),clos ops L→early K L=true →
   (∀ j oj,ops[j]?=some oj→j≠i→L.getD j true=false→(∀ e∈oj.after,Region.binds .any e=true→e.on≠i)→oi.apart ops oj=true) →
   i∈Region.ready .any ops L→YieldsIf P ops S oi v a→S w →
   wpL P ops Q S K fuel (L.setIfInBounds i true) (a.put oi.dst v) w→wpL P ops Q S K (fuel+1) L a w:=by
 intro fuel
 induction fuel with
 | zero=>
  intro L a w _ _ _ hr hy hS H;refine⟨fun h=>(by rw[h] at hr;cases hr),fun j hj=>?_⟩
  by_cases hji:j=i
  ·subst hji;exact hy.wpOp hi hS ⟨fun _=>hS,H⟩
  ·have:=ready_mono hj hji
   rw[H.1] at this
   cases this
 | succ fuel ih=>
  intro L a w hcl hea hfree hr hy hS H;refine⟨fun h=>(by rw[h] at hr;cases hr),fun j hj=>?_⟩
  by_cases hji:j=i
  ·subst hji;exact hy.wpOp hi hS ⟨fun _=>hS,H⟩
  ·have h1:=H.2 j (ready_mono hj hji)
   obtain⟨hjun,oj,hoj,hall⟩:=mem_ready.1 hj;have hiun:¬ L.getD i false=true:=fun h1=>by
    have h0:=(mem_ready.1 hr).1
    rcases Nat.lt_or_ge i L.size with h' | h'
    ·simp[h'] at h0 h1;rw[h0] at h1;cases h1
    ·simp[Array.getElem?_eq_none h'] at h1
   have hnot:∀ e∈oj.after,Region.binds .any e=true→e.on≠i:=fun e he hb heq=>by
    have h1:=hall e he hb;rw[heq] at h1;exact hiun h1
   have hjK:j∉K:=fun hk=>by
    obtain⟨n,hn⟩:=hw j hk;exact hiun (waits_done hcl n j oj hoj hall hn)
   have h2:=wpOp_putIf hoj (hfree j oj hoj hji hjun hnot) (fun cs b=>hsel i oi cs b hi) (fun cs b=>hsel j oj cs b hoj) hQ hy h1
   have hfree':∀ k ok,ops[k]?=some ok→k≠i→(L.setIfInBounds j true).getD k true=false →
     (∀ e∈ok.after,Region.binds .any e=true→e.on≠i)→oi.apart ops ok=true:=fun k ok hk hki hun hno=>by
    refine hfree k ok hk hki ?_ hno
    by_cases hjk:j=k
    ·subst hjk;exact hjun
    ·rw[getD_set_ne true hjk] at hun;exact hun
   have hej:early K (L.setIfInBounds j true)=true:=early_set hea hjK;refine wpOp_mono (fun a' w' h3=>⟨fun _=>h3.2.1 (by rw[Array.setIfInBounds_comm _ _ (Ne.symm hji)];exact early_set hej hiK),ih (L.setIfInBounds j true) a' w' (clos_set hcl hj) hej hfree' (ready_mono hr (Ne.symm hji)) h3.1 (h3.2.1 (by rw[Array.setIfInBounds_comm _ _ (Ne.symm hji)];exact early_set hej hiK)) ?_⟩) h2
   rw[Array.setIfInBounds_comm _ _ hji];exact h3.2.2
def Wl (P:Program) (ops:Array Oper) (Q:Exit→Act→World→Prop) (S:World→Prop) (K:List Nat) (L:Array Bool) (a:Act) (w:World):Prop:=wpL P ops Q S K (lft L) L a w
theorem Wl.start {id:Nat} {a:Act} {w:World} (S:World→Prop) (K:List Nat) (hm:P.follows .mixedOrders=true) (h:Wl P ops Q S K (Array.replicate ops.size false) a w.drew):(Code.region id ops true).wp P Q a w:=by
 unfold Wl at h;rw[show lft (Array.replicate ops.size false)=ops.size by simp[lft]] at h
 exact wp_region_any hm (wpAny_of_L _ _ _ _ h)
def lateOk (ops:Array Oper) (K:List Nat) (L:Array Bool) (i:Nat):Bool:=
 Region.noSelect ops&&Region.free .any ops L i&&(Region.ready .any ops L).contains i&&closB ops L&&early K L && !(K.contains i)&&K.all (waits ops i 20)
theorem Wl.t {L:Array Bool} {a:Act} {w:World} {i:Nat} {oi:Oper} {v:Value} (dst:Option Nat) (hi:ops[i]?=some oi) (hd:oi.dst=dst:=by rfl) (hc:lateOk ops K L i=true:=by kernel_rfl) (hw:Region.wanted oi (yielded ops a.tmps)=true:=by kernel_rfl)
  (hQ:∀ c a w,Q (.panic c) (Act.put a dst v) w→Q (.panic c) a w:=by exact fun _ _ _ h=>h) (hy:∀ w,S w→(execOp a.eval oi).run P w=.ok (.value v) w) (hS:S w)
  (h:Wl P ops Q S K (L.setIfInBounds i true) (a.put dst v) w):Wl P ops Q S K L a w:=by
 simp only[lateOk,Bool.and_eq_true,Bool.not_eq_true'] at hc;obtain⟨⟨⟨⟨⟨⟨c1,c2⟩,c3⟩,c4⟩,c5⟩,c6⟩,c7⟩:=hc;subst hd;have hm:i∈Region.ready .any ops L:=by simpa using c3
 unfold Wl at *;rw[lft_set (mem_ready.1 hm).1];exact wpL_first hi (Region.noSelect_spec c1) hQ (by simpa using c6) (fun k hk=>⟨20,List.all_eq_true.1 c7 k hk⟩) _ _ _ _ (clos_of c4) c5 (Region.free_spec hi c2) hm (.inl ⟨hw,hy⟩) hS h
theorem Wl.one {i:Nat} {o:Oper} {L:Array Bool} {a:Act} {w:World} (hr:(Region.ready .any ops L==[i])=true) (ho:ops[i]?=some o) (hw:Region.wanted o (yielded ops a.tmps)=true)
  (h:∀ K':Act→World→Prop,Shut (∀ a w,(early K (L.setIfInBounds i true)=true→S w)→Wl P ops Q S K (L.setIfInBounds i true) a w→K' a w)→Oper.wp P o a w K' Q):Wl P ops Q S K L a w:=by
 have hr:Region.ready .any ops L=[i]:=by simpa using hr
 have hm:i∈Region.ready .any ops L:=by rw[hr];exact List.mem_singleton.2 rfl
 unfold Wl at *;rw[lft_set (mem_ready.1 hm).1];refine⟨fun h0=>(by rw[h0] at hr;cases hr),fun j hj=>?_⟩
 rw[hr] at hj;have:=List.mem_singleton.1 hj;subst this;exact wpOp_step ho (fun K' hK=>by rw[if_pos hw];exact h K' (fun a w hS hW=>hK a w ⟨hS,hW⟩))
theorem Wl.g {i:Nat} {o:Oper} {L:Array Bool} {a:Act} {w:World} (ho:ops[i]?=some o) (hr:(Region.ready .any ops L==[i])=true) (hw:Region.wanted o (yielded ops a.tmps)=true)
  (h:∀ K':Act→World→Prop,Shut (∀ a w,S w→Wl P ops Q S K (L.setIfInBounds i true) a w→K' a w)→Oper.wp P o a w K' Q):Wl P ops Q S K L a w:=by
 refine Wl.one hr ho hw fun K' hK=>h K' ?_
 exact fun a w hS hW=>hK.out a w (fun _=>hS) hW
theorem Wl.s {i:Nat} {o:Oper} {L:Array Bool} {a:Act} {w:World} (ho:ops[i]?=some o) (hr:(Region.ready .any ops L==[i])=true) (hw:Region.wanted o (yielded ops a.tmps)=true) (hk:early K (L.setIfInBounds i true)=false)
  (h:∀ K':Act→World→Prop,Shut (∀ a w,Wl P ops Q S K (L.setIfInBounds i true) a w→K' a w)→Oper.wp P o a w K' Q):Wl P ops Q S K L a w:=by
 refine Wl.one hr ho hw fun K' hK=>h K' ?_
 exact fun a w hW=>hK.out a w (fun h=>by rw[hk] at h;cases h) hW
theorem Wl.done {L:Array Bool} {a:Act} {w:World} (hr:Region.ready .any ops L=[]) (h:Q .normal a w):Wl P ops Q S K L a w:=by
 unfold Wl
 cases lft L with
 | zero=>exact⟨hr,h⟩
 | succ n=>exact⟨fun _=>h,by rw[hr];simp⟩
end
end Go.Proofs.YtfnkpfbobdmieaaGreat
namespace Go.Proofs.YtfnkpfbobdmieaaGreat
open Go.RowKit RQ GE
set_option linter.unusedVariables false
theorem fquoQ (q r:Rat) (A:Option Addr) (n c:Nat) (D:Option Addr) (m d:Nat) (A':Option Addr) (n' c':Nat) (D':Option Addr) (m' d':Nat) (W:World) (X:RR W A n c D m d q) (Y:RR W A' n' c' D' m' d' r) (hs:Rs q 9900000) (hs':Rs r 9900000) (h0:r≠0):Calls Tryz.prog 84 #[.agg #[.bool (ng q.num),.slice A n c,.slice D m d],.agg #[.bool (ng r.num),.slice A' n' c',.slice D' m' d']] W (RetR (q / r) W):=by
 have l:=X.lens hs;have l':=Y.lens hs';have:=Fquo_any (ng q.num) A n c _ D m d _ (ng r.num) A' n' c' _ D' m' d' _ W X.n X.d Y.n Y.d l.1 l.2 l'.1 l'.2 (by rw[rv_z];exact h0)
 rwa [rv_z,rv_z] at this
theorem fnegQ (q:Rat) (A:Option Addr) (n c:Nat) (D:Option Addr) (m d:Nat) (W:World) (X:RR W A n c D m d q) (hs:Rs q 9900000):Calls Tryz.prog 64 #[.agg #[.bool (ng q.num),.slice A n c,.slice D m d]] W (RetR (-q) W):=by
 have l:=X.lens hs;have:=Fneg_any (ng q.num) A n c _ D m d _ W X.n X.d l.1 l.2
 rwa [rv_z] at this
def RowsO (M:List (List Rat)) (w:World) (e:Ending) (w':World):Prop:=∃ v bs rs L,e=.returned v∧Gro (slC rwC) w w' bs rs 23 v L∧(∀ s∈L,RowI bs rs s)∧MatV L M
theorem takeM_any (M:List (List Rat)) (L:List Ro) (A:Option Addr) (n c:Nat) (w:World) (h:Mr w A n c L) (hM:qM L=M) (hs:∀ r∈L,r.n≤1000∧∀ x∈r.L,Rk x.b x.n x.x x.m x.y x.q) (hn:n≤1000):Calls Tryz.prog 82 #[.slice A n c] w (RowsO M w):=by
 have hML:M.length=n:=by rw[←hM];unfold qM;rw[List.length_map];exact h.len
 have hb:=Lib.hid hn;replace h:=Lib.hid h;replace hM:=Lib.hid hM;replace hs:=Lib.hid hs;have S:=Lib.hid (St.new w);replace hML:=Lib.hid hML;clear hn;go_enter Tryz.func82,Tryz.ntmps82;go_wp2
 go_loopw [3,4] (fun rv iv wr=>∃ (i:Nat) (bs:List GBk) (rs:List GRd) (R:List (Sl Gw)),i≤n∧iv=.int .i64 i∧Gro (slC rwC) w wr bs rs 23 rv R∧(∀ s∈R,RowI bs rs s)∧MatV R (M.take i)) (fun _ iv _=>n-(intOf iv).toNat)
 case atStart=>exact⟨0,[],[],[],Nat.zero_le _,rfl,Gro.nil_ (slC rwC) S.out _,fun s hs=>(by cases hs),rfl⟩
 case round=>
  clear S;obtain⟨i,bs,rs,R,hin,rfl,GR,hR,hV⟩:=hrel
  by_cases hlt:i<n
  ·have g1:(i:Int)<(n:Int):=by omega
   have g2:(0:Int)≤(i:Int):=by omega
   have hih:=Lib.hid hlt;obtain⟨b,o,x,rfl,hx,hxm,e0⟩:=(h.out.bel GR.st.bel).get hlt;have hrow:=(h.out.bel GR.st.bel).rd x hxm;obtain⟨q,hqx⟩:∃ q,q=x.L.map (·.q):=⟨_,rfl⟩;have hq:M[i]?=some q:=by rw[←hM.out];unfold qM;rw[List.getElem?_map,hx,hqx];rfl
   have hRl:Hid (R.length=i):=Lib.hid (by have:=hV.len;rw[List.length_take] at this;have:=hML.out;omega)
   have hT:Hid (Calls Tryz.prog 61 #[.slice x.A x.n x.c] wr (RowO q wr)):=Lib.hid (takeL_any q x.L x.A x.n x.c wr hrow hqx.symm (hs.out x hxm).2 (hs.out x hxm).1);have hV2:Hid (∀ y:Sl Gw,y.L.map rwV=q.map qV→MatV (R++[y]) (M.take (i+1))):=Lib.hid fun y hy=>by
    rw[List.take_add_one,hq];exact hV.snoc hy
   replace GR:=Lib.hid GR;replace hR:=Lib.hid hR;replace hrow:=Lib.hid hrow;clear hlt hin hx hq hxm hV hqx
   go_wp2_with fail
   refine hT.out.mono ?_
   rintro e w4 ⟨A3,c3,Lr,bs3,rs3,rfl,S3,hI3,hL3⟩;have GJ:=GR.out.joinr S3;have hR2:Hid (∀ s∈R,RowI (bs++bs3) (rs++rs3) s):=Lib.hid fun s hs=>(hR.out s hs).mono (fun p hp=>List.mem_append_left _ hp) (fun p hp=>List.mem_append_left _ hp)
   have hI4:Hid (RowI (bs++bs3) (rs++rs3) ⟨A3,c3,Lr⟩):=Lib.hid (hI3.mono (fun p hp=>List.mem_append_right _ hp) (fun p hp=>List.mem_append_right _ hp))
   have hyV:=Lib.hid (hV2.out ⟨A3,c3,Lr⟩ hL3);have GA:=Lib.hid (GJ.alloc #[.slice A3 Lr.length c3] 23 (noLof rfl));clear GJ GR S3 hI3 hL3 hT hV2 hR e0
   go_wp2_with (at_builtin;refine Gro.wp rfl (.tmp 11) (.tmp 17) 22 rfl (.slice none 0 0) 24 Tryz.underlying22 (by kernel_rfl) rfl (fun v hv z e=>by simp[Value.cells] at hv;subst hv;cases e) rfl GA.out w4.heap.size ⟨A3,c3,Lr⟩ rfl ((GA.out.st).cb 0 rfl) ((hI4.out.mono (fun p hp=>List.mem_cons_of_mem _ hp) (fun p hp=>hp)).in_ _) (by have:=hRl.out;have:=hih.out;have:=hb.out;omega) (by have:=hRl.out;have:=hih.out;have:=hb.out;unfold maxLen;omega) ?_)
   intro v' w5 G5;have hL6:Hid (∀ s∈R++[⟨A3,c3,Lr⟩],RowI (bs++bs3) (rs++rs3) s):=Lib.hid fun s hs=>by
    rcases List.mem_append.1 hs with hs | hs
    ·exact hR2.out s hs
    ·rw[List.mem_singleton.1 hs];exact hI4.out
   have G6:=Lib.hid (Gro.sub G5 (fun x hx=>(hL6.out x hx).in_ _))
   clear G5 GA hR2 hI4 hRl;have hlt:=hih.out;have hbb:=hb.out;go_wp2
   go_roundw
   case rel=>exact⟨i+1,_,_,_,by omega,by go_num,G6.out,hL6.out,hyV.out⟩
   case measure=>simp[intOf];omega
  ·obtain rfl:n=i:=by omega
   rw[List.take_of_length_le (by rw[hML.out];exact Nat.le_refl _)] at hV
   have hres:=Lib.hid (show RowsO M w (.returned _) wr from ⟨_,bs,rs,R,rfl,GR,hR,hV⟩)
   clear GR hR hV hin hlt;go_wp2;go_ret;exact hres.out
theorem columnsM_any (L:List (Sl Gw)) (A:Option Addr) (n c k:Nat) (w:World) (h:LR (slC rwC) w A n L) (hk:∀ s∈L,s.L.length=k) (n0:1≤n):Calls Tryz.prog 41 #[.slice A n c] w fun e w'=>e=.returned (.int .i64 k)∧w'=w:=by
 obtain⟨b,o,x,rfl,hx,hm,e0,_⟩:=mat_get h (show 0<n by omega)
 rw[hk x hm] at e0;rw[Nat.add_zero] at e0;have g1:(0:Int)<(n:Int):=by omega
 have g2:¬ (n:Int)=0:=by omega
 clear h hk hx hm n0;go_enter Tryz.func41,Tryz.ntmps41;go_wp2;go_ret;exact⟨rfl,rfl⟩
end Go.Proofs.YtfnkpfbobdmieaaGreat
namespace GE
theorem rct.getD {k:Nat} {M:List (List Rat)} (h:rct k M) {i:Nat} (hi:i<M.length):(M.getD i []).length=k:=rct_getD h hi
theorem rct.set {k:Nat} {M:List (List Rat)} (h:rct k M) {i:Nat} {r:List Rat} (hr:r.length=k):rct k (M.set i r):=rct_set h hr
end GE
namespace Go.Proofs.YtfnkpfbobdmieaaGreat
open Go.RowKit RQ GE
set_option linter.unusedVariables false
noncomputable def szB (q:Rat):Bool:=@decide (Rs q 9900000) (Classical.propDecidable _)
theorem szB_of {q:Rat} (h:Rs q 9900000):szB q=true:=@decide_eq_true _ (Classical.propDecidable _) h
noncomputable def okM (M:List (List Rat)):Bool:=M.all fun r=>r.all szB
noncomputable def okR (M:List (List Rat)) (j t:Nat):Nat→Bool
 | 0=>okM M
 | i+1=>okR M j t i&&okM (rws M j t (i+1))&&szB (-(el (rws M j t i) i j))&&(timesQ ((rws M j t i).getD t []) (-(el (rws M j t i) i j))).all szB
noncomputable def colOk (j:Nat) (s:GS):Bool:=
 if gat j s=s.M.length then true else
  szB (1 / el (gm1 j s) s.p.length j)&&szB (gf1 j s*el (gm1 j s) s.p.length j)&&okR (nrm (gm1 j s) j s.p.length) j s.p.length s.M.length
noncomputable def gok:Nat→Nat→GS→Bool
 | 0,_,_=>true
 | c+1,j,s=>colOk j s&&gok c (j+1) (gcol j s)
theorem szB_rs {q:Rat} (h:szB q=true):Rs q 9900000:=@of_decide_eq_true _ (Classical.propDecidable _) h
theorem szB_one:szB 1=true:=szB_of ((Rs.int (z:=1) (p:=1) (by decide) (Nat.le_refl 1)).mono (by decide))
theorem okM_rs {M:List (List Rat)} (h:okM M=true) {i:Nat}:∀ q∈M.getD i [],Rs q 9900000:=by
 intro q hq;rw[List.getD_eq_getElem?_getD] at hq
 cases hi:M[i]? with
 | none=>rw[hi] at hq;cases hq
 | some r=>
  rw[hi] at hq;exact szB_rs (List.all_eq_true.1 (List.all_eq_true.1 h r (List.mem_of_getElem? hi)) q hq)
theorem okR_le {M:List (List Rat)} {j t:Nat}:∀ {n i:Nat},okR M j t n=true→i≤n→okM (rws M j t i)=true
 | 0,i,h,hi=>by
  obtain rfl:i=0:=by omega
  exact h
 | n+1,i,h,hi=>by
  unfold okR at h;simp only[Bool.and_eq_true] at h
  rcases Nat.lt_or_ge i (n+1) with hl | hl
  ·exact okR_le h.1.1.1 (by omega)
  ·obtain rfl:i=n+1:=by omega
   exact h.1.1.2
theorem okR_at {M:List (List Rat)} {j t:Nat}:∀ {n i:Nat},okR M j t n=true→i<n→szB (-(el (rws M j t i) i j))=true∧(timesQ ((rws M j t i).getD t []) (-(el (rws M j t i) i j))).all szB=true
 | 0,i,h,hi=>by omega
 | n+1,i,h,hi=>by
  unfold okR at h;simp only[Bool.and_eq_true] at h
  rcases Nat.lt_or_ge i n with hl | hl
  ·exact okR_at h.1.1.1 hl
  ·obtain rfl:i=n:=by omega
   exact⟨h.1.2,h.2⟩
theorem timesQ_len {l:List Rat} {c:Rat}:(timesQ l c).length=l.length:=times_len
theorem plusQ_len {a b:List Rat} (h:a.length=b.length):(plusQ a b).length=a.length:=by unfold plusQ;rw[List.length_zipWith,h,Nat.min_self]
def Mx (cur:Array Value) (L:List (Sl Gw)):Prop:=∀ (i:Nat) (s:Sl Gw),L[i]?=some s→cur[i]?=some s.v
theorem Mx.set {cur:Array Value} {L:List (Sl Gw)} (h:Mx cur L) {i:Nat} (x:Sl Gw):Mx (cur.setIfInBounds i x.v) (L.set i x):=by
 intro k s hs
 by_cases hk:i=k
 ·subst hk
  rcases Nat.lt_or_ge i L.length with hl | hl
  ·rw[List.getElem?_set_self hl] at hs
   obtain rfl:=Option.some.inj hs;have h1:=h i _ (List.getElem?_eq_getElem hl)
   have:i<cur.size:=(Array.getElem?_eq_some_iff.1 h1).1
   rw[Array.getElem?_setIfInBounds_self_of_lt this]
  ·rw[List.getElem?_eq_none (by rw[List.length_set];exact hl)] at hs
   cases hs
 ·rw[List.getElem?_set_ne hk] at hs
  rw[Array.getElem?_setIfInBounds_ne hk]
  exact h k s hs
def RSt (w wr:World) (g fb zb n k:Nat) (pv:Value) (s:GS):Prop:=∃ (cur:Array Value) (bs:List GBk) (rs:List GRd) (L:List (Sl Gw)) (y z:Gw),
 Gro intC w wr ((g,cur,23)::(fb,y.vs,45)::(zb,z.vs,45)::bs) rs 3 pv (s.p.map Int.ofNat)∧L.length=n∧Mx cur L∧(∀ x∈L,RowI bs rs x)∧MatV L s.M∧rct k s.M∧rwI rs y∧rwV y=qV s.f
section
variable {w wr W':World} {g fb zb n k:Nat} {pv:Value} {s:GS}
theorem RSt.call (h:RSt w wr g fb zb n k pv s) (hb:Below wr.heap.size wr W'):RSt w W' g fb zb n k pv s:=by
 obtain⟨cur,bs,rs,L,y,z,G,h⟩:=h;exact⟨cur,bs,rs,L,y,z,G.call hb,h⟩
theorem RSt.bel (h:RSt w wr g fb zb n k pv s):Below w.heap.size w wr:=by
 obtain⟨cur,bs,rs,L,y,z,G,h⟩:=h;exact G.st.bel
theorem RSt.len (h:RSt w wr g fb zb n k pv s):s.M.length=n:=by
 obtain⟨cur,bs,rs,L,y,z,G,h1,h2,h3,h4,h5⟩:=h;rw[←h4.len];exact h1
theorem RSt.rect (h:RSt w wr g fb zb n k pv s):rct k s.M:=by
 obtain⟨cur,bs,rs,L,y,z,G,h1,h2,h3,h4,h5,_⟩:=h;exact h5
theorem RSt.row (h:RSt w wr g fb zb n k pv s) {i:Nat} (hi:i<n):∃ A c R,wr.cell? ⟨g,i,none⟩=some (.slice A k c)∧LR rwC wr A k R∧R.map rwV=(s.M.getD i []).map qV∧(s.M.getD i []).length=k:=by
 have hr:=h.rect.getD (i:=i) (by rw[h.len];exact hi)
 obtain⟨cur,bs,rs,L,y,z,G,h1,h2,h3,h4,h5⟩:=h;have hx:L[i]?=some L[i]:=List.getElem?_eq_getElem (by omega)
 obtain⟨q,hq,hqm,hxq⟩:=map_at h4 hx;have e:s.M.getD i []=q:=by rw[List.getD_eq_getElem?_getD,hq];rfl
 have hl:L[i].L.length=k:=by have:=congrArg List.length hxq;rw[List.length_map,List.length_map,←e,hr] at this;exact this
 have hc:=(G.st.cb 0 rfl).cell (h2 i _ hx);refine⟨L[i].A,L[i].c,L[i].L,?_,?_,?_,hr⟩
 ·rw[hc];show some (Value.slice _ _ _)=_;rw[hl]
 ·have:=((h3 L[i] (List.getElem_mem _)).mono (bs':=(g,cur,23)::(fb,y.vs,45)::(zb,z.vs,45)::bs) (rs':=rs) (fun p hp=>List.mem_cons_of_mem _ (List.mem_cons_of_mem _ (List.mem_cons_of_mem _ hp))) (fun p hp=>hp)).lr G.st
  rwa [hl] at this
 ·rw[e];exact hxq
theorem RSt.fac (h:RSt w wr g fb zb n k pv s):∃ y:Gw,wr.cell? ⟨fb,0,none⟩=some (.bool y.b)∧wr.cell? ⟨fb,1,none⟩=some (.slice y.x.A y.x.n y.x.c)∧wr.cell? ⟨fb,2,none⟩=some (.slice y.y.A y.y.n y.y.c)∧rwV y=qV s.f∧Rd wr y.x.A y.x.n y.x.c y.x.x∧Rd wr y.y.A y.y.n y.y.c y.y.x:=by
 obtain⟨cur,bs,rs,L,y,z,G,h1,h2,h3,h4,h5,h6,h7⟩:=h;exact⟨y,(G.st.cb 1 rfl).cell rfl,(G.st.cb 1 rfl).cell rfl,(G.st.cb 1 rfl).cell rfl,h7,G.st.rd _ h6.1,G.st.rd _ h6.2⟩
theorem RSt.cells (h:RSt w wr g fb zb n k pv s):(∀ i,wr.frozen? ⟨g,i,none⟩=false)∧(∀ i,wr.frozen? ⟨fb,i,none⟩=false)∧(∀ i,wr.frozen? ⟨zb,i,none⟩=false):=by
 obtain⟨cur,bs,rs,L,y,z,G,h⟩:=h;exact⟨fun i=>G.st.f 0 i rfl,fun i=>G.st.f 1 i rfl,fun i=>G.st.f 2 i rfl⟩
theorem RSt.zcell (h:RSt w wr g fb zb n k pv s):∃ z:Gw,wr.cell? ⟨zb,0,none⟩=some (.bool z.b)∧wr.cell? ⟨zb,1,none⟩=some (.slice z.x.A z.x.n z.x.c)∧wr.cell? ⟨zb,2,none⟩=some (.slice z.y.A z.y.n z.y.c):=by
 obtain⟨cur,bs,rs,L,y,z,G,h1,h2,h3,h4,h5,h6,h7⟩:=h;exact⟨z,(G.st.cb 2 rfl).cell rfl,(G.st.cb 2 rfl).cell rfl,(G.st.cb 2 rfl).cell rfl⟩
theorem RSt.step {α:Type} {C:Cod α} {e:Nat} {bs bs':List GBk} {rs rs':List GRd} {v:Value} {L:List α} (G:Gro C w wr bs rs e v L) (hC:∀ x w bs rs,C.In w bs rs x) (h:∀ ob,St w wr (bs++ob) rs→St w W' (bs'++ob) rs'):Gro C w W' bs' rs' e v L:=by
 obtain⟨ob,h1,h2⟩:=G.1.open_;exact⟨Apd.close h1 (h ob h2),fun x _=>hC x _ _ _⟩
theorem intC_in:∀ (x:Int) w bs rs,intC.In w bs rs x:=fun _ _ _ _=>trivial
theorem RSt.put (h:RSt w wr g fb zb n k pv s) {bs':List GBk} {rs':List GRd} {A:Option Addr} {c i:Nat} {R:List Gw} {r:List Rat} (S:St wr W' bs' rs') (hI:RowI bs' rs' ⟨A,c,R⟩) (hR:R.map rwV=r.map qV) (hr:r.length=k):RSt w (W'.setCell ⟨g,i,none⟩ (.slice A k c)) g fb zb n k pv ⟨s.M.set i r,s.p,s.f⟩:=by
 obtain⟨cur,bs,rs,L,y,z,G,h1,h2,h3,h4,h5,h6,h7⟩:=h;have hl:R.length=k:=by have:=congrArg List.length hR;rw[List.length_map,List.length_map,hr] at this;exact this
 have e:(⟨A,c,R⟩:Sl Gw).v=.slice A k c:=by show Value.slice _ _ _=_;rw[hl]
 refine⟨cur.setIfInBounds i (⟨A,c,R⟩:Sl Gw).v,bs++bs',rs++rs',L.set i ⟨A,c,R⟩,y,z,RSt.step G intC_in fun ob h=>?_,by rw[List.length_set];exact h1,h2.set _,fun x hx=>?_,?_,h5.set hr,h6.mono (fun p hp=>List.mem_append_left _ hp),h7⟩
 ·have h8:=(h.join S).set 0 i (.slice A k c) rfl (fun _ e=>by cases e)
  rw[e];refine h8.prm ?_
  simp only[List.cons_append,List.set_cons_zero,List.append_assoc];refine ((List.Perm.append_left bs List.perm_append_comm).cons _ |>.cons _ |>.cons _)
 ·rcases List.mem_or_eq_of_mem_set hx with hx | rfl
  ·exact (h3 x hx).mono (fun p hp=>List.mem_append_left _ hp) (fun p hp=>List.mem_append_left _ hp)
  ·exact hI.mono (fun p hp=>List.mem_append_right _ hp) (fun p hp=>List.mem_append_right _ hp)
 ·unfold MatV at *
  rw[List.map_set,List.map_set,h4,hR]
theorem RSt.swap (h:RSt w wr g fb zb n k pv s) {a t:Nat} {va vt:Value} (ha:a<n) (ht:t<n) (ca:wr.cell? ⟨g,a,none⟩=some va) (ct:wr.cell? ⟨g,t,none⟩=some vt):RSt w ((wr.setCell ⟨g,a,none⟩ vt).setCell ⟨g,t,none⟩ va) g fb zb n k pv ⟨swp s.M a t,s.p,s.f⟩:=by
 obtain⟨cur,bs,rs,L,y,z,G,h1,h2,h3,h4,h5,h6,h7⟩:=h;have xa:L[a]?=some L[a]:=List.getElem?_eq_getElem (by omega)
 have xt:L[t]?=some L[t]:=List.getElem?_eq_getElem (by omega)
 have ka:=(G.st.cb 0 rfl).cell (h2 a _ xa);have kt:=(G.st.cb 0 rfl).cell (h2 t _ xt);rw[ca] at ka;rw[ct] at kt;obtain rfl:=Option.some.inj ka;obtain rfl:=Option.some.inj kt;obtain⟨qa,hqa,_,hxa⟩:=map_at h4 xa;obtain⟨qt,hqt,_,hxt⟩:=map_at h4 xt;have ea:s.M.getD a []=qa:=by rw[List.getD_eq_getElem?_getD,hqa];rfl
 have et:s.M.getD t []=qt:=by rw[List.getD_eq_getElem?_getD,hqt];rfl
 refine⟨(cur.setIfInBounds a L[t].v).setIfInBounds t L[a].v,bs,rs,(L.set a L[t]).set t L[a],y,z,RSt.step G intC_in fun ob h=>?_,by rw[List.length_set,List.length_set];exact h1,(h2.set _).set _,fun x hx=>?_,?_,?_,h6,h7⟩
 ·exact (h.set 0 a L[t].v rfl (fun _ e=>by cases e)).set 0 t L[a].v rfl (fun _ e=>by cases e)
 ·rcases List.mem_or_eq_of_mem_set hx with hx | rfl
  ·rcases List.mem_or_eq_of_mem_set hx with hx | rfl
   ·exact h3 x hx
   ·exact h3 _ (List.getElem_mem _)
  ·exact h3 _ (List.getElem_mem _)
 ·unfold MatV at *
  show _=((s.M.set a (s.M.getD t [])).set t (s.M.getD a [])).map _
  rw[ea,et,List.map_set,List.map_set,List.map_set,List.map_set,h4,hxa,hxt]
 ·show rct k ((s.M.set a (s.M.getD t [])).set t (s.M.getD a []))
  refine (h5.set ?_).set ?_
  ·rw[et];exact h5 _ (List.mem_of_getElem? hqt)
  ·rw[ea];exact h5 _ (List.mem_of_getElem? hqa)
theorem RSt.putf (h:RSt w wr g fb zb n k pv s) {A:Option Addr} {m c:Nat} {D:Option Addr} {m' d:Nat} {q:Rat} (X:RR W' A m c D m' d q) (hb:Below wr.heap.size wr W'):RSt w (((W'.setCell ⟨fb,0,none⟩ (.bool (ng q.num))).setCell ⟨fb,1,none⟩ (.slice A m c)).setCell ⟨fb,2,none⟩ (.slice D m' d)) g fb zb n k pv ⟨s.M,s.p,q⟩:=by
 obtain⟨cur,bs,rs,L,y,z,G,h1,h2,h3,h4,h5,h6,h7⟩:=h;refine⟨cur,bs,(A,m,c,limbs q.num.natAbs)::(D,m',d,dn q)::rs,L,⟨ng q.num,⟨A,m,c,limbs q.num.natAbs⟩,⟨D,m',d,dn q⟩⟩,z,RSt.step G intC_in fun ob h=>?_,h1,h2,fun x hx=>(h3 x hx).mono (fun p hp=>hp) (fun p hp=>List.mem_cons_of_mem _ (List.mem_cons_of_mem _ hp)),h4,h5,⟨List.mem_cons_self,List.mem_cons_of_mem _ List.mem_cons_self⟩,rfl⟩
 exact St_put3 (p:=1) (((h.call hb).read X.d).read X.n) rfl ⟨ng q.num,⟨A,m,c,limbs q.num.natAbs⟩,⟨D,m',d,dn q⟩⟩
end
theorem Gro.dmat {w W:World} {bs:List GBk} {rs:List GRd} {e:Nat} {v:Value} {L:List (Sl Gw)} (h:Gro (slC rwC) w W bs rs e v L) (h0:1≤L.length):∃ g c cur,v=.slice (some ⟨g,0,none⟩) L.length c∧St w W ((g,cur,e)::bs) rs∧Mx cur L:=by
 obtain⟨⟨h1,h2,⟨rfl,h3,S⟩ | ⟨g,cap,cur,rfl,h3,h4,h5,h6,S⟩⟩,_⟩:=h
 ·omega
 ·refine⟨g,cap,cur,rfl,S,fun i s hs=>?_⟩
  have:=all_get (C:=slC rwC) hs 0 s.v rfl;rw[show (slC rwC).sz=1 from rfl,Nat.mul_one,Nat.add_zero,←h6,List.getElem?_take] at this
  split at this
  ·simpa using this
  ·cases this
end Go.Proofs.YtfnkpfbobdmieaaGreat
