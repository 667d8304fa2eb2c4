/- Slices of numbers, by codecs: rows of the call's own, what is read of them. -/
import Derived.Test.YtfnkpfbobdmieaaGreatM17
import Derived.Test.YtfnkpfbobdmieaaGreatM18
import Derived.Test.YtfnkpfbobdmieaaGreatM19
set_option maxRecDepth 100000
set_option maxHeartbeats 40000000
set_option linter.unusedVariables false
namespace Go.Proofs.YtfnkpfbobdmieaaGreat
open Go.RowKit RQ GE
set_option linter.unusedVariables false
theorem noLof {xs:List Value} (h:xs.all (fun v=>match v with | .int .u32 _=>false | _=>true)=true):NoL xs.toArray:=by
 refine NoLl.arr fun v hv z e=>?_
 have:=List.all_eq_true.1 h v hv;rw[e] at this
 cases this
def rwV (x:Gw):Bool×List Nat×List Nat:=(x.b,x.x.x,x.y.x)
def qV (q:Rat):Bool×List Nat×List Nat:=(ng q.num,limbs q.num.natAbs,dn q)
def rwI (rs:List GRd) (x:Gw):Prop:=(x.x.A,x.x.n,x.x.c,x.x.x)∈rs∧(x.y.A,x.y.n,x.y.c,x.y.x)∈rs
theorem rwI.in_ {rs:List GRd} {x:Gw} (h:rwI rs x) (w:World) (bs:List GBk):rwC.In w bs rs x:=⟨trivial,.inl h.1,.inl h.2⟩
theorem rwI.mono {rs rs':List GRd} {x:Gw} (h:rwI rs x) (hr:∀ p∈rs,p∈rs'):rwI rs' x:=⟨hr _ h.1,hr _ h.2⟩
structure RowI (bs:List GBk) (rs:List GRd) (s:Sl Gw):Prop where
 cap:s.L.length≤s.c
 el:∀ x∈s.L,rwI rs x
 mem:s.L=[]∨∃ (g:Nat) (cur:Array Value) (t:Nat),s.A=some ⟨g,0,none⟩∧(g,cur,t)∈bs∧∀ (j:Nat) v,(rwC.all s.L)[j]?=some v→cur[j]?=some v
section
variable {bs bs':List GBk} {rs rs':List GRd} {s:Sl Gw} {w W W':World}
theorem RowI.mono (h:RowI bs rs s) (hb:∀ p∈bs,p∈bs') (hr:∀ p∈rs,p∈rs'):RowI bs' rs' s:=by
 refine⟨h.cap,fun x hx=>(h.el x hx).mono hr,?_⟩
 rcases h.mem with h0 | ⟨g,cur,t,h1,h2,h3⟩
 ·exact .inl h0
 ·exact .inr ⟨g,cur,t,h1,hb _ h2,h3⟩
theorem RowI.in_ (h:RowI bs rs s) (w:World):(slC rwC).In w bs rs s:=by
 refine⟨⟨rfl,?_,fun x hx=>(h.el x hx).in_ w bs⟩,h.cap⟩
 rcases h.mem with h0 | ⟨g,cur,t,h1,h2,h3⟩
 ·exact .inl (by rw[h0];rfl)
 ·exact .inr (.inr ⟨g,cur,t,h1,h2,h3⟩)
theorem RowI.nil_ (bs:List GBk) (rs:List GRd):RowI bs rs ⟨none,0,[]⟩:=⟨Nat.le_refl _,fun x hx=>(by cases hx),Or.inl rfl⟩
theorem St.join {w W W':World} {bs bs':List GBk} {rs rs':List GRd} (h:St w W bs rs) (h':St W W' bs' rs'):St w W' (bs++bs') (rs++rs'):=by
 refine⟨h.bel.trans (h'.bel.mono h.bel.size),fun p hp=>?_,List.pairwise_append.2 ⟨h.nd,h'.nd,fun p hp q hq=>?_⟩,fun r hr=>?_⟩
 ·rcases List.mem_append.1 hp with hp | hp
  ·obtain⟨q1,q2,q3⟩:=h.bk p hp
   exact⟨q1.bel h'.bel,q2,q3⟩
  ·obtain⟨q1,q2,q3⟩:=h'.bk p hp
   exact⟨q1,q2,Nat.le_trans h.bel.size q3⟩
 ·have a:=(h.bk p hp).1.lt
  have b:=(h'.bk q hq).2.2
  omega
 ·rcases List.mem_append.1 hr with hr | hr
  ·exact (h.rd r hr).below h'.bel
  ·exact h'.rd r hr
theorem Gro.joinr {α:Type} {C:Cod α} {e:Nat} {v:Value} {L:List α} (h:Gro C w W bs rs e v L) (S:St W W' bs' rs'):Gro C w W' (bs++bs') (rs++rs') e v L:=by
 obtain⟨ob,h1,h2⟩:=h.1.open_;refine⟨Apd.close h1 ?_,fun x hx=>C.mono (h.2 x hx) (fun p hp=>List.mem_append_left _ hp) (fun p hp=>List.mem_append_left _ hp)⟩
 have h3:=h2.join S;refine h3.prm ?_
 rw[List.append_assoc,List.append_assoc];exact List.Perm.append_left bs List.perm_append_comm
theorem Gro.drow {e:Nat} {v:Value} {L:List Gw} (h:Gro rwC w W bs rs e v L) (hx:∀ x∈L,rwI rs x):∃ A c bs',v=.slice A L.length c∧St w W bs' rs∧(∀ p∈bs,p∈bs')∧RowI bs' rs ⟨A,c,L⟩:=by
 obtain⟨⟨h1,h2,⟨rfl,h3,S⟩ | ⟨g,cap,cur,rfl,h3,h4,h5,h6,S⟩⟩,_⟩:=h
 ·have:L=[]:=List.length_eq_zero_iff.1 h3
  subst this;exact⟨none,0,bs,rfl,S,fun _ h=>h,.nil_ _ _⟩
 ·refine⟨_,_,_,rfl,S,fun _ h=>List.mem_cons_of_mem _ h,h3,hx,.inr ⟨g,cur,e,rfl,List.mem_cons_self,fun j u hu=>?_⟩⟩
  rw[←h6,List.getElem?_take] at hu
  split at hu
  ·simpa using hu
  ·cases hu
end
def MatV (L:List (Sl Gw)) (M:List (List Rat)):Prop:=L.map (fun s=>s.L.map rwV)=M.map (fun r=>r.map qV)
theorem MatV.len {L:List (Sl Gw)} {M:List (List Rat)} (h:MatV L M):L.length=M.length:=by have:=congrArg List.length h;simpa using this
theorem MatV.snoc {L:List (Sl Gw)} {M:List (List Rat)} {s:Sl Gw} {r:List Rat} (h:MatV L M) (hs:s.L.map rwV=r.map qV):MatV (L++[s]) (M++[r]):=by
 unfold MatV at *;rw[List.map_append,List.map_append,h]
 simp[hs]
def Nl0:Nl:=⟨none,0,0,[]⟩
def Gw0:Gw:=⟨false,Nl0,Nl0⟩
section
variable {α:Type} {C:Cod α} {w W W':World} {g t:Nat} {L:List α} {bs:List GBk} {rs:List GRd}
end
theorem bel_cell {w W:World} (h:Below w.heap.size w W) {a:Addr} {v:Value} (hc:w.cell? a=some v):W.cell? a=some v:=by
 have hlt:a.block<w.heap.size:=by
  rcases Nat.lt_or_ge a.block w.heap.size with h1 | h1
  ·exact h1
  ·rw[World.cell?,Array.getElem?_eq_none h1] at hc
   cases hc
 rw[World.cell?_of_block (h.block a.block hlt)];exact hc
section
variable {w W:World} {A:Option Addr} {n:Nat}
theorem row_get {L:List Gw} (h:LR rwC W A n L) {i:Nat} (hi:i<n):∃ b o x,A=some ⟨b,o,none⟩∧L[i]?=some x∧x∈L∧W.cell? ⟨b,o+i*3,none⟩=some (.bool x.b)∧W.cell? ⟨b,o+i*3+1,none⟩=some (.slice x.x.A x.x.n x.x.c)∧W.cell? ⟨b,o+i*3+2,none⟩=some (.slice x.y.A x.y.n x.y.c)∧Rd W x.x.A x.x.n x.x.c x.x.x∧Rd W x.y.A x.y.n x.y.c x.y.x:=by
 obtain⟨b,o,x,h1,h2,h3,h4,h5⟩:=h.get hi;have q0:=h5 0 _ rfl;have q1:=h5 1 _ rfl;have q2:=h5 2 _ rfl;rw[show rwC.sz=3 from rfl] at q0 q1 q2
 rw[Nat.add_zero] at q0;exact⟨b,o,x,h1,h2,h3,q0,q1,q2,h4.2.1,h4.2.2⟩
theorem mat_get {L:List (Sl Gw)} (h:LR (slC rwC) W A n L) {i:Nat} (hi:i<n):∃ b o s,A=some ⟨b,o,none⟩∧L[i]?=some s∧s∈L∧W.cell? ⟨b,o+i,none⟩=some (.slice s.A s.L.length s.c)∧LR rwC W s.A s.L.length s.L:=by
 obtain⟨b,o,s,h1,h2,h3,h4,h5⟩:=h.get hi;have q0:=h5 0 _ rfl;rw[show (slC rwC).sz=1 from rfl,Nat.mul_one,Nat.add_zero] at q0
 exact⟨b,o,s,h1,h2,h3,q0,h4.1⟩
theorem map_at {α β γ:Type} {f:α→γ} {g:β→γ} {L:List α} {M:List β} (h:L.map f=M.map g) {i:Nat} {x:α} (hx:L[i]?=some x):∃ q,M[i]?=some q∧q∈M∧f x=g q:=by
 have e:=congrArg (fun l=>l[i]?) h
 simp only[List.getElem?_map,hx,Option.map_some] at e
 cases hq:M[i]? with
 | none=>rw[hq] at e;cases e
 | some q=>rw[hq] at e;injection e with e;exact⟨q,rfl,List.mem_of_getElem? hq,e⟩
theorem rw_rr {x:Gw} {q:Rat} (h:rwV x=qV q) (R1:Rd W x.x.A x.x.n x.x.c x.x.x) (R2:Rd W x.y.A x.y.n x.y.c x.y.x):x.b=ng q.num∧RR W x.x.A x.x.n x.x.c x.y.A x.y.n x.y.c q:=by
 unfold rwV qV at h;simp only[Prod.mk.injEq] at h;obtain⟨h1,h2,h3⟩:=h;rw[h2] at R1;rw[h3] at R2;exact⟨h1,⟨R1,R2⟩⟩
end
section
variable {P:Program} {ops:Array Oper} {Q:Exit→Act→World→Prop} {S:World→Prop}
theorem Wk.t {L:Array Bool} {a:Act} {w:World} {i:Nat} {oi:Oper} {v:Value} (dst:Option Nat) (hi:ops[i]?=some oi) (hd:oi.dst=dst:=by rfl) (hc:takeOk ops [] L i oi=true:=by kernel_rfl) (hw:Region.wanted oi (yielded ops a.tmps)=true:=by kernel_rfl)
  (hQ:∀ c a w,Q (.panic c) (Act.put a dst v) w→Q (.panic c) a w:=by exact fun _ _ _ h=>h) (hy:∀ w,S w→(execOp a.eval oi).run P w=.ok (.value v) w) (hS:S w)
  (h:Wk P ops Q S (L.setIfInBounds i true) (a.put dst v) w):Wk P ops Q S L a w:=by
 simp only[takeOk,Bool.and_eq_true,Bool.not_eq_true'] at hc;obtain⟨⟨⟨⟨c1,c2⟩,c3⟩,_⟩,_⟩:=hc;subst hd;exact Wk.take hi c1 c2 (by simpa using c3) hQ (.inl ⟨hw,hy⟩) hS h
theorem Wk.g {i:Nat} {o:Oper} {L:Array Bool} {a:Act} {w:World} (ho:ops[i]?=some o) (hr:(Region.ready .any ops L==[i])=true) (hw:Region.wanted o (yielded ops a.tmps)=true)
  (h:∀ K':Act→World→Prop,Shut (∀ a w,S w→Wk P ops Q S (L.setIfInBounds i true) a w→K' a w)→Oper.wp P o a w K' Q):Wk P ops Q S L a w:=
 Wk.one (by simpa using hr) ho hw fun K' hK=>h K' (fun a w hS hW=>hK.out a w hS fun _=>hW)
theorem oper_call {P:Program} {o:Oper} {f:FuncId} {args:Array Value} {dst:Option Nat} {a:Act} {w:World} {K':Act→World→Prop} {Q:Exit→Act→World→Prop} (hd:o.dst=dst) (hx:(execOp a.eval o).run P w=.ok (.enter f args) w) (h:Calls P f args w fun e w'=>∃ v,e=.returned v∧K' (a.put dst v) w'):Oper.wp P o a w K' Q:=by
 unfold Oper.wp;rw[hx];refine Calls.mono h ?_
 rintro e w' ⟨v,rfl,hk⟩;subst hd;exact hk
end
theorem faddQ (q r:Rat) (A:Option Addr) (n c:Nat) (D:Option Addr) (m d:Nat) (A':Option Addr) (n' c':Nat) (D':Option Addr) (m' d':Nat) (W:World) (X:RR W A n c D m d q) (Y:RR W A' n' c' D' m' d' r) (hs:Rs q 9900000) (hs':Rs r 9900000):Calls Tryz.prog 71 #[.agg #[.bool (ng q.num),.slice A n c,.slice D m d],.agg #[.bool (ng r.num),.slice A' n' c',.slice D' m' d']] W (RetR (q+r) W):=by
 have l:=X.lens hs;have l':=Y.lens hs';have:=Fadd_any (ng q.num) A n c _ D m d _ (ng r.num) A' n' c' _ D' m' d' _ W X.n X.d Y.n Y.d l.1 l.2 l'.1 l'.2
 rwa [rv_z,rv_z] at this
theorem fmulQ (q r:Rat) (A:Option Addr) (n c:Nat) (D:Option Addr) (m d:Nat) (A':Option Addr) (n' c':Nat) (D':Option Addr) (m' d':Nat) (W:World) (X:RR W A n c D m d q) (Y:RR W A' n' c' D' m' d' r) (hs:Rs q 9900000) (hs':Rs r 9900000):Calls Tryz.prog 72 #[.agg #[.bool (ng q.num),.slice A n c,.slice D m d],.agg #[.bool (ng r.num),.slice A' n' c',.slice D' m' d']] W (RetR (q*r) W):=by
 have l:=X.lens hs;have l':=Y.lens hs';have:=Fmul_any (ng q.num) A n c _ D m d _ (ng r.num) A' n' c' _ D' m' d' _ W X.n X.d Y.n Y.d l.1 l.2 l'.1 l'.2
 rwa [rv_z,rv_z] at this
section
variable {P:Program} {ops:Array Oper} {Q:Exit→Act→World→Prop} {S:World→Prop}
theorem Wk.two {i j:Nat} {oi oj:Oper} {L:Array Bool} {a:Act} {w:World} (hi:ops[i]?=some oi) (hj:ops[j]?=some oj) (hr:(((Region.ready .any ops L==[i,j])&&oi.guard.isNone)&&oj.guard.isNone)=true)
  (h1:∀ K':Act→World→Prop,Shut (∀ a w,S w→Wk P ops Q S (L.setIfInBounds i true) a w→K' a w)→Oper.wp P oi a w K' Q)
  (h2:∀ K':Act→World→Prop,Shut (∀ a w,S w→Wk P ops Q S (L.setIfInBounds j true) a w→K' a w)→Oper.wp P oj a w K' Q):Wk P ops Q S L a w:=by
 simp only[Bool.and_eq_true,beq_iff_eq] at hr;obtain⟨⟨r,gi⟩,gj⟩:=hr;refine Wk.all ⟨i,by rw[r];simp⟩ fun k hk=>?_
 rw[r] at hk
 rcases List.mem_cons.1 hk with rfl | hk
 ·exact wpOp_step hi (fun K' hK=>by rw[if_pos (wanted_none gi)];exact h1 K' (fun a w hS hW=>hK a w ⟨hS,hW⟩))
 ·have:=List.mem_singleton.1 hk
  subst this;exact wpOp_step hj (fun K' hK=>by rw[if_pos (wanted_none gj)];exact h2 K' (fun a w hS hW=>hK a w ⟨hS,hW⟩))
end
theorem St_put3 {w W:World} {bs:List GBk} {rs:List GRd} {p g t:Nat} {y0:Gw} (h:St w W bs rs) (hk:bs[p]?=some (g,y0.vs,t)) (y:Gw):St w (((W.setCell ⟨g,0,none⟩ (.bool y.b)).setCell ⟨g,1,none⟩ (.slice y.x.A y.x.n y.x.c)).setCell ⟨g,2,none⟩ (.slice y.y.A y.y.n y.y.c)) (bs.set p (g,y.vs,t)) rs:=by
 have hp:p<bs.length:=(List.getElem?_eq_some_iff.1 hk).1
 have h1:=h.set p 0 (.bool y.b) hk (fun _ e=>by cases e)
 have h2:=h1.set p 1 (.slice y.x.A y.x.n y.x.c) (List.getElem?_set_self hp) (fun _ e=>by cases e)
 have h3:=h2.set p 2 (.slice y.y.A y.y.n y.y.c) (List.getElem?_set_self (by rw[List.length_set];exact hp)) (fun _ e=>by cases e)
 rw[List.set_set,List.set_set] at h3;exact h3
theorem rwI.rr {w W:World} {bs:List GBk} {rs:List GRd} {y:Gw} {q:Rat} (h:rwI rs y) (S:St w W bs rs) (hv:rwV y=qV q):y.b=ng q.num∧RR W y.x.A y.x.n y.x.c y.y.A y.y.n y.y.c q:=rw_rr hv (S.rd _ h.1) (S.rd _ h.2)
end Go.Proofs.YtfnkpfbobdmieaaGreat
namespace Go.Proofs.YtfnkpfbobdmieaaGreat
open Go.RowKit RQ GE
set_option linter.unusedVariables false
theorem St.rebase {w w1 W:World} {bs:List GBk} {rs:List GRd} (h:Below w.heap.size w w1) (S:St w1 W bs rs):St w W bs rs:=
 ⟨h.trans (S.bel.mono h.size),fun p hp=>⟨(S.bk p hp).1,(S.bk p hp).2.1,Nat.le_trans h.size (S.bk p hp).2.2⟩,S.nd,S.rd⟩
section
variable {α:Type} {C:Cod α} {w W:World} {bs:List GBk} {rs:List GRd} {e:Nat} {v:Value} {L:List α}
theorem Gro.op {P:Program} {o:Oper} {a:Act} {K':Act→World→Prop} {Q:Exit→Act→World→Prop} (s x:Operand) (ty:TypeId)
  (ho:o.op=.call { callee:=.builtin .append,args:=#[s,x],argTypes:=#[ty,ty] })
  (z:Value) (bytes:Nat) (ht:P.underlying ty=some (.slice e)) (hi:(P.info? e).map (fun i=>(i.zero,i.size,i.bytes))=some (some z,C.sz,bytes))
  (hzs:z.cells.size=C.sz) (hzn:NoLl z.cells.toList) (hs:a.eval s=v) (h:Gro C w W bs rs e v L)
  (g:Nat) (y:α) {t:Nat} (hx:a.eval x=.slice (some ⟨g,0,none⟩) 1 1) (hc:Cb W g (C.cs y).toArray t) (hy:C.In w bs rs y) (hn:(L.length+1)*bytes≤140737488355328) (h63:L.length+1≤maxLen)
  (hk:∀ v' W',Gro C w W' bs rs e v' (L++[y])→K' (a.put o.dst v') W'):Oper.wp P o a W K' Q:=by
 obtain⟨i0,hi0,hzz⟩:=Option.map_eq_some_iff.1 hi;simp only[Prod.mk.injEq] at hzz;obtain⟨hz0,hz1,hz2⟩:=hzz;obtain⟨v',W',hr,hA⟩:=Apd.run (P:=P) ty o.type i0 z bytes ht hi0 hz0 hz1 hz2 hzs hzn h.1 ⟨g,0,none⟩ 1 1 (C.cs y) (by rw[C.len,Nat.one_mul]) (fun j u hu=>by
  have hadd:(⟨g,0,none⟩:Addr).add j=⟨g,j,none⟩:=by unfold Addr.add;split<;>simp_all
  rw[hadd];exact hc.cell (by rw[List.getElem?_toArray];exact hu)) (C.one y) (C.noL y) (by decide) h63 hn
 unfold Oper.wp execOp;simp only[ho,resolve,invoke,builtin,Sem.run_bind,Sem.run_pure,Result.andThen_ok,List.map_toArray,List.map_cons,List.map_nil,hs,hx,hr];refine hk v' W' ⟨?_,fun x hx=>?_⟩
 ·rw[all_app,all_one,List.length_append];exact hA
 ·rcases List.mem_append.1 hx with hx | hx
  ·exact h.2 x hx
  ·rw[List.mem_singleton.1 hx];exact hy
theorem Gro.unop (h:Gro C w W bs rs e v L):∃ ob,((C.all L).length=L.length*C.sz∧NoLl (C.all L)∧OB ob e C.sz v L.length (C.all L))∧St w W (bs++ob) rs:=h.1.open_
end
def RowO (M:List Rat) (w:World) (e:Ending) (w':World):Prop:=∃ A c L bs rs,e=.returned (.slice A L.length c)∧St w w' bs rs∧RowI bs rs ⟨A,c,L⟩∧L.map rwV=M.map qV
theorem RowI.lr {w W:World} {bs:List GBk} {rs:List GRd} {s:Sl Gw} (h:RowI bs rs s) (S:St w W bs rs):LR rwC W s.A s.L.length s.L:=(h.in_ w).1.lr S
theorem take_at {M:List Rat} {i:Nat} {q:Rat} (h:M[i]?=some q):M.take (i+1)=M.take i++[q]:=by
 rw[List.take_add_one,h];rfl
def RowG (M:List Rat) (w:World) (e:Ending) (w':World):Prop:=∃ v L rs,e=.returned v∧Gro rwC w w' [] rs 45 v L∧(∀ x∈L,rwI rs x)∧L.map rwV=M.map qV
theorem RowG.row {M:List Rat} {w:World} {e:Ending} {w':World} (h:RowG M w e w'):RowO M w e w':=by
 obtain⟨v,L,rs,rfl,G,hI,hV⟩:=h;obtain⟨A9,c9,bs9,hv,S9,_,hrow⟩:=G.drow hI;exact⟨A9,c9,L,bs9,rs,by rw[hv],S9,hrow,hV⟩
theorem takeG_any (M:List Rat) (L:List Rt) (A:Option Addr) (n c:Nat) (w:World) (h:Sr w A n c L) (hM:L.map (·.q)=M) (hs:∀ x∈L,Rk x.b x.n x.x x.m x.y x.q) (hn:n≤1000):Calls Tryz.prog 61 #[.slice A n c] w (RowG M w):=by
 have hML:M.length=n:=by have:=congrArg List.length hM;rw[List.length_map,h.len] at this;omega
 have hb:=Lib.hid hn;replace h:=Lib.hid h;replace hM:=Lib.hid hM;replace hs:=Lib.hid hs;have S:=Lib.hid (St.new w);replace hML:=Lib.hid hML;clear hn;go_enter Tryz.func61,Tryz.ntmps61;go_wp2
 go_loopw [3,4] (fun rv iv wr=>∃ (i:Nat) (rs:List GRd) (R:List Gw),i≤n∧iv=.int .i64 i∧Gro rwC w wr [] rs 45 rv R∧(∀ x∈R,rwI rs x)∧R.map rwV=(M.take i).map qV) (fun _ iv _=>n-(intOf iv).toNat)
 case atStart=>exact⟨0,[],[],Nat.zero_le _,rfl,Gro.nil_ rwC S.out _,fun s hs=>(by cases hs),rfl⟩
 case round=>
  clear S;obtain⟨i,rs,R,hin,rfl,GR,hR,hV⟩:=hrel
  by_cases hlt:i<n
  ·have g1:(i:Int)<(n:Int):=by omega
   have g2:(0:Int)≤(i:Int):=by omega
   have hih:=Lib.hid hlt;obtain⟨b,o,x,rfl,hx,hxm,e0,e1,e2⟩:=(h.out.bel GR.st.bel).get hlt;obtain⟨q,hqx⟩:∃ q,q=x.q:=⟨_,rfl⟩;have hq:M[i]?=some q:=by rw[←hM.out,List.getElem?_map,hx,hqx];rfl
   have X:=(h.out.bel GR.st.bel).rd x hxm;have hRl:Hid (R.length=i):=Lib.hid (by have:=congrArg List.length hV;rw[List.length_map,List.length_map,List.length_take] at this;have:=hML.out;omega)
   have hT:Hid (Calls Tryz.prog 42 #[.agg #[.bool x.b,.slice x.A x.n x.c,.slice x.D x.m x.d]] wr (RetR q wr)):=Lib.hid (by rw[hqx];exact takeF x.b x.A x.n x.c x.x x.D x.m x.d x.y x.q wr (X.at_ (hs.out x hxm)))
   have hV2:Hid (∀ y:Gw,rwV y=qV q→(R++[y]).map rwV=(M.take (i+1)).map qV):=Lib.hid fun y hy=>by
    rw[take_at hq,List.map_append,List.map_append,hV];simp only[List.map_cons,List.map_nil,hy]
   replace GR:=Lib.hid GR;replace hR:=Lib.hid hR;clear hlt hin hx hq hxm X hV hqx
   go_wp2_with fail
   refine hT.out.mono ?_
   rintro e w4 ⟨A3,m3,c3,D3,m4,c4,rfl,X,bb⟩;obtain⟨y,hy⟩:∃ y:Gw,y=⟨ng q.num,⟨A3,m3,c3,limbs q.num.natAbs⟩,⟨D3,m4,c4,dn q⟩⟩:=⟨_,rfl⟩;have hcs:rwC.cs y=[.bool (ng q.num),.slice A3 m3 c3,.slice D3 m4 c4]:=by rw[hy];rfl
   have hyI:Hid (rwI ((A3,m3,c3,limbs q.num.natAbs)::(D3,m4,c4,dn q)::rs) y):=Lib.hid (by rw[hy];exact⟨List.mem_cons_self,List.mem_cons_of_mem _ List.mem_cons_self⟩)
   have hyV:=Lib.hid (hV2.out y (by rw[hy];rfl))
   have GA:=Lib.hid ((((GR.out.call bb).read X.d).read X.n).alloc #[.bool (ng q.num),.slice A3 m3 c3,.slice D3 m4 c4] 45 (noL3 _ _ _ _ _ _ _));clear GR X bb hy hT hV2 e0 e1 e2
   go_wp2_with (at_builtin;refine Gro.wp rfl (.tmp 11) (.tmp 17) 23 rfl (.agg #[.bool false,.slice none 0 0,.slice none 0 0]) 56 Tryz.underlying23 (by kernel_rfl) rfl (fun v hv z e=>by simp[Value.cells] at hv;subst e;simp at hv) rfl GA.out w4.heap.size y rfl (by rw[hcs];exact (GA.out.st).cb 0 rfl) (hyI.out.in_ _ _) (by have:=hRl.out;have:=hih.out;have:=hb.out;omega) (by have:=hRl.out;have:=hih.out;have:=hb.out;unfold maxLen;omega) ?_)
   intro v' w5 G5;have hR6:Hid (∀ x∈R++[y],rwI ((A3,m3,c3,limbs q.num.natAbs)::(D3,m4,c4,dn q)::rs) x):=Lib.hid fun x hx=>by
    rcases List.mem_append.1 hx with hx | hx
    ·exact (hR.out x hx).mono (fun p hp=>List.mem_cons_of_mem _ (List.mem_cons_of_mem _ hp))
    ·rw[List.mem_singleton.1 hx];exact hyI.out
   have G6:=Lib.hid (Gro.sub G5 (fun x hx=>(hR6.out x hx).in_ _ _))
   clear G5 GA hR hyI hcs hRl;have hlt:=hih.out;have hbb:=hb.out;go_wp2
   go_roundw
   case rel=>exact⟨i+1,_,_,by omega,by go_num,G6.out,hR6.out,hyV.out⟩
   case measure=>simp[intOf];omega
  ·obtain rfl:n=i:=by omega
   rw[List.take_of_length_le (by rw[hML.out];exact Nat.le_refl _)] at hV
   have hres:=Lib.hid (show RowG M w (.returned _) wr from ⟨_,R,rs,rfl,GR,hR,hV⟩)
   clear GR hR hV hin hlt;go_wp2;go_ret;exact hres.out
theorem takeL_any (M:List Rat) (L:List Rt) (A:Option Addr) (n c:Nat) (w:World) (h:Sr w A n c L) (hM:L.map (·.q)=M) (hs:∀ x∈L,Rk x.b x.n x.x x.m x.y x.q) (hn:n≤1000):Calls Tryz.prog 61 #[.slice A n c] w (RowO M w):=(takeG_any M L A n c w h hM hs hn).mono fun e w' hG=>hG.row
end Go.Proofs.YtfnkpfbobdmieaaGreat
namespace Go.Proofs.YtfnkpfbobdmieaaGreat
open Go.RowKit RQ GE
set_option linter.unusedVariables false
theorem plusQ_at {a b:List Rat} {i:Nat} {p q:Rat} (ha:a[i]?=some p) (hb:b[i]?=some q):(plusQ a b)[i]?=some (p+q):=by
 unfold plusQ;rw[List.getElem?_zipWith,ha,hb]
theorem timesQ_at {a:List Rat} {c:Rat} {i:Nat} {p:Rat} (ha:a[i]?=some p):(timesQ a c)[i]?=some (p*c):=by
 unfold timesQ;rw[List.getElem?_map,ha];rfl
theorem timesR_any (M:List Rat) (c0:Rat) (L:List Gw) (A:Option Addr) (n c:Nat) (y0:Gw) (w:World) (h:LR rwC w A n L) (hM:L.map rwV=M.map qV) (hs:∀ q∈M,Rs q 9900000) (hn:n≤1000) (hy:rwV y0=qV c0) (R1:Rd w y0.x.A y0.x.n y0.x.c y0.x.x) (R2:Rd w y0.y.A y0.y.n y0.y.c y0.y.x) (hc:Rs c0 9900000):Calls Tryz.prog 83 #[.slice A n c,.agg #[.bool y0.b,.slice y0.x.A y0.x.n y0.x.c,.slice y0.y.A y0.y.n y0.y.c]] w (RowO (timesQ M c0) w):=by
 have hML:M.length=n:=by have:=congrArg List.length hM;rw[List.length_map,List.length_map,h.len] at this;omega
 have hTL:Hid ((timesQ M c0).length=n):=Lib.hid (by unfold timesQ;rw[List.length_map];exact hML)
 obtain⟨yb,Y⟩:=rw_rr hy R1 R2;have bx:Below w.heap.size w (w.alloc (.cells #[.bool y0.b,.slice y0.x.A y0.x.n y0.x.c,.slice y0.y.A y0.y.n y0.y.c] 45)):=(Below.refl _ _).alloc (Nat.le_refl _) _;have hB:=Lib.hid bx;have cb:=Cb.new w #[.bool y0.b,.slice y0.x.A y0.x.n y0.x.c,.slice y0.y.A y0.y.n y0.y.c] 45;have k0:=Lib.hid (cb.cell (i:=0) rfl);have k1:=Lib.hid (cb.cell (i:=1) rfl);have k2:=Lib.hid (cb.cell (i:=2) rfl)
 have h1:=Lib.hid (h.bel bx);have Y1:=Lib.hid (Y.below bx);have hb:=Lib.hid hn;replace hM:=Lib.hid hM;replace hs:=Lib.hid hs;replace hML:=Lib.hid hML;replace yb:=Lib.hid yb;replace hc:=Lib.hid hc;clear hn bx cb hy R1 R2 Y h;go_enter Tryz.func83,Tryz.ntmps83;go_wp2;obtain⟨w1,hw1⟩:∃ W,W=w.alloc (.cells #[.bool y0.b,.slice y0.x.A y0.x.n y0.x.c,.slice y0.y.A y0.y.n y0.y.c] 45):=⟨_,rfl⟩;obtain⟨g,hg⟩:∃ g,g=w.heap.size:=⟨_,rfl⟩
 rw[←hw1] at hB k0 k1 k2 h1 Y1 ⊢;rw[←hg] at k0 k1 k2 ⊢;clear hw1 hg;have S:=Lib.hid (St.new w1)
 go_loopw [5,6] (fun rv iv wr=>∃ (i:Nat) (rs:List GRd) (R:List Gw) (av:Value),av=rv∧i≤n∧iv=.int .i64 i∧Gro rwC w1 wr [] rs 45 av R∧(∀ x∈R,rwI rs x)∧R.map rwV=((timesQ M c0).take i).map qV) (fun _ iv _=>n-(intOf iv).toNat)
 case atStart=>exact⟨0,[],[],_,rfl,Nat.zero_le _,rfl,Gro.nil_ rwC S.out _,fun s hs=>(by cases hs),rfl⟩
 case round=>
  clear S;obtain⟨i,rs,R,av,hav,hin,rfl,GR,hR,hV⟩:=hrel;subst hav
  by_cases hlt:i<n
  ·have g1:(i:Int)<(n:Int):=by omega
   have g2:(0:Int)≤(i:Int):=by omega
   have hih:=Lib.hid hlt;obtain⟨b,o,x,rfl,hx,_,e0,e1,e2,R1,R2⟩:=row_get h1.out hlt;obtain⟨p,hp,hpm,hxq⟩:=map_at hM.out hx;obtain⟨xb,X⟩:=rw_rr hxq R1 R2;obtain⟨q,hq⟩:∃ q,q=p*c0:=⟨_,rfl⟩;have hRl:Hid (R.length=i):=Lib.hid (by have:=congrArg List.length hV;rw[List.length_map,List.length_map,List.length_take] at this;have:=hTL.out;omega)
   have hT:Hid (∀ W,Below w1.heap.size w1 W→Calls Tryz.prog 72 #[.agg #[.bool x.b,.slice x.x.A x.x.n x.x.c,.slice x.y.A x.y.n x.y.c],.agg #[.bool y0.b,.slice y0.x.A y0.x.n y0.x.c,.slice y0.y.A y0.y.n y0.y.c]] W (RetR q W)):=Lib.hid fun W hW=>by
    have:=fmulQ _ _ x.x.A x.x.n x.x.c x.y.A x.y.n x.y.c y0.x.A y0.x.n y0.x.c y0.y.A y0.y.n y0.y.c W (X.below hW) (Y1.out.below hW) (hs.out p hpm) hc.out;rw[←xb,←yb.out,←hq] at this;exact this
   have hV2:Hid (∀ y:Gw,rwV y=qV q→(R++[y]).map rwV=((timesQ M c0).take (i+1)).map qV):=Lib.hid fun y hy=>by
    rw[take_at (timesQ_at hp),←hq,List.map_append,List.map_append,hV];simp only[List.map_cons,List.map_nil,hy]
   replace GR:=Lib.hid GR;replace hR:=Lib.hid hR;replace e0:=Lib.hid e0;replace e1:=Lib.hid e1;replace e2:=Lib.hid e2;clear hlt hin hx hp hpm hxq R1 R2 xb X hV hq;go_upto_region 5 with fail
   obtain⟨ob,hOb,So⟩:=GR.out.unop;have hIn:=Lib.hid GR.out.2;replace hOb:=Lib.hid hOb;replace So:=Lib.hid So;clear GR;have hbase:=Lib.hid So.out;refine RW.begin (Z:=[]) (S:=(fun W=>Below w1.heap.size w1 W)) (by kernel_rfl) ?_ hbase.out ?_
   ·exact⟨by kernel_rfl,zis_nil,by decide,by decide,nol_nil,(fun _ _ h=>h.bel)⟩
   intro hzk;refine RW.t (i:=0) (v:=av) (some 13) at0 (hy:=fun _ _=>by kernel_rfl) (h:=?_)
   refine RW.t (i:=1) (v:=.slice (some ⟨b,o,none⟩) n c) (some 14) at1 (hy:=fun _ _=>by kernel_rfl) (h:=?_)
   refine RW.t (i:=2) (v:=.int .i64 i) (some 15) at2 (hy:=fun _ _=>by kernel_rfl) (h:=?_)
   refine RW.t (i:=3) (v:=.pointer (some ⟨b,o+i*3,none⟩)) (some 16) at3 (hy:=fun _ _=>by go_simp) (h:=?_)
   refine RW.t (i:=4) (v:=.agg #[.bool x.b,.slice x.x.A x.x.n x.x.c,.slice x.y.A x.y.n x.y.c]) (some 17) at4 (hy:=fun W hS=>by (have k0:=bel_cell hS e0.out;have k1:=bel_cell hS e1.out;have k2:=bel_cell hS e2.out;clear hS;go_simp)) (h:=?_)
   refine RW.t (i:=5) (v:=.agg #[.bool y0.b,.slice y0.x.A y0.x.n y0.x.c,.slice y0.y.A y0.y.n y0.y.c]) (some 18) at5 (hy:=fun W hS=>by (have k0:=bel_cell hS k0.out;have k1:=bel_cell hS k1.out;have k2:=bel_cell hS k2.out;clear hS;go_simp)) (h:=?_)
   refine RW.tail hzk.out (by kernel_rfl) ?_
   intro gs' w5 hgs' hS Sb;obtain rfl:=len0 hgs';simp only[mark,fill,Act.put,sZ0,sZ1,sZ2];have G5:Gro rwC w1 w5 [] rs 45 av R:=⟨Apd.close hOb.out Sb,hIn.out⟩;refine Wk.g (i:=6) at6 (by kernel_rfl) (by kernel_rfl) fun K' hK=>?_
   refine oper_call (f:=72) (args:=#[.agg #[.bool x.b,.slice x.x.A x.x.n x.x.c,.slice x.y.A x.y.n x.y.c],.agg #[.bool y0.b,.slice y0.x.A y0.x.n y0.x.c,.slice y0.y.A y0.y.n y0.y.c]]) rfl (by kernel_rfl) ((hT.out _ hS).mono ?_)
   rintro e w6 ⟨A3,m3,c3,D3,m4,c4,rfl,X,bb3⟩;obtain⟨y,hy⟩:∃ y:Gw,y=⟨ng q.num,⟨A3,m3,c3,limbs q.num.natAbs⟩,⟨D3,m4,c4,dn q⟩⟩:=⟨_,rfl⟩;have hcs:rwC.cs y=[.bool (ng q.num),.slice A3 m3 c3,.slice D3 m4 c4]:=by rw[hy];rfl
   have hyI:Hid (rwI ((A3,m3,c3,limbs q.num.natAbs)::(D3,m4,c4,dn q)::rs) y):=Lib.hid (by rw[hy];exact⟨List.mem_cons_self,List.mem_cons_of_mem _ List.mem_cons_self⟩)
   have hyV:=Lib.hid (hV2.out y (by rw[hy];rfl))
   have G6:=Lib.hid (((G5.call bb3).read X.d).read X.n);have hS6:=G6.out.st.bel;clear G5 X bb3 hy hT hV2 hOb hIn hS Sb;refine⟨_,rfl,hK.out _ _ hS6 ?_⟩
   clear hK K'
   try simp only[Act.put,sZ0,sZ1,sZ2]
   refine Wk.g (i:=7) at7 (by kernel_rfl) (by kernel_rfl) fun K' hK=>?_
   have GA:=Lib.hid (G6.out.alloc #[.bool (ng q.num),.slice A3 m3 c3,.slice D3 m4 c4] 45 (noL3 _ _ _ _ _ _ _))
   go_simp
   have hSA:=GA.out.st.bel;refine hK.out _ _ hSA ?_
   clear hK K' G6 hS6
   try simp only[Act.put,sZ0,sZ1,sZ2]
   refine Wk.g (i:=8) at8 (by kernel_rfl) (by kernel_rfl) fun K' hK=>?_
   refine Gro.op (.tmp 13) (.tmp 20) 23 rfl (.agg #[.bool false,.slice none 0 0,.slice none 0 0]) 56 Tryz.underlying23 (by kernel_rfl) rfl (fun v hv z e=>by simp[Value.cells] at hv;subst e;simp at hv) rfl GA.out w6.heap.size y rfl (by rw[hcs];exact (GA.out.st).cb 0 rfl) (hyI.out.in_ _ _) (by have:=hRl.out;have:=hih.out;have:=hb.out;omega) (by have:=hRl.out;have:=hih.out;have:=hb.out;unfold maxLen;omega) ?_
   intro v' w7 G7;have hR7:Hid (∀ x∈R++[y],rwI ((A3,m3,c3,limbs q.num.natAbs)::(D3,m4,c4,dn q)::rs) x):=Lib.hid fun x hx=>by
    rcases List.mem_append.1 hx with hx | hx
    ·exact (hR.out x hx).mono (fun p hp=>List.mem_cons_of_mem _ (List.mem_cons_of_mem _ hp))
    ·rw[List.mem_singleton.1 hx];exact hyI.out
   have G8:=Lib.hid (Gro.sub G7 (fun x hx=>(hR7.out x hx).in_ _ _))
   have hS8:=G8.out.st.bel;refine hK.out _ _ hS8 ?_
   clear hK K' G7 GA hSA hR hyI hcs hRl
   try simp only[Act.put,sZ0,sZ1,sZ2]
   refine Wk.g (i:=9) at9 (by kernel_rfl) (by kernel_rfl) fun K' hK=>?_
   go_simp
   refine hK.out _ _ hS8 ?_
   clear hK K';refine Wk.done (by kernel_rfl) ?_
   clear hS8 hzk hbase;have hlt:=hih.out;have hbb:=hb.out
   go_simp
   go_wp2
   go_roundw
   case rel=>exact⟨i+1,_,_,_,rfl,by omega,by go_num,G8.out,hR7.out,hyV.out⟩
   case measure=>simp[intOf];omega
  ·obtain rfl:n=i:=by omega
   rw[List.take_of_length_le (by rw[hTL.out];exact Nat.le_refl _)] at hV
   obtain⟨A9,c9,bs9,hv,S9,_,hrow⟩:=GR.drow hR;subst hv;have hres:=Lib.hid (show RowO _ w (.returned (.slice A9 R.length c9)) wr from ⟨A9,c9,R,bs9,rs,rfl,S9.rebase hB.out,hrow,hV⟩)
   clear GR hR hV S9 hrow hin hlt;go_wp2;go_ret;exact hres.out
theorem plusR_any (M N:List Rat) (L K:List Gw) (A:Option Addr) (n c:Nat) (A':Option Addr) (c':Nat) (w1:World) (h:LR rwC w1 A n L) (h':LR rwC w1 A' n K) (hM:L.map rwV=M.map qV) (hN:K.map rwV=N.map qV) (hs:∀ q∈M,Rs q 9900000) (hs':∀ q∈N,Rs q 9900000) (hn:n≤1000):Calls Tryz.prog 85 #[.slice A n c,.slice A' n c'] w1 (RowO (plusQ M N) w1):=by
 have hML:M.length=n:=by have:=congrArg List.length hM;rw[List.length_map,List.length_map,h.len] at this;omega
 have hNL:N.length=n:=by have:=congrArg List.length hN;rw[List.length_map,List.length_map,h'.len] at this;omega
 have hTL:Hid ((plusQ M N).length=n):=Lib.hid (by unfold plusQ;rw[List.length_zipWith,hML,hNL,Nat.min_self])
 have hb:=Lib.hid hn;have h1:=Lib.hid h;have h2:=Lib.hid h';replace hM:=Lib.hid hM;replace hN:=Lib.hid hN;replace hs:=Lib.hid hs;replace hs':=Lib.hid hs';have S:=Lib.hid (St.new w1);clear hn h h' hML hNL;go_enter Tryz.func85,Tryz.ntmps85;go_wp2
 go_loopw [5,6] (fun rv iv wr=>∃ (i:Nat) (rs:List GRd) (R:List Gw) (av:Value),av=rv∧i≤n∧iv=.int .i64 i∧Gro rwC w1 wr [] rs 45 av R∧(∀ x∈R,rwI rs x)∧R.map rwV=((plusQ M N).take i).map qV) (fun _ iv _=>n-(intOf iv).toNat)
 case atStart=>exact⟨0,[],[],_,rfl,Nat.zero_le _,rfl,Gro.nil_ rwC S.out _,fun s hs=>(by cases hs),rfl⟩
 case round=>
  clear S;obtain⟨i,rs,R,av,hav,hin,rfl,GR,hR,hV⟩:=hrel;subst hav
  by_cases hlt:i<n
  ·have g1:(i:Int)<(n:Int):=by omega
   have g2:(0:Int)≤(i:Int):=by omega
   have hih:=Lib.hid hlt;obtain⟨b,o,x,rfl,hx,_,e0,e1,e2,R1,R2⟩:=row_get h1.out hlt;obtain⟨b2,o2,z,rfl,hz,_,z0,z1,z2,R3,R4⟩:=row_get h2.out hlt;obtain⟨p,hp,hpm,hxq⟩:=map_at hM.out hx;obtain⟨p2,hp2,hpm2,hzq⟩:=map_at hN.out hz;obtain⟨xb,X⟩:=rw_rr hxq R1 R2;obtain⟨zb,Z⟩:=rw_rr hzq R3 R4;obtain⟨q,hq⟩:∃ q,q=p+p2:=⟨_,rfl⟩;have hRl:Hid (R.length=i):=Lib.hid (by have:=congrArg List.length hV;rw[List.length_map,List.length_map,List.length_take] at this;have:=hTL.out;omega)
   have hT:Hid (∀ W,Below w1.heap.size w1 W→Calls Tryz.prog 71 #[.agg #[.bool x.b,.slice x.x.A x.x.n x.x.c,.slice x.y.A x.y.n x.y.c],.agg #[.bool z.b,.slice z.x.A z.x.n z.x.c,.slice z.y.A z.y.n z.y.c]] W (RetR q W)):=Lib.hid fun W hW=>by
    have:=faddQ _ _ x.x.A x.x.n x.x.c x.y.A x.y.n x.y.c z.x.A z.x.n z.x.c z.y.A z.y.n z.y.c W (X.below hW) (Z.below hW) (hs.out p hpm) (hs'.out p2 hpm2);rw[←xb,←zb,←hq] at this;exact this
   have hV2:Hid (∀ y:Gw,rwV y=qV q→(R++[y]).map rwV=((plusQ M N).take (i+1)).map qV):=Lib.hid fun y hy=>by
    rw[take_at (plusQ_at hp hp2),←hq,List.map_append,List.map_append,hV];simp only[List.map_cons,List.map_nil,hy]
   replace GR:=Lib.hid GR;replace hR:=Lib.hid hR;replace e0:=Lib.hid e0;replace e1:=Lib.hid e1;replace e2:=Lib.hid e2;replace z0:=Lib.hid z0;replace z1:=Lib.hid z1;replace z2:=Lib.hid z2;clear hlt hin hx hp hpm hxq R1 R2 xb X hV hq hz hp2 hpm2 hzq R3 R4 zb Z;go_upto_region 5 with fail
   obtain⟨ob,hOb,So⟩:=GR.out.unop;have hIn:=Lib.hid GR.out.2;replace hOb:=Lib.hid hOb;replace So:=Lib.hid So;clear GR;have hbase:=Lib.hid So.out;refine RW.begin (Z:=[]) (S:=(fun W=>Below w1.heap.size w1 W)) (by kernel_rfl) ?_ hbase.out ?_
   ·exact⟨by kernel_rfl,zis_nil,by decide,by decide,nol_nil,(fun _ _ h=>h.bel)⟩
   intro hzk;refine RW.t (i:=0) (v:=av) (some 13) at0 (hy:=fun _ _=>by kernel_rfl) (h:=?_)
   refine RW.t (i:=1) (v:=.slice (some ⟨b,o,none⟩) n c) (some 14) at1 (hy:=fun _ _=>by kernel_rfl) (h:=?_)
   refine RW.t (i:=2) (v:=.int .i64 i) (some 15) at2 (hy:=fun _ _=>by kernel_rfl) (h:=?_)
   refine RW.t (i:=3) (v:=.pointer (some ⟨b,o+i*3,none⟩)) (some 16) at3 (hy:=fun _ _=>by go_simp) (h:=?_)
   refine RW.t (i:=4) (v:=.agg #[.bool x.b,.slice x.x.A x.x.n x.x.c,.slice x.y.A x.y.n x.y.c]) (some 17) at4 (hy:=fun W hS=>by (have k0:=bel_cell hS e0.out;have k1:=bel_cell hS e1.out;have k2:=bel_cell hS e2.out;clear hS;go_simp)) (h:=?_)
   refine RW.t (i:=5) (v:=.slice (some ⟨b2,o2,none⟩) n c') (some 18) at5 (hy:=fun _ _=>by kernel_rfl) (h:=?_)
   refine RW.t (i:=6) (v:=.int .i64 i) (some 19) at6 (hy:=fun _ _=>by kernel_rfl) (h:=?_)
   refine RW.t (i:=7) (v:=.pointer (some ⟨b2,o2+i*3,none⟩)) (some 20) at7 (hy:=fun _ _=>by go_simp) (h:=?_)
   refine RW.t (i:=8) (v:=.agg #[.bool z.b,.slice z.x.A z.x.n z.x.c,.slice z.y.A z.y.n z.y.c]) (some 21) at8 (hy:=fun W hS=>by (have k0:=bel_cell hS z0.out;have k1:=bel_cell hS z1.out;have k2:=bel_cell hS z2.out;clear hS;go_simp)) (h:=?_)
   refine RW.tail hzk.out (by kernel_rfl) ?_
   intro gs' w5 hgs' hS Sb;obtain rfl:=len0 hgs';simp only[mark,fill,Act.put,sZ0,sZ1,sZ2];have G5:Gro rwC w1 w5 [] rs 45 av R:=⟨Apd.close hOb.out Sb,hIn.out⟩;refine Wk.g (i:=9) at9 (by kernel_rfl) (by kernel_rfl) fun K' hK=>?_
   refine oper_call (f:=71) (args:=#[.agg #[.bool x.b,.slice x.x.A x.x.n x.x.c,.slice x.y.A x.y.n x.y.c],.agg #[.bool z.b,.slice z.x.A z.x.n z.x.c,.slice z.y.A z.y.n z.y.c]]) rfl (by kernel_rfl) ((hT.out _ hS).mono ?_)
   rintro e w6 ⟨A3,m3,c3,D3,m4,c4,rfl,X,bb3⟩;obtain⟨y,hy⟩:∃ y:Gw,y=⟨ng q.num,⟨A3,m3,c3,limbs q.num.natAbs⟩,⟨D3,m4,c4,dn q⟩⟩:=⟨_,rfl⟩;have hcs:rwC.cs y=[.bool (ng q.num),.slice A3 m3 c3,.slice D3 m4 c4]:=by rw[hy];rfl
   have hyI:Hid (rwI ((A3,m3,c3,limbs q.num.natAbs)::(D3,m4,c4,dn q)::rs) y):=Lib.hid (by rw[hy];exact⟨List.mem_cons_self,List.mem_cons_of_mem _ List.mem_cons_self⟩)
   have hyV:=Lib.hid (hV2.out y (by rw[hy];rfl))
   have G6:=Lib.hid (((G5.call bb3).read X.d).read X.n);have hS6:=G6.out.st.bel;clear G5 X bb3 hy hT hV2 hOb hIn hS Sb;refine⟨_,rfl,hK.out _ _ hS6 ?_⟩
   clear hK K'
   try simp only[Act.put,sZ0,sZ1,sZ2]
   refine Wk.g (i:=10) at10 (by kernel_rfl) (by kernel_rfl) fun K' hK=>?_
   have GA:=Lib.hid (G6.out.alloc #[.bool (ng q.num),.slice A3 m3 c3,.slice D3 m4 c4] 45 (noL3 _ _ _ _ _ _ _))
   go_simp
   have hSA:=GA.out.st.bel;refine hK.out _ _ hSA ?_
   clear hK K' G6 hS6
   try simp only[Act.put,sZ0,sZ1,sZ2]
   refine Wk.g (i:=11) at11 (by kernel_rfl) (by kernel_rfl) fun K' hK=>?_
   refine Gro.op (.tmp 13) (.tmp 23) 23 rfl (.agg #[.bool false,.slice none 0 0,.slice none 0 0]) 56 Tryz.underlying23 (by kernel_rfl) rfl (fun v hv z e=>by simp[Value.cells] at hv;subst e;simp at hv) rfl GA.out w6.heap.size y rfl (by rw[hcs];exact (GA.out.st).cb 0 rfl) (hyI.out.in_ _ _) (by have:=hRl.out;have:=hih.out;have:=hb.out;omega) (by have:=hRl.out;have:=hih.out;have:=hb.out;unfold maxLen;omega) ?_
   intro v' w7 G7;have hR7:Hid (∀ x∈R++[y],rwI ((A3,m3,c3,limbs q.num.natAbs)::(D3,m4,c4,dn q)::rs) x):=Lib.hid fun x hx=>by
    rcases List.mem_append.1 hx with hx | hx
    ·exact (hR.out x hx).mono (fun p hp=>List.mem_cons_of_mem _ (List.mem_cons_of_mem _ hp))
    ·rw[List.mem_singleton.1 hx];exact hyI.out
   have G8:=Lib.hid (Gro.sub G7 (fun x hx=>(hR7.out x hx).in_ _ _))
   have hS8:=G8.out.st.bel;refine hK.out _ _ hS8 ?_
   clear hK K' G7 GA hSA hR hyI hcs hRl
   try simp only[Act.put,sZ0,sZ1,sZ2]
   refine Wk.g (i:=12) at12 (by kernel_rfl) (by kernel_rfl) fun K' hK=>?_
   go_simp
   refine hK.out _ _ hS8 ?_
   clear hK K';refine Wk.done (by kernel_rfl) ?_
   clear hS8 hzk hbase;have hlt:=hih.out;have hbb:=hb.out
   go_simp
   go_wp2
   go_roundw
   case rel=>exact⟨i+1,_,_,_,rfl,by omega,by go_num,G8.out,hR7.out,hyV.out⟩
   case measure=>simp[intOf];omega
  ·obtain rfl:n=i:=by omega
   rw[List.take_of_length_le (by rw[hTL.out];exact Nat.le_refl _)] at hV
   obtain⟨A9,c9,bs9,hv,S9,_,hrow⟩:=GR.drow hR;subst hv;have hres:=Lib.hid (show RowO _ w1 (.returned (.slice A9 R.length c9)) wr from ⟨A9,c9,R,bs9,rs,rfl,S9,hrow,hV⟩)
   clear GR hR hV S9 hrow hin hlt;go_wp2;go_ret;exact hres.out
end Go.Proofs.YtfnkpfbobdmieaaGreat
namespace Go.Proofs.YtfnkpfbobdmieaaGreat
open Go.RowKit RQ GE
set_option linter.unusedVariables false
section
variable {P:Program} {ops:Array Oper} {Q:Exit→Act→World→Prop} {S:World→Prop} {K:List Nat}
def early (K:List Nat) (L:Array Bool):Bool:=K.all fun k=>!(L.getD k false)
def wpL (P:Program) (ops:Array Oper) (Q:Exit→Act→World→Prop) (S:World→Prop) (K:List Nat):Nat→Array Bool→Act→World→Prop
 | 0,L,a,w=>Region.ready .any ops L=[]∧Q .normal a w
 | n+1,L,a,w=>(Region.ready .any ops L=[]→Q .normal a w) ∧
  ∀ i∈Region.ready .any ops L,wpOp P ops Q i (fun a' w'=>(early K (L.setIfInBounds i true)=true→S w')∧wpL P ops Q S K n (L.setIfInBounds i true) a' w') a w
theorem wpAny_of_L:∀ (fuel:Nat) (L:Array Bool) (a:Act) (w:World),wpL P ops Q S K fuel L a w→wpAny P .any ops Q fuel L a w
 | 0,_,_,_,h=>h
 | n+1,_,_,_,h=>⟨h.1,fun i hi=>wpOp_mono (fun a' w' h'=>wpAny_of_L n _ a' w' h'.2) (h.2 i hi)⟩
def clos (ops:Array Oper) (L:Array Bool):Prop:=∀ j o,ops[j]?=some o→L.getD j false=true→∀ e∈o.after,Region.binds .any e=true→L.getD e.on false=true
def closB (ops:Array Oper) (L:Array Bool):Bool:=(List.range ops.size).all fun j=>!(L.getD j false)||match ops[j]? with
 | some o=>o.after.toList.all fun e=>!(Region.binds .any e)||L.getD e.on false
 | none=>true
theorem clos_of {L:Array Bool} (h:closB ops L=true):clos ops L:=by
 intro j o ho hj e he hb;have hlt:j<ops.size:=(Array.getElem?_eq_some_iff.1 ho).1
 have:=List.all_eq_true.1 h j (List.mem_range.2 hlt);rw[ho,hj] at this;simp only[Bool.not_true,Bool.false_or] at this;have:=List.all_eq_true.1 this e (by simpa using he)
 rw[hb] at this
 simpa using this
def waits (ops:Array Oper) (i:Nat):Nat→Nat→Bool
 | 0,_=>false
 | n+1,k=>match ops[k]? with
  | some o=>o.after.toList.any fun e=>Region.binds .any e&&(e.on==i||waits ops i n e.on)
  | none=>false
theorem waits_done {i:Nat} {L:Array Bool} (hc:clos ops L):∀ (n k:Nat) (o:Oper),ops[k]?=some o→(∀ e∈o.after,Region.binds .any e=true→L.getD e.on false=true)→waits ops i n k=true→L.getD i false=true:=by
 intro n
 induction n with
 | zero=>intro k o _ _ h;cases h
 | succ n ih=>
  intro k o ho hd h;unfold waits at h;rw[ho] at h;obtain⟨e,he,h⟩:=List.any_eq_true.1 h;rw[Bool.and_eq_true,Bool.or_eq_true] at h;obtain⟨hb,h⟩:=h;have hde:=hd e (by simpa using he) hb
  rcases h with h | h
  ·rw[←eq_of_beq h];exact hde
  ·cases hn:ops[e.on]? with
   | none=>cases n with
    | zero=>cases h
    | succ n=>unfold waits at h;rw[hn] at h;cases h
   | some o'=>exact ih e.on o' hn (fun e' he' hb'=>hc _ o' hn hde e' he' hb') h
theorem clos_set {j:Nat} {L:Array Bool} (hc:clos ops L) (hj:j∈Region.ready .any ops L):clos ops (L.setIfInBounds j true):=by
 intro k o ho hk e he hb;obtain⟨hju,oj,hoj,hall⟩:=mem_ready.1 hj
 by_cases hkj:j=k
 ·subst hkj
  rw[ho] at hoj;obtain rfl:=Option.some.inj hoj;exact getD_set_true (hall e he hb)
 ·have:L.getD k false=true:=by
   rwa [getD_set_ne false hkj] at hk
  exact getD_set_true (hc k o ho this e he hb)
theorem early_set {j:Nat} {L:Array Bool} (h:early K L=true) (hj:j∉K):early K (L.setIfInBounds j true)=true:=by
 refine List.all_eq_true.2 fun k hk=>?_
 have:=List.all_eq_true.1 h k hk
 rwa [getD_set_ne false (show j≠k from fun e=>hj (by rw[e];exact hk))]
theorem wpL_first {i:Nat} {oi:Oper} {v:Value} (hi:ops[i]?=some oi) (hsel:∀ (j:Nat) (o:Oper) cs b,ops[j]?=some o→o.op≠.select cs b)
  (hQ:∀ c a w,Q (.panic c) (a.put oi.dst v) w→Q (.panic c) a w) (hiK:i∉K) (hw:∀ k∈K,∃ n,waits ops i n k=true) :
  ∀ (fuel:Nat) (L:Array Bool) (a:Act) (w:World),clos ops L→early K L=true →
   (∀ j oj,ops[j]?=some oj→j≠i→L.getD j true=false→(∀ e∈oj.after,Region.binds .any e=true→e.on≠i)→oi.apart ops oj=true) →
   i∈Region.ready .any ops L→YieldsIf P ops S oi v a→S w →
   wpL P ops Q S K fuel (L.setIfInBounds i true) (a.put oi.dst v) w→wpL P ops Q S K (fuel+1) L a w:=by
 intro fuel
 induction fuel with
 | zero=>
  intro L a w _ _ _ hr hy hS H;refine⟨fun h=>(by rw[h] at hr;cases hr),fun j hj=>?_⟩
  by_cases hji:j=i
  ·subst hji;exact hy.wpOp hi hS ⟨fun _=>hS,H⟩
  ·have:=ready_mono hj hji
   rw[H.1] at this
   cases this
 | succ fuel ih=>
  intro L a w hcl hea hfree hr hy hS H;refine⟨fun h=>(by rw[h] at hr;cases hr),fun j hj=>?_⟩
  by_cases hji:j=i
  ·subst hji;exact hy.wpOp hi hS ⟨fun _=>hS,H⟩
  ·have h1:=H.2 j (ready_mono hj hji)
   obtain⟨hjun,oj,hoj,hall⟩:=mem_ready.1 hj;have hiun:¬ L.getD i false=true:=fun h1=>by
    have h0:=(mem_ready.1 hr).1
    rcases Nat.lt_or_ge i L.size with h' | h'
    ·simp[h'] at h0 h1;rw[h0] at h1;cases h1
    ·simp[Array.getElem?_eq_none h'] at h1
   have hnot:∀ e∈oj.after,Region.binds .any e=true→e.on≠i:=fun e he hb heq=>by
    have h1:=hall e he hb;rw[heq] at h1;exact hiun h1
   have hjK:j∉K:=fun hk=>by
    obtain⟨n,hn⟩:=hw j hk;exact hiun (waits_done hcl n j oj hoj hall hn)
   have h2:=wpOp_putIf hoj (hfree j oj hoj hji hjun hnot) (fun cs b=>hsel i oi cs b hi) (fun cs b=>hsel j oj cs b hoj) hQ hy h1
   have hfree':∀ k ok,ops[k]?=some ok→k≠i→(L.setIfInBounds j true).getD k true=false →
     (∀ e∈ok.after,Region.binds .any e=true→e.on≠i)→oi.apart ops ok=true:=fun k ok hk hki hun hno=>by
    refine hfree k ok hk hki ?_ hno
    by_cases hjk:j=k
    ·subst hjk;exact hjun
    ·rw[getD_set_ne true hjk] at hun;exact hun
   have hej:early K (L.setIfInBounds j true)=true:=early_set hea hjK;refine wpOp_mono (fun a' w' h3=>⟨fun _=>h3.2.1 (by rw[Array.setIfInBounds_comm _ _ (Ne.symm hji)];exact early_set hej hiK),ih (L.setIfInBounds j true) a' w' (clos_set hcl hj) hej hfree' (ready_mono hr (Ne.symm hji)) h3.1 (h3.2.1 (by rw[Array.setIfInBounds_comm _ _ (Ne.symm hji)];exact early_set hej hiK)) ?_⟩) h2
   rw[Array.setIfInBounds_comm _ _ hji];exact h3.2.2
def Wl (P:Program) (ops:Array Oper) (Q:Exit→Act→World→Prop) (S:World→Prop) (K:List Nat) (L:Array Bool) (a:Act) (w:World):Prop:=wpL P ops Q S K (lft L) L a w
theorem Wl.start {id:Nat} {a:Act} {w:World} (S:World→Prop) (K:List Nat) (hm:P.follows .mixedOrders=true) (h:Wl P ops Q S K (Array.replicate ops.size false) a w.drew):(Code.region id ops true).wp P Q a w:=by
 unfold Wl at h;rw[show lft (Array.replicate ops.size false)=ops.size by simp[lft]] at h
 exact wp_region_any hm (wpAny_of_L _ _ _ _ h)
def lateOk (ops:Array Oper) (K:List Nat) (L:Array Bool) (i:Nat):Bool:=
 Region.noSelect ops&&Region.free .any ops L i&&(Region.ready .any ops L).contains i&&closB ops L&&early K L && !(K.contains i)&&K.all (waits ops i 20)
theorem Wl.t {L:Array Bool} {a:Act} {w:World} {i:Nat} {oi:Oper} {v:Value} (dst:Option Nat) (hi:ops[i]?=some oi) (hd:oi.dst=dst:=by rfl) (hc:lateOk ops K L i=true:=by kernel_rfl) (hw:Region.wanted oi (yielded ops a.tmps)=true:=by kernel_rfl)
  (hQ:∀ c a w,Q (.panic c) (Act.put a dst v) w→Q (.panic c) a w:=by exact fun _ _ _ h=>h) (hy:∀ w,S w→(execOp a.eval oi).run P w=.ok (.value v) w) (hS:S w)
  (h:Wl P ops Q S K (L.setIfInBounds i true) (a.put dst v) w):Wl P ops Q S K L a w:=by
 simp only[lateOk,Bool.and_eq_true,Bool.not_eq_true'] at hc;obtain⟨⟨⟨⟨⟨⟨c1,c2⟩,c3⟩,c4⟩,c5⟩,c6⟩,c7⟩:=hc;subst hd;have hm:i∈Region.ready .any ops L:=by simpa using c3
 unfold Wl at *;rw[lft_set (mem_ready.1 hm).1];exact wpL_first hi (Region.noSelect_spec c1) hQ (by simpa using c6) (fun k hk=>⟨20,List.all_eq_true.1 c7 k hk⟩) _ _ _ _ (clos_of c4) c5 (Region.free_spec hi c2) hm (.inl ⟨hw,hy⟩) hS h
theorem Wl.one {i:Nat} {o:Oper} {L:Array Bool} {a:Act} {w:World} (hr:(Region.ready .any ops L==[i])=true) (ho:ops[i]?=some o) (hw:Region.wanted o (yielded ops a.tmps)=true)
  (h:∀ K':Act→World→Prop,Shut (∀ a w,(early K (L.setIfInBounds i true)=true→S w)→Wl P ops Q S K (L.setIfInBounds i true) a w→K' a w)→Oper.wp P o a w K' Q):Wl P ops Q S K L a w:=by
 have hr:Region.ready .any ops L=[i]:=by simpa using hr
 have hm:i∈Region.ready .any ops L:=by rw[hr];exact List.mem_singleton.2 rfl
 unfold Wl at *;rw[lft_set (mem_ready.1 hm).1];refine⟨fun h0=>(by rw[h0] at hr;cases hr),fun j hj=>?_⟩
 rw[hr] at hj;have:=List.mem_singleton.1 hj;subst this;exact wpOp_step ho (fun K' hK=>by rw[if_pos hw];exact h K' (fun a w hS hW=>hK a w ⟨hS,hW⟩))
theorem Wl.g {i:Nat} {o:Oper} {L:Array Bool} {a:Act} {w:World} (ho:ops[i]?=some o) (hr:(Region.ready .any ops L==[i])=true) (hw:Region.wanted o (yielded ops a.tmps)=true)
  (h:∀ K':Act→World→Prop,Shut (∀ a w,S w→Wl P ops Q S K (L.setIfInBounds i true) a w→K' a w)→Oper.wp P o a w K' Q):Wl P ops Q S K L a w:=by
 refine Wl.one hr ho hw fun K' hK=>h K' ?_
 exact fun a w hS hW=>hK.out a w (fun _=>hS) hW
theorem Wl.s {i:Nat} {o:Oper} {L:Array Bool} {a:Act} {w:World} (ho:ops[i]?=some o) (hr:(Region.ready .any ops L==[i])=true) (hw:Region.wanted o (yielded ops a.tmps)=true) (hk:early K (L.setIfInBounds i true)=false)
  (h:∀ K':Act→World→Prop,Shut (∀ a w,Wl P ops Q S K (L.setIfInBounds i true) a w→K' a w)→Oper.wp P o a w K' Q):Wl P ops Q S K L a w:=by
 refine Wl.one hr ho hw fun K' hK=>h K' ?_
 exact fun a w hW=>hK.out a w (fun h=>by rw[hk] at h;cases h) hW
theorem Wl.done {L:Array Bool} {a:Act} {w:World} (hr:Region.ready .any ops L=[]) (h:Q .normal a w):Wl P ops Q S K L a w:=by
 unfold Wl
 cases lft L with
 | zero=>exact⟨hr,h⟩
 | succ n=>exact⟨fun _=>h,by rw[hr];simp⟩
end
end Go.Proofs.YtfnkpfbobdmieaaGreat
namespace Go.Proofs.YtfnkpfbobdmieaaGreat
open Go.RowKit RQ GE
set_option linter.unusedVariables false
theorem fquoQ (q r:Rat) (A:Option Addr) (n c:Nat) (D:Option Addr) (m d:Nat) (A':Option Addr) (n' c':Nat) (D':Option Addr) (m' d':Nat) (W:World) (X:RR W A n c D m d q) (Y:RR W A' n' c' D' m' d' r) (hs:Rs q 9900000) (hs':Rs r 9900000) (h0:r≠0):Calls Tryz.prog 84 #[.agg #[.bool (ng q.num),.slice A n c,.slice D m d],.agg #[.bool (ng r.num),.slice A' n' c',.slice D' m' d']] W (RetR (q / r) W):=by
 have l:=X.lens hs;have l':=Y.lens hs';have:=Fquo_any (ng q.num) A n c _ D m d _ (ng r.num) A' n' c' _ D' m' d' _ W X.n X.d Y.n Y.d l.1 l.2 l'.1 l'.2 (by rw[rv_z];exact h0)
 rwa [rv_z,rv_z] at this
theorem fnegQ (q:Rat) (A:Option Addr) (n c:Nat) (D:Option Addr) (m d:Nat) (W:World) (X:RR W A n c D m d q) (hs:Rs q 9900000):Calls Tryz.prog 64 #[.agg #[.bool (ng q.num),.slice A n c,.slice D m d]] W (RetR (-q) W):=by
 have l:=X.lens hs;have:=Fneg_any (ng q.num) A n c _ D m d _ W X.n X.d l.1 l.2
 rwa [rv_z] at this
def RowsO (M:List (List Rat)) (w:World) (e:Ending) (w':World):Prop:=∃ v bs rs L,e=.returned v∧Gro (slC rwC) w w' bs rs 23 v L∧(∀ s∈L,RowI bs rs s)∧MatV L M
theorem takeM_any (M:List (List Rat)) (L:List Ro) (A:Option Addr) (n c:Nat) (w:World) (h:Mr w A n c L) (hM:qM L=M) (hs:∀ r∈L,r.n≤1000∧∀ x∈r.L,Rk x.b x.n x.x x.m x.y x.q) (hn:n≤1000):Calls Tryz.prog 82 #[.slice A n c] w (RowsO M w):=by
 have hML:M.length=n:=by rw[←hM];unfold qM;rw[List.length_map];exact h.len
 have hb:=Lib.hid hn;replace h:=Lib.hid h;replace hM:=Lib.hid hM;replace hs:=Lib.hid hs;have S:=Lib.hid (St.new w);replace hML:=Lib.hid hML;clear hn;go_enter Tryz.func82,Tryz.ntmps82;go_wp2
 go_loopw [3,4] (fun rv iv wr=>∃ (i:Nat) (bs:List GBk) (rs:List GRd) (R:List (Sl Gw)),i≤n∧iv=.int .i64 i∧Gro (slC rwC) w wr bs rs 23 rv R∧(∀ s∈R,RowI bs rs s)∧MatV R (M.take i)) (fun _ iv _=>n-(intOf iv).toNat)
 case atStart=>exact⟨0,[],[],[],Nat.zero_le _,rfl,Gro.nil_ (slC rwC) S.out _,fun s hs=>(by cases hs),rfl⟩
 case round=>
  clear S;obtain⟨i,bs,rs,R,hin,rfl,GR,hR,hV⟩:=hrel
  by_cases hlt:i<n
  ·have g1:(i:Int)<(n:Int):=by omega
   have g2:(0:Int)≤(i:Int):=by omega
   have hih:=Lib.hid hlt;obtain⟨b,o,x,rfl,hx,hxm,e0⟩:=(h.out.bel GR.st.bel).get hlt;have hrow:=(h.out.bel GR.st.bel).rd x hxm;obtain⟨q,hqx⟩:∃ q,q=x.L.map (·.q):=⟨_,rfl⟩;have hq:M[i]?=some q:=by rw[←hM.out];unfold qM;rw[List.getElem?_map,hx,hqx];rfl
   have hRl:Hid (R.length=i):=Lib.hid (by have:=hV.len;rw[List.length_take] at this;have:=hML.out;omega)
   have hT:Hid (Calls Tryz.prog 61 #[.slice x.A x.n x.c] wr (RowO q wr)):=Lib.hid (takeL_any q x.L x.A x.n x.c wr hrow hqx.symm (hs.out x hxm).2 (hs.out x hxm).1);have hV2:Hid (∀ y:Sl Gw,y.L.map rwV=q.map qV→MatV (R++[y]) (M.take (i+1))):=Lib.hid fun y hy=>by
    rw[List.take_add_one,hq];exact hV.snoc hy
   replace GR:=Lib.hid GR;replace hR:=Lib.hid hR;replace hrow:=Lib.hid hrow;clear hlt hin hx hq hxm hV hqx
   go_wp2_with fail
   refine hT.out.mono ?_
   rintro e w4 ⟨A3,c3,Lr,bs3,rs3,rfl,S3,hI3,hL3⟩;have GJ:=GR.out.joinr S3;have hR2:Hid (∀ s∈R,RowI (bs++bs3) (rs++rs3) s):=Lib.hid fun s hs=>(hR.out s hs).mono (fun p hp=>List.mem_append_left _ hp) (fun p hp=>List.mem_append_left _ hp)
   have hI4:Hid (RowI (bs++bs3) (rs++rs3) ⟨A3,c3,Lr⟩):=Lib.hid (hI3.mono (fun p hp=>List.mem_append_right _ hp) (fun p hp=>List.mem_append_right _ hp))
   have hyV:=Lib.hid (hV2.out ⟨A3,c3,Lr⟩ hL3);have GA:=Lib.hid (GJ.alloc #[.slice A3 Lr.length c3] 23 (noLof rfl));clear GJ GR S3 hI3 hL3 hT hV2 hR e0
   go_wp2_with (at_builtin;refine Gro.wp rfl (.tmp 11) (.tmp 17) 22 rfl (.slice none 0 0) 24 Tryz.underlying22 (by kernel_rfl) rfl (fun v hv z e=>by simp[Value.cells] at hv;subst hv;cases e) rfl GA.out w4.heap.size ⟨A3,c3,Lr⟩ rfl ((GA.out.st).cb 0 rfl) ((hI4.out.mono (fun p hp=>List.mem_cons_of_mem _ hp) (fun p hp=>hp)).in_ _) (by have:=hRl.out;have:=hih.out;have:=hb.out;omega) (by have:=hRl.out;have:=hih.out;have:=hb.out;unfold maxLen;omega) ?_)
   intro v' w5 G5;have hL6:Hid (∀ s∈R++[⟨A3,c3,Lr⟩],RowI (bs++bs3) (rs++rs3) s):=Lib.hid fun s hs=>by
    rcases List.mem_append.1 hs with hs | hs
    ·exact hR2.out s hs
    ·rw[List.mem_singleton.1 hs];exact hI4.out
   have G6:=Lib.hid (Gro.sub G5 (fun x hx=>(hL6.out x hx).in_ _))
   clear G5 GA hR2 hI4 hRl;have hlt:=hih.out;have hbb:=hb.out;go_wp2
   go_roundw
   case rel=>exact⟨i+1,_,_,_,by omega,by go_num,G6.out,hL6.out,hyV.out⟩
   case measure=>simp[intOf];omega
  ·obtain rfl:n=i:=by omega
   rw[List.take_of_length_le (by rw[hML.out];exact Nat.le_refl _)] at hV
   have hres:=Lib.hid (show RowsO M w (.returned _) wr from ⟨_,bs,rs,R,rfl,GR,hR,hV⟩)
   clear GR hR hV hin hlt;go_wp2;go_ret;exact hres.out
theorem columnsM_any (L:List (Sl Gw)) (A:Option Addr) (n c k:Nat) (w:World) (h:LR (slC rwC) w A n L) (hk:∀ s∈L,s.L.length=k) (n0:1≤n):Calls Tryz.prog 41 #[.slice A n c] w fun e w'=>e=.returned (.int .i64 k)∧w'=w:=by
 obtain⟨b,o,x,rfl,hx,hm,e0,_⟩:=mat_get h (show 0<n by omega)
 rw[hk x hm] at e0;rw[Nat.add_zero] at e0;have g1:(0:Int)<(n:Int):=by omega
 have g2:¬ (n:Int)=0:=by omega
 clear h hk hx hm n0;go_enter Tryz.func41,Tryz.ntmps41;go_wp2;go_ret;exact⟨rfl,rfl⟩
end Go.Proofs.YtfnkpfbobdmieaaGreat
