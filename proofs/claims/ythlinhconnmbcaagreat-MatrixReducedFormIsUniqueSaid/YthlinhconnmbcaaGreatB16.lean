/- Rows that a call makes by append. -/
import Derived.Test.YthlinhconnmbcaaGreatB14
import Derived.Test.YthlinhconnmbcaaGreatB15
set_option maxRecDepth 100000
set_option maxHeartbeats 40000000
set_option linter.unusedVariables false
namespace Go.Proofs.YthlinhconnmbcaaGreat
open Go.RowKit RQ
abbrev Bk:=Nat×Array Value×Nat
abbrev Rdg:=Option Addr×Nat×Nat×List Nat
def Rt.cs (r:Rt):List Value:=[.bool r.b,.slice r.A r.n r.c,.slice r.D r.m r.d]
def csE (L:List Rt):List Value:=L.flatMap Rt.cs
def Rt.rdIn (r:Rt) (rs:List Rdg):Prop:=(r.A,r.n,r.c,r.x)∈rs∧(r.D,r.m,r.d,r.y)∈rs
def Rt.of (A:Option Addr) (n c:Nat) (D:Option Addr) (m d:Nat) (q:Rat):Rt:=⟨ng q.num,A,n,c,limbs q.num.natAbs,D,m,d,dn q,q⟩
theorem Rt.of_can (A:Option Addr) (n c:Nat) (D:Option Addr) (m d:Nat) {q:Rat} (h:Rs q 9000000):(Rt.of A n c D m d q).can:=⟨rfl,rfl,rfl,h⟩
def Ro.v (r:Ro):Value:=.slice r.A r.n r.c
theorem csE_len (L:List Rt):(csE L).length=L.length*3:=by
 induction L with
 | nil=>rfl
 | cons r l ih=>simp only[csE,List.flatMap_cons,List.length_append,List.length_cons] at ih ⊢;rw[ih];simp[Rt.cs];omega
theorem csE_app (L L':List Rt):csE (L++L')=csE L++csE L':=List.flatMap_append
theorem csE_get {L:List Rt} {i:Nat} {r:Rt} (h:L[i]?=some r):(csE L)[i*3]?=some (.bool r.b)∧(csE L)[i*3+1]?=some (.slice r.A r.n r.c)∧(csE L)[i*3+2]?=some (.slice r.D r.m r.d):=by
 induction L generalizing i with
 | nil=>simp at h
 | cons s l ih=>
  have e:csE (s::l)=s.cs++csE l:=rfl
  cases i with
  | zero=>
   simp at h
   subst h;rw[e];exact⟨rfl,rfl,rfl⟩
  | succ i=>
   obtain⟨h0,h1,h2⟩:=ih (i:=i) (by simpa using h)
   have k:∀ j,(s.cs++csE l)[(i+1)*3+j]?=(csE l)[i*3+j]?:=fun j=>by
    rw[List.getElem?_append_right (by simp[Rt.cs];omega)]
    congr 1
    simp[Rt.cs];omega
   rw[e];exact⟨(k 0).trans h0,(k 1).trans h1,(k 2).trans h2⟩
def Ro.In (r:Ro) (bs:List Bk) (rs:List Rdg):Prop:=
 r.L.length=r.n∧((r.A=none∧r.n=0∧r.c=0)∨∃ g cur,r.A=some ⟨g,0,none⟩∧r.n≤r.c∧(g,cur,33)∈bs∧cur.toList.take (r.n*3)=csE r.L)∧∀ x∈r.L,x.rdIn rs
section
variable {w W:World} {bs bs':List Bk} {rs rs':List Rdg} {r:Ro}
theorem Ro.In.mono (h:r.In bs rs) (hb:∀ p∈bs,p∈bs') (hr:∀ p∈rs,p∈rs'):r.In bs' rs':=by
 obtain⟨h1,h2,h3⟩:=h;refine⟨h1,?_,fun x hx=>⟨hr _ (h3 x hx).1,hr _ (h3 x hx).2⟩⟩
 rcases h2 with h2 | ⟨g,cur,k1,k2,k3,k4⟩
 ·exact .inl h2
 ·exact .inr ⟨g,cur,k1,k2,hb _ k3,k4⟩
theorem Ro.In.sr (h:r.In bs rs) (S:St w W bs rs):Sr W r.A r.n r.c r.L:=by
 obtain⟨h1,h2,h3⟩:=h;refine⟨h1,?_,?_,fun x hx=>⟨S.rd _ (h3 x hx).1,S.rd _ (h3 x hx).2⟩⟩
 ·rcases h2 with h2 | ⟨g,cur,k1,k2,k3,k4⟩
  ·omega
  ·exact k2
 ·rcases h2 with h2 | ⟨g,cur,k1,k2,k3,k4⟩
  ·exact .inl h2.2.1
  ·have hb:=(S.bk _ k3).1
   refine .inr ⟨g,0,k1,hb.lt,fun i x hi=>?_⟩
   have k:∀ j u,(csE r.L)[j]?=some u→W.cell? ⟨g,0+j,none⟩=some u:=fun j u hu=>by
    rw[Nat.zero_add];refine hb.cell ?_
    rw[←k4,List.getElem?_take] at hu
    split at hu
    ·simpa using hu
    ·cases hu
   obtain⟨e0,e1,e2⟩:=csE_get hi;exact⟨k _ _ e0,k _ _ e1,k _ _ e2⟩
theorem Apd.done {v:Value} {L:List Rt} (h:Apd w W bs rs 33 3 v L.length (csE L)) (hr:∀ x∈L,x.rdIn rs):∃ (r:Ro) (bs':List Bk),v=.slice r.A r.n r.c∧r.n=L.length∧r.L=L∧(bs'=bs∨∃ p,bs'=p::bs)∧r.In bs' rs∧St w W bs' rs:=by
 obtain⟨h1,h2,⟨rfl,h0,S⟩ | ⟨g,cap,cur,rfl,k2,k3,k4,k5,S⟩⟩:=h
 ·exact⟨⟨none,0,0,L⟩,bs,rfl,h0.symm,rfl,.inl rfl,⟨h0,.inl ⟨rfl,rfl,rfl⟩,hr⟩,S⟩
 ·exact⟨⟨some ⟨g,0,none⟩,L.length,cap,L⟩,(g,cur,33)::bs,rfl,rfl,rfl,.inr ⟨_,rfl⟩,⟨rfl,.inr ⟨g,cur,rfl,k2,List.mem_cons_self,k5⟩,hr⟩,S⟩
theorem Apd.mat {v:Value} {M:List Ro} (h:Apd w W bs rs 46 1 v M.length (M.map Ro.v)) (hr:∀ r∈M,r.In bs rs):∃ A c,v=.slice A M.length c∧Mr W A M.length c M:=by
 have S:=h.st;obtain⟨h1,h2,⟨rfl,h0,_⟩ | ⟨g,cap,cur,rfl,k2,k3,k4,k5,S'⟩⟩:=h
 ·exact⟨none,0,by rw[h0],rfl,by omega,.inl h0,fun r hr'=>(hr r hr').sr S⟩
 ·refine⟨some ⟨g,0,none⟩,cap,rfl,rfl,k2,.inr ⟨g,0,rfl,(S'.bk _ List.mem_cons_self).1.lt,fun i r hi=>?_⟩,fun r hr'=>(hr r hr').sr S⟩
  rw[Nat.zero_add];refine (S'.bk _ List.mem_cons_self).1.cell ?_
  have:(M.map Ro.v)[i]?=some (.slice r.A r.n r.c):=by rw[List.getElem?_map,hi];rfl
  rw[←k5,List.getElem?_take] at this
  split at this
  ·simpa using this
  ·cases this
end
theorem infoR:(Tryz.prog.info? 33).map (fun i=>(i.zero,i.size,i.bytes))=some (some (.agg #[.bool false,.slice none 0 0,.slice none 0 0]),3,56):=by kernel_rfl
theorem infoRow:(Tryz.prog.info? 46).map (fun i=>(i.zero,i.size,i.bytes))=some (some (.slice none 0 0),1,24):=by kernel_rfl
section
variable {w W:World} {bs:List Bk} {rs:List Rdg} {v:Value} {n:Nat} {xs:List Value} {ops:Array Oper} {rest:List Oper} {o:Oper} {a:Act} {Q:Exit→Act→World→Prop}
theorem app_rat (hgd:o.guard=none) (s x:Operand)
  (ho:o.op=.call { callee:=.builtin .append,args:=#[s,x],argTypes:=#[46,46] })
  (hs:a.eval s=v) (h:Apd w W bs rs 33 3 v n xs) (g:Nat) {b:Bool} {A:Option Addr} {n' c:Nat} {D:Option Addr} {m d:Nat} (hx:a.eval x=.slice (some ⟨g,0,none⟩) 1 1) (hc:Cb W g #[.bool b,.slice A n' c,.slice D m d] 33) (hn:n≤100000)
  (hk:∀ v' W',Apd w W' bs rs 33 3 v' (n+1) (xs++[.bool b,.slice A n' c,.slice D m d])→wpList Tryz.prog ops Q rest (a.put o.dst v') W'):wpList Tryz.prog ops Q (o::rest) a W:=by
 obtain⟨i0,hi,hzz⟩:=Option.map_eq_some_iff.1 infoR;simp only[Prod.mk.injEq] at hzz;obtain⟨hz0,hz1,hz2⟩:=hzz;refine Apd.wp hgd s x 46 ho i0 _ 56 Tryz.underlying46 hi hz0 hz1 hz2 rfl ?_ hs h ⟨g,0,none⟩ 1 1 [.bool b,.slice A n' c,.slice D m d] hx rfl ?_ ?_ ?_ (by decide) (by unfold maxLen;omega) (by omega) hk
 ·intro v hv z e;subst e;simp[Value.cells] at hv
 ·intro j u hu
  have hadd:(⟨g,0,none⟩:Addr).add j=⟨g,j,none⟩:=by unfold Addr.add;split<;>simp_all
  rw[hadd];exact hc.cell (by simpa using hu)
 ·intro u hu;simp at hu;rcases hu with rfl | rfl | rfl<;>rfl
 ·intro v hv z e;subst e;simp at hv
theorem app_row (hgd:o.guard=none) (s x:Operand)
  (ho:o.op=.call { callee:=.builtin .append,args:=#[s,x],argTypes:=#[23,23] })
  (hs:a.eval s=v) (h:Apd w W bs rs 46 1 v n xs) (g:Nat) {A:Option Addr} {n' c:Nat} (hx:a.eval x=.slice (some ⟨g,0,none⟩) 1 1) (hc:Cb W g #[.slice A n' c] 46) (hn:n≤100000)
  (hk:∀ v' W',Apd w W' bs rs 46 1 v' (n+1) (xs++[.slice A n' c])→wpList Tryz.prog ops Q rest (a.put o.dst v') W'):wpList Tryz.prog ops Q (o::rest) a W:=by
 obtain⟨i0,hi,hzz⟩:=Option.map_eq_some_iff.1 infoRow;simp only[Prod.mk.injEq] at hzz;obtain⟨hz0,hz1,hz2⟩:=hzz;refine Apd.wp hgd s x 23 ho i0 _ 24 Tryz.underlying23 hi hz0 hz1 hz2 rfl ?_ hs h ⟨g,0,none⟩ 1 1 [.slice A n' c] hx rfl ?_ ?_ ?_ (by decide) (by unfold maxLen;omega) (by omega) hk
 ·intro v hv z e;subst e;simp[Value.cells] at hv
 ·intro j u hu
  have hadd:(⟨g,0,none⟩:Addr).add j=⟨g,j,none⟩:=by unfold Addr.add;split<;>simp_all
  rw[hadd];exact hc.cell (by simpa using hu)
 ·intro u hu;simp at hu;rcases hu with rfl;rfl
 ·intro v hv z e;subst e;simp at hv
end
theorem noL1 (A:Option Addr) (n c:Nat):NoL #[.slice A n c]:=by
 intro i z;match i with
 | 0=>simp
 | k+1=>simp
end Go.Proofs.YthlinhconnmbcaaGreat
namespace Go.Proofs.YthlinhconnmbcaaGreat
open Go.RowKit RQ
def ltL (L:List Rt):Prop:=∀ x∈L,Rk x.b x.n x.x x.m x.y x.q∧Rs x.q 8000
def ltM (M:List Ro):Prop:=∀ r∈M,ltL r.L
theorem wf_row {M:List Ro} {r:Ro} (h:wfM M=true) (hr:r∈M):1≤r.n∧r.n≤96∧r.n=colM M:=by
 unfold wfM at h;rw[Bool.and_eq_true] at h;have:=List.all_eq_true.1 h.2 r hr;unfold rowM at this;simp only[Bool.and_eq_true,decide_eq_true_eq] at this;exact⟨this.1.1,this.1.2,this.2⟩
theorem wf_len {M:List Ro} (h:wfM M=true):M.length≤96:=by
 unfold wfM at h;rw[Bool.and_eq_true] at h;exact of_decide_eq_true h.1
theorem Apd.sr {w W:World} {bs:List Bk} {rs:List Rdg} {v:Value} {L:List Rt} (h:Apd w W bs rs 33 3 v L.length (csE L)) (hr:∀ x∈L,x.rdIn rs):∃ A c,v=.slice A L.length c∧Sr W A L.length c L:=by
 obtain⟨r,bs',rfl,h1,h2,_,h4,S⟩:=h.done hr;have:=h4.sr S;rw[h1,h2] at this;exact⟨r.A,r.c,by rw[h1],this⟩
theorem rd_cons_ {x:Rt} {rs:List Rdg} {p:Rdg} (h:x.rdIn rs):x.rdIn (p::rs):=⟨List.mem_cons_of_mem _ h.1,List.mem_cons_of_mem _ h.2⟩
def RetLE (Q:List Rat) (w:World) (e:Ending) (w':World):Prop:=∃ A n c L,e=.returned (.tuple #[.slice A n c,.int .i64 0])∧Sr w' A n c L∧(∀ x∈L,x.can)∧L.map (·.q)=Q∧Below w.heap.size w w'
def RetME (Q:List (List Rat)) (w:World) (e:Ending) (w':World):Prop:=∃ A n c M,e=.returned (.tuple #[.slice A n c,.int .i64 0])∧Mr w' A n c M∧canM M∧qM M=Q∧Below w.heap.size w w'
def RetE (w:World) (e:Ending) (w':World):Prop:=e=.returned (.tuple #[.slice none 0 0,.int .i64 6])∧Below w.heap.size w w'
def apQ (M:List Ro) (L:List Rt):List Rat:=M.map fun r=>dq (r.L.map (·.q)) (L.map (·.q)) (colM M)
end Go.Proofs.YthlinhconnmbcaaGreat
namespace Go.Proofs.YthlinhconnmbcaaGreat
open Go.RowKit RQ
def colQ (M:List Ro) (j:Nat):List Rat:=M.map fun r=>(r.L.map (·.q)).getD j 0
def tQ (M:List Ro):List (List Rat):=(List.range (colM M)).map (colQ M)
theorem getD_get {L:List Rt} {j:Nat} {x:Rt} (h:L[j]?=some x):(L.map (·.q)).getD j 0=x.q:=by
 rw[List.getD_eq_getElem?_getD,List.getElem?_map,h];rfl
theorem Apd.opn {w W:World} {bs:List Bk} {rs:List Rdg} {e size:Nat} {v:Value} {n:Nat} {xs:List Value} (h:Apd w W bs rs e size v n xs):∃ ob,(xs.length=n*size∧NoLl xs∧OB ob e size v n xs)∧St w W (bs++ob) rs:=h.open_
theorem qM_app (M:List Ro) (r:Ro):qM (M++[r])=qM M++[r.L.map (·.q)]:=by unfold qM;rw[List.map_append];rfl
theorem canM_app {M:List Ro} {r:Ro} (h:canM M) (h1:r.n≤1000) (h2:∀ x∈r.L,x.can):canM (M++[r]):=fun s hs=>by
 rcases List.mem_append.1 hs with hs | hs
 ·exact h s hs
 ·obtain rfl:=List.mem_singleton.1 hs;exact⟨h1,h2⟩
theorem In_app {M:List Ro} {r:Ro} {bs bs':List Bk} {rs rs':List Rdg} (h:∀ s∈M,s.In bs rs) (hb:∀ p∈bs,p∈bs') (hr:∀ p∈rs,p∈rs') (h1:r.In bs' rs'):∀ s∈M++[r],s.In bs' rs':=fun s hs=>by
 rcases List.mem_append.1 hs with hs | hs
 ·exact (h s hs).mono hb hr
 ·obtain rfl:=List.mem_singleton.1 hs;exact h1
theorem row_done {w W:World} {bs:List Bk} {rs:List Rdg} {v:Value} {L:List Rt} {ob:List Bk} (h:Apd w W (bs++ob) rs 33 3 v L.length (csE L)) (hr:∀ x∈L,x.rdIn rs):∃ (r:Ro) (bs':List Bk),v=.slice r.A r.n r.c∧r.n=L.length∧r.L=L∧(∀ p∈bs,p∈bs')∧r.In bs' rs∧St w W (bs'++ob) rs:=by
 obtain⟨h1,h2,⟨rfl,h0,S⟩ | ⟨g,cap,cur,rfl,k2,k3,k4,k5,S⟩⟩:=h
 ·exact⟨⟨none,0,0,L⟩,bs,rfl,h0.symm,rfl,fun _ h=>h,⟨h0,.inl ⟨rfl,rfl,rfl⟩,hr⟩,S⟩
 ·exact⟨⟨some ⟨g,0,none⟩,L.length,cap,L⟩,(g,cur,33)::bs,rfl,rfl,rfl,fun _ h=>List.mem_cons_of_mem _ h,⟨rfl,.inr ⟨g,cur,rfl,k2,List.mem_cons_self,k5⟩,hr⟩,S⟩
end Go.Proofs.YthlinhconnmbcaaGreat
namespace Go.Proofs.YthlinhconnmbcaaGreat
open Go.RowKit RQ
section
variable {P:Program} {ops:Array Oper} {Q:Exit→Act→World→Prop} {S:World→Prop} {w0:World} {Z:List Zv} {L:Array Bool} {a:Act} {bs:List (Nat×Array Value×Nat)} {rs:List (Option Addr×Nat×Nat×List Nat)}
theorem RW.blk {i:Nat} {oi:Oper} {cs:Array Value} {t k:Nat} (dst:Option Nat) (hz:ZOk P ops S w0 Z bs) (hi:ops[i]?=some oi) (hd:oi.dst=dst) (hc:callOk ops Z L i oi=true) (hw:Region.wanted oi (yielded ops a.tmps)=true)
  (hx:∀ w,(execOp a.eval oi).run P w=.ok (.value (.slice (some ⟨w.heap.size,0,none⟩) k k)) (w.alloc (.cells cs t))) (hn:NoL cs)
  (h:∀ g:Nat,Hid (ZOk P ops S w0 Z ((g,cs,t)::bs))→RW P ops Q S w0 Z (L.setIfInBounds i true) (a.put dst (.slice (some ⟨g,0,none⟩) k k)) ((g,cs,t)::bs) rs):RW P ops Q S w0 Z L a bs rs:=by
 have hzk:∀ g,ZOk P ops S w0 Z ((g,cs,t)::bs):=fun g=>⟨hz.ok,hz.is,hz.nd,hz.ndo,hz.nol,fun w B hB=>hz.keep w (B++[(g,cs,t)]) (by rw[List.append_assoc];exact hB)⟩
 simp only[callOk,Bool.and_eq_true,Bool.not_eq_true',beq_iff_eq] at hc;obtain⟨⟨⟨⟨c1,c2⟩,c3⟩,c4⟩,c5⟩:=hc;have hcz:i∉Z.map (·.op):=by simpa using c3
 subst hd;intro σ w hl hS hst;generalize hn':σ.count none=n
 induction n using Nat.strongRecOn generalizing σ w with
 | ind n ih=>
  have hcr:i∈Region.ready .any ops (mark Z σ L):=ready_mark (by simpa using c2) hcz
  refine Wk.all ⟨i,hcr⟩ fun j hj=>?_
  by_cases hjz:j∈Z.map (·.op)
  ·refine RW.alloc hz hl hst (mem_ready.1 hj).1 hjz fun σ' w' hl' hc' hS' hst'=>?_
   exact ih _ (by omega) σ' w' hl' hS' hst' rfl
  ·have:=ready_full hj hjz
   rw[c1] at this;have:=List.mem_singleton.1 this;subst this;unfold wpOp;rw[hi];simp only[wanted_fill (ops:=ops) oi Z σ a c4,hw,if_true];refine .inl ?_
   unfold Oper.wp;rw[exec_fill (ops:=ops) oi (fun cs b=>Region.noSelect_spec c5 j oi cs b hi) Z σ a c4,hx]
   show S _∧Wk P ops Q S _ (Act.put _ oi.dst _) _
   have hst':St w0 (w.alloc (.cells cs t)) (blks Z σ++(w.heap.size,cs,t)::bs) rs:=(hst.alloc cs t hn).perm (List.perm_middle.symm);have hS':S (w.alloc (.cells cs t)):=(hzk w.heap.size).keep _ _ hst'.none;refine⟨hS',?_⟩
   rw[←mark_set,←fill_put Z σ a oi.dst _ (fun z hzm e=>by
    have:=List.all_eq_true.1 c4 z hzm;simp only[Bool.and_eq_true,bne_iff_ne] at this;exact this.2 e)]
   exact h _ (Lib.hid (hzk _)) σ _ hl hS' hst'
end
end Go.Proofs.YthlinhconnmbcaaGreat
namespace Go.Proofs.YthlinhconnmbcaaGreat
open Go.RowKit RQ
section
variable {P:Program} {w W:World} {bs:List Bk} {rs:List Rdg} {e size:Nat} {v:Value} {n:Nat} {xs:List Value}
theorem Apd.op {o:Oper} {a:Act} {K:Act→World→Prop} {Q:Exit→Act→World→Prop} (s x:Operand) (t:TypeId)
  (ho:o.op=.call { callee:=.builtin .append,args:=#[s,x],argTypes:=#[t,t] })
  (i:TypeInfo) (z:Value) (bytes:Nat) (ht:P.underlying t=some (.slice e)) (hi:P.info? e=some i) (hz:i.zero=some z)
  (hsize:i.size=size) (hby:i.bytes=bytes) (hzs:z.cells.size=size) (hzn:NoLl z.cells.toList)
  (hs:a.eval s=v) (h:Apd w W bs rs e size v n xs) (ad:Addr) (m c:Nat) (news:List Value) (hx:a.eval x=.slice (some ad) m c) (hl:news.length=m*size) (hnews:∀ j u,news[j]?=some u→W.cell? (ad.add j)=some u) (h1:∀ u∈news,u.oneCell'=true) (hnn:NoLl news) (hm:0<m)
  (h63:n+m≤maxLen) (hbytes:(n+m)*bytes≤140737488355328)
  (hk:∀ v' W',Apd w W' bs rs e size v' (n+m) (xs++news)→K (a.put o.dst v') W'):o.wp P a W K Q:=by
 obtain⟨v',W',hr,h2⟩:=Apd.run (P:=P) t o.type i z bytes ht hi hz hsize hby hzs hzn h ad m c news hl hnews h1 hnn hm h63 hbytes;unfold Oper.wp execOp;simp only[ho,resolve,invoke,builtin,Sem.run_bind,Sem.run_pure,Result.andThen_ok,List.map_toArray,List.map_cons,List.map_nil,hs,hx,hr];exact hk v' W' h2
end
end Go.Proofs.YthlinhconnmbcaaGreat
namespace Go.Proofs.YthlinhconnmbcaaGreat
open Go.RowKit RQ
theorem can_k {x:Rt} {W:World} (h:x.can) (hr:x.raw W):Rk x.b x.n x.x x.m x.y x.q:=by
 obtain⟨b,A,n,c,l,D,m,d,y,q⟩:=x;obtain⟨e1,e2,e3,e4⟩:=h
 dsimp only at e1 e2 e3 e4
 subst e1;subst e2;subst e3;have:=RR.lens (p:=9000000) ⟨hr.1,hr.2⟩ e4;exact⟨rv_z q,this.1,this.2⟩
def prodQ (M N:List Ro):List (List Rat):=M.map fun r=>(tQ N).map fun l=>dq (r.L.map (·.q)) l (colM M)
theorem colQ_rs {N:List Ro} (h:ltM N) (j:Nat):∀ x∈colQ N j,Rs x 8000:=fun x hx=>by
 obtain⟨r,hr,rfl⟩:=List.mem_map.1 hx;rw[List.getD_eq_getElem?_getD]
 have key:∀ o:Option Rat,(∀ q,o=some q→Rs q 8000)→Rs (o.getD 0) 8000:=fun o ho=>by
  cases o
  ·exact (show Rs (0:Rat) 1 from ⟨by decide,by decide⟩).mono (by omega)
  ·exact ho _ rfl
 refine key _ fun q e=>?_
 obtain⟨z,hz,rfl⟩:=List.mem_map.1 (List.mem_of_getElem? e);exact (h r hr z hz).2
theorem tQ_get {N:List Ro} {j:Nat} (h:j<colM N):(tQ N)[j]?=some (colQ N j):=by
 unfold tQ;rw[List.getElem?_map,List.getElem?_range h];rfl
theorem tQ_len (N:List Ro):(tQ N).length=colM N:=by unfold tQ;rw[List.length_map,List.length_range]
end Go.Proofs.YthlinhconnmbcaaGreat
namespace Go.Proofs.YthlinhconnmbcaaGreat
open Go.RowKit RQ
theorem res_mcopy (W:World) (tmps:Array Value) (g t:Nat) {v0 v1 v2:Value} (ht:tmps.getD 2 undef=.pointer (some ⟨g,0,none⟩)) (h:Cb W g #[v0,v1,v2] t) :
  (results Tryz.f39 tmps).run Tryz.prog W=.ok (.agg #[v0,v1,v2]) W:=by
 have c0:W.cell? ⟨g,0,none⟩=some v0:=h.cell rfl;have c1:W.cell? ⟨g,1,none⟩=some v1:=h.cell rfl;have c2:W.cell? ⟨g,2,none⟩=some v2:=h.cell rfl;have ht':tmps[2]?.getD undef=.pointer (some ⟨g,0,none⟩):=by rw[←ht];simp[Array.getD_eq_getD_getElem?]
 simp[results,Tryz.results39,go_sem,ht',c0,c1,c2]
theorem mcopy_any (b1:Bool) (A1:Option Addr) (n1 c1:Nat) (x1:List Nat) (D1:Option Addr) (m1 d1:Nat) (y1:List Nat) (q1:Rat) (w:World) (X1:Rw w b1 A1 n1 c1 x1 D1 m1 d1 y1 q1):Calls Tryz.prog 39 #[.agg #[.bool b1,.slice A1 n1 c1,.slice D1 m1 d1]] w (RetR q1 w):=by
 have hA:Hid (∀ W,Rw W b1 A1 n1 c1 x1 D1 m1 d1 y1 q1→Calls Tryz.prog 62 #[.agg #[.bool b1,.slice A1 n1 c1,.slice D1 m1 d1],.agg #[.bool false,.slice none 0 0,.slice none 0 0]] W (RetR q1 W)):=Lib.hid fun W h=>by
  have:=addW b1 A1 n1 c1 x1 D1 m1 d1 y1 q1 false none 0 0 [] none 0 0 [] 0 W h (Rw.zero W)
  rwa [Rat.add_zero] at this
 have k1:=Lib.hid X1.k;have S:=(((((St.new w).read X1.rn).read X1.rd).allocAt (w.heap.size) #[.bool b1,.slice A1 n1 c1,.slice D1 m1 d1] 33 (noL3 _ _ _ _ _ _ _) (by simp)).allocAt (w.heap.size+1) #[.bool false,.slice none 0 0,.slice none 0 0] 33 (noL3 _ _ _ _ _ _ _) (by simp))
 replace S:=Lib.hid S;clear X1;go_enter Tryz.func39,Tryz.ntmps39
 go_wp2_with fail
 refine (hA.out _ (Rw.of (S.out.r 1 rfl) (S.out.r 0 rfl) k1.out)).mono ?_
 rintro e w1 ⟨A9,n9,c9,D9,m9,d9,rfl,Q9,bb⟩;have T:=(((S.out.call bb).read Q9.n).read Q9.d);clear bb S;have S:=T;clear T;obtain⟨c_r0,c_r1,c_r2,f_r0,f_r1,f_r2⟩:=S.cf3 0 rfl;obtain⟨c_x0,c_x1,c_x2,f_x0,f_x1,f_x2⟩:=S.cf3 1 rfl;have hz:w.heap.size+1<w1.heap.size:=S.lt 0 rfl;replace S:=Lib.hid S;clear Q9 hA;have S:St w _ [(w.heap.size+1,#[.bool (ng q1.num),.slice A9 n9 c9,.slice D9 m9 d9],33),(w.heap.size,#[.bool b1,.slice A1 n1 c1,.slice D1 m1 d1],33)] [(D9,m9,d9,dn q1),(A9,n9,c9,limbs q1.num.natAbs),(D1,m1,d1,y1),(A1,n1,c1,x1)]:=(((S.out.set 0 0 (.bool (ng q1.num)) rfl (by nofun)).set 0 1 (.slice A9 n9 c9) rfl (by nofun)).set 0 2 (.slice D9 m9 d9) rfl (by nofun))
 replace S:=Lib.hid S;go_wp2;refine bodyPost_ret (res_mcopy _ _ (w.heap.size+1) 33 rfl (S.out.bk _ (List.mem_of_getElem? (i:=0) rfl)).1) rfl ?_
 exact⟨_,_,_,_,_,_,rfl,⟨S.out.r 1 rfl,S.out.r 0 rfl⟩,S.out.bel⟩
theorem res_mquot (W:World) (tmps:Array Value) (g t:Nat) {v0 v1 v2:Value} (ht:tmps.getD 4 undef=.pointer (some ⟨g,0,none⟩)) (h:Cb W g #[v0,v1,v2] t) :
  (results Tryz.f41 tmps).run Tryz.prog W=.ok (.agg #[v0,v1,v2]) W:=by
 have c0:W.cell? ⟨g,0,none⟩=some v0:=h.cell rfl;have c1:W.cell? ⟨g,1,none⟩=some v1:=h.cell rfl;have c2:W.cell? ⟨g,2,none⟩=some v2:=h.cell rfl;have ht':tmps[4]?.getD undef=.pointer (some ⟨g,0,none⟩):=by rw[←ht];simp[Array.getD_eq_getD_getElem?]
 simp[results,Tryz.results41,go_sem,ht',c0,c1,c2]
theorem quot_any (b1:Bool) (A1:Option Addr) (n1 c1:Nat) (x1:List Nat) (D1:Option Addr) (m1 d1:Nat) (y1:List Nat) (q1:Rat) (b2:Bool) (A2:Option Addr) (n2 c2:Nat) (x2:List Nat) (D2:Option Addr) (m2 d2:Nat) (y2:List Nat) (q2:Rat) (w:World) (X1:Rw w b1 A1 n1 c1 x1 D1 m1 d1 y1 q1) (X2:Rw w b2 A2 n2 c2 x2 D2 m2 d2 y2 q2):Calls Tryz.prog 41 #[.agg #[.bool b1,.slice A1 n1 c1,.slice D1 m1 d1],.agg #[.bool b2,.slice A2 n2 c2,.slice D2 m2 d2]] w (RetR (q1 / q2) w):=by
 have hD:=Lib.hid (fun W h1 h2=>divW b1 A1 n1 c1 x1 D1 m1 d1 y1 q1 b2 A2 n2 c2 x2 D2 m2 d2 y2 q2 W h1 h2)
 generalize q1 / q2=q at *;generalize dvE q2=er at *;have k1:=Lib.hid X1.k;have k2:=Lib.hid X2.k;have S:=((((((((St.new w).read X1.rn).read X1.rd).read X2.rn).read X2.rd).allocAt (w.heap.size) #[.bool b1,.slice A1 n1 c1,.slice D1 m1 d1] 33 (noL3 _ _ _ _ _ _ _) (by simp)).allocAt (w.heap.size+1) #[.bool b2,.slice A2 n2 c2,.slice D2 m2 d2] 33 (noL3 _ _ _ _ _ _ _) (by simp)).allocAt (w.heap.size+1+1) #[.bool false,.slice none 0 0,.slice none 0 0] 33 (noL3 _ _ _ _ _ _ _) (by simp))
 replace S:=Lib.hid S;clear X1 X2;go_enter Tryz.func41,Tryz.ntmps41
 go_wp2_with fail
 refine (hD.out _ (Rw.of (S.out.r 3 rfl) (S.out.r 2 rfl) k1.out) (Rw.of (S.out.r 1 rfl) (S.out.r 0 rfl) k2.out)).mono ?_
 rintro e w1 ⟨A9,n9,c9,D9,m9,d9,rfl,Q9,bb⟩;have T:=(((S.out.call bb).read Q9.n).read Q9.d);clear bb S;have S:=T;clear T;obtain⟨c_r0,c_r1,c_r2,f_r0,f_r1,f_r2⟩:=S.cf3 0 rfl;obtain⟨c_y0,c_y1,c_y2,f_y0,f_y1,f_y2⟩:=S.cf3 1 rfl;obtain⟨c_x0,c_x1,c_x2,f_x0,f_x1,f_x2⟩:=S.cf3 2 rfl;have hz:w.heap.size+1+1<w1.heap.size:=S.lt 0 rfl;replace S:=Lib.hid S;clear Q9 hD;have S:St w _ [(w1.heap.size,#[.bool (ng q.num),.slice A9 n9 c9,.slice D9 m9 d9],33),(w.heap.size+1+1,#[.bool (ng q.num),.slice A9 n9 c9,.slice D9 m9 d9],33),(w.heap.size+1,#[.bool b2,.slice A2 n2 c2,.slice D2 m2 d2],33),(w.heap.size,#[.bool b1,.slice A1 n1 c1,.slice D1 m1 d1],33)] [(D9,m9,d9,dn q),(A9,n9,c9,limbs q.num.natAbs),(D2,m2,d2,y2),(A2,n2,c2,x2),(D1,m1,d1,y1),(A1,n1,c1,x1)]:=((((S.out.set 0 0 (.bool (ng q.num)) rfl (by nofun)).set 0 1 (.slice A9 n9 c9) rfl (by nofun)).set 0 2 (.slice D9 m9 d9) rfl (by nofun)).allocAt (w1.heap.size) #[.bool (ng q.num),.slice A9 n9 c9,.slice D9 m9 d9] 33 (noL3 _ _ _ _ _ _ _) (by simp))
 replace S:=Lib.hid S;go_wp2;refine bodyPost_ret (res_mquot _ _ (w.heap.size+1+1) 33 rfl (S.out.bk _ (List.mem_of_getElem? (i:=1) rfl)).1) rfl ?_
 exact⟨_,_,_,_,_,_,rfl,⟨S.out.r 1 rfl,S.out.r 0 rfl⟩,S.out.bel⟩
theorem res_mden (W:World) (tmps:Array Value) (g t:Nat) {v0 v1 v2:Value} (ht:tmps.getD 2 undef=.pointer (some ⟨g,0,none⟩)) (h:Cb W g #[v0,v1,v2] t) :
  (results Tryz.f61 tmps).run Tryz.prog W=.ok (.agg #[v0,v1,v2]) W:=by
 have c0:W.cell? ⟨g,0,none⟩=some v0:=h.cell rfl;have c1:W.cell? ⟨g,1,none⟩=some v1:=h.cell rfl;have c2:W.cell? ⟨g,2,none⟩=some v2:=h.cell rfl;have ht':tmps[2]?.getD undef=.pointer (some ⟨g,0,none⟩):=by rw[←ht];simp[Array.getD_eq_getD_getElem?]
 simp[results,Tryz.results61,go_sem,ht',c0,c1,c2]
theorem nat_abs (n:Nat):((n:Int):Rat).num.natAbs=n:=rfl
theorem nat_dn (n:Nat):dn ((n:Int):Rat)=[]:=rfl
theorem nat_ng' (n:Nat):ng ((n:Int):Rat).num=false:=by show decide ((n:Int)<0)=false;exact decide_eq_false (by omega)
theorem mden_one (q:Rat) (A1:Option Addr) (n1 c1:Nat) (D1:Option Addr) (m1 d1:Nat) (w:World) (X:RR w A1 n1 c1 D1 m1 d1 q) (h0:m1=0):Calls Tryz.prog 61 #[.agg #[.bool (ng q.num),.slice A1 n1 c1,.slice D1 m1 d1]] w (RetR ((q.den:Int):Rat) w):=by
 have hd:=dn_len0 X.d.len;have S:=(((((St.new w).read X.n).read X.d).allocAt (w.heap.size) #[.bool (ng q.num),.slice A1 n1 c1,.slice D1 m1 d1] 33 (noL3 _ _ _ _ _ _ _) (by simp)).allocAt (w.heap.size+1) #[.bool false,.slice none 0 0,.slice none 0 0] 33 (noL3 _ _ _ _ _ _ _) (by simp))
 replace S:=Lib.hid S;clear X;have hF:=Lib.hid (fun W=>fromIntR_any 1 W (by decide) (by decide))
 rw[hd.1 h0];obtain⟨z,hz1⟩:∃ z:Rat,z=((1:Int):Rat):=⟨_,rfl⟩;rw[←hz1] at hF ⊢;clear hd hz1;have g1:((m1:Int)==0)=true:=by simp[h0]
 clear h0;go_enter Tryz.func61,Tryz.ntmps61
 go_wp2_with fail
 refine (hF.out _).mono ?_
 rintro e w1 ⟨A9,n9,c9,D9,m9,d9,rfl,Q9,bb⟩;have T:=(((S.out.call bb).read Q9.n).read Q9.d);clear bb S;have S:=T;clear T;obtain⟨c_r0,c_r1,c_r2,f_r0,f_r1,f_r2⟩:=S.cf3 0 rfl;obtain⟨c_x0,c_x1,c_x2,f_x0,f_x1,f_x2⟩:=S.cf3 1 rfl;have hz:w.heap.size+1<w1.heap.size:=S.lt 0 rfl;replace S:=Lib.hid S;clear Q9 hF;have S:St w _ [(w.heap.size+1,#[.bool (ng z.num),.slice A9 n9 c9,.slice D9 m9 d9],33),(w.heap.size,#[.bool (ng q.num),.slice A1 n1 c1,.slice D1 m1 d1],33)] [(D9,m9,d9,dn z),(A9,n9,c9,limbs z.num.natAbs),(D1,m1,d1,dn q),(A1,n1,c1,limbs q.num.natAbs)]:=(((S.out.set 0 0 (.bool (ng z.num)) rfl (by nofun)).set 0 1 (.slice A9 n9 c9) rfl (by nofun)).set 0 2 (.slice D9 m9 d9) rfl (by nofun))
 replace S:=Lib.hid S;go_wp2;refine bodyPost_ret (res_mden _ _ (w.heap.size+1) 33 rfl (S.out.bk _ (List.mem_of_getElem? (i:=0) rfl)).1) rfl ?_
 exact⟨_,_,_,_,_,_,rfl,⟨S.out.r 1 rfl,S.out.r 0 rfl⟩,S.out.bel⟩
theorem mden_more (q:Rat) (A1:Option Addr) (n1 c1:Nat) (D1:Option Addr) (m1 d1:Nat) (w:World) (X:RR w A1 n1 c1 D1 m1 d1 q) (h0:¬ m1=0):Calls Tryz.prog 61 #[.agg #[.bool (ng q.num),.slice A1 n1 c1,.slice D1 m1 d1]] w (RetR ((q.den:Int):Rat) w):=by
 have hd:=dn_len0 X.d.len;have S:=(((((St.new w).read X.n).read X.d).allocAt (w.heap.size) #[.bool (ng q.num),.slice A1 n1 c1,.slice D1 m1 d1] 33 (noL3 _ _ _ _ _ _ _) (by simp)).allocAt (w.heap.size+1) #[.bool false,.slice D1 m1 d1,.slice none 0 0] 33 (noL3 _ _ _ _ _ _ _) (by simp))
 replace S:=Lib.hid S;clear X;have hl:=Lib.hid (hd.2 h0);clear hd;have g1:((m1:Int)==0)=false:=by simp[h0]
 clear h0;go_enter Tryz.func61,Tryz.ntmps61;have S:=S.out;replace S:=Lib.hid S;go_wp2;refine bodyPost_ret (res_mden _ _ (w.heap.size+1) 33 rfl (S.out.bk _ (List.mem_of_getElem? (i:=0) rfl)).1) rfl ?_
 refine⟨D1,m1,d1,none,0,0,by rw[nat_ng'],⟨?_,?_⟩,S.out.bel⟩
 ·rw[nat_abs,←hl.out];exact S.out.r 0 rfl
 ·rw[nat_dn];exact Rd.nil_ _ _ _
end Go.Proofs.YthlinhconnmbcaaGreat
namespace Go.Proofs.YthlinhconnmbcaaGreat
open Go.RowKit RQ
theorem noL4 (A:Option Addr) (n c:Nat) (b:Bool) (A':Option Addr) (n' c':Nat) (D:Option Addr) (m d:Nat):NoL #[.slice A n c,.bool b,.slice A' n' c',.slice D m d]:=by
 intro i z;match i with
 | 0=>simp
 | 1=>simp
 | 2=>simp
 | 3=>simp
 | k+4=>simp
theorem res_mdot (W:World) (tmps:Array Value) (g t:Nat) {v0 v1 v2:Value} (ht:tmps.getD 4 undef=.pointer (some ⟨g,0,none⟩)) (h:Cb W g #[v0,v1,v2] t) :
  (results Tryz.f38 tmps).run Tryz.prog W=.ok (.agg #[v0,v1,v2]) W:=by
 have c0:W.cell? ⟨g,0,none⟩=some v0:=h.cell rfl;have c1:W.cell? ⟨g,1,none⟩=some v1:=h.cell rfl;have c2:W.cell? ⟨g,2,none⟩=some v2:=h.cell rfl;have ht':tmps[4]?.getD undef=.pointer (some ⟨g,0,none⟩):=by rw[←ht];simp[Array.getD_eq_getD_getElem?]
 simp[results,Tryz.results38,go_sem,ht',c0,c1,c2]
theorem mdot_any (L L':List Rt) (A:Option Addr) (n c:Nat) (A':Option Addr) (c':Nat) (sa sb:Rat) (A1:Option Addr) (n1 c1:Nat) (D1:Option Addr) (m1 d1:Nat) (A2:Option Addr) (n2 c2:Nat) (D2:Option Addr) (m2 d2:Nat) (w:World) (h:Sr w A n c L) (h':Sr w A' n c' L') (X1:RR w A1 n1 c1 D1 m1 d1 sa) (X2:RR w A2 n2 c2 D2 m2 d2 sb) (ka:∀ r∈L,Rk r.b r.n r.x r.m r.y r.q) (kb:∀ r∈L',Rk r.b r.n r.x r.m r.y r.q) (rs:∀ i,i≤n→Rs (dq (L.map (·.q)) (L'.map (·.q)) i) 9000000) (rp:∀ r∈L,∀ s∈L',Rs (r.q*s.q) 9000000) (r1:Rs sa 9000000) (r2:Rs sb 9000000) (r3:Rs (sa*sb) 9000000) (hn:n≤1000):Calls Tryz.prog 38 #[.agg #[.slice A n c,.bool (ng sa.num),.slice A1 n1 c1,.slice D1 m1 d1],.agg #[.slice A' n c',.bool (ng sb.num),.slice A2 n2 c2,.slice D2 m2 d2]] w (RetR (dq (L.map (·.q)) (L'.map (·.q)) n / (sa*sb)) w):=by
 have hrs':=Lib.hid rs;have hrp':=Lib.hid rp;have hSS:Hid (∀ W A0 n0 c0 D0 m0 d0 A1 n1 c1 D1 m1 d1,RR W A0 n0 c0 D0 m0 d0 sa→RR W A1 n1 c1 D1 m1 d1 sb→Calls Tryz.prog 60 #[.agg #[.bool (ng sa.num),.slice A0 n0 c0,.slice D0 m0 d0],.agg #[.bool (ng sb.num),.slice A1 n1 c1,.slice D1 m1 d1]] W (RetR (sa*sb) W)):=Lib.hid fun W A0 n0 c0 D0 m0 d0 A1 n1 c1 D1 m1 d1 h1 h2=>mulW _ _ _ _ _ _ _ _ _ _ _ _ _ _ _ _ _ _ _ _ W (RR.w h1 r1) (RR.w h2 r2)
 have hfr:=rs n (Nat.le_refl _);have hQ:Hid (∀ W A0 n0 c0 D0 m0 d0 A1 n1 c1 D1 m1 d1,RR W A0 n0 c0 D0 m0 d0 (dq (L.map (·.q)) (L'.map (·.q)) n)→RR W A1 n1 c1 D1 m1 d1 (sa*sb)→Calls Tryz.prog 41 #[.agg #[.bool (ng (dq (L.map (·.q)) (L'.map (·.q)) n).num),.slice A0 n0 c0,.slice D0 m0 d0],.agg #[.bool (ng (sa*sb).num),.slice A1 n1 c1,.slice D1 m1 d1]] W (RetR (dq (L.map (·.q)) (L'.map (·.q)) n / (sa*sb)) W)):=Lib.hid fun W A0 n0 c0 D0 m0 d0 A1 n1 c1 D1 m1 d1 h1 h2=>quot_any _ _ _ _ _ _ _ _ _ _ _ _ _ _ _ _ _ _ _ _ W (RR.w h1 hfr) (RR.w h2 r3)
 obtain⟨fq,hfq⟩:∃ z,z=dq (L.map (·.q)) (L'.map (·.q)) n:=⟨_,rfl⟩;obtain⟨ss,hss⟩:∃ z,z=sa*sb:=⟨_,rfl⟩;obtain⟨out,hout⟩:∃ z,z=fq / ss:=⟨_,rfl⟩;rw[←hfq,←hss,←hout] at hQ;rw[←hss] at hSS;rw[←hfq,←hss,←hout];replace hfq:=Lib.hid hfq;clear rs rp hfr r1 r2 r3 hss hout;replace ka:=Lib.hid ka;replace kb:=Lib.hid kb;have hb:=Lib.hid hn;clear hn;have S:=(((((((((St.new w).read X1.n).read X1.d).read X2.n).read X2.d).allocAt (w.heap.size) #[.slice A n c,.bool (ng sa.num),.slice A1 n1 c1,.slice D1 m1 d1] 67 (noL4 _ _ _ _ _ _ _ _ _ _) (by simp)).allocAt (w.heap.size+1) #[.slice A' n c',.bool (ng sb.num),.slice A2 n2 c2,.slice D2 m2 d2] 67 (noL4 _ _ _ _ _ _ _ _ _ _) (by simp)).allocAt (w.heap.size+1+1) #[.bool false,.slice none 0 0,.slice none 0 0] 33 (noL3 _ _ _ _ _ _ _) (by simp)).allocAt (w.heap.size+1+1+1) #[.bool false,.slice none 0 0,.slice none 0 0] 33 (noL3 _ _ _ _ _ _ _) (by simp))
 replace S:=Lib.hid S;clear X1 X2;replace h:=Lib.hid h;replace h':=Lib.hid h';go_enter Tryz.func38,Tryz.ntmps38;go_wp2
 go_loopw [12] (fun iv wr=>∃ (i:Nat) (A3:Option Addr) (n3 c3:Nat) (D3:Option Addr) (m3 d3:Nat),i≤n∧iv=.int .i64 i∧St w wr [(w.heap.size+1+1+1,#[.bool (ng (dq (L.map (·.q)) (L'.map (·.q)) i).num),.slice A3 n3 c3,.slice D3 m3 d3],33),(w.heap.size+1+1,#[.bool false,.slice none 0 0,.slice none 0 0],33),(w.heap.size+1,#[.slice A' n c',.bool (ng sb.num),.slice A2 n2 c2,.slice D2 m2 d2],67),(w.heap.size,#[.slice A n c,.bool (ng sa.num),.slice A1 n1 c1,.slice D1 m1 d1],67)] [(D3,m3,d3,dn (dq (L.map (·.q)) (L'.map (·.q)) i)),(A3,n3,c3,limbs (dq (L.map (·.q)) (L'.map (·.q)) i).num.natAbs),(D2,m2,d2,dn sb),(A2,n2,c2,limbs sb.num.natAbs),(D1,m1,d1,dn sa),(A1,n1,c1,limbs sa.num.natAbs)]) (fun iv _=>n-(intOf iv).toNat)
 case atStart=>exact⟨0,none,0,0,none,0,0,Nat.zero_le _,rfl,(S.out.read (zero_RR _ none none 0 0).n).read (zero_RR _ none none 0 0).d⟩
 case round=>
  clear S;obtain⟨i,A3,n3,c3,D3,m3,d3,hin,rfl,S⟩:=hrel
  by_cases hlt:i<n
  ·obtain⟨b,o,r,rfl,hr,hrm,e0,e1,e2⟩:=(h.out.bel S.bel).get hlt
   have hq:(dq (L.map (·.q)) (L'.map (·.q)) i)+r.q*(L'.map (·.q)).getD i 0=dq (L.map (·.q)) (L'.map (·.q)) (i+1):=by show _=_+_*_;rw[map_getD hr]
   have hrq:=hrs'.out i hin;obtain⟨q,eq_⟩:∃ z,z=(dq (L.map (·.q)) (L'.map (·.q)) i):=⟨_,rfl⟩;rw[←eq_] at hrq S hq;have hSx:=Lib.hid (S.allocAt wr.heap.size #[.bool r.b,.slice r.A r.n r.c,.slice r.D r.m r.d] 33 (noL3 _ _ _ _ _ _ _) rfl);have Sd:=hSx.out.drew;obtain⟨b',o',s,rfl,hs,hsm,f0,f1,f2⟩:=(h'.out.bel Sd.bel).get hlt;rw[map_getD hs] at hq;have hrp:=hrp'.out r hrm s hsm;obtain⟨pr,ep⟩:∃ z,z=r.q*s.q:=⟨_,rfl⟩
   obtain⟨nq,en⟩:∃ z,z=q+pr:=⟨_,rfl⟩;have hM:Hid (∀ W,r.raw W→s.raw W→Calls Tryz.prog 60 #[.agg #[.bool r.b,.slice r.A r.n r.c,.slice r.D r.m r.d],.agg #[.bool s.b,.slice s.A s.n s.c,.slice s.D s.m s.d]] W (RetR pr W)):=Lib.hid fun W h1 h2=>by rw[ep];exact mulW _ _ _ _ _ _ _ _ _ _ _ _ _ _ _ _ _ _ _ _ W (h1.at_ (ka.out r hrm)) (h2.at_ (kb.out s hsm))
   rw[←ep] at hrp hq;have hA:Hid (∀ W A0 n0 c0 D0 m0 d0 A1 n1 c1 D1 m1 d1,RR W A0 n0 c0 D0 m0 d0 q→RR W A1 n1 c1 D1 m1 d1 pr→Calls Tryz.prog 62 #[.agg #[.bool (ng q.num),.slice A0 n0 c0,.slice D0 m0 d0],.agg #[.bool (ng pr.num),.slice A1 n1 c1,.slice D1 m1 d1]] W (RetR nq W)):=Lib.hid fun W A0 n0 c0 D0 m0 d0 A1 n1 c1 D1 m1 d1 h1 h2=>by rw[en];exact addW _ _ _ _ _ _ _ _ _ _ _ _ _ _ _ _ _ _ _ _ W (RR.w h1 hrq) (RR.w h2 hrp)
   rw[←en] at hq;have R1:=Lib.hid ((h.out.bel Sd.bel).rd r hrm);have R2:=Lib.hid ((h'.out.bel Sd.bel).rd s hsm);replace hq:=Lib.hid hq;have hlh:=Lib.hid hlt;have g1:(i:Int)<(n:Int):=by omega
   have g2:(0:Int)≤(i:Int):=by omega
   clear hlt hin hrm hsm hr hs hrq hrp eq_ ep en;obtain⟨x3,x4,x5,z3,z4,z5⟩:=Sd.cf3 1 rfl;obtain⟨p0,p1,p2,_,_,_⟩:=Sd.cf3 0 rfl;have y0:=Sd.cl 3 0 rfl rfl;replace S:=Lib.hid S;replace Sd:=Lib.hid Sd;go_upto_region 5 with fail
   go_region_with (first
    | (go_at_call 60;refine (hM.out _ R1.out R2.out).mono ?_;rintro e w1 ⟨A4,n4,c4,D4,m4,d4,rfl,Q4,bb1⟩;have S1:=((Sd.out.call bb1).read Q4.n).read Q4.d;obtain⟨x6,x7,x8,z6,z7,z8⟩:=S1.cf3 1 rfl)
    | (go_at_call 62;refine (hA.out _ _ _ _ _ _ _ _ _ _ _ _ _ ⟨S1.r 3 rfl,S1.r 2 rfl⟩ ⟨S1.r 1 rfl,S1.r 0 rfl⟩).mono ?_;rintro e w2 ⟨A5,n5,c5,D5,m5,d5,rfl,Q5,bb2⟩;have S2:=((S1.call bb2).read Q5.n).read Q5.d;obtain⟨x9,x10,x11,z9,z10,z11⟩:=S2.cf3 1 rfl))
   all_goals
    have S3:=((S2.set 1 0 (.bool (ng nq.num)) rfl (by nofun)).set 1 1 (.slice A5 n5 c5) rfl (by nofun)).set 1 2 (.slice D5 m5 d5) rfl (by nofun)
    clear x3 x4 x5 z3 z4 z5 p0 p1 p2 y0 x6 x7 x8 z6 z7 z8 x9 x10 x11 z9 z10 z11 e0 e1 e2 f0 f1 f2 bb1 bb2 S1 S2 S Sd R1 R2 Q4 Q5 hSx;replace S3:=Lib.hid S3;have hlt:=hlh.out;have hbb:=hb.out;go_wp2
    go_roundw
    case rel=>exact⟨i+1,A5,n5,c5,D5,m5,d5,by omega,by go_num,by rw[←hq.out];exact S3.out.pick [1,2,3,4] [0,1,6,7,8,9] rfl (by decide) rfl⟩
    case measure=>simp[intOf];omega
  ·obtain rfl:i=n:=by omega
   rw[←hfq.out] at S;replace S:=Lib.hid S;clear hlt hin hrs' hrp' ka kb h h' hfq hb;go_upto_region 7 with fail
   refine RW.begin (Z:=[]) (S:=(fun W=>Cb W (w.heap.size+1+1+1) #[.bool (ng fq.num),.slice A3 n3 c3,.slice D3 m3 d3] 33∧Cb W (w.heap.size) #[.slice A i c,.bool (ng sa.num),.slice A1 n1 c1,.slice D1 m1 d1] 67∧Cb W (w.heap.size+1) #[.slice A' i c',.bool (ng sb.num),.slice A2 n2 c2,.slice D2 m2 d2] 67)) (by kernel_rfl) ?_ S.out ?_
   ·exact⟨by kernel_rfl,zis_nil,by decide,by decide,nol_nil,(fun _ _ h=>⟨h.kb 0 rfl,h.kb 3 rfl,h.kb 2 rfl⟩)⟩
   intro hzk;clear S;refine RW.t (i:=0) (v:=.agg #[.bool (ng fq.num),.slice A3 n3 c3,.slice D3 m3 d3]) (some 27) at0 (hy:=fun W hS=>by (have k0:=Cb.cell (i:=0) hS.1 rfl;have k1:=Cb.cell (i:=1) hS.1 rfl;have k2:=Cb.cell (i:=2) hS.1 rfl;clear hS;go_simp)) (h:=?_)
   refine RW.t (i:=1) (v:=.pointer (some ⟨w.heap.size,1,none⟩)) (some 28) at1 (hy:=fun _ _=>by kernel_rfl) (h:=?_)
   refine RW.t (i:=2) (v:=.agg #[.bool (ng sa.num),.slice A1 n1 c1,.slice D1 m1 d1]) (some 29) at2 (hy:=fun W hS=>by (have k1:=Cb.cell (i:=1) hS.2.1 rfl;have k2:=Cb.cell (i:=2) hS.2.1 rfl;have k3:=Cb.cell (i:=3) hS.2.1 rfl;clear hS;go_simp)) (h:=?_)
   refine RW.t (i:=3) (v:=.pointer (some ⟨w.heap.size+1,1,none⟩)) (some 30) at3 (hy:=fun _ _=>by kernel_rfl) (h:=?_)
   refine RW.t (i:=4) (v:=.agg #[.bool (ng sb.num),.slice A2 n2 c2,.slice D2 m2 d2]) (some 31) at4 (hy:=fun W hS=>by (have k1:=Cb.cell (i:=1) hS.2.2 rfl;have k2:=Cb.cell (i:=2) hS.2.2 rfl;have k3:=Cb.cell (i:=3) hS.2.2 rfl;clear hS;go_simp)) (h:=?_)
   refine RW.c (i:=5) (args:=#[.agg #[.bool (ng sa.num),.slice A1 n1 c1,.slice D1 m1 d1],.agg #[.bool (ng sb.num),.slice A2 n2 c2,.slice D2 m2 d2]]) (some 32) hzk.out at5 (hx:=fun _=>by kernel_rfl) (h:=fun _ S=>(hSS.out _ _ _ _ _ _ _ _ _ _ _ _ _ ⟨S.r 5 rfl,S.r 4 rfl⟩ ⟨S.r 3 rfl,S.r 2 rfl⟩).mono ?_)
   rintro e w31 ⟨A6,n6,c6,D6,m6,d6,rfl,Q6,bb⟩;refine⟨bb,_,[(D6,m6,d6,dn ss),(A6,n6,c6,limbs ss.num.natAbs)],rfl,(rd_cons Q6.d (rd_cons Q6.n rd_nil)),?_⟩
   clear bb S Q6;refine RW.c (i:=6) (args:=#[.agg #[.bool (ng fq.num),.slice A3 n3 c3,.slice D3 m3 d3],.agg #[.bool (ng ss.num),.slice A6 n6 c6,.slice D6 m6 d6]]) (some 33) hzk.out at6 (hx:=fun _=>by kernel_rfl) (h:=fun _ S=>(hQ.out _ _ _ _ _ _ _ _ _ _ _ _ _ ⟨S.r 3 rfl,S.r 2 rfl⟩ ⟨S.r 1 rfl,S.r 0 rfl⟩).mono ?_)
   rintro e w32 ⟨A7,n7,c7,D7,m7,d7,rfl,Q7,bb⟩;refine⟨bb,_,[(D7,m7,d7,dn out),(A7,n7,c7,limbs out.num.natAbs)],rfl,(rd_cons Q7.d (rd_cons Q7.n rd_nil)),?_⟩
   clear bb S Q7;refine RW.tail hzk.out (by kernel_rfl) ?_
   intro gs w33 hgs hS S;obtain rfl:=len0 hgs;clear hS hgs hzk;simp only[mark,fill,Act.put,sZ0,sZ1,sZ2];replace S:=Lib.hid S;refine Wk.o (i:=7) at7 (by kernel_rfl) fun K' hK=>?_
   have q7_r0:=St.cl (S.out) 1 0 rfl rfl;have q7_r1:=St.cl (S.out) 1 1 rfl rfl;have q7_r2:=St.cl (S.out) 1 2 rfl rfl;have q7z_r0:=St.f (S.out) 1 0 rfl;have q7z_r1:=St.f (S.out) 1 1 rfl;have q7z_r2:=St.f (S.out) 1 2 rfl
   go_simp
   have SN:=(((S.out.set 1 0 (.bool (ng out.num)) rfl (by nofun)).set 1 1 (.slice A7 n7 c7) rfl (by nofun)).set 1 2 (.slice D7 m7 d7) rfl (by nofun))
   clear S q7_r0 q7_r1 q7_r2 q7z_r0 q7z_r1 q7z_r2;have S:=SN;clear SN;refine hK.out _ _ ⟨(S.cb 0 rfl),(S.cb 3 rfl),(S.cb 2 rfl)⟩ ?_
   clear hK K';replace S:=Lib.hid S
   try simp only[Act.put,sZ0,sZ1,sZ2]
   refine Wk.done (by kernel_rfl) ?_
   go_simp
   replace S:=S.out;have S:St w _ [(w.heap.size+1+1+1,#[.bool (ng fq.num),.slice A3 n3 c3,.slice D3 m3 d3],33),(w.heap.size+1+1,#[.bool (ng out.num),.slice A7 n7 c7,.slice D7 m7 d7],33),(w.heap.size+1,#[.slice A' i c',.bool (ng sb.num),.slice A2 n2 c2,.slice D2 m2 d2],67),(w.heap.size,#[.slice A i c,.bool (ng sa.num),.slice A1 n1 c1,.slice D1 m1 d1],67)] [(D7,m7,d7,dn out),(A7,n7,c7,limbs out.num.natAbs),(D6,m6,d6,dn ss),(A6,n6,c6,limbs ss.num.natAbs),(D3,m3,d3,dn fq),(A3,n3,c3,limbs fq.num.natAbs),(D2,m2,d2,dn sb),(A2,n2,c2,limbs sb.num.natAbs),(D1,m1,d1,dn sa),(A1,n1,c1,limbs sa.num.natAbs)]:=S
   generalize hW34:(World.setCell (World.setCell (World.setCell w33 ⟨w.heap.size+1+1,0,none⟩ (.bool (ng out.num))) ⟨w.heap.size+1+1,1,none⟩ (.slice A7 n7 c7)) ⟨w.heap.size+1+1,2,none⟩ (.slice D7 m7 d7))=w34 at S ⊢;clear hW34;replace S:=Lib.hid S;replace S:=S.out;obtain⟨c_s0,c_s1,c_s2,f_s0,f_s1,f_s2⟩:=S.cf3 0 rfl;obtain⟨c_r0,c_r1,c_r2,f_r0,f_r1,f_r2⟩:=S.cf3 1 rfl;have c_y0:=S.cl 2 0 rfl rfl;have f_y0:=S.f 2 0 rfl
   have c_y1:=S.cl 2 1 rfl rfl;have f_y1:=S.f 2 1 rfl;have c_y2:=S.cl 2 2 rfl rfl;have f_y2:=S.f 2 2 rfl;have c_y3:=S.cl 2 3 rfl rfl;have f_y3:=S.f 2 3 rfl;have c_x0:=S.cl 3 0 rfl rfl;have f_x0:=S.f 3 0 rfl;have c_x1:=S.cl 3 1 rfl rfl;have f_x1:=S.f 3 1 rfl;have c_x2:=S.cl 3 2 rfl rfl;have f_x2:=S.f 3 2 rfl;have c_x3:=S.cl 3 3 rfl rfl;have f_x3:=S.f 3 3 rfl;have hz:w.heap.size+1+1+1<w34.heap.size:=S.lt 0 rfl
   replace S:=Lib.hid S;have S:=S.out;replace S:=Lib.hid S;go_wp2;refine bodyPost_ret (res_mdot _ _ (w.heap.size+1+1) 33 rfl (S.out.bk _ (List.mem_of_getElem? (i:=1) rfl)).1) rfl ?_
   exact⟨_,_,_,_,_,_,rfl,⟨S.out.r 1 rfl,S.out.r 0 rfl⟩,S.out.bel⟩
end Go.Proofs.YthlinhconnmbcaaGreat
namespace Go.Proofs.YthlinhconnmbcaaGreat
open Go.RowKit RQ
def Zt:Rt:=⟨false,none,0,0,[],none,0,0,[],0⟩
theorem Zt_can:Zt.can:=⟨rfl,limbs_zero.symm,rfl,(Rs.int (z:=0) (p:=1) (by decide) (Nat.le_refl 1)).mono (by decide)⟩
theorem Zt_raw (W:World):Zt.raw W:=⟨Rd.nil_ _ _ _,Rd.nil_ _ _ _⟩
theorem csE_zero (n:Nat):madeCells #[.bool false,.slice none 0 0,.slice none 0 0] (n*3)=(csE (List.replicate n Zt)).toArray:=by
 apply Array.ext'
 apply List.ext_getElem?
 intro j
 rcases Nat.lt_or_ge j (n*3) with hj | hj
 ·have h3:=Nat.div_add_mod j 3
  have hm:=Nat.mod_lt j (show 0<3 by decide)
  have hi:j / 3<n:=by omega
  obtain⟨e0,e1,e2⟩:=csE_get (L:=List.replicate n Zt) (i:=j / 3) (r:=Zt) (by rw[List.getElem?_replicate,if_pos hi])
  have hl:(madeCells #[Value.bool false,.slice none 0 0,.slice none 0 0] (n*3)).toList[j]?=some (#[Value.bool false,.slice none 0 0,.slice none 0 0][j%3]!):=by
   unfold madeCells
   simp[hj]
  rw[hl];have hc:j%3=0∨j%3=1∨j%3=2:=by omega
  rcases hc with h | h | h
  ·rw[show j=j / 3*3 by omega]
   rw[e0,show (j / 3*3)%3=0 by omega];rfl
  ·rw[show j=j / 3*3+1 by omega]
   rw[e1,show (j / 3*3+1)%3=1 by omega];rfl
  ·rw[show j=j / 3*3+2 by omega]
   rw[e2,show (j / 3*3+2)%3=2 by omega];rfl
 ·rw[List.getElem?_eq_none (by simpa [size_madeCells] using hj),List.getElem?_eq_none (by rw[List.toList_toArray,csE_len,List.length_replicate];exact hj)]
theorem make_rat (n:Nat) (hn:n≤1000000) (w:World) :
  (Instr.makeSlice 46 (.int .i64 (n:Int)) (.int .i64 (n:Int))).run Tryz.prog w=.ok (.slice (some ⟨w.heap.size,0,none⟩) n n) (w.alloc (.cells (csE (List.replicate n Zt)).toArray 33)):=by
 obtain⟨i0,hi,hzz⟩:=Option.map_eq_some_iff.1 infoR;simp only[Prod.mk.injEq] at hzz;obtain⟨hz0,hz1,hz2⟩:=hzz;have hr:=run_make (P:=Tryz.prog) w 46 33 i0 _ Tryz.underlying46 hi hz0 .i64 .i64 n n (by omega) (Int.le_refl _) (by rw[hz2];omega) (by omega)
 simp only[Int.toNat_natCast,hz1] at hr;rw[hr,←csE_zero]
 rfl
theorem csE_set (L:List Rt) (i:Nat) (r:Rt):(((csE L).toArray.setIfInBounds (i*3) (.bool r.b)).setIfInBounds (i*3+1) (.slice r.A r.n r.c)).setIfInBounds (i*3+2) (.slice r.D r.m r.d)=(csE (L.set i r)).toArray:=by
 apply Array.ext'
 rw[Array.toList_setIfInBounds,Array.toList_setIfInBounds,Array.toList_setIfInBounds,List.toList_toArray,List.toList_toArray]
 induction L generalizing i with
 | nil=>rfl
 | cons s l ih=>
  have e:csE (s::l)=.bool s.b :: .slice s.A s.n s.c :: .slice s.D s.m s.d::csE l:=rfl
  cases i with
  | zero=>rw[e];rfl
  | succ i=>
   have e2:csE ((s::l).set (i+1) r)=.bool s.b :: .slice s.A s.n s.c :: .slice s.D s.m s.d::csE (l.set i r):=rfl;rw[e,e2,←ih i];rw[show (i+1)*3=i*3+1+1+1 by omega,show i*3+1+1+1+1=(i*3+1)+1+1+1 by omega,show i*3+1+1+1+2=(i*3+2)+1+1+1 by omega]
   rfl
theorem NoLl.csE (L:List Rt):NoLl (csE L):=by
 intro v hv z e;obtain⟨r,_,hr⟩:=List.mem_flatMap.1 hv;subst e
 simp[Rt.cs] at hr
theorem csE_arr {L:List Rt} {i:Nat} {r:Rt} (h:L[i]?=some r):(csE L).toArray[i*3]?=some (.bool r.b)∧(csE L).toArray[i*3+1]?=some (.slice r.A r.n r.c)∧(csE L).toArray[i*3+2]?=some (.slice r.D r.m r.d):=by
 obtain⟨e0,e1,e2⟩:=csE_get h;simp only[List.getElem?_toArray]
 exact⟨e0,e1,e2⟩
section
variable {w W:World} {bs:List Bk} {rs:List Rdg} {L:List Rt} {g t:Nat}
theorem St_lcl (h:St w W ((g,(csE L).toArray,t)::bs) rs) {i:Nat} {r:Rt} (hi:L[i]?=some r):(W.cell? ⟨g,i*3,none⟩=some (.bool r.b)∧W.cell? ⟨g,i*3+1,none⟩=some (.slice r.A r.n r.c)∧W.cell? ⟨g,i*3+2,none⟩=some (.slice r.D r.m r.d))∧∀ j,W.frozen? ⟨g,j,none⟩=false:=by
 obtain⟨e0,e1,e2⟩:=csE_arr hi;have hb:=h.cb 0 rfl;exact⟨⟨hb.cell e0,hb.cell e1,hb.cell e2⟩,fun j=>hb.frozen j⟩
theorem St_lset (h:St w W ((g,(csE L).toArray,t)::bs) rs) (i:Nat) (r:Rt):St w (((W.setCell ⟨g,i*3,none⟩ (.bool r.b)).setCell ⟨g,i*3+1,none⟩ (.slice r.A r.n r.c)).setCell ⟨g,i*3+2,none⟩ (.slice r.D r.m r.d)) ((g,(csE (L.set i r)).toArray,t)::bs) rs:=by
 have:=((h.set 0 (i*3) (.bool r.b) rfl (by nofun)).set 0 (i*3+1) (.slice r.A r.n r.c) rfl (by nofun)).set 0 (i*3+2) (.slice r.D r.m r.d) rfl (by nofun)
 rw[←csE_set];exact this
theorem St_lsr (h:St w W ((g,(csE L).toArray,t)::bs) rs) (c:Nat) (hc:L.length≤c) (hr:∀ x∈L,x.raw W):Sr W (some ⟨g,0,none⟩) L.length c L:=by
 refine⟨rfl,hc,.inr ⟨g,0,rfl,(h.cb 0 rfl).lt,fun i r hi=>?_⟩,hr⟩
 rw[Nat.zero_add];exact (St_lcl h hi).1
end
end Go.Proofs.YthlinhconnmbcaaGreat
