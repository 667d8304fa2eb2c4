/- Slices of whatever elements: how they are read, how they lie in blocks of a call's own, how they grow. -/
import Derived.Deep.Upon
import Derived.Test.YtfnkpfbobdmieaaGreatM16
import Derived.Test.YtfnkpfbobdmieaaGreatB14
import Derived.Test.YtfnkpfbobdmieaaGreatB04
set_option maxRecDepth 100000
set_option maxHeartbeats 40000000
set_option linter.unusedVariables false
namespace Go.Proofs.YtfnkpfbobdmieaaGreat
open Go.RowKit
set_option linter.unusedVariables false
abbrev GBk:=Nat×Array Value×Nat
abbrev GRd:=Option Addr×Nat×Nat×List Nat
structure Cod (α:Type) where
 sz:Nat
 cs:α→List Value
 At:World→α→Prop
 In:World→List GBk→List GRd→α→Prop
 pos:0<sz
 len:∀ a,(cs a).length=sz
 noL:∀ a,NoLl (cs a)
 one:∀ a,∀ v∈cs a,v.oneCell'=true
 bel:∀ {W W':World} {a:α},At W a→Below W.heap.size W W'→At W' a
 mono:∀ {w:World} {bs bs':List GBk} {rs rs':List GRd} {a:α},In w bs rs a→(∀ p∈bs,p∈bs')→(∀ p∈rs,p∈rs')→In w bs' rs' a
 at_:∀ {w W:World} {bs:List GBk} {rs:List GRd} {a:α},St w W bs rs→In w bs rs a→At W a
 old:∀ {w:World} {a:α} (bs:List GBk) (rs:List GRd),At w a→In w bs rs a
def Cod.all {α:Type} (C:Cod α) (L:List α):List Value:=L.flatMap C.cs
section
variable {α β:Type} {C:Cod α} {w W W':World} {A:Option Addr} {n c e g t:Nat} {L:List α} {bs bs':List GBk} {rs rs':List GRd}
theorem all_app (C:Cod α) (L M:List α):C.all (L++M)=C.all L++C.all M:=List.flatMap_append
theorem all_one (C:Cod α) (x:α):C.all [x]=C.cs x:=by show C.cs x++[]=_;rw[List.append_nil]
theorem all_get {x:α} (C:Cod α):∀ {L:List α} {i:Nat},L[i]?=some x→∀ k v,(C.cs x)[k]?=some v→(C.all L)[i*C.sz+k]?=some v
 | [],_,h,_,_,_=>by simp at h
 | y::l,0,h,k,v,hv=>by
  have:y=x:=by simpa using h
  subst this;have hk:=(List.getElem?_eq_some_iff.1 hv).1
  show (C.cs y++C.all l)[0*C.sz+k]?=_
  rw[Nat.zero_mul,Nat.zero_add,List.getElem?_append_left hk];exact hv
 | y::l,i+1,h,k,v,hv=>by
  have h:l[i]?=some x:=by simpa using h
  show (C.cs y++C.all l)[(i+1)*C.sz+k]?=_
  rw[List.getElem?_append_right (by rw[C.len,Nat.add_mul,Nat.one_mul];omega),C.len,show (i+1)*C.sz+k-C.sz=i*C.sz+k by rw[Nat.add_mul,Nat.one_mul];omega]
  exact all_get C h k v hv
structure LR (C:Cod α) (W:World) (A:Option Addr) (n:Nat) (L:List α):Prop where
 len:L.length=n
 mem:n=0∨∃ b o,A=some ⟨b,o,none⟩∧b<W.heap.size∧∀ (i:Nat) (x:α),L[i]?=some x→∀ k v,(C.cs x)[k]?=some v→W.cell? ⟨b,o+i*C.sz+k,none⟩=some v
 el:∀ x∈L,C.At W x
theorem LR.bel (h:LR C W A n L) (hb:Below W.heap.size W W'):LR C W' A n L:=by
 refine⟨h.len,?_,fun x hx=>C.bel (h.el x hx) hb⟩
 rcases h.mem with h0 | ⟨b,o,hA,hlt,hc⟩
 ·exact .inl h0
 ·exact .inr ⟨b,o,hA,Nat.lt_of_lt_of_le hlt hb.size,fun i x hi k v hv=>(World.cell?_of_block (hb.block b hlt)).trans (hc i x hi k v hv)⟩
theorem LR.get (h:LR C W A n L) {i:Nat} (hi:i<n):∃ b o x,A=some ⟨b,o,none⟩∧L[i]?=some x∧x∈L∧C.At W x∧∀ k v,(C.cs x)[k]?=some v→W.cell? ⟨b,o+i*C.sz+k,none⟩=some v:=by
 have hl:=h.len
 rcases h.mem with h0 | ⟨b,o,hA,_,hc⟩
 ·omega
 ·have e:L[i]?=some L[i]:=List.getElem?_eq_getElem (by omega)
  have hm:L[i]∈L:=List.getElem_mem _;exact⟨b,o,L[i],hA,e,hm,h.el _ hm,hc i _ e⟩
theorem LR.nil_ (C:Cod α) (W:World) (A:Option Addr):LR C W A 0 []:=⟨rfl,.inl rfl,fun x hx=>by cases hx⟩
theorem LR.sub {b o m:Nat} (h:LR C W (some ⟨b,o,none⟩) n L) (hm:m≤n):LR C W (some ⟨b,o+m*C.sz,none⟩) (n-m) (L.drop m):=by
 refine⟨by rw[List.length_drop,h.len],?_,fun x hx=>h.el x (List.mem_of_mem_drop hx)⟩
 rcases h.mem with h0 | ⟨b',o',hA,hlt,hc⟩
 ·exact .inl (by omega)
 ·injection hA with hA;injection hA with h1 h2;subst h1;subst h2
  refine .inr ⟨b,o+m*C.sz,rfl,hlt,fun i x hi k v hv=>?_⟩
  rw[List.getElem?_drop] at hi
  have:=hc (m+i) x hi k v hv
  rwa [Nat.add_mul,←Nat.add_assoc] at this
structure LI (C:Cod α) (w:World) (bs:List GBk) (rs:List GRd) (A:Option Addr) (n:Nat) (L:List α):Prop where
 len:L.length=n
 mem:n=0∨(∃ b o,A=some ⟨b,o,none⟩∧b<w.heap.size∧∀ (i:Nat) (x:α),L[i]?=some x→∀ k v,(C.cs x)[k]?=some v→w.cell? ⟨b,o+i*C.sz+k,none⟩=some v) ∨
  ∃ (g:Nat) (cur:Array Value) (t:Nat),A=some ⟨g,0,none⟩∧(g,cur,t)∈bs∧∀ (j:Nat) v,(C.all L)[j]?=some v→cur[j]?=some v
 el:∀ x∈L,C.In w bs rs x
theorem LI.mono (h:LI C w bs rs A n L) (hb:∀ p∈bs,p∈bs') (hr:∀ p∈rs,p∈rs'):LI C w bs' rs' A n L:=by
 refine⟨h.len,?_,fun x hx=>C.mono (h.el x hx) hb hr⟩
 rcases h.mem with h0 | h1 | ⟨g,cur,t,h1,h2,h3⟩
 ·exact .inl h0
 ·exact .inr (.inl h1)
 ·exact .inr (.inr ⟨g,cur,t,h1,hb _ h2,h3⟩)
theorem LI.lr (h:LI C w bs rs A n L) (S:St w W bs rs):LR C W A n L:=by
 refine⟨h.len,?_,fun x hx=>C.at_ S (h.el x hx)⟩
 rcases h.mem with h0 | ⟨b,o,hA,hlt,hc⟩ | ⟨g,cur,t,h1,h2,h3⟩
 ·exact .inl h0
 ·exact .inr ⟨b,o,hA,Nat.lt_of_lt_of_le hlt S.bel.size,fun i x hi k v hv=>(World.cell?_of_block (S.bel.block b hlt)).trans (hc i x hi k v hv)⟩
 ·have hb:=(S.bk _ h2).1
  refine .inr ⟨g,0,h1,hb.lt,fun i x hi k v hv=>?_⟩
  rw[Nat.zero_add];exact hb.cell (h3 _ _ (all_get (i:=i) C hi k v hv))
theorem LI.old (bs:List GBk) (rs:List GRd) (h:LR C w A n L):LI C w bs rs A n L:=by
 refine⟨h.len,?_,fun x hx=>C.old bs rs (h.el x hx)⟩
 rcases h.mem with h0 | h1
 ·exact .inl h0
 ·exact .inr (.inl h1)
theorem LI.nil_ (C:Cod α) (w:World) (bs:List GBk) (rs:List GRd) (A:Option Addr):LI C w bs rs A 0 []:=⟨rfl,.inl rfl,fun x hx=>by cases hx⟩
theorem LI.blk (hb:(g,(C.all L).toArray,t)∈bs) (hr:∀ x∈L,C.In w bs rs x):LI C w bs rs (some ⟨g,0,none⟩) L.length L:=
 ⟨rfl,.inr (.inr ⟨g,_,t,rfl,hb,fun j v hv=>by rw[List.getElem?_toArray];exact hv⟩),hr⟩
structure Sl (α:Type) where
 A:Option Addr
 c:Nat
 L:List α
def Sl.v {α:Type} (s:Sl α):Value:=.slice s.A s.L.length s.c
def slC (C:Cod α):Cod (Sl α) where
 sz:=1
 cs s:=[s.v]
 At W s:=LR C W s.A s.L.length s.L∧s.L.length≤s.c
 In w bs rs s:=LI C w bs rs s.A s.L.length s.L∧s.L.length≤s.c
 pos:=by decide
 len _:=rfl
 noL s:=fun v hv z e=>by rw[List.mem_singleton.1 hv] at e;cases e
 one s:=fun v hv=>by rw[List.mem_singleton.1 hv];rfl
 bel h hb:=⟨h.1.bel hb,h.2⟩
 mono h hb hr:=⟨h.1.mono hb hr,h.2⟩
 at_ S h:=⟨h.1.lr S,h.2⟩
 old bs rs h:=⟨LI.old bs rs h.1,h.2⟩
def cellC (f:α→Value) (h1:∀ a z,f a≠.int .u32 z) (h2:∀ a,(f a).oneCell'=true):Cod α where
 sz:=1
 cs a:=[f a]
 At _ _:=True
 In _ _ _ _:=True
 pos:=by decide
 len _:=rfl
 noL a:=fun v hv z e=>by rw[List.mem_singleton.1 hv] at e;exact h1 a z e
 one a:=fun v hv=>by rw[List.mem_singleton.1 hv];exact h2 a
 bel _ _:=trivial
 mono _ _ _:=trivial
 at_ _ _:=trivial
 old _ _ _:=trivial
def boolC:Cod Bool:=cellC Value.bool (fun _ _ e=>by cases e) (fun _=>rfl)
def intC:Cod Int:=cellC (Value.int .i64) (fun _ _ e=>by cases e) (fun _=>rfl)
structure Nl where
 A:Option Addr
 n:Nat
 c:Nat
 x:List Nat
def limC:Cod Nl where
 sz:=1
 cs s:=[.slice s.A s.n s.c]
 At W s:=Rd W s.A s.n s.c s.x
 In w bs rs s:=(s.A,s.n,s.c,s.x)∈rs∨Rd w s.A s.n s.c s.x
 pos:=by decide
 len _:=rfl
 noL s:=fun v hv z e=>by rw[List.mem_singleton.1 hv] at e;cases e
 one s:=fun v hv=>by rw[List.mem_singleton.1 hv];rfl
 bel h hb:=h.below hb
 mono h _ hr:=h.imp (hr _) id
 at_ S h:=h.elim (fun h=>S.rd _ h) (fun h=>h.below S.bel)
 old _ _ h:=.inr h
def proC (C:Cod α) (D:Cod β):Cod (α×β) where
 sz:=C.sz+D.sz
 cs a:=C.cs a.1++D.cs a.2
 At W a:=C.At W a.1∧D.At W a.2
 In w bs rs a:=C.In w bs rs a.1∧D.In w bs rs a.2
 pos:=Nat.add_pos_left C.pos _
 len a:=by rw[List.length_append,C.len,D.len]
 noL a:=(C.noL a.1).app (D.noL a.2)
 one a:=fun v hv=>(List.mem_append.1 hv).elim (C.one a.1 v) (D.one a.2 v)
 bel h hb:=⟨C.bel h.1 hb,D.bel h.2 hb⟩
 mono h hb hr:=⟨C.mono h.1 hb hr,D.mono h.2 hb hr⟩
 at_ S h:=⟨C.at_ S h.1,D.at_ S h.2⟩
 old bs rs h:=⟨C.old bs rs h.1,D.old bs rs h.2⟩
def Cod.via (C:Cod β) (f:α→β):Cod α where
 sz:=C.sz
 cs a:=C.cs (f a)
 At W a:=C.At W (f a)
 In w bs rs a:=C.In w bs rs (f a)
 pos:=C.pos
 len a:=C.len (f a)
 noL a:=C.noL (f a)
 one a:=C.one (f a)
 bel h hb:=C.bel h hb
 mono h hb hr:=C.mono h hb hr
 at_ S h:=C.at_ S h
 old bs rs h:=C.old bs rs h
structure Iw where
 b:Bool
 x:Nl
structure Gw where
 b:Bool
 x:Nl
 y:Nl
def rwC:Cod Gw:=(proC boolC (proC limC limC)).via fun a=>(a.b,a.x,a.y)
def Gw.vs (r:Gw):Array Value:=#[.bool r.b,.slice r.x.A r.x.n r.x.c,.slice r.y.A r.y.n r.y.c]
end
section
variable {α:Type} {C:Cod α} {w W W':World} {A:Option Addr} {n c e g t:Nat} {L:List α} {bs bs':List GBk} {rs rs':List GRd} {v:Value}
def Gro (C:Cod α) (w W:World) (bs:List GBk) (rs:List GRd) (e:Nat) (v:Value) (L:List α):Prop:=
 Apd w W bs rs e C.sz v L.length (C.all L)∧∀ x∈L,C.In w bs rs x
theorem Gro.nil_ (C:Cod α) (S:St w W bs rs) (e:Nat):Gro C w W bs rs e (.slice none 0 0) []:=⟨Apd.nil_ S e _,fun x hx=>by cases hx⟩
theorem Gro.st (h:Gro C w W bs rs e v L):St w W bs rs:=h.1.st
theorem Gro.done (h:Gro C w W bs rs e v L):∃ A c bs',v=.slice A L.length c∧St w W bs' rs∧(∀ p∈bs,p∈bs')∧LI C w bs' rs A L.length L:=by
 obtain⟨⟨h1,h2,⟨rfl,h3,S⟩ | ⟨g,cap,cur,rfl,h3,h4,h5,h6,S⟩⟩,hx⟩:=h
 ·have:L=[]:=List.length_eq_zero_iff.1 h3
  subst this;exact⟨none,0,bs,rfl,S,fun _ h=>h,LI.nil_ _ _ _ _ _⟩
 ·refine⟨_,_,_,rfl,S,fun _ h=>List.mem_cons_of_mem _ h,rfl,.inr (.inr ⟨g,cur,e,rfl,List.mem_cons_self,fun j u hu=>?_⟩),fun x hxm=>C.mono (hx x hxm) (fun _ h=>List.mem_cons_of_mem _ h) (fun _ h=>h)⟩
  rw[←h6,List.getElem?_take] at hu
  split at hu
  ·simpa using hu
  ·cases hu
theorem Gro.lr (h:Gro C w W bs rs e v L):∃ A c,v=.slice A L.length c∧LR C W A L.length L:=by
 obtain⟨A,c,bs',hv,S,_,hl⟩:=h.done;exact⟨A,c,hv,hl.lr S⟩
theorem Gro.call (h:Gro C w W bs rs e v L) (hb:Below W.heap.size W W'):Gro C w W' bs rs e v L:=⟨h.1.call hb,h.2⟩
theorem Gro.drew (h:Gro C w W bs rs e v L):Gro C w W.drew bs rs e v L:=⟨h.1.drew,h.2⟩
theorem Gro.read {A:Option Addr} {n c:Nat} {ys:List Nat} (h:Gro C w W bs rs e v L) (R:Rd W A n c ys):Gro C w W bs ((A,n,c,ys)::rs) e v L:=⟨h.1.read R,fun x hx=>C.mono (h.2 x hx) (fun _ h=>h) (fun _ h=>List.mem_cons_of_mem _ h)⟩
theorem Gro.alloc (h:Gro C w W bs rs e v L) (cs:Array Value) (t:Nat) (hn:NoL cs):Gro C w (W.alloc (.cells cs t)) ((W.heap.size,cs,t)::bs) rs e v L:=⟨h.1.alloc cs t hn,fun x hx=>C.mono (h.2 x hx) (fun _ h=>List.mem_cons_of_mem _ h) (fun _ h=>h)⟩
theorem Gro.sub {p:GBk} (h:Gro C w W (p::bs) rs e v L) (hx:∀ x∈L,C.In w bs rs x):Gro C w W bs rs e v L:=⟨h.1.sub,hx⟩
theorem Gro.wp {P:Program} {ops:Array Oper} {rest:List Oper} {o:Oper} {a:Act} {Q:Exit→Act→World→Prop} (hgd:o.guard=none) (s x:Operand) (ty:TypeId)
  (ho:o.op=.call { callee:=.builtin .append,args:=#[s,x],argTypes:=#[ty,ty] })
  (z:Value) (bytes:Nat) (ht:P.underlying ty=some (.slice e)) (hi:(P.info? e).map (fun i=>(i.zero,i.size,i.bytes))=some (some z,C.sz,bytes))
  (hzs:z.cells.size=C.sz) (hzn:NoLl z.cells.toList) (hs:a.eval s=v) (h:Gro C w W bs rs e v L)
  (g:Nat) (y:α) {t:Nat} (hx:a.eval x=.slice (some ⟨g,0,none⟩) 1 1) (hc:Cb W g (C.cs y).toArray t) (hy:C.In w bs rs y)
  (hn:(L.length+1)*bytes≤140737488355328) (h63:L.length+1≤maxLen)
  (hk:∀ v' W',Gro C w W' bs rs e v' (L++[y])→wpList P ops Q rest (a.put o.dst v') W'):wpList P ops Q (o::rest) a W:=by
 obtain⟨i0,hi0,hzz⟩:=Option.map_eq_some_iff.1 hi;simp only[Prod.mk.injEq] at hzz;obtain⟨hz0,hz1,hz2⟩:=hzz;refine Apd.wp hgd s x ty ho i0 z bytes ht hi0 hz0 hz1 hz2 hzs hzn hs h.1 ⟨g,0,none⟩ 1 1 (C.cs y) hx (by rw[C.len,Nat.one_mul]) ?_ (C.one y) (C.noL y) (by decide) h63 hn fun v' W' hA=>hk v' W' ⟨?_,fun x hx=>?_⟩
 ·intro j u hu
  have hadd:(⟨g,0,none⟩:Addr).add j=⟨g,j,none⟩:=by unfold Addr.add;split<;>simp_all
  rw[hadd];exact hc.cell (by rw[List.getElem?_toArray];exact hu)
 ·rw[all_app,all_one,List.length_append];exact hA
 ·rcases List.mem_append.1 hx with hx | hx
  ·exact h.2 x hx
  ·rw[List.mem_singleton.1 hx];exact hy
end
end Go.Proofs.YtfnkpfbobdmieaaGreat
namespace Go.Proofs.YtfnkpfbobdmieaaGreat
open Go.RowKit RQ
def Rt.raw (r:Rt) (W:World):Prop:=Rd W r.A r.n r.c r.x∧Rd W r.D r.m r.d r.y
theorem Rt.raw.bel {r:Rt} {W W':World} (h:r.raw W) (hb:Below W.heap.size W W'):r.raw W':=⟨h.1.below hb,h.2.below hb⟩
theorem Rt.raw.at_ {r:Rt} {W:World} (h:r.raw W) (k:Rk r.b r.n r.x r.m r.y r.q):r.at W:=⟨h.1,h.2,k⟩
structure Sr (W:World) (A:Option Addr) (n c:Nat) (L:List Rt):Prop where
 len:L.length=n
 cap:n≤c
 mem:n=0∨∃ b o,A=some ⟨b,o,none⟩∧b<W.heap.size∧∀ (i:Nat) (r:Rt),L[i]?=some r→W.cell? ⟨b,o+i*3,none⟩=some (.bool r.b)∧W.cell? ⟨b,o+i*3+1,none⟩=some (.slice r.A r.n r.c)∧W.cell? ⟨b,o+i*3+2,none⟩=some (.slice r.D r.m r.d)
 rd:∀ r∈L,r.raw W
section
variable {W W':World} {A:Option Addr} {n c:Nat} {L:List Rt}
theorem Sr.bel (h:Sr W A n c L) (hb:Below W.heap.size W W'):Sr W' A n c L:=by
 refine⟨h.len,h.cap,?_,fun r hr=>(h.rd r hr).bel hb⟩
 rcases h.mem with h0 | ⟨b,o,hA,hlt,hc⟩
 ·exact .inl h0
 ·refine .inr ⟨b,o,hA,Nat.lt_of_lt_of_le hlt hb.size,fun i r hi=>?_⟩
  obtain⟨h1,h2,h3⟩:=hc i r hi;have k:=fun j=>World.cell?_of_block (a:=⟨b,j,none⟩) (hb.block b hlt)
  exact⟨(k _).trans h1,(k _).trans h2,(k _).trans h3⟩
theorem Sr.get (h:Sr W A n c L) {i:Nat} (hi:i<n):∃ b o r,A=some ⟨b,o,none⟩∧L[i]?=some r∧r∈L∧W.cell? ⟨b,o+i*3,none⟩=some (.bool r.b)∧W.cell? ⟨b,o+i*3+1,none⟩=some (.slice r.A r.n r.c)∧W.cell? ⟨b,o+i*3+2,none⟩=some (.slice r.D r.m r.d):=by
 have hl:=h.len
 rcases h.mem with h0 | ⟨b,o,hA,_,hc⟩
 ·omega
 ·have e:L[i]?=some L[i]:=List.getElem?_eq_getElem (by omega)
  exact⟨b,o,L[i],hA,e,List.getElem_mem _,hc i _ e⟩
theorem Sr.none_ (W:World) (A:Option Addr) (c:Nat):Sr W A 0 c []:=⟨rfl,Nat.zero_le _,.inl rfl,fun r hr=>by cases hr⟩
end
theorem all_false {α:Type} {L:List α} {f:α→Bool} {i:Nat} {r:α} (h:L[i]?=some r) (hf:f r=false):L.all f=false:=by
 rw[List.all_eq_false];exact⟨r,List.mem_of_getElem? h,by rw[hf];decide⟩
theorem all_true {α:Type} {L:List α} {f:α→Bool} (h:∀ j r,j<L.length→L[j]?=some r→f r=true):L.all f=true:=by
 rw[List.all_eq_true];intro r hr;obtain⟨j,hj⟩:=List.getElem?_of_mem hr
 exact h j r (List.getElem?_eq_some_iff.1 hj).1 hj
theorem lightList_any (L:List Rt) (A:Option Addr) (n c k:Nat) (w:World) (h:Sr w A n c L) (hk:k≤1000) (hm:∀ r∈L,r.n≤9223372036854775807∧r.m≤9223372036854775807) (hn:n≤9223372036854775807):Calls Tryz.prog 7 #[.slice A n c,.int .i64 k] w fun e w'=>e=.returned (.bool (decide (n≤k)&&L.all (fun r=>lightB r.n r.m)))∧Below w.heap.size w w':=by
 replace h:=Lib.hid h;replace hm:=Lib.hid hm
 by_cases hnk:n≤k
 ·rw[decide_eq_true hnk,Bool.true_and]
  have g0:¬ k<n:=by omega
  have hb:=Lib.hid (show n≤1000 by omega)
  clear hnk hk hn;go_enter Tryz.func7,Tryz.ntmps7;go_wp2
  go_loopw [5] (fun iv wr=>∃ (i:Nat),i≤n∧iv=.int .i64 i∧(∀ j r,j<i→L[j]?=some r→lightB r.n r.m=true)∧Below w.heap.size w wr) (fun iv _=>n-(intOf iv).toNat)
  case atStart=>exact⟨0,Nat.zero_le _,rfl,fun j r hj=>absurd hj (Nat.not_lt_zero _),Below.refl _ _⟩
  case round=>
   obtain⟨i,hin,rfl,hall,B⟩:=hrel
   by_cases hlt:i<n
   ·obtain⟨b,o,r,rfl,hr,hrm,e0,e1,e2⟩:=(h.out.bel B).get hlt
    have hL:=fun W=>lightR_any r.b r.A r.n r.c r.D r.m r.d W (hm.out r hrm).1 (hm.out r hrm).2
    have hlh:=Lib.hid hlt;have g1:(i:Int)<(n:Int):=by omega
    have g2:(0:Int)≤(i:Int):=by omega
    replace B:=Lib.hid B;replace hall:=Lib.hid hall;replace hr:=Lib.hid hr;clear hlt hin hrm
    cases hx:lightB r.n r.m
    ·rw[hx] at hL
     replace hL:=Lib.hid hL;replace hx:=Lib.hid hx
     go_wp2_with fail
     refine (hL.out _).mono ?_
     rintro e w1 ⟨rfl,bb⟩;clear e0 e1 e2;have T:=Lib.hid (B.out.trans (bb.mono B.out.size));clear bb B;go_wp2;go_ret;exact⟨by rw[all_false hr.out (f:=fun r=>lightB r.n r.m) hx.out];rfl,T.out⟩
    ·rw[hx] at hL
     replace hL:=Lib.hid hL;replace hx:=Lib.hid hx
     go_wp2_with fail
     refine (hL.out _).mono ?_
     rintro e w1 ⟨rfl,bb⟩;clear e0 e1 e2;have T:=Lib.hid (B.out.trans (bb.mono B.out.size));clear bb B;have hlt:=hlh.out;have hbb:=hb.out;go_wp2
     go_roundw
     case rel=>exact⟨i+1,by omega,by go_num,fun j r' hj hjr=>(by rcases Nat.lt_or_ge j i with h1 | h1;exact hall.out j r' h1 hjr;obtain rfl:j=i:=(by omega);rw[hr.out] at hjr;injection hjr with hjr;subst hjr;exact hx.out),T.out⟩
     case measure=>simp[intOf];omega
   ·obtain rfl:i=n:=by omega
    have hfin:L.all (fun r=>lightB r.n r.m)=true:=all_true (fun j r hj hjr=>hall j r (by rw[←h.out.len];exact hj) hjr)
    replace hfin:=Lib.hid hfin;clear hall hin;replace B:=Lib.hid B;go_wp2;go_ret;exact⟨by rw[hfin.out];rfl,B.out⟩
 ·rw[decide_eq_false hnk,Bool.false_and]
  have g0:k<n:=by omega
  clear hnk hk hn;go_enter Tryz.func7,Tryz.ntmps7;go_wp2;go_ret;exact⟨rfl,Below.refl _ _⟩
end Go.Proofs.YtfnkpfbobdmieaaGreat
namespace Go.Proofs.YtfnkpfbobdmieaaGreat
open Go.RowKit RQ
structure Ro where
 A:Option Addr
 n:Nat
 c:Nat
 L:List Rt
structure Mr (W:World) (A:Option Addr) (n c:Nat) (M:List Ro):Prop where
 len:M.length=n
 cap:n≤c
 mem:n=0∨∃ b o,A=some ⟨b,o,none⟩∧b<W.heap.size∧∀ (i:Nat) (r:Ro),M[i]?=some r→W.cell? ⟨b,o+i,none⟩=some (.slice r.A r.n r.c)
 rd:∀ r∈M,Sr W r.A r.n r.c r.L
section
variable {W W':World} {A:Option Addr} {n c:Nat} {M:List Ro}
theorem Mr.bel (h:Mr W A n c M) (hb:Below W.heap.size W W'):Mr W' A n c M:=by
 refine⟨h.len,h.cap,?_,fun r hr=>(h.rd r hr).bel hb⟩
 rcases h.mem with h0 | ⟨b,o,hA,hlt,hc⟩
 ·exact .inl h0
 ·exact .inr ⟨b,o,hA,Nat.lt_of_lt_of_le hlt hb.size,fun i r hi=>(World.cell?_of_block (hb.block b hlt)).trans (hc i r hi)⟩
theorem Mr.get (h:Mr W A n c M) {i:Nat} (hi:i<n):∃ b o r,A=some ⟨b,o,none⟩∧M[i]?=some r∧r∈M∧W.cell? ⟨b,o+i,none⟩=some (.slice r.A r.n r.c):=by
 have hl:=h.len
 rcases h.mem with h0 | ⟨b,o,hA,_,hc⟩
 ·omega
 ·have e:M[i]?=some M[i]:=List.getElem?_eq_getElem (by omega)
  exact⟨b,o,M[i],hA,e,List.getElem_mem _,hc i _ e⟩
end
def lL (L:List Rt):Bool:=L.all (fun r=>lightB r.n r.m)
def inL (L:List Rt):Prop:=∀ r∈L,r.n≤9223372036854775807∧r.m≤9223372036854775807
end Go.Proofs.YtfnkpfbobdmieaaGreat
namespace Go.Proofs.YtfnkpfbobdmieaaGreat
open Go.RowKit RQ
def colM (M:List Ro):Nat:=(M.map (·.n)).headD 0
def rowM (k:Nat) (r:Ro):Bool:=decide (1≤r.n)&&decide (r.n≤96)&&decide (r.n=k)
def wfM (M:List Ro):Bool:=decide (M.length≤96)&&M.all (rowM (colM M))
theorem headM {M:List Ro} {r:Ro} (h:M[0]?=some r):colM M=r.n:=by
 unfold colM
 cases M with
 | nil=>simp at h
 | cons a l=>simp at h;subst h;rfl
theorem wf_any (M:List Ro) (A:Option Addr) (n c:Nat) (w:World) (h:Mr w A n c M) (hm:∀ r∈M,r.n≤9223372036854775807) (hn:n≤9223372036854775807):Calls Tryz.prog 37 #[.slice A n c] w fun e w'=>e=.returned (.bool (wfM M))∧Below w.heap.size w w':=by
 have hlen:=h.len;unfold wfM;rw[hlen];replace h:=Lib.hid h;replace hm:=Lib.hid hm
 by_cases hnk:n≤96
 ·rw[decide_eq_true hnk,Bool.true_and]
  have g0:¬ 96<n:=by omega
  have hb:=Lib.hid hnk;replace hlen:=Lib.hid hlen;clear hnk hn;go_enter Tryz.func37,Tryz.ntmps37;go_wp2
  go_loopw [10] (fun iv wr=>∃ (i:Nat),i≤n∧iv=.int .i64 i∧(∀ j r,j<i→M[j]?=some r→(rowM (colM M) r)=true)∧Below w.heap.size w wr) (fun iv _=>n-(intOf iv).toNat)
  case atStart=>exact⟨0,Nat.zero_le _,rfl,fun j r hj=>absurd hj (Nat.not_lt_zero _),Below.refl _ _⟩
  case round=>
   obtain⟨i,hin,rfl,hall,B⟩:=hrel
   by_cases hlt:i<n
   ·obtain⟨b,o,r,rfl,hr,hrm,e0⟩:=(h.out.bel B).get hlt
    obtain⟨b',o',r0,hbo,hr0,hrm0,e1⟩:=(h.out.bel B).get (show 0<n by omega)
    obtain⟨rfl,rfl⟩:b=b'∧o=o':=by simpa using hbo
    have hh:=headM hr0;have hlh:=Lib.hid hlt;have g1:(i:Int)<(n:Int):=by omega
    have g2:(0:Int)≤(i:Int):=by omega
    have g3:0<n:=by omega
    rw[Nat.add_zero] at e1;replace B:=Lib.hid B;replace hall:=Lib.hid hall;replace hr:=Lib.hid hr;have hrn:=hm.out r hrm;have hrn0:=hm.out r0 hrm0;clear hin hrm hrm0 hr0 hbo
    by_cases h1:r.n=0
    ·have hx:=Lib.hid (show (rowM (colM M) r)=false by unfold rowM;rw[h1];rfl)
     replace hh:=Lib.hid hh;clear hlt;go_wp2;go_ret;exact⟨by rw[all_false hr.out (f:=rowM (colM M)) hx.out];rfl,B.out⟩
    ·by_cases h2:96<r.n
     ·have hx:=Lib.hid (show (rowM (colM M) r)=false by unfold rowM;rw[decide_eq_false (show ¬ r.n≤96 by omega),Bool.and_false,Bool.false_and])
      replace hh:=Lib.hid hh;clear hlt;go_wp2;go_ret;exact⟨by rw[all_false hr.out (f:=rowM (colM M)) hx.out];rfl,B.out⟩
     ·have f1:((r.n:Int)==0)=false:=beq_eq_false_iff_ne.2 (by omega)
      have f2:decide (96<(r.n:Int))=false:=decide_eq_false (by omega)
      by_cases h3:r.n=r0.n
      ·have hx:=Lib.hid (show (rowM (colM M) r)=true by unfold rowM;rw[hh,decide_eq_true (show 1≤r.n by omega),decide_eq_true (show r.n≤96 by omega),decide_eq_true h3];rfl)
       have f3:((r.n:Int)==(r0.n:Int))=true:=beq_iff_eq.2 (by omega)
       replace hh:=Lib.hid hh;clear h1 h2 h3 hrn hrn0;clear hlt;have hlt:=hlh.out;have hbb:=hb.out;go_wp2
       go_roundw
       case rel=>exact⟨i+1,by omega,by go_num,fun j r' hj hjr=>(by rcases Nat.lt_or_ge j i with h1 | h1;exact hall.out j r' h1 hjr;obtain rfl:j=i:=(by omega);rw[hr.out] at hjr;injection hjr with hjr;subst hjr;exact hx.out),B.out⟩
       case measure=>simp[intOf];omega
      ·have hx:=Lib.hid (show (rowM (colM M) r)=false by unfold rowM;rw[hh,decide_eq_false h3,Bool.and_false])
       have f3:((r.n:Int)==(r0.n:Int))=false:=beq_eq_false_iff_ne.2 (by omega)
       clear h1 h2 h3 hrn hrn0;replace hh:=Lib.hid hh;clear hlt;go_wp2;go_ret;exact⟨by rw[all_false hr.out (f:=rowM (colM M)) hx.out];rfl,B.out⟩
   ·obtain rfl:i=n:=by omega
    have hfin:=Lib.hid (show M.all (rowM (colM M))=true from all_true (fun j r hj hjr=>hall j r (by rw[←hlen.out];exact hj) hjr))
    clear hall hin;replace B:=Lib.hid B;go_wp2;go_ret;exact⟨by rw[hfin.out];rfl,B.out⟩
 ·rw[decide_eq_false hnk,Bool.false_and]
  have g0:96<n:=by omega
  clear hnk hn;go_enter Tryz.func37,Tryz.ntmps37;go_wp2;go_ret;exact⟨rfl,Below.refl _ _⟩
theorem cols_any (M:List Ro) (A:Option Addr) (n c:Nat) (w:World) (h:Mr w A n c M):Calls Tryz.prog 38 #[.slice A n c] w fun e w'=>e=.returned (.int .i64 (colM M))∧Below w.heap.size w w':=by
 have hlen:=h.len
 rcases Nat.eq_zero_or_pos n with h0 | h0
 ·subst h0
  obtain rfl:M=[]:=List.length_eq_zero_iff.1 hlen;replace h:=Lib.hid h;go_enter Tryz.func38,Tryz.ntmps38;go_wp2;go_ret;exact⟨rfl,Below.refl _ _⟩
 ·obtain⟨b,o,r,rfl,hr,hrm,e0⟩:=h.get h0
  rw[headM hr];rw[Nat.add_zero] at e0;have g1:¬ n=0:=by omega
  clear h hlen hr hrm;go_enter Tryz.func38,Tryz.ntmps38;go_wp2;go_ret;exact⟨rfl,Below.refl _ _⟩
theorem rcols_any (M:List Ro) (A:Option Addr) (n c:Nat) (w:World) (h:Mr w A n c M):Calls Tryz.prog 41 #[.slice A n c] w fun e w'=>e=.returned (.int .i64 (colM M))∧Below w.heap.size w w':=by
 have hlen:=h.len
 rcases Nat.eq_zero_or_pos n with h0 | h0
 ·subst h0
  obtain rfl:M=[]:=List.length_eq_zero_iff.1 hlen;replace h:=Lib.hid h;go_enter Tryz.func41,Tryz.ntmps41;go_wp2;go_ret;exact⟨rfl,Below.refl _ _⟩
 ·obtain⟨b,o,r,rfl,hr,hrm,e0⟩:=h.get h0
  rw[headM hr];rw[Nat.add_zero] at e0;have g1:¬ n=0:=by omega
  clear h hlen hr hrm;go_enter Tryz.func41,Tryz.ntmps41;go_wp2;go_ret;exact⟨rfl,Below.refl _ _⟩
end Go.Proofs.YtfnkpfbobdmieaaGreat
namespace Go.Proofs.YtfnkpfbobdmieaaGreat
open Go.RowKit RQ
def Rt.can (r:Rt):Prop:=r.b=ng r.q.num∧r.x=limbs r.q.num.natAbs∧r.y=dn r.q∧Rs r.q 9000000
theorem sameE (r s:Rt) (hr:r.can) (hs:s.can) (hq:r.q=s.q) (W:World) (h1:r.raw W) (h2:s.raw W):Calls Tryz.prog 29 #[.agg #[.bool r.b,.slice r.A r.n r.c,.slice r.D r.m r.d],.agg #[.bool s.b,.slice s.A s.n s.c,.slice s.D s.m s.d]] W fun e w'=>e=.returned (.bool true)∧Below W.heap.size W w':=by
 obtain⟨b,A,n,c,x,D,m,d,y,q⟩:=r;obtain⟨b',A',n',c',x',D',m',d',y',q'⟩:=s;obtain⟨e1,e2,e3,e4⟩:=hr;obtain⟨f1,f2,f3,f4⟩:=hs
 dsimp only at e1 e2 e3 e4 f1 f2 f3 f4 hq
 subst e1;subst e2;subst e3;subst f1;subst f2;subst f3;subst hq;exact sameT q q rfl _ _ _ _ _ _ _ _ _ _ _ _ W ⟨h1.1,h1.2⟩ ⟨h2.1,h2.2⟩ (e4.mono (by decide)) (e4.mono (by decide))
theorem map_get {α β:Type} {L L':List α} {f:α→β} (h:L.map f=L'.map f) {i:Nat} {r s:α} (hr:L[i]?=some r) (hs:L'[i]?=some s):f r=f s:=by
 have:(L.map f)[i]?=(L'.map f)[i]?:=by rw[h]
 rw[List.getElem?_map,List.getElem?_map,hr,hs] at this
 exact Option.some.inj this
theorem sameList_any (L L':List Rt) (A:Option Addr) (n c:Nat) (A':Option Addr) (n' c':Nat) (w:World) (h:Sr w A n c L) (h':Sr w A' n' c' L') (ca:∀ r∈L,r.can) (cb:∀ r∈L',r.can) (he:L.map (·.q)=L'.map (·.q)) (hk:n≤1000):Calls Tryz.prog 18 #[.slice A n c,.slice A' n' c'] w fun e w'=>e=.returned (.bool true)∧Below w.heap.size w w':=by
 obtain rfl:n=n':=by have:=congrArg List.length he;rw[List.length_map,List.length_map,h.len,h'.len] at this;exact this
 replace h:=Lib.hid h;replace h':=Lib.hid h';replace ca:=Lib.hid ca;replace cb:=Lib.hid cb;replace he:=Lib.hid he;have hb:=Lib.hid hk;clear hk;go_enter Tryz.func18,Tryz.ntmps18;go_wp2
 go_loopw [5] (fun iv wr=>∃ (i:Nat),i≤n∧iv=.int .i64 i∧Below w.heap.size w wr) (fun iv _=>n-(intOf iv).toNat)
 case atStart=>exact⟨0,Nat.zero_le _,rfl,Below.refl _ _⟩
 case round=>
  obtain⟨i,hin,rfl,B⟩:=hrel
  by_cases hlt:i<n
  ·obtain⟨b,o,r,rfl,hr,hrm,e0,e1,e2⟩:=(h.out.bel B.drew).get hlt
   obtain⟨b',o',s,rfl,hs,hsm,f0,f1,f2⟩:=(h'.out.bel B.drew).get hlt;have hS:=Lib.hid (fun W h1 h2=>sameE r s (ca.out r hrm) (cb.out s hsm) (map_get he.out hr hs) W h1 h2)
   have R1:=Lib.hid ((h.out.bel B.drew).rd r hrm);have R2:=Lib.hid ((h'.out.bel B.drew).rd s hsm);have hlh:=Lib.hid hlt;have g1:(i:Int)<(n:Int):=by omega
   have g2:(0:Int)≤(i:Int):=by omega
   have Bd:=Lib.hid B.drew;clear hlt hin hrm hsm hr hs B;go_wp2
   go_region_with (go_at_call 29;refine (hS.out _ R1.out R2.out).mono ?_;rintro e w1 ⟨rfl,bb⟩)
   all_goals
    have T:=Lib.hid (Bd.out.trans (bb.mono Bd.out.size));clear bb Bd e0 e1 e2 f0 f1 f2 R1 R2;have hlt:=hlh.out;have hbb:=hb.out;go_wp2
    go_roundw
    case rel=>exact⟨i+1,by omega,by go_num,T.out⟩
    case measure=>simp[intOf];omega
  ·obtain rfl:i=n:=by omega
   clear hin;replace B:=Lib.hid B;go_wp2;go_ret;exact⟨rfl,B.out⟩
end Go.Proofs.YtfnkpfbobdmieaaGreat
namespace Go.Proofs.YtfnkpfbobdmieaaGreat
open Go.RowKit RQ
def canM (M:List Ro):Prop:=∀ r∈M,r.n≤1000∧∀ x∈r.L,x.can
def qM (M:List Ro):List (List Rat):=M.map fun r=>r.L.map (·.q)
theorem sameLists_any (L L':List Ro) (A:Option Addr) (n c:Nat) (A':Option Addr) (n' c':Nat) (w:World) (h:Mr w A n c L) (h':Mr w A' n' c' L') (ca:canM L) (cb:canM L') (he:qM L=qM L') (hk:n≤1000):Calls Tryz.prog 17 #[.slice A n c,.slice A' n' c'] w fun e w'=>e=.returned (.bool true)∧Below w.heap.size w w':=by
 obtain rfl:n=n':=by have:=congrArg List.length he;unfold qM at this;rw[List.length_map,List.length_map,h.len,h'.len] at this;exact this
 replace h:=Lib.hid h;replace h':=Lib.hid h';replace ca:=Lib.hid ca;replace cb:=Lib.hid cb;replace he:=Lib.hid he;have hb:=Lib.hid hk;clear hk;go_enter Tryz.func17,Tryz.ntmps17;go_wp2
 go_loopw [5] (fun iv wr=>∃ (i:Nat),i≤n∧iv=.int .i64 i∧Below w.heap.size w wr) (fun iv _=>n-(intOf iv).toNat)
 case atStart=>exact⟨0,Nat.zero_le _,rfl,Below.refl _ _⟩
 case round=>
  obtain⟨i,hin,rfl,B⟩:=hrel
  by_cases hlt:i<n
  ·obtain⟨b,o,r,rfl,hr,hrm,e0⟩:=(h.out.bel B.drew).get hlt
   obtain⟨b',o',s,rfl,hs,hsm,f0⟩:=(h'.out.bel B.drew).get hlt;have hS:=Lib.hid (fun W h1 h2=>sameList_any r.L s.L r.A r.n r.c s.A s.n s.c W h1 h2 (ca.out r hrm).2 (cb.out s hsm).2 (map_get (f:=fun r:Ro=>r.L.map (fun z:Rt=>z.q)) (L:=L) (L':=L') he.out hr hs) (ca.out r hrm).1)
   have R1:=Lib.hid ((h.out.bel B.drew).rd r hrm);have R2:=Lib.hid ((h'.out.bel B.drew).rd s hsm);have hlh:=Lib.hid hlt;have g1:(i:Int)<(n:Int):=by omega
   have g2:(0:Int)≤(i:Int):=by omega
   have Bd:=Lib.hid B.drew;clear hlt hin hrm hsm hr hs B;go_wp2
   go_region_with (go_at_call 18;refine (hS.out _ R1.out R2.out).mono ?_;rintro e w1 ⟨rfl,bb⟩)
   all_goals
    have T:=Lib.hid (Bd.out.trans (bb.mono Bd.out.size));clear bb Bd e0 f0 R1 R2;have hlt:=hlh.out;have hbb:=hb.out;go_wp2
    go_roundw
    case rel=>exact⟨i+1,by omega,by go_num,T.out⟩
    case measure=>simp[intOf];omega
  ·obtain rfl:i=n:=by omega
   clear hin;replace B:=Lib.hid B;go_wp2;go_ret;exact⟨rfl,B.out⟩
end Go.Proofs.YtfnkpfbobdmieaaGreat
namespace Go.Proofs.YtfnkpfbobdmieaaGreat
open Go.RowKit RQ
theorem Mr.get' {W:World} {A:Option Addr} {n c:Nat} {M:List Ro} (h:Mr W A n c M) {i:Nat} (hi:i<n):∃ b o r,A=some ⟨b,o,none⟩∧b<W.heap.size∧M[i]?=some r∧r∈M∧W.cell? ⟨b,o+i,none⟩=some (.slice r.A r.n r.c):=by
 have hl:=h.len
 rcases h.mem with h0 | ⟨b,o,hA,hb,hc⟩
 ·omega
 ·have e:M[i]?=some M[i]:=List.getElem?_eq_getElem (by omega)
  exact⟨b,o,M[i],hA,hb,e,List.getElem_mem _,hc i _ e⟩
theorem rwf_any (M:List Ro) (A:Option Addr) (n c:Nat) (w:World) (h:Mr w A n c M) (hm:∀ r∈M,r.n≤9223372036854775807) (hn:n≤9223372036854775807):Calls Tryz.prog 40 #[.slice A n c] w fun e w'=>e=.returned (.bool (wfM M))∧Below w.heap.size w w':=by
 have hlen:=h.len;unfold wfM;rw[hlen];replace h:=Lib.hid h;replace hm:=Lib.hid hm
 by_cases hnk:n≤96
 ·rw[decide_eq_true hnk,Bool.true_and]
  have g0:¬ 96<n:=by omega
  have hb:=Lib.hid hnk;replace hlen:=Lib.hid hlen;clear hnk hn;go_enter Tryz.func40,Tryz.ntmps40;go_wp2
  go_loopw [3] (fun iv wr=>∃ (i:Nat),i≤n∧iv=.int .i64 i∧(∀ j r,j<i→M[j]?=some r→rowM (colM M) r=true)∧St w wr [] []) (fun iv _=>n-(intOf iv).toNat)
  case atStart=>exact⟨0,Nat.zero_le _,rfl,fun j r hj=>absurd hj (Nat.not_lt_zero _),St.new w⟩
  case round=>
   obtain⟨i,hin,rfl,hall,S⟩:=hrel
   by_cases hlt:i<n
   ·obtain⟨b,o,r,rfl,hbk,hr,hrm,e0⟩:=h.out.get' hlt
    obtain⟨b',o',r0,hbo,_,hr0,hrm0,e1⟩:=h.out.get' (show 0<n by omega)
    obtain⟨rfl,rfl⟩:b=b'∧o=o':=by simpa using hbo
    have hh:=headM hr0;have hlh:=Lib.hid hlt;have g1:(i:Int)<(n:Int):=by omega
    have g2:(0:Int)≤(i:Int):=by omega
    have g3:¬ n=0:=by omega
    rw[Nat.add_zero] at e1;have e0w:=Lib.hid e0;have e1w:=Lib.hid e1;replace hbk:=Lib.hid hbk;replace S:=Lib.hid S;replace hall:=Lib.hid hall;replace hr:=Lib.hid hr;have hrn:=hm.out r hrm;have hrn0:=hm.out r0 hrm0;clear hrm hrm0 hr0 hbo e0 e1
    by_cases h1:r.n=0
    ·have v5:decide ((r.n:Int)<1)=true:=decide_eq_true (by omega)
     have v12:True:=trivial;have v24:True:=trivial;have hx:=Lib.hid (show (rowM (colM M) r)=false by unfold rowM;rw[h1];rfl)
     replace hh:=Lib.hid hh;clear hlt hin h1 hrn hrn0;go_upto_region 6 with fail
     refine RW.begin (Z:=[]) (S:=(fun W=>W.cell? ⟨b,o+i,none⟩=some (.slice r.A r.n r.c)∧W.cell? ⟨b,o,none⟩=some (.slice r0.A r0.n r0.c))) (by kernel_rfl) ?_ S.out ?_
     ·exact⟨by kernel_rfl,zis_nil,by decide,by decide,nol_nil,(fun _ _ h=>⟨(World.cell?_of_block (h.bel.block b hbk.out)).trans e0w,(World.cell?_of_block (h.bel.block b hbk.out)).trans e1w⟩)⟩
     intro hzk;clear S;refine RW.t (i:=0) (v:=.slice (some ⟨b,o,none⟩) n c) (some 13) at0 (hy:=fun _ _=>by kernel_rfl) (h:=?_)
     refine RW.t (i:=1) (v:=.int .i64 i) (some 14) at1 (hy:=fun _ _=>by kernel_rfl) (h:=?_)
     refine RW.t (i:=2) (v:=.pointer (some ⟨b,o+i,none⟩)) (some 15) at2 (hy:=fun _ _=>by go_simp) (h:=?_)
     refine RW.t (i:=3) (v:=.slice r.A r.n r.c) (some 16) at3 (hy:=fun W hS=>by (have k0:=hS.1;clear hS;go_simp)) (h:=?_)
     refine RW.t (i:=4) (v:=.int .i64 r.n) (some 17) at4 (hy:=fun _ _=>by go_simp) (h:=?_)
     refine RW.t (i:=5) (v:=.bool true) (some 18) at5 (hy:=fun _ _=>by go_simp) (h:=?_)
     refine RW.t (i:=6) (v:=.bool true) (some 19) at6 (hy:=fun _ _=>by kernel_rfl) (h:=?_)
     refine RW.u (i:=7) (some 20) at7 (h:=?_)
     refine RW.u (i:=8) (some 21) at8 (h:=?_)
     refine RW.u (i:=9) (some 22) at9 (h:=?_)
     refine RW.u (i:=10) (some 23) at10 (h:=?_)
     refine RW.u (i:=11) (some 24) at11 (h:=?_)
     refine RW.u (i:=12) (some 25) at12 (h:=?_)
     refine RW.t (i:=13) (v:=.bool true) (some 26) at13 (hy:=fun _ _=>by kernel_rfl) (h:=?_)
     refine RW.t (i:=14) (v:=.bool true) (some 27) at14 (hy:=fun _ _=>by kernel_rfl) (h:=?_)
     refine RW.u (i:=15) (some 28) at15 (h:=?_)
     refine RW.u (i:=16) (some 29) at16 (h:=?_)
     refine RW.u (i:=17) (some 30) at17 (h:=?_)
     refine RW.u (i:=18) (some 31) at18 (h:=?_)
     refine RW.u (i:=19) (some 32) at19 (h:=?_)
     refine RW.u (i:=20) (some 33) at20 (h:=?_)
     refine RW.u (i:=21) (some 34) at21 (h:=?_)
     refine RW.u (i:=22) (some 35) at22 (h:=?_)
     refine RW.u (i:=23) (some 36) at23 (h:=?_)
     refine RW.u (i:=24) (some 37) at24 (h:=?_)
     refine RW.t (i:=25) (v:=.bool true) (some 38) at25 (hy:=fun _ _=>by kernel_rfl) (h:=?_)
     refine RW.tail hzk.out (by kernel_rfl) ?_
     intro gs w6 hgs hS S;obtain rfl:=len0 hgs;clear hS hgs hzk;simp only[mark,fill,Act.put,sZ0,sZ1,sZ2];replace S:=Lib.hid S;refine Wk.done (by kernel_rfl) ?_
     go_simp
     replace S:=S.out;have S:St w _ [] []:=S;replace S:=Lib.hid S;replace S:=S.out;replace S:=Lib.hid S;go_wp2;go_ret;exact⟨by rw[all_false hr.out (f:=rowM (colM M)) hx.out];rfl,S.out.bel⟩
    ·have v5:decide ((r.n:Int)<1)=false:=decide_eq_false (by omega)
     by_cases h2:96<r.n
     ·have v12:decide (96<(r.n:Int))=true:=decide_eq_true (by omega)
      have hx:=Lib.hid (show (rowM (colM M) r)=false by unfold rowM;rw[decide_eq_false (show ¬ r.n≤96 by omega),Bool.and_false,Bool.false_and])
      replace hh:=Lib.hid hh;clear hlt hin h1 h2 hrn hrn0;go_upto_region 6 with fail
      refine RW.begin (Z:=[]) (S:=(fun W=>W.cell? ⟨b,o+i,none⟩=some (.slice r.A r.n r.c)∧W.cell? ⟨b,o,none⟩=some (.slice r0.A r0.n r0.c))) (by kernel_rfl) ?_ S.out ?_
      ·exact⟨by kernel_rfl,zis_nil,by decide,by decide,nol_nil,(fun _ _ h=>⟨(World.cell?_of_block (h.bel.block b hbk.out)).trans e0w,(World.cell?_of_block (h.bel.block b hbk.out)).trans e1w⟩)⟩
      intro hzk;clear S;refine RW.t (i:=0) (v:=.slice (some ⟨b,o,none⟩) n c) (some 13) at0 (hy:=fun _ _=>by kernel_rfl) (h:=?_)
      refine RW.t (i:=1) (v:=.int .i64 i) (some 14) at1 (hy:=fun _ _=>by kernel_rfl) (h:=?_)
      refine RW.t (i:=2) (v:=.pointer (some ⟨b,o+i,none⟩)) (some 15) at2 (hy:=fun _ _=>by go_simp) (h:=?_)
      refine RW.t (i:=3) (v:=.slice r.A r.n r.c) (some 16) at3 (hy:=fun W hS=>by (have k0:=hS.1;clear hS;go_simp)) (h:=?_)
      refine RW.t (i:=4) (v:=.int .i64 r.n) (some 17) at4 (hy:=fun _ _=>by go_simp) (h:=?_)
      refine RW.t (i:=5) (v:=.bool false) (some 18) at5 (hy:=fun _ _=>by go_simp) (h:=?_)
      refine RW.t (i:=6) (v:=.bool false) (some 19) at6 (hy:=fun _ _=>by kernel_rfl) (h:=?_)
      refine RW.t (i:=7) (v:=.slice (some ⟨b,o,none⟩) n c) (some 20) at7 (hy:=fun _ _=>by kernel_rfl) (h:=?_)
      refine RW.t (i:=8) (v:=.int .i64 i) (some 21) at8 (hy:=fun _ _=>by kernel_rfl) (h:=?_)
      refine RW.t (i:=9) (v:=.pointer (some ⟨b,o+i,none⟩)) (some 22) at9 (hy:=fun _ _=>by go_simp) (h:=?_)
      refine RW.t (i:=10) (v:=.slice r.A r.n r.c) (some 23) at10 (hy:=fun W hS=>by (have k0:=hS.1;clear hS;go_simp)) (h:=?_)
      refine RW.t (i:=11) (v:=.int .i64 r.n) (some 24) at11 (hy:=fun _ _=>by go_simp) (h:=?_)
      refine RW.t (i:=12) (v:=.bool true) (some 25) at12 (hy:=fun _ _=>by go_simp) (h:=?_)
      refine RW.t (i:=13) (v:=.bool true) (some 26) at13 (hy:=fun _ _=>by kernel_rfl) (h:=?_)
      refine RW.t (i:=14) (v:=.bool true) (some 27) at14 (hy:=fun _ _=>by kernel_rfl) (h:=?_)
      refine RW.u (i:=15) (some 28) at15 (h:=?_)
      refine RW.u (i:=16) (some 29) at16 (h:=?_)
      refine RW.u (i:=17) (some 30) at17 (h:=?_)
      refine RW.u (i:=18) (some 31) at18 (h:=?_)
      refine RW.u (i:=19) (some 32) at19 (h:=?_)
      refine RW.u (i:=20) (some 33) at20 (h:=?_)
      refine RW.u (i:=21) (some 34) at21 (h:=?_)
      refine RW.u (i:=22) (some 35) at22 (h:=?_)
      refine RW.u (i:=23) (some 36) at23 (h:=?_)
      refine RW.u (i:=24) (some 37) at24 (h:=?_)
      refine RW.t (i:=25) (v:=.bool true) (some 38) at25 (hy:=fun _ _=>by kernel_rfl) (h:=?_)
      refine RW.tail hzk.out (by kernel_rfl) ?_
      intro gs w6 hgs hS S;obtain rfl:=len0 hgs;clear hS hgs hzk;simp only[mark,fill,Act.put,sZ0,sZ1,sZ2];replace S:=Lib.hid S;refine Wk.done (by kernel_rfl) ?_
      go_simp
      replace S:=S.out;have S:St w _ [] []:=S;replace S:=Lib.hid S;replace S:=S.out;replace S:=Lib.hid S;go_wp2;go_ret;exact⟨by rw[all_false hr.out (f:=rowM (colM M)) hx.out];rfl,S.out.bel⟩
     ·have v12:decide (96<(r.n:Int))=false:=decide_eq_false (by omega)
      by_cases h3:r.n=r0.n
      ·have v24:=Lib.hid (show (r.n:Int)=(r0.n:Int) by omega)
       have hx:=Lib.hid (show (rowM (colM M) r)=true by unfold rowM;rw[hh,decide_eq_true (show 1≤r.n by omega),decide_eq_true (show r.n≤96 by omega),decide_eq_true h3];rfl)
       replace hh:=Lib.hid hh;clear hlt hin h1 h2 h3 hrn hrn0;go_upto_region 6 with fail
       refine RW.begin (Z:=[]) (S:=(fun W=>W.cell? ⟨b,o+i,none⟩=some (.slice r.A r.n r.c)∧W.cell? ⟨b,o,none⟩=some (.slice r0.A r0.n r0.c))) (by kernel_rfl) ?_ S.out ?_
       ·exact⟨by kernel_rfl,zis_nil,by decide,by decide,nol_nil,(fun _ _ h=>⟨(World.cell?_of_block (h.bel.block b hbk.out)).trans e0w,(World.cell?_of_block (h.bel.block b hbk.out)).trans e1w⟩)⟩
       intro hzk;clear S;refine RW.t (i:=0) (v:=.slice (some ⟨b,o,none⟩) n c) (some 13) at0 (hy:=fun _ _=>by kernel_rfl) (h:=?_)
       refine RW.t (i:=1) (v:=.int .i64 i) (some 14) at1 (hy:=fun _ _=>by kernel_rfl) (h:=?_)
       refine RW.t (i:=2) (v:=.pointer (some ⟨b,o+i,none⟩)) (some 15) at2 (hy:=fun _ _=>by go_simp) (h:=?_)
       refine RW.t (i:=3) (v:=.slice r.A r.n r.c) (some 16) at3 (hy:=fun W hS=>by (have k0:=hS.1;clear hS;go_simp)) (h:=?_)
       refine RW.t (i:=4) (v:=.int .i64 r.n) (some 17) at4 (hy:=fun _ _=>by go_simp) (h:=?_)
       refine RW.t (i:=5) (v:=.bool false) (some 18) at5 (hy:=fun _ _=>by go_simp) (h:=?_)
       refine RW.t (i:=6) (v:=.bool false) (some 19) at6 (hy:=fun _ _=>by kernel_rfl) (h:=?_)
       refine RW.t (i:=7) (v:=.slice (some ⟨b,o,none⟩) n c) (some 20) at7 (hy:=fun _ _=>by kernel_rfl) (h:=?_)
       refine RW.t (i:=8) (v:=.int .i64 i) (some 21) at8 (hy:=fun _ _=>by kernel_rfl) (h:=?_)
       refine RW.t (i:=9) (v:=.pointer (some ⟨b,o+i,none⟩)) (some 22) at9 (hy:=fun _ _=>by go_simp) (h:=?_)
       refine RW.t (i:=10) (v:=.slice r.A r.n r.c) (some 23) at10 (hy:=fun W hS=>by (have k0:=hS.1;clear hS;go_simp)) (h:=?_)
       refine RW.t (i:=11) (v:=.int .i64 r.n) (some 24) at11 (hy:=fun _ _=>by go_simp) (h:=?_)
       refine RW.t (i:=12) (v:=.bool false) (some 25) at12 (hy:=fun _ _=>by go_simp) (h:=?_)
       refine RW.t (i:=13) (v:=.bool false) (some 26) at13 (hy:=fun _ _=>by kernel_rfl) (h:=?_)
       refine RW.t (i:=14) (v:=.bool false) (some 27) at14 (hy:=fun _ _=>by kernel_rfl) (h:=?_)
       refine RW.t (i:=15) (v:=.slice (some ⟨b,o,none⟩) n c) (some 28) at15 (hy:=fun _ _=>by kernel_rfl) (h:=?_)
       refine RW.t (i:=16) (v:=.int .i64 i) (some 29) at16 (hy:=fun _ _=>by kernel_rfl) (h:=?_)
       refine RW.t (i:=17) (v:=.pointer (some ⟨b,o+i,none⟩)) (some 30) at17 (hy:=fun _ _=>by go_simp) (h:=?_)
       refine RW.t (i:=18) (v:=.slice r.A r.n r.c) (some 31) at18 (hy:=fun W hS=>by (have k0:=hS.1;clear hS;go_simp)) (h:=?_)
       refine RW.t (i:=19) (v:=.int .i64 r.n) (some 32) at19 (hy:=fun _ _=>by go_simp) (h:=?_)
       refine RW.t (i:=20) (v:=.slice (some ⟨b,o,none⟩) n c) (some 33) at20 (hy:=fun _ _=>by kernel_rfl) (h:=?_)
       refine RW.t (i:=21) (v:=.pointer (some ⟨b,o,none⟩)) (some 34) at21 (hy:=fun _ _=>by go_simp) (h:=?_)
       refine RW.t (i:=22) (v:=.slice r0.A r0.n r0.c) (some 35) at22 (hy:=fun W hS=>by (have k0:=hS.2;clear hS;go_simp)) (h:=?_)
       refine RW.t (i:=23) (v:=.int .i64 r0.n) (some 36) at23 (hy:=fun _ _=>by go_simp) (h:=?_)
       refine RW.t (i:=24) (v:=.bool false) (some 37) at24 (hy:=fun _ _=>by (have e24:=v24.out;go_simp)) (h:=?_)
       refine RW.t (i:=25) (v:=.bool false) (some 38) at25 (hy:=fun _ _=>by kernel_rfl) (h:=?_)
       refine RW.tail hzk.out (by kernel_rfl) ?_
       intro gs w6 hgs hS S;obtain rfl:=len0 hgs;clear hS hgs hzk;simp only[mark,fill,Act.put,sZ0,sZ1,sZ2];replace S:=Lib.hid S;refine Wk.done (by kernel_rfl) ?_
       go_simp
       replace S:=S.out;have S:St w _ [] []:=S;replace S:=Lib.hid S;replace S:=S.out;replace S:=Lib.hid S;have hlt:=hlh.out;have hbb:=hb.out;go_wp2
       go_roundw
       case rel=>exact⟨i+1,by omega,by go_num,fun j r' hj hjr=>(by rcases Nat.lt_or_ge j i with h1 | h1;exact hall.out j r' h1 hjr;obtain rfl:j=i:=(by omega);rw[hr.out] at hjr;injection hjr with hjr;subst hjr;exact hx.out),S.out⟩
       case measure=>simp[intOf];omega
      ·have v24:¬ (r.n:Int)=(r0.n:Int):=by omega
       have hx:=Lib.hid (show (rowM (colM M) r)=false by unfold rowM;rw[hh,decide_eq_false h3,Bool.and_false])
       replace hh:=Lib.hid hh;clear hlt hin h1 h2 h3 hrn hrn0;go_upto_region 6 with fail
       refine RW.begin (Z:=[]) (S:=(fun W=>W.cell? ⟨b,o+i,none⟩=some (.slice r.A r.n r.c)∧W.cell? ⟨b,o,none⟩=some (.slice r0.A r0.n r0.c))) (by kernel_rfl) ?_ S.out ?_
       ·exact⟨by kernel_rfl,zis_nil,by decide,by decide,nol_nil,(fun _ _ h=>⟨(World.cell?_of_block (h.bel.block b hbk.out)).trans e0w,(World.cell?_of_block (h.bel.block b hbk.out)).trans e1w⟩)⟩
       intro hzk;clear S;refine RW.t (i:=0) (v:=.slice (some ⟨b,o,none⟩) n c) (some 13) at0 (hy:=fun _ _=>by kernel_rfl) (h:=?_)
       refine RW.t (i:=1) (v:=.int .i64 i) (some 14) at1 (hy:=fun _ _=>by kernel_rfl) (h:=?_)
       refine RW.t (i:=2) (v:=.pointer (some ⟨b,o+i,none⟩)) (some 15) at2 (hy:=fun _ _=>by go_simp) (h:=?_)
       refine RW.t (i:=3) (v:=.slice r.A r.n r.c) (some 16) at3 (hy:=fun W hS=>by (have k0:=hS.1;clear hS;go_simp)) (h:=?_)
       refine RW.t (i:=4) (v:=.int .i64 r.n) (some 17) at4 (hy:=fun _ _=>by go_simp) (h:=?_)
       refine RW.t (i:=5) (v:=.bool false) (some 18) at5 (hy:=fun _ _=>by go_simp) (h:=?_)
       refine RW.t (i:=6) (v:=.bool false) (some 19) at6 (hy:=fun _ _=>by kernel_rfl) (h:=?_)
       refine RW.t (i:=7) (v:=.slice (some ⟨b,o,none⟩) n c) (some 20) at7 (hy:=fun _ _=>by kernel_rfl) (h:=?_)
       refine RW.t (i:=8) (v:=.int .i64 i) (some 21) at8 (hy:=fun _ _=>by kernel_rfl) (h:=?_)
       refine RW.t (i:=9) (v:=.pointer (some ⟨b,o+i,none⟩)) (some 22) at9 (hy:=fun _ _=>by go_simp) (h:=?_)
       refine RW.t (i:=10) (v:=.slice r.A r.n r.c) (some 23) at10 (hy:=fun W hS=>by (have k0:=hS.1;clear hS;go_simp)) (h:=?_)
       refine RW.t (i:=11) (v:=.int .i64 r.n) (some 24) at11 (hy:=fun _ _=>by go_simp) (h:=?_)
       refine RW.t (i:=12) (v:=.bool false) (some 25) at12 (hy:=fun _ _=>by go_simp) (h:=?_)
       refine RW.t (i:=13) (v:=.bool false) (some 26) at13 (hy:=fun _ _=>by kernel_rfl) (h:=?_)
       refine RW.t (i:=14) (v:=.bool false) (some 27) at14 (hy:=fun _ _=>by kernel_rfl) (h:=?_)
       refine RW.t (i:=15) (v:=.slice (some ⟨b,o,none⟩) n c) (some 28) at15 (hy:=fun _ _=>by kernel_rfl) (h:=?_)
       refine RW.t (i:=16) (v:=.int .i64 i) (some 29) at16 (hy:=fun _ _=>by kernel_rfl) (h:=?_)
       refine RW.t (i:=17) (v:=.pointer (some ⟨b,o+i,none⟩)) (some 30) at17 (hy:=fun _ _=>by go_simp) (h:=?_)
       refine RW.t (i:=18) (v:=.slice r.A r.n r.c) (some 31) at18 (hy:=fun W hS=>by (have k0:=hS.1;clear hS;go_simp)) (h:=?_)
       refine RW.t (i:=19) (v:=.int .i64 r.n) (some 32) at19 (hy:=fun _ _=>by go_simp) (h:=?_)
       refine RW.t (i:=20) (v:=.slice (some ⟨b,o,none⟩) n c) (some 33) at20 (hy:=fun _ _=>by kernel_rfl) (h:=?_)
       refine RW.t (i:=21) (v:=.pointer (some ⟨b,o,none⟩)) (some 34) at21 (hy:=fun _ _=>by go_simp) (h:=?_)
       refine RW.t (i:=22) (v:=.slice r0.A r0.n r0.c) (some 35) at22 (hy:=fun W hS=>by (have k0:=hS.2;clear hS;go_simp)) (h:=?_)
       refine RW.t (i:=23) (v:=.int .i64 r0.n) (some 36) at23 (hy:=fun _ _=>by go_simp) (h:=?_)
       refine RW.t (i:=24) (v:=.bool true) (some 37) at24 (hy:=fun _ _=>by go_simp) (h:=?_)
       refine RW.t (i:=25) (v:=.bool true) (some 38) at25 (hy:=fun _ _=>by kernel_rfl) (h:=?_)
       refine RW.tail hzk.out (by kernel_rfl) ?_
       intro gs w6 hgs hS S;obtain rfl:=len0 hgs;clear hS hgs hzk;simp only[mark,fill,Act.put,sZ0,sZ1,sZ2];replace S:=Lib.hid S;refine Wk.done (by kernel_rfl) ?_
       go_simp
       replace S:=S.out;have S:St w _ [] []:=S;replace S:=Lib.hid S;replace S:=S.out;replace S:=Lib.hid S;go_wp2;go_ret;exact⟨by rw[all_false hr.out (f:=rowM (colM M)) hx.out];rfl,S.out.bel⟩
   ·obtain rfl:i=n:=by omega
    have hfin:=Lib.hid (show M.all (rowM (colM M))=true from all_true (fun j r hj hjr=>hall j r (by rw[←hlen.out];exact hj) hjr))
    clear hall hin;replace S:=Lib.hid S;go_wp2;go_ret;exact⟨by rw[hfin.out];rfl,S.out.bel⟩
 ·rw[decide_eq_false hnk,Bool.false_and]
  have g0:96<n:=by omega
  clear hnk hn;go_enter Tryz.func40,Tryz.ntmps40;go_wp2;go_ret;exact⟨rfl,Below.refl _ _⟩
end Go.Proofs.YtfnkpfbobdmieaaGreat
namespace Go.Proofs.YtfnkpfbobdmieaaGreat
open Go.RowKit RQ
theorem map_getD {L:List Rt} {i:Nat} {r:Rt} (h:L[i]?=some r):(L.map (·.q)).getD i 0=r.q:=by
 rw[List.getD_eq_getElem?_getD,List.getElem?_map,h];rfl
end Go.Proofs.YtfnkpfbobdmieaaGreat
namespace Go.Proofs.YtfnkpfbobdmieaaGreat
open Go.RowKit RQ
abbrev Bk:=Nat×Array Value×Nat
abbrev Rdg:=Option Addr×Nat×Nat×List Nat
def Rt.cs (r:Rt):List Value:=[.bool r.b,.slice r.A r.n r.c,.slice r.D r.m r.d]
def csE (L:List Rt):List Value:=L.flatMap Rt.cs
def Rt.rdIn (r:Rt) (rs:List Rdg):Prop:=(r.A,r.n,r.c,r.x)∈rs∧(r.D,r.m,r.d,r.y)∈rs
def Rt.of (A:Option Addr) (n c:Nat) (D:Option Addr) (m d:Nat) (q:Rat):Rt:=⟨ng q.num,A,n,c,limbs q.num.natAbs,D,m,d,dn q,q⟩
theorem Rt.of_can (A:Option Addr) (n c:Nat) (D:Option Addr) (m d:Nat) {q:Rat} (h:Rs q 9000000):(Rt.of A n c D m d q).can:=⟨rfl,rfl,rfl,h⟩
def Ro.v (r:Ro):Value:=.slice r.A r.n r.c
theorem csE_len (L:List Rt):(csE L).length=L.length*3:=by
 induction L with
 | nil=>rfl
 | cons r l ih=>simp only[csE,List.flatMap_cons,List.length_append,List.length_cons] at ih ⊢;rw[ih];simp[Rt.cs];omega
theorem csE_app (L L':List Rt):csE (L++L')=csE L++csE L':=List.flatMap_append
theorem csE_get {L:List Rt} {i:Nat} {r:Rt} (h:L[i]?=some r):(csE L)[i*3]?=some (.bool r.b)∧(csE L)[i*3+1]?=some (.slice r.A r.n r.c)∧(csE L)[i*3+2]?=some (.slice r.D r.m r.d):=by
 induction L generalizing i with
 | nil=>simp at h
 | cons s l ih=>
  have e:csE (s::l)=s.cs++csE l:=rfl
  cases i with
  | zero=>
   simp at h
   subst h;rw[e];exact⟨rfl,rfl,rfl⟩
  | succ i=>
   obtain⟨h0,h1,h2⟩:=ih (i:=i) (by simpa using h)
   have k:∀ j,(s.cs++csE l)[(i+1)*3+j]?=(csE l)[i*3+j]?:=fun j=>by
    rw[List.getElem?_append_right (by simp[Rt.cs];omega)]
    congr 1
    simp[Rt.cs];omega
   rw[e];exact⟨(k 0).trans h0,(k 1).trans h1,(k 2).trans h2⟩
def Ro.In (r:Ro) (bs:List Bk) (rs:List Rdg):Prop:=
 r.L.length=r.n∧((r.A=none∧r.n=0∧r.c=0)∨∃ g cur,r.A=some ⟨g,0,none⟩∧r.n≤r.c∧(g,cur,45)∈bs∧cur.toList.take (r.n*3)=csE r.L)∧∀ x∈r.L,x.rdIn rs
section
variable {w W:World} {bs bs':List Bk} {rs rs':List Rdg} {r:Ro}
theorem Ro.In.mono (h:r.In bs rs) (hb:∀ p∈bs,p∈bs') (hr:∀ p∈rs,p∈rs'):r.In bs' rs':=by
 obtain⟨h1,h2,h3⟩:=h;refine⟨h1,?_,fun x hx=>⟨hr _ (h3 x hx).1,hr _ (h3 x hx).2⟩⟩
 rcases h2 with h2 | ⟨g,cur,k1,k2,k3,k4⟩
 ·exact .inl h2
 ·exact .inr ⟨g,cur,k1,k2,hb _ k3,k4⟩
theorem Ro.In.sr (h:r.In bs rs) (S:St w W bs rs):Sr W r.A r.n r.c r.L:=by
 obtain⟨h1,h2,h3⟩:=h;refine⟨h1,?_,?_,fun x hx=>⟨S.rd _ (h3 x hx).1,S.rd _ (h3 x hx).2⟩⟩
 ·rcases h2 with h2 | ⟨g,cur,k1,k2,k3,k4⟩
  ·omega
  ·exact k2
 ·rcases h2 with h2 | ⟨g,cur,k1,k2,k3,k4⟩
  ·exact .inl h2.2.1
  ·have hb:=(S.bk _ k3).1
   refine .inr ⟨g,0,k1,hb.lt,fun i x hi=>?_⟩
   have k:∀ j u,(csE r.L)[j]?=some u→W.cell? ⟨g,0+j,none⟩=some u:=fun j u hu=>by
    rw[Nat.zero_add];refine hb.cell ?_
    rw[←k4,List.getElem?_take] at hu
    split at hu
    ·simpa using hu
    ·cases hu
   obtain⟨e0,e1,e2⟩:=csE_get hi;exact⟨k _ _ e0,k _ _ e1,k _ _ e2⟩
theorem Apd.done {v:Value} {L:List Rt} (h:Apd w W bs rs 45 3 v L.length (csE L)) (hr:∀ x∈L,x.rdIn rs):∃ (r:Ro) (bs':List Bk),v=.slice r.A r.n r.c∧r.n=L.length∧r.L=L∧(bs'=bs∨∃ p,bs'=p::bs)∧r.In bs' rs∧St w W bs' rs:=by
 obtain⟨h1,h2,⟨rfl,h0,S⟩ | ⟨g,cap,cur,rfl,k2,k3,k4,k5,S⟩⟩:=h
 ·exact⟨⟨none,0,0,L⟩,bs,rfl,h0.symm,rfl,.inl rfl,⟨h0,.inl ⟨rfl,rfl,rfl⟩,hr⟩,S⟩
 ·exact⟨⟨some ⟨g,0,none⟩,L.length,cap,L⟩,(g,cur,45)::bs,rfl,rfl,rfl,.inr ⟨_,rfl⟩,⟨rfl,.inr ⟨g,cur,rfl,k2,List.mem_cons_self,k5⟩,hr⟩,S⟩
theorem Apd.mat {v:Value} {M:List Ro} (h:Apd w W bs rs 23 1 v M.length (M.map Ro.v)) (hr:∀ r∈M,r.In bs rs):∃ A c,v=.slice A M.length c∧Mr W A M.length c M:=by
 have S:=h.st;obtain⟨h1,h2,⟨rfl,h0,_⟩ | ⟨g,cap,cur,rfl,k2,k3,k4,k5,S'⟩⟩:=h
 ·exact⟨none,0,by rw[h0],rfl,by omega,.inl h0,fun r hr'=>(hr r hr').sr S⟩
 ·refine⟨some ⟨g,0,none⟩,cap,rfl,rfl,k2,.inr ⟨g,0,rfl,(S'.bk _ List.mem_cons_self).1.lt,fun i r hi=>?_⟩,fun r hr'=>(hr r hr').sr S⟩
  rw[Nat.zero_add];refine (S'.bk _ List.mem_cons_self).1.cell ?_
  have:(M.map Ro.v)[i]?=some (.slice r.A r.n r.c):=by rw[List.getElem?_map,hi];rfl
  rw[←k5,List.getElem?_take] at this
  split at this
  ·simpa using this
  ·cases this
end
theorem infoR:(Tryz.prog.info? 45).map (fun i=>(i.zero,i.size,i.bytes))=some (some (.agg #[.bool false,.slice none 0 0,.slice none 0 0]),3,56):=by kernel_rfl
theorem infoRow:(Tryz.prog.info? 23).map (fun i=>(i.zero,i.size,i.bytes))=some (some (.slice none 0 0),1,24):=by kernel_rfl
section
variable {w W:World} {bs:List Bk} {rs:List Rdg} {v:Value} {n:Nat} {xs:List Value} {ops:Array Oper} {rest:List Oper} {o:Oper} {a:Act} {Q:Exit→Act→World→Prop}
theorem app_rat (hgd:o.guard=none) (s x:Operand)
  (ho:o.op=.call { callee:=.builtin .append,args:=#[s,x],argTypes:=#[23,23] })
  (hs:a.eval s=v) (h:Apd w W bs rs 45 3 v n xs) (g:Nat) {b:Bool} {A:Option Addr} {n' c:Nat} {D:Option Addr} {m d:Nat} (hx:a.eval x=.slice (some ⟨g,0,none⟩) 1 1) (hc:Cb W g #[.bool b,.slice A n' c,.slice D m d] 45) (hn:n≤100000)
  (hk:∀ v' W',Apd w W' bs rs 45 3 v' (n+1) (xs++[.bool b,.slice A n' c,.slice D m d])→wpList Tryz.prog ops Q rest (a.put o.dst v') W'):wpList Tryz.prog ops Q (o::rest) a W:=by
 obtain⟨i0,hi,hzz⟩:=Option.map_eq_some_iff.1 infoR;simp only[Prod.mk.injEq] at hzz;obtain⟨hz0,hz1,hz2⟩:=hzz;refine Apd.wp hgd s x 23 ho i0 _ 56 Tryz.underlying23 hi hz0 hz1 hz2 rfl ?_ hs h ⟨g,0,none⟩ 1 1 [.bool b,.slice A n' c,.slice D m d] hx rfl ?_ ?_ ?_ (by decide) (by unfold maxLen;omega) (by omega) hk
 ·intro v hv z e;subst e;simp[Value.cells] at hv
 ·intro j u hu
  have hadd:(⟨g,0,none⟩:Addr).add j=⟨g,j,none⟩:=by unfold Addr.add;split<;>simp_all
  rw[hadd];exact hc.cell (by simpa using hu)
 ·intro u hu;simp at hu;rcases hu with rfl | rfl | rfl<;>rfl
 ·intro v hv z e;subst e;simp at hv
theorem app_row (hgd:o.guard=none) (s x:Operand)
  (ho:o.op=.call { callee:=.builtin .append,args:=#[s,x],argTypes:=#[22,22] })
  (hs:a.eval s=v) (h:Apd w W bs rs 23 1 v n xs) (g:Nat) {A:Option Addr} {n' c:Nat} (hx:a.eval x=.slice (some ⟨g,0,none⟩) 1 1) (hc:Cb W g #[.slice A n' c] 23) (hn:n≤100000)
  (hk:∀ v' W',Apd w W' bs rs 23 1 v' (n+1) (xs++[.slice A n' c])→wpList Tryz.prog ops Q rest (a.put o.dst v') W'):wpList Tryz.prog ops Q (o::rest) a W:=by
 obtain⟨i0,hi,hzz⟩:=Option.map_eq_some_iff.1 infoRow;simp only[Prod.mk.injEq] at hzz;obtain⟨hz0,hz1,hz2⟩:=hzz;refine Apd.wp hgd s x 22 ho i0 _ 24 Tryz.underlying22 hi hz0 hz1 hz2 rfl ?_ hs h ⟨g,0,none⟩ 1 1 [.slice A n' c] hx rfl ?_ ?_ ?_ (by decide) (by unfold maxLen;omega) (by omega) hk
 ·intro v hv z e;subst e;simp[Value.cells] at hv
 ·intro j u hu
  have hadd:(⟨g,0,none⟩:Addr).add j=⟨g,j,none⟩:=by unfold Addr.add;split<;>simp_all
  rw[hadd];exact hc.cell (by simpa using hu)
 ·intro u hu;simp at hu;rcases hu with rfl;rfl
 ·intro v hv z e;subst e;simp at hv
end
theorem noL1 (A:Option Addr) (n c:Nat):NoL #[.slice A n c]:=by
 intro i z;match i with
 | 0=>simp
 | k+1=>simp
end Go.Proofs.YtfnkpfbobdmieaaGreat
namespace Go.Proofs.YtfnkpfbobdmieaaGreat
open Go.RowKit RQ
def ltL (L:List Rt):Prop:=∀ x∈L,Rk x.b x.n x.x x.m x.y x.q∧Rs x.q 8
theorem wf_row {M:List Ro} {r:Ro} (h:wfM M=true) (hr:r∈M):1≤r.n∧r.n≤96∧r.n=colM M:=by
 unfold wfM at h;rw[Bool.and_eq_true] at h;have:=List.all_eq_true.1 h.2 r hr;unfold rowM at this;simp only[Bool.and_eq_true,decide_eq_true_eq] at this;exact⟨this.1.1,this.1.2,this.2⟩
theorem wf_len {M:List Ro} (h:wfM M=true):M.length≤96:=by
 unfold wfM at h;rw[Bool.and_eq_true] at h;exact of_decide_eq_true h.1
theorem Apd.sr {w W:World} {bs:List Bk} {rs:List Rdg} {v:Value} {L:List Rt} (h:Apd w W bs rs 45 3 v L.length (csE L)) (hr:∀ x∈L,x.rdIn rs):∃ A c,v=.slice A L.length c∧Sr W A L.length c L:=by
 obtain⟨r,bs',rfl,h1,h2,_,h4,S⟩:=h.done hr;have:=h4.sr S;rw[h1,h2] at this;exact⟨r.A,r.c,by rw[h1],this⟩
theorem rd_cons_ {x:Rt} {rs:List Rdg} {p:Rdg} (h:x.rdIn rs):x.rdIn (p::rs):=⟨List.mem_cons_of_mem _ h.1,List.mem_cons_of_mem _ h.2⟩
def RetLE (Q:List Rat) (w:World) (e:Ending) (w':World):Prop:=∃ A n c L,e=.returned (.tuple #[.slice A n c,.int .i64 0])∧Sr w' A n c L∧(∀ x∈L,x.can)∧L.map (·.q)=Q∧Below w.heap.size w w'
def RetE (w:World) (e:Ending) (w':World):Prop:=e=.returned (.tuple #[.slice none 0 0,.int .i64 6])∧Below w.heap.size w w'
end Go.Proofs.YtfnkpfbobdmieaaGreat
namespace Go.Proofs.YtfnkpfbobdmieaaGreat
open Go.RowKit RQ
theorem getD_get {L:List Rt} {j:Nat} {x:Rt} (h:L[j]?=some x):(L.map (·.q)).getD j 0=x.q:=by
 rw[List.getD_eq_getElem?_getD,List.getElem?_map,h];rfl
theorem qM_app (M:List Ro) (r:Ro):qM (M++[r])=qM M++[r.L.map (·.q)]:=by unfold qM;rw[List.map_append];rfl
theorem canM_app {M:List Ro} {r:Ro} (h:canM M) (h1:r.n≤1000) (h2:∀ x∈r.L,x.can):canM (M++[r]):=fun s hs=>by
 rcases List.mem_append.1 hs with hs | hs
 ·exact h s hs
 ·obtain rfl:=List.mem_singleton.1 hs;exact⟨h1,h2⟩
theorem In_app {M:List Ro} {r:Ro} {bs bs':List Bk} {rs rs':List Rdg} (h:∀ s∈M,s.In bs rs) (hb:∀ p∈bs,p∈bs') (hr:∀ p∈rs,p∈rs') (h1:r.In bs' rs'):∀ s∈M++[r],s.In bs' rs':=fun s hs=>by
 rcases List.mem_append.1 hs with hs | hs
 ·exact (h s hs).mono hb hr
 ·obtain rfl:=List.mem_singleton.1 hs;exact h1
theorem row_done {w W:World} {bs:List Bk} {rs:List Rdg} {v:Value} {L:List Rt} {ob:List Bk} (h:Apd w W (bs++ob) rs 45 3 v L.length (csE L)) (hr:∀ x∈L,x.rdIn rs):∃ (r:Ro) (bs':List Bk),v=.slice r.A r.n r.c∧r.n=L.length∧r.L=L∧(∀ p∈bs,p∈bs')∧r.In bs' rs∧St w W (bs'++ob) rs:=by
 obtain⟨h1,h2,⟨rfl,h0,S⟩ | ⟨g,cap,cur,rfl,k2,k3,k4,k5,S⟩⟩:=h
 ·exact⟨⟨none,0,0,L⟩,bs,rfl,h0.symm,rfl,fun _ h=>h,⟨h0,.inl ⟨rfl,rfl,rfl⟩,hr⟩,S⟩
 ·exact⟨⟨some ⟨g,0,none⟩,L.length,cap,L⟩,(g,cur,45)::bs,rfl,rfl,rfl,fun _ h=>List.mem_cons_of_mem _ h,⟨rfl,.inr ⟨g,cur,rfl,k2,List.mem_cons_self,k5⟩,hr⟩,S⟩
end Go.Proofs.YtfnkpfbobdmieaaGreat
namespace Go.Proofs.YtfnkpfbobdmieaaGreat
open Go.RowKit RQ
section
variable {P:Program} {ops:Array Oper} {Q:Exit→Act→World→Prop} {S:World→Prop} {w0:World} {Z:List Zv} {L:Array Bool} {a:Act} {bs:List (Nat×Array Value×Nat)} {rs:List (Option Addr×Nat×Nat×List Nat)}
theorem RW.blk {i:Nat} {oi:Oper} {cs:Array Value} {t k:Nat} (dst:Option Nat) (hz:ZOk P ops S w0 Z bs) (hi:ops[i]?=some oi) (hd:oi.dst=dst) (hc:callOk ops Z L i oi=true) (hw:Region.wanted oi (yielded ops a.tmps)=true)
  (hx:∀ w,(execOp a.eval oi).run P w=.ok (.value (.slice (some ⟨w.heap.size,0,none⟩) k k)) (w.alloc (.cells cs t))) (hn:NoL cs)
  (h:∀ g:Nat,Hid (ZOk P ops S w0 Z ((g,cs,t)::bs))→RW P ops Q S w0 Z (L.setIfInBounds i true) (a.put dst (.slice (some ⟨g,0,none⟩) k k)) ((g,cs,t)::bs) rs):RW P ops Q S w0 Z L a bs rs:=by
 have hzk:∀ g,ZOk P ops S w0 Z ((g,cs,t)::bs):=fun g=>⟨hz.ok,hz.is,hz.nd,hz.ndo,hz.nol,fun w B hB=>hz.keep w (B++[(g,cs,t)]) (by rw[List.append_assoc];exact hB)⟩
 simp only[callOk,Bool.and_eq_true,Bool.not_eq_true',beq_iff_eq] at hc;obtain⟨⟨⟨⟨c1,c2⟩,c3⟩,c4⟩,c5⟩:=hc;have hcz:i∉Z.map (·.op):=by simpa using c3
 subst hd;intro σ w hl hS hst;generalize hn':σ.count none=n
 induction n using Nat.strongRecOn generalizing σ w with
 | ind n ih=>
  have hcr:i∈Region.ready .any ops (mark Z σ L):=ready_mark (by simpa using c2) hcz
  refine Wk.all ⟨i,hcr⟩ fun j hj=>?_
  by_cases hjz:j∈Z.map (·.op)
  ·refine RW.alloc hz hl hst (mem_ready.1 hj).1 hjz fun σ' w' hl' hc' hS' hst'=>?_
   exact ih _ (by omega) σ' w' hl' hS' hst' rfl
  ·have:=ready_full hj hjz
   rw[c1] at this;have:=List.mem_singleton.1 this;subst this;unfold wpOp;rw[hi];simp only[wanted_fill (ops:=ops) oi Z σ a c4,hw,if_true];refine .inl ?_
   unfold Oper.wp;rw[exec_fill (ops:=ops) oi (fun cs b=>Region.noSelect_spec c5 j oi cs b hi) Z σ a c4,hx]
   show S _∧Wk P ops Q S _ (Act.put _ oi.dst _) _
   have hst':St w0 (w.alloc (.cells cs t)) (blks Z σ++(w.heap.size,cs,t)::bs) rs:=(hst.alloc cs t hn).perm (List.perm_middle.symm);have hS':S (w.alloc (.cells cs t)):=(hzk w.heap.size).keep _ _ hst'.none;refine⟨hS',?_⟩
   rw[←mark_set,←fill_put Z σ a oi.dst _ (fun z hzm e=>by
    have:=List.all_eq_true.1 c4 z hzm;simp only[Bool.and_eq_true,bne_iff_ne] at this;exact this.2 e)]
   exact h _ (Lib.hid (hzk _)) σ _ hl hS' hst'
end
end Go.Proofs.YtfnkpfbobdmieaaGreat
