/- Slices of whatever elements: how they are read, how they lie in blocks of a call's own, how they grow. Tables as they lie in memory, and what they say. Names of the program. Lists of texts: an index, all different, all names. -/
import Derived.Test.YtdeedofmflelfaaGreatDoorAp
import Derived.Deep.Upon
import Derived.Test.YtdeedofmflelfaaGreatDoorQStz
import Derived.Test.YtdeedofmflelfaaGreatDoorQYaz
namespace Go.Proofs.YtdeedofmflelfaaGreatDoor
open Go.RowKit
set_option linter.unusedVariables false
abbrev GBk:=Nat×Array Value×Nat
abbrev GRd:=Option Addr×Nat×Nat×List Nat
/-- How an element lies in memory: its cells; what else is asked of a world (At), or of what a call knows (In). -/
structure Cod (α:Type) where
 sz:Nat
 cs:α→List Value
 At:World→α→Prop
 In:World→List GBk→List GRd→α→Prop
 pos:0<sz
 len:∀ a,(cs a).length=sz
 noL:∀ a,NoLl (cs a)
 one:∀ a,∀ v∈cs a,v.oneCell'=true
 bel:∀ {W W':World} {a:α},At W a→Below W.heap.size W W'→At W' a
 mono:∀ {w:World} {bs bs':List GBk} {rs rs':List GRd} {a:α},In w bs rs a→(∀ p∈bs,p∈bs')→(∀ p∈rs,p∈rs')→In w bs' rs' a
 at_:∀ {w W:World} {bs:List GBk} {rs:List GRd} {a:α},St w W bs rs→In w bs rs a→At W a
 old:∀ {w:World} {a:α} (bs:List GBk) (rs:List GRd),At w a→In w bs rs a
/-- The cells of a list. -/
def Cod.all {α:Type} (C:Cod α) (L:List α):List Value:=L.flatMap C.cs
section
variable {α β:Type} {C:Cod α} {w W W':World} {A:Option Addr} {n c e g t:Nat} {L:List α} {bs bs':List GBk} {rs rs':List GRd}
theorem all_len (C:Cod α) (L:List α):(C.all L).length=L.length*C.sz:=by
 induction L with
 | nil=>simp[Cod.all]
 | cons x l ih=>
  have:C.all (x::l)=C.cs x++C.all l:=rfl
  rw[this,List.length_append,C.len,ih,List.length_cons,Nat.add_mul,Nat.one_mul,Nat.add_comm]
theorem all_app (C:Cod α) (L M:List α):C.all (L++M)=C.all L++C.all M:=List.flatMap_append
theorem all_noL (C:Cod α) (L:List α):NoLl (C.all L):=by
 intro v hv
 obtain⟨x,_,hx⟩:=List.mem_flatMap.1 hv
 exact C.noL x v hx
theorem all_one (C:Cod α) (x:α):C.all [x]=C.cs x:=by show C.cs x++[]=_;rw[List.append_nil]
theorem all_get {x:α} (C:Cod α):∀ {L:List α} {i:Nat},L[i]?=some x→∀ k v,(C.cs x)[k]?=some v→(C.all L)[i*C.sz+k]?=some v
 | [],_,h,_,_,_=>by simp at h
 | y::l,0,h,k,v,hv=>by
  have:y=x:=by simpa using h
  subst this
  have hk:=(List.getElem?_eq_some_iff.1 hv).1
  show (C.cs y++C.all l)[0*C.sz+k]?=_
  rw[Nat.zero_mul,Nat.zero_add,List.getElem?_append_left hk];exact hv
 | y::l,i+1,h,k,v,hv=>by
  have h:l[i]?=some x:=by simpa using h
  show (C.cs y++C.all l)[(i+1)*C.sz+k]?=_
  rw[List.getElem?_append_right (by rw[C.len,Nat.add_mul,Nat.one_mul];omega),C.len,show (i+1)*C.sz+k-C.sz=i*C.sz+k by rw[Nat.add_mul,Nat.one_mul];omega]
  exact all_get C h k v hv
/-- A slice that reads as a list. -/
structure LR (C:Cod α) (W:World) (A:Option Addr) (n:Nat) (L:List α):Prop where
 len:L.length=n
 mem:n=0∨∃ b o,A=some ⟨b,o,none⟩∧b<W.heap.size∧∀ (i:Nat) (x:α),L[i]?=some x→∀ k v,(C.cs x)[k]?=some v→W.cell? ⟨b,o+i*C.sz+k,none⟩=some v
 el:∀ x∈L,C.At W x
theorem LR.bel (h:LR C W A n L) (hb:Below W.heap.size W W'):LR C W' A n L:=by
 refine⟨h.len,?_,fun x hx=>C.bel (h.el x hx) hb⟩
 rcases h.mem with h0 | ⟨b,o,hA,hlt,hc⟩
 ·exact .inl h0
 ·exact .inr ⟨b,o,hA,Nat.lt_of_lt_of_le hlt hb.size,fun i x hi k v hv=>(World.cell?_of_block (hb.block b hlt)).trans (hc i x hi k v hv)⟩
theorem LR.get (h:LR C W A n L) {i:Nat} (hi:i<n):∃ b o x,A=some ⟨b,o,none⟩∧L[i]?=some x∧x∈L∧C.At W x∧∀ k v,(C.cs x)[k]?=some v→W.cell? ⟨b,o+i*C.sz+k,none⟩=some v:=by
 have hl:=h.len
 rcases h.mem with h0 | ⟨b,o,hA,_,hc⟩
 ·omega
 ·have e:L[i]?=some L[i]:=List.getElem?_eq_getElem (by omega)
  have hm:L[i]∈L:=List.getElem_mem _
  exact⟨b,o,L[i],hA,e,hm,h.el _ hm,hc i _ e⟩
theorem LR.nil_ (C:Cod α) (W:World) (A:Option Addr):LR C W A 0 []:=⟨rfl,.inl rfl,fun x hx=>by cases hx⟩
/-- A part of such a slice. -/
theorem LR.sub {b o m:Nat} (h:LR C W (some ⟨b,o,none⟩) n L) (hm:m≤n):LR C W (some ⟨b,o+m*C.sz,none⟩) (n-m) (L.drop m):=by
 refine⟨by rw[List.length_drop,h.len],?_,fun x hx=>h.el x (List.mem_of_mem_drop hx)⟩
 rcases h.mem with h0 | ⟨b',o',hA,hlt,hc⟩
 ·exact .inl (by omega)
 ·injection hA with hA;injection hA with h1 h2;subst h1;subst h2
  refine .inr ⟨b,o+m*C.sz,rfl,hlt,fun i x hi k v hv=>?_⟩
  rw[List.getElem?_drop] at hi
  have:=hc (m+i) x hi k v hv
  rwa [Nat.add_mul,←Nat.add_assoc] at this
theorem LR.take_ {m:Nat} (h:LR C W A n L) (hm:m≤n):LR C W A m (L.take m):=by
 refine⟨by rw[List.length_take,h.len];omega,?_,fun x hx=>h.el x (List.mem_of_mem_take hx)⟩
 rcases h.mem with h0 | ⟨b,o,hA,hlt,hc⟩
 ·exact .inl (by omega)
 ·refine .inr ⟨b,o,hA,hlt,fun i x hi k v hv=>hc i x ?_ k v hv⟩
  rw[List.getElem?_take] at hi
  split at hi
  ·exact hi
  ·cases hi
/-- A slice that lies where a call knows of it. -/
structure LI (C:Cod α) (w:World) (bs:List GBk) (rs:List GRd) (A:Option Addr) (n:Nat) (L:List α):Prop where
 len:L.length=n
 mem:n=0∨(∃ b o,A=some ⟨b,o,none⟩∧b<w.heap.size∧∀ (i:Nat) (x:α),L[i]?=some x→∀ k v,(C.cs x)[k]?=some v→w.cell? ⟨b,o+i*C.sz+k,none⟩=some v) ∨
  ∃ (g:Nat) (cur:Array Value) (t:Nat),A=some ⟨g,0,none⟩∧(g,cur,t)∈bs∧∀ (j:Nat) v,(C.all L)[j]?=some v→cur[j]?=some v
 el:∀ x∈L,C.In w bs rs x
theorem LI.mono (h:LI C w bs rs A n L) (hb:∀ p∈bs,p∈bs') (hr:∀ p∈rs,p∈rs'):LI C w bs' rs' A n L:=by
 refine⟨h.len,?_,fun x hx=>C.mono (h.el x hx) hb hr⟩
 rcases h.mem with h0 | h1 | ⟨g,cur,t,h1,h2,h3⟩
 ·exact .inl h0
 ·exact .inr (.inl h1)
 ·exact .inr (.inr ⟨g,cur,t,h1,hb _ h2,h3⟩)
theorem LI.lr (h:LI C w bs rs A n L) (S:St w W bs rs):LR C W A n L:=by
 refine⟨h.len,?_,fun x hx=>C.at_ S (h.el x hx)⟩
 rcases h.mem with h0 | ⟨b,o,hA,hlt,hc⟩ | ⟨g,cur,t,h1,h2,h3⟩
 ·exact .inl h0
 ·exact .inr ⟨b,o,hA,Nat.lt_of_lt_of_le hlt S.bel.size,fun i x hi k v hv=>(World.cell?_of_block (S.bel.block b hlt)).trans (hc i x hi k v hv)⟩
 ·have hb:=(S.bk _ h2).1
  refine .inr ⟨g,0,h1,hb.lt,fun i x hi k v hv=>?_⟩
  rw[Nat.zero_add]
  exact hb.cell (h3 _ _ (all_get (i:=i) C hi k v hv))
theorem LI.old (bs:List GBk) (rs:List GRd) (h:LR C w A n L):LI C w bs rs A n L:=by
 refine⟨h.len,?_,fun x hx=>C.old bs rs (h.el x hx)⟩
 rcases h.mem with h0 | h1
 ·exact .inl h0
 ·exact .inr (.inl h1)
theorem LI.nil_ (C:Cod α) (w:World) (bs:List GBk) (rs:List GRd) (A:Option Addr):LI C w bs rs A 0 []:=⟨rfl,.inl rfl,fun x hx=>by cases hx⟩
theorem LI.blk (hb:(g,(C.all L).toArray,t)∈bs) (hr:∀ x∈L,C.In w bs rs x):LI C w bs rs (some ⟨g,0,none⟩) L.length L:=
 ⟨rfl,.inr (.inr ⟨g,_,t,rfl,hb,fun j v hv=>by rw[List.getElem?_toArray];exact hv⟩),hr⟩
/-- A slice as an element. -/
structure Sl (α:Type) where
 A:Option Addr
 c:Nat
 L:List α
def Sl.v {α:Type} (s:Sl α):Value:=.slice s.A s.L.length s.c
def slC (C:Cod α):Cod (Sl α) where
 sz:=1
 cs s:=[s.v]
 At W s:=LR C W s.A s.L.length s.L∧s.L.length≤s.c
 In w bs rs s:=LI C w bs rs s.A s.L.length s.L∧s.L.length≤s.c
 pos:=by decide
 len _:=rfl
 noL s:=fun v hv z e=>by rw[List.mem_singleton.1 hv] at e;cases e
 one s:=fun v hv=>by rw[List.mem_singleton.1 hv];rfl
 bel h hb:=⟨h.1.bel hb,h.2⟩
 mono h hb hr:=⟨h.1.mono hb hr,h.2⟩
 at_ S h:=⟨h.1.lr S,h.2⟩
 old bs rs h:=⟨LI.old bs rs h.1,h.2⟩
/-- Elements of one cell, without more. -/
def cellC (f:α→Value) (h1:∀ a z,f a≠.int .u32 z) (h2:∀ a,(f a).oneCell'=true):Cod α where
 sz:=1
 cs a:=[f a]
 At _ _:=True
 In _ _ _ _:=True
 pos:=by decide
 len _:=rfl
 noL a:=fun v hv z e=>by rw[List.mem_singleton.1 hv] at e;exact h1 a z e
 one a:=fun v hv=>by rw[List.mem_singleton.1 hv];exact h2 a
 bel _ _:=trivial
 mono _ _ _:=trivial
 at_ _ _:=trivial
 old _ _ _:=trivial
def boolC:Cod Bool:=cellC Value.bool (fun _ _ e=>by cases e) (fun _=>rfl)
def intC:Cod Int:=cellC (Value.int .i64) (fun _ _ e=>by cases e) (fun _=>rfl)
def strC:Cod ByteArray:=cellC Value.string (fun _ _ e=>by cases e) (fun _=>rfl)
/-- A slice of limbs. -/
structure Nl where
 A:Option Addr
 n:Nat
 c:Nat
 x:List Nat
def limC:Cod Nl where
 sz:=1
 cs s:=[.slice s.A s.n s.c]
 At W s:=Rd W s.A s.n s.c s.x
 In w bs rs s:=(s.A,s.n,s.c,s.x)∈rs∨Rd w s.A s.n s.c s.x
 pos:=by decide
 len _:=rfl
 noL s:=fun v hv z e=>by rw[List.mem_singleton.1 hv] at e;cases e
 one s:=fun v hv=>by rw[List.mem_singleton.1 hv];rfl
 bel h hb:=h.below hb
 mono h _ hr:=h.imp (hr _) id
 at_ S h:=h.elim (fun h=>S.rd _ h) (fun h=>h.below S.bel)
 old _ _ h:=.inr h
/-- One behind the other. -/
def proC (C:Cod α) (D:Cod β):Cod (α×β) where
 sz:=C.sz+D.sz
 cs a:=C.cs a.1++D.cs a.2
 At W a:=C.At W a.1∧D.At W a.2
 In w bs rs a:=C.In w bs rs a.1∧D.In w bs rs a.2
 pos:=Nat.add_pos_left C.pos _
 len a:=by rw[List.length_append,C.len,D.len]
 noL a:=(C.noL a.1).app (D.noL a.2)
 one a:=fun v hv=>(List.mem_append.1 hv).elim (C.one a.1 v) (D.one a.2 v)
 bel h hb:=⟨C.bel h.1 hb,D.bel h.2 hb⟩
 mono h hb hr:=⟨C.mono h.1 hb hr,D.mono h.2 hb hr⟩
 at_ S h:=⟨C.at_ S h.1,D.at_ S h.2⟩
 old bs rs h:=⟨C.old bs rs h.1,D.old bs rs h.2⟩
/-- Seen through a map. -/
def Cod.via (C:Cod β) (f:α→β):Cod α where
 sz:=C.sz
 cs a:=C.cs (f a)
 At W a:=C.At W (f a)
 In w bs rs a:=C.In w bs rs (f a)
 pos:=C.pos
 len a:=C.len (f a)
 noL a:=C.noL (f a)
 one a:=C.one (f a)
 bel h hb:=C.bel h hb
 mono h hb hr:=C.mono h hb hr
 at_ S h:=C.at_ S h
 old bs rs h:=C.old bs rs h
/-- A number with a sign; a fraction, as they lie in memory. -/
structure Iw where
 b:Bool
 x:Nl
structure Rw where
 b:Bool
 x:Nl
 y:Nl
def rwC:Cod Rw:=(proC boolC (proC limC limC)).via fun a=>(a.b,a.x,a.y)
def Rw.vs (r:Rw):Array Value:=#[.bool r.b,.slice r.x.A r.x.n r.x.c,.slice r.y.A r.y.n r.y.c]
end
section
variable {α:Type} {C:Cod α} {w W W':World} {A:Option Addr} {n c e g t:Nat} {L:List α} {bs bs':List GBk} {rs rs':List GRd} {v:Value}
/-- A slice of the call's own that reads as a list, and may grow. -/
def Gro (C:Cod α) (w W:World) (bs:List GBk) (rs:List GRd) (e:Nat) (v:Value) (L:List α):Prop:=
 Apd w W bs rs e C.sz v L.length (C.all L)∧∀ x∈L,C.In w bs rs x
theorem Gro.nil_ (C:Cod α) (S:St w W bs rs) (e:Nat):Gro C w W bs rs e (.slice none 0 0) []:=⟨Apd.nil_ S e _,fun x hx=>by cases hx⟩
theorem Gro.st (h:Gro C w W bs rs e v L):St w W bs rs:=h.1.st
/-- What is known of it when it has been made: its block is one of those at hand. -/
theorem Gro.done (h:Gro C w W bs rs e v L):∃ A c bs',v=.slice A L.length c∧St w W bs' rs∧(∀ p∈bs,p∈bs')∧LI C w bs' rs A L.length L:=by
 obtain⟨⟨h1,h2,⟨rfl,h3,S⟩ | ⟨g,cap,cur,rfl,h3,h4,h5,h6,S⟩⟩,hx⟩:=h
 ·have:L=[]:=List.length_eq_zero_iff.1 h3
  subst this
  exact⟨none,0,bs,rfl,S,fun _ h=>h,LI.nil_ _ _ _ _ _⟩
 ·refine⟨_,_,_,rfl,S,fun _ h=>List.mem_cons_of_mem _ h,rfl,.inr (.inr ⟨g,cur,e,rfl,List.mem_cons_self,fun j u hu=>?_⟩),fun x hxm=>C.mono (hx x hxm) (fun _ h=>List.mem_cons_of_mem _ h) (fun _ h=>h)⟩
  rw[←h6,List.getElem?_take] at hu
  split at hu
  ·simpa using hu
  ·cases hu
theorem Gro.lr (h:Gro C w W bs rs e v L):∃ A c,v=.slice A L.length c∧LR C W A L.length L:=by
 obtain⟨A,c,bs',hv,S,_,hl⟩:=h.done
 exact⟨A,c,hv,hl.lr S⟩
theorem Gro.call (h:Gro C w W bs rs e v L) (hb:Below W.heap.size W W'):Gro C w W' bs rs e v L:=⟨h.1.call hb,h.2⟩
theorem Gro.drew (h:Gro C w W bs rs e v L):Gro C w W.drew bs rs e v L:=⟨h.1.drew,h.2⟩
theorem Gro.read {A:Option Addr} {n c:Nat} {ys:List Nat} (h:Gro C w W bs rs e v L) (R:Rd W A n c ys):Gro C w W bs ((A,n,c,ys)::rs) e v L:=⟨h.1.read R,fun x hx=>C.mono (h.2 x hx) (fun _ h=>h) (fun _ h=>List.mem_cons_of_mem _ h)⟩
theorem Gro.alloc (h:Gro C w W bs rs e v L) (cs:Array Value) (t:Nat) (hn:NoL cs):Gro C w (W.alloc (.cells cs t)) ((W.heap.size,cs,t)::bs) rs e v L:=⟨h.1.alloc cs t hn,fun x hx=>C.mono (h.2 x hx) (fun _ h=>List.mem_cons_of_mem _ h) (fun _ h=>h)⟩
theorem Gro.sub {p:GBk} (h:Gro C w W (p::bs) rs e v L) (hx:∀ x∈L,C.In w bs rs x):Gro C w W bs rs e v L:=⟨h.1.sub,hx⟩
/-- v = append(v, x) where the walk stands: the element lies in a block of its own. -/
theorem Gro.wp {P:Program} {ops:Array Oper} {rest:List Oper} {o:Oper} {a:Act} {Q:Exit→Act→World→Prop} (hgd:o.guard=none) (s x:Operand) (ty:TypeId)
  (ho:o.op=.call { callee:=.builtin .append,args:=#[s,x],argTypes:=#[ty,ty] })
  (z:Value) (bytes:Nat) (ht:P.underlying ty=some (.slice e)) (hi:(P.info? e).map (fun i=>(i.zero,i.size,i.bytes))=some (some z,C.sz,bytes))
  (hzs:z.cells.size=C.sz) (hzn:NoLl z.cells.toList) (hs:a.eval s=v) (h:Gro C w W bs rs e v L)
  (g:Nat) (y:α) {t:Nat} (hx:a.eval x=.slice (some ⟨g,0,none⟩) 1 1) (hc:Cb W g (C.cs y).toArray t) (hy:C.In w bs rs y)
  (hn:(L.length+1)*bytes≤140737488355328) (h63:L.length+1≤maxLen)
  (hk:∀ v' W',Gro C w W' bs rs e v' (L++[y])→wpList P ops Q rest (a.put o.dst v') W'):wpList P ops Q (o::rest) a W:=by
 obtain⟨i0,hi0,hzz⟩:=Option.map_eq_some_iff.1 hi
 simp only[Prod.mk.injEq] at hzz
 obtain⟨hz0,hz1,hz2⟩:=hzz
 refine Apd.wp hgd s x ty ho i0 z bytes ht hi0 hz0 hz1 hz2 hzs hzn hs h.1 ⟨g,0,none⟩ 1 1 (C.cs y) hx (by rw[C.len,Nat.one_mul]) ?_ (C.one y) (C.noL y) (by decide) h63 hn fun v' W' hA=>hk v' W' ⟨?_,fun x hx=>?_⟩
 ·intro j u hu
  have hadd:(⟨g,0,none⟩:Addr).add j=⟨g,j,none⟩:=by unfold Addr.add;split<;>simp_all
  rw[hadd]
  exact hc.cell (by rw[List.getElem?_toArray];exact hu)
 ·rw[all_app,all_one,List.length_append];exact hA
 ·rcases List.mem_append.1 hx with hx | hx
  ·exact h.2 x hx
  ·rw[List.mem_singleton.1 hx];exact hy
/-- A block that holds a list: what is laid of its place i; its cells after a store of an element. -/
theorem St_gcl (h:St w W ((g,(C.all L).toArray,t)::bs) rs) {i:Nat} {x:α} (hi:L[i]?=some x):(∀ k v,(C.cs x)[k]?=some v→W.cell? ⟨g,i*C.sz+k,none⟩=some v)∧∀ j,W.frozen? ⟨g,j,none⟩=false:=by
 have hb:=(h.bk _ List.mem_cons_self).1
 exact⟨fun k v hv=>hb.cell (by rw[List.getElem?_toArray];exact all_get (i:=i) C hi k v hv),fun j=>hb.frozen j⟩
theorem all_inv (C:Cod α):∀ {L:List α} {j:Nat} {u:Value},(C.all L)[j]?=some u→∃ i x k,L[i]?=some x∧(C.cs x)[k]?=some u∧j=i*C.sz+k
 | [],j,u,h=>by simp[Cod.all] at h
 | y::l,j,u,h=>by
  have h:(C.cs y++C.all l)[j]?=some u:=h
  rcases Nat.lt_or_ge j C.sz with hj | hj
  ·rw[List.getElem?_append_left (by rw[C.len];exact hj)] at h
   exact⟨0,y,j,rfl,h,by omega⟩
  ·rw[List.getElem?_append_right (by rw[C.len];exact hj),C.len] at h
   obtain⟨i,x,k,h1,h2,h3⟩:=all_inv C h
   exact⟨i+1,x,k,by simpa using h1,h2,by rw[Nat.add_mul,Nat.one_mul];omega⟩
/-- Cells, one behind the other, in a row and in a world. -/
def rset (cs:Array Value) (o:Nat):Nat→List Value→Array Value
 | _,[]=>cs
 | k,v::vs=>rset (cs.setIfInBounds (o+k) v) o (k+1) vs
def wset (W:World) (g o:Nat):Nat→List Value→World
 | _,[]=>W
 | k,v::vs=>wset (W.setCell ⟨g,o+k,none⟩ v) g o (k+1) vs
theorem St_wset {cs:Array Value} (g o:Nat):∀ (vs:List Value) (k:Nat) {W:World} {cs:Array Value},NoLl vs→St w W ((g,cs,t)::bs) rs→St w (wset W g o k vs) ((g,rset cs o k vs,t)::bs) rs
 | [],_,_,_,_,h=>h
 | v::vs,k,W,cs,hn,h=>St_wset (cs:=cs) g o vs (k+1) (fun u hu=>hn u (List.mem_cons_of_mem _ hu)) (h.set 0 (o+k) v rfl (hn v List.mem_cons_self))
theorem rset_list (o:Nat):∀ (vs:List Value) (k:Nat) (xs:List Value),o+k+vs.length≤xs.length→(rset xs.toArray o k vs)=(xs.take (o+k)++vs++xs.drop (o+k+vs.length)).toArray
 | [],k,xs,h=>by simp[rset]
 | v::vs,k,xs,h=>by
  rw[List.length_cons] at h
  have e:(xs.toArray.setIfInBounds (o+k) v)=(xs.set (o+k) v).toArray:=by simp
  rw[rset,e,rset_list o vs (k+1) _ (by rw[List.length_set];omega)]
  congr 1
  have hlt:o+k<xs.length:=by omega
  rw[List.set_eq_take_append_cons_drop,if_pos hlt]
  have hl:(xs.take (o+k)).length=o+k:=by rw[List.length_take];omega
  have e2:(xs.take (o+k)++v::xs.drop (o+k+1)).take (o+(k+1))=xs.take (o+k)++[v]:=by
   rw[List.take_append,List.take_of_length_le (by omega),hl,show o+(k+1)-(o+k)=1 by omega];rfl
  have e3:(xs.take (o+k)++v::xs.drop (o+k+1)).drop (o+(k+1)+vs.length)=xs.drop (o+k+(v::vs).length):=by
   rw[List.drop_append,List.drop_eq_nil_of_le (by omega),List.nil_append,hl,show o+(k+1)+vs.length-(o+k)=vs.length+1 by omega,List.drop_succ_cons,List.drop_drop,List.length_cons]
   congr 1;omega
  rw[e2,e3]
  simp
theorem all_set (C:Cod α):∀ {L:List α} {i:Nat} (x:α),i<L.length→C.all (L.set i x)=(C.all L).take (i*C.sz)++C.cs x++(C.all L).drop (i*C.sz+C.sz)
 | [],_,_,h=>by simp at h
 | y::l,0,x,_=>by
  show C.cs x++C.all l=(C.cs y++C.all l).take (0*C.sz)++C.cs x++(C.cs y++C.all l).drop (0*C.sz+C.sz)
  rw[Nat.zero_mul,Nat.zero_add,List.take_zero,List.nil_append,List.drop_append,List.drop_eq_nil_of_le (by rw[C.len];exact Nat.le_refl _),C.len,Nat.sub_self];rfl
 | y::l,i+1,x,h=>by
  have ih:=all_set C (L:=l) (i:=i) x (by simpa using h)
  show C.cs y++C.all (l.set i x)=(C.cs y++C.all l).take ((i+1)*C.sz)++C.cs x++(C.cs y++C.all l).drop ((i+1)*C.sz+C.sz)
  have e:(i+1)*C.sz=C.sz+i*C.sz:=by rw[Nat.add_mul,Nat.one_mul,Nat.add_comm]
  rw[ih,e,List.take_append,List.drop_append,C.len,List.take_of_length_le (l:=C.cs y) (by rw[C.len];omega),show (C.cs y).drop (C.sz+i*C.sz+C.sz)=[] from List.drop_eq_nil_of_le (by rw[C.len];omega),List.nil_append]
  rw[show C.sz+i*C.sz-C.sz=i*C.sz by omega,show C.sz+i*C.sz+C.sz-C.sz=i*C.sz+C.sz by omega]
  simp
/-- An element is stored at place i of a block that holds a list. -/
theorem St_gset (h:St w W ((g,(C.all L).toArray,t)::bs) rs) {i:Nat} (x:α) (hi:i<L.length):St w (wset W g (i*C.sz) 0 (C.cs x)) ((g,(C.all (L.set i x)).toArray,t)::bs) rs:=by
 have h1:=St_wset (cs:=(C.all L).toArray) g (i*C.sz) (C.cs x) 0 (C.noL x) h
 have hle:i*C.sz+C.sz≤L.length*C.sz:=by
  have:=Nat.mul_le_mul_right C.sz (show i+1≤L.length by omega)
  rwa [Nat.add_mul,Nat.one_mul] at this
 rw[rset_list (i*C.sz) (C.cs x) 0 (C.all L) (by rw[all_len,C.len];omega)] at h1
 rw[all_set C x hi]
 rw[Nat.add_zero,C.len] at h1
 exact h1
/-- What make leaves, as a list of one element. -/
theorem all_rep (C:Cod α) (x:α) (n:Nat):madeCells (C.cs x).toArray (n*C.sz)=(C.all (List.replicate n x)).toArray:=by
 apply Array.ext'
 apply List.ext_getElem?
 intro j
 have hp:=C.pos
 rcases Nat.lt_or_ge j (n*C.sz) with hj | hj
 ·have h3:=Nat.div_add_mod j C.sz
  have hm:=Nat.mod_lt j hp
  have hi:j / C.sz<n:=(Nat.div_lt_iff_lt_mul hp).2 hj
  have hk:j%C.sz<(C.cs x).length:=by rw[C.len];exact hm
  have:=all_get (L:=List.replicate n x) (i:=j / C.sz) C (by rw[List.getElem?_replicate,if_pos hi]) (j%C.sz) _ (List.getElem?_eq_getElem hk)
  rw[List.toList_toArray]
  rw[show j / C.sz*C.sz+j%C.sz=j by rw[Nat.mul_comm];exact h3] at this
  rw[this]
  unfold madeCells
  simp only[Array.toList_map,Array.toList_range,List.getElem?_map,List.size_toArray,C.len]
  rw[List.getElem?_range hj]
  simp[List.getElem?_eq_getElem hk]
 ·rw[List.getElem?_eq_none (by simpa [size_madeCells] using hj),List.getElem?_eq_none (by rw[List.toList_toArray,all_len,List.length_replicate];exact hj)]
end
end Go.Proofs.YtdeedofmflelfaaGreatDoor

namespace Go.Proofs.YtdeedofmflelfaaGreatDoor
open Go.RowKit RQ
set_option linter.unusedVariables false
/-- A cell as it lies in memory. -/
structure Ce where
 m:Bool
 v:Rw
 l:Int
def ceC:Cod Ce:=(proC boolC (proC rwC intC)).via fun c=>(c.m,c.v,c.l)
abbrev Ce.vs (c:Ce):Array Value:=#[.bool c.m,.bool c.v.b,.slice c.v.x.A c.v.x.n c.v.x.c,.slice c.v.y.A c.v.y.n c.v.y.c,.int .i64 c.l]
theorem ce_at {W:World} {c:Ce}:ceC.At W c↔(Rd W c.v.x.A c.v.x.n c.v.x.c c.v.x.x∧Rd W c.v.y.A c.v.y.n c.v.y.c c.v.y.x):=
 ⟨fun h=>⟨h.2.1.2.1,h.2.1.2.2⟩,fun h=>⟨trivial,⟨trivial,h.1,h.2⟩,trivial⟩⟩
/-- A column as it lies in memory. -/
structure Cl where
 n:ByteArray
 k:Int
 lv:Sl ByteArray
 ce:Sl Ce
def clC:Cod Cl:=(proC strC (proC intC (proC (slC strC) (slC ceC)))).via fun c=>(c.n,c.k,c.lv,c.ce)
theorem cl_sz:clC.sz=4:=rfl
theorem cl_at {W:World} {c:Cl}:clC.At W c↔((LR strC W c.lv.A c.lv.L.length c.lv.L∧c.lv.L.length≤c.lv.c)∧LR ceC W c.ce.A c.ce.L.length c.ce.L∧c.ce.L.length≤c.ce.c):=
 ⟨fun h=>⟨h.2.2.1,h.2.2.2⟩,fun h=>⟨trivial,trivial,h.1,h.2⟩⟩
/-- A field as it lies in memory. -/
structure Fe where
 n:ByteArray
 k:Int
 mi:Sl ByteArray
 u:Rw
def feC:Cod Fe:=(proC strC (proC intC (proC (slC strC) rwC))).via fun c=>(c.n,c.k,c.mi,c.u)
theorem fe_sz:feC.sz=6:=rfl
theorem fe_at {W:World} {c:Fe}:feC.At W c↔((LR strC W c.mi.A c.mi.L.length c.mi.L∧c.mi.L.length≤c.mi.c)∧Rd W c.u.x.A c.u.x.n c.u.x.c c.u.x.x∧Rd W c.u.y.A c.u.y.n c.u.y.c c.u.y.x):=
 ⟨fun h=>⟨h.2.2.1,h.2.2.2.2⟩,fun h=>⟨trivial,trivial,h.1,trivial,h.2⟩⟩
section
variable {W:World} {A:Option Addr} {n:Nat}
theorem cl_get {L:List Cl} (h:LR clC W A n L) {i:Nat} (hi:i<n):∃ b o c,A=some ⟨b,o,none⟩∧L[i]?=some c∧c∈L∧((LR strC W c.lv.A c.lv.L.length c.lv.L∧c.lv.L.length≤c.lv.c)∧LR ceC W c.ce.A c.ce.L.length c.ce.L∧c.ce.L.length≤c.ce.c)∧W.cell? ⟨b,o+i*4,none⟩=some (.string c.n)∧W.cell? ⟨b,o+i*4+1,none⟩=some (.int .i64 c.k)∧W.cell? ⟨b,o+i*4+2,none⟩=some (.slice c.lv.A c.lv.L.length c.lv.c)∧W.cell? ⟨b,o+i*4+3,none⟩=some (.slice c.ce.A c.ce.L.length c.ce.c):=by
 obtain⟨b,o,c,h1,h2,h3,h4,h5⟩:=h.get hi
 exact⟨b,o,c,h1,h2,h3,cl_at.1 h4,h5 0 _ rfl,h5 1 _ rfl,h5 2 _ rfl,h5 3 _ rfl⟩
theorem fe_get {L:List Fe} (h:LR feC W A n L) {i:Nat} (hi:i<n):∃ b o c,A=some ⟨b,o,none⟩∧L[i]?=some c∧c∈L∧((LR strC W c.mi.A c.mi.L.length c.mi.L∧c.mi.L.length≤c.mi.c)∧Rd W c.u.x.A c.u.x.n c.u.x.c c.u.x.x∧Rd W c.u.y.A c.u.y.n c.u.y.c c.u.y.x)∧W.cell? ⟨b,o+i*6,none⟩=some (.string c.n)∧W.cell? ⟨b,o+i*6+1,none⟩=some (.int .i64 c.k)∧W.cell? ⟨b,o+i*6+2,none⟩=some (.slice c.mi.A c.mi.L.length c.mi.c)∧W.cell? ⟨b,o+i*6+3,none⟩=some (.bool c.u.b)∧W.cell? ⟨b,o+i*6+4,none⟩=some (.slice c.u.x.A c.u.x.n c.u.x.c)∧W.cell? ⟨b,o+i*6+5,none⟩=some (.slice c.u.y.A c.u.y.n c.u.y.c):=by
 obtain⟨b,o,c,h1,h2,h3,h4,h5⟩:=h.get hi
 exact⟨b,o,c,h1,h2,h3,fe_at.1 h4,h5 0 _ rfl,h5 1 _ rfl,h5 2 _ rfl,h5 3 _ rfl,h5 4 _ rfl,h5 5 _ rfl⟩
theorem str_get {L:List ByteArray} (h:LR strC W A n L) {i:Nat} (hi:i<n):∃ b o c,A=some ⟨b,o,none⟩∧L[i]?=some c∧c∈L∧W.cell? ⟨b,o+i,none⟩=some (.string c):=by
 obtain⟨b,o,c,h1,h2,h3,_,h5⟩:=h.get hi
 have:=h5 0 _ rfl
 rw[show strC.sz=1 from rfl,Nat.mul_one,Nat.add_zero] at this
 exact⟨b,o,c,h1,h2,h3,this⟩
theorem sl_get {α:Type} {C:Cod α} {L:List (Sl α)} (h:LR (slC C) W A n L) {i:Nat} (hi:i<n):∃ b o c,A=some ⟨b,o,none⟩∧L[i]?=some c∧c∈L∧(LR C W c.A c.L.length c.L∧c.L.length≤c.c)∧W.cell? ⟨b,o+i,none⟩=some (.slice c.A c.L.length c.c):=by
 obtain⟨b,o,c,h1,h2,h3,h4,h5⟩:=h.get hi
 have:=h5 0 _ rfl
 rw[show (slC C).sz=1 from rfl,Nat.mul_one,Nat.add_zero] at this
 exact⟨b,o,c,h1,h2,h3,h4,this⟩
end
/-- What a cell says: missing, sign, numerator, denominator, level. -/
abbrev Cx:=Bool×Bool×List Nat×List Nat×Int
def Ce.cx (c:Ce):Cx:=(c.m,c.v.b,c.v.x.x,c.v.y.x,c.l)
/-- What a column says: name, kind, levels, cells. -/
structure Lx where
 n:ByteArray
 k:Int
 lv:List ByteArray
 ce:List Cx
def Cl.lx (c:Cl):Lx:=⟨c.n,c.k,c.lv.L,c.ce.L.map Ce.cx⟩
/-- Bytes of names. -/
def letB (c:UInt8):Bool:=decide (97≤c.toNat)&&decide (c.toNat≤122)||decide (65≤c.toNat)&&decide (c.toNat≤90)
def digB (c:UInt8):Bool:=decide (48≤c.toNat)&&decide (c.toNat≤57)
def innB (c:UInt8):Bool:=letB c||digB c||c==95||c==46
def powB:ByteArray:=⟨#[112,111,119,101,114]⟩
/-- Is this a name? -/
def nameL (l:List UInt8):Bool:=match l with
 | []=>false
 | c::r=>decide (l.length≤32)&&letB c && !(l==[112,111,119,101,114])&&r.all innB
def nameB (s:ByteArray):Bool:=nameL s.data.toList
/-- Are all texts different? -/
def seB (a b:ByteArray):Bool:=a.toList==b.toList
def inB (s:ByteArray) (l:List ByteArray):Bool:=l.any (seB s)
theorem seB_eq {a b:ByteArray}:seB a b=true↔a=b:=by
 unfold seB
 rw[beq_iff_eq,Lib.toList_data,Lib.toList_data]
 constructor
 ·intro h
  have:=congrArg List.toArray h
  exact ByteArray.ext (by simpa using this)
 ·rintro rfl;rfl
theorem inB_mem {s:ByteArray} {l:List ByteArray}:inB s l=true↔s∈l:=by
 unfold inB
 rw[List.any_eq_true]
 constructor
 ·rintro ⟨x,hx,h⟩;rw[seB_eq] at h;exact h ▸ hx
 ·intro h;exact⟨s,h,seB_eq.2 rfl⟩
def diffB:List ByteArray→Bool
 | []=>true
 | s::l=>!(inB s l)&&diffB l
theorem diffB_nd:∀ {l:List ByteArray},diffB l=true↔l.Nodup
 | []=>by simp[diffB]
 | s::l=>by
  rw[diffB,Bool.and_eq_true,Bool.not_eq_true',List.nodup_cons,diffB_nd]
  have:=inB_mem (s:=s) (l:=l)
  cases h:inB s l
  ·simp only[true_and,h,Bool.false_eq_true,false_iff] at this ⊢;simp[this]
  ·simp only[h,true_iff] at this;simp[this]
/-- Texts that are names, and different. -/
def namesB (l:List ByteArray):Bool:=diffB l&&l.all nameB
end Go.Proofs.YtdeedofmflelfaaGreatDoor

namespace Go.Proofs.YtdeedofmflelfaaGreatDoor
open Go.RowKit RQ
set_option linter.unusedVariables false
set_option maxRecDepth 100000 in
set_option maxHeartbeats 4000000 in
theorem isLetter_any (c:UInt8) (w:World):Calls Tryz.prog 39 #[.int .u8 c.toNat] w fun e w'=>e=.returned (.bool (letB c))∧w'=w:=by
 unfold letB
 generalize c.toNat=n
 by_cases h0:97≤n<;>by_cases h1:n≤122<;>by_cases h2:65≤n<;>by_cases h3:n≤90
 all_goals try (exfalso;omega)
 all_goals
  (try have g0:97≤(n:Int):=by omega)
  (try have g0:¬ 97≤(n:Int):=by omega)
  (try have g1:(n:Int)≤122:=by omega)
  (try have g1:¬ (n:Int)≤122:=by omega)
  (try have g2:65≤(n:Int):=by omega)
  (try have g2:¬ 65≤(n:Int):=by omega)
  (try have g3:(n:Int)≤90:=by omega)
  (try have g3:¬ (n:Int)≤90:=by omega)
  go_enter Tryz.func39,Tryz.ntmps39
  go_wp2
  go_ret
  exact⟨by simp[*],rfl⟩
set_option maxRecDepth 100000 in
set_option maxHeartbeats 4000000 in
theorem isDigit_any (c:UInt8) (w:World):Calls Tryz.prog 40 #[.int .u8 c.toNat] w fun e w'=>e=.returned (.bool (digB c))∧w'=w:=by
 unfold digB
 generalize c.toNat=n
 by_cases h0:48≤n<;>by_cases h1:n≤57
 all_goals try (exfalso;omega)
 all_goals
  (try have g0:48≤(n:Int):=by omega)
  (try have g0:¬ 48≤(n:Int):=by omega)
  (try have g1:(n:Int)≤57:=by omega)
  (try have g1:¬ (n:Int)≤57:=by omega)
  go_enter Tryz.func40,Tryz.ntmps40
  go_wp2
  go_ret
  exact⟨by simp[*],rfl⟩
set_option maxRecDepth 100000 in
set_option maxHeartbeats 4000000 in
theorem risLetter_any (c:UInt8) (w:World):Calls Tryz.prog 41 #[.int .u8 c.toNat] w fun e w'=>e=.returned (.bool (letB c))∧w'=w:=by
 unfold letB
 generalize c.toNat=n
 by_cases h0:97≤n<;>by_cases h1:n≤122<;>by_cases h2:65≤n<;>by_cases h3:n≤90
 all_goals try (exfalso;omega)
 all_goals
  (try have g0:97≤(n:Int):=by omega)
  (try have g0:¬ 97≤(n:Int):=by omega)
  (try have g1:(n:Int)≤122:=by omega)
  (try have g1:¬ (n:Int)≤122:=by omega)
  (try have g2:65≤(n:Int):=by omega)
  (try have g2:¬ 65≤(n:Int):=by omega)
  (try have g3:(n:Int)≤90:=by omega)
  (try have g3:¬ (n:Int)≤90:=by omega)
  go_enter Tryz.func41,Tryz.ntmps41
  go_wp2
  go_ret
  exact⟨by simp[*],rfl⟩
theorem nameB_cons {s:ByteArray} (h:0<s.size):nameB s=(decide (s.size≤32)&&letB s[0] && !(seB s powB)&&s.data.toList.all innB):=by
 unfold nameB nameL
 have h0:=toList_get (k:=0) h
 have hl:=toList_len s
 have hse:seB s powB=(s.data.toList==[112,111,119,101,114]):=by unfold seB;rw[Lib.toList_data,Lib.toList_data];rfl
 rw[hse]
 generalize s[0]=c at *
 revert h0 hl
 generalize s.data.toList=l
 intro hl h0
 cases l with
 | nil=>simp at h0
 | cons a r=>
  obtain rfl:a=c:=by simpa using h0
  rw[←hl]
  simp only[List.all_cons]
  cases hb:letB a
  ·simp
  ·have:innB a=true:=by unfold innB;rw[hb];rfl
   rw[this];simp
theorem nameB_no {s:ByteArray} (h:0<s.size) (h2:32<s.size∨seB s powB=true∨letB s[0]=false∨∃ i,∃ (hi:i<s.size),innB s[i]=false):nameB s=false:=by
 rw[nameB_cons h]
 rcases h2 with h2 | h2 | h2 | ⟨i,hi,h2⟩
 ·rw[decide_eq_false (by omega)];rfl
 ·rw[h2];simp
 ·rw[h2];simp
 ·have:s.data.toList.all innB=false:=by
   rw[List.all_eq_false]
   exact⟨s[i],List.mem_of_getElem? (toList_get hi),by rw[h2];simp⟩
  rw[this];simp
theorem nameB_yes {s:ByteArray} (h:0<s.size) (h1:s.size≤32) (h2:seB s powB=false) (h3:letB s[0]=true) (h4:∀ i,(hi:i<s.size)→innB s[i]=true):nameB s=true:=by
 rw[nameB_cons h,decide_eq_true h1,h2,h3]
 have:s.data.toList.all innB=true:=by
  rw[List.all_eq_true]
  intro x hx
  obtain⟨i,hi⟩:=List.getElem?_of_mem hx
  have hl:i<s.size:=by rw[←toList_len];exact (List.getElem?_eq_some_iff.1 hi).1
  rw[toList_get hl] at hi
  injection hi with hi
  rw[←hi];exact h4 i hl
 rw[this];rfl
theorem nameB_nil {s:ByteArray} (h:s.size=0):nameB s=false:=by
 have:s=ByteArray.empty:=ByteArray.ext (by apply Array.eq_empty_of_size_eq_zero;exact h)
 subst this;rfl
theorem inn_parts {c:UInt8}:innB c=(letB c||(digB c||(c==95||c==46))):=by unfold innB;simp[Bool.or_assoc]
theorem u8_eq (c:UInt8) (k:Nat) (hk:k<256):((c.toNat:Int)==(k:Int))=(c==UInt8.ofNat k):=by
 rw[Bool.eq_iff_iff,beq_iff_eq,beq_iff_eq]
 constructor
 ·intro h
  have:c.toNat=k:=by omega
  rw[←this];simp
 ·rintro rfl
  have:(UInt8.ofNat k).toNat=k:=by simp;omega
  rw[this]
set_option maxRecDepth 100000 in
set_option maxHeartbeats 4000000 in
theorem name_any (s:ByteArray) (w:World):Calls Tryz.prog 13 #[.string s] w fun e w'=>e=.returned (.bool (nameB s))∧w'=w:=by
 by_cases h0:s.size=0
 ·rw[nameB_nil h0]
  have hs:s=ByteArray.empty:=ByteArray.ext (by apply Array.eq_empty_of_size_eq_zero;exact h0)
  subst hs
  go_enter Tryz.func13,Tryz.ntmps13
  go_wp2
  go_ret
  exact⟨rfl,rfl⟩
 have hz:0<s.size:=by omega
 have e0:s.toList.isEmpty=false:=by
  rw[Lib.toList_data]
  have:=toList_len s
  cases hh:s.data.toList
  ·rw[hh] at this;simp at this;omega
  ·rfl
 by_cases h1:32<s.size
 ·rw[nameB_no hz (.inl h1)]
  have g1:(32:Int)<(s.size:Int):=by omega
  go_enter Tryz.func13,Tryz.ntmps13
  go_wp2
  go_ret
  exact⟨rfl,rfl⟩
 have g1:¬ (32:Int)<(s.size:Int):=by omega
 have g1':decide ((32:Int)<(s.size:Int))=false:=decide_eq_false g1
 cases h2:seB s powB
 rotate_left
 ·rw[nameB_no hz (.inr (.inl h2))]
  have g2:(s.toList==[112,111,119,101,114])=true:=by have hh:=h2;unfold seB at hh;rw[Lib.toList_data powB] at hh;exact hh
  replace h2:=Lib.hid h2
  go_enter Tryz.func13,Tryz.ntmps13
  go_wp2
  go_ret
  exact⟨rfl,rfl⟩
 have g2:(s.toList==[112,111,119,101,114])=false:=by have hh:=h2;unfold seB at hh;rw[Lib.toList_data powB] at hh;exact hh
 have hL:=Lib.hid (fun c W=>isLetter_any c W)
 have hD:=Lib.hid (fun c W=>isDigit_any c W)
 have gz:(0:Int)<(s.size:Int):=by omega
 cases h3:letB s[0]
 ·rw[nameB_no hz (.inr (.inr (.inl h3)))]
  have hL0:=hL.out s[0]
  rw[h3] at hL0
  replace hL0:=Lib.hid hL0
  clear hL hD h3
  go_enter Tryz.func13,Tryz.ntmps13
  go_wp2_with fail
  refine (hL0.out _).mono ?_
  rintro e w1 ⟨rfl,rfl⟩
  go_wp2
  go_ret
  exact⟨rfl,rfl⟩
 have hL0:=hL.out s[0]
 rw[h3] at hL0
 replace hL0:=Lib.hid hL0
 have hyes:=Lib.hid (nameB_yes hz (by omega) h2 h3)
 have hno:=Lib.hid (fun hh=>nameB_no hz (.inr (.inr (.inr hh))))
 obtain⟨nv,hnv⟩:∃ z,z=nameB s:=⟨_,rfl⟩
 rw[←hnv] at hyes hno ⊢
 replace h2:=Lib.hid h2
 have hsz:=Lib.hid h1
 clear h0 hnv h3 h1
 go_enter Tryz.func13,Tryz.ntmps13
 go_wp2_with fail
 refine (hL0.out _).mono ?_
 rintro e w1 ⟨rfl,rfl⟩
 clear hL0
 go_wp2
 go_loopw [23] (fun iv wr=>∃ i:Nat,i≤s.size∧iv=.int .i64 i∧wr=w1∧(∀ j,(hj:j<i)→∀ (h2:j<s.size),innB s[j]=true)) (fun iv _=>s.size-(intOf iv).toNat)
 case atStart=>exact⟨0,Nat.zero_le _,rfl,rfl,fun j h0=>absurd h0 (Nat.not_lt_zero _)⟩
 case round=>
  obtain⟨i,hin,rfl,rfl,hall⟩:=hrel
  by_cases hlt:i<s.size
  ·have q1:(i:Int)<(s.size:Int):=by omega
   have q2:(0:Int)≤(i:Int):=by omega
   have hi63:=Lib.hid hlt
   have hsh:=Lib.hid hsz.out
   replace hall:=Lib.hid hall
   have hLi:=hL.out s[i]
   have hDi:=hD.out s[i]
   have hip:=inn_parts (c:=s[i])
   have u1:=u8_eq s[i] 95 (by decide)
   have u2:=u8_eq s[i] 46 (by decide)
   have hino:=Lib.hid (fun h=>hno.out ⟨i,hlt,h⟩)
   have hyi:=Lib.hid (fun (h:innB s[i]=true) (j:Nat) (hj:j<i+1) (h2:j<s.size)=>(by rcases Nat.lt_or_ge j i with h3 | h3;exact hall.out j h3 h2;obtain rfl:j=i:=(by omega);exact h:innB s[j]=true))
   generalize innB s[i]=v at *
   have u1:((s[i].toNat:Int)==95)=(s[i]==95):=u1
   have u2:((s[i].toNat:Int)==46)=(s[i]==46):=u2
   have p1:((s[i].toNat:Int)=95)=((s[i]==95)=true):=by rw[←u1,beq_iff_eq]
   have p2:((s[i].toNat:Int)=46)=((s[i]==46)=true):=by rw[←u2,beq_iff_eq]
   generalize (s[i]==95)=b1 at *
   generalize (s[i]==46)=b2 at *
   generalize letB s[i]=b3 at *
   generalize digB s[i]=b4 at *
   replace hLi:=Lib.hid hLi
   replace hDi:=Lib.hid hDi
   clear hlt hin hno
   cases b3
   ·cases b4
    ·cases b1
     ·cases b2
      ·
       have n1:¬ ((s[i].toNat:Int)=95):=by intro h;rw[p1] at h;cases h
       have n2:¬ ((s[i].toNat:Int)=46):=by intro h;rw[p2] at h;cases h
       have mh:=Lib.hid (And.intro n1 n2)
       simp at hip
       subst hip
       clear p1 p2 u1 u2
       have hlt:=hi63.out
       have hs1:=hsh.out
       go_wp2_with fail
       refine (hLi.out _).mono ?_
       rintro e w2 ⟨rfl,rfl⟩
       go_wp2_with fail
       refine (hDi.out _).mono ?_
       rintro e w3 ⟨rfl,rfl⟩
       go_wp2
       all_goals try (exfalso;have mm:=mh.out;rename_i ha hb;simp only[bne_iff_ne,bne_eq_false_iff_eq,ne_eq] at hb;omega)
       have hfi:=hino.out (by first | rfl | trivial)
       subst hfi
       go_ret
       exact⟨rfl,rfl⟩
      ·
       have n2:((s[i].toNat:Int)=46)=True:=by rw[p2];simp
       have mh:=Lib.hid (of_eq_true n2)
       simp at hip
       subst hip
       clear p1 p2 u1 u2
       have hlt:=hi63.out
       have hs1:=hsh.out
       go_wp2_with fail
       refine (hLi.out _).mono ?_
       rintro e w2 ⟨rfl,rfl⟩
       go_wp2_with fail
       refine (hDi.out _).mono ?_
       rintro e w3 ⟨rfl,rfl⟩
       go_wp2
       all_goals try (exfalso;have mm:=mh.out;rename_i ha hb;simp only[bne_iff_ne,bne_eq_false_iff_eq,ne_eq] at hb;omega)
       all_goals
        go_roundw
        case rel=>exact⟨i+1,by omega,by go_num,(by first | rfl | trivial),hyi.out (by first | rfl | trivial)⟩
        case measure=>simp[intOf];omega
     ·
      have n1:((s[i].toNat:Int)=95)=True:=by rw[p1];simp
      have mh:=Lib.hid (of_eq_true n1)
      simp at hip
      subst hip
      clear p1 p2 u1 u2
      have hlt:=hi63.out
      have hs1:=hsh.out
      go_wp2_with fail
      refine (hLi.out _).mono ?_
      rintro e w2 ⟨rfl,rfl⟩
      go_wp2_with fail
      refine (hDi.out _).mono ?_
      rintro e w3 ⟨rfl,rfl⟩
      go_wp2
      all_goals try (exfalso;have mm:=mh.out;rename_i ha hb;simp only[bne_iff_ne,bne_eq_false_iff_eq,ne_eq] at hb;omega)
      all_goals
       go_roundw
       case rel=>exact⟨i+1,by omega,by go_num,(by first | rfl | trivial),hyi.out (by first | rfl | trivial)⟩
       case measure=>simp[intOf];omega
    ·
     simp at hip
     subst hip
     clear p1 p2 u1 u2
     have hlt:=hi63.out
     have hs1:=hsh.out
     go_wp2_with fail
     refine (hLi.out _).mono ?_
     rintro e w2 ⟨rfl,rfl⟩
     go_wp2_with fail
     refine (hDi.out _).mono ?_
     rintro e w3 ⟨rfl,rfl⟩
     go_wp2
     all_goals
      go_roundw
      case rel=>exact⟨i+1,by omega,by go_num,(by first | rfl | trivial),hyi.out (by first | rfl | trivial)⟩
      case measure=>simp[intOf];omega
   ·
    simp at hip
    subst hip
    clear p1 p2 u1 u2
    have hlt:=hi63.out
    have hs1:=hsh.out
    go_wp2_with fail
    refine (hLi.out _).mono ?_
    rintro e w2 ⟨rfl,rfl⟩
    go_wp2
    all_goals
     go_roundw
     case rel=>exact⟨i+1,by omega,by go_num,(by first | rfl | trivial),hyi.out (by first | rfl | trivial)⟩
     case measure=>simp[intOf];omega
  ·obtain rfl:i=s.size:=by omega
   have hfin:=Lib.hid (hyes.out (fun j hj=>hall j hj hj))
   clear hall hin hlt
   go_wp2
   go_ret
   exact⟨by rw[hfin.out];rfl,rfl⟩
end Go.Proofs.YtdeedofmflelfaaGreatDoor

namespace Go.Proofs.YtdeedofmflelfaaGreatDoor
open Go.RowKit RQ
set_option linter.unusedVariables false
/-- What IndexFunc leaves. -/
def IxF {α:Type} (L:List α) (p:α→Bool) (z:Int):Prop:=(z = -1∧∀ r∈L,p r=false)∨∃ (i:Nat) (r:α),z=i∧L[i]?=some r∧p r=true∧∀ j s,j<i→L[j]?=some s→p s=false
theorem IxF.any_ {α:Type} {L:List α} {p:α→Bool} {z:Int} (h:IxF L p z):L.any p=decide (0≤z):=by
 rcases h with ⟨rfl,h⟩ | ⟨i,r,rfl,hr,hp,_⟩
 ·have:L.any p=false:=List.any_eq_false.2 fun x hx=>by rw[h x hx];simp
  rw[this];rfl
 ·rw[List.any_eq_true.2 ⟨r,List.mem_of_getElem? hr,hp⟩]
  exact (decide_eq_true (by omega)).symm
set_option maxRecDepth 100000 in
set_option maxHeartbeats 4000000 in
theorem indexS_any (L:List ByteArray) (A:Option Addr) (n c:Nat) (s:ByteArray) (w:World) (h:LR strC w A n L) (hn:n≤100000):Calls Tryz.prog 144 #[.slice A n c,.string s] w fun e w'=>(∃ z,e=.returned (.int .i64 z)∧IxF L (seB s) z)∧w'=w:=by
 have hb:=Lib.hid hn
 have hlen:=Lib.hid h.len
 replace h:=Lib.hid h
 clear hn
 go_enter Tryz.func144,Tryz.ntmps144
 go_wp2
 go_loopw [8] (fun iv wr=>∃ i:Nat,i≤n∧iv=.int .i64 i∧wr=w∧(∀ j t,j<i→L[j]?=some t→seB s t=false)) (fun iv _=>n-(intOf iv).toNat)
 case atStart=>exact⟨0,Nat.zero_le _,rfl,rfl,fun j s h0=>absurd h0 (Nat.not_lt_zero _)⟩
 case round=>
  obtain⟨i,hin,rfl,rfl,hall⟩:=hrel
  by_cases hlt:i<n
  ·obtain⟨b,o,x,rfl,hx,hxm,e0⟩:=str_get h.out hlt
   have hih:=Lib.hid hlt
   have g1:(i:Int)<(n:Int):=by omega
   have g2:(0:Int)≤(i:Int):=by omega
   replace hall:=Lib.hid hall
   replace hx:=Lib.hid hx
   clear hlt hin hxm
   cases hv:seB s x
   ·have g3:(s.toList==x.toList)=false:=hv
    have g4:(x.toList==s.toList)=false:=by rw[Bool.beq_comm];exact hv
    replace hv:=Lib.hid hv
    have hlt:=hih.out
    have hbb:=hb.out
    go_wp2
    go_roundw
    case rel=>exact⟨i+1,by omega,by go_num,(by first | rfl | trivial),fun j' t h1 h2=>(by rcases Nat.lt_or_ge j' i with h3 | h3;exact hall.out j' t h3 h2;obtain rfl:j'=i:=(by omega);rw[hx.out] at h2;injection h2 with h2;subst h2;exact hv.out)⟩
    case measure=>simp[intOf];omega
   ·have g3:(s.toList==x.toList)=true:=hv
    have g4:(x.toList==s.toList)=true:=by rw[Bool.beq_comm];exact hv
    replace hv:=Lib.hid hv
    go_wp2
    go_ret
    exact⟨⟨_,rfl,.inr ⟨i,x,rfl,hx.out,hv.out,hall.out⟩⟩,rfl⟩
  ·obtain rfl:i=n:=by omega
   have hfin:Hid (∀ r∈L,seB s r=false):=Lib.hid fun r hr=>by
    obtain⟨k,hk⟩:=List.getElem?_of_mem hr
    exact hall k r (by rw[←hlen.out];exact (List.getElem?_eq_some_iff.1 hk).1) hk
   clear hall hin hlt
   go_wp2
   go_ret
   exact⟨⟨-1,rfl,.inl ⟨rfl,hfin.out⟩⟩,rfl⟩
set_option maxRecDepth 100000 in
set_option maxHeartbeats 4000000 in
theorem containsS_any (L:List ByteArray) (A:Option Addr) (n c:Nat) (s:ByteArray) (w:World) (h:LR strC w A n L) (hn:n≤100000):Calls Tryz.prog 124 #[.slice A n c,.string s] w fun e w'=>e=.returned (.bool (inB s L))∧w'=w:=by
 have hX:=Lib.hid (indexS_any L A n c s w h hn)
 clear h hn
 obtain⟨bv,hbv⟩:∃ z,z=inB s L:=⟨_,rfl⟩
 rw[←hbv]
 replace hbv:=Lib.hid hbv
 go_enter Tryz.func124,Tryz.ntmps124
 go_wp2_with fail
 refine hX.out.mono ?_
 rintro e w1 ⟨⟨z,rfl,hz⟩,rfl⟩
 have hz2:=Lib.hid (hz.any_)
 clear hX hz
 go_wp2
 go_ret
 exact⟨by rw[hbv.out];unfold inB;rw[hz2.out];rfl,rfl⟩
theorem inB_app (s:ByteArray) (a b:List ByteArray):inB s (a++b)=(inB s a||inB s b):=List.any_append
theorem diff_snoc (a:List ByteArray) (s:ByteArray):diffB (a++[s])=(diffB a && !(inB s a)):=by
 rw[Bool.eq_iff_iff,Bool.and_eq_true,diffB_nd,diffB_nd,List.nodup_append,Bool.not_eq_true',←Bool.not_eq_true,inB_mem]
 constructor
 ·rintro ⟨h1,_,h3⟩;exact⟨h1,fun h=>h3 s h s List.mem_cons_self rfl⟩
 ·rintro ⟨h1,h2⟩;exact⟨h1,by simp,fun x hx y hy e=>h2 (by rw[List.mem_singleton.1 hy] at e;exact e ▸ hx)⟩
theorem diff_pre {a b:List ByteArray} (h:diffB a=false):diffB (a++b)=false:=by
 rw[←Bool.not_eq_true,diffB_nd] at h ⊢
 exact fun h2=>h (List.nodup_append.1 h2).1
theorem take_snoc {α:Type} {L:List α} {i:Nat} {x:α} (h:L[i]?=some x):L.take (i+1)=L.take i++[x]:=by rw[List.take_add_one,h];rfl
set_option maxRecDepth 100000 in
set_option maxHeartbeats 4000000 in
theorem areDifferent_any (L:List ByteArray) (A:Option Addr) (n c:Nat) (w:World) (h:LR strC w A n L) (hn:n≤100000) (hc:n≤c):Calls Tryz.prog 84 #[.slice A n c] w fun e w'=>e=.returned (.bool (diffB L))∧w'=w:=by
 have hb:=Lib.hid hn
 have hcc:=Lib.hid hc
 have hlen:=Lib.hid h.len
 have hC:Hid (∀ i s,i≤n→Calls Tryz.prog 124 #[.slice A i c,.string s] w fun e w'=>e=.returned (.bool (inB s (L.take i)))∧w'=w):=Lib.hid fun i s hi=>containsS_any (L.take i) A i c s w (h.take_ hi) (by omega)
 replace h:=Lib.hid h
 clear hn hc
 go_enter Tryz.func84,Tryz.ntmps84
 go_wp2
 go_loopw [7] (fun iv wr=>∃ i:Nat,i≤n∧iv=.int .i64 i∧wr=w∧diffB (L.take i)=true) (fun iv _=>n-(intOf iv).toNat)
 case atStart=>exact⟨0,Nat.zero_le _,rfl,rfl,rfl⟩
 case round=>
  obtain⟨i,hin,rfl,rfl,hall⟩:=hrel
  by_cases hlt:i<n
  ·obtain⟨b,o,x,rfl,hx,hxm,e0⟩:=str_get h.out hlt
   have hih:=Lib.hid hlt
   have hCx:=hC.out i x hin
   obtain⟨v,hv⟩:∃ z,z=inB x (L.take i):=⟨_,rfl⟩
   rw[←hv] at hCx
   replace hCx:=Lib.hid hCx
   have hd:=diff_snoc (L.take i) x
   rw[←take_snoc hx,hall,←hv,Bool.true_and] at hd
   have hcc2:=hcc.out
   have g1:(i:Int)<(n:Int):=by omega
   have g2:(0:Int)≤(i:Int):=by omega
   have g3:(i:Int)≤(c:Int):=by omega
   replace hall:=Lib.hid hall
   replace hx:=Lib.hid hx
   replace hd:=Lib.hid hd
   replace hv:=Lib.hid hv
   clear hlt hin hxm hcc2
   go_wp2_with fail
   refine hCx.out.mono ?_
   rintro e w1 ⟨rfl,rfl⟩
   cases v
   ·have hlt:=hih.out
    have hbb:=hb.out
    go_wp2
    go_roundw
    case rel=>exact⟨i+1,by omega,by go_num,(by first | rfl | trivial),hd.out⟩
    case measure=>simp[intOf];omega
   ·have hfin:Hid (diffB L=false):=Lib.hid (by have:=diff_pre (b:=L.drop (i+1)) hd.out;rwa [List.take_append_drop] at this)
    go_wp2
    go_ret
    exact⟨by rw[hfin.out];rfl,rfl⟩
  ·obtain rfl:i=n:=by omega
   have hfin:Hid (diffB L=true):=Lib.hid (by rwa [List.take_of_length_le (by rw[hlen.out];exact Nat.le_refl _)] at hall)
   clear hall hin hlt
   go_wp2
   go_ret
   exact⟨by rw[hfin.out];rfl,rfl⟩
set_option maxRecDepth 100000 in
set_option maxHeartbeats 4000000 in
theorem notName_any (s:ByteArray) (w:World):Calls Tryz.prog 86 #[.string s] w fun e w'=>e=.returned (.bool (!(nameB s)))∧w'=w:=by
 have hN:=Lib.hid (fun W=>name_any s W)
 generalize nameB s=v at *
 go_enter Tryz.func86,Tryz.ntmps86
 go_wp2_with fail
 refine (hN.out _).mono ?_
 rintro e w1 ⟨rfl,rfl⟩
 go_wp2
 go_ret
 exact⟨by simp,rfl⟩
set_option maxRecDepth 100000 in
set_option maxHeartbeats 4000000 in
theorem ixName_any (L:List ByteArray) (A:Option Addr) (n c:Nat)  (w:World) (h:LR strC w A n L) (hn:n≤100000) (hP:∀ (i:Nat) (x:ByteArray),L[i]?=some x→∀ W,Below w.heap.size w W→Calls Tryz.prog 86 #[.string x] W fun e w'=>e=.returned (.bool (!(nameB x)))∧Below W.heap.size W w') :
  Calls Tryz.prog 125 #[.slice A n c,.func (.func 86) #[] #[]] w fun e w'=>(∃ z,e=.returned (.int .i64 z)∧IxF L (fun s=>!(nameB s)) z)∧Below w.heap.size w w':=by
 have hb:=Lib.hid hn
 have hlen:=Lib.hid h.len
 replace h:=Lib.hid h
 obtain⟨pp,hpp⟩:∃ f:ByteArray→Bool,f=(fun s=>!(nameB s)):=⟨_,rfl⟩
 have hPh:Hid (∀ (i:Nat) (x:ByteArray),L[i]?=some x→∀ W,Below w.heap.size w W→Calls Tryz.prog 86 #[.string x] W fun e w'=>e=.returned (.bool (pp x))∧Below W.heap.size W w'):=Lib.hid (by rw[hpp];exact hP)
 rw[←hpp]
 clear hn hP
 replace hpp:=Lib.hid hpp
 go_enter Tryz.func125,Tryz.ntmps125
 go_wp2
 go_loopw [8] (fun iv wr=>∃ i:Nat,i≤n∧iv=.int .i64 i∧Below w.heap.size w wr∧(∀ j s,j<i→L[j]?=some s→pp s=false)) (fun iv _=>n-(intOf iv).toNat)
 case atStart=>exact⟨0,Nat.zero_le _,rfl,Below.refl _ _,fun j s h0=>absurd h0 (Nat.not_lt_zero _)⟩
 case round=>
  obtain⟨i,hin,rfl,B,hall⟩:=hrel
  by_cases hlt:i<n
  ·obtain⟨b,o,x,rfl,hx,hxm,e0⟩:=str_get (h.out.bel B) hlt
   have hPx:=hPh.out i x hx wr B
   obtain⟨v,hv⟩:∃ v,v=pp x:=⟨_,rfl⟩
   rw[←hv] at hPx
   replace hPx:=Lib.hid hPx
   have hih:=Lib.hid hlt
   have g1:(i:Int)<(n:Int):=by omega
   have g2:(0:Int)≤(i:Int):=by omega
   replace B:=Lib.hid B
   replace hall:=Lib.hid hall
   replace hx:=Lib.hid hx
   replace hv:=Lib.hid hv
   clear hlt hin hxm
   go_wp2_with fail
   refine hPx.out.mono ?_
   rintro e w1 ⟨rfl,bb⟩
   have T:=Lib.hid (B.out.trans (bb.mono B.out.size))
   clear bb B hPx e0
   cases v
   ·have hlt:=hih.out
    have hbb:=hb.out
    go_wp2
    go_roundw
    case rel=>exact⟨i+1,by omega,by go_num,T.out,fun j' s h1 h2=>(by rcases Nat.lt_or_ge j' i with h3 | h3;exact hall.out j' s h3 h2;obtain rfl:j'=i:=(by omega);rw[hx.out] at h2;injection h2 with h2;subst h2;exact hv.out.symm)⟩
    case measure=>simp[intOf];omega
   ·go_wp2
    go_ret
    exact⟨⟨_,rfl,.inr ⟨i,x,rfl,hx.out,hv.out.symm,hall.out⟩⟩,T.out⟩
  ·obtain rfl:i=n:=by omega
   have hfin:Hid (∀ r∈L,pp r=false):=Lib.hid fun r hr=>by
    obtain⟨k,hk⟩:=List.getElem?_of_mem hr
    exact hall k r (by rw[←hlen.out];exact (List.getElem?_eq_some_iff.1 hk).1) hk
   replace B:=Lib.hid B
   clear hall hin hlt
   go_wp2
   go_ret
   exact⟨⟨-1,rfl,.inl ⟨rfl,hfin.out⟩⟩,B.out⟩
set_option maxRecDepth 100000 in
set_option maxHeartbeats 4000000 in
theorem cfName_any (L:List ByteArray) (A:Option Addr) (n c:Nat)  (w:World) (h:LR strC w A n L) (hn:n≤100000) (hP:∀ (i:Nat) (x:ByteArray),L[i]?=some x→∀ W,Below w.heap.size w W→Calls Tryz.prog 86 #[.string x] W fun e w'=>e=.returned (.bool (!(nameB x)))∧Below W.heap.size W w') :
  Calls Tryz.prog 85 #[.slice A n c,.func (.func 86) #[] #[]] w fun e w'=>e=.returned (.bool (L.any (fun s=>!(nameB s))))∧Below w.heap.size w w':=by
 have hX:=Lib.hid (ixName_any L A n c  w h hn hP)
 clear h hn hP
 obtain⟨bv,hbv⟩:∃ z,z=L.any (fun s=>!(nameB s)):=⟨_,rfl⟩
 rw[←hbv]
 replace hbv:=Lib.hid hbv
 go_enter Tryz.func85,Tryz.ntmps85
 go_wp2_with fail
 refine hX.out.mono ?_
 rintro e w1 ⟨⟨z,rfl,hz⟩,bb⟩
 have hz2:=Lib.hid (hz.any_)
 replace bb:=Lib.hid bb
 clear hX hz
 go_wp2
 go_ret
 exact⟨by rw[hbv.out,hz2.out];rfl,bb.out⟩
theorem any_not {α:Type} (L:List α) (p:α→Bool):(!(L.any fun x=>!(p x)))=L.all p:=by
 rw[List.any_eq_not_all_not,Bool.not_not]
 congr 1
 funext x;simp
set_option maxRecDepth 100000 in
set_option maxHeartbeats 4000000 in
theorem areNames_any (L:List ByteArray) (A:Option Addr) (n c:Nat) (w:World) (h:LR strC w A n L) (hn:n≤100000) (hc:n≤c):Calls Tryz.prog 43 #[.slice A n c] w fun e w'=>e=.returned (.bool (namesB L))∧Below w.heap.size w w':=by
 have hD:=Lib.hid (areDifferent_any L A n c w h hn hc)
 have hC:=Lib.hid (cfName_any L A n c w h hn (fun i x _ W _=>(notName_any x W).mono fun e w' hh=>⟨hh.1,by rw[hh.2];exact Below.refl _ _⟩))
 have hnm:namesB L=(diffB L && !(L.any fun s=>!(nameB s))):=by unfold namesB;rw[any_not]
 rw[hnm]
 generalize diffB L=d at *
 generalize (L.any fun s=>!(nameB s))=v at *
 clear h hn hc hnm
 cases d
 ·clear hC
  go_enter Tryz.func43,Tryz.ntmps43
  go_wp2_with fail
  refine hD.out.mono ?_
  rintro e w1 ⟨rfl,rfl⟩
  go_wp2
  go_ret
  exact⟨by simp,Below.refl _ _⟩
 ·go_enter Tryz.func43,Tryz.ntmps43
  go_wp2_with fail
  refine hD.out.mono ?_
  rintro e w1 ⟨rfl,rfl⟩
  go_wp2_with fail
  refine hC.out.mono ?_
  rintro e w2 ⟨rfl,bb⟩
  replace bb:=Lib.hid bb
  go_wp2
  go_ret
  exact⟨by simp,bb.out⟩
end Go.Proofs.YtdeedofmflelfaaGreatDoor
