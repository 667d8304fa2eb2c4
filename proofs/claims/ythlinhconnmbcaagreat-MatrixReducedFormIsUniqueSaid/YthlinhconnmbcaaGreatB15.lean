/- Append to a slice of the call's own whose elements hold no limbs: the slice's block is one of the blocks that the call knows. -/
import Derived.Test.YthlinhconnmbcaaGreatB04
set_option linter.unusedVariables false
namespace Go.Proofs.YthlinhconnmbcaaGreat
open Go.RowKit
def NoLl (xs:List Value):Prop:=∀ v∈xs,∀ z:Int,v≠Value.int .u32 z
theorem NoLl.arr {xs:List Value} (h:NoLl xs):NoL xs.toArray:=by
 intro i z e;rw[List.getElem?_toArray] at e
 exact h _ (List.mem_of_getElem? e) z rfl
theorem NoL.lst {cs:Array Value} (h:NoL cs):NoLl cs.toList:=by
 intro v hv z e;obtain⟨i,hi⟩:=List.getElem?_of_mem hv
 rw[Array.getElem?_toList] at hi
 subst e;exact h i z hi
theorem NoLl.app {xs ys:List Value} (h:NoLl xs) (h':NoLl ys):NoLl (xs++ys):=fun v hv=>(List.mem_append.1 hv).elim (h v) (h' v)
theorem NoLl.take {xs:List Value} (h:NoLl xs) (k:Nat):NoLl (xs.take k):=fun v hv=>h v (List.mem_of_mem_take hv)
theorem NoLl.drop {xs:List Value} (h:NoLl xs) (k:Nat):NoLl (xs.drop k):=fun v hv=>h v (List.mem_of_mem_drop hv)
theorem NoLl.nil:NoLl []:=fun v hv=>by cases hv
theorem NoLl.zeros {z:Array Value} (h:NoLl z.toList) (n:Nat):NoLl (Builtin.zeroCells z n).toList:=by
 intro v hv;unfold Builtin.zeroCells at hv;rw[Array.toList_map,List.mem_map] at hv;obtain⟨i,hi,rfl⟩:=hv;have hlt:i<n*z.size:=by simpa using hi
 have hz:0<z.size:=Nat.pos_of_ne_zero (fun e=>by rw[e] at hlt;omega)
 have hm:=Nat.mod_lt i hz;rw[getElem!_pos z _ hm];exact h _ (by rw[Array.mem_toList_iff];exact Array.getElem_mem hm)
section
variable {w W W':World} {bs:List (Nat×Array Value×Nat)} {rs:List (Option Addr×Nat×Nat×List Nat)} {g t:Nat} {cs cs':Array Value}
theorem St.sub (h:St w W ((g,cs,t)::bs) rs):St w W bs rs:=⟨h.bel,fun p hp=>h.bk p (List.mem_cons_of_mem _ hp),(List.pairwise_cons.1 h.nd).2,h.rd⟩
theorem Below.setRow {B:Nat} {a W:World} (h:Below B a W) (hg:B≤g):Below B a (W.setRow g cs):=by
 refine⟨h.os,h.tape,h.output,?_,fun k hk=>?_⟩
 ·have:(W.setRow g cs).heap.size=W.heap.size:=by simp[World.setRow]
  rw[this];exact h.size
 ·rw[setRow_other W g k cs (by omega)];exact h.block k hk
theorem St.setRow (h:St w W ((g,cs,t)::bs) rs) (hn:NoL cs'):St w (W.setRow g cs') ((g,cs',t)::bs) rs:=by
 obtain⟨hb,hl,hw⟩:=h.bk (g,cs,t) List.mem_cons_self;obtain⟨hd,hp⟩:=List.pairwise_cons.1 h.nd;refine⟨Below.setRow h.bel hw,?_,List.pairwise_cons.2 ⟨hd,hp⟩,?_⟩
 ·intro p hp
  rcases List.mem_cons.1 hp with rfl | hp
  ·exact⟨setRow_heap W g cs cs' t (0,0) hb,hn,hw⟩
  ·obtain⟨q1,q2,q3⟩:=h.bk p (List.mem_cons_of_mem _ hp)
   exact⟨q1.keep (setRow_other W g p.1 cs' (hd p hp).symm),q2,q3⟩
 ·intro r hr
  have R:=h.rd r hr;refine⟨R.len,R.cap,R.sm,?_⟩
  rcases R.mem with h0 | ⟨bk,o,hA,hlt,hc⟩
  ·exact .inl h0
  ·rcases Nat.eq_zero_or_pos r.2.1 with hn0 | hn0
   ·exact .inl hn0
   have hne:bk≠g:=by
    rintro rfl;have h1:=hc 0 hn0;rw[Nat.add_zero,cell_of_row W bk o _ t (0,0) hb] at h1;exact hl _ _ h1
   refine .inr ⟨bk,o,hA,by simpa [World.setRow] using hlt,fun k hk=>?_⟩
   rw[World.cell?_of_block (setRow_other W g _ cs' hne)]
   exact hc k hk
end
def Apd (w W:World) (bs:List (Nat×Array Value×Nat)) (rs:List (Option Addr×Nat×Nat×List Nat)) (e size:Nat) (v:Value) (n:Nat) (xs:List Value):Prop:=
 xs.length=n*size∧NoLl xs∧((v=.slice none 0 0∧n=0∧St w W bs rs)∨∃ g cap cur,v=.slice (some ⟨g,0,none⟩) n cap∧n≤cap∧cap≤maxLen∧cur.size=cap*size∧cur.toList.take (n*size)=xs∧St w W ((g,cur,e)::bs) rs)
section
variable {w W W':World} {bs:List (Nat×Array Value×Nat)} {rs:List (Option Addr×Nat×Nat×List Nat)} {e size:Nat} {v:Value} {n:Nat} {xs:List Value}
theorem Apd.nil_ (h:St w W bs rs) (e size:Nat):Apd w W bs rs e size (.slice none 0 0) 0 []:=⟨by simp,NoLl.nil,.inl ⟨rfl,rfl,h⟩⟩
theorem Apd.st (h:Apd w W bs rs e size v n xs):St w W bs rs:=by
 obtain⟨_,_,h | ⟨g,cap,cur,_,_,_,_,_,h⟩⟩:=h
 ·exact h.2.2
 ·exact h.sub
theorem Apd.mp (h:Apd w W bs rs e size v n xs) {rs':List (Option Addr×Nat×Nat×List Nat)} (f:∀ bs',St w W bs' rs→St w W' bs' rs'):Apd w W' bs rs' e size v n xs:=by
 obtain⟨h1,h2,h | ⟨g,cap,cur,k1,k2,k3,k4,k5,h⟩⟩:=h
 ·exact⟨h1,h2,.inl ⟨h.1,h.2.1,f _ h.2.2⟩⟩
 ·exact⟨h1,h2,.inr ⟨g,cap,cur,k1,k2,k3,k4,k5,f _ h⟩⟩
theorem Apd.call (h:Apd w W bs rs e size v n xs) (hb:Below W.heap.size W W'):Apd w W' bs rs e size v n xs:=h.mp fun _ S=>S.call hb
theorem Apd.read (h:Apd w W bs rs e size v n xs) {A:Option Addr} {n' c:Nat} {ys:List Nat} (R:Rd W A n' c ys):Apd w W bs ((A,n',c,ys)::rs) e size v n xs:=h.mp fun _ S=>S.read R
theorem Apd.drew (h:Apd w W bs rs e size v n xs):Apd w W.drew bs rs e size v n xs:=h.mp fun _ S=>S.drew
theorem St.swap {p q:Nat×Array Value×Nat} (h:St w W (p::q::bs) rs):St w W (q::p::bs) rs:=by
 obtain⟨hd,hp⟩:=List.pairwise_cons.1 h.nd;obtain⟨hd',hp'⟩:=List.pairwise_cons.1 hp;refine⟨h.bel,fun r hr=>h.bk r ?_,List.pairwise_cons.2 ⟨fun r hr=>?_,List.pairwise_cons.2 ⟨fun r hr=>hd r (List.mem_cons_of_mem _ hr),hp'⟩⟩,h.rd⟩
 ·rcases List.mem_cons.1 hr with rfl | hr
  ·exact List.mem_cons_of_mem _ List.mem_cons_self
  ·rcases List.mem_cons.1 hr with rfl | hr
   ·exact List.mem_cons_self
   ·exact List.mem_cons_of_mem _ (List.mem_cons_of_mem _ hr)
 ·rcases List.mem_cons.1 hr with rfl | hr
  ·exact (hd q List.mem_cons_self).symm
  ·exact hd' r hr
theorem Apd.alloc (h:Apd w W bs rs e size v n xs) (cs:Array Value) (t:Nat) (hn:NoL cs):Apd w (W.alloc (.cells cs t)) ((W.heap.size,cs,t)::bs) rs e size v n xs:=by
 obtain⟨h1,h2,h | ⟨g,cap,cur,k1,k2,k3,k4,k5,h⟩⟩:=h
 ·exact⟨h1,h2,.inl ⟨h.1,h.2.1,h.2.2.alloc cs t hn⟩⟩
 ·exact⟨h1,h2,.inr ⟨g,cap,cur,k1,k2,k3,k4,k5,(h.alloc cs t hn).swap⟩⟩
theorem Apd.sub {p:Nat×Array Value×Nat} (h:Apd w W (p::bs) rs e size v n xs):Apd w W bs rs e size v n xs:=by
 obtain⟨h1,h2,h | ⟨g,cap,cur,k1,k2,k3,k4,k5,h⟩⟩:=h
 ·exact⟨h1,h2,.inl ⟨h.1,h.2.1,h.2.2.sub⟩⟩
 ·exact⟨h1,h2,.inr ⟨g,cap,cur,k1,k2,k3,k4,k5,h.swap.sub⟩⟩
theorem Apd.cells (h:Apd w W bs rs e size v n xs) (hn:0<n):∃ g cap,v=.slice (some ⟨g,0,none⟩) n cap∧n≤cap∧g<W.heap.size∧∀ j u,xs[j]?=some u→W.cell? ⟨g,j,none⟩=some u:=by
 obtain⟨h1,h2,h | ⟨g,cap,cur,k1,k2,k3,k4,k5,h⟩⟩:=h
 ·omega
 ·have hb:=(h.bk _ List.mem_cons_self).1
  refine⟨g,cap,k1,k2,hb.lt,fun j u hu=>hb.cell ?_⟩
  rw[←k5,List.getElem?_take] at hu
  split at hu
  ·simpa using hu
  ·cases hu
end
section
variable {w W:World} {bs bs':List (Nat×Array Value×Nat)} {rs rs':List (Option Addr×Nat×Nat×List Nat)} {e size:Nat} {v:Value} {n:Nat} {xs:List Value}
theorem St.prm (h:St w W bs rs) (p:bs.Perm bs'):St w W bs' rs:=
 ⟨h.bel,fun q hq=>h.bk q (p.mem_iff.2 hq),(p.pairwise_iff (fun h e=>h e.symm)).1 h.nd,h.rd⟩
def OB (ob:List (Nat×Array Value×Nat)) (e size:Nat) (v:Value) (n:Nat) (xs:List Value):Prop:=
 (v=.slice none 0 0∧n=0∧ob=[])∨∃ g cap cur,v=.slice (some ⟨g,0,none⟩) n cap∧n≤cap∧cap≤maxLen∧cur.size=cap*size∧cur.toList.take (n*size)=xs∧ob=[(g,cur,e)]
theorem Apd.open_ (h:Apd w W bs rs e size v n xs):∃ ob,(xs.length=n*size∧NoLl xs∧OB ob e size v n xs)∧St w W (bs++ob) rs:=by
 obtain⟨h1,h2,h | ⟨g,cap,cur,k1,k2,k3,k4,k5,h⟩⟩:=h
 ·exact⟨[],⟨h1,h2,.inl ⟨h.1,h.2.1,rfl⟩⟩,by rw[List.append_nil];exact h.2.2⟩
 ·exact⟨[(g,cur,e)],⟨h1,h2,.inr ⟨g,cap,cur,k1,k2,k3,k4,k5,rfl⟩⟩,h.prm (List.perm_append_comm (l₁:=[(g,cur,e)]))⟩
theorem Apd.close {ob:List (Nat×Array Value×Nat)} (h:xs.length=n*size∧NoLl xs∧OB ob e size v n xs) (S:St w W (bs++ob) rs):Apd w W bs rs e size v n xs:=by
 obtain⟨h1,h2,⟨rfl,rfl,rfl⟩ | ⟨g,cap,cur,k1,k2,k3,k4,k5,rfl⟩⟩:=h
 ·exact⟨h1,h2,.inl ⟨rfl,rfl,by rw[List.append_nil] at S;exact S⟩⟩
 ·exact⟨h1,h2,.inr ⟨g,cap,cur,k1,k2,k3,k4,k5,S.prm List.perm_append_comm⟩⟩
end
section
variable {P:Program} {w W:World} {bs:List (Nat×Array Value×Nat)} {rs:List (Option Addr×Nat×Nat×List Nat)} {e size:Nat} {v:Value} {n:Nat} {xs:List Value}
theorem Apd.run (t ty:TypeId) (i:TypeInfo) (z:Value) (bytes:Nat) (ht:P.underlying t=some (.slice e)) (hi:P.info? e=some i) (hz:i.zero=some z)
  (hsize:i.size=size) (hby:i.bytes=bytes) (hzs:z.cells.size=size) (hzn:NoLl z.cells.toList)
  (h:Apd w W bs rs e size v n xs) (a:Addr) (m c:Nat) (news:List Value) (hl:news.length=m*size) (hnews:∀ j u,news[j]?=some u→W.cell? (a.add j)=some u) (h1:∀ u∈news,u.oneCell'=true) (hnn:NoLl news) (hm:0<m)
  (h63:n+m≤maxLen) (hbytes:(n+m)*bytes≤140737488355328) :
  ∃ v' W',(Builtin.append_ #[t,t] ty #[v,.slice (some a) m c]).run P W=.ok v' W'∧Apd w W' bs rs e size v' (n+m) (xs++news):=by
 subst hsize;subst hby;have hsmall:n+m≤9223372036854775807:=by simp only[maxLen] at h63;omega
 obtain⟨hx,hxn,h⟩:=h;have hlen:(xs++news).length=(n+m)*i.size:=by rw[List.length_append,hx,hl,Nat.add_mul]
 have hall:=hxn.app hnn;have made:∀ (old:Nat) (bs':List (Nat×Array Value×Nat)),St w W bs' rs→∀ bs,(∀ W' p,St w W' (p::bs') rs→St w W' (p::bs) rs)→old<n+m →
   Apd w (W.drew.alloc (.cells (xs.toArray++news.toArray++Builtin.zeroCells z.cells (grownCap W (n+m) old e-(n+m))) e)) bs rs e i.size (.slice (some ⟨W.heap.size,0,none⟩) (n+m) (grownCap W (n+m) old e)) (n+m) (xs++news):=by
  intro old bs' S bs hbs ho;have hge:=grownCap_ge W (n+m) old e;have hcm:=grownCap_le_maxLen W (n+m) old e h63;have hno:NoL (xs.toArray++news.toArray++Builtin.zeroCells z.cells (grownCap W (n+m) old e-(n+m))):=by
   have:=(hall.app (NoLl.zeros hzn (grownCap W (n+m) old e-(n+m)))).arr
   rwa [show ((xs++news)++(Builtin.zeroCells z.cells (grownCap W (n+m) old e-(n+m))).toList).toArray=xs.toArray++news.toArray++Builtin.zeroCells z.cells (grownCap W (n+m) old e-(n+m)) from Array.ext' (by simp)] at this
  refine⟨hlen,hall,.inr ⟨W.heap.size,_,_,rfl,hge,hcm,?_,?_,hbs _ _ (S.drew.alloc _ e hno)⟩⟩
  ·simp only[Array.size_append,List.size_toArray,size_zeroCells,hzs,hx,hl,←Nat.add_mul]
   congr 1
   omega
  ·simp only[Array.toList_append,List.append_assoc]
   rw[←List.append_assoc,←hlen];exact List.take_left
 rcases h with ⟨rfl,rfl,S⟩ | ⟨g,cap,cur,rfl,hnc,hcm,hcs,htake,S⟩
 ·have hx0:xs=[]:=List.eq_nil_of_length_eq_zero (by simpa using hx)
  subst hx0;have hr:=run_append_nil (P:=P) W t ty e i z ht hi hz a m c news hl hnews hm (by omega) (by have hb:=hbytes;simp only[Nat.zero_add] at hb;omega)
  have hgr:=made 0 bs S bs (fun _ _ h=>h) (by omega)
  simp only[Nat.zero_add,List.nil_append,Array.empty_append] at hgr ⊢;exact⟨_,_,hr,hgr⟩
 ·have hb:=(S.bk _ List.mem_cons_self).1
  by_cases hroom:n+m≤cap
  ·have hfit:n*i.size+news.length≤cur.size:=by rw[hl,hcs,←Nat.add_mul];exact Nat.mul_le_mul_right _ hroom
   have hr:=run_append_room (P:=P) W t ty e i ht hi g n cap cur hb a m c news hl hnews h1 hroom hfit;have hcn:=(S.bk _ List.mem_cons_self).2.1;refine⟨_,_,hr,hlen,hall,.inr ⟨g,cap,_,rfl,hroom,hcm,?_,?_,S.setRow (((hcn.lst.take _).app hnn).app (hcn.lst.drop _)).arr⟩⟩
   ·simp only[List.size_toArray,List.length_append,List.length_take,List.length_drop,Array.length_toList]
    omega
   ·rw[htake,←hlen]
    exact List.take_left
  ·have holds:∀ j u,xs[j]?=some u→W.cell? ((⟨g,0,none⟩:Addr).add j)=some u:=by
    intro j u hu;have hadd:(⟨g,0,none⟩:Addr).add j=⟨g,j,none⟩:=by unfold Addr.add;split<;>simp_all
    rw[hadd];refine hb.cell ?_
    rw[←htake,List.getElem?_take] at hu
    split at hu
    ·simpa using hu
    ·cases hu
   have hr:=run_append_grow (P:=P) W t ty e i z ht hi hz ⟨g,0,none⟩ n cap xs hx holds a m c news hl hnews (by omega) (by omega) (growslice_fits (by omega) hbytes)
   exact⟨_,_,hr,made cap _ S bs (fun W' p h=>h.swap.sub) (by omega)⟩
theorem Apd.wp {ops:Array Oper} {rest:List Oper} {o:Oper} {a:Act} {Q:Exit→Act→World→Prop} (hgd:o.guard=none) (s x:Operand) (t:TypeId)
  (ho:o.op=.call { callee:=.builtin .append,args:=#[s,x],argTypes:=#[t,t] })
  (i:TypeInfo) (z:Value) (bytes:Nat) (ht:P.underlying t=some (.slice e)) (hi:P.info? e=some i) (hz:i.zero=some z)
  (hsize:i.size=size) (hby:i.bytes=bytes) (hzs:z.cells.size=size) (hzn:NoLl z.cells.toList)
  (hs:a.eval s=v) (h:Apd w W bs rs e size v n xs) (ad:Addr) (m c:Nat) (news:List Value) (hx:a.eval x=.slice (some ad) m c) (hl:news.length=m*size) (hnews:∀ j u,news[j]?=some u→W.cell? (ad.add j)=some u) (h1:∀ u∈news,u.oneCell'=true) (hnn:NoLl news) (hm:0<m)
  (h63:n+m≤maxLen) (hbytes:(n+m)*bytes≤140737488355328)
  (hk:∀ v' W',Apd w W' bs rs e size v' (n+m) (xs++news)→wpList P ops Q rest (a.put o.dst v') W'):wpList P ops Q (o::rest) a W:=by
 refine wpList_plain hgd fun _ hK=>?_
 obtain⟨v',W',hr,h2⟩:=Apd.run (P:=P) t o.type i z bytes ht hi hz hsize hby hzs hzn h ad m c news hl hnews h1 hnn hm h63 hbytes;unfold Oper.wp execOp;simp only[ho,resolve,invoke,builtin,Sem.run_bind,Sem.run_pure,Result.andThen_ok,List.map_toArray,List.map_cons,List.map_nil,hs,hx,hr];exact hK _ _ (hk v' W' h2)
end
end Go.Proofs.YthlinhconnmbcaaGreat
