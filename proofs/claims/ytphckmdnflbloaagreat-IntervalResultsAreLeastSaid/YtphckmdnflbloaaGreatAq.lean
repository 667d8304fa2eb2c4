/- Slices of valid numbers; append of a number; a number is among others. -/
import Derived.Test.YtphckmdnflbloaaGreatAp
import Derived.Test.YtphckmdnflbloaaGreatQTkz
namespace Go.Proofs.YtphckmdnflbloaaGreat
open Go.RowKit RQ
/-- A valid number as a slice's element holds it. -/
structure Rq where
 A:Option Addr
 n:Nat
 c:Nat
 D:Option Addr
 m:Nat
 d:Nat
 q:Rat
def Rq.cs (r:Rq):List Value:=[.bool (ng r.q.num),.slice r.A r.n r.c,.slice r.D r.m r.d]
def Rq.rd (r:Rq):List (Option Addr×Nat×Nat×List Nat):=[(r.A,r.n,r.c,limbs r.q.num.natAbs),(r.D,r.m,r.d,dn r.q)]
def Rq.at (r:Rq) (W:World):Prop:=RR W r.A r.n r.c r.D r.m r.d r.q
def csL (L:List Rq):List Value:=L.flatMap Rq.cs
def rdL (L:List Rq):List (Option Addr×Nat×Nat×List Nat):=L.flatMap Rq.rd
theorem csL_get {L:List Rq} {i:Nat} {r:Rq} (h:L[i]?=some r):(csL L)[i*3]?=some (.bool (ng r.q.num))∧(csL L)[i*3+1]?=some (.slice r.A r.n r.c)∧(csL L)[i*3+2]?=some (.slice r.D r.m r.d):=by
 induction L generalizing i with
 | nil=>simp at h
 | cons s l ih=>
  have e:csL (s::l)=s.cs++csL l:=rfl
  cases i with
  | zero=>
   simp at h
   subst h
   rw[e]
   refine⟨rfl,rfl,rfl⟩
  | succ i=>
   obtain⟨h0,h1,h2⟩:=ih (i:=i) (by simpa using h)
   have k:∀ j,(s.cs++csL l)[(i+1)*3+j]?=(csL l)[i*3+j]?:=fun j=>by
    rw[List.getElem?_append_right (by simp[Rq.cs];omega)]
    congr 1
    simp[Rq.cs];omega
   rw[e]
   exact⟨(k 0).trans h0,(k 1).trans h1,(k 2).trans h2⟩
theorem NoLl.csL (L:List Rq):NoLl (csL L):=by
 intro v hv z e
 obtain⟨r,_,hr⟩:=List.mem_flatMap.1 hv
 subst e
 simp[Rq.cs] at hr
/-- A block begins with the numbers L. -/
structure Lq (W:World) (g:Nat) (L:List Rq):Prop where
 lt:g<W.heap.size
 cl:∀ (i:Nat) (r:Rq),L[i]?=some r→W.cell? ⟨g,i*3,none⟩=some (.bool (ng r.q.num))∧W.cell? ⟨g,i*3+1,none⟩=some (.slice r.A r.n r.c)∧W.cell? ⟨g,i*3+2,none⟩=some (.slice r.D r.m r.d)
 at_:∀ r∈L,r.at W
theorem Lq.bel {W W':World} {g:Nat} {L:List Rq} (h:Lq W g L) (hb:Below W.heap.size W W'):Lq W' g L:=by
 refine⟨Nat.lt_of_lt_of_le h.lt hb.size,fun i r hi=>?_,fun r hr=>⟨(h.at_ r hr).n.below hb,(h.at_ r hr).d.below hb⟩⟩
 obtain⟨h1,h2,h3⟩:=h.cl i r hi
 have k:=fun j=>World.cell?_of_block (a:=⟨g,j,none⟩) (hb.block g h.lt)
 exact⟨(k _).trans h1,(k _).trans h2,(k _).trans h3⟩
theorem Lq.of {W:World} {g t:Nat} {cur:Array Value} {L:List Rq} (h:Cb W g cur t) (ht:cur.toList.take (L.length*3)=csL L) (hr:∀ r∈L,r.at W):Lq W g L:=by
 have k:∀ j u,(csL L)[j]?=some u→W.cell? ⟨g,j,none⟩=some u:=fun j u hu=>h.cell (by
  rw[←ht,List.getElem?_take] at hu
  split at hu
  ·simpa using hu
  ·cases hu)
 refine⟨h.lt,fun i r hi=>?_,hr⟩
 obtain⟨h0,h1,h2⟩:=csL_get hi
 exact⟨k _ _ h0,k _ _ h1,k _ _ h2⟩
theorem infoR:(Tryz.prog.info? 26).map (fun i=>(i.zero,i.size,i.bytes))=some (some (.agg #[.bool false,.slice none 0 0,.slice none 0 0]),3,56):=by kernel_rfl
/-- l = append(l, x) for a number x that lies in a block of its own. -/
theorem app_rat {w W:World} {bs:List (Nat×Array Value×Nat)} {rs:List (Option Addr×Nat×Nat×List Nat)} {v:Value} {n:Nat} {xs:List Value} {ops:Array Oper} {rest:List Oper} {o:Oper} {a:Act} {Q:Exit→Act→World→Prop} (hgd:o.guard=none) (s x:Operand)
  (ho:o.op=.call { callee:=.builtin .append,args:=#[s,x],argTypes:=#[42,42] })
  (hs:a.eval s=v) (h:Apd w W bs rs 26 3 v n xs) (g:Nat) {b:Bool} {A:Option Addr} {n' c:Nat} {D:Option Addr} {m d:Nat} (hx:a.eval x=.slice (some ⟨g,0,none⟩) 1 1) (hc:Cb W g #[.bool b,.slice A n' c,.slice D m d] 26) (hn:n≤100000)
  (hk:∀ v' W',Apd w W' bs rs 26 3 v' (n+1) (xs++[.bool b,.slice A n' c,.slice D m d])→wpList Tryz.prog ops Q rest (a.put o.dst v') W'):wpList Tryz.prog ops Q (o::rest) a W:=by
 obtain⟨i0,hi,hzz⟩:=Option.map_eq_some_iff.1 infoR
 simp only[Prod.mk.injEq] at hzz
 obtain⟨hz0,hz1,hz2⟩:=hzz
 refine Apd.wp hgd s x 42 ho i0 _ 56 Tryz.underlying42 hi hz0 hz1 hz2 rfl ?_ hs h ⟨g,0,none⟩ 1 1 [.bool b,.slice A n' c,.slice D m d] hx rfl ?_ ?_ ?_ (by decide) (by unfold maxLen;omega) (by omega) hk
 ·intro v hv z e;subst e;simp[Value.cells] at hv
 ·intro j u hu
  have hadd:(⟨g,0,none⟩:Addr).add j=⟨g,j,none⟩:=by unfold Addr.add;split<;>simp_all
  rw[hadd]
  exact hc.cell (by simpa using hu)
 ·intro u hu;simp at hu;rcases hu with rfl | rfl | rfl<;>rfl
 ·intro v hv z e;subst e;simp at hv
set_option maxRecDepth 100000 in
set_option maxHeartbeats 4000000 in
theorem among_any (L:List Rq) (g cap:Nat) (q:Rat) (A1:Option Addr) (n1 c1:Nat) (D1:Option Addr) (m1 d1:Nat) (w:World) (h:Lq w g L) (hl:L.length≤1000) (hs:∀ r∈L,Rs r.q 200) (hq:∃ r∈L,r.q=q) (sq:Rs q 200) (X:RR w A1 n1 c1 D1 m1 d1 q):Calls Tryz.prog 36 #[.agg #[.bool (ng q.num),.slice A1 n1 c1,.slice D1 m1 d1],.slice (some ⟨g,0,none⟩) L.length cap] w fun e w'=>e=.returned (.bool true)∧Below w.heap.size w w':=by
 generalize hk:L.length=k at hl ⊢
 replace hk:=Lib.hid hk
 replace h:=Lib.hid h
 replace hs:=Lib.hid hs
 replace hq:=Lib.hid hq
 replace sq:=Lib.hid sq
 have hlh:=Lib.hid hl
 have S:=((((St.new w).read X.n).read X.d).allocAt (w.heap.size) #[.bool (ng q.num),.slice A1 n1 c1,.slice D1 m1 d1] 26 (noL3 _ _ _ _ _ _ _) (by simp))
 replace S:=Lib.hid S
 clear X hl
 go_enter Tryz.func36,Tryz.ntmps36
 go_wp2
 go_loopw [5] (fun iv wr=>∃ (i:Nat),i≤k∧iv=.int .i64 i∧(∀ j r,j<i→L[j]?=some r→r.q≠q)∧St w wr [(w.heap.size,#[.bool (ng q.num),.slice A1 n1 c1,.slice D1 m1 d1],26)] [(D1,m1,d1,dn q),(A1,n1,c1,limbs q.num.natAbs)]) (fun iv _=>k-(intOf iv).toNat)
 case atStart=>exact⟨0,Nat.zero_le _,rfl,fun j r hj=>absurd hj (Nat.not_lt_zero _),S.out⟩
 case round=>
  clear S
  obtain⟨i,hik,rfl,hno,S⟩:=hrel
  have hl:=hlh.out
  by_cases hlt:i<k
  ·obtain⟨y,hy⟩:∃ y,L[i]?=some y:=⟨L[i]'(by rw[hk.out];exact hlt),by simp⟩
   have hym:=Lib.hid (List.mem_of_getElem? hy)
   have hyh:=Lib.hid hy
   have hSm:∀ W,RR W A1 n1 c1 D1 m1 d1 q→Lq W g L→Calls Tryz.prog 62 #[.agg #[.bool (ng q.num),.slice A1 n1 c1,.slice D1 m1 d1],.agg #[.bool (ng y.q.num),.slice y.A y.n y.c,.slice y.D y.m y.d]] W fun e w'=>e=.returned (.bool (decide (q=y.q)))∧Below W.heap.size W w':=fun W h1 h2=>sameQ q y.q _ _ _ _ _ _ _ _ _ _ _ _ W h1 (h2.at_ y hym.out) sq.out (hs.out y hym.out)
   obtain⟨e0,e1,e2⟩:=(h.out.bel S.bel).cl i y hy
   obtain⟨c0,c1x,c2⟩:=S.c3 0 rfl
   replace S:=Lib.hid S
   replace hno:=Lib.hid hno
   have hh:=Lib.hid hlt
   have hhk:=Lib.hid hik
   have g1:(i:Int)<(k:Int):=by omega
   have g0:(0:Int)≤(i:Int):=by omega
   clear hlt hik hy hl
   have hdr:=Lib.hid S.out.drew
   by_cases hqx:q=y.q
   ·rw[decide_eq_true hqx] at hSm
    replace hSm:=Lib.hid hSm
    replace hqx:=Lib.hid hqx
    go_wp2
    go_region_with (go_at_call 62;refine (hSm.out _ ⟨hdr.out.r 1 rfl,hdr.out.r 0 rfl⟩ (h.out.bel hdr.out.bel)).mono ?_;rintro e w1 ⟨rfl,bb⟩)
    all_goals
     have T:=hdr.out.call bb
     clear S bb c0 c1x c2 e0 e1 e2 hdr
     replace T:=Lib.hid T
     go_wp2
     go_ret
     exact⟨rfl,T.out.bel⟩
   ·rw[decide_eq_false hqx] at hSm
    replace hSm:=Lib.hid hSm
    replace hqx:=Lib.hid hqx
    go_wp2
    go_region_with (go_at_call 62;refine (hSm.out _ ⟨hdr.out.r 1 rfl,hdr.out.r 0 rfl⟩ (h.out.bel hdr.out.bel)).mono ?_;rintro e w1 ⟨rfl,bb⟩)
    all_goals
     have T:=hdr.out.call bb
     clear S bb c0 c1x c2 e0 e1 e2 hdr
     replace T:=Lib.hid T
     have hlt:=hh.out
     have hl:=hlh.out
     go_wp2
     go_roundw
     case rel=>exact⟨i+1,by omega,by go_num,fun j r hj hjr=>by rcases Nat.lt_or_ge j i with h1 | h1;exact hno.out j r h1 hjr;obtain rfl:j=i:=(by omega);rw[hyh.out] at hjr;injection hjr with hjr;subst hjr;exact fun e=>hqx.out e.symm,T.out⟩
     case measure=>simp[intOf];omega
  ·exfalso
   obtain⟨r,hr,hrq⟩:=hq.out
   obtain⟨j,hj⟩:=List.getElem?_of_mem hr
   have hjk:j<k:=by rw[←hk.out];exact (List.getElem?_eq_some_iff.1 hj).1
   exact hno j r (by omega) hj hrq
end Go.Proofs.YtphckmdnflbloaaGreat
