/- The blocks and the numbers that a call knows of, carried from world to world. Rational numbers in memory: a sign, limbs of the numerator, limbs of the denominator. Small functions of rational: isOne, denominator, fraction, divisor, over. -/
import Derived.Test.YtdeedofmflelfaaGreatDoorQIaz
import Derived.Test.YtdeedofmflelfaaGreatDoorRq
import Derived.Test.YtdeedofmflelfaaGreatDoorQIjz
import Derived.Test.YtdeedofmflelfaaGreatDoorJa
import Derived.Test.YtdeedofmflelfaaGreatDoorIp
import Derived.Test.YtdeedofmflelfaaGreatDoorQIlz
namespace Go.Proofs.YtdeedofmflelfaaGreatDoor
open Go.RowKit
/-- No cell of the row is a limb. -/
def NoL (cs:Array Value):Prop:=∀ (i:Nat) (z:Int),cs[i]?≠some (Value.int .u32 z)
/-- A block that holds the cells cs. -/
def Cb (W:World) (g:Nat) (cs:Array Value) (t:Nat):Prop:=W.heap[g]?=some (.cells cs t (0,0))
section
variable {w W W':World} {g t:Nat} {cs:Array Value}
theorem Cb.lt (h:Cb W g cs t):g<W.heap.size:=by
 rcases Nat.lt_or_ge g W.heap.size with hlt | hge
 ·exact hlt
 ·unfold Cb at h;rw[Array.getElem?_eq_none hge] at h;cases h
theorem Cb.keep (h:Cb W g cs t) (hk:W'.heap[g]?=W.heap[g]?):Cb W' g cs t:=hk.trans h
theorem Cb.new (W:World) (cs:Array Value) (t:Nat):Cb (W.alloc (.cells cs t)) W.heap.size cs t:=heap_alloc_new W _
theorem Cb.alloc (h:Cb W g cs t) (o:Obj):Cb (W.alloc o) g cs t:=h.keep (Below.heap_alloc W o g h.lt)
theorem Cb.bel (h:Cb W g cs t) (hb:Below W.heap.size W W'):Cb W' g cs t:=h.keep (hb.block g h.lt)
theorem Cb.drew (h:Cb W g cs t):Cb W.drew g cs t:=h
theorem Cb.cell (h:Cb W g cs t) {i:Nat} {v:Value} (hv:cs[i]?=some v):W.cell? ⟨g,i,none⟩=some v:=by
 rw[cell_of_row W g i _ t (0,0) h];exact hv
theorem Cb.frozen (h:Cb W g cs t) (i:Nat):W.frozen? ⟨g,i,none⟩=false:=by
 unfold Cb at h;simp[World.frozen?,h]
theorem Cb.set (h:Cb W g cs t) (i:Nat) (v:Value):Cb (W.setCell ⟨g,i,none⟩ v) g (cs.setIfInBounds i v) t:=by
 unfold Cb at *;simp[World.setCell,Array.getElem?_modify,h]
theorem Cb.far (h:Cb W g cs t) {p:Addr} (hp:g≠p.block) (u:Value):Cb (W.setCell p u) g cs t:=h.keep (Below.heap_setCell W p u g hp)
end
/-- A block without limbs: what reads as limbs is left alone by a store into it. -/
theorem Rd.set {W:World} {g t:Nat} {cs:Array Value} {A:Option Addr} {n c:Nat} {xs:List Nat} (h:Rd W A n c xs) (x:Cb W g cs t) (hn:NoL cs) (i:Nat) (v:Value) :
  Rd (W.setCell ⟨g,i,none⟩ v) A n c xs:=by
 refine⟨h.len,h.cap,h.sm,?_⟩
 rcases h.mem with h0 | ⟨bk,o,hA,hlt,hc⟩
 ·exact .inl h0
 ·rcases Nat.eq_zero_or_pos n with hn0 | hn0
  ·exact .inl hn0
  have hne:bk≠g:=by
   rintro rfl
   have h1:=hc 0 hn0
   rw[Nat.add_zero,cell_of_row W bk o _ t (0,0) x] at h1
   exact hn _ _ h1
  refine .inr ⟨bk,o,hA,by simpa using hlt,fun k hk=>?_⟩
  rw[World.cell?_of_block (Below.heap_setCell _ _ _ _ hne)]
  exact hc k hk
/-- What a call knows: the blocks of its own and the numbers that it can read. -/
structure St (w W:World) (bs:List (Nat×Array Value×Nat)) (rs:List (Option Addr×Nat×Nat×List Nat)):Prop where
 bel:Below w.heap.size w W
 bk:∀ p∈bs,Cb W p.1 p.2.1 p.2.2∧NoL p.2.1∧w.heap.size≤p.1
 nd:bs.Pairwise (fun p q=>p.1≠q.1)
 rd:∀ r∈rs,Rd W r.1 r.2.1 r.2.2.1 r.2.2.2
section
variable {w W W':World} {bs:List (Nat×Array Value×Nat)} {rs:List (Option Addr×Nat×Nat×List Nat)} {A:Option Addr} {n c:Nat} {xs:List Nat}
theorem St.new (w:World):St w w [] []:=⟨Below.refl _ _,by simp,List.Pairwise.nil,by simp⟩
theorem St.call (h:St w W bs rs) (hb:Below W.heap.size W W'):St w W' bs rs:=
 ⟨h.bel.trans (hb.mono h.bel.size),fun p hp=>⟨(h.bk p hp).1.bel hb,(h.bk p hp).2⟩,h.nd,fun r hr=>(h.rd r hr).below hb⟩
theorem St.read (h:St w W bs rs) (R:Rd W A n c xs):St w W bs ((A,n,c,xs)::rs):=
 ⟨h.bel,h.bk,h.nd,fun r hr=>by rcases List.mem_cons.1 hr with rfl | hr;exact R;exact h.rd r hr⟩
theorem St.alloc (h:St w W bs rs) (cs:Array Value) (t:Nat) (hn:NoL cs):St w (W.alloc (.cells cs t)) ((W.heap.size,cs,t)::bs) rs:=by
 refine⟨h.bel.alloc h.bel.size _,?_,?_,fun r hr=>(h.rd r hr).alloc _⟩
 ·intro p hp
  rcases List.mem_cons.1 hp with rfl | hp
  ·exact⟨Cb.new _ _ _,hn,h.bel.size⟩
  ·exact⟨(h.bk p hp).1.alloc _,(h.bk p hp).2⟩
 ·refine List.pairwise_cons.2 ⟨fun p hp=>?_,h.nd⟩
  have:=(h.bk p hp).1.lt
  show W.heap.size≠p.1
  omega
theorem St.allocAt (h:St w W bs rs) (g:Nat) (cs:Array Value) (t:Nat) (hn:NoL cs) (hg:W.heap.size=g):St w (W.alloc (.cells cs t)) ((g,cs,t)::bs) rs:=by
 subst hg;exact h.alloc cs t hn
theorem St.drew (h:St w W bs rs):St w W.drew bs rs:=⟨h.bel.drew,h.bk,h.nd,fun r hr=>Rd.drew1 (h.rd r hr)⟩
theorem St.drewN (h:St w W bs rs) (k:Nat):St w (W.drewN k) bs rs:=by
 exact⟨below_drewN h.bel k,h.bk,h.nd,fun r hr=>(h.rd r hr).drewN k⟩
theorem NoL.set {cs:Array Value} (h:NoL cs) (i:Nat) {v:Value} (hv:∀ z,v≠.int .u32 z):NoL (cs.setIfInBounds i v):=by
 intro j z
 rw[Array.getElem?_setIfInBounds]
 split
 ·split
  ·intro e;injection e with e;exact hv z e
  ·simp
 ·exact h j z
/-- A store into the k-th block. -/
theorem St.set (h:St w W bs rs) (k i:Nat) (v:Value) {g t:Nat} {cs:Array Value} (hk:bs[k]?=some (g,cs,t)) (hv:∀ z,v≠.int .u32 z) :
  St w (W.setCell ⟨g,i,none⟩ v) (bs.set k (g,cs.setIfInBounds i v,t)) rs:=by
 obtain⟨hlt,hk'⟩:=List.getElem?_eq_some_iff.1 hk
 have hm:(g,cs,t)∈bs:=hk' ▸ List.getElem_mem hlt
 obtain⟨hb,hn,hw⟩:=h.bk _ hm
 have hpw:∀ j,(hj:j<bs.length)→j≠k→bs[j].1≠g:=by
  intro j hj hjk
  have e:g=bs[k].1:=by rw[hk']
  rw[e]
  rcases Nat.lt_or_gt_of_ne hjk with hl | hl
  ·exact List.pairwise_iff_getElem.1 h.nd j k hj hlt hl
  ·exact (List.pairwise_iff_getElem.1 h.nd k j hlt hj hl).symm
 refine⟨h.bel.setCell hw _,?_,?_,fun r hr=>(h.rd r hr).set hb hn i v⟩
 ·intro p hp
  obtain⟨j,hj,rfl⟩:=List.mem_iff_getElem.1 hp
  rw[List.length_set] at hj
  by_cases hjk:k=j
  ·subst hjk
   rw[List.getElem_set_self]
   exact⟨hb.set i v,hn.set i hv,hw⟩
  ·rw[List.getElem_set_ne hjk]
   obtain⟨q1,q2,q3⟩:=h.bk bs[j] (List.getElem_mem hj)
   exact⟨q1.far (hpw j hj (Ne.symm hjk)) _,q2,q3⟩
 ·refine List.pairwise_iff_getElem.2 fun a b ha hb' hab=>?_
  rw[List.length_set] at ha hb'
  have:=List.pairwise_iff_getElem.1 h.nd a b ha hb' hab
  rw[List.getElem_set,List.getElem_set]
  split
  ·subst_vars
   rw[if_neg (by omega)]
   rw[hk'] at this;exact this
  ·split
   ·subst_vars
    rw[hk'] at this;exact this
   ·exact this
theorem St.cl (h:St w W bs rs) (k i:Nat) {g t:Nat} {cs:Array Value} (hk:bs[k]?=some (g,cs,t)) {v:Value} (hv:cs[i]?=some v):W.cell? ⟨g,i,none⟩=some v:=
 (h.bk _ (List.mem_of_getElem? hk)).1.cell hv
theorem St.f (h:St w W bs rs) (k i:Nat) {g t:Nat} {cs:Array Value} (hk:bs[k]?=some (g,cs,t)):W.frozen? ⟨g,i,none⟩=false:=
 (h.bk _ (List.mem_of_getElem? hk)).1.frozen i
/-- The same blocks and numbers in another order. -/
theorem St.pick (h:St w W bs rs) (is js:List Nat) {bs':List (Nat×Array Value×Nat)} {rs':List (Option Addr×Nat×Nat×List Nat)} (hi:is.map (fun i=>bs[i]?)=bs'.map some) (hd:is.Nodup) (hj:js.map (fun i=>rs[i]?)=rs'.map some):St w W bs' rs':=by
 have hm:∀ k,k<bs'.length→∃ i:Nat,is[k]?=some i∧bs[i]?=bs'[k]?:=by
  intro k hk
  have hl:is.length=bs'.length:=by have:=congrArg List.length hi;simpa using this
  have e:(is.map (fun i=>bs[i]?))[k]?=(bs'.map some)[k]?:=by rw[hi]
  rw[List.getElem?_map,List.getElem?_map,List.getElem?_eq_getElem (by omega),List.getElem?_eq_getElem hk] at e
  refine⟨is[k],List.getElem?_eq_getElem (by omega),?_⟩
  rw[List.getElem?_eq_getElem hk]
  simpa using e
 have hr:∀ k,k<rs'.length→∃ i:Nat,rs[i]?=rs'[k]?:=by
  intro k hk
  have hl:js.length=rs'.length:=by have:=congrArg List.length hj;simpa using this
  have e:(js.map (fun i=>rs[i]?))[k]?=(rs'.map some)[k]?:=by rw[hj]
  rw[List.getElem?_map,List.getElem?_map,List.getElem?_eq_getElem (by omega),List.getElem?_eq_getElem hk] at e
  refine⟨js[k],?_⟩
  rw[List.getElem?_eq_getElem hk]
  simpa using e
 refine⟨h.bel,?_,?_,?_⟩
 ·intro p hp
  obtain⟨k,hk,rfl⟩:=List.mem_iff_getElem.1 hp
  obtain⟨i,_,e⟩:=hm k hk
  rw[List.getElem?_eq_getElem hk] at e
  exact h.bk _ (List.mem_of_getElem? e)
 ·refine List.pairwise_iff_getElem.2 fun a b ha hb hab=>?_
  obtain⟨i,ei,e1⟩:=hm a ha
  obtain⟨j,ej,e2⟩:=hm b hb
  rw[List.getElem?_eq_getElem ha] at e1
  rw[List.getElem?_eq_getElem hb] at e2
  obtain⟨li,e1'⟩:=List.getElem?_eq_some_iff.1 e1
  obtain⟨lj,e2'⟩:=List.getElem?_eq_some_iff.1 e2
  have hij:i≠j:=by
   intro e;subst e
   obtain⟨la,ea⟩:=List.getElem?_eq_some_iff.1 ei
   obtain⟨lb,eb⟩:=List.getElem?_eq_some_iff.1 ej
   have:=List.pairwise_iff_getElem.1 hd a b la lb hab
   rw[ea,eb] at this;exact this rfl
  rw[←e1',←e2']
  rcases Nat.lt_or_gt_of_ne hij with hl | hl
  ·exact List.pairwise_iff_getElem.1 h.nd i j li lj hl
  ·exact (List.pairwise_iff_getElem.1 h.nd j i lj li hl).symm
 ·intro r hr'
  obtain⟨k,hk,rfl⟩:=List.mem_iff_getElem.1 hr'
  obtain⟨i,e⟩:=hr k hk
  rw[List.getElem?_eq_getElem hk] at e
  exact h.rd _ (List.mem_of_getElem? e)
theorem St.r (h:St w W bs rs) (k:Nat) (hk:rs[k]?=some (A,n,c,xs)):Rd W A n c xs:=h.rd _ (List.mem_of_getElem? hk)
theorem St.lt (h:St w W bs rs) (k:Nat) {g t:Nat} {cs:Array Value} (hk:bs[k]?=some (g,cs,t)):g<W.heap.size:=(h.bk _ (List.mem_of_getElem? hk)).1.lt
end
theorem noL2 (b:Bool) (A:Option Addr) (n c:Nat):NoL #[.bool b,.slice A n c]:=by
 intro i z;match i with
 | 0=>simp
 | 1=>simp
 | k+2=>simp
theorem noL3 (b:Bool) (A:Option Addr) (n c:Nat) (D:Option Addr) (m d:Nat):NoL #[.bool b,.slice A n c,.slice D m d]:=by
 intro i z;match i with
 | 0=>simp
 | 1=>simp
 | 2=>simp
 | k+3=>simp
theorem noLi (x y:Int):NoL #[.int .i64 x,.int .i64 y]:=by
 intro i z;match i with
 | 0=>simp
 | 1=>simp
 | k+2=>simp
section
variable {w W:World} {bs:List (Nat×Array Value×Nat)} {rs:List (Option Addr×Nat×Nat×List Nat)}
theorem St.c2 (h:St w W bs rs) (k:Nat) {g t:Nat} {v0 v1:Value} (hk:bs[k]?=some (g,#[v0,v1],t)):W.cell? ⟨g,0,none⟩=some v0∧W.cell? ⟨g,1,none⟩=some v1:=⟨h.cl k 0 hk rfl,h.cl k 1 hk rfl⟩
theorem St.cf2 (h:St w W bs rs) (k:Nat) {g t:Nat} {v0 v1:Value} (hk:bs[k]?=some (g,#[v0,v1],t)):W.cell? ⟨g,0,none⟩=some v0∧W.cell? ⟨g,1,none⟩=some v1∧W.frozen? ⟨g,0,none⟩=false∧W.frozen? ⟨g,1,none⟩=false:=⟨h.cl k 0 hk rfl,h.cl k 1 hk rfl,h.f k 0 hk,h.f k 1 hk⟩
theorem St.c3 (h:St w W bs rs) (k:Nat) {g t:Nat} {v0 v1 v2:Value} (hk:bs[k]?=some (g,#[v0,v1,v2],t)):W.cell? ⟨g,0,none⟩=some v0∧W.cell? ⟨g,1,none⟩=some v1∧W.cell? ⟨g,2,none⟩=some v2:=⟨h.cl k 0 hk rfl,h.cl k 1 hk rfl,h.cl k 2 hk rfl⟩
theorem St.cf3 (h:St w W bs rs) (k:Nat) {g t:Nat} {v0 v1 v2:Value} (hk:bs[k]?=some (g,#[v0,v1,v2],t)):W.cell? ⟨g,0,none⟩=some v0∧W.cell? ⟨g,1,none⟩=some v1∧W.cell? ⟨g,2,none⟩=some v2∧W.frozen? ⟨g,0,none⟩=false∧W.frozen? ⟨g,1,none⟩=false∧W.frozen? ⟨g,2,none⟩=false:=⟨h.cl k 0 hk rfl,h.cl k 1 hk rfl,h.cl k 2 hk rfl,h.f k 0 hk,h.f k 1 hk,h.f k 2 hk⟩
theorem St.c6 (h:St w W bs rs) (k:Nat) {g t:Nat} {v0 v1 v2 v3 v4 v5:Value} (hk:bs[k]?=some (g,#[v0,v1,v2,v3,v4,v5],t)):W.cell? ⟨g,0,none⟩=some v0∧W.cell? ⟨g,1,none⟩=some v1∧W.cell? ⟨g,2,none⟩=some v2∧W.cell? ⟨g,3,none⟩=some v3∧W.cell? ⟨g,4,none⟩=some v4∧W.cell? ⟨g,5,none⟩=some v5:=⟨h.cl k 0 hk rfl,h.cl k 1 hk rfl,h.cl k 2 hk rfl,h.cl k 3 hk rfl,h.cl k 4 hk rfl,h.cl k 5 hk rfl⟩
theorem St.cf6 (h:St w W bs rs) (k:Nat) {g t:Nat} {v0 v1 v2 v3 v4 v5:Value} (hk:bs[k]?=some (g,#[v0,v1,v2,v3,v4,v5],t)):W.cell? ⟨g,0,none⟩=some v0∧W.cell? ⟨g,1,none⟩=some v1∧W.cell? ⟨g,2,none⟩=some v2∧W.cell? ⟨g,3,none⟩=some v3∧W.cell? ⟨g,4,none⟩=some v4∧W.cell? ⟨g,5,none⟩=some v5∧W.frozen? ⟨g,0,none⟩=false∧W.frozen? ⟨g,1,none⟩=false∧W.frozen? ⟨g,2,none⟩=false∧W.frozen? ⟨g,3,none⟩=false∧W.frozen? ⟨g,4,none⟩=false∧W.frozen? ⟨g,5,none⟩=false:=⟨h.cl k 0 hk rfl,h.cl k 1 hk rfl,h.cl k 2 hk rfl,h.cl k 3 hk rfl,h.cl k 4 hk rfl,h.cl k 5 hk rfl,h.f k 0 hk,h.f k 1 hk,h.f k 2 hk,h.f k 3 hk,h.f k 4 hk,h.f k 5 hk⟩
theorem St.c9 (h:St w W bs rs) (k:Nat) {g t:Nat} {v0 v1 v2 v3 v4 v5 v6 v7 v8:Value} (hk:bs[k]?=some (g,#[v0,v1,v2,v3,v4,v5,v6,v7,v8],t)):W.cell? ⟨g,0,none⟩=some v0∧W.cell? ⟨g,1,none⟩=some v1∧W.cell? ⟨g,2,none⟩=some v2∧W.cell? ⟨g,3,none⟩=some v3∧W.cell? ⟨g,4,none⟩=some v4∧W.cell? ⟨g,5,none⟩=some v5∧W.cell? ⟨g,6,none⟩=some v6∧W.cell? ⟨g,7,none⟩=some v7∧W.cell? ⟨g,8,none⟩=some v8:=⟨h.cl k 0 hk rfl,h.cl k 1 hk rfl,h.cl k 2 hk rfl,h.cl k 3 hk rfl,h.cl k 4 hk rfl,h.cl k 5 hk rfl,h.cl k 6 hk rfl,h.cl k 7 hk rfl,h.cl k 8 hk rfl⟩
end
theorem Cb.c6 {W:World} {g t:Nat} {v0 v1 v2 v3 v4 v5:Value} (h:Cb W g #[v0,v1,v2,v3,v4,v5] t):W.cell? ⟨g,0,none⟩=some v0∧W.cell? ⟨g,1,none⟩=some v1∧W.cell? ⟨g,2,none⟩=some v2∧W.cell? ⟨g,3,none⟩=some v3∧W.cell? ⟨g,4,none⟩=some v4∧W.cell? ⟨g,5,none⟩=some v5:=⟨h.cell rfl,h.cell rfl,h.cell rfl,h.cell rfl,h.cell rfl,h.cell rfl⟩
end Go.Proofs.YtdeedofmflelfaaGreatDoor

namespace Go.Proofs.YtdeedofmflelfaaGreatDoor
open Go.RowKit RQ
/-- The denominator as it is kept. -/
def dn (q:Rat):List Nat:=if q.den=1 then [] else limbs q.den
/-- What the limbs of a denominator say. -/
def dv (ds:List Nat):Nat:=if ds.isEmpty then 1 else val ds
/-- Is this row the number 1? -/
def is1 (ds:List Nat):Bool:=ds==[1]
def vldD (xs ds:List Nat):Bool:=ds.isEmpty||(vldB ds && !(is1 ds)&&Nat.gcd (val xs) (val ds)==1)
def vldR (b:Bool) (xs ds:List Nat):Bool:=vldI b xs&&vldD xs ds
def rv (b:Bool) (xs ds:List Nat):Rat:=if vldR b xs ds then mkRat (sg b (val xs)) (dv ds) else 0
theorem limbs_is1:limbs 1=[1]:=by rw[limbs_pos (by decide),show 1%4294967296=1 from rfl,show 1 / 4294967296=0 from rfl,limbs_zero]
theorem limbs_inj1 {a b:Nat} (h:limbs a=limbs b):a=b:=by have:=congrArg val h;rwa [val_limbs,val_limbs] at this
theorem dn_nil {q:Rat}:dn q=[]↔q.den=1:=by
 unfold dn;split
 ·simp[*]
 ·rename_i h
  constructor
  ·intro e;have:val (limbs q.den)=0:=by rw[e];rfl
   rw[val_limbs] at this;have:=q.den_nz;omega
  ·intro e;exact absurd e h
theorem dv_dn (q:Rat):dv (dn q)=q.den:=by
 unfold dv
 cases h:(dn q).isEmpty
 ·unfold dn at h ⊢
  split at h
  ·cases h
  ·rename_i h2;rw[if_neg h2,if_neg (by simp),val_limbs]
 ·rw[if_pos rfl];exact (dn_nil.1 (List.isEmpty_iff.1 h)).symm
theorem sg_val (z:Int):sg (ng z) (val (limbs z.natAbs))=z:=by rw[val_limbs,sg_ng]
theorem vldR_z (q:Rat):vldR (ng q.num) (limbs q.num.natAbs) (dn q)=true:=by
 unfold vldR vldD
 rw[vldI_z,Bool.true_and]
 by_cases h:q.den=1
 ·rw[dn_nil.2 h];rfl
 ·have e:dn q=limbs q.den:=by unfold dn;rw[if_neg h]
  rw[e,vldB_limbs,val_limbs,val_limbs]
  have h1:is1 (limbs q.den)=false:=by
   unfold is1;rw[beq_eq_false_iff_ne,←limbs_is1];intro hh;exact h (limbs_inj1 hh)
  have h2:Nat.gcd q.num.natAbs q.den=1:=q.reduced
  rw[h1,h2];simp
theorem rv_z (q:Rat):rv (ng q.num) (limbs q.num.natAbs) (dn q)=q:=by
 unfold rv;rw[vldR_z,if_pos rfl,sg_val,dv_dn,Rat.mkRat_self]
theorem rv_no {b:Bool} {xs ds:List Nat} (h:vldR b xs ds=false):rv b xs ds=0:=by unfold rv;rw[h];rfl
theorem canonR {b:Bool} {xs ds:List Nat} (hs:Sm xs) (hd:Sm ds) (h:vldR b xs ds=true):b=ng (rv b xs ds).num∧xs=limbs (rv b xs ds).num.natAbs∧ds=dn (rv b xs ds):=by
 have h0:=h
 unfold vldR at h
 rw[Bool.and_eq_true] at h
 obtain⟨h1,h2⟩:=h
 obtain⟨c1,c2⟩:=canon hs h1
 rw[iv_yes h1] at c1 c2
 have ea:(sg b (val xs)).natAbs=val xs:=abs_sg _ _
 have key:(rv b xs ds).num=sg b (val xs)∧(rv b xs ds).den=dv ds:=by
  unfold rv;rw[h0,if_pos rfl]
  unfold vldD at h2
  cases he:ds.isEmpty
  ·rw[he,Bool.false_or,Bool.and_eq_true,Bool.and_eq_true,beq_iff_eq] at h2
   obtain⟨⟨h3,h4⟩,h5⟩:=h2
   have hp:0<val ds:=val_pos h3 (by intro e;rw[e] at he;cases he)
   have e2:dv ds=val ds:=by unfold dv;rw[he];rfl
   rw[e2,Rat.num_mkRat,Rat.den_mkRat,if_neg (by omega),if_neg (by omega),Nat.gcd_comm,ea,h5]
   simp
  ·have e2:dv ds=1:=by unfold dv;rw[he];rfl
   rw[e2,Rat.num_mkRat,Rat.den_mkRat];simp
 refine⟨by rw[key.1];exact c1,by rw[key.1];exact c2,?_⟩
 unfold dn
 rw[key.2]
 unfold vldD at h2
 cases he:ds.isEmpty
 ·rw[he,Bool.false_or,Bool.and_eq_true,Bool.and_eq_true] at h2
  obtain⟨⟨h3,h4⟩,_⟩:=h2
  have e2:dv ds=val ds:=by unfold dv;rw[he];rfl
  rw[e2]
  have e3:limbs (val ds)=ds:=limbs_val hd h3
  rw[if_neg,e3]
  intro e;rw[e,limbs_is1] at e3
  rw[←e3] at h4;simp[is1] at h4
 ·have e2:dv ds=1:=by unfold dv;rw[he];rfl
  rw[e2,if_pos rfl];exact List.isEmpty_iff.1 he
/-- A rational number reads at two slices. -/
structure RR (w:World) (A:Option Addr) (n c:Nat) (D:Option Addr) (m d:Nat) (q:Rat):Prop where
 n:Rd w A n c (limbs q.num.natAbs)
 d:Rd w D m d (dn q)
theorem RR.below {w w':World} {A:Option Addr} {n c:Nat} {D:Option Addr} {m d:Nat} {q:Rat} (h:RR w A n c D m d q) (hb:Below w.heap.size w w'):RR w' A n c D m d q:=⟨h.n.below hb,h.d.below hb⟩
theorem dn_len {q:Rat} {p:Nat} (h:Rs q p):(dn q).length≤p:=by
 unfold dn;split
 ·exact Nat.zero_le _
 ·exact limbs_len_le.2 h.d
theorem RR.lens {w:World} {A:Option Addr} {n c:Nat} {D:Option Addr} {m d:Nat} {q:Rat} {p:Nat} (h:RR w A n c D m d q) (hq:Rs q p):n≤p∧m≤p:=by
 have h1:=h.n.len;have h2:=h.d.len
 have h3:(limbs q.num.natAbs).length≤p:=limbs_len_le.2 hq.n
 have h4:=dn_len hq
 omega
/-- What a function that returns one rational number leaves. -/
def RetR (q:Rat) (w:World) (e:Ending) (w':World):Prop:=∃ A n c D m d,e=.returned (.agg #[.bool (ng q.num),.slice A n c,.slice D m d])∧RR w' A n c D m d q∧Below w.heap.size w w'
/-- .. and a word on errors. -/
theorem zero_RR (w:World) (A D:Option Addr) (c d:Nat):RR w A 0 c D 0 d 0:=⟨by rw[show (0:Rat).num.natAbs=0 from rfl,limbs_zero];exact Rd.nil_ _ _ _,by rw[show dn 0=[] from rfl];exact Rd.nil_ _ _ _⟩
/-- A row that came in, as a number. -/
theorem RR.of {w:World} {b:Bool} {A:Option Addr} {n c:Nat} {xs:List Nat} {D:Option Addr} {m d:Nat} {ds:List Nat} (h1:Rd w A n c xs) (h2:Rd w D m d ds) (h:vldR b xs ds=true):RR w A n c D m d (rv b xs ds):=by
 obtain⟨_,e2,e3⟩:=canonR h1.sm h2.sm h
 exact⟨e2 ▸ h1,e3 ▸ h2⟩
theorem Rs.of {b:Bool} {xs ds:List Nat} {p:Nat} (h1:Sm xs) (h2:Sm ds) (l1:xs.length≤p) (l2:ds.length≤p) (hp:1≤p):Rs (rv b xs ds) p:=by
 have hpow:=pow_mono hp
 cases h:vldR b xs ds
 ·rw[rv_no h];exact⟨by show 0<_;omega,by show 1<_;omega⟩
 ·obtain⟨_,e2,e3⟩:=canonR h1 h2 h
  rw[e2] at l1
  rw[e3] at l2
  refine⟨limbs_len_le.1 l1,?_⟩
  unfold dn at l2
  split at l2
  ·rename_i e;rw[e];omega
  ·exact limbs_len_le.1 l2
end Go.Proofs.YtdeedofmflelfaaGreatDoor

namespace Go.Proofs.YtdeedofmflelfaaGreatDoor
open Go.RowKit RQ
theorem dec1_neg {z:Int} (h:ng z=true):decide (z=1)=false:=by
 have:=of_decide_eq_true (show decide (z<0)=true from h)
 exact decide_eq_false (by omega)
theorem dec1_len {z:Int} {n:Nat} (h:(limbs z.natAbs).length=n) (hn:n≠1):decide (z=1)=false:=by
 refine decide_eq_false ?_
 rintro rfl
 rw[show (1:Int).natAbs=1 from rfl,limbs_is1] at h
 exact hn h.symm
theorem dec1_one {z:Int} {x:Nat} (h:(limbs z.natAbs).length=1) (hx:(limbs z.natAbs).getD 0 0=x) (hg:ng z=false):decide (z=1)=decide (x=1)∧z=x:=by
 have hz:¬ z<0:=of_decide_eq_false (show decide (z<0)=false from hg)
 have e:limbs z.natAbs=[x]:=by
  match hq:limbs z.natAbs with
  | [y]=>rw[hq] at hx;simp at hx;rw[hx]
  | []=>rw[hq] at h;simp at h
  | _::_::_=>rw[hq] at h;simp at h
 have:=congrArg val e
 rw[val_limbs] at this
 have h2:val [x]=x:=by simp[val]
 rw[h2] at this
 refine⟨?_,by omega⟩
 rw[decide_eq_decide];omega
set_option maxHeartbeats 1000000 in
theorem isOne_any (z:Int) (A:Option Addr) (n c:Nat) (w:World) (R:Rd w A n c (limbs z.natAbs)) :
  Calls Tryz.prog 154 #[.agg #[.bool (ng z),.slice A n c]] w fun e w'=>e=.returned (.bool (decide (z=1)))∧Below w.heap.size w w':=by
 have hl:=R.len
 have R':=R.alloc (.cells #[.bool (ng z),.slice A n c] 44)
 have B:=Lib.hid ((Below.refl w.heap.size w).alloc (Nat.le_refl _) (.cells #[.bool (ng z),.slice A n c] 44))
 cases hg:ng z
 ·rw[hg] at R' B
  by_cases hn:n=1
  ·subst hn
   obtain⟨b,o,x,rfl,_,hx,hget,hc⟩:=R'.at_ (k:=0) (by omega)
   rw[Nat.add_zero] at hc
   have hd:=(dec1_one hl hget hg).1
   rw[hd]
   by_cases h1:x=1
   ·subst h1
    clear hd hget hx R' hl hg R
    go_enter Tryz.func154,Tryz.ntmps154
    go_wp2
    go_ret
    exact⟨rfl,B.out⟩
   ·have h2:((x:Int)==1)=false:=by rw[beq_eq_false_iff_ne];omega
    rw[decide_eq_false h1]
    clear hd hget hx R' hl hg R h1
    go_enter Tryz.func154,Tryz.ntmps154
    go_wp2
    go_ret
    exact⟨rfl,B.out⟩
  ·rw[dec1_len hl hn]
   have h2:((n:Int)==1)=false:=by rw[beq_eq_false_iff_ne];omega
   clear R' hl hg R hn
   go_enter Tryz.func154,Tryz.ntmps154
   go_wp2
   go_ret
   exact⟨rfl,B.out⟩
 ·rw[dec1_neg hg]
  rw[hg] at B
  clear R' hl hg R
  go_enter Tryz.func154,Tryz.ntmps154
  go_wp2
  go_ret
  exact⟨rfl,B.out⟩
theorem res_denominator (W:World) (tmps:Array Value) (g t:Nat) {v0 v1:Value} (ht:tmps.getD 2 undef=.pointer (some ⟨g,0,none⟩)) (h:Cb W g #[v0,v1] t) :
  (results Tryz.f199 tmps).run Tryz.prog W=.ok (.agg #[v0,v1]) W:=by
 have c0:W.cell? ⟨g,0,none⟩=some v0:=h.cell rfl
 have c1:W.cell? ⟨g,1,none⟩=some v1:=h.cell rfl
 have ht':tmps[2]?.getD undef=.pointer (some ⟨g,0,none⟩):=by rw[←ht];simp[Array.getD_eq_getD_getElem?]
 simp[results,Tryz.results199,go_sem,ht',c0,c1]
theorem dn_len0 {q:Rat} {m:Nat} (h:(dn q).length=m):(m=0→(q.den:Int)=1)∧(m≠0→dn q=limbs q.den):=by
 constructor
 ·intro e;rw[e] at h
  have:=dn_nil.1 (List.eq_nil_of_length_eq_zero h);omega
 ·intro e
  unfold dn at h ⊢
  split
  ·rename_i h2;rw[if_pos h2] at h;exact absurd h.symm e
  ·rfl
set_option maxHeartbeats 1000000 in
theorem denominator_any (q:Rat) (A:Option Addr) (n c:Nat) (D:Option Addr) (m d:Nat) (w:World) (R:RR w A n c D m d q) :
  Calls Tryz.prog 199 #[.agg #[.bool (ng q.num),.slice A n c,.slice D m d]] w (RetI (q.den:Int) w):=by
 obtain⟨h0,h1⟩:=dn_len0 R.d.len
 have R2:=R.d
 by_cases hm:m=0
 ·subst hm
  have e1:=Lib.hid (h0 rfl)
  clear h0 h1 R R2
  have S:=(((St.new w).allocAt (w.heap.size) #[.bool (ng q.num),.slice A n c,.slice D 0 d] 46 (noL3 _ _ _ _ _ _ _) (by simp)).allocAt (w.heap.size+1) #[.bool false,.slice none 0 0] 44 (noL2 _ _ _ _) (by simp))
  replace S:=Lib.hid S
  go_enter Tryz.func199,Tryz.ntmps199
  go_wp2_with fail
  refine (fromInt_any 1 _ (by decide) (by decide)).mono ?_
  rintro e w1 ⟨A1,n1,c1,rfl,Q,bb⟩
  have T:=((S.out.call bb).read Q)
  clear bb S
  have S:=T
  clear T
  obtain⟨c_r0,c_r1,f_r0,f_r1⟩:=S.cf2 0 rfl
  obtain⟨c_x0,c_x1,c_x2,f_x0,f_x1,f_x2⟩:=S.cf3 1 rfl
  have hz:w.heap.size+1<w1.heap.size:=S.lt 0 rfl
  replace S:=Lib.hid S
  clear Q
  have S:St w _ [(w.heap.size+1,#[.bool (ng 1),.slice A1 n1 c1],44),(w.heap.size,#[.bool (ng q.num),.slice A n c,.slice D 0 d],46)] [(A1,n1,c1,limbs (1:Int).natAbs)]:=((S.out.set 0 0 (.bool (ng 1)) rfl (by nofun)).set 0 1 (.slice A1 n1 c1) rfl (by nofun))
  replace S:=Lib.hid S
  go_wp2
  refine bodyPost_ret (res_denominator _ _ (w.heap.size+1) 44 rfl (S.out.bk _ (List.mem_of_getElem? (i:=0) rfl)).1) rfl ?_
  rw[e1.out];exact ret_I rfl (S.out.r 0 rfl) S.out.bel
 ·have e1:=h1 hm
  rw[e1] at R2
  have h2:((m:Int)==0)=false:=by rw[beq_eq_false_iff_ne];omega
  have hg:Hid (false=ng (q.den:Int)):=Lib.hid (decide_eq_false (by omega)).symm
  replace e1:=Lib.hid e1
  clear h0 h1 R hm
  have S:=((((St.new w).read R2).allocAt (w.heap.size) #[.bool (ng q.num),.slice A n c,.slice D m d] 46 (noL3 _ _ _ _ _ _ _) (by simp)).allocAt (w.heap.size+1) #[.bool false,.slice D m d] 44 (noL2 _ _ _ _) (by simp))
  replace S:=Lib.hid S
  clear R2
  go_enter Tryz.func199,Tryz.ntmps199
  have S:=S.out
  replace S:=Lib.hid S
  go_wp2
  refine bodyPost_ret (res_denominator _ _ (w.heap.size+1) 44 rfl (S.out.bk _ (List.mem_of_getElem? (i:=0) rfl)).1) rfl ?_
  exact ret_I hg.out (by rw[Int.natAbs_natCast];exact S.out.r 0 rfl) S.out.bel
theorem res_fraction (W:World) (tmps:Array Value) (g t:Nat) {v0 v1 v2:Value} (ht:tmps.getD 4 undef=.pointer (some ⟨g,0,none⟩)) (h:Cb W g #[v0,v1,v2] t) :
  (results Tryz.f187 tmps).run Tryz.prog W=.ok (.agg #[v0,v1,v2]) W:=by
 have c0:W.cell? ⟨g,0,none⟩=some v0:=h.cell rfl
 have c1:W.cell? ⟨g,1,none⟩=some v1:=h.cell rfl
 have c2:W.cell? ⟨g,2,none⟩=some v2:=h.cell rfl
 have ht':tmps[4]?.getD undef=.pointer (some ⟨g,0,none⟩):=by rw[←ht];simp[Array.getD_eq_getD_getElem?]
 simp[results,Tryz.results187,go_sem,ht',c0,c1,c2]
set_option maxHeartbeats 1000000 in
theorem fraction_any (q:Rat) (A:Option Addr) (n c:Nat) (D:Option Addr) (m d:Nat) (w:World) (R1:Rd w A n c (limbs q.num.natAbs)) (R2:Rd w D m d (limbs q.den)) :
  Calls Tryz.prog 187 #[.agg #[.bool (ng q.num),.slice A n c],.agg #[.bool false,.slice D m d]] w (RetR q w):=by
 have S:=((((((St.new w).read R1).read R2).allocAt (w.heap.size) #[.bool (ng q.num),.slice A n c] 44 (noL2 _ _ _ _) (by simp)).allocAt (w.heap.size+1) #[.bool false,.slice D m d] 44 (noL2 _ _ _ _) (by simp)).allocAt (w.heap.size+1+1) #[.bool false,.slice none 0 0,.slice none 0 0] 46 (noL3 _ _ _ _ _ _ _) (by simp))
 have h1:=isOne_any (q.den:Int) D m d _ (by rw[Int.natAbs_natCast];exact S.r 0 rfl)
 rw[show ng (q.den:Int)=false from decide_eq_false (by omega)] at h1
 replace S:=Lib.hid S
 by_cases hd:q.den=1
 ·rw[show decide ((q.den:Int)=1)=true from decide_eq_true (by omega)] at h1
  replace h1:=Lib.hid h1
  have e1:=Lib.hid (dn_nil.2 hd)
  clear hd R1 R2
  go_enter Tryz.func187,Tryz.ntmps187
  go_wp2_with fail
  refine (h1.out).mono ?_
  rintro e w1 ⟨rfl,bb⟩
  have T:=(S.out.call bb)
  clear bb S
  have S:=T
  clear T
  obtain⟨c_r0,c_r1,c_r2,f_r0,f_r1,f_r2⟩:=S.cf3 0 rfl
  obtain⟨c_y0,c_y1,f_y0,f_y1⟩:=S.cf2 1 rfl
  obtain⟨c_x0,c_x1,f_x0,f_x1⟩:=S.cf2 2 rfl
  have hz:w.heap.size+1+1<w1.heap.size:=S.lt 0 rfl
  replace S:=Lib.hid S
  have S:St w _ [(w.heap.size+1+1,#[.bool (ng q.num),.slice A n c,.slice none 0 0],46),(w.heap.size+1,#[.bool false,.slice D m d],44),(w.heap.size,#[.bool (ng q.num),.slice A n c],44)] [(D,m,d,limbs q.den),(A,n,c,limbs q.num.natAbs)]:=(((S.out.set 0 0 (.bool (ng q.num)) rfl (by nofun)).set 0 1 (.slice A n c) rfl (by nofun)).set 0 2 (.slice none 0 0) rfl (by nofun))
  replace S:=Lib.hid S
  go_wp2
  refine bodyPost_ret (res_fraction _ _ (w.heap.size+1+1) 46 rfl (S.out.bk _ (List.mem_of_getElem? (i:=0) rfl)).1) rfl ?_
  exact⟨_,_,_,_,_,_,rfl,⟨S.out.r 1 rfl,by rw[e1.out];exact Rd.nil_ _ _ _⟩,S.out.bel⟩
 ·rw[show decide ((q.den:Int)=1)=false from decide_eq_false (by omega)] at h1
  replace h1:=Lib.hid h1
  have e1:Hid (dn q=limbs q.den):=Lib.hid (by unfold dn;rw[if_neg hd])
  clear hd R1 R2
  go_enter Tryz.func187,Tryz.ntmps187
  go_wp2_with fail
  refine (h1.out).mono ?_
  rintro e w1 ⟨rfl,bb⟩
  have T:=(S.out.call bb)
  clear bb S
  have S:=T
  clear T
  obtain⟨c_r0,c_r1,c_r2,f_r0,f_r1,f_r2⟩:=S.cf3 0 rfl
  obtain⟨c_y0,c_y1,f_y0,f_y1⟩:=S.cf2 1 rfl
  obtain⟨c_x0,c_x1,f_x0,f_x1⟩:=S.cf2 2 rfl
  have hz:w.heap.size+1+1<w1.heap.size:=S.lt 0 rfl
  replace S:=Lib.hid S
  have S:St w _ [(w.heap.size+1+1,#[.bool (ng q.num),.slice A n c,.slice D m d],46),(w.heap.size+1,#[.bool false,.slice D m d],44),(w.heap.size,#[.bool (ng q.num),.slice A n c],44)] [(D,m,d,limbs q.den),(A,n,c,limbs q.num.natAbs)]:=(((S.out.set 0 0 (.bool (ng q.num)) rfl (by nofun)).set 0 1 (.slice A n c) rfl (by nofun)).set 0 2 (.slice D m d) rfl (by nofun))
  replace S:=Lib.hid S
  go_wp2
  refine bodyPost_ret (res_fraction _ _ (w.heap.size+1+1) 46 rfl (S.out.bk _ (List.mem_of_getElem? (i:=0) rfl)).1) rfl ?_
  exact⟨_,_,_,_,_,_,rfl,⟨S.out.r 1 rfl,by rw[e1.out];exact S.out.r 0 rfl⟩,S.out.bel⟩
theorem res_divisor (W:World) (tmps:Array Value) (g t:Nat) {v0 v1:Value} (ht:tmps.getD 4 undef=.pointer (some ⟨g,0,none⟩)) (h:Cb W g #[v0,v1] t) :
  (results Tryz.f181 tmps).run Tryz.prog W=.ok (.agg #[v0,v1]) W:=by
 have c0:W.cell? ⟨g,0,none⟩=some v0:=h.cell rfl
 have c1:W.cell? ⟨g,1,none⟩=some v1:=h.cell rfl
 have ht':tmps[4]?.getD undef=.pointer (some ⟨g,0,none⟩):=by rw[←ht];simp[Array.getD_eq_getD_getElem?]
 simp[results,Tryz.results181,go_sem,ht',c0,c1]
set_option maxHeartbeats 1000000 in
theorem divisor_any (b:Bool) (A:Option Addr) (n c:Nat) (xs:List Nat) (b':Bool) (A':Option Addr) (n' c':Nat) (ys:List Nat) (w:World) (R1:Rd w A n c xs) (R2:Rd w A' n' c' ys) (hn:n≤500) (hn':n'≤500) :
  Calls Tryz.prog 181 #[.agg #[.bool b,.slice A n c],.agg #[.bool b',.slice A' n' c']] w (RetI (Int.gcd (iv b xs) (iv b' ys):Int) w):=by
 have S:=((((((St.new w).read R1).read R2).allocAt (w.heap.size) #[.bool b,.slice A n c] 44 (noL2 _ _ _ _) (by simp)).allocAt (w.heap.size+1) #[.bool b',.slice A' n' c'] 44 (noL2 _ _ _ _) (by simp)).allocAt (w.heap.size+1+1) #[.bool false,.slice none 0 0] 44 (noL2 _ _ _ _) (by simp))
 have hG:=Lib.hid (gcdI_any b A n c xs b' A' n' c' ys _ (S.r 1 rfl) (S.r 0 rfl) hn hn')
 replace S:=Lib.hid S
 clear R1 R2
 generalize Int.gcd (iv b xs) (iv b' ys)=G at hG ⊢
 have hg:Hid (false=ng (G:Int)):=Lib.hid (decide_eq_false (by omega)).symm
 go_enter Tryz.func181,Tryz.ntmps181
 go_wp2_with fail
 refine (hG.out).mono ?_
 rintro e w1 ⟨A1,n1,c1,rfl,Q,bb⟩
 have T:=((S.out.call bb).read Q)
 clear bb S
 have S:=T
 clear T
 obtain⟨c_r0,c_r1,f_r0,f_r1⟩:=S.cf2 0 rfl
 obtain⟨c_y0,c_y1,f_y0,f_y1⟩:=S.cf2 1 rfl
 obtain⟨c_x0,c_x1,f_x0,f_x1⟩:=S.cf2 2 rfl
 have hz:w.heap.size+1+1<w1.heap.size:=S.lt 0 rfl
 replace S:=Lib.hid S
 clear Q hG
 have S:St w _ [(w.heap.size+1+1,#[.bool false,.slice A1 n1 c1],44),(w.heap.size+1,#[.bool b',.slice A' n' c'],44),(w.heap.size,#[.bool b,.slice A n c],44)] [(A1,n1,c1,limbs G),(A',n',c',ys),(A,n,c,xs)]:=((S.out.set 0 0 (.bool false) rfl (by nofun)).set 0 1 (.slice A1 n1 c1) rfl (by nofun))
 replace S:=Lib.hid S
 go_wp2
 refine bodyPost_ret (res_divisor _ _ (w.heap.size+1+1) 44 rfl (S.out.bk _ (List.mem_of_getElem? (i:=0) rfl)).1) rfl ?_
 exact ret_I hg.out (by rw[Int.natAbs_natCast];exact S.out.r 0 rfl) S.out.bel
theorem res_over (W:World) (tmps:Array Value) (g t:Nat) {v0 v1:Value} (ht:tmps.getD 4 undef=.pointer (some ⟨g,0,none⟩)) (h:Cb W g #[v0,v1] t) :
  (results Tryz.f200 tmps).run Tryz.prog W=.ok (.agg #[v0,v1]) W:=by
 have c0:W.cell? ⟨g,0,none⟩=some v0:=h.cell rfl
 have c1:W.cell? ⟨g,1,none⟩=some v1:=h.cell rfl
 have ht':tmps[4]?.getD undef=.pointer (some ⟨g,0,none⟩):=by rw[←ht];simp[Array.getD_eq_getD_getElem?]
 simp[results,Tryz.results200,go_sem,ht',c0,c1]
set_option maxHeartbeats 1000000 in
theorem over_any (z:Int) (A:Option Addr) (n c:Nat) (g:Nat) (A':Option Addr) (n' c':Nat) (w:World) (R1:Rd w A n c (limbs z.natAbs)) (R2:Rd w A' n' c' (limbs g)) (hn:n≤500) (hn':n'≤500) (hg:0<g) :
  Calls Tryz.prog 200 #[.agg #[.bool (ng z),.slice A n c],.agg #[.bool false,.slice A' n' c']] w (RetI (z / (g:Int)) w):=by
 have eg:ng (g:Int)=false:=decide_eq_false (by omega)
 have S:=((((((St.new w).read R1).read R2).allocAt (w.heap.size) #[.bool (ng z),.slice A n c] 44 (noL2 _ _ _ _) (by simp)).allocAt (w.heap.size+1) #[.bool false,.slice A' n' c'] 44 (noL2 _ _ _ _) (by simp)).allocAt (w.heap.size+1+1) #[.bool false,.slice none 0 0] 44 (noL2 _ _ _ _) (by simp))
 have h1:=isOne_any (g:Int) A' n' c' _ (by rw[Int.natAbs_natCast];exact S.r 0 rfl)
 rw[eg] at h1
 replace S:=Lib.hid S
 by_cases h0:g=1
 ·rw[show decide ((g:Int)=1)=true from decide_eq_true (by omega)] at h1
  replace h1:=Lib.hid h1
  have e1:Hid (z / (g:Int)=z):=Lib.hid (by rw[h0];exact Int.ediv_one z)
  clear h0 R1 R2 hg eg
  go_enter Tryz.func200,Tryz.ntmps200
  go_wp2_with fail
  refine (h1.out).mono ?_
  rintro e w1 ⟨rfl,bb⟩
  have T:=(S.out.call bb)
  clear bb S
  have S:=T
  clear T
  obtain⟨c_r0,c_r1,f_r0,f_r1⟩:=S.cf2 0 rfl
  obtain⟨c_y0,c_y1,f_y0,f_y1⟩:=S.cf2 1 rfl
  obtain⟨c_x0,c_x1,f_x0,f_x1⟩:=S.cf2 2 rfl
  have hz:w.heap.size+1+1<w1.heap.size:=S.lt 0 rfl
  replace S:=Lib.hid S
  have S:St w _ [(w.heap.size+1+1,#[.bool (ng z),.slice A n c],44),(w.heap.size+1,#[.bool false,.slice A' n' c'],44),(w.heap.size,#[.bool (ng z),.slice A n c],44)] [(A',n',c',limbs g),(A,n,c,limbs z.natAbs)]:=((S.out.set 0 0 (.bool (ng z)) rfl (by nofun)).set 0 1 (.slice A n c) rfl (by nofun))
  replace S:=Lib.hid S
  go_wp2
  refine bodyPost_ret (res_over _ _ (w.heap.size+1+1) 44 rfl (S.out.bk _ (List.mem_of_getElem? (i:=0) rfl)).1) rfl ?_
  rw[e1.out];exact ret_I rfl (S.out.r 1 rfl) S.out.bel
 ·rw[show decide ((g:Int)=1)=false from decide_eq_false (by omega)] at h1
  replace h1:=Lib.hid h1
  have hD:Hid (∀ W,Rd W A n c (limbs z.natAbs)→Rd W A' n' c' (limbs g)→Calls Tryz.prog 186 #[.agg #[.bool (ng z),.slice A n c],.agg #[.bool false,.slice A' n' c']] W (RetD2 (z / (g:Int)) (z%(g:Int)) W)):=Lib.hid fun W Q1 Q2=>by
   have:=divI_any (ng z) A n c _ (ng (g:Int)) A' n' c' _ W Q1 (by rw[Int.natAbs_natCast];exact Q2:Rd W A' n' c' (limbs (g:Int).natAbs)) hn hn' (by rw[iv_z];omega)
   rwa [iv_z,iv_z,eg] at this
  clear h0 R1 R2 eg hg
  generalize z / (g:Int)=q at hD ⊢
  generalize z%(g:Int)=r at hD
  go_enter Tryz.func200,Tryz.ntmps200
  go_wp2_with fail
  refine (h1.out).mono ?_
  rintro e w1 ⟨rfl,bb⟩
  have T:=(S.out.call bb)
  clear bb S
  have S:=T
  clear T
  obtain⟨c_r0,c_r1,f_r0,f_r1⟩:=S.cf2 0 rfl
  obtain⟨c_y0,c_y1,f_y0,f_y1⟩:=S.cf2 1 rfl
  obtain⟨c_x0,c_x1,f_x0,f_x1⟩:=S.cf2 2 rfl
  have hz:w.heap.size+1+1<w1.heap.size:=S.lt 0 rfl
  replace S:=Lib.hid S
  go_wp2_with fail
  refine (hD.out _ (S.out.r 1 rfl) (S.out.r 0 rfl)).mono ?_
  rintro e w2 ⟨A3,n3,c3,A4,n4,c4,rfl,Q3,Q4,bb⟩
  have T:=(((S.out.call bb).read Q3).read Q4)
  clear bb S c_r0 f_r0 c_r1 f_r1 c_y0 f_y0 c_y1 f_y1 c_x0 f_x0 c_x1 f_x1 hz
  have S:=T
  clear T
  obtain⟨c_r0,c_r1,f_r0,f_r1⟩:=S.cf2 0 rfl
  obtain⟨c_y0,c_y1,f_y0,f_y1⟩:=S.cf2 1 rfl
  obtain⟨c_x0,c_x1,f_x0,f_x1⟩:=S.cf2 2 rfl
  have hz:w.heap.size+1+1<w2.heap.size:=S.lt 0 rfl
  replace S:=Lib.hid S
  clear Q3 Q4 hD h1
  have S:=((S.out.allocAt (w2.heap.size) #[.bool (ng q),.slice A3 n3 c3] 44 (noL2 _ _ _ _) (by simp)).allocAt (w2.heap.size+1) #[.bool (ng r),.slice A4 n4 c4] 44 (noL2 _ _ _ _) (by simp))
  obtain⟨a_r0,a_r1,b_r0,b_r1⟩:=S.cf2 2 rfl
  replace S:=Lib.hid S
  have S:St w _ [(w2.heap.size+1,#[.bool (ng r),.slice A4 n4 c4],44),(w2.heap.size,#[.bool (ng q),.slice A3 n3 c3],44),(w.heap.size+1+1,#[.bool (ng q),.slice A3 n3 c3],44),(w.heap.size+1,#[.bool false,.slice A' n' c'],44),(w.heap.size,#[.bool (ng z),.slice A n c],44)] [(A4,n4,c4,limbs r.natAbs),(A3,n3,c3,limbs q.natAbs),(A',n',c',limbs g),(A,n,c,limbs z.natAbs)]:=((S.out.set 2 0 (.bool (ng q)) rfl (by nofun)).set 2 1 (.slice A3 n3 c3) rfl (by nofun))
  replace S:=Lib.hid S
  go_wp2
  refine bodyPost_ret (res_over _ _ (w.heap.size+1+1) 44 rfl (S.out.bk _ (List.mem_of_getElem? (i:=2) rfl)).1) rfl ?_
  exact ret_I rfl (S.out.r 1 rfl) S.out.bel
end Go.Proofs.YtdeedofmflelfaaGreatDoor
