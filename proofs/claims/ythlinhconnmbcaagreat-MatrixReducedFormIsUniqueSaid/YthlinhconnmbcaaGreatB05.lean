/- Statements that leave their order open: calls beside variables that are made at any time. -/
import Derived.Deep.RegionHeld3
import Derived.Test.YthlinhconnmbcaaGreatB04
set_option linter.unusedVariables false
namespace Go.Proofs.YthlinhconnmbcaaGreat
open Go.RowKit
def lft (L:Array Bool):Nat:=L.toList.count false
theorem lft_set {L:Array Bool} {i:Nat} (h:L.getD i true=false):lft L=lft (L.setIfInBounds i true)+1:=by
 have hlt:i<L.size:=by
  rcases Nat.lt_or_ge i L.size with h' | h'
  ·exact h'
  ·simp[Array.getElem?_eq_none h'] at h
 have he:L[i]=false:=by simpa [hlt] using h
 unfold lft;rw[Array.toList_setIfInBounds,List.count_set (by simpa using hlt)]
 have e2:L.toList[i]=false:=by simpa using he
 have hp:0<L.toList.count false:=List.count_pos_iff.2 (e2 ▸ List.getElem_mem _);have e3:L.toList[i]'(by simpa using hlt)=false:=e2
 rw[e3];simp only[beq_self_eq_true,if_true,show (true==false)=false from rfl,Bool.false_eq_true,if_false]
 omega
section
variable {P:Program} {ops:Array Oper} {Q:Exit→Act→World→Prop} {S:World→Prop}
def Wk (P:Program) (ops:Array Oper) (Q:Exit→Act→World→Prop) (S:World→Prop) (L:Array Bool) (a:Act) (w:World):Prop:=
 wpAnyH P .any ops Q S (lft L) L a w
theorem Wk.start {id:Nat} {a:Act} {w:World} (hm:P.follows .mixedOrders=true) (h:Wk P ops Q S (Array.replicate ops.size false) a w.drew):(Code.region id ops true).wp P Q a w:=by
 unfold Wk at h;rw[show lft (Array.replicate ops.size false)=ops.size by simp[lft]] at h
 exact wp_region_held hm h
theorem Wk.take {i:Nat} {oi:Oper} {v:Value} {L:Array Bool} {a:Act} {w:World} (hi:ops[i]?=some oi)
  (hs:Region.noSelect ops=true) (hf:Region.free .any ops L i=true) (hr:(Region.ready .any ops L).contains i=true)
  (hQ:∀ c a w,Q (.panic c) (a.put oi.dst v) w→Q (.panic c) a w) (hy:YieldsIf P ops S oi v a) (hS:S w)
  (h:Wk P ops Q S (L.setIfInBounds i true) (a.put oi.dst v) w):Wk P ops Q S L a w:=by
 have hm:i∈Region.ready .any ops L:=by simpa using hr
 unfold Wk at *;rw[lft_set (mem_ready.1 hm).1];exact wpAnyH_take hi hs hf hr hQ hy hS h
theorem Wk.all {L:Array Bool} {a:Act} {w:World} (hne:∃ i,i∈Region.ready .any ops L)
  (h:∀ i∈Region.ready .any ops L,wpOp P ops Q i (fun a' w'=>S w'∧Wk P ops Q S (L.setIfInBounds i true) a' w') a w):Wk P ops Q S L a w:=by
 obtain⟨i,hi⟩:=hne;unfold Wk at *;rw[lft_set (mem_ready.1 hi).1];refine wpAnyH_all rfl (List.ne_nil_of_mem hi) fun j hj=>?_
 have e:=lft_set (mem_ready.1 hj).1;have e0:=lft_set (mem_ready.1 hi).1;have:=h j hj;rw[show lft (L.setIfInBounds i true)=lft (L.setIfInBounds j true) by omega]
 exact this
theorem Wk.done {L:Array Bool} {a:Act} {w:World} (hr:Region.ready .any ops L=[]) (h:Q .normal a w):Wk P ops Q S L a w:=wpAnyH_done hr h _
theorem Wk.one {i:Nat} {o:Oper} {L:Array Bool} {a:Act} {w:World} (hr:Region.ready .any ops L=[i]) (ho:ops[i]?=some o) (hw:Region.wanted o (yielded ops a.tmps)=true)
  (h:∀ K':Act→World→Prop,Shut (∀ a w,S w→(S w→Wk P ops Q S (L.setIfInBounds i true) a w)→K' a w)→Oper.wp P o a w K' Q):Wk P ops Q S L a w:=by
 refine Wk.all ⟨i,by rw[hr];exact List.mem_singleton.2 rfl⟩ fun j hj=>?_
 rw[hr] at hj;have:=List.mem_singleton.1 hj;subst this;exact wpOp_step ho (fun K' hK=>by rw[if_pos hw];exact h K' (fun a w hS hW=>hK a w ⟨hS,hW hS⟩))
structure Zv where
 op:Nat
 tmp:Nat
 cells:Array Value
 ty:Nat
def mark:List Zv→List (Option Nat)→Array Bool→Array Bool
 | z::Z,some _::σ,L=>mark Z σ (L.setIfInBounds z.op true)
 | _::Z,none::σ,L=>mark Z σ L
 | _,_,L=>L
def fill:List Zv→List (Option Nat)→Act→Act
 | z::Z,some g::σ,a=>fill Z σ (a.put (some z.tmp) (.pointer (some ⟨g,0,none⟩)))
 | _::Z,none::σ,a=>fill Z σ a
 | _,_,a=>a
def blks:List Zv→List (Option Nat)→List (Nat×Array Value×Nat)
 | z::Z,some g::σ=>(g,z.cells,z.ty)::blks Z σ
 | _::Z,none::σ=>blks Z σ
 | _,_=>[]
theorem set_true_comm (L:Array Bool) (i j:Nat):(L.setIfInBounds i true).setIfInBounds j true=(L.setIfInBounds j true).setIfInBounds i true:=by
 by_cases h:i=j
 ·subst h;rfl
 ·exact Array.setIfInBounds_comm _ _ h
theorem mark_set (Z:List Zv):∀ (σ:List (Option Nat)) (L:Array Bool) (i:Nat),mark Z σ (L.setIfInBounds i true)=(mark Z σ L).setIfInBounds i true:=by
 induction Z with
 | nil=>intro σ L i;cases σ<;>rfl
 | cons z Z ih=>
  intro σ L i
  match σ with
  | []=>rfl
  | some g::σ=>show mark Z σ _=(mark Z σ _).setIfInBounds i true;rw[set_true_comm,ih]
  | none::σ=>exact ih σ L i
theorem mark_at (Z:List Zv):∀ (σ:List (Option Nat)) (L:Array Bool) (k:Nat) (z:Zv) (g:Nat),Z[k]?=some z→σ[k]?=some none→mark Z (σ.set k (some g)) L=(mark Z σ L).setIfInBounds z.op true:=by
 induction Z with
 | nil=>intro σ L k z g h;simp at h
 | cons y Z ih=>
  intro σ L k z g h1 h2
  match σ,k with
  | [],_=>simp at h2
  | s::σ,0=>
   simp at h1 h2
   subst h1;subst h2
   show mark Z σ _=_
   exact mark_set Z σ L _
  | none::σ,k+1=>exact ih σ L k z g (by simpa using h1) (by simpa using h2)
  | some _::σ,k+1=>exact ih σ _ k z g (by simpa using h1) (by simpa using h2)
theorem fill_put (Z:List Zv):∀ (σ:List (Option Nat)) (a:Act) (d:Option Nat) (v:Value),(∀ z∈Z,d≠some z.tmp)→fill Z σ (a.put d v)=(fill Z σ a).put d v:=by
 induction Z with
 | nil=>intro σ a d v _;cases σ<;>rfl
 | cons z Z ih=>
  intro σ a d v h
  match σ with
  | []=>rfl
  | some g::σ=>
   show fill Z σ ((a.put d v).put (some z.tmp) _)=(fill Z σ (a.put (some z.tmp) _)).put d v
   rw[←ih σ _ d v (fun y hy=>h y (List.mem_cons_of_mem _ hy))]
   congr 1
   exact Act.put_comm a _ _ (fun e he h2=>h z (List.mem_cons_self ..) (he.trans h2.symm))
  | none::σ=>exact ih σ a d v (fun y hy=>h y (List.mem_cons_of_mem _ hy))
theorem fill_at (Z:List Zv):∀ (σ:List (Option Nat)) (a:Act) (k:Nat) (z:Zv) (g:Nat),(Z.map (·.tmp)).Nodup→Z[k]?=some z→σ[k]?=some none→fill Z (σ.set k (some g)) a=(fill Z σ a).put (some z.tmp) (.pointer (some ⟨g,0,none⟩)):=by
 induction Z with
 | nil=>intro σ a k z g _ h;simp at h
 | cons y Z ih=>
  intro σ a k z g hn h1 h2;obtain⟨hn1,hn2⟩:=List.nodup_cons.1 hn
  match σ,k with
  | [],_=>simp at h2
  | s::σ,0=>
   simp at h1 h2
   subst h1;subst h2
   show fill Z σ _=_
   exact fill_put Z σ a _ _ (fun x hx e=>by injection e with e;exact hn1 (List.mem_map.2 ⟨x,hx,e.symm⟩))
  | none::σ,k+1=>exact ih σ a k z g hn2 (by simpa using h1) (by simpa using h2)
  | some _::σ,k+1=>exact ih σ _ k z g hn2 (by simpa using h1) (by simpa using h2)
theorem blks_at (Z:List Zv):∀ (σ:List (Option Nat)) (k:Nat) (z:Zv) (g:Nat),Z[k]?=some z→σ[k]?=some none→(blks Z (σ.set k (some g))).Perm ((g,z.cells,z.ty)::blks Z σ):=by
 induction Z with
 | nil=>intro σ k z g h;simp at h
 | cons y Z ih=>
  intro σ k z g h1 h2
  match σ,k with
  | [],_=>simp at h2
  | s::σ,0=>
   simp at h1 h2
   subst h1;subst h2;exact List.Perm.refl _
  | none::σ,k+1=>exact ih σ k z g (by simpa using h1) (by simpa using h2)
  | some b::σ,k+1=>exact ((ih σ k z g (by simpa using h1) (by simpa using h2)).cons _).trans (List.Perm.swap _ _ _)
theorem St.perm {w W:World} {bs bs':List (Nat×Array Value×Nat)} {rs:List (Option Addr×Nat×Nat×List Nat)} (h:St w W bs rs) (p:bs.Perm bs'):St w W bs' rs:=
 ⟨h.bel,fun x hx=>h.bk x (p.mem_iff.2 hx),(p.pairwise_iff (fun h=>Ne.symm h)).1 h.nd,h.rd⟩
theorem St.drop {w W:World} {bs bs':List (Nat×Array Value×Nat)} {rs:List (Option Addr×Nat×Nat×List Nat)} (h:St w W (bs++bs') rs):St w W bs' rs:=
 ⟨h.bel,fun x hx=>h.bk x (List.mem_append_right _ hx),(List.pairwise_append.1 h.nd).2.1,h.rd⟩
theorem St.kb {w W:World} {B bs:List (Nat×Array Value×Nat)} {rs:List (Option Addr×Nat×Nat×List Nat)} (h:St w W (B++bs) rs) (k:Nat) {g t:Nat} {cs:Array Value} (hk:bs[k]?=some (g,cs,t)):Cb W g cs t:=(h.bk _ (List.mem_append_right _ (List.mem_of_getElem? hk))).1
theorem St.cb {w W:World} {bs:List (Nat×Array Value×Nat)} {rs:List (Option Addr×Nat×Nat×List Nat)} (h:St w W bs rs) (k:Nat) {g t:Nat} {cs:Array Value} (hk:bs[k]?=some (g,cs,t)):Cb W g cs t:=(h.bk _ (List.mem_of_getElem? hk)).1
theorem St.reads {w W:World} {bs:List (Nat×Array Value×Nat)} {rs rs':List (Option Addr×Nat×Nat×List Nat)} (h:St w W bs rs) (hr:∀ r∈rs',Rd W r.1 r.2.1 r.2.2.1 r.2.2.2):St w W bs (rs'++rs):=
 ⟨h.bel,h.bk,h.nd,fun r hr'=>by rcases List.mem_append.1 hr' with h1 | h1;exact hr r h1;exact h.rd r h1⟩
def RW (P:Program) (ops:Array Oper) (Q:Exit→Act→World→Prop) (S:World→Prop) (w0:World) (Z:List Zv) (L:Array Bool) (a:Act) (bs:List (Nat×Array Value×Nat)) (rs:List (Option Addr×Nat×Nat×List Nat)):Prop:=
 ∀ (σ:List (Option Nat)) (w:World),σ.length=Z.length→S w→St w0 w (blks Z σ++bs) rs→Wk P ops Q S (mark Z σ L) (fill Z σ a) w
def zok (ops:Array Oper) (Z:List Zv):Bool:=Z.all fun z=>match ops[z.op]? with
 | some o=>((match o.dst with | some d=>d==z.tmp | none=>false)&&o.guard.isNone)&&o.after.isEmpty
 | none=>false
def zis (P:Program) (ops:Array Oper) (Z:List Zv):Prop:=∀ z∈Z,∀ o,ops[z.op]?=some o→∀ (a:Act) (w:World),(execOp a.eval o).run P w=.ok (.value (.pointer (some ⟨w.heap.size,0,none⟩))) (w.alloc (.cells z.cells z.ty))
def apartZ (ops:Array Oper) (Z:List Zv) (o:Oper):Bool:=Z.all fun z=>!(o.looksAt ops).contains z.tmp&&o.dst != some z.tmp
variable {w0:World} {Z:List Zv} {L:Array Bool} {a:Act} {bs:List (Nat×Array Value×Nat)} {rs:List (Option Addr×Nat×Nat×List Nat)}
theorem mark_true {σ:List (Option Nat)} {j:Nat}:∀ {Z:List Zv} {L:Array Bool},(mark Z σ L).getD j true=false→L.getD j true=false:=by
 induction σ with
 | nil=>intro Z L h;cases Z<;>exact h
 | cons s σ ih=>
  intro Z L h
  match Z,s with
  | [],_=>exact h
  | z::Z,none=>exact ih h
  | z::Z,some g=>
   have:=ih h
   by_cases hz:z.op=j
   ·subst hz
    rcases Nat.lt_or_ge z.op L.size with h' | h'
    ·simp[h'] at this
    ·simp at this
   ·rwa [getD_set_ne true hz] at this
theorem mark_up {σ:List (Option Nat)} {j:Nat}:∀ {Z:List Zv} {L:Array Bool},L.getD j false=true→(mark Z σ L).getD j false=true:=by
 induction σ with
 | nil=>intro Z L h;cases Z<;>exact h
 | cons s σ ih=>
  intro Z L h
  match Z,s with
  | [],_=>exact h
  | z::Z,none=>exact ih h
  | z::Z,some g=>exact ih (getD_set_true h)
theorem mark_open {σ:List (Option Nat)} {j:Nat}:∀ {Z:List Zv} {L:Array Bool},σ.length=Z.length→(mark Z σ L).getD j true=false→j∈Z.map (·.op)→∃ (k:Nat) (z:Zv),Z[k]?=some z∧z.op=j∧σ[k]?=some none:=by
 induction σ with
 | nil=>intro Z L hl h hj;match Z with
  | []=>simp at hj
  | _::_=>simp at hl
 | cons s σ ih=>
  intro Z L hl h hj
  match Z with
  | []=>simp at hl
  | z::Z=>
   by_cases hz:z.op=j
   ·match s with
    | none=>exact⟨0,z,rfl,hz,rfl⟩
    | some g=>
     exfalso
     have:=mark_true (Z:=Z) (σ:=σ) h;subst hz
     rcases Nat.lt_or_ge z.op L.size with h' | h'
     ·simp[h'] at this
     ·simp at this
   ·have hj':j∈Z.map (·.op):=by
     simp only[List.map_cons,List.mem_cons] at hj
     rcases hj with hj | hj
     ·exact absurd hj.symm hz
     ·exact hj
    match s with
    | none=>
     obtain⟨k,y,h1,h2,h3⟩:=ih (L:=L) (by simpa using hl) h hj'
     exact⟨k+1,y,by simpa using h1,h2,by simpa using h3⟩
    | some g=>
     obtain⟨k,y,h1,h2,h3⟩:=ih (by simpa using hl) h hj'
     exact⟨k+1,y,by simpa using h1,h2,by simpa using h3⟩
def full (Z:List Zv) (L:Array Bool):Array Bool:=Z.foldl (fun L z=>L.setIfInBounds z.op true) L
theorem mark_le_full {σ:List (Option Nat)} {j:Nat}:∀ {Z:List Zv} {L:Array Bool},(mark Z σ L).getD j false=true→(full Z L).getD j false=true:=by
 induction σ with
 | nil=>intro Z L h;cases Z with
  | nil=>exact h
  | cons z Z=>
   have:∀ (Z:List Zv) (L:Array Bool),L.getD j false=true→(full Z L).getD j false=true:=by
    intro Z;induction Z with
    | nil=>intro L h;exact h
    | cons z Z ih=>intro L h;exact ih _ (getD_set_true h)
   exact this _ _ h
 | cons s σ ih=>
  intro Z L h
  match Z,s with
  | [],_=>exact h
  | z::Z,some g=>exact ih (Z:=Z) (L:=L.setIfInBounds z.op true) h
  | z::Z,none=>
   have h2:=ih (Z:=Z) (L:=L) h;have:∀ (Z:List Zv) (L:Array Bool) (i:Nat),(full Z L).getD j false=true→(full Z (L.setIfInBounds i true)).getD j false=true:=by
    intro Z;induction Z with
    | nil=>intro L i h;exact getD_set_true h
    | cons z Z ih=>intro L i h;show (full Z ((L.setIfInBounds i true).setIfInBounds z.op true)).getD j false=true;rw[set_true_comm];exact ih _ _ h
   exact this Z L z.op h2
theorem full_open {j:Nat}:∀ {Z:List Zv} {L:Array Bool},L.getD j true=false→j∉Z.map (·.op)→(full Z L).getD j true=false:=by
 intro Z
 induction Z with
 | nil=>intro L h _;exact h
 | cons z Z ih=>
  intro L h hj;simp only[List.map_cons,List.mem_cons,not_or] at hj;exact ih (by rw[getD_set_ne true (Ne.symm hj.1)];exact h) hj.2
theorem ready_full {σ:List (Option Nat)} {j:Nat} (h:j∈Region.ready .any ops (mark Z σ L)) (hj:j∉Z.map (·.op)):j∈Region.ready .any ops (full Z L):=by
 rw[mem_ready] at *;obtain⟨h0,o,ho,hall⟩:=h;exact⟨full_open (mark_true h0) hj,o,ho,fun e he hb=>mark_le_full (hall e he hb)⟩
theorem ready_mark {σ:List (Option Nat)} {j:Nat} (h:j∈Region.ready .any ops L) (hj:j∉Z.map (·.op)):j∈Region.ready .any ops (mark Z σ L):=by
 rw[mem_ready] at *;obtain⟨h0,o,ho,hall⟩:=h;refine⟨?_,o,ho,fun e he hb=>mark_up (hall e he hb)⟩
 have:∀ (Z:List Zv) (σ:List (Option Nat)) (L:Array Bool),L.getD j true=false→j∉Z.map (·.op)→(mark Z σ L).getD j true=false:=by
  intro Z;induction Z with
  | nil=>intro σ L h _;cases σ<;>exact h
  | cons z Z ih=>
   intro σ L h hj;simp only[List.map_cons,List.mem_cons,not_or] at hj
   match σ with
   | []=>exact h
   | none::σ=>exact ih σ L h hj.2
   | some g::σ=>exact ih σ _ (by rw[getD_set_ne true (Ne.symm hj.1)];exact h) hj.2
 exact this Z σ L h0 hj
theorem exec_fill (o:Oper) (hs:∀ cs b,o.op≠.select cs b):∀ (Z:List Zv) (σ:List (Option Nat)) (a:Act),apartZ ops Z o=true→execOp (fill Z σ a).eval o=execOp a.eval o:=by
 intro Z
 induction Z with
 | nil=>intro σ a _;cases σ<;>rfl
 | cons z Z ih=>
  intro σ a h;simp only[apartZ,List.all_cons,Bool.and_eq_true] at h;have h2:apartZ ops Z o=true:=h.2
  match σ with
  | []=>rfl
  | none::σ=>exact ih σ a h2
  | some g::σ=>
   show execOp (fill Z σ _).eval o=_
   rw[ih σ _ h2];exact execOp_put (ops:=ops) o hs a _ _ (fun d hd=>by injection hd with hd;subst hd;simpa using h.1.1)
theorem wanted_fill (o:Oper):∀ (Z:List Zv) (σ:List (Option Nat)) (a:Act),apartZ ops Z o=true→Region.wanted o (yielded ops (fill Z σ a).tmps)=Region.wanted o (yielded ops a.tmps):=by
 intro Z
 induction Z with
 | nil=>intro σ a _;cases σ<;>rfl
 | cons z Z ih=>
  intro σ a h;simp only[apartZ,List.all_cons,Bool.and_eq_true] at h;have h2:apartZ ops Z o=true:=h.2
  match σ with
  | []=>rfl
  | none::σ=>exact ih σ a h2
  | some g::σ=>
   show Region.wanted o (yielded ops (fill Z σ _).tmps)=_
   rw[ih σ _ h2];exact wanted_put (ops:=ops) o a _ _ (fun d hd=>by injection hd with hd;subst hd;simpa using h.1.1)
structure ZOk (P:Program) (ops:Array Oper) (S:World→Prop) (w0:World) (Z:List Zv) (bs:List (Nat×Array Value×Nat)):Prop where
 ok:zok ops Z=true
 is:zis P ops Z
 nd:(Z.map (·.tmp)).Nodup
 ndo:(Z.map (·.op)).Nodup
 nol:∀ z∈Z,NoL z.cells
 keep:∀ (w:World) (B:List (Nat×Array Value×Nat)),St w0 w (B++bs) []→S w
theorem St.none {w W:World} {bs:List (Nat×Array Value×Nat)} {rs:List (Option Addr×Nat×Nat×List Nat)} (h:St w W bs rs):St w W bs []:=⟨h.bel,h.bk,h.nd,by simp⟩
theorem RW.alloc (hz:ZOk P ops S w0 Z bs) {σ:List (Option Nat)} {w:World} {j:Nat} (hl:σ.length=Z.length) (hst:St w0 w (blks Z σ++bs) rs)
  (hopen:(mark Z σ L).getD j true=false) (hj:j∈Z.map (·.op))
  (h:∀ (σ':List (Option Nat)) (w':World),σ'.length=Z.length→σ'.count none+1=σ.count none→S w'→St w0 w' (blks Z σ'++bs) rs→Wk P ops Q S (mark Z σ' L) (fill Z σ' a) w') :
  wpOp P ops Q j (fun a' w'=>S w'∧Wk P ops Q S ((mark Z σ L).setIfInBounds j true) a' w') (fill Z σ a) w:=by
 obtain⟨k,z,h1,rfl,h3⟩:=mark_open hl hopen hj;have hzm:z∈Z:=List.mem_of_getElem? h1;have hok:=List.all_eq_true.1 hz.ok z hzm
 cases ho:ops[z.op]? with
 | none=>rw[ho] at hok;cases hok
 | some o=>
  rw[ho] at hok
  dsimp only at hok
  obtain⟨d,hd⟩:∃ d,o.dst=some d:=by cases h:o.dst with
   | none=>rw[h] at hok;cases hok
   | some d=>exact⟨d,rfl⟩
  rw[hd] at hok;simp only[Bool.and_eq_true,beq_iff_eq,Option.isNone_iff_eq_none] at hok;obtain⟨⟨rfl,hg⟩,_⟩:=hok;unfold wpOp;rw[ho];simp only[Region.wanted,hg,if_true];refine .inl ?_
  unfold Oper.wp;rw[hz.is z hzm o ho]
  show S _∧Wk P ops Q S _ (Act.put _ o.dst _) _
  rw[hd,←fill_at Z σ a k z _ hz.nd h1 h3,←mark_at Z σ L k z w.heap.size h1 h3];have hst':St w0 (w.alloc (.cells z.cells z.ty)) (blks Z (σ.set k (some w.heap.size))++bs) rs:=
   (hst.alloc z.cells z.ty (hz.nol z hzm)).perm (((blks_at Z σ k z w.heap.size h1 h3).append_right bs).symm)
  have hS:S (w.alloc (.cells z.cells z.ty)):=hz.keep _ _ hst'.none;have hk:k<σ.length:=(List.getElem?_eq_some_iff.1 h3).1
  have hkn:σ[k]=none:=(List.getElem?_eq_some_iff.1 h3).2
  refine⟨hS,h _ _ (by simpa using hl) ?_ hS hst'⟩
  have hp:0<σ.count none:=List.count_pos_iff.2 (hkn ▸ List.getElem_mem _);rw[List.count_set hk]
  simp[hkn];omega
theorem RW.call (hz:ZOk P ops S w0 Z bs) {c:Nat} {oc:Oper} {f:FuncId} {args:Array Value} (hc:ops[c]?=some oc) (hr:Region.ready .any ops (full Z L)=[c]) (hr2:(Region.ready .any ops L).contains c=true) (hcz:c∉Z.map (·.op))
  (hsel:∀ cs b,oc.op≠.select cs b) (hap:apartZ ops Z oc=true) (hw:Region.wanted oc (yielded ops a.tmps)=true)
  (hx:∀ w,(execOp a.eval oc).run P w=.ok (.enter f args) w)
  (h:∀ w,St w0 w bs rs→Calls P f args w fun e w'=>Below w.heap.size w w'∧∃ v rs',e=.returned v∧(∀ r∈rs',Rd w' r.1 r.2.1 r.2.2.1 r.2.2.2)∧RW P ops Q S w0 Z (L.setIfInBounds c true) (a.put oc.dst v) bs (rs'++rs)) :
  RW P ops Q S w0 Z L a bs rs:=by
 intro σ w hl hS hst;generalize hn:σ.count none=n
 induction n using Nat.strongRecOn generalizing σ w with
 | ind n ih=>
  have hcr:c∈Region.ready .any ops (mark Z σ L):=ready_mark (by simpa using hr2) hcz
  refine Wk.all ⟨c,hcr⟩ fun j hj=>?_
  by_cases hjz:j∈Z.map (·.op)
  ·refine RW.alloc hz hl hst (mem_ready.1 hj).1 hjz fun σ' w' hl' hc' hS' hst'=>?_
   exact ih _ (by omega) σ' w' hl' hS' hst' rfl
  ·have:=ready_full hj hjz
   rw[hr] at this;have:=List.mem_singleton.1 this;subst this;unfold wpOp;rw[hc];simp only[wanted_fill (ops:=ops) oc Z σ a hap,hw,if_true];refine .inl ?_
   unfold Oper.wp;rw[exec_fill (ops:=ops) oc hsel Z σ a hap,hx]
   show Calls P f args w _
   refine (h w hst.drop).mono ?_
   rintro e w' ⟨bb,v,rs',rfl,hrd,hrw⟩
   show S w'∧Wk P ops Q S _ (Act.put _ oc.dst v) w'
   have hst':St w0 w' (blks Z σ++bs) (rs'++rs):=(hst.call bb).reads hrd;have hS':S w':=hz.keep _ _ hst'.none;refine⟨hS',?_⟩
   rw[←mark_set,←fill_put Z σ a oc.dst v (fun z hzm e=>by
    have:=List.all_eq_true.1 hap z hzm;simp only[Bool.and_eq_true,bne_iff_ne] at this;exact this.2 e)]
   exact hrw σ w' hl hS' hst'
theorem free_mark {σ:List (Option Nat)} {i:Nat} (h:Region.free .any ops L i=true):Region.free .any ops (mark Z σ L) i=true:=by
 unfold Region.free at *
 cases ho:ops[i]? with
 | none=>rw[ho] at h;cases h
 | some oi=>
  rw[ho] at h;simp only[List.all_eq_true,Bool.or_eq_true] at h ⊢;intro j hj
  rcases h j hj with (h1 | h1) | h1
  ·exact .inl (.inl h1)
  ·refine .inl (.inr ?_)
   cases h2:(mark Z σ L).getD j true
   ·rw[mark_true h2] at h1;cases h1
   ·rfl
  ·exact .inr h1
theorem RW.take {i:Nat} {oi:Oper} {v:Value} (hi:ops[i]?=some oi) (hs:Region.noSelect ops=true) (hf:Region.free .any ops L i=true) (hr:(Region.ready .any ops L).contains i=true) (hiz:i∉Z.map (·.op)) (hap:apartZ ops Z oi=true)
  (hQ:∀ c a w,Q (.panic c) (a.put oi.dst v) w→Q (.panic c) a w) (hy:YieldsIf P ops S oi v a)
  (h:RW P ops Q S w0 Z (L.setIfInBounds i true) (a.put oi.dst v) bs rs):RW P ops Q S w0 Z L a bs rs:=by
 intro σ w hl hS hst;have hsel:=Region.noSelect_spec hs i oi;have hy':YieldsIf P ops S oi v (fill Z σ a):=by
  unfold YieldsIf at *;rw[exec_fill (ops:=ops) oi (fun cs b=>hsel cs b hi) Z σ a hap,wanted_fill (ops:=ops) oi Z σ a hap]
  exact hy
 refine Wk.take hi hs (free_mark hf) (by simpa using ready_mark (ops:=ops) (σ:=σ) (Z:=Z) (by simpa using hr) hiz) hQ hy' hS ?_
 rw[←mark_set,←fill_put Z σ a oi.dst v (fun z hzm e=>by
  have:=List.all_eq_true.1 hap z hzm;simp only[Bool.and_eq_true,bne_iff_ne] at this;exact this.2 e)]
 exact h σ w hl hS hst
theorem mark_none {k:Nat} {z:Zv}:∀ {Z:List Zv} {σ:List (Option Nat)} {L:Array Bool} (d:Bool),(Z.map (·.op)).Nodup→Z[k]?=some z→σ[k]?=some none→(mark Z σ L).getD z.op d=L.getD z.op d:=by
 have far:∀ (Z:List Zv) (σ:List (Option Nat)) (L:Array Bool) (d:Bool),z.op∉Z.map (·.op)→(mark Z σ L).getD z.op d=L.getD z.op d:=by
  intro Z;induction Z with
  | nil=>intro σ L d _;cases σ<;>rfl
  | cons y Z ih=>
   intro σ L d h;simp only[List.map_cons,List.mem_cons,not_or] at h
   match σ with
   | []=>rfl
   | none::σ=>exact ih σ L d h.2
   | some g::σ=>show (mark Z σ _).getD z.op d=_;rw[ih σ _ d h.2,getD_set_ne d (Ne.symm h.1)]
 induction k with
 | zero=>
  intro Z σ L d hn h1 h2
  match Z,σ with
  | [],_=>simp at h1
  | _::_,[]=>simp at h2
  | y::Z,s::σ=>
   simp at h1 h2
   subst h1;subst h2;exact far Z σ L d (List.nodup_cons.1 hn).1
 | succ k ih=>
  intro Z σ L d hn h1 h2
  match Z,σ with
  | [],_=>simp at h1
  | _::_,[]=>simp at h2
  | y::Z,none::σ=>exact ih (Z:=Z) (σ:=σ) (L:=L) d (List.nodup_cons.1 hn).2 (by simpa using h1) (by simpa using h2)
  | y::Z,some g::σ=>
   show (mark Z σ _).getD z.op d=_
   rw[ih d (List.nodup_cons.1 hn).2 (by simpa using h1) (by simpa using h2)]
   refine getD_set_ne d fun e=>(List.nodup_cons.1 hn).1 ?_
   exact List.mem_map.2 ⟨z,List.mem_of_getElem? (i:=k) (by simpa using h1),e.symm⟩
def tailok (ops:Array Oper) (Z:List Zv) (L:Array Bool):Bool:=
 ((List.range ops.size).all fun j=>L.getD j true||(Z.any fun z=>z.op==j)||Z.all fun z=>match ops[j]? with
  | some o=>o.after.any fun e=>Region.binds .any e&&e.on==z.op
  | none=>false)&&Z.all fun z=>!(L.getD z.op true)
theorem RW.tail (hz:ZOk P ops S w0 Z bs) (ht:tailok ops Z L=true)
  (h:∀ (gs:List Nat) (w:World),gs.length=Z.length→S w→St w0 w (blks Z (gs.map some)++bs) rs→Wk P ops Q S (mark Z (gs.map some) L) (fill Z (gs.map some) a) w):RW P ops Q S w0 Z L a bs rs:=by
 unfold tailok at ht;rw[Bool.and_eq_true] at ht;obtain⟨ht1,ht2⟩:=ht;intro σ w hl hS hst;generalize hn:σ.count none=n
 induction n using Nat.strongRecOn generalizing σ w with
 | ind n ih=>
  by_cases h0:none∈σ
  ·obtain⟨k,hk,hkn⟩:=List.mem_iff_getElem.1 h0
   have h3:σ[k]?=some none:=by rw[List.getElem?_eq_getElem hk,hkn]
   obtain⟨z,h1⟩:∃ z,Z[k]?=some z:=⟨Z[k]'(hl ▸ hk),List.getElem?_eq_getElem _⟩
   have hzm:z∈Z:=List.mem_of_getElem? h1;have hL:L.getD z.op true=false:=by simpa using List.all_eq_true.1 ht2 z hzm
   have hM:(mark Z σ L).getD z.op true=false:=by rw[mark_none true hz.ndo h1 h3];exact hL
   have hF:(mark Z σ L).getD z.op false=false:=by
    rw[mark_none false hz.ndo h1 h3]
    rcases Nat.lt_or_ge z.op L.size with h' | h'
    ·simpa [h'] using hL
    ·simp[Array.getElem?_eq_none h']
   have hok:=List.all_eq_true.1 hz.ok z hzm;have hready:z.op∈Region.ready .any ops (mark Z σ L):=by
    rw[mem_ready];refine⟨hM,?_⟩
    cases ho:ops[z.op]? with
    | none=>rw[ho] at hok;cases hok
    | some o=>
     rw[ho] at hok;simp only[Bool.and_eq_true,Array.isEmpty_iff] at hok;exact⟨o,rfl,fun e he=>by rw[hok.2] at he;simp at he⟩
   refine Wk.all ⟨_,hready⟩ fun j hj=>?_
   have hjo:=(mem_ready.1 hj).1
   by_cases hjz:j∈Z.map (·.op)
   ·refine RW.alloc hz hl hst hjo hjz fun σ' w' hl' hc' hS' hst'=>?_
    exact ih _ (by omega) σ' w' hl' hS' hst' rfl
   ·exfalso
    obtain⟨_,o,ho,hall⟩:=mem_ready.1 hj;have hlt:j<ops.size:=(Array.getElem?_eq_some_iff.1 ho).1
    have:=List.all_eq_true.1 ht1 j (List.mem_range.2 hlt);simp only[Bool.or_eq_true] at this
    rcases this with (h4 | h4) | h4
    ·rw[mark_true hjo] at h4;cases h4
    ·obtain⟨y,hy,e⟩:=List.any_eq_true.1 h4
     exact hjz (List.mem_map.2 ⟨y,hy,by simpa using e⟩)
    ·have h5:=List.all_eq_true.1 h4 z hzm
     rw[ho] at h5;obtain⟨e,he,hb⟩:=Array.any_eq_true'.1 h5;simp only[Bool.and_eq_true,beq_iff_eq] at hb;have h6:=hall e he hb.1;rw[hb.2,hF] at h6
     cases h6
  ·have hm:∃ gs:List Nat,σ=gs.map some:=by
    clear hn ih hst hl
    induction σ with
    | nil=>exact⟨[],rfl⟩
    | cons s σ ih=>
     simp only[List.mem_cons,not_or] at h0;obtain⟨gs,rfl⟩:=ih h0.2
     cases s with
     | none=>exact absurd rfl h0.1
     | some g=>exact⟨g::gs,rfl⟩
   obtain⟨gs,rfl⟩:=hm;exact h gs w (by simpa using hl) hS hst
theorem RW.start {id:Nat} {w:World} (hm:P.follows .mixedOrders=true) (hz:ZOk P ops S w0 Z bs) (hst:St w0 w bs rs) (h:RW P ops Q S w0 Z (Array.replicate ops.size false) a bs rs):(Code.region id ops true).wp P Q a w:=by
 have e:∀ (Z:List Zv),(∀ L,mark Z (List.replicate Z.length none) L=L)∧(∀ a,fill Z (List.replicate Z.length none) a=a)∧blks Z (List.replicate Z.length none)=[]:=by
  intro Z;induction Z with
  | nil=>exact⟨fun _=>rfl,fun _=>rfl,rfl⟩
  | cons z Z ih=>exact ih
 refine Wk.start (S:=S) hm ?_
 have:=h (List.replicate Z.length none) w.drew (by simp) (hz.keep _ [] hst.drew.none) (by rw[(e Z).2.2];exact hst.drew)
 rwa [(e Z).1,(e Z).2.1] at this
theorem at0 {x0:Oper} {l:List Oper}:(x0::l).toArray[0]?=some x0:=rfl
theorem at1 {x0 x1:Oper} {l:List Oper}:(x0::x1::l).toArray[1]?=some x1:=rfl
theorem at2 {x0 x1 x2:Oper} {l:List Oper}:(x0::x1::x2::l).toArray[2]?=some x2:=rfl
theorem at3 {x0 x1 x2 x3:Oper} {l:List Oper}:(x0::x1::x2::x3::l).toArray[3]?=some x3:=rfl
theorem at4 {x0 x1 x2 x3 x4:Oper} {l:List Oper}:(x0::x1::x2::x3::x4::l).toArray[4]?=some x4:=rfl
theorem at5 {x0 x1 x2 x3 x4 x5:Oper} {l:List Oper}:(x0::x1::x2::x3::x4::x5::l).toArray[5]?=some x5:=rfl
theorem at6 {x0 x1 x2 x3 x4 x5 x6:Oper} {l:List Oper}:(x0::x1::x2::x3::x4::x5::x6::l).toArray[6]?=some x6:=rfl
theorem at7 {x0 x1 x2 x3 x4 x5 x6 x7:Oper} {l:List Oper}:(x0::x1::x2::x3::x4::x5::x6::x7::l).toArray[7]?=some x7:=rfl
theorem at8 {x0 x1 x2 x3 x4 x5 x6 x7 x8:Oper} {l:List Oper}:(x0::x1::x2::x3::x4::x5::x6::x7::x8::l).toArray[8]?=some x8:=rfl
theorem at9 {x0 x1 x2 x3 x4 x5 x6 x7 x8 x9:Oper} {l:List Oper}:(x0::x1::x2::x3::x4::x5::x6::x7::x8::x9::l).toArray[9]?=some x9:=rfl
theorem at10 {x0 x1 x2 x3 x4 x5 x6 x7 x8 x9 x10:Oper} {l:List Oper}:(x0::x1::x2::x3::x4::x5::x6::x7::x8::x9::x10::l).toArray[10]?=some x10:=rfl
theorem at11 {x0 x1 x2 x3 x4 x5 x6 x7 x8 x9 x10 x11:Oper} {l:List Oper}:(x0::x1::x2::x3::x4::x5::x6::x7::x8::x9::x10::x11::l).toArray[11]?=some x11:=rfl
theorem at12 {x0 x1 x2 x3 x4 x5 x6 x7 x8 x9 x10 x11 x12:Oper} {l:List Oper}:(x0::x1::x2::x3::x4::x5::x6::x7::x8::x9::x10::x11::x12::l).toArray[12]?=some x12:=rfl
theorem at13 {x0 x1 x2 x3 x4 x5 x6 x7 x8 x9 x10 x11 x12 x13:Oper} {l:List Oper}:(x0::x1::x2::x3::x4::x5::x6::x7::x8::x9::x10::x11::x12::x13::l).toArray[13]?=some x13:=rfl
theorem at14 {x0 x1 x2 x3 x4 x5 x6 x7 x8 x9 x10 x11 x12 x13 x14:Oper} {l:List Oper}:(x0::x1::x2::x3::x4::x5::x6::x7::x8::x9::x10::x11::x12::x13::x14::l).toArray[14]?=some x14:=rfl
theorem at15 {x0 x1 x2 x3 x4 x5 x6 x7 x8 x9 x10 x11 x12 x13 x14 x15:Oper} {l:List Oper}:(x0::x1::x2::x3::x4::x5::x6::x7::x8::x9::x10::x11::x12::x13::x14::x15::l).toArray[15]?=some x15:=rfl
theorem at16 {x0 x1 x2 x3 x4 x5 x6 x7 x8 x9 x10 x11 x12 x13 x14 x15 x16:Oper} {l:List Oper}:(x0::x1::x2::x3::x4::x5::x6::x7::x8::x9::x10::x11::x12::x13::x14::x15::x16::l).toArray[16]?=some x16:=rfl
theorem at17 {x0 x1 x2 x3 x4 x5 x6 x7 x8 x9 x10 x11 x12 x13 x14 x15 x16 x17:Oper} {l:List Oper}:(x0::x1::x2::x3::x4::x5::x6::x7::x8::x9::x10::x11::x12::x13::x14::x15::x16::x17::l).toArray[17]?=some x17:=rfl
theorem at18 {x0 x1 x2 x3 x4 x5 x6 x7 x8 x9 x10 x11 x12 x13 x14 x15 x16 x17 x18:Oper} {l:List Oper}:(x0::x1::x2::x3::x4::x5::x6::x7::x8::x9::x10::x11::x12::x13::x14::x15::x16::x17::x18::l).toArray[18]?=some x18:=rfl
theorem at19 {x0 x1 x2 x3 x4 x5 x6 x7 x8 x9 x10 x11 x12 x13 x14 x15 x16 x17 x18 x19:Oper} {l:List Oper}:(x0::x1::x2::x3::x4::x5::x6::x7::x8::x9::x10::x11::x12::x13::x14::x15::x16::x17::x18::x19::l).toArray[19]?=some x19:=rfl
theorem at20 {x0 x1 x2 x3 x4 x5 x6 x7 x8 x9 x10 x11 x12 x13 x14 x15 x16 x17 x18 x19 x20:Oper} {l:List Oper}:(x0::x1::x2::x3::x4::x5::x6::x7::x8::x9::x10::x11::x12::x13::x14::x15::x16::x17::x18::x19::x20::l).toArray[20]?=some x20:=rfl
theorem at21 {x0 x1 x2 x3 x4 x5 x6 x7 x8 x9 x10 x11 x12 x13 x14 x15 x16 x17 x18 x19 x20 x21:Oper} {l:List Oper}:(x0::x1::x2::x3::x4::x5::x6::x7::x8::x9::x10::x11::x12::x13::x14::x15::x16::x17::x18::x19::x20::x21::l).toArray[21]?=some x21:=rfl
theorem at22 {x0 x1 x2 x3 x4 x5 x6 x7 x8 x9 x10 x11 x12 x13 x14 x15 x16 x17 x18 x19 x20 x21 x22:Oper} {l:List Oper}:(x0::x1::x2::x3::x4::x5::x6::x7::x8::x9::x10::x11::x12::x13::x14::x15::x16::x17::x18::x19::x20::x21::x22::l).toArray[22]?=some x22:=rfl
theorem at23 {x0 x1 x2 x3 x4 x5 x6 x7 x8 x9 x10 x11 x12 x13 x14 x15 x16 x17 x18 x19 x20 x21 x22 x23:Oper} {l:List Oper}:(x0::x1::x2::x3::x4::x5::x6::x7::x8::x9::x10::x11::x12::x13::x14::x15::x16::x17::x18::x19::x20::x21::x22::x23::l).toArray[23]?=some x23:=rfl
theorem at24 {x0 x1 x2 x3 x4 x5 x6 x7 x8 x9 x10 x11 x12 x13 x14 x15 x16 x17 x18 x19 x20 x21 x22 x23 x24:Oper} {l:List Oper}:(x0::x1::x2::x3::x4::x5::x6::x7::x8::x9::x10::x11::x12::x13::x14::x15::x16::x17::x18::x19::x20::x21::x22::x23::x24::l).toArray[24]?=some x24:=rfl
theorem at25 {x0 x1 x2 x3 x4 x5 x6 x7 x8 x9 x10 x11 x12 x13 x14 x15 x16 x17 x18 x19 x20 x21 x22 x23 x24 x25:Oper} {l:List Oper}:(x0::x1::x2::x3::x4::x5::x6::x7::x8::x9::x10::x11::x12::x13::x14::x15::x16::x17::x18::x19::x20::x21::x22::x23::x24::x25::l).toArray[25]?=some x25:=rfl
theorem at26 {x0 x1 x2 x3 x4 x5 x6 x7 x8 x9 x10 x11 x12 x13 x14 x15 x16 x17 x18 x19 x20 x21 x22 x23 x24 x25 x26:Oper} {l:List Oper}:(x0::x1::x2::x3::x4::x5::x6::x7::x8::x9::x10::x11::x12::x13::x14::x15::x16::x17::x18::x19::x20::x21::x22::x23::x24::x25::x26::l).toArray[26]?=some x26:=rfl
theorem at27 {x0 x1 x2 x3 x4 x5 x6 x7 x8 x9 x10 x11 x12 x13 x14 x15 x16 x17 x18 x19 x20 x21 x22 x23 x24 x25 x26 x27:Oper} {l:List Oper}:(x0::x1::x2::x3::x4::x5::x6::x7::x8::x9::x10::x11::x12::x13::x14::x15::x16::x17::x18::x19::x20::x21::x22::x23::x24::x25::x26::x27::l).toArray[27]?=some x27:=rfl
theorem at28 {x0 x1 x2 x3 x4 x5 x6 x7 x8 x9 x10 x11 x12 x13 x14 x15 x16 x17 x18 x19 x20 x21 x22 x23 x24 x25 x26 x27 x28:Oper} {l:List Oper}:(x0::x1::x2::x3::x4::x5::x6::x7::x8::x9::x10::x11::x12::x13::x14::x15::x16::x17::x18::x19::x20::x21::x22::x23::x24::x25::x26::x27::x28::l).toArray[28]?=some x28:=rfl
theorem at29 {x0 x1 x2 x3 x4 x5 x6 x7 x8 x9 x10 x11 x12 x13 x14 x15 x16 x17 x18 x19 x20 x21 x22 x23 x24 x25 x26 x27 x28 x29:Oper} {l:List Oper}:(x0::x1::x2::x3::x4::x5::x6::x7::x8::x9::x10::x11::x12::x13::x14::x15::x16::x17::x18::x19::x20::x21::x22::x23::x24::x25::x26::x27::x28::x29::l).toArray[29]?=some x29:=rfl
theorem at30 {x0 x1 x2 x3 x4 x5 x6 x7 x8 x9 x10 x11 x12 x13 x14 x15 x16 x17 x18 x19 x20 x21 x22 x23 x24 x25 x26 x27 x28 x29 x30:Oper} {l:List Oper}:(x0::x1::x2::x3::x4::x5::x6::x7::x8::x9::x10::x11::x12::x13::x14::x15::x16::x17::x18::x19::x20::x21::x22::x23::x24::x25::x26::x27::x28::x29::x30::l).toArray[30]?=some x30:=rfl
theorem at31 {x0 x1 x2 x3 x4 x5 x6 x7 x8 x9 x10 x11 x12 x13 x14 x15 x16 x17 x18 x19 x20 x21 x22 x23 x24 x25 x26 x27 x28 x29 x30 x31:Oper} {l:List Oper}:(x0::x1::x2::x3::x4::x5::x6::x7::x8::x9::x10::x11::x12::x13::x14::x15::x16::x17::x18::x19::x20::x21::x22::x23::x24::x25::x26::x27::x28::x29::x30::x31::l).toArray[31]?=some x31:=rfl
theorem at32 {x0 x1 x2 x3 x4 x5 x6 x7 x8 x9 x10 x11 x12 x13 x14 x15 x16 x17 x18 x19 x20 x21 x22 x23 x24 x25 x26 x27 x28 x29 x30 x31 x32:Oper} {l:List Oper}:(x0::x1::x2::x3::x4::x5::x6::x7::x8::x9::x10::x11::x12::x13::x14::x15::x16::x17::x18::x19::x20::x21::x22::x23::x24::x25::x26::x27::x28::x29::x30::x31::x32::l).toArray[32]?=some x32:=rfl
theorem at33 {x0 x1 x2 x3 x4 x5 x6 x7 x8 x9 x10 x11 x12 x13 x14 x15 x16 x17 x18 x19 x20 x21 x22 x23 x24 x25 x26 x27 x28 x29 x30 x31 x32 x33:Oper} {l:List Oper}:(x0::x1::x2::x3::x4::x5::x6::x7::x8::x9::x10::x11::x12::x13::x14::x15::x16::x17::x18::x19::x20::x21::x22::x23::x24::x25::x26::x27::x28::x29::x30::x31::x32::x33::l).toArray[33]?=some x33:=rfl
theorem at34 {x0 x1 x2 x3 x4 x5 x6 x7 x8 x9 x10 x11 x12 x13 x14 x15 x16 x17 x18 x19 x20 x21 x22 x23 x24 x25 x26 x27 x28 x29 x30 x31 x32 x33 x34:Oper} {l:List Oper}:(x0::x1::x2::x3::x4::x5::x6::x7::x8::x9::x10::x11::x12::x13::x14::x15::x16::x17::x18::x19::x20::x21::x22::x23::x24::x25::x26::x27::x28::x29::x30::x31::x32::x33::x34::l).toArray[34]?=some x34:=rfl
theorem at35 {x0 x1 x2 x3 x4 x5 x6 x7 x8 x9 x10 x11 x12 x13 x14 x15 x16 x17 x18 x19 x20 x21 x22 x23 x24 x25 x26 x27 x28 x29 x30 x31 x32 x33 x34 x35:Oper} {l:List Oper}:(x0::x1::x2::x3::x4::x5::x6::x7::x8::x9::x10::x11::x12::x13::x14::x15::x16::x17::x18::x19::x20::x21::x22::x23::x24::x25::x26::x27::x28::x29::x30::x31::x32::x33::x34::x35::l).toArray[35]?=some x35:=rfl
theorem zis_nil:zis P ops []:=fun _ h=>by cases h
theorem zis_cons {z:Zv} {o:Oper} (h:ops[z.op]?=some o) (hr:∀ (a:Act) (w:World),(execOp a.eval o).run P w=.ok (.value (.pointer (some ⟨w.heap.size,0,none⟩))) (w.alloc (.cells z.cells z.ty))) (hz:zis P ops Z):zis P ops (z::Z):=by
 intro y hy o' ho'
 rcases List.mem_cons.1 hy with rfl | hy
 ·rw[h] at ho';injection ho' with ho';subst ho';exact hr
 ·exact hz y hy o' ho'
theorem nol_nil:∀ z∈([]:List Zv),NoL z.cells:=fun _ h=>by cases h
theorem nol_cons {z:Zv} (h:NoL z.cells) (hz:∀ z∈Z,NoL z.cells):∀ y∈z::Z,NoL y.cells:=fun y hy=>by
 rcases List.mem_cons.1 hy with rfl | hy
 ·exact h
 ·exact hz y hy
theorem rd_nil {w:World}:∀ r∈([]:List (Option Addr×Nat×Nat×List Nat)),Rd w r.1 r.2.1 r.2.2.1 r.2.2.2:=fun _ h=>by cases h
theorem rd_cons {w:World} {A:Option Addr} {n c:Nat} {xs:List Nat} {rs:List (Option Addr×Nat×Nat×List Nat)} (h:Rd w A n c xs) (hr:∀ r∈rs,Rd w r.1 r.2.1 r.2.2.1 r.2.2.2):∀ r∈(A,n,c,xs)::rs,Rd w r.1 r.2.1 r.2.2.1 r.2.2.2:=fun y hy=>by
 rcases List.mem_cons.1 hy with rfl | hy
 ·exact h
 ·exact hr y hy
def takeOk (ops:Array Oper) (Z:List Zv) (L:Array Bool) (i:Nat) (o:Oper):Bool:=
 Region.noSelect ops&&Region.free .any ops L i&&(Region.ready .any ops L).contains i && !((Z.map (·.op)).contains i)&&apartZ ops Z o
def callOk (ops:Array Oper) (Z:List Zv) (L:Array Bool) (i:Nat) (o:Oper):Bool:=
 (Region.ready .any ops (full Z L)==[i])&&(Region.ready .any ops L).contains i && !((Z.map (·.op)).contains i)&&apartZ ops Z o&&Region.noSelect ops
theorem wanted_none {o:Oper} {t:Array Value} (h:o.guard.isNone=true):Region.wanted o (yielded ops t)=true:=by
 unfold Region.wanted;rw[Option.isNone_iff_eq_none.1 h]
theorem RW.t {i:Nat} {oi:Oper} {v:Value} (dst:Option Nat) (hi:ops[i]?=some oi) (hd:oi.dst=dst:=by rfl) (hc:takeOk ops Z L i oi=true:=by kernel_rfl) (hw:Region.wanted oi (yielded ops a.tmps)=true:=by kernel_rfl)
  (hQ:∀ c a w,Q (.panic c) (Act.put a dst v) w→Q (.panic c) a w:=by exact fun _ _ _ h=>h) (hy:∀ w,S w→(execOp a.eval oi).run P w=.ok (.value v) w)
  (h:RW P ops Q S w0 Z (L.setIfInBounds i true) (a.put dst v) bs rs):RW P ops Q S w0 Z L a bs rs:=by
 simp only[takeOk,Bool.and_eq_true,Bool.not_eq_true'] at hc;obtain⟨⟨⟨⟨c1,c2⟩,c3⟩,c4⟩,c5⟩:=hc;subst hd;exact RW.take hi c1 c2 c3 (by simpa using c4) c5 hQ (.inl ⟨hw,hy⟩) h
theorem RW.u {i:Nat} {oi:Oper} (dst:Option Nat) (hi:ops[i]?=some oi) (hd:oi.dst=dst:=by rfl) (hc:takeOk ops Z L i oi=true:=by kernel_rfl) (hw:Region.wanted oi (yielded ops a.tmps)=false:=by kernel_rfl)
  (hQ:∀ c a w,Q (.panic c) (Act.put a dst undef) w→Q (.panic c) a w:=by exact fun _ _ _ h=>h)
  (h:RW P ops Q S w0 Z (L.setIfInBounds i true) (a.put dst undef) bs rs):RW P ops Q S w0 Z L a bs rs:=by
 simp only[takeOk,Bool.and_eq_true,Bool.not_eq_true'] at hc;obtain⟨⟨⟨⟨c1,c2⟩,c3⟩,c4⟩,c5⟩:=hc;subst hd;exact RW.take hi c1 c2 c3 (by simpa using c4) c5 hQ (.inr ⟨hw,rfl⟩) h
theorem RW.c {i:Nat} {oc:Oper} {f:FuncId} {args:Array Value} (dst:Option Nat) (hz:ZOk P ops S w0 Z bs) (hi:ops[i]?=some oc) (hd:oc.dst=dst:=by rfl) (hc:callOk ops Z L i oc=true:=by kernel_rfl) (hw:Region.wanted oc (yielded ops a.tmps)=true:=by kernel_rfl)
  (hx:∀ w,(execOp a.eval oc).run P w=.ok (.enter f args) w)
  (h:∀ w,St w0 w bs rs→Calls P f args w fun e w'=>Below w.heap.size w w'∧∃ v rs',e=.returned v∧(∀ r∈rs',Rd w' r.1 r.2.1 r.2.2.1 r.2.2.2)∧RW P ops Q S w0 Z (L.setIfInBounds i true) (a.put dst v) bs (rs'++rs)) :
  RW P ops Q S w0 Z L a bs rs:=by
 simp only[callOk,Bool.and_eq_true,Bool.not_eq_true',beq_iff_eq] at hc;obtain⟨⟨⟨⟨c1,c2⟩,c3⟩,c4⟩,c5⟩:=hc;subst hd;exact RW.call hz hi c1 c2 (by simpa using c3) (fun cs b=>Region.noSelect_spec c5 i oc cs b hi) c4 hw hx h
theorem Wk.o {i:Nat} {o:Oper} {L:Array Bool} {a:Act} {w:World} (ho:ops[i]?=some o) (hr:((Region.ready .any ops L==[i])&&o.guard.isNone)=true)
  (h:∀ K':Act→World→Prop,Shut (∀ a w,S w→Wk P ops Q S (L.setIfInBounds i true) a w→K' a w)→Oper.wp P o a w K' Q):Wk P ops Q S L a w:=by
 simp only[Bool.and_eq_true,beq_iff_eq] at hr;exact Wk.one hr.1 ho (wanted_none hr.2) fun K' hK=>h K' (fun a w hS hW=>hK.out a w hS fun _=>hW)
theorem RW.begin {id:Nat} {w:World} (hm:P.follows .mixedOrders=true) (hz:ZOk P ops S w0 Z bs) (hst:St w0 w bs rs) (h:Hid (ZOk P ops S w0 Z bs)→RW P ops Q S w0 Z (Array.replicate ops.size false) a bs rs):(Code.region id ops true).wp P Q a w:=RW.start hm hz hst (h (Lib.hid hz))
theorem len2 {gs:List Nat} (h:gs.length=2):∃ a b,gs=[a,b]:=by match gs,h with | [a,b],_=>exact⟨a,b,rfl⟩
theorem len1' {gs:List Nat} (h:gs.length=1):∃ a,gs=[a]:=by match gs,h with | [a],_=>exact⟨a,rfl⟩
theorem len0 {gs:List Nat} (h:gs.length=0):gs=[]:=List.length_eq_zero_iff.1 h
end
end Go.Proofs.YthlinhconnmbcaaGreat
