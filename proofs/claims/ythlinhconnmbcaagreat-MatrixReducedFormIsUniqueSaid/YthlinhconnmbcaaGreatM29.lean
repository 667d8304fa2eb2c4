/- A matrix that a call makes, by its numbers. -/
import Derived.Test.YthlinhconnmbcaaGreatB26
import Derived.Test.YthlinhconnmbcaaGreatB22
import Derived.Test.YthlinhconnmbcaaGreatB21
import Derived.Test.YthlinhconnmbcaaGreatM28
set_option maxRecDepth 100000
set_option maxHeartbeats 40000000
set_option linter.unusedVariables false
namespace Go.Proofs.YthlinhconnmbcaaGreat
open Go.RowKit RQ GE
set_option linter.unusedVariables false
def Fm (w W:World) (g n:Nat) (B:List Nat) (k:Nat) (f:Nat→Nat→Rat) (zs:List Bk) (qs:List Rdg):Prop:=
 ∃ (R:List (List Rt)) (ys:List Bk) (rs:List Rdg) (M:List (List Rat)),
  St w W (MB g (B.map (rowv k)++List.replicate (n-B.length) (.slice none 0 0)) B R++(zs++ys)) rs∧RK B k R M rs∧(∀ a<B.length,∀ b<k,el M a b=f a b)∧∀ q∈qs,q∈rs
theorem appL {M:List (List Rat)} {r:List Rat} {a:Nat} (h:a<M.length):(M++[r]).getD a []=M.getD a []:=by
 rw[List.getD_eq_getElem?_getD,List.getElem?_append_left h,←List.getD_eq_getElem?_getD]
theorem appR {M:List (List Rat)} {r:List Rat} {a:Nat} (h:M.length=a):(M++[r]).getD a []=r:=by
 subst h;rw[List.getD_eq_getElem?_getD,List.getElem?_append_right (Nat.le_refl _),Nat.sub_self];rfl
theorem el_put {M:List (List Rat)} {k i j:Nat} {q:Rat} (hr:rct k M) (hi:i<M.length) (hj:j<k) (a b:Nat):el (M.set i ((M.getD i []).set j q)) a b=if a=i∧b=j then q else el M a b:=by
 unfold GE.el
 by_cases ha:a=i
 ·subst ha
  rw[set_getS hi]
  by_cases hb:b=j
  ·subst hb
   rw[if_pos ⟨rfl,rfl⟩,List.getD_eq_getElem?_getD,List.getElem?_set_self (by rw[rct_getD hr hi];exact hj)];rfl
  ·rw[if_neg (fun h=>hb h.2),List.getD_eq_getElem?_getD,List.getElem?_set_ne (fun h=>hb h.symm),←List.getD_eq_getElem?_getD]
 ·rw[if_neg (fun h=>ha h.1),set_getD (fun h=>ha h.symm)]
section
variable {w W W':World} {g n k:Nat} {B:List Nat} {f f':Nat→Nat→Rat} {zs:List Bk} {qs:List Rdg}
theorem Fm.call (h:Fm w W g n B k f zs qs) (hb:Below W.heap.size W W'):Fm w W' g n B k f zs qs:=by
 obtain⟨R,ys,rs,M,S,K,h⟩:=h;exact⟨R,ys,rs,M,S.call hb,K,h⟩
theorem Fm.bel (h:Fm w W g n B k f zs qs):Below w.heap.size w W:=by
 obtain⟨R,ys,rs,M,S,K,h⟩:=h;exact S.bel
theorem Fm.congr (h:Fm w W g n B k f zs qs) (he:∀ a<B.length,∀ b<k,f a b=f' a b):Fm w W g n B k f' zs qs:=by
 obtain⟨R,ys,rs,M,S,K,h⟩:=h;exact⟨R,ys,rs,M,S,K,fun a ha b hb=>(h.1 a ha b hb).trans (he a ha b hb),h.2⟩
theorem Fm.start (S:St w W [(g,(csR (List.replicate n Ro0)).toArray,46)] []):Fm w W g n [] k f [] []:=by
 refine⟨[],[],[],[],?_,⟨rfl,fun L hL=>(by cases hL),fun L hL=>(by cases hL),rfl⟩,fun a ha=>absurd ha (Nat.not_lt_zero _),fun q hq=>(by cases hq)⟩
 have e:csR (List.replicate n Ro0)=([]:List Nat).map (rowv k)++List.replicate (n-([]:List Nat).length) (.slice none 0 0):=by
  unfold csR;rw[List.map_replicate];rfl
 rw[e] at S;exact S
theorem Fm.own {h0:Nat} (h:Fm w W g n B k f zs qs) (hb:Below W.heap.size W W') {t:Nat} {cs:Array Value} (hg:W.heap.size≤h0) (hc:Cb W' h0 cs t) (hn:NoL cs):Fm w W' g n B k f ((h0,cs,t)::zs) qs:=by
 obtain⟨R,ys,rs,M,S,h⟩:=h;exact⟨R,ys,rs,M,(St_own S hb hg hc hn).prm List.perm_middle.symm,h⟩
theorem Fm.alloc (h:Fm w W g n B k f zs qs) (cs:Array Value) (t:Nat) (hn:NoL cs):Fm w (W.alloc (.cells cs t)) g n B k f ((W.heap.size,cs,t)::zs) qs:=by
 obtain⟨R,ys,rs,M,S,h⟩:=h;exact⟨R,ys,rs,M,(S.alloc cs t hn).prm List.perm_middle.symm,h⟩
theorem Fm.zc {h0 t:Nat} {cs:Array Value} (h:Fm w W g n B k f zs qs) (hz:(h0,cs,t)∈zs):Cb W h0 cs t:=by
 obtain⟨R,ys,rs,M,S,h⟩:=h;exact (S.bk _ (List.mem_append_right _ (List.mem_append_left _ hz))).1
theorem Fm.rd (h:Fm w W g n B k f zs qs) {q:Rdg} (hq:q∈qs):Rd W q.1 q.2.1 q.2.2.1 q.2.2.2:=by
 obtain⟨R,ys,rs,M,S,K,h,h'⟩:=h;exact S.rd _ (h' _ hq)
theorem Fm.reads (h:Fm w W g n B k f zs qs) {L:List Rt} (hr:∀ x∈L,x.raw W):Fm w W g n B k f zs (rdsOf L++qs):=by
 obtain⟨R,ys,rs,M,S,K,h,h'⟩:=h;refine⟨R,ys,_,M,St_rds S hr,K.mono (fun p hp=>List.mem_append_right _ hp),h,fun q hq=>?_⟩
 rcases List.mem_append.1 hq with hq | hq
 ·exact List.mem_append_left _ hq
 ·exact List.mem_append_right _ (h' q hq)
theorem Fm.sub {p:Bk} {q':List Rdg} (h:Fm w W g n B k f (p::zs) (q'++qs)):Fm w W g n B k f zs qs:=by
 obtain⟨R,ys,rs,M,S,K,h,h'⟩:=h;exact⟨R,p::ys,rs,M,S.prm (List.Perm.append_left _ List.perm_middle.symm),K,h,fun q hq=>h' q (List.mem_append_right _ hq)⟩
theorem Fm.drew (h:Fm w W g n B k f zs qs):Fm w W.drew g n B k f zs qs:=h.call ((Below.refl _ _).drew)
theorem Fm.nil (h:Fm w W g n B k f zs qs) (hi:B.length<n):W.cell? ⟨g,B.length,none⟩=some (.slice none 0 0)∧∀ k,W.frozen? ⟨g,k,none⟩=false:=by
 obtain⟨R,ys,rs,M,S,K,h⟩:=h;refine MB_cell S ?_
 rw[List.getElem?_append_right (by rw[List.length_map];exact Nat.le_refl _),List.length_map,Nat.sub_self,List.getElem?_replicate,if_pos (by omega)]
theorem Fm.add (h:Fm w W g n B k f zs qs) (hi:B.length<n) (hz:∀ b<k,f B.length b=0):Fm w ((W.alloc (.cells (csE (List.replicate k Zt)).toArray 33)).setCell ⟨g,B.length,none⟩ (.slice (some ⟨W.heap.size,0,none⟩) k k)) g n (B++[W.heap.size]) k f zs qs:=by
 obtain⟨R,ys,rs,M,S,K,h⟩:=h;have S1:=(S.alloc (csE (List.replicate k Zt)).toArray 33 (NoLl.csE _).arr).read (show Rd _ none 0 0 [] from Rd.nil_ _ _ _)
 have S2:=S1.prm (bs':=(g,(B.map (rowv k)++List.replicate (n-B.length) (Value.slice none 0 0)).toArray,46)::(List.zipWith rowb (B++[W.heap.size]) (R++[List.replicate k Zt])++(zs++ys))) (by
  rw[List.zipWith_append (by rw[K.len])]
  show ((rowb W.heap.size (List.replicate k Zt))::(g,_)::(List.zipWith rowb B R++(zs++ys))).Perm ((g,_)::((List.zipWith rowb B R++[rowb W.heap.size (List.replicate k Zt)])++(zs++ys)))
  refine (List.Perm.swap _ _ _).trans (List.Perm.cons _ ?_)
  rw[List.append_assoc];exact List.perm_middle.symm)
 have S3:=S2.set 0 B.length (.slice (some ⟨W.heap.size,0,none⟩) k k) rfl (by nofun)
 have hV:((B.map (rowv k)++List.replicate (n-B.length) (Value.slice none 0 0)).toArray.setIfInBounds B.length (.slice (some ⟨W.heap.size,0,none⟩) k k))=((B++[W.heap.size]).map (rowv k)++List.replicate (n-(B++[W.heap.size]).length) (Value.slice none 0 0)).toArray:=by
  rw[List.setIfInBounds_toArray,List.set_append_right _ _ (by rw[List.length_map];exact Nat.le_refl _),List.length_map,Nat.sub_self,List.length_append,List.length_singleton,List.map_append]
  rw[show n-B.length=(n-(B.length+1))+1 by omega,List.replicate_succ,List.set_cons_zero,List.append_assoc]
  rfl
 rw[hV] at S3;have hml:=K.mlen;refine⟨R++[List.replicate k Zt],ys,_,M++[List.replicate k 0],S3,⟨by rw[List.length_append,List.length_append,K.len];rfl,fun L' hL'=>?_,fun L' hL' x hx'=>?_,by rw[List.map_append,K.q];simp[Zt]⟩,fun a ha b hb=>?_,fun q hq=>List.mem_cons_of_mem _ (h.2 q hq)⟩
 ·rcases List.mem_append.1 hL' with hL' | hL'
  ·exact K.row L' hL'
  ·rw[List.mem_singleton.1 hL'];exact List.length_replicate
 ·rcases List.mem_append.1 hL' with hL' | hL'
  ·exact (K.mono (fun p hp=>List.mem_cons_of_mem _ hp)).el L' hL' x hx'
  ·rw[List.mem_singleton.1 hL'] at hx'
   obtain rfl:=(List.mem_replicate.1 hx').2;exact⟨Zt_can,List.mem_cons_self,List.mem_cons_self⟩
 ·rw[List.length_append,List.length_singleton] at ha
  by_cases hlt:a<B.length
  ·rw[←h.1 a hlt b hb]
   unfold GE.el;rw[appL (by omega)]
  ·obtain rfl:B.length=a:=by omega
   rw[hz b hb];unfold GE.el;rw[appR hml];rw[List.getD_eq_getElem?_getD,List.getElem?_replicate,if_pos hb];rfl
theorem Fm.row (h:Fm w W g n B k f zs qs) {i:Nat} (hi:i<B.length):W.cell? ⟨g,i,none⟩=some (.slice (some ⟨B.getD i 0,0,none⟩) k k):=by
 obtain⟨R,ys,rs,M,S,K,h⟩:=h;refine (MB_cell S (v:=rowv k (B.getD i 0)) ?_).1
 rw[List.getElem?_append_left (by rw[List.length_map];exact hi),List.getElem?_map,List.getD_eq_getElem?_getD,List.getElem?_eq_getElem hi];rfl
theorem Fm.at_ (h:Fm w W g n B k f zs qs) {i j:Nat} (hi:i<B.length) (hj:j<k):∃ v0 v1 v2,W.cell? ⟨B.getD i 0,j*3,none⟩=some v0∧W.cell? ⟨B.getD i 0,j*3+1,none⟩=some v1∧W.cell? ⟨B.getD i 0,j*3+2,none⟩=some v2∧∀ k,W.frozen? ⟨B.getD i 0,k,none⟩=false:=by
 obtain⟨R,ys,rs,M,S,K,h⟩:=h;obtain⟨x,_,_,_,k0,k1,k2,f⟩:=MB_num S K hi hj;exact⟨_,_,_,k0,k1,k2,f⟩
theorem Fm.put (h:Fm w W g n B k f zs qs) (hb:Below W.heap.size W W') {i j:Nat} (hi:i<B.length) (hj:j<k) (x:Rt) (hx:x.can∧x.raw W'):Fm w (((W'.setCell ⟨B.getD i 0,j*3,none⟩ (.bool x.b)).setCell ⟨B.getD i 0,j*3+1,none⟩ (.slice x.A x.n x.c)).setCell ⟨B.getD i 0,j*3+2,none⟩ (.slice x.D x.m x.d)) g n B k (fun a b=>if a=i∧b=j then x.q else f a b) zs qs:=by
 obtain⟨R,ys,rs,M,S,K,h⟩:=h;have S1:=((S.call hb).read hx.2.1).read hx.2.2;have K1:=K.mono (rs':=(x.D,x.m,x.d,x.y)::(x.A,x.n,x.c,x.x)::rs) (fun p hp=>List.mem_cons_of_mem _ (List.mem_cons_of_mem _ hp))
 obtain⟨R',S2,K2⟩:=MB_put S1 K1 (j:=j) hi x ⟨hx.1,List.mem_cons_of_mem _ List.mem_cons_self,List.mem_cons_self⟩;refine⟨R',ys,_,_,S2,K2,fun a ha b hb'=>?_,fun q hq=>List.mem_cons_of_mem _ (List.mem_cons_of_mem _ (h.2 q hq))⟩
 rw[el_put K.rct (by rw[K.mlen];exact hi) hj]
 show _=if a=i∧b=j then x.q else f a b
 rw[h.1 a ha b hb']
def RetMo (n k:Nat) (Q:List (List Rat)) (w:World) (e:Ending) (w':World):Prop:=∃ g K,e=.returned (.slice (some ⟨g,0,none⟩) n n)∧Mr w' (some ⟨g,0,none⟩) n n K∧(∀ r∈K,r.n=k∧∀ x∈r.L,x.can)∧qM K=Q∧(w.heap.size≤g∧Cb w' g (csR K).toArray 46)∧Below w.heap.size w w'
def RetMs (n k:Nat) (Q:List (List Rat)) (w:World) (e:Ending) (w':World):Prop:=∃ (g:Nat) (B:List Nat) (R:List (List Rt)) (ys:List Bk) (rs:List Rdg),e=.returned (.slice (some ⟨g,0,none⟩) n n)∧B.length=n∧St w w' (MB g (B.map (rowv k)) B R++ys) rs∧RK B k R Q rs
theorem RetMs.mo {Q:List (List Rat)} {e:Ending} (h:RetMs n k Q w e W):RetMo n k Q w e W:=by
 obtain⟨g,B,R,ys,rs,rfl,hn,S,K⟩:=h;have hm:=MB_mat S K;rw[hn] at hm;have hb:=S.bk (g,(B.map (rowv k)).toArray,46) (List.mem_append_left _ List.mem_cons_self);refine⟨g,KR k B R,rfl,hm,fun r hr=>?_,(KR_q K.len).trans K.q,⟨hb.2.2,?_⟩,S.bel⟩
 ·obtain⟨i,hi⟩:=List.getElem?_of_mem hr
  obtain⟨b,L,hb,hL,rfl⟩:=KR_of hi;exact⟨rfl,fun x hx=>(K.el L (List.mem_of_getElem? hL) x hx).1⟩
 ·rw[show csR (KR k B R)=B.map (rowv k) from KR_v K.len]
  exact hb.1
theorem Fm.fin (h:Fm w W g n B k f zs qs) (hn:B.length=n):RetMs n k (mk n k f) w (.returned (.slice (some ⟨g,0,none⟩) n n)) W:=by
 obtain⟨R,ys,rs,M,S,K,h⟩:=h;rw[hn,Nat.sub_self,List.replicate_zero,List.append_nil] at S;have hM:M=mk n k f:=ext_el (by rw[K.mlen,hn]) mk_len K.rct mk_rct fun i hi j hj=>by rw[h.1 i (by omega) j hj,el_mk hi hj]
 rw[hM] at K;exact⟨g,B,R,zs++ys,rs,rfl,hn,S,K⟩
end
end Go.Proofs.YthlinhconnmbcaaGreat
namespace Go.Proofs.YthlinhconnmbcaaGreat
open Go.RowKit RQ GE
set_option linter.unusedVariables false
def IrO (g0:Nat) (W:World) (A:Option Addr) (n c:Nat) (L:List Nat):Prop:=L.length=n∧n≤c∧(n=0∨∃ g cs,A=some ⟨g,0,none⟩∧g0≤g∧Cb W g cs 3∧NoL cs∧∀ (i p:Nat),L[i]?=some p→cs[i]?=some (.int .i64 p))
theorem Apd.iro {w W:World} {v:Value} {L:List Nat} (h:Apd w W [] [] 3 1 v L.length (inC L)):∃ A c,v=.slice A L.length c∧IrO w.heap.size W A L.length c L:=by
 obtain⟨h1,h2,⟨rfl,h0,S⟩ | ⟨g,cap,cur,rfl,k2,k3,k4,k5,S⟩⟩:=h
 ·exact⟨none,0,by rw[h0],rfl,by omega,.inl h0⟩
 ·have hb:=S.bk _ List.mem_cons_self
  refine⟨some ⟨g,0,none⟩,cap,rfl,rfl,k2,.inr ⟨g,_,rfl,hb.2.2,hb.1,hb.2.1,fun i p hi=>?_⟩⟩
  have:(inC L)[i]?=some (.int .i64 p):=by unfold inC;rw[List.getElem?_map,hi];rfl
  rw[←k5,List.getElem?_take] at this
  split at this
  ·simpa using this
  ·cases this
theorem IrO.fm {w W W':World} {g n k:Nat} {B:List Nat} {f:Nat→Nat→Rat} {A:Option Addr} {p c:Nat} {L:List Nat} (h:IrO W.heap.size W' A p c L) (hF:Fm w W g n B k f [] []) (hb:Below W.heap.size W W'):∃ zs:List Bk,Fm w W' g n B k f zs []∧∀ V:World,(∀ z∈zs,Cb V z.1 z.2.1 z.2.2)→Ir V A p c L:=by
 obtain⟨h1,h2,h0 | ⟨gF,cs,rfl,h3,h4,h5,h6⟩⟩:=h
 ·exact⟨[],hF.call hb,fun V _=>⟨h1,h2,.inl h0⟩⟩
 ·refine⟨[(gF,cs,3)],hF.own hb h3 h4 h5,fun V hV=>⟨h1,h2,.inr ⟨gF,0,rfl,?_,fun i p hi=>?_⟩⟩⟩
  ·exact (hV _ List.mem_cons_self).lt
  ·rw[Nat.zero_add]
   exact (hV (gF,cs,3) List.mem_cons_self).cell (h6 i p hi)
def rdf1 (ps:List Nat) (t a b:Nat):Rat:=if a<t∧ps.getD a 0=b then 1 else 0
def rdf2 (k:Nat) (R:List (List Rat)) (ps:List Nat) (l:Rat) (u a b:Nat):Rat:=if b∈(freeL k ps).take u then (if a<ps.length then tmf R ps l b ps.length a / l else 0) else rdf1 ps ps.length a b
def rdf3 (k:Nat) (R:List (List Rat)) (ps:List Nat) (l:Rat) (u c i a b:Nat):Rat:=if b=c∧a<i then tmf R ps l c ps.length a / l else rdf2 k R ps l u a b
theorem rdf1_step {ps:List Nat} {t pk:Nat} (h:ps.getD t 0=pk) (a b:Nat):(if a=t∧b=pk then (1:Rat) else rdf1 ps t a b)=rdf1 ps (t+1) a b:=by
 unfold rdf1
 by_cases h1:a=t
 ·subst h1
  rw[h]
  by_cases h2:b=pk
  ·subst h2;simp
  ·rw[if_neg (fun e=>h2 e.2),if_neg (fun e=>Nat.lt_irrefl _ e.1),if_neg (fun e=>h2 e.2.symm)]
 ·rw[if_neg (fun e=>h1 e.1)]
  have:(a<t+1∧ps.getD a 0=b)=(a<t∧ps.getD a 0=b):=by apply propext;constructor<;>(rintro ⟨x,y⟩;exact⟨by omega,y⟩)
  simp only[this]
theorem freeL_nd (k:Nat) (ps:List Nat):(freeL k ps).Nodup:=List.Pairwise.filter _ List.nodup_range
theorem freeL_mem {k:Nat} {ps:List Nat} {c:Nat}:c∈freeL k ps↔c<k∧c∉ps:=by
 unfold freeL;simp
theorem nd_take {L:List Nat} {u c:Nat} (h:L.Nodup) (hu:L[u]?=some c):c∉L.take u:=by
 intro hm;obtain⟨i,hi,e⟩:=List.getElem_of_mem hm;rw[List.length_take] at hi;rw[List.getElem_take] at e;obtain⟨h1,h2⟩:=List.getElem?_eq_some_iff.1 hu
 have:=(List.getElem_inj (h₀:=by omega) (h₁:=h1) h).1 (e.trans h2.symm)
 omega
theorem rdf2_step {k:Nat} {R:List (List Rat)} {ps:List Nat} {l:Rat} {u c:Nat} (hu:(freeL k ps)[u]?=some c) (a b:Nat):rdf3 k R ps l u c ps.length a b=rdf2 k R ps l (u+1) a b:=by
 have hc:=freeL_mem.1 (List.mem_of_getElem? hu);have hn:=nd_take (freeL_nd k ps) hu;have ht:(freeL k ps).take (u+1)=(freeL k ps).take u++[c]:=by rw[List.take_add_one,hu];rfl
 unfold rdf3 rdf2;rw[ht]
 by_cases hb:b=c
 ·subst hb
  rw[if_pos (List.mem_append_right _ List.mem_cons_self)]
  by_cases ha:a<ps.length
  ·rw[if_pos ⟨rfl,ha⟩,if_pos ha]
  ·rw[if_neg (fun e=>ha e.2),if_neg hn,if_neg ha]
   unfold rdf1;rw[if_neg (fun e=>ha e.1)]
 ·rw[if_neg (fun e=>hb e.1)]
  have:(b∈(freeL k ps).take u++[c])=(b∈(freeL k ps).take u):=by
   apply propext;simp[hb]
  simp only[this]
theorem rdf3_step {k:Nat} {R:List (List Rat)} {ps:List Nat} {l:Rat} {u c i:Nat} {q:Rat} (hq:q=tmf R ps l c ps.length i / l) (a b:Nat):(if a=i∧b=c then q else rdf3 k R ps l u c i a b)=rdf3 k R ps l u c (i+1) a b:=by
 unfold rdf3
 by_cases h1:a=i
 ·subst h1
  by_cases h2:b=c
  ·subst h2;rw[if_pos ⟨rfl,rfl⟩,if_pos ⟨rfl,Nat.lt_succ_self _⟩,hq]
  ·rw[if_neg (fun e=>h2 e.2),if_neg (fun e=>h2 e.1),if_neg (fun e=>h2 e.1)]
 ·rw[if_neg (fun e=>h1 e.1)]
  have:(b=c∧a<i+1)=(b=c∧a<i):=by apply propext;constructor<;>(rintro ⟨x,y⟩;exact⟨x,by omega⟩)
  simp only[this]
theorem rdf_end {n k:Nat} {R:List (List Rat)} {ps:List Nat} {l:Rat}:mk n k (rdf2 k R ps l (freeL k ps).length)=mk n k fun i j=>if j∈ps then (if i<ps.length∧ps.getD i 0=j then 1 else 0) else if i<ps.length then tmf R ps l j ps.length i / l else 0:=by
 refine mk_congr fun i hi j hj=>?_
 unfold rdf2;rw[List.take_of_length_le (Nat.le_refl _)]
 by_cases hp:j∈ps
 ·rw[if_pos hp,if_neg (fun e=>(freeL_mem.1 e).2 hp)];rfl
 ·rw[if_neg hp,if_pos (freeL_mem.2 ⟨hj,hp⟩)]
theorem free_own (K:List Ro) (gE gR n p pc:Nat) (P:Option Addr) (ps:List Nat) (w:World) (hg:gE<w.heap.size) (e0:w.cell? ⟨gE,0,none⟩=some (.slice (some ⟨gR,0,none⟩) n n)) (e1:w.cell? ⟨gE,1,none⟩=some (.slice P p pc)) (h:Mr w (some ⟨gR,0,none⟩) n n K) (hp:Ir w P p pc ps) (hp2:p≤1000) (hk:colM K≤1000):Calls Tryz.prog 55 #[.pointer (some ⟨gE,0,none⟩)] w fun e w'=>∃ A c,e=.returned (.slice A (freeL (colM K) ps).length c)∧IrO w.heap.size w' A (freeL (colM K) ps).length c (freeL (colM K) ps)∧Below w.heap.size w w':=by
 have hC:=Lib.hid (cols_any K (some ⟨gR,0,none⟩) n n w h);have hI:Hid (∀ (W:World) (v:Nat),Ir W P p pc ps→Calls Tryz.prog 53 #[.slice P p pc,.int .i64 v] W fun e w'=>e=.returned (.bool (decide (v∈ps)))∧Below W.heap.size W w'):=Lib.hid fun W v h=>contains_any ps P p pc v W h hp2
 generalize colM K=k at *;have hb:=Lib.hid hk;replace hp:=Lib.hid hp;have e1h:=Lib.hid e1;replace hg:=Lib.hid hg;have hgc:=hg.out;clear h hp2 hk;go_enter Tryz.func55,Tryz.ntmps55
 go_wp2_with fail
 refine hC.out.mono ?_
 rintro e w1 ⟨rfl,bb⟩;have S:=Lib.hid ((St.new w).call bb);clear bb hC e0 e1;go_wp2
 go_loopw [3,10] (fun ov iv wr=>∃ i:Nat,i≤k∧iv=.int .i64 i∧Apd w wr [] [] 3 1 ov (freeL i ps).length (inC (freeL i ps))) (fun _ iv _=>k-(intOf iv).toNat)
 case atStart=>exact⟨0,Nat.zero_le _,rfl,(show freeL 0 ps=[] from rfl) ▸ Apd.nil_ S.out _ _⟩
 case round=>
  clear S;obtain⟨i,hin,rfl,AP⟩:=hrel
  by_cases hlt:i<k
  ·have hih:=Lib.hid hlt
   have g1:(i:Int)<(k:Int):=by omega
   have g2:(0:Int)≤(i:Int):=by omega
   have B:=AP.st.bel;have e1w:=(World.cell?_of_block (B.block gE hg.out)).trans e1h.out
   have hgw:gE<wr.heap.size:=Nat.lt_of_lt_of_le hg.out B.size;have hpw:=Lib.hid (hp.out.bel B);have hst:=Lib.hid (freeL_step i ps);have hle:=Lib.hid (freeL_le i ps);replace AP:=Lib.hid AP;obtain⟨v,hv⟩:∃ z,z=decide (i∈ps):=⟨_,rfl⟩;have hIx:=hI.out wr i hpw.out;rw[←hv] at hIx;replace hIx:=Lib.hid hIx;clear hlt hin B
   go_wp2_with fail
   refine hIx.out.mono ?_
   rintro e w3 ⟨rfl,bb⟩;have T:=Lib.hid (AP.out.call bb);clear bb AP e1w hgw hIx hpw
   cases v
   ·have hns:i∉ps:=of_decide_eq_false hv.symm
    replace hst:Hid (freeL (i+1) ps=freeL i ps++[i]):=Lib.hid (by rw[hst.out,if_neg hns])
    clear hv hns;have AP1:=T.out.alloc #[.int .i64 i] 3 (by
     intro t z;match t with
     | 0=>simp
     | t+1=>simp)
    have hcb:=AP1.st.cb 0 rfl;clear T
    go_wp2_with (at_builtin;refine app_int rfl (.tmp 20) (.tmp 22) rfl rfl AP1 _ rfl hcb (by have:=hle.out;have:=hih.out;have:=hb.out;omega) ?_)
    clear AP1 hcb;intro v' W' AP;replace AP:=Lib.hid AP;have hlt:=hih.out;have hbb:=hb.out;go_wp2
    go_roundw
    case rel=>exact⟨i+1,by omega,by go_num,by rw[hst.out,List.length_append];unfold inC;rw[List.map_append];exact AP.out.sub⟩
    case measure=>simp[intOf];omega
   ·have hns:i∈ps:=of_decide_eq_true hv.symm
    replace hst:Hid (freeL (i+1) ps=freeL i ps):=Lib.hid (by rw[hst.out,if_pos hns,List.append_nil])
    clear hv hns;have hlt:=hih.out;have hbb:=hb.out;go_wp2
    go_roundw
    case rel=>exact⟨i+1,by omega,by go_num,by rw[hst.out];exact T.out⟩
    case measure=>simp[intOf];omega
  ·obtain rfl:i=k:=by omega
   obtain⟨A3,c3,hv,I3⟩:=AP.iro;subst hv;have B:=Lib.hid AP.st.bel;replace I3:=Lib.hid I3;clear AP hin hlt;go_wp2;go_ret;exact⟨_,_,rfl,I3.out,B.out⟩
theorem reduced_any {w:World} {gE gR n k:Nat} {K:List Ro} {P:Option Addr} {pc:Nat} {ps:List Nat} {l:Rat} {A1:Option Addr} {n1 c1:Nat} {D1:Option Addr} {m1 d1 a z:Nat} (hE:Env w gE gR n k K P pc ps l A1 n1 c1 D1 m1 d1) (hn0:n=0→k=0) (hpn:ps.length≤n) (hpk:∀ x∈ps,x<k) (hn:n≤1000) (hk:k≤1000) (hz:∀ i j,S2 a z (el (qM K) i j)) (hl:S2 a z l) (ha:a≤1000000∧z≤1000000) (hT:tzO a z ps.length):Calls Tryz.prog 51 #[.pointer (some ⟨gE,0,none⟩)] w (RetMs n k (mk n k fun i j=>if j∈ps then (if i<ps.length∧ps.getD i 0=j then 1 else 0) else if i<ps.length then tmf (qM K) ps l j ps.length i / l else 0) w):=by
 rw[←rdf_end];have hcolK:colM K=k:=by
  have h1:=hE.mr.len
  match K,h1 with
  | [],h1=>exact (hn0 h1.symm).symm
  | r::K',_=>exact hE.rk r List.mem_cons_self
 have hC:=Lib.hid (fun W h'=>cols_any K (some ⟨gR,0,none⟩) n n W h')
 rw[hcolK] at hC;have hFr:=Lib.hid (fun W (hW:Env W gE gR n k K P pc ps l A1 n1 c1 D1 m1 d1)=>free_own K gE gR n ps.length pc P ps W hW.lt hW.e0 hW.e1 hW.mr hW.ir (by omega) (by rw[hcolK];exact hk))
 rw[hcolK] at hFr;have hRC:=Lib.hid (fun W c (hc:c<k) (hW:Env W gE gR n k K P pc ps l A1 n1 c1 D1 m1 d1)=>redcol_any hW hpn hpk (fun _=>hc) hn hk hz hl ha hT)
 obtain⟨R,hR⟩:∃ R,R=qM K:=⟨_,rfl⟩;rw[←hR] at hRC hz ⊢;have hmr:=make_row n (by omega)
 have hmk:=make_rat k (by omega)
 obtain⟨f1,hf1⟩:∃ q:Rat,q=1:=⟨_,rfl⟩;have hFI:Hid (∀ W,Calls Tryz.prog 49 #[.int .i64 1] W (RetR f1 W)):=Lib.hid (fun W=>by rw[hf1];exact fromIntR_any 1 W (by decide) (by decide))
 have rs1:Hid (Rs f1 9000000):=Lib.hid (by rw[hf1];exact S2.rs (S2.one (a:=1) (d:=1)) (by decide) (by decide))
 have hn1:=Lib.hid hn;have hk1:=Lib.hid hk;have e0:=hE.e0;have S0:=Lib.hid (Fm.start (k:=k) (f:=fun _ _=>0) ((St.new w).allocAt w.heap.size (csR (List.replicate n Ro0)).toArray 46 (NoLl.rows _).arr rfl))
 replace hE:=Lib.hid hE;replace hpn:=Lib.hid hpn;replace hpk:=Lib.hid hpk;replace hn0:=Lib.hid hn0;replace hz:=Lib.hid hz;replace hl:=Lib.hid hl;replace hT:=Lib.hid hT;replace hf1:=Lib.hid hf1;clear hcolK hn hk ha;go_enter Tryz.func51,Tryz.ntmps51;go_wp2;obtain⟨gM,hgM⟩:∃ g,g=w.heap.size:=⟨_,rfl⟩;rw[←hgM] at S0;rw[←hgM];clear hgM hmr e0
 go_loopw [19] (fun iv wr=>∃ (i:Nat) (B:List Nat),i≤n∧iv=.int .i64 i∧B.length=i∧Fm w wr gM n B k (fun _ _=>0) [] []) (fun iv _=>n-(intOf iv).toNat)
 case atStart=>exact⟨0,[],Nat.zero_le _,rfl,rfl,S0.out⟩
 case round=>
  clear S0;obtain⟨i,B,hin,rfl,hB,T⟩:=hrel;rename World=>V0
  by_cases hlt:i<n
  ·have g4:(i:Int)<(n:Int):=by omega
   have g5:(0:Int)≤(i:Int):=by omega
   have hih:=Lib.hid hlt;have hEV:=hE.out.bel T.bel;have e0:=hEV.e0;have hc:=Lib.hid (hC.out V0 hEV.mr);replace T:=Lib.hid T;replace hB:=Lib.hid hB;clear hlt hin hEV
   go_wp2_with fail
   refine hc.out.mono ?_
   rintro e w3 ⟨rfl,bb⟩;have T1:=T.out.call bb;have hBn:B.length<n:=by rw[hB.out];exact hih.out
   obtain⟨nl,fn⟩:=(T1.alloc (csE (List.replicate k Zt)).toArray 33 (NoLl.csE _).arr).nil hBn;rw[hB.out] at nl;have fn:=fn i;have T2:=Lib.hid (T1.add hBn (fun _ _=>rfl))
   rw[hB.out] at T2;have hi1:=hih.out;have hn2:=hn1.out;clear T T1 hBn bb hc e0;go_wp2
   go_roundw
   case rel=>exact⟨i+1,B++[w3.heap.size],by omega,by go_num,by rw[List.length_append,hB.out];rfl,T2.out⟩
   case measure=>simp[intOf];omega
  ·obtain rfl:n=i:=by omega
   have T0:=Lib.hid (T.congr (f':=rdf1 ps 0) (fun a _ b _=>by unfold rdf1;rw[if_neg (fun e=>Nat.not_lt_zero _ e.1)]))
   have e1:=(hE.out.bel T.bel).e1;clear T hlt hin hmk hC;obtain⟨p,hp⟩:∃ p,p=ps.length:=⟨_,rfl⟩;rw[←hp] at e1;replace hp:=Lib.hid hp;replace hB:=Lib.hid hB;go_wp2
   go_loopw [37] (fun tv wr=>∃ t:Nat,t≤p∧tv=.int .i64 t∧Fm w wr gM n B k (rdf1 ps t) [] []) (fun tv _=>p-(intOf tv).toNat)
   case atStart=>exact⟨0,Nat.zero_le _,rfl,T0.out⟩
   case round=>
    clear T0 e1;obtain⟨t,htp,rfl,T⟩:=hrel;rename World=>V0
    by_cases hlt:t<p
    ·have g4:(t:Int)<(p:Int):=by omega
     have g5:(0:Int)≤(t:Int):=by omega
     have htn:t<n:=by have:=hpn.out;have:=hp.out;omega
     have g6:(t:Int)<(n:Int):=by omega
     have hth:=Lib.hid hlt;have hEV:=hE.out.bel T.bel;obtain⟨bP,oP,pk,hPA,hpk1,pc0⟩:=hEV.ir.get (i:=t) (by rw[←hp.out];exact hlt)
     have hpkk:pk<k:=hpk.out pk (List.mem_of_getElem? hpk1);have hpg:Hid (ps.getD t 0=pk):=Lib.hid (by rw[List.getD_eq_getElem?_getD,hpk1];rfl)
     have g8:(0:Int)≤(pk:Int):=by omega
     have g9:(pk:Int)<(k:Int):=by omega
     have hpkh:=Lib.hid hpkk;have htB:t<B.length:=by rw[hB.out];exact htn
     have rw0:=T.row htB;obtain⟨bt,hbt⟩:∃ b,b=B.getD t 0:=⟨_,rfl⟩;rw[←hbt] at rw0;replace hbt:=Lib.hid hbt;have htB:=Lib.hid htB;replace T:=Lib.hid T;clear hlt htp hEV hpk1 hpkk htn;subst hPA;go_upto_region 10 with fail
     replace rw0:=Lib.hid rw0;clear pc0;refine Wl.start (fun W=>Below V0.heap.size V0 W) [7] rfl ?_
     have hS:Below V0.heap.size V0 V0.drew:=(Below.refl _ _).drew;refine Wl.t (i:=0) (v:=.slice (some ⟨gM,0,none⟩) n n) (some 42) at0 (hy:=fun _ _=>by kernel_rfl) (hS:=hS) (h:=?_)
     refine Wl.t (i:=1) (v:=.int .i64 t) (some 43) at1 (hy:=fun _ _=>by kernel_rfl) (hS:=hS) (h:=?_)
     refine Wl.t (i:=2) (v:=.pointer (some ⟨gM,t,none⟩)) (some 44) at2 (hy:=fun _ _=>by go_simp) (hS:=hS) (h:=?_)
     refine Wl.t (i:=3) (v:=.slice (some ⟨bt,0,none⟩) k k) (some 45) at3 (hy:=fun W hS=>by (have k0:=bel_cell hS rw0.out;clear hS;go_simp)) (hS:=hS) (h:=?_)
     refine Wl.t (i:=4) (v:=.int .i64 pk) (some 46) at4 (hy:=fun _ _=>by kernel_rfl) (hS:=hS) (h:=?_)
     try simp only[Act.put,sZ0,sZ1,sZ2]
     refine Wl.g (i:=5) at5 (by kernel_rfl) (by kernel_rfl) fun K' hK=>?_
     refine oper_call (f:=49) (args:=#[.int .i64 1]) rfl (by kernel_rfl) ((hFI.out _).mono ?_)
     rintro e V3 ⟨A9,n9,c9,D9,m9,d9,rfl,X9,bb⟩;have hS3:=hS.trans (bb.mono hS.size);refine⟨_,rfl,hK.out _ _ hS3 ?_⟩
     clear hK K' hS bb
     try simp only[Act.put,sZ0,sZ1,sZ2]
     refine Wl.t (i:=6) (v:=.pointer (some ⟨bt,pk*3,none⟩)) (some 48) at6 (hy:=fun _ _=>by go_simp) (hS:=hS3) (h:=?_)
     obtain⟨_,_,_,k0,k1,k2,f0⟩:=(T.out.call hS3).at_ htB.out hpkh.out;rw[←hbt.out] at k0 k1 k2 f0;have f2:=f0 (pk*3);have f3:=f0 (pk*3+1);have f4:=f0 (pk*3+2);obtain⟨V4,hV4,T⟩:∃ W,W=((V3.setCell ⟨bt,pk*3,none⟩ (.bool (ng f1.num))).setCell ⟨bt,pk*3+1,none⟩ (.slice A9 n9 c9)).setCell ⟨bt,pk*3+2,none⟩ (.slice D9 m9 d9)∧Hid (Fm w W gM n B k (rdf1 ps (t+1)) [] []):=⟨_,rfl,Lib.hid (by
      have h:=T.out.put hS3 htB.out hpkh.out (Rt.of A9 n9 c9 D9 m9 d9 f1) ⟨Rt.of_can _ _ _ _ _ _ rs1.out,X9.raw⟩;rw[←hbt.out] at h;exact h.congr fun a _ b _=>by rw[←rdf1_step hpg.out a b];show (if a=t∧b=pk then f1 else _)=_;rw[hf1.out])⟩
     clear f0
     try simp only[Act.put,sZ0,sZ1,sZ2]
     refine Wl.s (i:=7) at7 (by kernel_rfl) (by kernel_rfl) (by kernel_rfl) fun K' hK=>?_
     go_simp
     rw[←hV4];refine hK.out _ _ ?_
     clear hK K' k0 k1 k2 f2 f3 f4 hV4 X9 hS3 rw0;refine Wl.done (by kernel_rfl) ?_
     have hp1:=hth.out;have hp2:p≤1000:=by have:=hpn.out;have:=hp.out;have:=hn1.out;omega
     go_wp2
     go_roundw
     case rel=>exact⟨t+1,by omega,by go_num,T.out⟩
     case measure=>simp[intOf];omega
    ·obtain rfl:p=t:=by omega
     have hEV:=hE.out.bel T.bel;have hFx:=Lib.hid (hFr.out V0 hEV);obtain⟨q,hq⟩:∃ q,q=(freeL k ps).length:=⟨_,rfl⟩;rw[←hq] at hFx ⊢;have T0:=Lib.hid (T.congr (f':=rdf2 k R ps l 0) (fun a _ b _=>by unfold rdf2;rw[List.take_zero,if_neg (fun e=>by cases e),hp.out]))
     replace hq:=Lib.hid hq;clear T hlt htp hEV hFI rs1 hf1 hFr
     go_wp2_with fail
     refine hFx.out.mono ?_
     rintro e w3 ⟨AF,cF,rfl,hI,bb⟩;obtain⟨zs,T1,hI1⟩:=hI.fm T0.out bb;replace T1:=Lib.hid T1;replace hI1:=Lib.hid hI1;clear T0 hI bb hFx;go_wp2
     go_loopw [53] (fun uv wr=>∃ u:Nat,u≤q∧uv=.int .i64 u∧Fm w wr gM n B k (rdf2 k R ps l u) zs []) (fun uv _=>q-(intOf uv).toNat)
     case atStart=>exact⟨0,Nat.zero_le _,rfl,T1.out⟩
     case round=>
      clear T1;obtain⟨u,huq,rfl,T⟩:=hrel;rename World=>V0
      by_cases hlt:u<q
      ·have g4:(u:Int)<(q:Int):=by omega
       have g5:(0:Int)≤(u:Int):=by omega
       have huh:=Lib.hid hlt;have hEV:=hE.out.bel T.bel;obtain⟨bF,oF,c,hFA,hc1,fc0⟩:=(hI1.out V0 (fun z hz=>T.zc hz)).get (i:=u) hlt
       subst hFA;have hck:c<k:=(freeL_mem.1 (List.mem_of_getElem? hc1)).1;have hRx:=Lib.hid (hRC.out V0 c hck hEV);rw[←hp.out] at hRx;have hckh:=Lib.hid hck;replace hc1:=Lib.hid hc1;replace T:=Lib.hid T;clear hlt huq hEV hck
       go_wp2_with fail
       refine hRx.out.mono ?_
       rintro e w4 ⟨gC,L,rfl,⟨hg,hcb⟩,hL,hx,hLq,bb⟩;have T1:=Lib.hid (((T.out.own bb hg hcb (NoLl.csE _).arr).reads (fun x h=>(hx x h).2)).congr (f':=rdf3 k R ps l u c 0) (fun a _ b _=>by unfold rdf3;rw[if_neg (fun e=>Nat.not_lt_zero _ e.2)]))
       have hxc:Hid (∀ x∈L,x.can):=Lib.hid fun x h=>(hx x h).1
       replace hL:=Lib.hid hL;replace hLq:=Lib.hid hLq;clear T hg hcb hx bb hRx fc0;go_wp2
       go_loopw [61] (fun iv wr=>∃ i:Nat,i≤p∧iv=.int .i64 i∧Fm w wr gM n B k (rdf3 k R ps l u c i) ((gC,(csE L).toArray,33)::zs) (rdsOf L++[])) (fun iv _=>p-(intOf iv).toNat)
       case atStart=>exact⟨0,Nat.zero_le _,rfl,T1.out⟩
       case round=>
        clear T1;obtain⟨i,hip,rfl,T⟩:=hrel;rename World=>V0
        by_cases hli:i<p
        ·have g6:(i:Int)<(p:Int):=by omega
         have g7:(0:Int)≤(i:Int):=by omega
         have hin:i<n:=by have:=hpn.out;have:=hp.out;omega
         have g8:(i:Int)<(n:Int):=by omega
         have g9:(0:Int)≤(c:Int):=by omega
         have g10:(c:Int)<(k:Int):=by have:=hckh.out;omega
         obtain⟨x,hLi⟩:∃ y,L[i]?=some y:=⟨L[i]'(by rw[hL.out];exact hli),List.getElem?_eq_getElem _⟩
         have xm:=List.mem_of_getElem? hLi;have xq:Hid (x.q=tmf R ps l c ps.length i / l):=Lib.hid (by
          have h1:=el_at hLq.out hLi;rw[←h1,List.getD_eq_getElem?_getD,List.getElem?_map,List.getElem?_range hli,hp.out];rfl)
         have hZC:=T.zc (g:=gM) (h0:=gC) List.mem_cons_self;obtain⟨u0,u1,u2⟩:=csE_arr hLi;have x0:=hZC.cell u0;have x1:=hZC.cell u1;have x2:=hZC.cell u2;have xm:=Lib.hid xm;have hiB:Hid (i<B.length):=Lib.hid (by rw[hB.out];exact hin)
         have hih:=Lib.hid hli;replace T:=Lib.hid T;clear hli hip hin hLi u0 u1 u2 hZC;go_upto_region 18 with fail
         obtain⟨gX,hgX⟩:∃ g,g=V0.heap.size:=⟨_,rfl⟩;obtain⟨V2,hV2⟩:∃ W,W=V0.alloc (.cells #[.bool x.b,.slice x.A x.n x.c,.slice x.D x.m x.d] 33):=⟨_,rfl⟩;have T2:Hid (Fm w V2 gM n B k (rdf3 k R ps l u c i) ((gX,#[.bool x.b,.slice x.A x.n x.c,.slice x.D x.m x.d],33)::(gC,(csE L).toArray,33)::zs) (rdsOf L++[])):=Lib.hid (by rw[hV2,hgX];exact T.out.alloc _ _ (noLof rfl))
         rw[←hV2,←hgX];clear hV2 hgX T x0 x1 x2;have hCX:=T2.out.zc (g:=gM) (h0:=gX) List.mem_cons_self;have c0:=Lib.hid (hCX.cell (i:=0) rfl);have c1_:=Lib.hid (hCX.cell (i:=1) rfl);have c2_:=Lib.hid (hCX.cell (i:=2) rfl);have xr:Hid (x.raw V2):=Lib.hid ⟨T2.out.rd (rdsOf_in (rs:=[]) xm.out).1,T2.out.rd (rdsOf_in (rs:=[]) xm.out).2⟩;have rw0:=Lib.hid (T2.out.row hiB.out);obtain⟨bt,hbt⟩:∃ b,b=B.getD i 0:=⟨_,rfl⟩
         rw[←hbt] at rw0;replace hbt:=Lib.hid hbt;clear hCX;refine Wl.start (fun W=>Below V2.heap.size V2 W) [7] rfl ?_
         have hS:Below V2.heap.size V2 V2.drew:=(Below.refl _ _).drew;refine Wl.t (i:=0) (v:=.slice (some ⟨gM,0,none⟩) n n) (some 66) at0 (hy:=fun _ _=>by kernel_rfl) (hS:=hS) (h:=?_)
         refine Wl.t (i:=1) (v:=.int .i64 i) (some 67) at1 (hy:=fun _ _=>by kernel_rfl) (hS:=hS) (h:=?_)
         refine Wl.t (i:=2) (v:=.pointer (some ⟨gM,i,none⟩)) (some 68) at2 (hy:=fun _ _=>by go_simp) (hS:=hS) (h:=?_)
         refine Wl.t (i:=3) (v:=.slice (some ⟨bt,0,none⟩) k k) (some 69) at3 (hy:=fun W hS=>by (have k0:=bel_cell hS rw0.out;clear hS;go_simp)) (hS:=hS) (h:=?_)
         refine Wl.t (i:=4) (v:=.int .i64 c) (some 70) at4 (hy:=fun _ _=>by kernel_rfl) (hS:=hS) (h:=?_)
         refine Wl.t (i:=5) (v:=.agg #[.bool x.b,.slice x.A x.n x.c,.slice x.D x.m x.d]) (some 71) at5 (hy:=fun W hS=>by (have k0:=bel_cell hS c0.out;have k1:=bel_cell hS c1_.out;have k2:=bel_cell hS c2_.out;clear hS;go_simp)) (hS:=hS) (h:=?_)
         refine Wl.t (i:=6) (v:=.pointer (some ⟨bt,c*3,none⟩)) (some 72) at6 (hy:=fun _ _=>by go_simp) (hS:=hS) (h:=?_)
         obtain⟨V3,hV3⟩:∃ W,W=V2.drew:=⟨_,rfl⟩;rw[←hV3] at hS ⊢;clear hV3;obtain⟨_,_,_,k0,k1,k2,f0⟩:=(T2.out.call hS).at_ hiB.out hckh.out;rw[←hbt.out] at k0 k1 k2 f0;have f2:=f0 (c*3);have f3:=f0 (c*3+1);have f4:=f0 (c*3+2);obtain⟨V4,hV4,T⟩:∃ W,W=((V3.setCell ⟨bt,c*3,none⟩ (.bool x.b)).setCell ⟨bt,c*3+1,none⟩ (.slice x.A x.n x.c)).setCell ⟨bt,c*3+2,none⟩ (.slice x.D x.m x.d)∧Hid (Fm w W gM n B k (rdf3 k R ps l u c (i+1)) ((gC,(csE L).toArray,33)::zs) (rdsOf L++[])):=⟨_,rfl,Lib.hid (by
          have h:=T2.out.put hS hiB.out hckh.out x ⟨hxc.out x xm.out,xr.out.bel hS⟩;rw[←hbt.out] at h;exact (h.congr fun a _ b _=>rdf3_step xq.out a b).sub (q':=[]))⟩
         clear f0
         try simp only[Act.put,sZ0,sZ1,sZ2]
         refine Wl.s (i:=7) at7 (by kernel_rfl) (by kernel_rfl) (by kernel_rfl) fun K' hK=>?_
         go_simp
         rw[←hV4];refine hK.out _ _ ?_
         clear hK K' k0 k1 k2 f2 f3 f4 hV4 hS rw0;refine Wl.done (by kernel_rfl) ?_
         clear c0 c1_ c2_ T2 xr;have hp1:=hih.out;have hp2:p≤1000:=by have:=hpn.out;have:=hp.out;have:=hn1.out;omega
         go_wp2
         go_roundw
         case rel=>exact⟨i+1,by omega,by go_num,T.out⟩
         case measure=>simp[intOf];omega
        ·obtain rfl:p=i:=by omega
         have T2:=Lib.hid ((T.sub (q':=rdsOf L)).congr (f':=rdf2 k R ps l (u+1)) (fun a _ b _=>by rw[hp.out];exact rdf2_step hc1.out a b))
         have hu1:=huh.out;have hq2:q≤1000:=by have h1:=freeL_le k ps;have:=hq.out;have:=hk1.out;omega
         clear T hli hip;go_wp2
         go_roundw
         case rel=>exact⟨u+1,by omega,by go_num,T2.out⟩
         case measure=>simp[intOf];omega
      ·obtain rfl:q=u:=by omega
       have hfin:=T.fin hB.out;rw[hq.out] at hfin;replace hfin:=Lib.hid hfin;clear T hlt huq;go_wp2;go_ret;exact hfin.out
end Go.Proofs.YthlinhconnmbcaaGreat
namespace Go.Proofs.YthlinhconnmbcaaGreat
open Go.RowKit RQ GE
set_option linter.unusedVariables false
structure SzE (n k a d:Nat):Prop where
 s1:d*k+a+d<1000000
 s2:(zA (d*k+a) (n-1)).1≤1000000∧(zA (d*k+a) (n-1)).2.1≤1000000
 s3:n*(d*k)<1000000
def SzT (n k a d:Nat):Prop:=tzO (zA (d*k+a) (n-1)).1 (zA (d*k+a) (n-1)).2.1 n
theorem tzO.mono {a z p q:Nat} (h:tzO a z q) (hp:p≤q):tzO a z p:=fun d hd=>h d (Nat.le_trans hd hp)
theorem sq_eq {x y:Rat} (h:x*x=y*y):x=y∨x = -y:=by
 have:(x-y)*(x+y)=0:=by grind
 rcases Rat.mul_eq_zero.1 this with h | h
 ·exact .inl (by grind)
 ·exact .inr (by grind)
theorem el_all {Q:List (List Rat)} {n k a d:Nat} {S:GS} {l:Rat} (hn:Q.length=n) (hr:rct k Q) (h0:n=0→k=0) (hs:∀ r∈Q,∀ x∈r,S2 a d x) (h:brun k 0 ⟨wh Q,[],pr (rsc Q) n⟩ 1=(S,l)) :
  (∀ i c,S2 (zA (d*k+a) (n-1)).1 (zA (d*k+a) (n-1)).2.1 (el S.M i c))∧S2 (zA (d*k+a) (n-1)).1 (zA (d*k+a) (n-1)).2.1 l∧(∀ x∈S.p,x<k)∧S.p.length≤n∧l≠0∧S.p=(red k Q).p∧S2 (n*(d*k)) 0 S.f:=by
 obtain⟨F,hl,hp,_⟩:=elim_red hn hr h;have hw2:=wh_s2 (k:=k) (fun r hr'=>by rw[hr r hr'];exact Nat.le_refl _) hs
 have hr2:=rsc_s2 (k:=k) (fun r hr'=>by rw[hr r hr'];exact Nat.le_refl _) hs
 have F0:EF n k (wh Q) [] 0:=ef_start (by rw[wh_len,hn]) (wh_rct hr)
 have Z0:ZI (d*k+a) n ⟨wh Q,[],pr (rsc Q) n⟩ 1:=⟨fun i c=>by
   show S2 (zA (d*k+a) (min 0 (n-1))).1 _ _
   rw[Nat.zero_min];exact hw2 i c,fun _=>S2.one,fun h1 h2=>by have h1:0=n:=h1;omega⟩
 have Z:=brun_size (c:=k) F0 (by decide) Z0
 have hsq:=brun_sq (c:=k) (j:=0) (s:=⟨wh Q,[],pr (rsc Q) n⟩) (l:=1);rw[h] at Z hsq;have hf:S2 (n*(d*k)) 0 S.f:=by
  have hb:=pr_s2 hr2 n
  rcases sq_eq hsq with e | e
  ·rw[e];exact hb
  ·rw[e];exact hb.neg
 refine⟨?_,?_,fun x hx=>?_,F.ple,hl,hp,hf⟩
 ·intro i c
  exact (Z.e i c).mono (zA_mono (by omega)).1 (zA_mono (by omega)).2
 ·rcases Nat.eq_zero_or_pos n with h1 | h1
  ·obtain rfl:=h0 h1
   have:(S,l)=(⟨wh Q,[],pr (rsc Q) n⟩,1):=h.symm;injection this with h2 h3
   rw[h3];exact S2.one
  ·exact (Z.all F.ple h1).2
 ·exact F.lt x hx
theorem ec_env {W:World} {gF gR n k:Nat} {K:List Ro} {P:Option Addr} {pc:Nat} {ps:List Nat} {l s:Rat} {A1:Option Addr} {n1 c1:Nat} {D1:Option Addr} {m1 d1:Nat} {A2:Option Addr} {n2 c2:Nat} {D2:Option Addr} {m2 d2:Nat} (hc:Cb W gF (ecE gR n P ps.length pc l A1 n1 c1 D1 m1 d1 s A2 n2 c2 D2 m2 d2) 73) (hm:Mr W (some ⟨gR,0,none⟩) n n K) (hk:∀ r∈K,r.n=k∧∀ x∈r.L,x.can) (hi:Ir W P ps.length pc ps) (hl:RR W A1 n1 c1 D1 m1 d1 l):Env W gF gR n k K P pc ps l A1 n1 c1 D1 m1 d1:=
 ⟨hc.cell rfl,hc.cell rfl,hc.cell rfl,hc.cell rfl,hc.cell rfl,hm,fun r hr=>(hk r hr).2,fun r hr=>(hk r hr).1,hi,hl,hc.lt⟩
def RetRx (kk:Int) (Q:List (List Rat)) (ps:List Nat) (w:World) (e:Ending) (w':World):Prop:=∃ A n c M P pc,e=.returned (.tuple #[.slice A n c,.slice P ps.length pc,.int .i64 kk])∧Mr w' A n c M∧canM M∧qM M=Q∧n≤1000∧Ir w' P ps.length pc ps∧Below w.heap.size w w'
theorem wf_rct {M:List Ro} {W:World} {A:Option Addr} {n c:Nat} (h:Mr W A n c M) (hw:wfM M=true):rct (colM M) (qM M)∧(qM M).length=n∧(∀ r∈M,r.n=colM M)∧(n=0→colM M=0)∧n≤96∧colM M≤96:=by
 have h1:=fun r (hr:r∈M)=>(wf_row hw hr).2.2
 refine⟨fun q hq=>?_,?_,h1,fun h0=>?_,?_,colM_le hw⟩
 ·obtain⟨r,hr,rfl⟩:=List.mem_map.1 hq
  rw[List.length_map,(h.rd r hr).len];exact h1 r hr
 ·unfold qM;rw[List.length_map];exact h.len
 ·have:M=[]:=List.length_eq_zero_iff.1 (h.len.trans h0)
  subst this;rfl
 ·have:=wf_len hw;rw[h.len] at this;exact this
theorem qM_s2 {M:List Ro} {a d:Nat} (hs:∀ r∈M,∀ x∈r.L,S2 a d x.q):∀ r∈qM M,∀ x∈r,S2 a d x:=fun r hr x hx=>by
 obtain⟨y,hy,rfl⟩:=List.mem_map.1 hr;obtain⟨z,hz,rfl⟩:=List.mem_map.1 hx;exact hs y hy z hz
theorem preduce_any (M:List Ro) (A:Option Addr) (n c:Nat) (w:World) (h:Mr w A n c M) (hm:∀ r∈M,r.n≤9223372036854775807) (hn:n≤9223372036854775807) (hw:wfM M=true) (ka:∀ r∈M,∀ x∈r.L,Rk x.b x.n x.x x.m x.y x.q) (a d:Nat) (hs:∀ r∈M,∀ x∈r.L,S2 a d x.q) (hz:SzE n (colM M) a d) (hT:SzT n (colM M) a d):Calls Tryz.prog 31 #[.slice A n c] w (RetRx 0 (red (colM M) (qM M)).M (red (colM M) (qM M)).p w):=by
 obtain⟨hr,hq,hk,h0,hn96,hk96⟩:=wf_rct h hw;have hF:=fun W h'=>wf_any M A n c W h' hm hn
 rw[hw] at hF;have hC:=Lib.hid (fun W h'=>cols_any M A n c W h')
 have hE:=Lib.hid (fun W (h':Mr W A n c M)=>elim_any M A n c (colM M) W h' hk rfl ka a d hs (by omega) (by omega) hz.s1 hz.s2 hz.s3)
 obtain⟨k,hkk⟩:∃ k,k=colM M:=⟨_,rfl⟩;obtain⟨Q,hQ⟩:∃ Q,Q=qM M:=⟨_,rfl⟩;have hQs:=qM_s2 hs;simp only[←hkk,←hQ] at hE hC hr hq h0 hk96 hz hQs hT ⊢;obtain⟨S,hS⟩:∃ S,S=(brun k 0 ⟨wh Q,[],pr (rsc Q) n⟩ 1).1:=⟨_,rfl⟩;obtain⟨l,hl⟩:∃ l,l=(brun k 0 ⟨wh Q,[],pr (rsc Q) n⟩ 1).2:=⟨_,rfl⟩;have hbr:brun k 0 ⟨wh Q,[],pr (rsc Q) n⟩ 1=(S,l):=by rw[hS,hl]
 rw[←hS,←hl] at hE;obtain⟨e1,e2,e3,e4,e5,e6,e7⟩:=el_all hq hr h0 hQs hbr;have hR:=Lib.hid (fun (W:World) gE gR K P pc A1 n1 c1 D1 m1 d1 (hW:Env W gE gR n k K P pc S.p l A1 n1 c1 D1 m1 d1) (hK:qM K=S.M)=>(reduced_any hW h0 e4 e3 (by omega) (by omega) (by rw[hK];exact e1) e2 hz.s2 (hT.mono e4)).mono fun _ _ h=>h.mo)
 have hrd:rdP n k S l=(red k Q).M:=rdP_eq hq hr hbr;unfold rdP at hrd;rw[←hrd,←e6];replace hT:=Lib.hid hT;replace h:=Lib.hid h;replace hF:=Lib.hid hF;replace hz:=Lib.hid hz;replace e1:=Lib.hid e1;replace e2:=Lib.hid e2;replace e3:=Lib.hid e3;replace e4:=Lib.hid e4;replace e5:=Lib.hid e5;replace e6:=Lib.hid e6;replace e7:=Lib.hid e7;replace hbr:=Lib.hid hbr;replace hr:=Lib.hid hr;replace hq:=Lib.hid hq
 replace h0:=Lib.hid h0;replace hn96:=Lib.hid hn96;replace hk96:=Lib.hid hk96;clear hm hn hw ka hs hk hkk hQ hS hl hQs;go_enter Tryz.func31,Tryz.ntmps31
 go_wp2_with fail
 refine (hF.out _ h.out).mono ?_
 rintro e w1 ⟨rfl,bb⟩;replace h:=Lib.hid (h.out.bel bb);have bw:=Lib.hid bb;clear bb;clear hF hC
 go_wp2_with fail
 refine (hE.out _ h.out).mono ?_
 rintro e w2 ⟨gR,K,P,pc,A1,n1,c1,D1,m1,d1,A2,n2,c2,D2,m2,d2,rfl,hm2,hk2,hq2,hi2,x1,x2,b2⟩;unfold ecE;replace bw:=Lib.hid (bw.out.trans (b2.mono bw.out.size));go_upto_region 4 with fail
 obtain⟨gF,hgF⟩:∃ g,g=w2.heap.size:=⟨_,rfl⟩;obtain⟨V,hV⟩:∃ W,W=w2.alloc (.cells #[.slice (some ⟨gR,0,none⟩) n n,.slice P S.p.length pc,.bool (ng l.num),.slice A1 n1 c1,.slice D1 m1 d1,.bool (ng S.f.num),.slice A2 n2 c2,.slice D2 m2 d2] 73):=⟨_,rfl⟩;have B2:Below w2.heap.size w2 V:=by rw[hV];exact (Below.refl _ _).alloc (Nat.le_refl _) _
 have hcb:Cb V gF (ecE gR n P S.p.length pc l A1 n1 c1 D1 m1 d1 S.f A2 n2 c2 D2 m2 d2) 73:=by rw[hV,hgF];exact Cb.new _ _ _
 have hEV:=Lib.hid (ec_env hcb (hm2.bel B2) hk2 (hi2.bel B2) (x1.below B2));rw[←hgF,←hV];replace bw:=Lib.hid (bw.out.trans (B2.mono bw.out.size));have hRx:=Lib.hid (fun W (hW:Below V.heap.size V W)=>hR.out W gF gR K P pc A1 n1 c1 D1 m1 d1 (hEV.out.bel hW) hq2)
 simp only[hq2] at hRx;have c1_:=Lib.hid (hEV.out.e1);clear hV hgF hm2 hi2 x1 x2 b2 B2 hcb h;refine Wl.start (fun W=>Below V.heap.size V W) [] rfl ?_
 have hS:Below V.heap.size V V.drew:=(Below.refl _ _).drew;refine Wl.t (i:=1) (v:=.pointer (some ⟨gF,1,none⟩)) (some 12) at1 (hy:=fun _ _=>by go_simp) (hS:=hS) (h:=?_)
 refine Wl.t (i:=2) (v:=.slice P S.p.length pc) (some 13) at2 (hy:=fun W hS=>by (have k0:=bel_cell hS c1_.out;clear hS;go_simp)) (hS:=hS) (h:=?_)
 try simp only[Act.put,sZ0,sZ1,sZ2]
 refine Wl.g (i:=0) at0 (by kernel_rfl) (by kernel_rfl) fun K' hK=>?_
 refine oper_call (f:=51) (args:=#[.pointer (some ⟨gF,0,none⟩)]) rfl (by kernel_rfl) ((hRx.out _ hS).mono ?_)
 rintro e V2 ⟨gM,K2,rfl,m1_,m2_,m3_,_,bb⟩;have hS2:=hS.trans (bb.mono hS.size);refine⟨_,rfl,hK.out _ _ hS2 ?_⟩
 clear hK K' hS bb
 try simp only[Act.put,sZ0,sZ1,sZ2]
 refine Wl.t (i:=3) (v:=.slice (some ⟨gM,0,none⟩) n n) (some 2) at3 (hy:=fun _ _=>by kernel_rfl) (hS:=hS2) (h:=?_)
 refine Wl.t (i:=4) (v:=.slice P S.p.length pc) (some 3) at4 (hy:=fun _ _=>by kernel_rfl) (hS:=hS2) (h:=?_)
 refine Wl.t (i:=5) (v:=.int .i64 0) (some 4) at5 (hy:=fun _ _=>by kernel_rfl) (hS:=hS2) (h:=?_)
 refine Wl.done (by kernel_rfl) ?_
 clear c1_ hRx hR hE;have hi3:=Lib.hid ((hEV.out.ir).bel hS2);replace bw:=Lib.hid (bw.out.trans (hS2.mono bw.out.size));have m1_:=Lib.hid m1_;have m2_:=Lib.hid m2_;have m3_:=Lib.hid m3_;clear hS2 hEV;go_wp2
 go_ret3
 exact⟨_,_,_,K2,_,_,rfl,m1_.out,fun r hr=>⟨by rw[(m2_.out r hr).1];have:=hk96.out;omega,(m2_.out r hr).2⟩,m3_.out,by have:=hn96.out;omega,hi3.out,bw.out⟩
end Go.Proofs.YthlinhconnmbcaaGreat
namespace Go.Proofs.YthlinhconnmbcaaGreat
open Go.RowKit RQ GE
set_option linter.unusedVariables false
def rtW (x:Gw) (q:Rat):Rt:=⟨x.b,x.x.A,x.x.n,x.x.c,x.x.x,x.y.A,x.y.n,x.y.c,x.y.x,q⟩
theorem rtW_can {x:Gw} {q:Rat} (h:rwV x=qV q) (hs:Rs q 9000000):(rtW x q).can:=by
 unfold rwV qV at h;simp only[Prod.mk.injEq] at h;exact⟨h.1,h.2.1,h.2.2,hs⟩
section
variable {W w:World} {bs:List GBk} {rs:List GRd} {s:Sl Gw} {r:List Rat}
theorem zip_at {L:List Gw} {r:List Rat} (hv:L.map rwV=r.map qV) {i:Nat} {y:Rt} (hy:(List.zipWith rtW L r)[i]?=some y):∃ x q,L[i]?=some x∧r[i]?=some q∧y=rtW x q∧rwV x=qV q:=by
 rw[List.getElem?_zipWith] at hy
 cases hx:L[i]? with
 | none=>rw[hx] at hy;cases hy
 | some x=>
  cases hq:r[i]? with
  | none=>rw[hx,hq] at hy;cases hy
  | some q=>
   rw[hx,hq] at hy;obtain⟨q',hq',_,e⟩:=map_at hv hx;rw[hq] at hq';obtain rfl:=Option.some.inj hq';exact⟨x,q,rfl,rfl,(Option.some.inj hy).symm,e⟩
theorem zip_q:∀ {L:List Gw} {r:List Rat},L.length=r.length→(List.zipWith rtW L r).map (·.q)=r
 | [],[],_=>rfl
 | x::L,q::r,h=>by
  show q::(List.zipWith rtW L r).map (·.q)=q::r
  rw[zip_q (by simpa using h)]
theorem row_sr (h:RowI bs rs s) (S:St w W bs rs) (hv:s.L.map rwV=r.map qV) (hs:∀ q∈r,Rs q 9000000):Sr W s.A s.L.length s.c (List.zipWith rtW s.L r)∧(List.zipWith rtW s.L r).map (·.q)=r∧∀ x∈List.zipWith rtW s.L r,x.can:=by
 have hl:s.L.length=r.length:=by have:=congrArg List.length hv;simpa using this
 refine⟨⟨by rw[List.length_zipWith,←hl,Nat.min_self],h.cap,?_,fun y hy=>?_⟩,zip_q hl,fun y hy=>?_⟩
 ·rcases h.mem with h0 | ⟨g,cur,t,hA,hb,hc⟩
  ·left;rw[h0];rfl
  ·right
   have hB:=(S.bk _ hb).1;refine⟨g,0,hA,hB.lt,fun i y hy=>?_⟩
   obtain⟨x,q,hx,hq,rfl,_⟩:=zip_at hv hy;have e:=fun k v hk=>hB.cell (hc (i*3+k) v (all_get rwC hx k v hk))
   rw[Nat.zero_add];exact⟨e 0 _ rfl,e 1 _ rfl,e 2 _ rfl⟩
 ·obtain⟨i,hi⟩:=List.getElem?_of_mem hy
  obtain⟨x,q,hx,hq,rfl,_⟩:=zip_at hv hi;obtain⟨k1,k2⟩:=h.el x (List.mem_of_getElem? hx);exact⟨S.rd _ k1,S.rd _ k2⟩
 ·obtain⟨i,hi⟩:=List.getElem?_of_mem hy
  obtain⟨x,q,hx,hq,rfl,e⟩:=zip_at hv hi;exact rtW_can e (hs q (List.mem_of_getElem? hq))
def roW (s:Sl Gw) (r:List Rat):Ro:=⟨s.A,s.L.length,s.c,List.zipWith rtW s.L r⟩
end
theorem zipM_at {L:List (Sl Gw)} {M:List (List Rat)} (hv:MatV L M) {i:Nat} {y:Ro} (hy:(List.zipWith roW L M)[i]?=some y):∃ s r,L[i]?=some s∧M[i]?=some r∧y=roW s r∧s.L.map rwV=r.map qV:=by
 rw[List.getElem?_zipWith] at hy
 cases hx:L[i]? with
 | none=>rw[hx] at hy;cases hy
 | some s=>
  cases hq:M[i]? with
  | none=>rw[hx,hq] at hy;cases hy
  | some r=>
   rw[hx,hq] at hy;obtain⟨r',hr',_,e⟩:=map_at (f:=fun s:Sl Gw=>s.L.map rwV) (g:=fun r:List Rat=>r.map qV) hv hx
   rw[hq] at hr';obtain rfl:=Option.some.inj hr';exact⟨s,r,rfl,rfl,(Option.some.inj hy).symm,e⟩
theorem zipM_q:∀ {L:List (Sl Gw)} {M:List (List Rat)},MatV L M→qM (List.zipWith roW L M)=M
 | [],[],_=>rfl
 | [],_::_,h=>by unfold MatV at h;simp at h
 | _::_,[],h=>by unfold MatV at h;simp at h
 | s::L,r::M,h=>by
  unfold MatV at h;simp only[List.map_cons,List.cons.injEq] at h;have hl:s.L.length=r.length:=by have:=congrArg List.length h.1;simpa using this
  show (List.zipWith rtW s.L r).map (·.q)::qM (List.zipWith roW L M)=r::M
  rw[zip_q hl,zipM_q h.2]
theorem rs_mem {M:List (List Rat)} {p:Nat} (h:∀ a c,Rs (el M a c) p):∀ r∈M,∀ q∈r,Rs q p:=fun r hr q hq=>by
 obtain⟨a,ha⟩:=List.getElem?_of_mem hr
 obtain⟨c,hc⟩:=List.getElem?_of_mem hq
 have:=h a c;unfold GE.el at this;rw[List.getD_eq_getElem?_getD,List.getD_eq_getElem?_getD,ha] at this
 simpa [hc] using this
end Go.Proofs.YthlinhconnmbcaaGreat
namespace Go.Proofs.YthlinhconnmbcaaGreat
open Go.RowKit RQ GE
set_option linter.unusedVariables false
def tzB (a z p:Nat):Bool:=(List.range (p+1)).all fun d=>decide ((tz a z d).1≤1000000)&&decide ((tz a z d).2≤1000000)&&(List.range (d+1)).all fun m=>decide ((sz2 a z (tz a z d).1 (tz a z d).2 m).1≤1000000)&&decide ((sz2 a z (tz a z d).1 (tz a z d).2 m).2≤1000000)
theorem tzO_of {a z p:Nat} (h:tzB a z p=true):tzO a z p:=fun d hd=>by
 have h1:=List.all_eq_true.1 h d (List.mem_range.2 (by omega))
 rw[Bool.and_eq_true,Bool.and_eq_true] at h1;refine⟨of_decide_eq_true h1.1.1,of_decide_eq_true h1.1.2,fun m hm=>?_⟩
 have h2:=List.all_eq_true.1 h1.2 m (List.mem_range.2 (by omega))
 rw[Bool.and_eq_true] at h2;exact⟨of_decide_eq_true h2.1,of_decide_eq_true h2.2⟩
theorem mat22 {w W:World} {g g1 g2:Nat} {a b c d:Rt} {rs:List Rdg} {xs:List Bk} (S:St w W ((g,#[rowv 2 g1,rowv 2 g2],46)::(g2,(csE [c,d]).toArray,33)::(g1,(csE [a,b]).toArray,33)::xs) rs) (ha:a.can∧a.rdIn rs) (hb:b.can∧b.rdIn rs) (hc:c.can∧c.rdIn rs) (hd:d.can∧d.rdIn rs):∃ K:List Ro,Mr W (some ⟨g,0,none⟩) 2 2 K∧canM K∧qM K=[[a.q,b.q],[c.q,d.q]]∧wfM K=true∧colM K=2∧∀ r∈K,r.n=2:=by
 have S1:St w W (MB g ([g1,g2].map (rowv 2)) [g1,g2] [[a,b],[c,d]]++xs) rs:=S.prm ((List.Perm.swap _ _ _).cons _);have K:RK [g1,g2] 2 [[a,b],[c,d]] [[a.q,b.q],[c.q,d.q]] rs:=⟨rfl,fun L hL=>(by simp at hL;rcases hL with rfl | rfl<;>rfl),fun L hL x hx=>(by
  simp at hL
  rcases hL with rfl | rfl<;>simp at hx<;>rcases hx with rfl | rfl<;>assumption),rfl⟩
 refine⟨KR 2 [g1,g2] [[a,b],[c,d]],MB_mat S1 K,KR_can K (by omega),(KR_q K.len).trans K.q,rfl,rfl,fun r hr=>?_⟩
 obtain⟨i,hi⟩:=List.getElem?_of_mem hr
 obtain⟨b,L,hb,hL,rfl⟩:=KR_of hi
 rfl
theorem canM_rk {W:World} {A:Option Addr} {n c:Nat} {K:List Ro} (h:Mr W A n c K) (hc:canM K):∀ r∈K,∀ x∈r.L,Rk x.b x.n x.x x.m x.y x.q:=fun r hr x hx=>can_k ((hc r hr).2 x hx) ((h.rd r hr).rd x hx)
theorem qM_all {K:List Ro} {P:Rat→Prop} (h:∀ r∈qM K,∀ q∈r,P q):∀ r∈K,∀ x∈r.L,P x.q:=fun r hr x hx=>h (r.L.map (·.q)) (List.mem_map_of_mem hr) x.q (List.mem_map_of_mem hx)
theorem red22:(red 2 [[0,2],[1,1]]).M=[[1,0],[0,1]]∧(red 2 [[0,2],[1,1]]).p=[0,1]:=by
 constructor<;>kernel_rfl
theorem awake_any (w:World):Calls Tryz.prog 13 #[] w (fun e w'=>e=.returned (.bool true)∧Below w.heap.size w w'):=by
 obtain⟨q0,hq0⟩:∃ q:Rat,q=0:=⟨_,rfl⟩;obtain⟨q1,hq1⟩:∃ q:Rat,q=1:=⟨_,rfl⟩;obtain⟨q2,hq2⟩:∃ q:Rat,q=2:=⟨_,rfl⟩;have hF0:Hid (∀ W,Calls Tryz.prog 19 #[.int .i64 0] W (RetR q0 W)):=Lib.hid fun W=>by rw[hq0];exact FfromInt_any 0 W (by omega) (by omega)
 have hF1:Hid (∀ W,Calls Tryz.prog 19 #[.int .i64 1] W (RetR q1 W)):=Lib.hid fun W=>by rw[hq1];exact FfromInt_any 1 W (by omega) (by omega)
 have hF2:Hid (∀ W,Calls Tryz.prog 19 #[.int .i64 2] W (RetR q2 W)):=Lib.hid fun W=>by rw[hq2];exact FfromInt_any 2 W (by omega) (by omega)
 replace hq0:=Lib.hid hq0;replace hq1:=Lib.hid hq1;replace hq2:=Lib.hid hq2;have S0:=Lib.hid (St.new w);go_enter Tryz.func13,Tryz.ntmps13
 go_wp2_with fail
 refine (hF0.out _).mono ?_
 rintro e w1 ⟨A1,n1,c1,D1,m1,d1,rfl,X1,bb⟩;replace S0:=Lib.hid (((S0.out.call bb).read X1.n).read X1.d);clear X1 bb
 go_wp2_with fail
 refine (hF2.out _).mono ?_
 rintro e w2 ⟨A2,n2,c2,D2,m2,d2,rfl,X2,bb⟩;replace S0:=Lib.hid (((S0.out.call bb).read X2.n).read X2.d);clear X2 bb
 go_wp2_with fail
 obtain⟨g1,hg1⟩:∃ g,g=w2.heap.size:=⟨_,rfl⟩;obtain⟨W2,hW2⟩:∃ W,W=w2.alloc (.cells #[.bool (ng q0.num),.slice A1 n1 c1,.slice D1 m1 d1,.bool (ng q2.num),.slice A2 n2 c2,.slice D2 m2 d2] 33):=⟨_,rfl⟩;replace S0:=Lib.hid (S0.out.allocAt g1 #[.bool (ng q0.num),.slice A1 n1 c1,.slice D1 m1 d1,.bool (ng q2.num),.slice A2 n2 c2,.slice D2 m2 d2] 33 (noLof rfl) hg1.symm);rw[←hW2] at S0 ⊢;rw[←hg1];clear hW2 hg1
 refine (hF1.out _).mono ?_
 rintro e w3 ⟨A3,n3,c3,D3,m3,d3,rfl,X3,bb⟩;replace S0:=Lib.hid (((S0.out.call bb).read X3.n).read X3.d);clear X3 bb
 go_wp2_with fail
 refine (hF1.out _).mono ?_
 rintro e w4 ⟨A4,n4,c4,D4,m4,d4,rfl,X4,bb⟩;replace S0:=Lib.hid (((S0.out.call bb).read X4.n).read X4.d);clear X4 bb
 go_wp2_with fail
 obtain⟨g2,hg2⟩:∃ g,g=w4.heap.size:=⟨_,rfl⟩;obtain⟨gM,hgM⟩:∃ g,g=w4.heap.size+1:=⟨_,rfl⟩;replace S0:=Lib.hid ((S0.out.allocAt g2 #[.bool (ng q1.num),.slice A3 n3 c3,.slice D3 m3 d3,.bool (ng q1.num),.slice A4 n4 c4,.slice D4 m4 d4] 33 (noLof rfl) hg2.symm).allocAt gM #[.slice (some ⟨g1,0,none⟩) 2 2,.slice (some ⟨g2,0,none⟩) 2 2] 46 (noLof rfl) (by rw[hgM,World.size_alloc]))
 obtain⟨W4,hW4⟩:∃ W,W=(w4.alloc (.cells #[.bool (ng q1.num),.slice A3 n3 c3,.slice D3 m3 d3,.bool (ng q1.num),.slice A4 n4 c4,.slice D4 m4 d4] 33)).alloc (.cells #[.slice (some ⟨g1,0,none⟩) 2 2,.slice (some ⟨g2,0,none⟩) 2 2] 46):=⟨_,rfl⟩;rw[←hgM,←hg2];rw[←hW4] at S0 ⊢;clear hW4 hg2 hgM;have r0:Rs q0 9000000:=by rw[hq0.out];exact S2.rs (S2.zero (a:=1) (d:=1)) (by decide) (by decide)
 have r1:Rs q1 9000000:=by rw[hq1.out];exact S2.rs (S2.one (a:=1) (d:=1)) (by decide) (by decide)
 have s2:S2 1 0 (2:Rat):=⟨by decide,by decide⟩
 have r2:Rs q2 9000000:=by rw[hq2.out];exact S2.rs s2 (by decide) (by decide)
 obtain⟨K,hK,hKc,hKq,hKw,hKk,hKn⟩:=mat22 (a:=Rt.of A1 n1 c1 D1 m1 d1 q0) (b:=Rt.of A2 n2 c2 D2 m2 d2 q2) (c:=Rt.of A3 n3 c3 D3 m3 d3 q1) (d:=Rt.of A4 n4 c4 D4 m4 d4 q1) S0.out ⟨Rt.of_can _ _ _ _ _ _ r0,by simp[Rt.of],by simp[Rt.of]⟩ ⟨Rt.of_can _ _ _ _ _ _ r2,by simp[Rt.of],by simp[Rt.of]⟩ ⟨Rt.of_can _ _ _ _ _ _ r1,by simp[Rt.of],by simp[Rt.of]⟩ ⟨Rt.of_can _ _ _ _ _ _ r1,by simp[Rt.of],by simp[Rt.of]⟩
 change qM K=[[q0,q2],[q1,q1]] at hKq
 rw[hq0.out,hq1.out,hq2.out] at hKq;have hRx:=preduce_any K (some ⟨gM,0,none⟩) 2 2 W4 hK (fun r hr=>by rw[hKn r hr];decide) (by decide) hKw (canM_rk hK hKc) 1 0 (qM_all (fun r hr q hq=>by
  rw[hKq] at hr
  simp at hr
  rcases hr with rfl | rfl<;>simp at hq
  ·rcases hq with rfl | rfl
   ·exact S2.zero
   ·exact s2
  ·subst hq;exact S2.one)) (by rw[hKk];exact⟨by decide,by decide,by decide⟩) (by rw[hKk];exact tzO_of (by kernel_rfl))
 rw[hKk,hKq,red22.1,red22.2] at hRx;clear hK hKc hKq hKw hKk hKn r0 r2 s2;have hr1:=Lib.hid r1;clear r1;refine hRx.mono ?_
 rintro e w5 ⟨A5,n5,c5,M5,P,pc,rfl,hm5,hc5,hq5,hn5,hi5,bb⟩;replace S0:=Lib.hid (S0.out.call bb);replace hm5:=Lib.hid hm5;replace hi5:=Lib.hid hi5;replace hc5:=Lib.hid hc5;replace hq5:=Lib.hid hq5;replace hn5:=Lib.hid hn5;clear bb hRx
 go_wp2_with fail
 obtain⟨gI,hgI⟩:∃ g,g=w5.heap.size:=⟨_,rfl⟩;obtain⟨W5,hW5⟩:∃ W,W=w5.alloc (.cells #[.int .i64 0,.int .i64 1] 3):=⟨_,rfl⟩;have B5:Below w5.heap.size w5 W5:=by rw[hW5];exact (Below.refl _ _).alloc (Nat.le_refl _) _
 replace S0:=Lib.hid (S0.out.allocAt gI #[.int .i64 0,.int .i64 1] 3 (noLof rfl) hgI.symm);rw[←hW5] at S0 ⊢;rw[←hgI];replace hm5:=Lib.hid (hm5.out.bel B5);have hi6:Ir W5 P 2 pc [0,1]:=hi5.out.bel B5;have hcI:=(S0.out.bk _ List.mem_cons_self).1;have hi7:Ir W5 (some ⟨gI,0,none⟩) 2 2 [0,1]:=⟨rfl,Nat.le_refl _,.inr ⟨gI,0,rfl,hcI.lt,fun i p hi=>by
  rw[Nat.zero_add]
  match i with
  | 0=>obtain rfl:=Option.some.inj hi;exact hcI.cell rfl
  | 1=>obtain rfl:=Option.some.inj hi;exact hcI.cell rfl
  | i+2=>cases hi⟩⟩
 have hSI:=sameInts_any [0,1] P 2 pc (some ⟨gI,0,none⟩) 2 W5 hi6 hi7 (by decide)
 clear hW5 hgI B5 hi5 hi6 hi7 hcI;refine hSI.mono ?_
 rintro e w6 ⟨rfl,bb⟩;replace S0:=Lib.hid (S0.out.call bb);replace hm5:=Lib.hid (hm5.out.bel bb);clear bb hSI
 go_wp2_with fail
 refine (hF1.out _).mono ?_
 rintro e w7 ⟨A6,n6,c6,D6,m6,d6,rfl,X6,bb⟩;replace S0:=Lib.hid (((S0.out.call bb).read X6.n).read X6.d);replace hm5:=Lib.hid (hm5.out.bel bb);clear bb X6
 go_wp2_with fail
 obtain⟨g7,hg7⟩:∃ g,g=w7.heap.size:=⟨_,rfl⟩;obtain⟨W7,hW7⟩:∃ W,W=w7.alloc (.cells #[.bool (ng q1.num),.slice A6 n6 c6,.slice D6 m6 d6,.bool false,.slice none 0 0,.slice none 0 0] 33):=⟨_,rfl⟩;have B7:Below w7.heap.size w7 W7:=by rw[hW7];exact (Below.refl _ _).alloc (Nat.le_refl _) _
 replace S0:=Lib.hid (S0.out.allocAt g7 #[.bool (ng q1.num),.slice A6 n6 c6,.slice D6 m6 d6,.bool false,.slice none 0 0,.slice none 0 0] 33 (noLof rfl) hg7.symm);rw[←hW7] at S0 ⊢;rw[←hg7];replace hm5:=Lib.hid (hm5.out.bel B7);clear hW7 hg7 B7;refine (hF1.out _).mono ?_
 rintro e w8 ⟨A8,n8,c8,D8,m8,d8,rfl,X8,bb⟩;replace S0:=Lib.hid (((S0.out.call bb).read X8.n).read X8.d);replace hm5:=Lib.hid (hm5.out.bel bb);clear bb X8
 go_wp2_with fail
 obtain⟨g8,hg8⟩:∃ g,g=w8.heap.size:=⟨_,rfl⟩;obtain⟨gM8,hgM8⟩:∃ g,g=w8.heap.size+1:=⟨_,rfl⟩;replace S0:=Lib.hid ((S0.out.allocAt g8 #[.bool false,.slice none 0 0,.slice none 0 0,.bool (ng q1.num),.slice A8 n8 c8,.slice D8 m8 d8] 33 (noLof rfl) hg8.symm).allocAt gM8 #[.slice (some ⟨g7,0,none⟩) 2 2,.slice (some ⟨g8,0,none⟩) 2 2] 46 (noLof rfl) (by rw[hgM8,World.size_alloc]))
 obtain⟨W8,hW8⟩:∃ W,W=(w8.alloc (.cells #[.bool false,.slice none 0 0,.slice none 0 0,.bool (ng q1.num),.slice A8 n8 c8,.slice D8 m8 d8] 33)).alloc (.cells #[.slice (some ⟨g7,0,none⟩) 2 2,.slice (some ⟨g8,0,none⟩) 2 2] 46):=⟨_,rfl⟩;have B8:Below w8.heap.size w8 W8:=by rw[hW8];exact ((Below.refl _ _).alloc (Nat.le_refl _) _).alloc (by rw[World.size_alloc];omega) _
 rw[←hgM8,←hg8];rw[←hW8] at S0 ⊢;replace hm5:=Lib.hid (hm5.out.bel B8);clear hW8 hg8 hgM8 B8;replace S0:=Lib.hid (S0.out.read (show Rd _ none 0 0 [] from Rd.nil_ _ _ _))
 obtain⟨K,hK,hKc,hKq,hKw,hKk,hKn⟩:=mat22 (a:=Rt.of A6 n6 c6 D6 m6 d6 q1) (b:=Zt) (c:=Zt) (d:=Rt.of A8 n8 c8 D8 m8 d8 q1) S0.out ⟨Rt.of_can _ _ _ _ _ _ hr1.out,by simp[Rt.of],by simp[Rt.of]⟩ ⟨Zt_can,List.mem_cons_self,List.mem_cons_self⟩ ⟨Zt_can,List.mem_cons_self,List.mem_cons_self⟩ ⟨Rt.of_can _ _ _ _ _ _ hr1.out,by simp[Rt.of],by simp[Rt.of]⟩
 have hKq2:qM K=[[1,0],[0,1]]:=by rw[hKq];show [[q1,0],[0,q1]]=_;rw[hq1.out]
 have hSL:=sameLists_any M5 K A5 n5 c5 (some ⟨gM8,0,none⟩) 2 2 W8 hm5.out hK hc5.out hKc (by rw[hq5.out,hKq2]) hn5.out
 clear hK hKc hKq hKw hKk hKn hKq2;refine hSL.mono ?_
 rintro e w9 ⟨rfl,bb⟩;replace S0:=Lib.hid (S0.out.call bb);clear bb hSL;go_wp2;go_ret;exact⟨rfl,S0.out.bel⟩
end Go.Proofs.YthlinhconnmbcaaGreat
