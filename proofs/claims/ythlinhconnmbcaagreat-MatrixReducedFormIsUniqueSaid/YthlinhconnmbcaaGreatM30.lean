/- Inverse of matrix. -/
import Derived.Laws.CopyRow
import Derived.Test.YthlinhconnmbcaaGreatM29
import Derived.Test.YthlinhconnmbcaaGreatB18
import Derived.Test.YthlinhconnmbcaaGreatB19
import Derived.Test.YthlinhconnmbcaaGreatB14
import Derived.Test.YthlinhconnmbcaaGreatB13
import Derived.Test.YthlinhconnmbcaaGreatB07
import Derived.WalkKit
import Derived.ProofKit
import Derived.OpenShut
import Derived.ShutString
import Derived.ChangeOld
import Derived.Below
import Derived.Lib.SmallJoins
import Derived.Test.YthlinhconnmbcaaGreatRows
set_option maxRecDepth 100000
set_option maxHeartbeats 40000000
set_option linter.unusedVariables false
namespace Go.Proofs.YthlinhconnmbcaaGreat
open Go.RowKit RQ GE
set_option linter.unusedVariables false
def Wm (w W:World) (g n:Nat) (B:List Nat) (m:Nat) (R:List (List Rt)) (zs:List Bk):Prop:=
 ∃ (ys:List Bk) (rs:List Rdg),St w W (MB g (B.map (rowv m)++List.replicate (n-B.length) (.slice none 0 0)) B R++(zs++ys)) rs∧R.length=B.length∧(∀ L∈R,L.length=m)∧∀ L∈R,∀ x∈L,x.rdIn rs
section
variable {w W W':World} {g n m:Nat} {B:List Nat} {R:List (List Rt)} {zs:List Bk}
theorem Wm.call (h:Wm w W g n B m R zs) (hb:Below W.heap.size W W'):Wm w W' g n B m R zs:=by
 obtain⟨ys,rs,S,h⟩:=h;exact⟨ys,rs,S.call hb,h⟩
theorem Wm.bel (h:Wm w W g n B m R zs):Below w.heap.size w W:=by
 obtain⟨ys,rs,S,h⟩:=h;exact S.bel
theorem Wm.len (h:Wm w W g n B m R zs):R.length=B.length:=by
 obtain⟨ys,rs,S,h,_⟩:=h;exact h
theorem Wm.start (S:St w W [(g,(csR (List.replicate n Ro0)).toArray,46)] []):Wm w W g n [] m [] []:=by
 refine⟨[],[],?_,rfl,fun L hL=>(by cases hL),fun L hL=>(by cases hL)⟩
 have e:csR (List.replicate n Ro0)=([]:List Nat).map (rowv m)++List.replicate (n-([]:List Nat).length) (.slice none 0 0):=by
  unfold csR;rw[List.map_replicate];rfl
 rw[e] at S;exact S
theorem Wm.own {h0:Nat} (h:Wm w W g n B m R zs) (hb:Below W.heap.size W W') {t:Nat} {cs:Array Value} (hg:W.heap.size≤h0) (hc:Cb W' h0 cs t) (hn:NoL cs):Wm w W' g n B m R ((h0,cs,t)::zs):=by
 obtain⟨ys,rs,S,h⟩:=h;exact⟨ys,rs,(St_own S hb hg hc hn).prm List.perm_middle.symm,h⟩
theorem Wm.nil (h:Wm w W g n B m R zs) (hi:B.length<n):W.cell? ⟨g,B.length,none⟩=some (.slice none 0 0)∧∀ k,W.frozen? ⟨g,k,none⟩=false:=by
 obtain⟨ys,rs,S,h⟩:=h;refine MB_cell S ?_
 rw[List.getElem?_append_right (by rw[List.length_map];exact Nat.le_refl _),List.length_map,Nat.sub_self,List.getElem?_replicate,if_pos (by omega)]
theorem Wm.row {h0:Nat} {L:List Rt} (h:Wm w W g n B m R ((h0,(csE L).toArray,33)::zs)) (hi:B.length<n) (hL:L.length=m) (hx:∀ x∈L,x.raw W):Wm w (W.setCell ⟨g,B.length,none⟩ (.slice (some ⟨h0,0,none⟩) m m)) g n (B++[h0]) m (R++[L]) zs:=by
 obtain⟨ys,rs,S,hl,hm,hr⟩:=h;have S1:=St_rds S hx;have S2:=S1.prm (bs':=(g,(B.map (rowv m)++List.replicate (n-B.length) (Value.slice none 0 0)).toArray,46)::(List.zipWith rowb (B++[h0]) (R++[L])++(zs++ys))) (by
  rw[List.zipWith_append (by rw[hl])]
  show ((g,_)::(List.zipWith rowb B R++(rowb h0 L::(zs++ys)))).Perm ((g,_)::((List.zipWith rowb B R++[rowb h0 L])++(zs++ys)))
  rw[List.append_assoc];exact List.Perm.refl _)
 have S3:=S2.set 0 B.length (.slice (some ⟨h0,0,none⟩) m m) rfl (by nofun)
 have hV:((B.map (rowv m)++List.replicate (n-B.length) (Value.slice none 0 0)).toArray.setIfInBounds B.length (.slice (some ⟨h0,0,none⟩) m m))=((B++[h0]).map (rowv m)++List.replicate (n-(B++[h0]).length) (Value.slice none 0 0)).toArray:=by
  rw[List.setIfInBounds_toArray,List.set_append_right _ _ (by rw[List.length_map];exact Nat.le_refl _),List.length_map,Nat.sub_self,List.length_append,List.length_singleton,List.map_append]
  rw[show n-B.length=(n-(B.length+1))+1 by omega,List.replicate_succ,List.set_cons_zero,List.append_assoc]
  rfl
 rw[hV] at S3;refine⟨ys,_,S3,by rw[List.length_append,List.length_append,hl];rfl,fun L' h'=>?_,fun L' h' x hx'=>?_⟩
 ·rcases List.mem_append.1 h' with h' | h'
  ·exact hm L' h'
  ·rw[List.mem_singleton.1 h'];exact hL
 ·rcases List.mem_append.1 h' with h' | h'
  ·exact⟨List.mem_append_right _ (hr L' h' x hx').1,List.mem_append_right _ (hr L' h' x hx').2⟩
  ·rw[List.mem_singleton.1 h'] at hx'
   exact rdsOf_in hx'
theorem Wm.mat (h:Wm w W g n B m R zs) (hn:B.length=n):Mr W (some ⟨g,0,none⟩) n n (KR m B R)∧(∀ r∈KR m B R,r.n=m)∧qM (KR m B R)=R.map (fun L=>L.map (·.q)):=by
 obtain⟨ys,rs,S,hl,hm,hr⟩:=h;rw[hn,Nat.sub_self,List.replicate_zero,List.append_nil] at S;refine⟨⟨?_,Nat.le_refl _,.inr ⟨g,0,rfl,(S.bk (g,(B.map (rowv m)).toArray,46) (List.mem_append_left _ List.mem_cons_self)).1.lt,fun i r hi=>?_⟩,fun r hr'=>?_⟩,fun r hr'=>?_,KR_q hl⟩
 ·unfold KR;rw[List.length_zipWith,hl,Nat.min_self,hn]
 ·obtain⟨b,L,hb,hL,rfl⟩:=KR_of hi
  rw[Nat.zero_add];exact (MB_cell S (v:=rowv m b) (by rw[List.getElem?_map,hb];rfl)).1
 ·obtain⟨i,hi⟩:=List.getElem?_of_mem hr'
  obtain⟨b,L,hb,hL,rfl⟩:=KR_of hi;have hLm:=List.mem_of_getElem? hL;exact St_srm S (g:=b) (t:=33) ((MB_perm hb hL).mem_iff.2 List.mem_cons_self) (hm L hLm) (hr L hLm)
 ·obtain⟨i,hi⟩:=List.getElem?_of_mem hr'
  obtain⟨b,L,hb,hL,rfl⟩:=KR_of hi
  rfl
end
theorem Sr.cut {W:World} {b n c:Nat} {L:List Rt} (h:Sr W (some ⟨b,0,none⟩) (n+n) c L):Sr W (some ⟨b,n*3,none⟩) n n (L.drop n):=by
 refine⟨by rw[List.length_drop,h.len];omega,Nat.le_refl _,?_,fun r hr=>h.rd r (List.mem_of_mem_drop hr)⟩
 rcases h.mem with h0 | ⟨b',o',hA,hlt,hc⟩
 ·left;omega
 ·right
  obtain⟨rfl,rfl⟩:b=b'∧0=o':=by simp only[Option.some.injEq,Addr.mk.injEq] at hA;exact⟨hA.1,hA.2.1⟩
  refine⟨b,n*3,rfl,hlt,fun i r hi=>?_⟩
  rw[List.getElem?_drop] at hi
  obtain⟨k0,k1,k2⟩:=hc _ _ hi;rw[Nat.zero_add,show (n+i)*3=n*3+i*3 by omega] at k0 k1 k2
  exact⟨k0,k1,k2⟩
end Go.Proofs.YthlinhconnmbcaaGreat
namespace Go.Proofs.YthlinhconnmbcaaGreat
open Go.RowKit RQ GE
set_option linter.unusedVariables false
theorem wfM_of {K:List Ro} {m:Nat} (h:∀ r∈K,r.n=m) (h1:1≤m) (h2:m≤96) (h3:K.length≤96):wfM K=true:=by
 unfold wfM;rw[Bool.and_eq_true];refine⟨decide_eq_true h3,List.all_eq_true.2 fun r hr=>?_⟩
 have hc:colM K=m:=by
  match K,hr with
  | s::_,_=>exact h s List.mem_cons_self
 unfold rowM;rw[hc,h r hr]
 simp[h1,h2]
theorem colM_of {K:List Ro} {m:Nat} (h:∀ r∈K,r.n=m) (h0:0<K.length):colM K=m:=by
 match K,h0 with
 | s::_,_=>exact h s List.mem_cons_self
end Go.Proofs.YthlinhconnmbcaaGreat
namespace Go.Proofs.YthlinhconnmbcaaGreat
open Go.RowKit RQ GE
set_option linter.unusedVariables false
def szChk (n k a d:Nat):Bool:=decide (d*k+a+d<1000000)&&decide ((zA (d*k+a) (n-1)).1≤1000000)&&decide ((zA (d*k+a) (n-1)).2.1≤1000000)&&decide (n*(d*k)<1000000)&&tzB (zA (d*k+a) (n-1)).1 (zA (d*k+a) (n-1)).2.1 n
theorem sz_of {n k a d:Nat} (h:szChk n k a d=true):SzE n k a d∧SzT n k a d:=by
 unfold szChk at h;simp only[Bool.and_eq_true,decide_eq_true_eq] at h;exact⟨⟨h.1.1.1.1,⟨h.1.1.1.2,h.1.1.2⟩,h.1.2⟩,tzO_of h.2⟩
theorem sz_tab:((List.range 5).all fun n=>(List.range 9).all fun k=>szChk n k 2 2)=true:=by kernel_rfl
theorem sz22 {n k:Nat} (hn:n≤4) (hk:k≤8):SzE n k 2 2∧SzT n k 2 2:=
 sz_of (List.all_eq_true.1 (List.all_eq_true.1 sz_tab n (List.mem_range.2 (by omega))) k (List.mem_range.2 (by omega)))
section
variable {M:List Ro} {A:Option Addr} {n c:Nat}
structure Sml (M:List Ro) (n:Nat):Prop where
 hm:∀ r∈M,r.n≤9223372036854775807
 hn:n≤4
 ka:∀ r∈M,∀ x∈r.L,Rk x.b x.n x.x x.m x.y x.q
 rs:∀ r∈M,∀ x∈r.L,Rs x.q 2
 s2:∀ r∈M,∀ x∈r.L,S2 2 2 x.q
 k4:wfM M=true→colM M≤4
 rl:∀ r∈M,r.L.length=r.n
 ml:M.length=n
theorem Sml.rct (s:Sml M n) (hw:wfM M=true):GE.rct (colM M) (qM M)∧(qM M).length=n:=⟨fun q hq=>by
 obtain⟨r,hr,rfl⟩:=List.mem_map.1 hq;rw[List.length_map,s.rl r hr];exact (wf_row hw hr).2.2,by unfold qM;rw[List.length_map];exact s.ml⟩
end
end Go.Proofs.YthlinhconnmbcaaGreat
namespace Go.Proofs.YthlinhconnmbcaaGreat
open Go.RowKit RQ GE
set_option linter.unusedVariables false
def pAt (ps:List Nat) (j a:Nat):Prop:=a≤ps.length∧(∀ t (h:t<ps.length),t<a→ps[t]<j)∧∀ t (h:t<ps.length),a≤t→j≤ps[t]
theorem pAt.mem {ps:List Nat} {j a:Nat} (h:pAt ps j a) (hs:ps.Pairwise (· < ·)):j∈ps↔ps[a]?=some j:=by
 constructor
 ·intro hm
  obtain⟨t,ht,e⟩:=List.getElem_of_mem hm;have h1:a≤t:=by
   rcases Nat.lt_or_ge t a with g | g
   ·have:=h.2.1 t ht g;omega
   ·exact g
  rcases Nat.lt_or_ge a t with g | g
  ·have h2:=h.2.2 a (by omega) (Nat.le_refl _)
   have h3:=List.pairwise_iff_getElem.1 hs a t (by omega) ht g
   omega
  ·obtain rfl:a=t:=by omega
   rw[List.getElem?_eq_getElem ht,e]
 ·intro e
  exact List.mem_of_getElem? e
theorem pAt.step {ps:List Nat} {j a:Nat} (h:pAt ps j a) (hs:ps.Pairwise (· < ·)):(ps[a]?=some j→pAt ps (j+1) (a+1))∧(ps[a]?≠some j→pAt ps (j+1) a):=by
 refine⟨fun e=>?_,fun e=>⟨h.1,fun t ht g=>Nat.lt_succ_of_lt (h.2.1 t ht g),fun t ht g=>?_⟩⟩
 ·obtain⟨ha,e⟩:=List.getElem?_eq_some_iff.1 e
  refine⟨ha,fun t ht g=>?_,fun t ht g=>?_⟩
  ·rcases Nat.lt_or_ge t a with g' | g'
   ·exact Nat.lt_succ_of_lt (h.2.1 t ht g')
   ·obtain rfl:t=a:=by omega
    omega
  ·have:=List.pairwise_iff_getElem.1 hs a t ha ht (by omega)
   omega
 ·have h1:=h.2.2 t ht g
  rcases Nat.lt_or_ge a t with g' | g'
  ·have h2:=h.2.2 a (by omega) (Nat.le_refl _)
   have h3:=List.pairwise_iff_getElem.1 hs a t (by omega) ht g'
   omega
  ·obtain rfl:a=t:=by omega
   rcases Nat.lt_or_ge j ps[a] with g2 | g2
   ·exact g2
   ·exact absurd (by rw[List.getElem?_eq_getElem ht];congr 1;omega) e
end Go.Proofs.YthlinhconnmbcaaGreat
namespace Go.Proofs.YthlinhconnmbcaaGreat
open Go.RowKit RQ GE
set_option linter.unusedVariables false
theorem Sr.one {W:World} {b o n c i:Nat} {L:List Rt} {x:Rt} (h:Sr W (some ⟨b,o,none⟩) n c L) (hi:L[i]?=some x):Sr W (some ⟨b,o+i*3,none⟩) 1 (c-i) [x]:=by
 have hin:i<n:=by rw[←h.len];exact (List.getElem?_eq_some_iff.1 hi).1
 have hc:=h.cap;refine⟨rfl,by omega,?_,fun r hr=>by rw[List.mem_singleton.1 hr];exact h.rd x (List.mem_of_getElem? hi)⟩
 rcases h.mem with h0 | ⟨b',o',hA,hlt,hc⟩
 ·omega
 ·right
  obtain⟨rfl,rfl⟩:b=b'∧o=o':=by simp only[Option.some.injEq,Addr.mk.injEq] at hA;exact⟨hA.1,hA.2.1⟩
  refine⟨b,o+i*3,rfl,hlt,fun j r hj=>?_⟩
  match j,hj with
  | 0,hj=>
   obtain rfl:=Option.some.inj hj;rw[Nat.zero_mul,Nat.add_zero];exact hc _ _ hi
end Go.Proofs.YthlinhconnmbcaaGreat
namespace GE
def Tw (m B:Nat) (q:Rat):Prop:=∃ z:Int,q*(m:Rat)=(z:Rat)∧z.natAbs≤B
theorem Tw.mono {m B C:Nat} {q:Rat} (h:Tw m B q) (hc:B≤C):Tw m C q:=by
 obtain⟨z,h1,h2⟩:=h;exact⟨z,h1,Nat.le_trans h2 hc⟩
theorem Tw.zero {m B:Nat}:Tw m B 0:=⟨0,by rw[Rat.zero_mul];rfl,Nat.zero_le _⟩
theorem Tw.add {m B C:Nat} {q r:Rat} (h:Tw m B q) (g:Tw m C r):Tw m (B+C) (q+r):=by
 obtain⟨z,h1,h2⟩:=h;obtain⟨y,g1,g2⟩:=g;refine⟨z+y,?_,Nat.le_trans (Int.natAbs_add_le z y) (by omega)⟩
 rw[Rat.add_mul,h1,g1,Rat.intCast_add]
theorem Tw.mul {m k B C:Nat} {q r:Rat} (h:Tw m B q) (g:Tw k C r):Tw (m*k) (B*C) (q*r):=by
 obtain⟨z,h1,h2⟩:=h;obtain⟨y,g1,g2⟩:=g;refine⟨z*y,?_,by rw[Int.natAbs_mul];exact Nat.mul_le_mul h2 g2⟩
 rw[Rat.intCast_mul,←h1,←g1,Rat.natCast_mul]
 grind
theorem Tw.sm {m B:Nat} {f:Nat→Rat}:∀ {n:Nat},(∀ i<n,Tw m B (f i))→Tw m (n*B) (sm f n)
 | 0,_=>by rw[Nat.zero_mul];exact Tw.zero
 | n+1,h=>by
  rw[Nat.add_mul,Nat.one_mul];exact (Tw.sm fun i hi=>h i (by omega)).add (h n (by omega))
theorem Tw.nd {m B:Nat} {q:Rat} (hm:1≤m) (h:Tw m B q):q.num.natAbs≤B∧q.den≤m:=by
 obtain⟨z,h1,h2⟩:=h;have h9:(q.den:Rat)≠0:=fun h=>q.den_nz (by exact_mod_cast h)
 have e0:q*(q.den:Rat)=(q.num:Rat):=by
  have h8:Rat.divInt q.num q.den=q:=Rat.num_divInt_den q;rw[Rat.divInt_eq_div] at h8;have h7:(q.num:Rat) / (q.den:Rat)=q:=h8
  grind
 have e1:(q.num:Rat)*(m:Rat)=(z:Rat)*(q.den:Rat):=by rw[←e0,←h1];grind
 have e2:q.num*(m:Int)=z*(q.den:Int):=by
  have:((q.num*(m:Int):Int):Rat)=((z*(q.den:Int):Int):Rat):=by
   rw[Rat.intCast_mul,Rat.intCast_mul];exact e1
  exact Rat.intCast_inj.1 this
 have e3:q.num.natAbs*m=z.natAbs*q.den:=by
  have:=congrArg Int.natAbs e2
  rwa [Int.natAbs_mul,Int.natAbs_mul,Int.natAbs_natCast,Int.natAbs_natCast] at this
 have d1:q.den∣m:=q.reduced.symm.dvd_of_dvd_mul_left ⟨z.natAbs,by rw[e3,Nat.mul_comm]⟩
 have d2:q.num.natAbs∣z.natAbs:=q.reduced.dvd_of_dvd_mul_right ⟨m,e3.symm⟩;refine⟨?_,Nat.le_of_dvd hm d1⟩
 rcases Nat.eq_zero_or_pos z.natAbs with h0 | h0
 ·rw[h0,Nat.zero_mul] at e3
  rcases Nat.mul_eq_zero.1 e3 with h | h<;>omega
 ·exact Nat.le_trans (Nat.le_of_dvd h0 d2) h2
theorem Tw.s2 {m B:Nat} {q:Rat} (hm:1≤m) (h:Tw m B q) (h1:B≤4294967296) (h2:m≤4294967296):S2 1 1 q:=by
 have:=h.nd hm;exact⟨by rw[Nat.pow_one];omega,by rw[Nat.pow_one];omega⟩
def mNum (v:Int):Rat:=Rat.divInt (v%61-30) (v.tdiv 61%4+1)
theorem tw_div {z:Int} {d:Int} (h:d=1∨d=2∨d=3∨d=4) (hz:z.natAbs≤30):Tw 12 360 (Rat.divInt z d):=by
 rcases h with rfl | rfl | rfl | rfl
 ·exact⟨z*12,by rw[Rat.divInt_eq_div,Rat.intCast_mul];grind,by omega⟩
 ·exact⟨z*6,by rw[Rat.divInt_eq_div,Rat.intCast_mul];grind,by omega⟩
 ·exact⟨z*4,by rw[Rat.divInt_eq_div,Rat.intCast_mul];grind,by omega⟩
 ·exact⟨z*3,by rw[Rat.divInt_eq_div,Rat.intCast_mul];grind,by omega⟩
theorem mNum_tw (v:Int):Tw 12 360 (mNum v):=tw_div (by omega) (by omega)
def mdF (k:Nat) (l:List Int) (i j:Nat):Rat:=mNum (l.getD (i*k+j) 0)
def mdQ (n k:Nat) (l:List Int):List (List Rat):=mk n k (mdF k l)
theorem mdF_tw {k:Nat} {l:List Int} {i j:Nat}:Tw 12 360 (mdF k l i j):=mNum_tw _
theorem mk_all {n k:Nat} {A:Nat→Nat→Rat} {P:Rat→Prop} (h:∀ i j,P (A i j)):∀ r∈mk n k A,∀ q∈r,P q:=by
 intro r hr q hq;unfold mk at hr;obtain⟨i,_,rfl⟩:=List.mem_map.1 hr;obtain⟨j,_,rfl⟩:=List.mem_map.1 hq;exact h i j
end GE
namespace Go.Proofs.YthlinhconnmbcaaGreat
open Go.RowKit RQ GE
set_option linter.unusedVariables false
theorem mmod_eq (k n:Int) (h0:0<n):k%n=if k.tmod n<0 then k.tmod n+n else k.tmod n:=by
 have e1:=Int.tmod_add_mul_tdiv k n;have l1:k.tmod n<n:=Int.tmod_lt_of_pos k h0;have l2 : -n<k.tmod n:=Int.lt_tmod_of_pos k h0
 split
 ·rename_i h
  have:k=(k.tmod n+n)+n*(k.tdiv n-1):=by rw[Int.mul_sub];omega
  conv=>lhs;rw[this]
  rw[Int.add_mul_emod_self_left];exact Int.emod_eq_of_lt (by omega) (by omega)
 ·rename_i h
  conv=>lhs;rw[←e1]
  rw[Int.add_mul_emod_self_left];exact Int.emod_eq_of_lt (by omega) l1
theorem mmod_any (k n:Int) (w:World) (h0:0<n) (h1:n≤100000):Calls Tryz.prog 28 #[.int .i64 k,.int .i64 n] w fun e w'=>e=.returned (.int .i64 (k%n))∧w'=w:=by
 rw[mmod_eq k n h0];have l1:k.tmod n<n:=Int.tmod_lt_of_pos k h0;have l2 : -n<k.tmod n:=Int.lt_tmod_of_pos k h0;have g0:¬ n=0:=by omega
 have w1:∀ m:Int,-n<m→m<0→wrap64 (m+n)=m+n:=fun m h2 h3=>by unfold wrap64;omega
 by_cases hm:k.tmod n<0
 ·rw[if_pos hm,←w1 _ l2 hm]
  clear w1 l1 l2;go_enter Tryz.func28,Tryz.ntmps28;go_wp2;go_ret;exact⟨rfl,rfl⟩
 ·rw[if_neg hm]
  clear w1 l1 l2;go_enter Tryz.func28,Tryz.ntmps28;go_wp2;go_ret;exact⟨rfl,rfl⟩
end Go.Proofs.YthlinhconnmbcaaGreat
namespace Go.Proofs.YthlinhconnmbcaaGreat
open Go.RowKit RQ
theorem res_rfrac (W:World) (tmps:Array Value) (g t:Nat) {v0 v1 v2:Value} (ht:tmps.getD 4 undef=.pointer (some ⟨g,0,none⟩)) (h:Cb W g #[v0,v1,v2] t) :
  (results Tryz.f58 tmps).run Tryz.prog W=.ok (.agg #[v0,v1,v2]) W:=by
 have c0:W.cell? ⟨g,0,none⟩=some v0:=h.cell rfl;have c1:W.cell? ⟨g,1,none⟩=some v1:=h.cell rfl;have c2:W.cell? ⟨g,2,none⟩=some v2:=h.cell rfl;have ht':tmps[4]?.getD undef=.pointer (some ⟨g,0,none⟩):=by rw[←ht];simp[Array.getD_eq_getD_getElem?]
 simp[results,Tryz.results58,go_sem,ht',c0,c1,c2]
theorem rfrac_any (u v:Int) (w:World) (h1 : -9223372036854775808≤u∧u≤9223372036854775807) (h2 : -9223372036854775808≤v∧v≤9223372036854775807) (hv:v≠0):Calls Tryz.prog 58 #[.int .i64 u,.int .i64 v] w (RetR (Rat.divInt u v) w):=by
 have hF1:=Lib.hid (fun W=>rfromInt_any u W h1.1 h1.2)
 have hF2:=Lib.hid (fun W=>rfromInt_any v W h2.1 h2.2)
 have lu:(limbs u.natAbs).length≤2:=limbs_len_le.2 (by omega)
 have lv:(limbs v.natAbs).length≤2:=limbs_len_le.2 (by omega)
 have hO:Hid (∀ W A n c A' n' c',Rd W A n c (limbs u.natAbs)→Rd W A' n' c' (limbs v.natAbs)→Calls Tryz.prog 45 #[.agg #[.bool (ng u),.slice A n c],.agg #[.bool (ng v),.slice A' n' c']] W (RetR (Rat.divInt u v) W)):=Lib.hid fun W A n c A' n' c' q1 q2=>rover_any u v A n c A' n' c' W q1 q2 (by rw[←q1.len];omega) (by rw[←q2.len];omega) hv
 generalize Rat.divInt u v=q at *;clear lu lv h1 h2 hv;have S:=((St.new w).allocAt (w.heap.size) #[.bool false,.slice none 0 0,.slice none 0 0] 33 (noL3 _ _ _ _ _ _ _) (by simp))
 replace S:=Lib.hid S;go_enter Tryz.func58,Tryz.ntmps58
 go_wp2_with fail
 refine (hF1.out _).mono ?_
 rintro e w1 ⟨A1,n1,c1,rfl,Q1,bb⟩;have T:=((S.out.call bb).read Q1);clear bb S;have S:=T;clear T;obtain⟨c_r0,c_r1,c_r2,f_r0,f_r1,f_r2⟩:=S.cf3 0 rfl;have hz:w.heap.size<w1.heap.size:=S.lt 0 rfl;replace S:=Lib.hid S;clear Q1 hF1
 go_wp2_with fail
 refine (hF2.out _).mono ?_
 rintro e w2 ⟨A2,n2,c2,rfl,Q2,bb⟩;have T:=((S.out.call bb).read Q2);clear bb S c_r0 f_r0 c_r1 f_r1 c_r2 f_r2 hz;have S:=T;clear T;obtain⟨c_r0,c_r1,c_r2,f_r0,f_r1,f_r2⟩:=S.cf3 0 rfl;have hz:w.heap.size<w2.heap.size:=S.lt 0 rfl;replace S:=Lib.hid S;clear Q2 hF2
 go_wp2_with fail
 refine (hO.out _ _ _ _ _ _ _ (S.out.r 1 rfl) (S.out.r 0 rfl)).mono ?_
 rintro e w3 ⟨A9,n9,c9,D9,m9,d9,rfl,Q9,bb⟩;have T:=(((S.out.call bb).read Q9.n).read Q9.d);clear bb S c_r0 f_r0 c_r1 f_r1 c_r2 f_r2 hz;have S:=T;clear T;obtain⟨c_r0,c_r1,c_r2,f_r0,f_r1,f_r2⟩:=S.cf3 0 rfl;have hz:w.heap.size<w3.heap.size:=S.lt 0 rfl;replace S:=Lib.hid S;clear Q9 hO;have S:St w _ [(w.heap.size,#[.bool (ng q.num),.slice A9 n9 c9,.slice D9 m9 d9],33)] [(D9,m9,d9,dn q),(A9,n9,c9,limbs q.num.natAbs),(A2,n2,c2,limbs v.natAbs),(A1,n1,c1,limbs u.natAbs)]:=(((S.out.set 0 0 (.bool (ng q.num)) rfl (by nofun)).set 0 1 (.slice A9 n9 c9) rfl (by nofun)).set 0 2 (.slice D9 m9 d9) rfl (by nofun))
 replace S:=Lib.hid S;go_wp2;refine bodyPost_ret (res_rfrac _ _ (w.heap.size) 33 rfl (S.out.bk _ (List.mem_of_getElem? (i:=0) rfl)).1) rfl ?_
 exact⟨_,_,_,_,_,_,rfl,⟨S.out.r 1 rfl,S.out.r 0 rfl⟩,S.out.bel⟩
end Go.Proofs.YthlinhconnmbcaaGreat
namespace Go.Proofs.YthlinhconnmbcaaGreat
open Go.RowKit RQ GE
set_option linter.unusedVariables false
theorem int_get {W:World} {A:Option Addr} {n i:Nat} {L:List Int} (h:LR intC W A n L) (hi:i<n):∃ b p,A=some ⟨b,p,none⟩∧W.cell? ⟨b,p+i,none⟩=some (.int .i64 (L.getD i 0)):=by
 obtain⟨b,p,x,hA,hx,_,_,hc⟩:=h.get hi;have:=hc 0 (.int .i64 x) rfl;refine⟨b,p,hA,?_⟩
 rw[List.getD_eq_getElem?_getD,hx]
 rw[show intC.sz=1 from rfl,Nat.mul_one,Nat.add_zero] at this
 exact this
theorem at_any (L:List Int) (A:Option Addr) (n c i:Nat) (w:World) (h:LR intC w A n L) (hi:i≤1000):Calls Tryz.prog 26 #[.slice A n c,.int .i64 i] w fun e w'=>e=.returned (.int .i64 (L.getD i 0))∧Below w.heap.size w w':=by
 have B:=Lib.hid (Below.refl w.heap.size w)
 by_cases hl:i<n
 ·obtain⟨b,p,rfl,hc⟩:=int_get h hl
  obtain⟨z,hz⟩:∃ z,z=L.getD i 0:=⟨_,rfl⟩;rw[←hz] at hc ⊢;have g1:(i:Int)<(n:Int):=by omega
  have g2:(0:Int)≤(i:Int):=by omega
  clear h hl hz;go_enter Tryz.func26,Tryz.ntmps26;go_wp2;go_ret;exact⟨rfl,B.out⟩
 ·have e:L.getD i 0=0:=by
   rw[List.getD_eq_getElem?_getD,List.getElem?_eq_none (by rw[h.len];omega)];rfl
  rw[e];have g1:¬ (i:Int)<(n:Int):=by omega
  clear h hl e;go_enter Tryz.func26,Tryz.ntmps26;go_wp2;go_ret;exact⟨rfl,B.out⟩
theorem res_num (W:World) (tmps:Array Value) (g t:Nat) {v0 v1 v2:Value} (ht:tmps.getD 2 undef=.pointer (some ⟨g,0,none⟩)) (h:Cb W g #[v0,v1,v2] t) :
  (results Tryz.f25 tmps).run Tryz.prog W=.ok (.agg #[v0,v1,v2]) W:=by
 have c0:W.cell? ⟨g,0,none⟩=some v0:=h.cell rfl;have c1:W.cell? ⟨g,1,none⟩=some v1:=h.cell rfl;have c2:W.cell? ⟨g,2,none⟩=some v2:=h.cell rfl;have ht':tmps[2]?.getD undef=.pointer (some ⟨g,0,none⟩):=by rw[←ht];simp[Array.getD_eq_getD_getElem?]
 simp[results,Tryz.results25,go_sem,ht',c0,c1,c2]
theorem num_any (v:Int) (w:World) (h1 : -9223372036854775808≤v∧v≤9223372036854775807):Calls Tryz.prog 25 #[.int .i64 v] w (RetR (mNum v) w):=by
 have hM1:=Lib.hid (fun W=>mmod_any v 61 W (by decide) (by decide))
 have hM2:=Lib.hid (fun W=>mmod_any (v.tdiv 61) 4 W (by decide) (by decide))
 have hw0:wrap64 (v.tdiv 61)=v.tdiv 61:=by
  have t1:=Int.tmod_add_mul_tdiv v 61;have t2:v.tmod 61<61:=Int.tmod_lt_of_pos v (by decide)
  have t3 : -61<v.tmod 61:=Int.lt_tmod_of_pos v (by decide)
  unfold wrap64;omega
 obtain⟨q,hq⟩:∃ q,q=v.tdiv 61:=⟨_,rfl⟩;have hQ:mNum v=Rat.divInt (v%61-30) (q%4+1):=by rw[hq];rfl
 have e1:v.tdiv 61=q:=hq.symm;rw[hQ];rw[←hq] at hM2 hw0;obtain⟨x,hx⟩:∃ x,x=v%61:=⟨_,rfl⟩;obtain⟨y,hy⟩:∃ y,y=q%4:=⟨_,rfl⟩;have x0:0≤x:=by omega
 have x1:x<61:=by omega
 have y0:0≤y:=by omega
 have y1:y<4:=by omega
 rw[←hx,←hy];rw[←hx] at hM1;rw[←hy] at hM2;have hF:=Lib.hid (fun W=>rfrac_any (x-30) (1+y) W (by omega) (by omega) (by omega))
 rw[show y+1=1+y from Int.add_comm _ _]
 have hw1:wrap64 (x-30)=x-30:=by unfold wrap64;omega
 have hw2:wrap64 (1+y)=1+y:=by unfold wrap64;omega
 generalize Rat.divInt (x-30) (1+y)=r at *;clear hx hy hq hQ x0 x1 y0 y1;have S:=((St.new w).allocAt (w.heap.size) #[.bool false,.slice none 0 0,.slice none 0 0] 33 (noL3 _ _ _ _ _ _ _) (by simp))
 replace S:=Lib.hid S;clear h1;go_enter Tryz.func25,Tryz.ntmps25
 go_wp2_with fail
 refine (hM1.out _).mono ?_
 rintro e w1 ⟨rfl,rfl⟩
 go_wp2_with fail
 refine (hM2.out _).mono ?_
 rintro e w1 ⟨rfl,rfl⟩
 go_wp2_with fail
 refine (hF.out _).mono ?_
 rintro e w3 ⟨A9,n9,c9,D9,m9,d9,rfl,Q9,bb⟩;have T:=(((S.out.call bb).read Q9.n).read Q9.d);clear bb S;have S:=T;clear T;obtain⟨c_r0,c_r1,c_r2,f_r0,f_r1,f_r2⟩:=S.cf3 0 rfl;have hz:w.heap.size<w3.heap.size:=S.lt 0 rfl;replace S:=Lib.hid S;clear Q9 hF hM1 hM2;have S:St w _ [(w.heap.size,#[.bool (ng r.num),.slice A9 n9 c9,.slice D9 m9 d9],33)] [(D9,m9,d9,dn r),(A9,n9,c9,limbs r.num.natAbs)]:=(((S.out.set 0 0 (.bool (ng r.num)) rfl (by nofun)).set 0 1 (.slice A9 n9 c9) rfl (by nofun)).set 0 2 (.slice D9 m9 d9) rfl (by nofun))
 replace S:=Lib.hid S;go_wp2;refine bodyPost_ret (res_num _ _ (w.heap.size) 33 rfl (S.out.bk _ (List.mem_of_getElem? (i:=0) rfl)).1) rfl ?_
 exact⟨_,_,_,_,_,_,rfl,⟨S.out.r 1 rfl,S.out.r 0 rfl⟩,S.out.bel⟩
end Go.Proofs.YthlinhconnmbcaaGreat
namespace Go.Proofs.YthlinhconnmbcaaGreat
open Go.RowKit RQ GE
set_option linter.unusedVariables false
structure Gd (K:List Ro) (n k:Nat) (Q:List (List Rat)):Prop where
 len:K.length=n
 rn:∀ r∈K,r.n=k
 rl:∀ r∈K,r.L.length=k
 can:∀ r∈K,∀ x∈r.L,x.can
 q:qM K=Q
 hn:n≤8
 hk:k≤8
 hs:n=0→k=0
 h1:0<n→1≤k
section
variable {K N:List Ro} {n k m:Nat} {Q R:List (List Rat)} {A:Option Addr} {c:Nat} {w W:World}
theorem Gd.wf (g:Gd K n k Q):wfM K=true:=by
 rcases Nat.eq_zero_or_pos n with h | h
 ·have:K=[]:=List.length_eq_zero_iff.1 (g.len.trans h)
  subst this;rfl
 ·exact wfM_of g.rn (g.h1 h) (by have:=g.hk;omega) (by rw[g.len];have:=g.hn;omega)
theorem Gd.col (g:Gd K n k Q):colM K=k:=by
 rcases Nat.eq_zero_or_pos n with h | h
 ·have:K=[]:=List.length_eq_zero_iff.1 (g.len.trans h)
  subst this;exact (g.hs h).symm
 ·exact colM_of g.rn (by rw[g.len];exact h)
theorem Gd.rct (g:Gd K n k Q):rct k Q:=fun r hr=>by
 rw[←g.q] at hr;obtain⟨y,hy,rfl⟩:=List.mem_map.1 hr;rw[List.length_map];exact g.rl y hy
theorem Gd.big (g:Gd K n k Q):∀ r∈K,r.n≤9223372036854775807:=fun r hr=>by rw[g.rn r hr];have:=g.hk;omega
theorem Gd.nbig (g:Gd K n k Q):n≤9223372036854775807:=by have:=g.hn;omega
theorem Gd.rk (g:Gd K n k Q) (h:Mr W A n c K):∀ r∈K,∀ x∈r.L,Rk x.b x.n x.x x.m x.y x.q:=fun r hr x hx=>can_k (g.can r hr x hx) ((h.rd r hr).rd x hx)
theorem Gd.all {P:Rat→Prop} (g:Gd K n k Q) (h:∀ r∈Q,∀ q∈r,P q):∀ r∈K,∀ x∈r.L,P x.q:=qM_all (by rw[g.q];exact h)
theorem Gd.lt (g:Gd K n k Q) (h:Mr W A n c K) (hs:∀ r∈Q,∀ q∈r,Rs q 8000):ltM K:=fun r hr x hx=>⟨g.rk h r hr x hx,g.all hs r hr x hx⟩
theorem Gd.of {n':Nat} (h:Mr W A n' c K) (hc:canM K) (hq:qM K=Q) (hl:Q.length=n) (hr:GE.rct k Q) (hn:n≤8) (hk:k≤8) (hs:n=0→k=0) (h1:0<n→1≤k):n'=n∧Gd K n k Q:=by
 have e:K.length=n:=by rw[←hl,←hq];unfold qM;rw[List.length_map]
 have e2:∀ r∈K,r.L.length=k:=fun r hr'=>by
  have:=hr (r.L.map (·.q)) (by rw[←hq];exact List.mem_map_of_mem hr')
  rwa [List.length_map] at this
 exact⟨h.len.symm.trans e,e,fun r hr'=>((h.rd r hr').len.symm.trans (e2 r hr')),e2,fun r hr'=>(hc r hr').2,hq,hn,hk,hs,h1⟩
theorem s2_rs {q:Rat} {a p:Nat} (h:S2 a a q) (ha:a<p):Rs q p:=S2.rs h ha ha
def RetMk (n k:Nat) (Q:List (List Rat)) (w:World) (e:Ending) (w':World):Prop:=∃ A c K,e=.returned (.slice A n c)∧Mr w' A n c K∧Gd K n k Q∧Below w.heap.size w w'
def RetM0 (n k:Nat) (Q:List (List Rat)) (w:World) (e:Ending) (w':World):Prop:=∃ A c K,e=.returned (.tuple #[.slice A n c,.int .i64 0])∧Mr w' A n c K∧Gd K n k Q∧Below w.heap.size w w'
theorem RetM0.of {e:Ending} (h:RetME Q w e W) (hl:Q.length=n) (hr:GE.rct k Q) (hn:n≤8) (hk:k≤8) (hs:n=0→k=0) (h1:0<n→1≤k):RetM0 n k Q w e W:=by
 obtain⟨A,n',c,M,rfl,h2,h3,h4,h5⟩:=h;obtain⟨rfl,g⟩:=Gd.of h2 h3 h4 hl hr hn hk hs h1;exact⟨A,c,M,rfl,h2,g,h5⟩
end
end Go.Proofs.YthlinhconnmbcaaGreat
namespace Go.Proofs.YthlinhconnmbcaaGreat
open Go.RowKit RQ GE
set_option linter.unusedVariables false
theorem mdQ_row {n k:Nat} {l:List Int} {K:List (List Rat)} (hl:K.length=n) (h:∀ i,i<n→K.getD i []=(List.range k).map fun j=>mNum (l.getD (i*k+j) 0)):K=mdQ n k l:=by
 unfold mdQ mk;refine List.ext_getElem? fun i=>?_
 rw[List.getElem?_map]
 rcases Nat.lt_or_ge i n with hi | hi
 ·rw[List.getElem?_range hi]
  have:=h i hi;rw[List.getD_eq_getElem?_getD,List.getElem?_eq_getElem (by omega)] at this
  rw[List.getElem?_eq_getElem (by omega)]
  simp only[Option.getD_some] at this;rw[this];rfl
 ·rw[List.getElem?_eq_none (by omega),List.getElem?_eq_none (by rw[List.length_range];exact hi)];rfl
theorem mNum_rs (v:Int):Rs (mNum v) 9000000:=(s2_rs (a:=1) (p:=2) ((mNum_tw v).s2 (by omega) (by omega) (by omega)) (by omega)).mono (by omega)
theorem made_any (n k:Nat) (L:List Int) (A0:Option Addr) (n0 c0:Nat) (w:World) (h:LR intC w A0 n0 L) (hv:∀ i,-9223372036854775808≤L.getD i 0∧L.getD i 0≤9223372036854775807) (hn:n≤8) (hk:k≤8) (hs:n=0→k=0) (h1:0<n→1≤k):Calls Tryz.prog 8 #[.int .i64 n,.int .i64 k,.slice A0 n0 c0] w (RetMk n k (mdQ n k L) w):=by
 have hrow:=Lib.hid (fun K (hK:K.length=n) h=>mdQ_row (k:=k) (l:=L) (K:=K) hK h)
 have hgd:=Lib.hid (fun (K:List Ro) (h1':K.length=n) (h2:∀ r∈K,r.n=k) (h3:∀ r∈K,r.L.length=k) (h4:∀ r∈K,∀ x∈r.L,x.can) (h5:qM K=mdQ n k L)=>(⟨h1',h2,h3,h4,h5,hn,hk,hs,h1⟩:Gd K n k (mdQ n k L)))
 have hAt:=Lib.hid (fun W (i:Nat) (hW:LR intC W A0 n0 L) (hi:i≤1000)=>at_any L A0 n0 c0 i W hW hi)
 have hNu:=Lib.hid (fun W (i:Nat)=>num_any (L.getD i 0) W (hv i))
 have S:=Lib.hid (St.new w);obtain⟨Q,hQ⟩:∃ Q,Q=mdQ n k L:=⟨_,rfl⟩;rw[←hQ] at hrow hgd ⊢;replace h:=Lib.hid h;have hbn:=Lib.hid hn;have hbk:=Lib.hid hk;clear hn hk hs h1 hv hQ;go_enter Tryz.func8,Tryz.ntmps8;go_wp2
 go_loopw [7,8] (fun ov iv wr=>∃ (i:Nat) (K:List Ro) (bs:List Bk) (rs:List Rdg),i≤n∧iv=.int .i64 i∧K.length=i∧Apd w wr bs rs 46 1 ov i (K.map Ro.v)∧(∀ r∈K,r.In bs rs)∧(∀ r∈K,r.n=k∧∀ x∈r.L,x.can)∧(∀ j,j<i→(qM K).getD j []=(List.range k).map fun t=>mNum (L.getD (j*k+t) 0))) (fun _ iv _=>n-(intOf iv).toNat)
 case atStart=>exact⟨0,[],[],[],Nat.zero_le _,rfl,rfl,Apd.nil_ S.out _ _,fun x hx=>(by cases hx),fun x hx=>(by cases hx),fun j hj=>absurd hj (Nat.not_lt_zero _)⟩
 case round=>
  clear S;obtain⟨i,K,bs,rs,hin,rfl,hK,AP,hIn,hcan,hq⟩:=hrel;rename World=>V0
  by_cases hlt:i<n
  ·have hih:=Lib.hid hlt
   have g1:(i:Int)<(n:Int):=by omega
   obtain⟨ob,hob,S⟩:=AP.opn;have AR0:=Lib.hid (Apd.nil_ S 33 3);have hb0:=Lib.hid (AP.st.bel);replace hob:=Lib.hid hob;replace hIn:=Lib.hid hIn;replace hcan:=Lib.hid hcan;replace hq:=Lib.hid hq;replace hK:=Lib.hid hK;clear hlt hin S AP;go_wp2
   go_loopw [9,10] (fun rv jv wr=>∃ (j:Nat) (E:List Rt) (rs':List Rdg),j≤k∧jv=.int .i64 j∧E.length=j∧Apd w wr (bs++ob) rs' 33 3 rv j (csE E)∧(∀ x∈E,x.can∧x.rdIn rs')∧E.map (·.q)=(List.range j).map (fun t=>mNum (L.getD (i*k+t) 0))∧(∀ p∈rs,p∈rs')) (fun _ jv _=>k-(intOf jv).toNat)
   case atStart=>exact⟨0,[],rs,Nat.zero_le _,rfl,rfl,AR0.out,fun x hx=>(by cases hx),rfl,fun p hp=>hp⟩
   case round=>
    clear AR0;obtain⟨j,E,rs',hjk,rfl,hE,AR,hcn,hqE,hsub⟩:=hrel;rename World=>V1
    by_cases hlj:j<k
    ·have g4:(j:Int)<(k:Int):=by omega
     have hjh:=Lib.hid hlj;have hm8:i*k≤64:=Nat.le_trans (Nat.mul_le_mul (show i≤8 by have:=hih.out;have:=hbn.out;omega) hbk.out) (by omega)
     obtain⟨m,hm⟩:∃ m:Nat,m=i*k:=⟨_,rfl⟩;have em:(i:Int)*(k:Int)=(m:Int):=by rw[hm,Int.natCast_mul]
     have ew:wrap64 (m:Int)=(m:Int):=by unfold wrap64;omega
     obtain⟨p,hp⟩:∃ p:Nat,p=m+j:=⟨_,rfl⟩;have ep:(m:Int)+(j:Int)=(p:Int):=by omega
     have ewp:wrap64 (p:Int)=(p:Int):=by have:=hbk.out;unfold wrap64;omega
     obtain⟨v,hv⟩:∃ v,v=L.getD p 0:=⟨_,rfl⟩;have hA1:=hAt.out V1 p (h.out.bel AR.st.bel) (by have:=hbk.out;omega)
     have hN1:=Lib.hid (fun W=>hNu.out W p)
     obtain⟨q1,hq1⟩:∃ q,q=mNum v:=⟨_,rfl⟩;rw[←hv] at hA1 hN1;rw[←hq1] at hN1;have hR1:Hid (Rs q1 9000000):=Lib.hid (by rw[hq1];exact mNum_rs v)
     have hnx:Hid ((List.range j).map (fun t=>mNum (L.getD (i*k+t) 0))++[q1]=(List.range (j+1)).map (fun t=>mNum (L.getD (i*k+t) 0))):=Lib.hid (by
      rw[List.range_succ,List.map_append,hq1,hv,hp,hm];rfl)
     replace hA1:=Lib.hid hA1;replace AR:=Lib.hid AR;replace hcn:=Lib.hid hcn;replace hqE:=Lib.hid hqE;replace hsub:=Lib.hid hsub;replace hE:=Lib.hid hE;clear hlj hjk hm8 hm hp hv hq1
     go_wp2_with fail
     refine hA1.out.mono ?_
     rintro e w2 ⟨rfl,bb⟩;replace AR:=Lib.hid (AR.out.call bb);clear bb hA1
     go_wp2_with fail
     refine (hN1.out _).mono ?_
     rintro e w3 ⟨A2,n2,c2,D2,m2,d2,rfl,Q2,bb⟩;have AP1:=(((AR.out.call bb).read Q2.n).read Q2.d).alloc #[.bool (ng q1.num),.slice A2 n2 c2,.slice D2 m2 d2] 33 (noL3 _ _ _ _ _ _ _);have hcb1:=AP1.st.cb 0 rfl;clear AR bb Q2 hN1 em ew ep ewp
     go_wp2_with (at_builtin;refine app_rat rfl (.tmp 21) (.tmp 30) rfl rfl AP1 _ rfl hcb1 (by have:=hjh.out;have:=hbk.out;omega) ?_)
     clear AP1 hcb1;intro v' W' AP;replace AP:=Lib.hid AP;have hlj:=hjh.out;have hbb:=hbk.out;go_wp2
     go_roundw
     case rel=>exact⟨j+1,E++[Rt.of A2 n2 c2 D2 m2 d2 q1],_,by omega,by go_num,by rw[List.length_append,hE.out];rfl,by rw[csE_app];exact AP.out.sub,fun x hx=>(by rcases List.mem_append.1 hx with hx | hx;exact⟨(hcn.out x hx).1,rd_cons_ (rd_cons_ (hcn.out x hx).2)⟩;obtain rfl:=List.mem_singleton.1 hx;exact⟨Rt.of_can _ _ _ _ _ _ hR1.out,List.mem_cons_of_mem _ List.mem_cons_self,List.mem_cons_self⟩),by rw[List.map_append,hqE.out];exact hnx.out,fun p hp=>List.mem_cons_of_mem _ (List.mem_cons_of_mem _ (hsub.out p hp))⟩
     case measure=>simp[intOf];omega
    ·obtain rfl:j=k:=by omega
     rw[←hE] at AR;obtain⟨r,bs',rfl,h1,h2,h3,h4,S3⟩:=row_done AR (fun x hx=>(hcn x hx).2)
     have APo:=Apd.close hob.out S3;have APl:=APo.alloc #[.slice r.A r.n r.c] 46 (noL1 _ _ _);have hcb1:=APl.st.cb 0 rfl;have hcn':=Lib.hid (fun x hx=>(hcn x hx).1)
     rw[hE] at h1;replace hqE:=Lib.hid hqE;replace hsub:=Lib.hid hsub;have hh:=Lib.hid (And.intro h1 (And.intro h2 (And.intro h3 h4)));clear AR hcn hjk h1 h2 h3 h4 S3 APo hob hlj hE;have hil:=hih.out;have hbb:=hbn.out
     go_wp2_with (at_builtin;refine app_row rfl (.tmp 32) (.tmp 34) rfl rfl APl _ rfl hcb1 (by omega) ?_)
     clear APl hcb1;intro v' W' AP;replace AP:=Lib.hid AP;go_wp2
     go_roundw
     case rel=>
      refine⟨i+1,K++[r],bs',_,by omega,by go_num,by rw[List.length_append,hK.out];rfl,by rw[List.map_append];exact AP.out.sub,In_app hIn.out hh.out.2.2.1 hsub.out hh.out.2.2.2,fun r' hr'=>?_,fun t ht=>?_⟩
      ·rcases List.mem_append.1 hr' with hr' | hr'
       ·exact hcan.out r' hr'
       ·obtain rfl:=List.mem_singleton.1 hr'
        exact⟨hh.out.1,by rw[hh.out.2.1];exact hcn'.out⟩
      ·have hl:(qM K).length=i:=by unfold qM;rw[List.length_map];exact hK.out
       rw[qM_app]
       by_cases hki:t<i
       ·rw[List.getD_eq_getElem?_getD,List.getElem?_append_left (by omega),←List.getD_eq_getElem?_getD]
        exact hq.out t hki
       ·obtain rfl:t=i:=by omega
        rw[List.getD_eq_getElem?_getD,List.getElem?_append_right (by omega),hl,Nat.sub_self]
        show r.L.map (·.q)=_
        rw[hh.out.2.1];exact hqE.out
     case measure=>simp[intOf];omega
  ·obtain rfl:i=n:=by omega
   have AP1:=AP;rw[←hK] at AP1;obtain⟨A3,c3,hv,M3⟩:=AP1.mat hIn;subst hv;rw[hK] at M3;have hbl:=Lib.hid AP1.st.bel;have hrl:∀ r∈K,r.L.length=k:=fun r hr=>by rw[(hIn r hr).1];exact (hcan r hr).1
   have hfin:=Lib.hid (hgd.out K hK (fun r hr=>(hcan r hr).1) hrl (fun r hr=>(hcan r hr).2) (hrow.out _ (by unfold qM;rw[List.length_map];exact hK) hq))
   replace M3:=Lib.hid M3;replace hK:=Lib.hid hK;clear AP AP1 hIn hq hlt hin hcan hrl;go_wp2;go_ret;exact⟨A3,c3,K,(show Ending.returned (Value.slice A3 K.length c3)=_ by rw[hK.out]),M3.out,hfin.out,hbl.out⟩
end Go.Proofs.YthlinhconnmbcaaGreat
namespace Go.Proofs.YthlinhconnmbcaaGreat
open Go.RowKit RQ GE
set_option linter.unusedVariables false
theorem elP {P:Rat→Prop} {Q:List (List Rat)} (h0:P 0) (h:∀ r∈Q,∀ q∈r,P q) (i j:Nat):P (el Q i j):=by
 unfold GE.el;rw[List.getD_eq_getElem?_getD,List.getD_eq_getElem?_getD]
 cases ha:Q[i]? with
 | none=>simpa using h0
 | some r=>
  simp only[Option.getD_some]
  cases hc:r[j]? with
  | none=>exact h0
  | some q=>exact h r (List.mem_of_getElem? ha) q (List.mem_of_getElem? hc)
theorem mdQ_tw {n k:Nat} {l:List Int}:∀ r∈mdQ n k l,∀ q∈r,Tw 12 360 q:=mk_all fun _ _=>mdF_tw
theorem tw_s2 {q:Rat} (h:Tw 12 360 q):S2 1 1 q:=h.s2 (by omega) (by omega) (by omega)
theorem s2_all {Q:List (List Rat)} (h:∀ r∈Q,∀ q∈r,S2 1 1 q) {p:Nat} (hp:1<p):∀ r∈Q,∀ q∈r,Rs q p:=fun r hr q hq=>s2_rs (h r hr q hq) hp
theorem sz11 {n k:Nat} (hn:n≤4) (hk:k≤8):∀ {Q:List (List Rat)},(∀ r∈Q,∀ q∈r,S2 1 1 q)→(∀ r∈Q,∀ q∈r,S2 2 2 q)∧SzE n k 2 2∧SzT n k 2 2:=fun h=>⟨fun r hr q hq=>(h r hr q hq).mono (by omega) (by omega),(sz22 hn hk).1,(sz22 hn hk).2⟩
end Go.Proofs.YthlinhconnmbcaaGreat
namespace Go.Proofs.YthlinhconnmbcaaGreat
open Go.ChangeShapes Go.WideShapes Go.ChangeAt Go.RowKit Go.Joins Go.Deep
set_option linter.unusedVariables false
theorem own:ownKnob Tryz.prog.godebug=none:=by kernel_rfl
theorem laidOut:laidOutB Tryz.prog=true:=by kernel_rfl
def Opn {α:Type} (t:TypeId) (C:Cod α):Prop:=∀ {H:Type} {enc:TypeId×Value→H} {W:World} {n:Nat} {cs:List Value} {x:DataW H×List MemPlace},DataW.trod enc Tryz.prog W 0 (fun _=>true) true n t cs=some x→∃ a:α,cs=C.cs a∧C.At W a
theorem cells_get8 {w:World} {base:Nat} {a:Addr} {n:Nat} {cs:List Value} (h:w.cells? base a n=some cs):cs.length=n∧∀ i,i<n→w.cell? (a.add i)=cs[i]?:=by
 unfold World.cells? at h
 split at h
 ·exact⟨by simpa using mapM_some_length h,fun i hi=>mapM_some_get h i i (by simp[hi])⟩
 ·cases h
theorem spot_none8 {w:World} {a:Addr} {v:Value} (h:w.cell? a=some v):a=⟨a.block,a.off,none⟩∧a.block<w.heap.size:=by
 obtain⟨b,o,s⟩:=a;unfold World.cell? at h
 split at h
 ·rename_i hb
  cases s with
  | none=>exact⟨rfl,(Array.getElem?_eq_some_iff.1 hb).1⟩
  | some z=>simp at h
 ·cases h
theorem add_n8 (b o k:Nat):(⟨b,o,none⟩:Addr).add k=⟨b,o+k,none⟩:=by unfold Addr.add;split<;>simp_all
theorem opn_slice {α:Type} {C:Cod α} {t e:TypeId} (hu:Program.underlying Tryz.prog t=some (.slice e)) (hc:Program.cellsOf Tryz.prog e=C.sz) (he:Opn e C):Opn t (slC C):=by
 intro H enc W n cs x h
 rcases DataW.trod_slice hu h with ⟨h0,_⟩ | ⟨a,len,cap,elems,rest,m,_,h0,_,hb,hl,hm,hlen,hel,_,_⟩
 ·exact⟨⟨none,0,[]⟩,h0,LR.nil_ _ _ _,Nat.le_refl _⟩
 ·rw[hc] at hel
  have each:∀ i,i<len→∃ y:α,(∀ k v,(C.cs y)[k]?=some v→W.cell? ((a.add (i*C.sz)).add k)=some v)∧C.At W y:=by
   intro i hi;have e:=hel i hi;rw[List.getElem?_eq_getElem (by omega),Option.bind_eq_some_iff] at e
   obtain⟨cs',hcs,hy⟩:=e;obtain⟨hcl,hcg⟩:=cells_get8 hcs;obtain⟨y,rfl,hat⟩:=he hy;exact⟨y,fun k v hv=>by rw[hcg k (by rw[←C.len y];exact (List.getElem?_eq_some_iff.1 hv).1)];exact hv,hat⟩
  rcases Nat.eq_zero_or_pos len with h1 | h1
  ·subst h1
   exact⟨⟨some a,cap,[]⟩,h0,LR.nil_ _ _ _,Nat.zero_le _⟩
  ·obtain⟨y0,e0,_⟩:=each 0 h1
   have e0':=e0 0 _ (List.getElem?_eq_getElem (by rw[C.len];exact C.pos))
   have ea:(a.add (0*C.sz)).add 0=a:=by simp[Addr.add]
   rw[ea] at e0';obtain⟨ha,hblt⟩:=spot_none8 e0';obtain⟨b,o,s⟩:=a;obtain rfl:s=none:=by injection ha
   obtain⟨L,hL⟩:∃ L,L=(List.range len).map (fun i=>if hi:i<len then (each i hi).choose else y0):=⟨_,rfl⟩
   have hfl:L.length=len:=by rw[hL];simp
   have hmem:∀ r∈L,∃ i,∃ hi:i<len,r=(each i hi).choose:=by
    intro r hr;rw[hL] at hr;obtain⟨i,hi,rfl⟩:=List.mem_map.1 hr;have hil:i<len:=by simpa using hi
    exact⟨i,hil,by simp only[hil,dite_true]⟩
   refine⟨⟨some ⟨b,o,none⟩,cap,L⟩,by rw[h0,←hfl];rfl,⟨rfl,.inr ⟨b,o,rfl,hblt,fun i x hi k v hv=>?_⟩,fun r hr=>?_⟩,by show L.length≤cap;omega⟩
   ·have hil:i<len:=by rw[←hfl];exact (List.getElem?_eq_some_iff.1 hi).1
    have er:x=(each i hil).choose:=by
     have hi':L[i]?=some x:=hi;rw[hL,List.getElem?_map,List.getElem?_range hil] at hi'
     simpa [hil] using hi'.symm
    have k0:=(each i hil).choose_spec.1 k v (by rw[←er];exact hv)
    rw[add_n8,add_n8] at k0;exact k0
   ·obtain⟨i,hi,rfl⟩:=hmem r hr
    exact (each i hi).choose_spec.2
def ibC:Cod Int where
 sz:=1
 cs a:=[.int .i64 a]
 At _ a:=-9223372036854775808≤a∧a≤9223372036854775807
 In _ _ _ a:=-9223372036854775808≤a∧a≤9223372036854775807
 pos:=by decide
 len _:=rfl
 noL a:=fun v hv z e=>by rw[List.mem_singleton.1 hv] at e;cases e
 one a:=fun v hv=>by rw[List.mem_singleton.1 hv];rfl
 bel h _:=h
 mono h _ _:=h
 at_ _ h:=h
 old _ _ h:=h
theorem opn_intb:Opn 3 ibC:=by
 intro H enc W n cs x h;obtain⟨s,e,_,hw⟩:=DataW.trod_int Tryz.underlying3 h;exact⟨s,e,bounds_i64 hw⟩
theorem c6Int:Program.cellsOf Tryz.prog 3=1:=by kernel_rfl
theorem opn_intsb:Opn 22 (slC ibC):=opn_slice Tryz.underlying22 c6Int opn_intb
theorem open_intl {H:Type} {enc:TypeId×Value→H} {W:World} {b0:Nat} {r:Reach} {v:Value} {d:DataW H} {p:List MemPlace} (hv:Value.okWide Tryz.prog W r b0 22 v) (h:DataW.Trod enc Tryz.prog W 0 (fun _=>true) true 22 v d p) :
  ∃ s:Sl Int,v=.slice s.A s.L.length s.c∧LR intC W s.A s.L.length s.L∧∀ i,-9223372036854775808≤s.L.getD i 0∧s.L.getD i 0≤9223372036854775807:=by
 obtain⟨sa,sl,sc,rfl⟩:=okWide_slice Tryz.underlying22 hv;obtain⟨fuel,hf⟩:=h;obtain⟨s,e,A1⟩:=opn_intsb (show DataW.trod enc Tryz.prog W 0 (fun _=>true) true fuel 22 [.slice sa sl sc]=some _ by simpa [Value.cells] using hf)
 have e:Value.slice sa sl sc=Value.slice s.A s.L.length s.c:=by simpa [slC,Sl.v] using e
 refine⟨s,e,⟨A1.1.len,A1.1.mem,fun _ _=>trivial⟩,fun i=>?_⟩
 rw[List.getD_eq_getElem?_getD]
 cases h:s.L[i]? with
 | none=>exact⟨by show (-9223372036854775808:Int)≤0;omega,by show (0:Int)≤9223372036854775807;omega⟩
 | some x=>exact A1.1.el x (List.mem_of_getElem? h)
theorem byte_in {n:Int} (h:(Lit.int .u8 n).wf=true):∃ c:UInt8,n=(c.toNat:Int):=by
 obtain⟨h1,h2⟩:=bounds_u8 h;refine⟨UInt8.ofNat n.toNat,?_⟩
 rw[UInt8.toNat_ofNat']
 omega
end Go.Proofs.YthlinhconnmbcaaGreat
namespace Go.Proofs.YthlinhconnmbcaaGreat
open Go.RowKit RQ GE
set_option linter.unusedVariables false
theorem tw_rs {q:Rat} (h:Tw 12 360 q):Rs q 1:=by
 have:=h.nd (by omega)
 exact⟨by rw[Nat.pow_one];omega,by rw[Nat.pow_one];omega⟩
theorem rs_s2 {q:Rat} {p:Nat} (h:Rs q p):S2 p p q:=⟨Nat.le_of_lt h.n,Nat.le_of_lt h.d⟩
end Go.Proofs.YthlinhconnmbcaaGreat
namespace Go.Proofs.YthlinhconnmbcaaGreat
open Go.RowKit RQ GE
set_option linter.unusedVariables false
def toGw (x:Rt):Gw:=⟨x.b,⟨x.A,x.n,x.c,x.x⟩,⟨x.D,x.m,x.d,x.y⟩⟩
theorem Sr.lr {w:World} {A:Option Addr} {n c:Nat} {L:List Rt} (h:Sr w A n c L):LR rwC w A n (L.map toGw):=by
 refine⟨by rw[List.length_map];exact h.len,?_,fun y hy=>?_⟩
 ·rcases h.mem with h0 | ⟨b,o,hA,hlt,hc⟩
  ·exact .inl h0
  ·refine .inr ⟨b,o,hA,hlt,fun i y hi k v hv=>?_⟩
   rw[List.getElem?_map] at hi
   obtain⟨x,hx,rfl⟩:=Option.map_eq_some_iff.1 hi;obtain⟨k0,k1,k2⟩:=hc i x hx;rw[rw_cs] at hv
   match k,hv with
   | 0,hv=>obtain rfl:=Option.some.inj hv;exact k0
   | 1,hv=>obtain rfl:=Option.some.inj hv;exact k1
   | 2,hv=>obtain rfl:=Option.some.inj hv;exact k2
 ·obtain⟨x,hx,rfl⟩:=List.mem_map.1 hy
  exact⟨trivial,(h.rd x hx).1,(h.rd x hx).2⟩
end Go.Proofs.YthlinhconnmbcaaGreat
set_option linter.unusedVariables false
namespace GE
variable {n k:Nat} {P:Nat→Rat→Prop}
theorem col_grow4 (G:Grw P) {b j:Nat} {s:GS} (F:RF n k s.M s.p j) (hE:∀ i c,P b (el s.M i c)) (hf:P b s.f) (hb:1≤b) :
  (gat j s=s.M.length∨s.p.length<n)∧colP (P (4*b+1)) j s∧(∀ i c,P (4*b+1) (el (gcol j s).M i c))∧P (4*b+1) (gcol j s).f:=by
 by_cases hg:gat j s=s.M.length
 ·have e:gcol j s=s:=by unfold gcol;rw[if_pos hg]
  rw[e];exact⟨Or.inl hg,Or.inl hg,fun i c=>G.mono (hE i c) (by omega),G.mono hf (by omega)⟩
 ·have hle:=gat_le (j:=j) (s:=s) (by rw[F.len];exact F.ple)
  have ha:gat j s<s.M.length:=by omega
  have hn:=F.len;have hge:=gat_ge (j:=j) (s:=s);have e:gcol j s=⟨rws (nrm (gm1 j s) j s.p.length) j s.p.length s.M.length,s.p++[j],gf1 j s*el (gm1 j s) s.p.length j⟩:=by unfold gcol;rw[if_neg hg]
  have r1:=gm1_rct F.rect ha;have l1:(gm1 j s).length=n:=gm1_len.trans hn;have r2:=nrm_rct r1 (j:=j) (t:=s.p.length) (by omega)
  have l2:(nrm (gm1 j s) j s.p.length).length=n:=nrm_len.trans l1;have h1:∀ i c,P b (el (gm1 j s) i c):=fun i c=>by
   rw[el_gm1 ha]
   split
   ·exact hE _ _
   ·split<;>exact hE _ _
  have hf1:P b (gf1 j s):=by
   unfold gf1
   split
   ·exact hf
   ·exact G.neg hf
  have e2:=fun i c=>el_nrm (M:=gm1 j s) (j:=j) (t:=s.p.length) (i:=i) (c:=c) (by omega)
  have ht:∀ c,P (b+b) (el (nrm (gm1 j s) j s.p.length) s.p.length c):=fun c=>by
   rw[e2,if_pos rfl];exact G.mul (h1 _ _) (G.inv (h1 _ _) hb)
  have ho:∀ i c,i≠s.p.length→P b (el (nrm (gm1 j s) j s.p.length) i c):=fun i c hi=>by rw[e2,if_neg hi];exact h1 _ _
  have e3:=fun m (hm:m≤n) i c=>el_rws (j:=j) (t:=s.p.length) (a:=i) (c:=c) (n:=m) r2 (by omega) (by omega)
  have h3:∀ m≤n,∀ i c,P (4*b+1) (el (rws (nrm (gm1 j s) j s.p.length) j s.p.length m) i c):=fun m hm i c=>by
   rw[e3 m hm]
   split
   ·rename_i h
    exact G.mono (G.add (ho i c h.2) (G.mul (ht c) (G.neg (ho i j h.2)))) (by omega)
   ·by_cases hi:i=s.p.length
    ·rw[hi];exact G.mono (ht c) (by omega)
    ·exact G.mono (ho i c hi) (by omega)
  have h4:∀ i<n,P (b+b) (-(el (rws (nrm (gm1 j s) j s.p.length) j s.p.length i) i j)):=fun i hi=>by
   rw[e3 i (by omega),if_neg (by omega)]
   by_cases h:i=s.p.length
   ·rw[h];exact G.neg (ht j)
   ·exact G.mono (G.neg (ho i j h)) (by omega)
  have h5:∀ i<n,∀ c,P (b+b) (el (rws (nrm (gm1 j s) j s.p.length) j s.p.length i) s.p.length c):=fun i hi c=>by
   rw[e3 i (by omega),if_neg (fun h=>h.2 rfl)];exact ht c
  rw[e];refine⟨Or.inr (by omega),Or.inr ⟨G.mono (G.inv (h1 _ _) hb) (by omega),G.mono hf1 (by omega),G.mono (G.mul hf1 (h1 _ _)) (by omega),fun i c=>G.mono (h1 i c) (by omega),fun i hi a c=>h3 i (by omega) a c,fun i hi=>⟨G.mono (h4 i (by omega)) (by omega),fun c=>G.mono (G.mul (h5 i (by omega) c) (h4 i (by omega))) (by omega)⟩⟩,fun i c=>h3 _ (by omega) i c,G.mono (G.mul hf1 (h1 _ _)) (by omega)⟩
def gr4:Nat→Nat→Nat
 | b,0=>b
 | b,t+1=>gr4 (4*b+1) t
theorem gr4_le:∀ {t b:Nat},b≤gr4 b t
 | 0,b=>Nat.le_refl _
 | t+1,b=>Nat.le_trans (show b≤4*b+1 by omega) (gr4_le (t:=t))
theorem run_grow4 (G:Grw P):∀ {c j:Nat} {s:GS} {b t:Nat},RF n k s.M s.p j→(∀ i c,P b (el s.M i c))→P b s.f→1≤b→n-s.p.length≤t→∀ i c',P (gr4 b t) (el (grun c j s).M i c')
 | 0,j,s,b,t,F,hE,hf,hb,ht=>fun i c=>G.mono (hE i c) gr4_le
 | c+1,j,s,b,t,F,hE,hf,hb,ht=>by
  obtain⟨h0,_,h2,h3⟩:=col_grow4 G F hE hf hb;have F':=(gcol_rf F).1
  by_cases hg:gat j s=s.M.length
  ·exact run_grow4 (c:=c) G F' (b:=b) (by rw[col_same hg];exact hE) (by rw[col_same hg];exact hf) hb (by rw[col_same hg];exact ht)
  ·have hlt:s.p.length<n:=h0.resolve_left hg
   have hp:=col_more hg
   match t,ht with
   | 0,ht=>omega
   | t+1,ht=>exact run_grow4 (c:=c) (t:=t) G F' h2 h3 (by omega) (by omega)
theorem ns_add {n k:Nat} {M:List (List Rat)} {i j:Nat} {q:Rat} (hn:M.length=n) (hr:rct k M) (hi:i<n) (hj:j<n) (hij:i≠j) (x:Nat→Rat):NS n k (M.set i (plusQ (M.getD i []) (timesQ (M.getD j []) q))) x↔NS n k M x:=by
 have e1:∀ c,el (M.set i (plusQ (M.getD i []) (timesQ (M.getD j []) q))) i c=el M i c+el M j c*q:=fun c=>by
  unfold el;rw[getD_set (by omega),if_pos rfl]
  have l1:(M.getD i []).length=k:=rct_getD hr (by omega)
  have l2:(M.getD j []).length=k:=rct_getD hr (by omega)
  generalize M.getD i []=ra at *;generalize M.getD j []=rb at *;unfold plusQ timesQ;rw[List.getD_eq_getElem?_getD,List.getElem?_zipWith,List.getElem?_map,List.getD_eq_getElem?_getD,List.getD_eq_getElem?_getD]
  rcases Nat.lt_or_ge c k with hc | hc
  ·rw[List.getElem?_eq_getElem (l:=ra) (by omega),List.getElem?_eq_getElem (l:=rb) (by omega)];rfl
  ·rw[List.getElem?_eq_none (l:=ra) (by omega),List.getElem?_eq_none (l:=rb) (by omega)]
   show (0:Rat)=0+0*q
   rw[Rat.zero_mul,Rat.add_zero]
 have e2:∀ t,t≠i→∀ c,el (M.set i (plusQ (M.getD i []) (timesQ (M.getD j []) q))) t c=el M t c:=fun t ht c=>by
  unfold el;rw[getD_set (by omega),if_neg ht]
 have d1:dt k (M.set i (plusQ (M.getD i []) (timesQ (M.getD j []) q))) x i=dt k M x i+dt k M x j*q:=by
  unfold dt;rw[←sm_mul,←sm_add];exact sm_congr fun c _=>by rw[e1];grind
 have d2:∀ t,t≠i→dt k (M.set i (plusQ (M.getD i []) (timesQ (M.getD j []) q))) x t=dt k M x t:=fun t ht=>dt_congr fun c=>e2 t ht c
 constructor
 ·intro h t ht
  by_cases hti:t=i
  ·have h1:=h i hi
   have h2:=h j hj;rw[d2 j (fun e=>hij e.symm)] at h2
   rw[d1,h2,Rat.zero_mul,Rat.add_zero] at h1;rw[hti];exact h1
  ·rw[←d2 t hti];exact h t ht
 ·intro h t ht
  by_cases hti:t=i
  ·rw[hti,d1,h i hi,h j hj,Rat.zero_mul,Rat.add_zero]
  ·rw[d2 t hti];exact h t ht
theorem ns_times {n k:Nat} {M:List (List Rat)} {i:Nat} {q:Rat} (hn:M.length=n) (hi:i<n) (hq:q≠0) (x:Nat→Rat):NS n k (M.set i (timesQ (M.getD i []) q)) x↔NS n k M x:=by
 have e1:∀ c,el (M.set i (timesQ (M.getD i []) q)) i c=el M i c*q:=fun c=>by
  unfold el;rw[getD_set (by omega),if_pos rfl]
  generalize M.getD i []=ra at *;unfold timesQ;rw[List.getD_eq_getElem?_getD,List.getElem?_map,List.getD_eq_getElem?_getD]
  cases ra[c]? with
  | none=>show (0:Rat)=0*q;rw[Rat.zero_mul]
  | some v=>rfl
 have e2:∀ t,t≠i→∀ c,el (M.set i (timesQ (M.getD i []) q)) t c=el M t c:=fun t ht c=>by
  unfold el;rw[getD_set (by omega),if_neg ht]
 have d1:dt k (M.set i (timesQ (M.getD i []) q)) x i=dt k M x i*q:=dt_mul fun c=>e1 c
 have d2:∀ t,t≠i→dt k (M.set i (timesQ (M.getD i []) q)) x t=dt k M x t:=fun t ht=>dt_congr fun c=>e2 t ht c
 constructor
 ·intro h t ht
  by_cases hti:t=i
  ·have h1:=h i hi
   rw[d1] at h1;rw[hti]
   rcases Rat.mul_eq_zero.1 h1 with h1 | h1
   ·exact h1
   ·exact absurd h1 hq
  ·rw[←d2 t hti];exact h t ht
 ·intro h t ht
  by_cases hti:t=i
  ·rw[hti,d1,h i hi,Rat.zero_mul]
  ·rw[d2 t hti];exact h t ht
end GE
