/- Back substitution upon an echelon form, and the determinant of Bareiss' elimination. Core Lean only; upon G5. -/
import Derived.Test.YtfnkpfbobdmieaaGreatM18
import Derived.Test.YtfnkpfbobdmieaaGreatM17
set_option maxRecDepth 100000
set_option maxHeartbeats 40000000
set_option linter.unusedVariables false
set_option linter.unusedVariables false
namespace GE
variable {n k:Nat}
theorem epiv_iff {R:List (List Rat)} {p:List Nat} (F:EF n k R p k) {j:Nat} (h:j∈p) {x:Nat→Rat} (hx:NS n k R x) (h0:∀ i,j<i→x i=0):x j=0:=by
 obtain⟨t,ht,rfl⟩:=List.getElem_of_mem h;have:=hx t (by have:=F.ple;omega)
 unfold dt at this;rw[sm_one (F.lt _ h) (fun i hi hn=>?_)] at this
 ·have:=F.nz t ht
  generalize el R t p[t]=u at *;generalize x p[t]=v at *
  grind
 ·rcases Nat.lt_or_ge i p[t] with g | g
  ·rw[F.left t ht i g];exact Rat.zero_mul _
  ·rw[h0 i (by omega)];exact Rat.mul_zero _
def tmf (R:List (List Rat)) (p:List Nat) (l:Rat) (c:Nat):Nat→Nat→Rat
 | 0,_=>0
 | d+1,a=>if a+(d+1)=p.length then (l*el R a c-sm (fun m=>el R a (p.getD (a+1+m) 0)*tmf R p l c d (a+1+m)) d) / el R a (p.getD a 0) else tmf R p l c d a
theorem tmf_keep {R:List (List Rat)} {p:List Nat} {l:Rat} {c a:Nat}:∀ {d e:Nat},p.length≤a+d→d≤e→tmf R p l c e a=tmf R p l c d a
 | d,e,h1,h2=>by
  induction e with
  | zero=>
   obtain rfl:d=0:=by omega
   rfl
  | succ e ih=>
   by_cases h:d=e+1
   ·rw[h]
   ·show (if a+(e+1)=p.length then _ else tmf R p l c e a)=_
    rw[if_neg (by omega),ih (by omega)]
theorem tmf_eq {R:List (List Rat)} {p:List Nat} (F:EF n k R p k) {l:Rat} {c i:Nat} (hi:i<p.length) :
  sm (fun t=>el R i (p.getD t 0)*tmf R p l c p.length t) p.length=l*el R i c:=by
 have hd:p.length=i+(p.length-i-1+1):=by omega
 have e1:tmf R p l c p.length i=(l*el R i c-sm (fun m=>el R i (p.getD (i+1+m) 0)*tmf R p l c p.length (i+1+m)) (p.length-i-1)) / el R i (p.getD i 0):=by
  rw[tmf_keep (d:=p.length-i-1+1) (by omega) (by omega)]
  show (if i+(p.length-i-1+1)=p.length then _ else _)=_
  rw[if_pos (by omega)]
  congr 2
  exact sm_congr fun m hm=>by rw[tmf_keep (d:=p.length-i-1) (e:=p.length) (by omega) (by omega)]
 have hnz:el R i (p.getD i 0)≠0:=by
  rw[List.getD_eq_getElem?_getD,List.getElem?_eq_getElem hi];exact F.nz i hi
 have e2:sm (fun t=>el R i (p.getD t 0)*tmf R p l c p.length t) p.length=el R i (p.getD i 0)*tmf R p l c p.length i+sm (fun m=>el R i (p.getD (i+1+m) 0)*tmf R p l c p.length (i+1+m)) (p.length-i-1):=by
  have h1:sm (fun t=>el R i (p.getD t 0)*tmf R p l c p.length t) (i+(p.length-i-1+1))=_:=sm_split
  rw[←hd] at h1;rw[h1,sm_zero (f:=fun t=>el R i (p.getD t 0)*tmf R p l c p.length t) (k:=i) (fun t ht=>by
   have:p.getD t 0<p[i]:=by
    rw[List.getD_eq_getElem?_getD,List.getElem?_eq_getElem (by omega)]
    exact List.pairwise_iff_getElem.1 F.mono _ _ (by omega) hi ht
   rw[F.left i hi _ this];exact Rat.zero_mul _),sm_front,Rat.zero_add]
  congr 1
  exact sm_congr fun m _=>by
   show el R i (p.getD (i+(m+1)) 0)*tmf R p l c p.length (i+(m+1))=_
   rw[show i+(m+1)=i+1+m by omega]
 rw[e2,e1];generalize sm _ (p.length-i-1)=S;generalize el R i (p.getD i 0)=u at hnz ⊢;generalize l*el R i c=v
 grind
theorem tmf_zero {R:List (List Rat)} {p:List Nat} (F:EF n k R p k) {l:Rat} {c:Nat}:∀ {d i:Nat} (hi:i<p.length),p.length≤i+d→c<p[i]→tmf R p l c d i=0
 | 0,i,hi,h1,_=>by omega
 | d+1,i,hi,h1,h2=>by
  show (if i+(d+1)=p.length then _ else tmf R p l c d i)=0
  split
  ·rw[F.left i hi c h2,Rat.mul_zero,sm_zero fun m hm=>?_]
   ·rw[Rat.div_def];grind
   ·have hm':i+1+m<p.length:=by omega
    have:=List.pairwise_iff_getElem.1 F.mono _ _ hi hm' (by omega)
    rw[tmf_zero F hm' (by omega) (by omega)]
    exact Rat.mul_zero _
  ·exact tmf_zero F hi (by omega) h2
def nvE (R:List (List Rat)) (p:List Nat) (l:Rat) (j i:Nat):Rat:=if i=j then 1 else if i∈p then -(tmf R p l j p.length (p.idxOf i) / l) else 0
theorem nvE_ns {R:List (List Rat)} {p:List Nat} (F:EF n k R p k) {l:Rat} (hl:l≠0) {j:Nat} (hj:j<k) (hp:j∉p):NS n k R (nvE R p l j):=by
 intro i hi
 rcases Nat.lt_or_ge i p.length with h | h
 ·have e:dt k R (nvE R p l j) i=el R i j+sm (fun a=>if a=j then 0 else el R i a*nvE R p l j a) k:=by
   have e1:dt k R (nvE R p l j) i=sm (fun a=>(if a=j then el R i a else 0)+(if a=j then 0 else el R i a*nvE R p l j a)) k:=sm_congr fun a _=>by
    by_cases ha:a=j
    ·rw[if_pos ha,if_pos ha,ha];unfold nvE;rw[if_pos rfl,Rat.mul_one,Rat.add_zero]
    ·rw[if_neg ha,if_neg ha,Rat.zero_add]
   rw[e1,sm_add,sm_one hj (fun a _ ha=>if_neg ha),if_pos rfl]
  have e2:sm (fun a=>if a=j then 0 else el R i a*nvE R p l j a) k=sm (fun t=>el R i (p.getD t 0)*tmf R p l j p.length t*(-(1 / l))) p.length:=by
   rw[sm_ls F.mono F.lt (fun a ha hap=>?_),ls_sm]
   ·refine sm_congr fun t ht=>?_
    have g:p.getD t 0=p[t]:=by rw[List.getD_eq_getElem?_getD,List.getElem?_eq_getElem ht];rfl
    have hne:p[t]≠j:=fun e=>hp (e ▸ List.getElem_mem ht)
    show (if p.getD t 0=j then (0:Rat) else el R i (p.getD t 0)*nvE R p l j (p.getD t 0))=_
    rw[g,if_neg hne];unfold nvE;rw[if_neg hne,if_pos (List.getElem_mem ht),idx_get F.mono ht]
    grind
   ·split
    ·rfl
    ·rename_i haj
     unfold nvE;rw[if_neg haj,if_neg hap];exact Rat.mul_zero _
  rw[e,e2,sm_mul,tmf_eq F h];generalize el R i j=u
  grind
 ·unfold dt
  exact sm_zero fun a ha=>by rw[F.low i h hi a ha];exact Rat.zero_mul _
theorem nvE_high {R:List (List Rat)} {p:List Nat} (F:EF n k R p k) {l:Rat} {j i:Nat} (h:j<i):nvE R p l j i=0:=by
 unfold nvE;rw[if_neg (by omega)]
 split
 ·rename_i hi
  obtain⟨t,ht,rfl⟩:=List.getElem_of_mem hi;rw[idx_get F.mono ht,tmf_zero F ht (by omega) h,Rat.div_def,Rat.zero_mul]
  rfl
 ·rfl
theorem ef_red {R R':List (List Rat)} {p p':List Nat} (F:EF n k R p k) (F':RF n k R' p' k) (h:∀ x,NS n k R x↔NS n k R' x) {l:Rat} (hl:l≠0) :
  p=p'∧∀ j<k,j∉p→∀ s (hs:s<p.length),el R' s j=tmf R p l j p.length s / l:=by
 have hp:p=p':=sorted_ext F.mono F'.mono fun j=>by
  constructor
  ·intro hj
   exact (piv_iff F' (F.lt j hj)).2 fun x hx h0=>epiv_iff F hj ((h x).2 hx) h0
  ·intro hj
   have hk:=F'.lt j hj
   by_cases hjp:j∈p
   ·exact hjp
   ·have:=(piv_iff F' hk).1 hj (nvE R p l j) ((h _).1 (nvE_ns F hl hk hjp)) fun i hi=>nvE_high F hi
    unfold nvE at this;rw[if_pos rfl] at this;exact absurd this (by decide)
 subst hp;refine⟨rfl,fun j hj hjp s hs=>?_⟩
 have h1:=(h _).1 (nvE_ns F hl hj hjp) s (by have:=F.ple;omega)
 have hne:j≠p[s]:=fun e=>hjp (e ▸ List.getElem_mem hs)
 unfold dt at h1;rw[sm_two hj (F'.lt _ (List.getElem_mem hs)) hne fun i hi g1 g2=>?_] at h1
 ·rw[F'.one s hs] at h1
  unfold nvE at h1;rw[if_pos rfl,if_neg (fun e=>hne e.symm),if_pos (List.getElem_mem hs),idx_get F.mono hs] at h1
  generalize tmf R p l j p.length s / l=u at h1 ⊢;generalize el R' s j=v at h1 ⊢
  grind
 ·unfold nvE
  rw[if_neg g1]
  split
  ·rename_i g3
   obtain⟨t,ht,rfl⟩:=List.getElem_of_mem g3;rw[F'.off t ht s (by have:=F.ple;omega) (fun e=>g2 (by subst e;rfl))]
   exact Rat.zero_mul _
  ·exact Rat.mul_zero _
end GE
set_option linter.unusedVariables false
namespace GE
variable {n k:Nat} {Φ:(Nat→Nat→Rat)→Rat}
def pr (f:Nat→Rat):Nat→Rat
 | 0=>1
 | m+1=>pr f m*f m
theorem brun_sq:∀ {c j:Nat} {s:GS} {l:Rat},(brun c j s l).1.f*(brun c j s l).1.f=s.f*s.f
 | 0,_,_,_=>rfl
 | c+1,j,s,l=>by
  refine (brun_sq (c:=c)).trans ?_
  unfold bcol
  split
  ·rfl
  ·show gf1 j s*gf1 j s=_
   unfold gf1
   split
   ·rfl
   ·grind
end GE
set_option linter.unusedVariables false
namespace GE
variable {n k:Nat}
structure S2 (a d:Nat) (q:Rat):Prop where
 n:q.num.natAbs≤4294967296^a
 d:q.den≤4294967296^d
theorem w_mono {a b:Nat} (h:a≤b):4294967296^a≤4294967296^b:=Nat.pow_le_pow_right (by decide) h
theorem w_pos (a:Nat):1≤4294967296^a:=Nat.pow_pos (by decide)
theorem S2.mono {a b d e:Nat} {q:Rat} (h:S2 a d q) (h1:a≤b) (h2:d≤e):S2 b e q:=⟨Nat.le_trans h.n (w_mono h1),Nat.le_trans h.d (w_mono h2)⟩
theorem S2.zero {a d:Nat}:S2 a d 0:=⟨Nat.zero_le _,w_pos d⟩
theorem S2.one {a d:Nat}:S2 a d 1:=⟨w_pos a,w_pos d⟩
theorem S2.neg {a d:Nat} {q:Rat} (h:S2 a d q):S2 a d (-q):=⟨by rw[Rat.neg_num,Int.natAbs_neg];exact h.n,h.d⟩
theorem num_le (n:Int) {d:Nat} (hd:0<d):(Rat.divInt n (d:Int)).num.natAbs≤n.natAbs∧(Rat.divInt n (d:Int)).den≤d:=by
 have h0:(d:Int)≠0:=by omega
 rw[Rat.num_divInt,Rat.den_divInt,if_neg h0]
 constructor
 ·rw[Int.sign_eq_one_of_pos (by omega),Int.one_mul]
  exact Int.natAbs_ediv_le_natAbs _ _
 ·rw[Int.natAbs_natCast];exact Nat.div_le_self _ _
theorem S2.mul {a b d e:Nat} {x y:Rat} (h1:S2 a d x) (h2:S2 b e y):S2 (a+b) (d+e) (x*y):=by
 have e':x*y=Rat.divInt (x.num*y.num) ((x.den*y.den:Nat):Int):=by rw[Rat.mul_def',Rat.divInt_ofNat]
 have h:=num_le (x.num*y.num) (Nat.mul_pos x.den_pos y.den_pos);rw[←e'] at h;refine⟨Nat.le_trans h.1 ?_,Nat.le_trans h.2 ?_⟩
 ·rw[Int.natAbs_mul,Nat.pow_add];exact Nat.mul_le_mul h1.n h2.n
 ·rw[Nat.pow_add];exact Nat.mul_le_mul h1.d h2.d
theorem S2.add {a b d e:Nat} {x y:Rat} (h1:S2 a d x) (h2:S2 b e y):S2 (max (a+e) (b+d)+1) (d+e) (x+y):=by
 have e':x+y=Rat.divInt (x.num*y.den+y.num*x.den) ((x.den*y.den:Nat):Int):=by rw[Rat.add_def',Rat.divInt_ofNat]
 have h:=num_le (x.num*y.den+y.num*x.den) (Nat.mul_pos x.den_pos y.den_pos);rw[←e'] at h;refine⟨Nat.le_trans h.1 ?_,Nat.le_trans h.2 ?_⟩
 ·have t:=Int.natAbs_add_le (x.num*y.den) (y.num*x.den)
  rw[Int.natAbs_mul,Int.natAbs_mul,Int.natAbs_natCast,Int.natAbs_natCast] at t;have t1:=Nat.mul_le_mul h1.n h2.d;have t2:=Nat.mul_le_mul h2.n h1.d;rw[←Nat.pow_add] at t1 t2;have t3:=w_mono (Nat.le_max_left (a+e) (b+d));have t4:=w_mono (Nat.le_max_right (a+e) (b+d));rw[Nat.pow_succ]
  omega
 ·rw[Nat.pow_add];exact Nat.mul_le_mul h1.d h2.d
theorem S2.sub {a b d e:Nat} {x y:Rat} (h1:S2 a d x) (h2:S2 b e y):S2 (max (a+e) (b+d)+1) (d+e) (x-y):=by
 rw[Rat.sub_eq_add_neg];exact h1.add h2.neg
theorem S2.inv {a d:Nat} {q:Rat} (h:S2 a d q):S2 d a q⁻¹:=by
 refine⟨?_,?_⟩
 ·rw[Rat.num_inv,Int.natAbs_mul,Int.natAbs_natCast]
  have:q.num.sign.natAbs≤1:=by rw[Int.natAbs_sign];split<;>omega
  have h3:=Nat.mul_le_mul_right q.den this;have:=h.d
  omega
 ·rw[Rat.den_inv]
  split
  ·exact w_pos a
  ·exact h.n
theorem S2.div {a b d e:Nat} {x y:Rat} (h1:S2 a d x) (h2:S2 b e y):S2 (a+e) (d+b) (x / y):=by
 rw[Rat.div_def];exact h1.mul h2.inv
def zA (a:Nat):Nat→Nat×Nat×Nat×Nat
 | 0=>(a,0,0,0)
 | t+1=>(2*(zA a t).1+2*(zA a t).2.1+1+(zA a t).2.2.2,4*(zA a t).2.1+(zA a t).2.2.1,(zA a t).1,(zA a t).2.1)
theorem zA_last {a:Nat}:∀ {t:Nat},(zA a t).2.2.1≤(zA a t).1∧(zA a t).2.2.2≤(zA a t).2.1
 | 0=>⟨Nat.zero_le _,Nat.le_refl _⟩
 | t+1=>⟨by show (zA a t).1≤2*(zA a t).1+_+_+_;omega,by show (zA a t).2.1≤4*(zA a t).2.1+_;omega⟩
theorem zA_step {a t:Nat}:(zA a t).1≤(zA a (t+1)).1∧(zA a t).2.1≤(zA a (t+1)).2.1:=zA_last (t:=t+1)
theorem zA_mono {a:Nat}:∀ {t u:Nat},t≤u→(zA a t).1≤(zA a u).1∧(zA a t).2.1≤(zA a u).2.1
 | t,u,h=>by
  induction u with
  | zero=>
   obtain rfl:t=0:=by omega
   exact⟨Nat.le_refl _,Nat.le_refl _⟩
  | succ u ih=>
   by_cases e:t=u+1
   ·subst e;exact⟨Nat.le_refl _,Nat.le_refl _⟩
   ·have h1:=ih (by omega)
    have h2:=zA_step (a:=a) (t:=u);exact⟨Nat.le_trans h1.1 h2.1,Nat.le_trans h1.2 h2.2⟩
structure ZI (a n:Nat) (s:GS) (l:Rat):Prop where
 e:∀ i c,S2 (zA a (min s.p.length (n-1))).1 (zA a (min s.p.length (n-1))).2.1 (el s.M i c)
 o:s.p.length<n→S2 (zA a s.p.length).2.2.1 (zA a s.p.length).2.2.2 l
 m:s.p.length=n→0<n→S2 (zA a (n-1)).1 (zA a (n-1)).2.1 l
theorem bcls_size {M:List (List Rat)} {a d a' d' c t:Nat} {l:Rat} (hr:rct k M) (hn:M.length=n) (ht:t<n) (h:∀ i j,S2 a d (el M i j)) (hl:S2 a' d' l) {m:Nat} (hm:m≤n) (i j:Nat) :
  S2 (2*a+2*d+1+d') (4*d+a') (el (bcls M c l t m) i j):=by
 rw[el_bcls hr (by omega) (by omega)]
 split
 ·split
  ·exact (h i j).mono (by omega) (by omega)
  ·split
   ·exact S2.zero
   ·exact ((((h t c).mul (h i j)).sub ((h i c).mul (h t j))).div hl).mono (by omega) (by omega)
 ·exact (h i j).mono (by omega) (by omega)
theorem bcol_size {a j:Nat} {s:GS} {l:Rat} (F:EF n k s.M s.p j) (Z:ZI a n s l):ZI a n (bcol j s l).1 (bcol j s l).2:=by
 have hle:=gat_le (j:=j) (s:=s) (by rw[F.len];exact F.ple)
 by_cases hg:gat j s=s.M.length
 ·have e:bcol j s l=(s,l):=by unfold bcol;rw[if_pos hg]
  rw[e];exact Z
 ·have ha:gat j s<s.M.length:=by omega
  have hn:=F.len;have hge:=gat_ge (j:=j) (s:=s);have ht:s.p.length<n:=by omega
  have e:bcol j s l=(⟨bcls (gm1 j s) j l s.p.length s.M.length,s.p++[j],gf1 j s⟩,el (gm1 j s) s.p.length j):=by unfold bcol;rw[if_neg hg]
  have r1:=gm1_rct F.rect ha;have l1:(gm1 j s).length=n:=gm1_len.trans hn;have hm:min s.p.length (n-1)=s.p.length:=by omega
  have h1:∀ i c,S2 (zA a s.p.length).1 (zA a s.p.length).2.1 (el (gm1 j s) i c):=fun i c=>by
   have:=Z.e;rw[hm] at this;rw[el_gm1 ha]
   split
   ·exact this _ _
   ·split<;>exact this _ _
  have hp:(s.p++[j]).length=s.p.length+1:=List.length_append;rw[e,hn];refine⟨fun i c=>?_,fun h=>?_,fun h h0=>?_⟩
  ·show S2 (zA a (min (s.p++[j]).length (n-1))).1 (zA a (min (s.p++[j]).length (n-1))).2.1 (el (bcls (gm1 j s) j l s.p.length n) i c)
   rw[hp]
   by_cases hs:s.p.length+1<n
   ·rw[show min (s.p.length+1) (n-1)=s.p.length+1 by omega]
    exact bcls_size r1 l1 ht h1 (Z.o ht) (Nat.le_refl n) i c
   ·rw[show min (s.p.length+1) (n-1)=s.p.length by omega]
    by_cases hi:i<n
    ·rw[el_bcls r1 (by omega) (by omega),if_neg (by omega)];exact h1 i c
    ·have:el (bcls (gm1 j s) j l s.p.length n) i c=0:=by
      have h2:(bcls (gm1 j s) j l s.p.length n)[i]?=none:=List.getElem?_eq_none (by rw[bcls_len,l1];omega)
      unfold el;rw[List.getD_eq_getElem?_getD,List.getD_eq_getElem?_getD,h2]
      rfl
     rw[this];exact S2.zero
  ·show S2 (zA a (s.p++[j]).length).2.2.1 (zA a (s.p++[j]).length).2.2.2 _
   rw[hp];exact h1 _ _
  ·have h:(s.p++[j]).length=n:=h
   rw[hp] at h;rw[show n-1=s.p.length by omega]
   exact h1 _ _
theorem brun_size {a:Nat}:∀ {c j:Nat} {s:GS} {l:Rat},EF n k s.M s.p j→l≠0→ZI a n s l→ZI a n (brun c j s l).1 (brun c j s l).2
 | 0,_,_,_,_,_,Z=>Z
 | c+1,j,s,l,F,hl,Z=>brun_size (c:=c) (bcol_ef F hl).1 (bcol_ef F hl).2.1 (bcol_size F Z)
theorem ZI.all {a:Nat} {s:GS} {l:Rat} (Z:ZI a n s l) (hp:s.p.length≤n) (h0:0<n) :
  (∀ i c,S2 (zA a (n-1)).1 (zA a (n-1)).2.1 (el s.M i c))∧S2 (zA a (n-1)).1 (zA a (n-1)).2.1 l:=by
 refine⟨fun i c=>(Z.e i c).mono (zA_mono (by omega)).1 (zA_mono (by omega)).2,?_⟩
 by_cases h:s.p.length<n
 ·have h1:=zA_last (a:=a) (t:=s.p.length)
  have h2:=zA_mono (a:=a) (t:=s.p.length) (u:=n-1) (by omega)
  exact (Z.o h).mono (by omega) (by omega)
 ·exact Z.m (by omega) h0
def sz2 (a d ta td:Nat):Nat→Nat×Nat
 | 0=>(2*a,2*d)
 | m+1=>(max ((sz2 a d ta td m).1+(d+td)) (a+ta+(sz2 a d ta td m).2)+1,(sz2 a d ta td m).2+(d+td))
def tz (a d:Nat):Nat→Nat×Nat
 | 0=>(0,0)
 | m+1=>(max ((sz2 a d (tz a d m).1 (tz a d m).2 m).1+d) (tz a d m).1,max ((sz2 a d (tz a d m).1 (tz a d m).2 m).2+a) (tz a d m).2)
theorem sub_size {a d ta td:Nat} {x:Rat} {f g:Nat→Rat} (hx:S2 (2*a) (2*d) x) (hf:∀ m,S2 a d (f m)) (hg:∀ m,S2 ta td (g m)):∀ {m:Nat},S2 (sz2 a d ta td m).1 (sz2 a d ta td m).2 (x-sm (fun i=>f i*g i) m)
 | 0=>by
  show S2 (2*a) (2*d) (x-0)
  rw[Rat.sub_eq_add_neg,Rat.neg_zero,Rat.add_zero];exact hx
 | m+1=>by
  have h:=(sub_size hx hf hg (m:=m)).sub ((hf m).mul (hg m));have e:x-sm (fun i=>f i*g i) (m+1)=x-sm (fun i=>f i*g i) m-f m*g m:=by
   show x-(sm _ m+_)=_
   generalize sm (fun i=>f i*g i) m=u
   grind
  rw[e];exact h
theorem tmf_size {R:List (List Rat)} {p:List Nat} {l:Rat} {c a d:Nat} (hR:∀ i j,S2 a d (el R i j)) (hl:S2 a d l):∀ {m i:Nat},S2 (tz a d m).1 (tz a d m).2 (tmf R p l c m i)
 | 0,i=>S2.zero
 | m+1,i=>by
  show S2 _ _ (if i+(m+1)=p.length then _ else tmf R p l c m i)
  split
  ·have h:=(sub_size (x:=l*el R i c) (f:=fun q=>el R i (p.getD (i+1+q) 0)) (g:=fun q=>tmf R p l c m (i+1+q)) ((hl.mul (hR i c)).mono (by omega) (by omega)) (fun q=>hR _ _) (fun q=>tmf_size hR hl (m:=m)) (m:=m)).div (hR i (p.getD i 0))
   exact h.mono (Nat.le_max_left _ _) (Nat.le_max_left _ _)
  ·exact (tmf_size hR hl (m:=m) (i:=i)).mono (Nat.le_max_right _ _) (Nat.le_max_right _ _)
end GE
set_option linter.unusedVariables false
namespace GE
theorem den_times (q:Rat):(q.den:Rat)*q=q.num:=by
 have h:=Rat.num_divInt_den q;have h2:(q.den:Rat)≠0:=by have:=q.den_nz;simpa using this
 rw[Rat.divInt_eq_div] at h;have h3:((q.den:Int):Rat)=(q.den:Rat):=rfl;rw[h3] at h;generalize (q.den:Rat)=d at *;generalize (q.num:Rat)=n at *
 grind
theorem int_of {q:Rat} (h:q.den=1):q=(q.num:Rat):=by
 have:=den_times q;rw[h] at this;rw[←this];exact (Rat.one_mul q).symm
theorem int_mul {x y:Rat} (hx:x.den=1) (hy:y.den=1):(x*y).den=1:=by
 rw[int_of hx,int_of hy,←Rat.intCast_mul];rfl
def wsc:Rat→List Rat→Rat
 | s,[]=>s
 | s,x::l=>wsc (if x.den=1 then s else s*((s*x).den:Rat)) l
structure Pz (s:Rat):Prop where
 d:s.den=1
 p:0<s.num
theorem Pz.mul {x y:Rat} (h1:Pz x) (h2:Pz y):Pz (x*y):=by
 refine⟨int_mul h1.d h2.d,?_⟩
 rw[int_of h1.d,int_of h2.d,←Rat.intCast_mul];exact Int.mul_pos h1.p h2.p
theorem Pz.nat {n:Nat} (h:0<n):Pz (n:Rat):=⟨rfl,by show (0:Int)<(n:Int);omega⟩
theorem Pz.one:Pz 1:=⟨rfl,by decide⟩
theorem Pz.nz {s:Rat} (h:Pz s):s≠0:=by rintro rfl;exact absurd h.p (by decide)
theorem wsc_step {s:Rat} (x:Rat) (h:Pz s):Pz (if x.den=1 then s else s*((s*x).den:Rat)):=by
 split
 ·exact h
 ·exact h.mul (Pz.nat (s*x).den_pos)
theorem wsc_pz:∀ {l:List Rat} {s:Rat},Pz s→Pz (wsc s l)
 | [],s,h=>h
 | x::l,s,h=>wsc_pz (l:=l) (wsc_step x h)
theorem wsc_keep:∀ {l:List Rat} {s x:Rat},(s*x).den=1→(wsc s l*x).den=1
 | [],s,x,h=>h
 | y::l,s,x,h=>by
  refine wsc_keep (l:=l) ?_
  split
  ·exact h
  ·rw[show s*((s*y).den:Rat)*x=((s*y).den:Rat)*(s*x) by generalize ((s*y).den:Rat)=w;grind]
   exact int_mul rfl h
theorem wsc_whole:∀ {l:List Rat} {s x:Rat},Pz s→x∈l→(wsc s l*x).den=1
 | y::l,s,x,hs,h=>by
  rcases List.mem_cons.1 h with rfl | h
  ·refine wsc_keep (l:=l) ?_
   split
   ·rename_i h1;exact int_mul hs.d h1
   ·rw[show s*((s*x).den:Rat)*x=((s*x).den:Rat)*(s*x) by generalize ((s*x).den:Rat)=w;grind,den_times]
    rfl
  ·exact wsc_whole (l:=l) (wsc_step y hs) h
theorem den_le {s x:Rat} (h:s.den=1):(s*x).den≤x.den:=by
 rw[Rat.den_mul,h,Nat.one_mul];exact Nat.div_le_self _ _
theorem wsc_size {d:Nat}:∀ {l:List Rat} {s:Rat} {b:Nat},Pz s→s.num.natAbs≤4294967296^b→(∀ x∈l,x.den≤4294967296^d)→(wsc s l).num.natAbs≤4294967296^(b+d*l.length)
 | [],s,b,hs,h,_=>h
 | y::l,s,b,hs,h,hd=>by
  have ih:=wsc_size (l:=l) (b:=b+d) (wsc_step y hs) ?_ fun x hx=>hd x (List.mem_cons_of_mem _ hx)
  ·refine Nat.le_trans ih (w_mono ?_)
   rw[List.length_cons,Nat.mul_succ];omega
  ·split
   ·exact Nat.le_trans h (w_mono (by omega))
   ·have e:s*((s*y).den:Rat)=((s.num*((s*y).den:Int):Int):Rat):=by
     rw[Rat.intCast_mul,←int_of hs.d];rfl
    rw[e,Rat.num_intCast,Int.natAbs_mul,Int.natAbs_natCast,Nat.pow_add];exact Nat.mul_le_mul h (Nat.le_trans (den_le hs.d) (hd y List.mem_cons_self))
theorem wsc_s2 {l:List Rat} {a d m:Nat} (hl:l.length≤m) (h:∀ x∈l,x.num.natAbs≤4294967296^a∧x.den≤4294967296^d) :
  S2 (d*m) 0 (wsc 1 l)∧∀ x∈l,S2 (d*m+a) 0 (wsc 1 l*x):=by
 have h1:=wsc_size (d:=d) (l:=l) (s:=1) (b:=0) Pz.one (Nat.le_refl 1) fun x hx=>(h x hx).2
 have h2:=wsc_pz (l:=l) Pz.one;have h3:S2 (d*m) 0 (wsc 1 l):=⟨Nat.le_trans h1 (w_mono (by rw[Nat.zero_add];exact Nat.mul_le_mul_left d hl)),by rw[h2.d];exact Nat.le_refl 1⟩
 refine⟨h3,fun x hx=>⟨?_,by rw[wsc_whole Pz.one hx];exact Nat.le_refl 1⟩⟩
 have h4:=(h3.mul (⟨(h x hx).1,(h x hx).2⟩:S2 a d x)).n;exact h4
def rsc (M:List (List Rat)) (i:Nat):Rat:=wsc 1 (M.getD i [])
def wh (M:List (List Rat)):List (List Rat):=M.map fun r=>r.map fun x=>wsc 1 r*x
theorem wh_len {M:List (List Rat)}:(wh M).length=M.length:=List.length_map _
theorem wh_rct {k:Nat} {M:List (List Rat)} (h:rct k M):rct k (wh M):=by
 intro r hr;obtain⟨s,hs,rfl⟩:=List.mem_map.1 hr;rw[List.length_map];exact h s hs
theorem el_wh {M:List (List Rat)} {i j:Nat} (hi:i<M.length):el (wh M) i j=el M i j*rsc M i:=by
 unfold el wh rsc;simp only[List.getD_eq_getElem?_getD,List.getElem?_map,List.getElem?_eq_getElem hi,Option.map_some,Option.getD_some]
 cases M[i][j]? with
 | none=>exact (Rat.zero_mul _).symm
 | some x=>exact Rat.mul_comm _ _
theorem rsc_nz {M:List (List Rat)} {i:Nat}:rsc M i≠0:=(wsc_pz Pz.one).nz
theorem ns_wh {n k:Nat} {M:List (List Rat)} (hn:M.length=n) {x:Nat→Rat}:NS n k (wh M) x↔NS n k M x:=by
 have e:∀ i<n,dt k (wh M) x i=dt k M x i*rsc M i:=fun i hi=>dt_mul fun j=>el_wh (by omega)
 constructor
 ·intro h i hi
  have h1:=h i hi;have h2:=rsc_nz (M:=M) (i:=i);rw[e i hi] at h1;generalize dt k M x i=u at h1 ⊢
  grind
 ·intro h i hi
  rw[e i hi,h i hi,Rat.zero_mul]
theorem elim_red {n k:Nat} {M:List (List Rat)} (hn:M.length=n) (hr:rct k M) {f:Rat} {S:GS} {l:Rat} (h:brun k 0 ⟨wh M,[],f⟩ 1=(S,l)) :
  EF n k S.M S.p k∧l≠0∧S.p=(red k M).p∧∀ j<k,j∉S.p→∀ s (hs:s<S.p.length),el (red k M).M s j=tmf S.M S.p l j S.p.length s / l:=by
 have F0:=ef_start (n:=n) (k:=k) (M:=wh M) (wh_len.trans hn) (wh_rct hr);have h1:=brun_ef (c:=k) (s:=⟨wh M,[],f⟩) (l:=1) F0 (by decide)
 rw[h,Nat.zero_add] at h1;have R:=red_rf hn hr;have h2:=ef_red h1.1 R.1 (fun x=>(h1.2.2 x).trans ((ns_wh hn).trans (R.2 x).symm)) h1.2.1
 exact⟨h1.1,h1.2.1,h2.1,h2.2⟩
end GE
set_option linter.unusedVariables false
namespace GE
variable {n k:Nat}
def rdP (n k:Nat) (S:GS) (l:Rat):List (List Rat):=
 mk n k fun i j=>if j∈S.p then (if i<S.p.length∧S.p.getD i 0=j then 1 else 0) else if i<S.p.length then tmf S.M S.p l j S.p.length i / l else 0
theorem rdP_eq {M:List (List Rat)} (hn:M.length=n) (hr:rct k M) {f:Rat} {S:GS} {l:Rat} (h:brun k 0 ⟨wh M,[],f⟩ 1=(S,l)):rdP n k S l=(red k M).M:=by
 obtain⟨E,hl,hp,he⟩:=elim_red hn hr h;have R:=(red_rf hn hr).1;rw[←hp] at R;refine ext_el mk_len R.len mk_rct R.rect fun i hi j hj=>?_
 unfold rdP;rw[el_mk hi hj]
 by_cases hjp:j∈S.p
 ·rw[if_pos hjp]
  obtain⟨t,ht,rfl⟩:=List.getElem_of_mem hjp
  by_cases h1:i<S.p.length∧S.p.getD i 0=S.p[t]
  ·rw[if_pos h1]
   obtain⟨h2,e⟩:=h1;rw[List.getD_eq_getElem?_getD,List.getElem?_eq_getElem h2] at e
   have e:S.p[i]=S.p[t]:=e;rw[←e];exact (R.one i h2).symm
  ·rw[if_neg h1]
   refine (R.off t ht i hi fun e=>h1 ?_).symm
   subst e;exact⟨ht,by rw[List.getD_eq_getElem?_getD,List.getElem?_eq_getElem ht];rfl⟩
 ·rw[if_neg hjp]
  split
  ·rename_i h1;exact (he j hj hjp i h1).symm
  ·rename_i h1;exact (R.low i (by omega) hi j hj).symm
end GE
namespace Go.Proofs.YtfnkpfbobdmieaaGreat
open Go.RowKit RQ GE
set_option linter.unusedVariables false
theorem noLof {xs:List Value} (h:xs.all (fun v=>match v with | .int .u32 _=>false | _=>true)=true):NoL xs.toArray:=by
 refine NoLl.arr fun v hv z e=>?_
 have:=List.all_eq_true.1 h v hv;rw[e] at this
 cases this
def rwV (x:Gw):Bool×List Nat×List Nat:=(x.b,x.x.x,x.y.x)
def qV (q:Rat):Bool×List Nat×List Nat:=(ng q.num,limbs q.num.natAbs,dn q)
def rwI (rs:List GRd) (x:Gw):Prop:=(x.x.A,x.x.n,x.x.c,x.x.x)∈rs∧(x.y.A,x.y.n,x.y.c,x.y.x)∈rs
theorem rwI.in_ {rs:List GRd} {x:Gw} (h:rwI rs x) (w:World) (bs:List GBk):rwC.In w bs rs x:=⟨trivial,.inl h.1,.inl h.2⟩
theorem rwI.mono {rs rs':List GRd} {x:Gw} (h:rwI rs x) (hr:∀ p∈rs,p∈rs'):rwI rs' x:=⟨hr _ h.1,hr _ h.2⟩
structure RowI (bs:List GBk) (rs:List GRd) (s:Sl Gw):Prop where
 cap:s.L.length≤s.c
 el:∀ x∈s.L,rwI rs x
 mem:s.L=[]∨∃ (g:Nat) (cur:Array Value) (t:Nat),s.A=some ⟨g,0,none⟩∧(g,cur,t)∈bs∧∀ (j:Nat) v,(rwC.all s.L)[j]?=some v→cur[j]?=some v
section
variable {bs bs':List GBk} {rs rs':List GRd} {s:Sl Gw} {w W W':World}
theorem RowI.mono (h:RowI bs rs s) (hb:∀ p∈bs,p∈bs') (hr:∀ p∈rs,p∈rs'):RowI bs' rs' s:=by
 refine⟨h.cap,fun x hx=>(h.el x hx).mono hr,?_⟩
 rcases h.mem with h0 | ⟨g,cur,t,h1,h2,h3⟩
 ·exact .inl h0
 ·exact .inr ⟨g,cur,t,h1,hb _ h2,h3⟩
theorem RowI.in_ (h:RowI bs rs s) (w:World):(slC rwC).In w bs rs s:=by
 refine⟨⟨rfl,?_,fun x hx=>(h.el x hx).in_ w bs⟩,h.cap⟩
 rcases h.mem with h0 | ⟨g,cur,t,h1,h2,h3⟩
 ·exact .inl (by rw[h0];rfl)
 ·exact .inr (.inr ⟨g,cur,t,h1,h2,h3⟩)
theorem RowI.nil_ (bs:List GBk) (rs:List GRd):RowI bs rs ⟨none,0,[]⟩:=⟨Nat.le_refl _,fun x hx=>(by cases hx),Or.inl rfl⟩
theorem St.join {w W W':World} {bs bs':List GBk} {rs rs':List GRd} (h:St w W bs rs) (h':St W W' bs' rs'):St w W' (bs++bs') (rs++rs'):=by
 refine⟨h.bel.trans (h'.bel.mono h.bel.size),fun p hp=>?_,List.pairwise_append.2 ⟨h.nd,h'.nd,fun p hp q hq=>?_⟩,fun r hr=>?_⟩
 ·rcases List.mem_append.1 hp with hp | hp
  ·obtain⟨q1,q2,q3⟩:=h.bk p hp
   exact⟨q1.bel h'.bel,q2,q3⟩
  ·obtain⟨q1,q2,q3⟩:=h'.bk p hp
   exact⟨q1,q2,Nat.le_trans h.bel.size q3⟩
 ·have a:=(h.bk p hp).1.lt
  have b:=(h'.bk q hq).2.2
  omega
 ·rcases List.mem_append.1 hr with hr | hr
  ·exact (h.rd r hr).below h'.bel
  ·exact h'.rd r hr
theorem Gro.joinr {α:Type} {C:Cod α} {e:Nat} {v:Value} {L:List α} (h:Gro C w W bs rs e v L) (S:St W W' bs' rs'):Gro C w W' (bs++bs') (rs++rs') e v L:=by
 obtain⟨ob,h1,h2⟩:=h.1.open_;refine⟨Apd.close h1 ?_,fun x hx=>C.mono (h.2 x hx) (fun p hp=>List.mem_append_left _ hp) (fun p hp=>List.mem_append_left _ hp)⟩
 have h3:=h2.join S;refine h3.prm ?_
 rw[List.append_assoc,List.append_assoc];exact List.Perm.append_left bs List.perm_append_comm
theorem Gro.drow {e:Nat} {v:Value} {L:List Gw} (h:Gro rwC w W bs rs e v L) (hx:∀ x∈L,rwI rs x):∃ A c bs',v=.slice A L.length c∧St w W bs' rs∧(∀ p∈bs,p∈bs')∧RowI bs' rs ⟨A,c,L⟩:=by
 obtain⟨⟨h1,h2,⟨rfl,h3,S⟩ | ⟨g,cap,cur,rfl,h3,h4,h5,h6,S⟩⟩,_⟩:=h
 ·have:L=[]:=List.length_eq_zero_iff.1 h3
  subst this;exact⟨none,0,bs,rfl,S,fun _ h=>h,.nil_ _ _⟩
 ·refine⟨_,_,_,rfl,S,fun _ h=>List.mem_cons_of_mem _ h,h3,hx,.inr ⟨g,cur,e,rfl,List.mem_cons_self,fun j u hu=>?_⟩⟩
  rw[←h6,List.getElem?_take] at hu
  split at hu
  ·simpa using hu
  ·cases hu
end
def MatV (L:List (Sl Gw)) (M:List (List Rat)):Prop:=L.map (fun s=>s.L.map rwV)=M.map (fun r=>r.map qV)
theorem MatV.len {L:List (Sl Gw)} {M:List (List Rat)} (h:MatV L M):L.length=M.length:=by have:=congrArg List.length h;simpa using this
theorem MatV.snoc {L:List (Sl Gw)} {M:List (List Rat)} {s:Sl Gw} {r:List Rat} (h:MatV L M) (hs:s.L.map rwV=r.map qV):MatV (L++[s]) (M++[r]):=by
 unfold MatV at *;rw[List.map_append,List.map_append,h]
 simp[hs]
def Nl0:Nl:=⟨none,0,0,[]⟩
def Gw0:Gw:=⟨false,Nl0,Nl0⟩
section
variable {α:Type} {C:Cod α} {w W W':World} {g t:Nat} {L:List α} {bs:List GBk} {rs:List GRd}
end
theorem bel_cell {w W:World} (h:Below w.heap.size w W) {a:Addr} {v:Value} (hc:w.cell? a=some v):W.cell? a=some v:=by
 have hlt:a.block<w.heap.size:=by
  rcases Nat.lt_or_ge a.block w.heap.size with h1 | h1
  ·exact h1
  ·rw[World.cell?,Array.getElem?_eq_none h1] at hc
   cases hc
 rw[World.cell?_of_block (h.block a.block hlt)];exact hc
section
variable {w W:World} {A:Option Addr} {n:Nat}
theorem row_get {L:List Gw} (h:LR rwC W A n L) {i:Nat} (hi:i<n):∃ b o x,A=some ⟨b,o,none⟩∧L[i]?=some x∧x∈L∧W.cell? ⟨b,o+i*3,none⟩=some (.bool x.b)∧W.cell? ⟨b,o+i*3+1,none⟩=some (.slice x.x.A x.x.n x.x.c)∧W.cell? ⟨b,o+i*3+2,none⟩=some (.slice x.y.A x.y.n x.y.c)∧Rd W x.x.A x.x.n x.x.c x.x.x∧Rd W x.y.A x.y.n x.y.c x.y.x:=by
 obtain⟨b,o,x,h1,h2,h3,h4,h5⟩:=h.get hi;have q0:=h5 0 _ rfl;have q1:=h5 1 _ rfl;have q2:=h5 2 _ rfl;rw[show rwC.sz=3 from rfl] at q0 q1 q2
 rw[Nat.add_zero] at q0;exact⟨b,o,x,h1,h2,h3,q0,q1,q2,h4.2.1,h4.2.2⟩
theorem mat_get {L:List (Sl Gw)} (h:LR (slC rwC) W A n L) {i:Nat} (hi:i<n):∃ b o s,A=some ⟨b,o,none⟩∧L[i]?=some s∧s∈L∧W.cell? ⟨b,o+i,none⟩=some (.slice s.A s.L.length s.c)∧LR rwC W s.A s.L.length s.L:=by
 obtain⟨b,o,s,h1,h2,h3,h4,h5⟩:=h.get hi;have q0:=h5 0 _ rfl;rw[show (slC rwC).sz=1 from rfl,Nat.mul_one,Nat.add_zero] at q0
 exact⟨b,o,s,h1,h2,h3,q0,h4.1⟩
theorem map_at {α β γ:Type} {f:α→γ} {g:β→γ} {L:List α} {M:List β} (h:L.map f=M.map g) {i:Nat} {x:α} (hx:L[i]?=some x):∃ q,M[i]?=some q∧q∈M∧f x=g q:=by
 have e:=congrArg (fun l=>l[i]?) h
 simp only[List.getElem?_map,hx,Option.map_some] at e
 cases hq:M[i]? with
 | none=>rw[hq] at e;cases e
 | some q=>rw[hq] at e;injection e with e;exact⟨q,rfl,List.mem_of_getElem? hq,e⟩
theorem rw_rr {x:Gw} {q:Rat} (h:rwV x=qV q) (R1:Rd W x.x.A x.x.n x.x.c x.x.x) (R2:Rd W x.y.A x.y.n x.y.c x.y.x):x.b=ng q.num∧RR W x.x.A x.x.n x.x.c x.y.A x.y.n x.y.c q:=by
 unfold rwV qV at h;simp only[Prod.mk.injEq] at h;obtain⟨h1,h2,h3⟩:=h;rw[h2] at R1;rw[h3] at R2;exact⟨h1,⟨R1,R2⟩⟩
end
section
variable {P:Program} {ops:Array Oper} {Q:Exit→Act→World→Prop} {S:World→Prop}
theorem Wk.t {L:Array Bool} {a:Act} {w:World} {i:Nat} {oi:Oper} {v:Value} (dst:Option Nat) (hi:ops[i]?=some oi) (hd:oi.dst=dst:=by rfl) (hc:takeOk ops [] L i oi=true:=by kernel_rfl) (hw:Region.wanted oi (yielded ops a.tmps)=true:=by kernel_rfl)
  (hQ:∀ c a w,Q (.panic c) (Act.put a dst v) w→Q (.panic c) a w:=by exact fun _ _ _ h=>h) (hy:∀ w,S w→(execOp a.eval oi).run P w=.ok (.value v) w) (hS:S w)
  (h:Wk P ops Q S (L.setIfInBounds i true) (a.put dst v) w):Wk P ops Q S L a w:=by
 simp only[takeOk,Bool.and_eq_true,Bool.not_eq_true'] at hc;obtain⟨⟨⟨⟨c1,c2⟩,c3⟩,_⟩,_⟩:=hc;subst hd;exact Wk.take hi c1 c2 (by simpa using c3) hQ (.inl ⟨hw,hy⟩) hS h
theorem Wk.g {i:Nat} {o:Oper} {L:Array Bool} {a:Act} {w:World} (ho:ops[i]?=some o) (hr:(Region.ready .any ops L==[i])=true) (hw:Region.wanted o (yielded ops a.tmps)=true)
  (h:∀ K':Act→World→Prop,Shut (∀ a w,S w→Wk P ops Q S (L.setIfInBounds i true) a w→K' a w)→Oper.wp P o a w K' Q):Wk P ops Q S L a w:=
 Wk.one (by simpa using hr) ho hw fun K' hK=>h K' (fun a w hS hW=>hK.out a w hS fun _=>hW)
theorem oper_call {P:Program} {o:Oper} {f:FuncId} {args:Array Value} {dst:Option Nat} {a:Act} {w:World} {K':Act→World→Prop} {Q:Exit→Act→World→Prop} (hd:o.dst=dst) (hx:(execOp a.eval o).run P w=.ok (.enter f args) w) (h:Calls P f args w fun e w'=>∃ v,e=.returned v∧K' (a.put dst v) w'):Oper.wp P o a w K' Q:=by
 unfold Oper.wp;rw[hx];refine Calls.mono h ?_
 rintro e w' ⟨v,rfl,hk⟩;subst hd;exact hk
end
theorem faddQ (q r:Rat) (A:Option Addr) (n c:Nat) (D:Option Addr) (m d:Nat) (A':Option Addr) (n' c':Nat) (D':Option Addr) (m' d':Nat) (W:World) (X:RR W A n c D m d q) (Y:RR W A' n' c' D' m' d' r) (hs:Rs q 9900000) (hs':Rs r 9900000):Calls Tryz.prog 71 #[.agg #[.bool (ng q.num),.slice A n c,.slice D m d],.agg #[.bool (ng r.num),.slice A' n' c',.slice D' m' d']] W (RetR (q+r) W):=by
 have l:=X.lens hs;have l':=Y.lens hs';have:=Fadd_any (ng q.num) A n c _ D m d _ (ng r.num) A' n' c' _ D' m' d' _ W X.n X.d Y.n Y.d l.1 l.2 l'.1 l'.2
 rwa [rv_z,rv_z] at this
theorem fmulQ (q r:Rat) (A:Option Addr) (n c:Nat) (D:Option Addr) (m d:Nat) (A':Option Addr) (n' c':Nat) (D':Option Addr) (m' d':Nat) (W:World) (X:RR W A n c D m d q) (Y:RR W A' n' c' D' m' d' r) (hs:Rs q 9900000) (hs':Rs r 9900000):Calls Tryz.prog 72 #[.agg #[.bool (ng q.num),.slice A n c,.slice D m d],.agg #[.bool (ng r.num),.slice A' n' c',.slice D' m' d']] W (RetR (q*r) W):=by
 have l:=X.lens hs;have l':=Y.lens hs';have:=Fmul_any (ng q.num) A n c _ D m d _ (ng r.num) A' n' c' _ D' m' d' _ W X.n X.d Y.n Y.d l.1 l.2 l'.1 l'.2
 rwa [rv_z,rv_z] at this
section
variable {P:Program} {ops:Array Oper} {Q:Exit→Act→World→Prop} {S:World→Prop}
theorem Wk.two {i j:Nat} {oi oj:Oper} {L:Array Bool} {a:Act} {w:World} (hi:ops[i]?=some oi) (hj:ops[j]?=some oj) (hr:(((Region.ready .any ops L==[i,j])&&oi.guard.isNone)&&oj.guard.isNone)=true)
  (h1:∀ K':Act→World→Prop,Shut (∀ a w,S w→Wk P ops Q S (L.setIfInBounds i true) a w→K' a w)→Oper.wp P oi a w K' Q)
  (h2:∀ K':Act→World→Prop,Shut (∀ a w,S w→Wk P ops Q S (L.setIfInBounds j true) a w→K' a w)→Oper.wp P oj a w K' Q):Wk P ops Q S L a w:=by
 simp only[Bool.and_eq_true,beq_iff_eq] at hr;obtain⟨⟨r,gi⟩,gj⟩:=hr;refine Wk.all ⟨i,by rw[r];simp⟩ fun k hk=>?_
 rw[r] at hk
 rcases List.mem_cons.1 hk with rfl | hk
 ·exact wpOp_step hi (fun K' hK=>by rw[if_pos (wanted_none gi)];exact h1 K' (fun a w hS hW=>hK a w ⟨hS,hW⟩))
 ·have:=List.mem_singleton.1 hk
  subst this;exact wpOp_step hj (fun K' hK=>by rw[if_pos (wanted_none gj)];exact h2 K' (fun a w hS hW=>hK a w ⟨hS,hW⟩))
end
theorem St_put3 {w W:World} {bs:List GBk} {rs:List GRd} {p g t:Nat} {y0:Gw} (h:St w W bs rs) (hk:bs[p]?=some (g,y0.vs,t)) (y:Gw):St w (((W.setCell ⟨g,0,none⟩ (.bool y.b)).setCell ⟨g,1,none⟩ (.slice y.x.A y.x.n y.x.c)).setCell ⟨g,2,none⟩ (.slice y.y.A y.y.n y.y.c)) (bs.set p (g,y.vs,t)) rs:=by
 have hp:p<bs.length:=(List.getElem?_eq_some_iff.1 hk).1
 have h1:=h.set p 0 (.bool y.b) hk (fun _ e=>by cases e)
 have h2:=h1.set p 1 (.slice y.x.A y.x.n y.x.c) (List.getElem?_set_self hp) (fun _ e=>by cases e)
 have h3:=h2.set p 2 (.slice y.y.A y.y.n y.y.c) (List.getElem?_set_self (by rw[List.length_set];exact hp)) (fun _ e=>by cases e)
 rw[List.set_set,List.set_set] at h3;exact h3
theorem rwI.rr {w W:World} {bs:List GBk} {rs:List GRd} {y:Gw} {q:Rat} (h:rwI rs y) (S:St w W bs rs) (hv:rwV y=qV q):y.b=ng q.num∧RR W y.x.A y.x.n y.x.c y.y.A y.y.n y.y.c q:=rw_rr hv (S.rd _ h.1) (S.rd _ h.2)
end Go.Proofs.YtfnkpfbobdmieaaGreat
namespace Go.Proofs.YtfnkpfbobdmieaaGreat
open Go.RowKit RQ GE
set_option linter.unusedVariables false
theorem St.rebase {w w1 W:World} {bs:List GBk} {rs:List GRd} (h:Below w.heap.size w w1) (S:St w1 W bs rs):St w W bs rs:=
 ⟨h.trans (S.bel.mono h.size),fun p hp=>⟨(S.bk p hp).1,(S.bk p hp).2.1,Nat.le_trans h.size (S.bk p hp).2.2⟩,S.nd,S.rd⟩
section
variable {α:Type} {C:Cod α} {w W:World} {bs:List GBk} {rs:List GRd} {e:Nat} {v:Value} {L:List α}
theorem Gro.op {P:Program} {o:Oper} {a:Act} {K':Act→World→Prop} {Q:Exit→Act→World→Prop} (s x:Operand) (ty:TypeId)
  (ho:o.op=.call { callee:=.builtin .append,args:=#[s,x],argTypes:=#[ty,ty] })
  (z:Value) (bytes:Nat) (ht:P.underlying ty=some (.slice e)) (hi:(P.info? e).map (fun i=>(i.zero,i.size,i.bytes))=some (some z,C.sz,bytes))
  (hzs:z.cells.size=C.sz) (hzn:NoLl z.cells.toList) (hs:a.eval s=v) (h:Gro C w W bs rs e v L)
  (g:Nat) (y:α) {t:Nat} (hx:a.eval x=.slice (some ⟨g,0,none⟩) 1 1) (hc:Cb W g (C.cs y).toArray t) (hy:C.In w bs rs y) (hn:(L.length+1)*bytes≤140737488355328) (h63:L.length+1≤maxLen)
  (hk:∀ v' W',Gro C w W' bs rs e v' (L++[y])→K' (a.put o.dst v') W'):Oper.wp P o a W K' Q:=by
 obtain⟨i0,hi0,hzz⟩:=Option.map_eq_some_iff.1 hi;simp only[Prod.mk.injEq] at hzz;obtain⟨hz0,hz1,hz2⟩:=hzz;obtain⟨v',W',hr,hA⟩:=Apd.run (P:=P) ty o.type i0 z bytes ht hi0 hz0 hz1 hz2 hzs hzn h.1 ⟨g,0,none⟩ 1 1 (C.cs y) (by rw[C.len,Nat.one_mul]) (fun j u hu=>by
  have hadd:(⟨g,0,none⟩:Addr).add j=⟨g,j,none⟩:=by unfold Addr.add;split<;>simp_all
  rw[hadd];exact hc.cell (by rw[List.getElem?_toArray];exact hu)) (C.one y) (C.noL y) (by decide) h63 hn
 unfold Oper.wp execOp;simp only[ho,resolve,invoke,builtin,Sem.run_bind,Sem.run_pure,Result.andThen_ok,List.map_toArray,List.map_cons,List.map_nil,hs,hx,hr];refine hk v' W' ⟨?_,fun x hx=>?_⟩
 ·rw[all_app,all_one,List.length_append];exact hA
 ·rcases List.mem_append.1 hx with hx | hx
  ·exact h.2 x hx
  ·rw[List.mem_singleton.1 hx];exact hy
theorem Gro.unop (h:Gro C w W bs rs e v L):∃ ob,((C.all L).length=L.length*C.sz∧NoLl (C.all L)∧OB ob e C.sz v L.length (C.all L))∧St w W (bs++ob) rs:=h.1.open_
end
def RowO (M:List Rat) (w:World) (e:Ending) (w':World):Prop:=∃ A c L bs rs,e=.returned (.slice A L.length c)∧St w w' bs rs∧RowI bs rs ⟨A,c,L⟩∧L.map rwV=M.map qV
theorem RowI.lr {w W:World} {bs:List GBk} {rs:List GRd} {s:Sl Gw} (h:RowI bs rs s) (S:St w W bs rs):LR rwC W s.A s.L.length s.L:=(h.in_ w).1.lr S
theorem take_at {M:List Rat} {i:Nat} {q:Rat} (h:M[i]?=some q):M.take (i+1)=M.take i++[q]:=by
 rw[List.take_add_one,h];rfl
def RowG (M:List Rat) (w:World) (e:Ending) (w':World):Prop:=∃ v L rs,e=.returned v∧Gro rwC w w' [] rs 45 v L∧(∀ x∈L,rwI rs x)∧L.map rwV=M.map qV
theorem RowG.row {M:List Rat} {w:World} {e:Ending} {w':World} (h:RowG M w e w'):RowO M w e w':=by
 obtain⟨v,L,rs,rfl,G,hI,hV⟩:=h;obtain⟨A9,c9,bs9,hv,S9,_,hrow⟩:=G.drow hI;exact⟨A9,c9,L,bs9,rs,by rw[hv],S9,hrow,hV⟩
theorem takeG_any (M:List Rat) (L:List Rt) (A:Option Addr) (n c:Nat) (w:World) (h:Sr w A n c L) (hM:L.map (·.q)=M) (hs:∀ x∈L,Rk x.b x.n x.x x.m x.y x.q) (hn:n≤1000):Calls Tryz.prog 61 #[.slice A n c] w (RowG M w):=by
 have hML:M.length=n:=by have:=congrArg List.length hM;rw[List.length_map,h.len] at this;omega
 have hb:=Lib.hid hn;replace h:=Lib.hid h;replace hM:=Lib.hid hM;replace hs:=Lib.hid hs;have S:=Lib.hid (St.new w);replace hML:=Lib.hid hML;clear hn;go_enter Tryz.func61,Tryz.ntmps61;go_wp2
 go_loopw [3,4] (fun rv iv wr=>∃ (i:Nat) (rs:List GRd) (R:List Gw),i≤n∧iv=.int .i64 i∧Gro rwC w wr [] rs 45 rv R∧(∀ x∈R,rwI rs x)∧R.map rwV=(M.take i).map qV) (fun _ iv _=>n-(intOf iv).toNat)
 case atStart=>exact⟨0,[],[],Nat.zero_le _,rfl,Gro.nil_ rwC S.out _,fun s hs=>(by cases hs),rfl⟩
 case round=>
  clear S;obtain⟨i,rs,R,hin,rfl,GR,hR,hV⟩:=hrel
  by_cases hlt:i<n
  ·have g1:(i:Int)<(n:Int):=by omega
   have g2:(0:Int)≤(i:Int):=by omega
   have hih:=Lib.hid hlt;obtain⟨b,o,x,rfl,hx,hxm,e0,e1,e2⟩:=(h.out.bel GR.st.bel).get hlt;obtain⟨q,hqx⟩:∃ q,q=x.q:=⟨_,rfl⟩;have hq:M[i]?=some q:=by rw[←hM.out,List.getElem?_map,hx,hqx];rfl
   have X:=(h.out.bel GR.st.bel).rd x hxm;have hRl:Hid (R.length=i):=Lib.hid (by have:=congrArg List.length hV;rw[List.length_map,List.length_map,List.length_take] at this;have:=hML.out;omega)
   have hT:Hid (Calls Tryz.prog 42 #[.agg #[.bool x.b,.slice x.A x.n x.c,.slice x.D x.m x.d]] wr (RetR q wr)):=Lib.hid (by rw[hqx];exact takeF x.b x.A x.n x.c x.x x.D x.m x.d x.y x.q wr (X.at_ (hs.out x hxm)))
   have hV2:Hid (∀ y:Gw,rwV y=qV q→(R++[y]).map rwV=(M.take (i+1)).map qV):=Lib.hid fun y hy=>by
    rw[take_at hq,List.map_append,List.map_append,hV];simp only[List.map_cons,List.map_nil,hy]
   replace GR:=Lib.hid GR;replace hR:=Lib.hid hR;clear hlt hin hx hq hxm X hV hqx
   go_wp2_with fail
   refine hT.out.mono ?_
   rintro e w4 ⟨A3,m3,c3,D3,m4,c4,rfl,X,bb⟩;obtain⟨y,hy⟩:∃ y:Gw,y=⟨ng q.num,⟨A3,m3,c3,limbs q.num.natAbs⟩,⟨D3,m4,c4,dn q⟩⟩:=⟨_,rfl⟩;have hcs:rwC.cs y=[.bool (ng q.num),.slice A3 m3 c3,.slice D3 m4 c4]:=by rw[hy];rfl
   have hyI:Hid (rwI ((A3,m3,c3,limbs q.num.natAbs)::(D3,m4,c4,dn q)::rs) y):=Lib.hid (by rw[hy];exact⟨List.mem_cons_self,List.mem_cons_of_mem _ List.mem_cons_self⟩)
   have hyV:=Lib.hid (hV2.out y (by rw[hy];rfl))
   have GA:=Lib.hid ((((GR.out.call bb).read X.d).read X.n).alloc #[.bool (ng q.num),.slice A3 m3 c3,.slice D3 m4 c4] 45 (noL3 _ _ _ _ _ _ _));clear GR X bb hy hT hV2 e0 e1 e2
   go_wp2_with (at_builtin;refine Gro.wp rfl (.tmp 11) (.tmp 17) 23 rfl (.agg #[.bool false,.slice none 0 0,.slice none 0 0]) 56 Tryz.underlying23 (by kernel_rfl) rfl (fun v hv z e=>by simp[Value.cells] at hv;subst e;simp at hv) rfl GA.out w4.heap.size y rfl (by rw[hcs];exact (GA.out.st).cb 0 rfl) (hyI.out.in_ _ _) (by have:=hRl.out;have:=hih.out;have:=hb.out;omega) (by have:=hRl.out;have:=hih.out;have:=hb.out;unfold maxLen;omega) ?_)
   intro v' w5 G5;have hR6:Hid (∀ x∈R++[y],rwI ((A3,m3,c3,limbs q.num.natAbs)::(D3,m4,c4,dn q)::rs) x):=Lib.hid fun x hx=>by
    rcases List.mem_append.1 hx with hx | hx
    ·exact (hR.out x hx).mono (fun p hp=>List.mem_cons_of_mem _ (List.mem_cons_of_mem _ hp))
    ·rw[List.mem_singleton.1 hx];exact hyI.out
   have G6:=Lib.hid (Gro.sub G5 (fun x hx=>(hR6.out x hx).in_ _ _))
   clear G5 GA hR hyI hcs hRl;have hlt:=hih.out;have hbb:=hb.out;go_wp2
   go_roundw
   case rel=>exact⟨i+1,_,_,by omega,by go_num,G6.out,hR6.out,hyV.out⟩
   case measure=>simp[intOf];omega
  ·obtain rfl:n=i:=by omega
   rw[List.take_of_length_le (by rw[hML.out];exact Nat.le_refl _)] at hV
   have hres:=Lib.hid (show RowG M w (.returned _) wr from ⟨_,R,rs,rfl,GR,hR,hV⟩)
   clear GR hR hV hin hlt;go_wp2;go_ret;exact hres.out
theorem takeL_any (M:List Rat) (L:List Rt) (A:Option Addr) (n c:Nat) (w:World) (h:Sr w A n c L) (hM:L.map (·.q)=M) (hs:∀ x∈L,Rk x.b x.n x.x x.m x.y x.q) (hn:n≤1000):Calls Tryz.prog 61 #[.slice A n c] w (RowO M w):=(takeG_any M L A n c w h hM hs hn).mono fun e w' hG=>hG.row
end Go.Proofs.YtfnkpfbobdmieaaGreat
namespace Go.Proofs.YtfnkpfbobdmieaaGreat
open Go.RowKit RQ GE
set_option linter.unusedVariables false
theorem plusQ_at {a b:List Rat} {i:Nat} {p q:Rat} (ha:a[i]?=some p) (hb:b[i]?=some q):(plusQ a b)[i]?=some (p+q):=by
 unfold plusQ;rw[List.getElem?_zipWith,ha,hb]
theorem timesQ_at {a:List Rat} {c:Rat} {i:Nat} {p:Rat} (ha:a[i]?=some p):(timesQ a c)[i]?=some (p*c):=by
 unfold timesQ;rw[List.getElem?_map,ha];rfl
theorem timesR_any (M:List Rat) (c0:Rat) (L:List Gw) (A:Option Addr) (n c:Nat) (y0:Gw) (w:World) (h:LR rwC w A n L) (hM:L.map rwV=M.map qV) (hs:∀ q∈M,Rs q 9900000) (hn:n≤1000) (hy:rwV y0=qV c0) (R1:Rd w y0.x.A y0.x.n y0.x.c y0.x.x) (R2:Rd w y0.y.A y0.y.n y0.y.c y0.y.x) (hc:Rs c0 9900000):Calls Tryz.prog 83 #[.slice A n c,.agg #[.bool y0.b,.slice y0.x.A y0.x.n y0.x.c,.slice y0.y.A y0.y.n y0.y.c]] w (RowO (timesQ M c0) w):=by
 have hML:M.length=n:=by have:=congrArg List.length hM;rw[List.length_map,List.length_map,h.len] at this;omega
 have hTL:Hid ((timesQ M c0).length=n):=Lib.hid (by unfold timesQ;rw[List.length_map];exact hML)
 obtain⟨yb,Y⟩:=rw_rr hy R1 R2;have bx:Below w.heap.size w (w.alloc (.cells #[.bool y0.b,.slice y0.x.A y0.x.n y0.x.c,.slice y0.y.A y0.y.n y0.y.c] 45)):=(Below.refl _ _).alloc (Nat.le_refl _) _;have hB:=Lib.hid bx;have cb:=Cb.new w #[.bool y0.b,.slice y0.x.A y0.x.n y0.x.c,.slice y0.y.A y0.y.n y0.y.c] 45;have k0:=Lib.hid (cb.cell (i:=0) rfl);have k1:=Lib.hid (cb.cell (i:=1) rfl);have k2:=Lib.hid (cb.cell (i:=2) rfl)
 have h1:=Lib.hid (h.bel bx);have Y1:=Lib.hid (Y.below bx);have hb:=Lib.hid hn;replace hM:=Lib.hid hM;replace hs:=Lib.hid hs;replace hML:=Lib.hid hML;replace yb:=Lib.hid yb;replace hc:=Lib.hid hc;clear hn bx cb hy R1 R2 Y h;go_enter Tryz.func83,Tryz.ntmps83;go_wp2;obtain⟨w1,hw1⟩:∃ W,W=w.alloc (.cells #[.bool y0.b,.slice y0.x.A y0.x.n y0.x.c,.slice y0.y.A y0.y.n y0.y.c] 45):=⟨_,rfl⟩;obtain⟨g,hg⟩:∃ g,g=w.heap.size:=⟨_,rfl⟩
 rw[←hw1] at hB k0 k1 k2 h1 Y1 ⊢;rw[←hg] at k0 k1 k2 ⊢;clear hw1 hg;have S:=Lib.hid (St.new w1)
 go_loopw [5,6] (fun rv iv wr=>∃ (i:Nat) (rs:List GRd) (R:List Gw) (av:Value),av=rv∧i≤n∧iv=.int .i64 i∧Gro rwC w1 wr [] rs 45 av R∧(∀ x∈R,rwI rs x)∧R.map rwV=((timesQ M c0).take i).map qV) (fun _ iv _=>n-(intOf iv).toNat)
 case atStart=>exact⟨0,[],[],_,rfl,Nat.zero_le _,rfl,Gro.nil_ rwC S.out _,fun s hs=>(by cases hs),rfl⟩
 case round=>
  clear S;obtain⟨i,rs,R,av,hav,hin,rfl,GR,hR,hV⟩:=hrel;subst hav
  by_cases hlt:i<n
  ·have g1:(i:Int)<(n:Int):=by omega
   have g2:(0:Int)≤(i:Int):=by omega
   have hih:=Lib.hid hlt;obtain⟨b,o,x,rfl,hx,_,e0,e1,e2,R1,R2⟩:=row_get h1.out hlt;obtain⟨p,hp,hpm,hxq⟩:=map_at hM.out hx;obtain⟨xb,X⟩:=rw_rr hxq R1 R2;obtain⟨q,hq⟩:∃ q,q=p*c0:=⟨_,rfl⟩;have hRl:Hid (R.length=i):=Lib.hid (by have:=congrArg List.length hV;rw[List.length_map,List.length_map,List.length_take] at this;have:=hTL.out;omega)
   have hT:Hid (∀ W,Below w1.heap.size w1 W→Calls Tryz.prog 72 #[.agg #[.bool x.b,.slice x.x.A x.x.n x.x.c,.slice x.y.A x.y.n x.y.c],.agg #[.bool y0.b,.slice y0.x.A y0.x.n y0.x.c,.slice y0.y.A y0.y.n y0.y.c]] W (RetR q W)):=Lib.hid fun W hW=>by
    have:=fmulQ _ _ x.x.A x.x.n x.x.c x.y.A x.y.n x.y.c y0.x.A y0.x.n y0.x.c y0.y.A y0.y.n y0.y.c W (X.below hW) (Y1.out.below hW) (hs.out p hpm) hc.out;rw[←xb,←yb.out,←hq] at this;exact this
   have hV2:Hid (∀ y:Gw,rwV y=qV q→(R++[y]).map rwV=((timesQ M c0).take (i+1)).map qV):=Lib.hid fun y hy=>by
    rw[take_at (timesQ_at hp),←hq,List.map_append,List.map_append,hV];simp only[List.map_cons,List.map_nil,hy]
   replace GR:=Lib.hid GR;replace hR:=Lib.hid hR;replace e0:=Lib.hid e0;replace e1:=Lib.hid e1;replace e2:=Lib.hid e2;clear hlt hin hx hp hpm hxq R1 R2 xb X hV hq;go_upto_region 5 with fail
   obtain⟨ob,hOb,So⟩:=GR.out.unop;have hIn:=Lib.hid GR.out.2;replace hOb:=Lib.hid hOb;replace So:=Lib.hid So;clear GR;have hbase:=Lib.hid So.out;refine RW.begin (Z:=[]) (S:=(fun W=>Below w1.heap.size w1 W)) (by kernel_rfl) ?_ hbase.out ?_
   ·exact⟨by kernel_rfl,zis_nil,by decide,by decide,nol_nil,(fun _ _ h=>h.bel)⟩
   intro hzk;refine RW.t (i:=0) (v:=av) (some 13) at0 (hy:=fun _ _=>by kernel_rfl) (h:=?_)
   refine RW.t (i:=1) (v:=.slice (some ⟨b,o,none⟩) n c) (some 14) at1 (hy:=fun _ _=>by kernel_rfl) (h:=?_)
   refine RW.t (i:=2) (v:=.int .i64 i) (some 15) at2 (hy:=fun _ _=>by kernel_rfl) (h:=?_)
   refine RW.t (i:=3) (v:=.pointer (some ⟨b,o+i*3,none⟩)) (some 16) at3 (hy:=fun _ _=>by go_simp) (h:=?_)
   refine RW.t (i:=4) (v:=.agg #[.bool x.b,.slice x.x.A x.x.n x.x.c,.slice x.y.A x.y.n x.y.c]) (some 17) at4 (hy:=fun W hS=>by (have k0:=bel_cell hS e0.out;have k1:=bel_cell hS e1.out;have k2:=bel_cell hS e2.out;clear hS;go_simp)) (h:=?_)
   refine RW.t (i:=5) (v:=.agg #[.bool y0.b,.slice y0.x.A y0.x.n y0.x.c,.slice y0.y.A y0.y.n y0.y.c]) (some 18) at5 (hy:=fun W hS=>by (have k0:=bel_cell hS k0.out;have k1:=bel_cell hS k1.out;have k2:=bel_cell hS k2.out;clear hS;go_simp)) (h:=?_)
   refine RW.tail hzk.out (by kernel_rfl) ?_
   intro gs' w5 hgs' hS Sb;obtain rfl:=len0 hgs';simp only[mark,fill,Act.put,sZ0,sZ1,sZ2];have G5:Gro rwC w1 w5 [] rs 45 av R:=⟨Apd.close hOb.out Sb,hIn.out⟩;refine Wk.g (i:=6) at6 (by kernel_rfl) (by kernel_rfl) fun K' hK=>?_
   refine oper_call (f:=72) (args:=#[.agg #[.bool x.b,.slice x.x.A x.x.n x.x.c,.slice x.y.A x.y.n x.y.c],.agg #[.bool y0.b,.slice y0.x.A y0.x.n y0.x.c,.slice y0.y.A y0.y.n y0.y.c]]) rfl (by kernel_rfl) ((hT.out _ hS).mono ?_)
   rintro e w6 ⟨A3,m3,c3,D3,m4,c4,rfl,X,bb3⟩;obtain⟨y,hy⟩:∃ y:Gw,y=⟨ng q.num,⟨A3,m3,c3,limbs q.num.natAbs⟩,⟨D3,m4,c4,dn q⟩⟩:=⟨_,rfl⟩;have hcs:rwC.cs y=[.bool (ng q.num),.slice A3 m3 c3,.slice D3 m4 c4]:=by rw[hy];rfl
   have hyI:Hid (rwI ((A3,m3,c3,limbs q.num.natAbs)::(D3,m4,c4,dn q)::rs) y):=Lib.hid (by rw[hy];exact⟨List.mem_cons_self,List.mem_cons_of_mem _ List.mem_cons_self⟩)
   have hyV:=Lib.hid (hV2.out y (by rw[hy];rfl))
   have G6:=Lib.hid (((G5.call bb3).read X.d).read X.n);have hS6:=G6.out.st.bel;clear G5 X bb3 hy hT hV2 hOb hIn hS Sb;refine⟨_,rfl,hK.out _ _ hS6 ?_⟩
   clear hK K'
   try simp only[Act.put,sZ0,sZ1,sZ2]
   refine Wk.g (i:=7) at7 (by kernel_rfl) (by kernel_rfl) fun K' hK=>?_
   have GA:=Lib.hid (G6.out.alloc #[.bool (ng q.num),.slice A3 m3 c3,.slice D3 m4 c4] 45 (noL3 _ _ _ _ _ _ _))
   go_simp
   have hSA:=GA.out.st.bel;refine hK.out _ _ hSA ?_
   clear hK K' G6 hS6
   try simp only[Act.put,sZ0,sZ1,sZ2]
   refine Wk.g (i:=8) at8 (by kernel_rfl) (by kernel_rfl) fun K' hK=>?_
   refine Gro.op (.tmp 13) (.tmp 20) 23 rfl (.agg #[.bool false,.slice none 0 0,.slice none 0 0]) 56 Tryz.underlying23 (by kernel_rfl) rfl (fun v hv z e=>by simp[Value.cells] at hv;subst e;simp at hv) rfl GA.out w6.heap.size y rfl (by rw[hcs];exact (GA.out.st).cb 0 rfl) (hyI.out.in_ _ _) (by have:=hRl.out;have:=hih.out;have:=hb.out;omega) (by have:=hRl.out;have:=hih.out;have:=hb.out;unfold maxLen;omega) ?_
   intro v' w7 G7;have hR7:Hid (∀ x∈R++[y],rwI ((A3,m3,c3,limbs q.num.natAbs)::(D3,m4,c4,dn q)::rs) x):=Lib.hid fun x hx=>by
    rcases List.mem_append.1 hx with hx | hx
    ·exact (hR.out x hx).mono (fun p hp=>List.mem_cons_of_mem _ (List.mem_cons_of_mem _ hp))
    ·rw[List.mem_singleton.1 hx];exact hyI.out
   have G8:=Lib.hid (Gro.sub G7 (fun x hx=>(hR7.out x hx).in_ _ _))
   have hS8:=G8.out.st.bel;refine hK.out _ _ hS8 ?_
   clear hK K' G7 GA hSA hR hyI hcs hRl
   try simp only[Act.put,sZ0,sZ1,sZ2]
   refine Wk.g (i:=9) at9 (by kernel_rfl) (by kernel_rfl) fun K' hK=>?_
   go_simp
   refine hK.out _ _ hS8 ?_
   clear hK K';refine Wk.done (by kernel_rfl) ?_
   clear hS8 hzk hbase;have hlt:=hih.out;have hbb:=hb.out
   go_simp
   go_wp2
   go_roundw
   case rel=>exact⟨i+1,_,_,_,rfl,by omega,by go_num,G8.out,hR7.out,hyV.out⟩
   case measure=>simp[intOf];omega
  ·obtain rfl:n=i:=by omega
   rw[List.take_of_length_le (by rw[hTL.out];exact Nat.le_refl _)] at hV
   obtain⟨A9,c9,bs9,hv,S9,_,hrow⟩:=GR.drow hR;subst hv;have hres:=Lib.hid (show RowO _ w (.returned (.slice A9 R.length c9)) wr from ⟨A9,c9,R,bs9,rs,rfl,S9.rebase hB.out,hrow,hV⟩)
   clear GR hR hV S9 hrow hin hlt;go_wp2;go_ret;exact hres.out
theorem plusR_any (M N:List Rat) (L K:List Gw) (A:Option Addr) (n c:Nat) (A':Option Addr) (c':Nat) (w1:World) (h:LR rwC w1 A n L) (h':LR rwC w1 A' n K) (hM:L.map rwV=M.map qV) (hN:K.map rwV=N.map qV) (hs:∀ q∈M,Rs q 9900000) (hs':∀ q∈N,Rs q 9900000) (hn:n≤1000):Calls Tryz.prog 85 #[.slice A n c,.slice A' n c'] w1 (RowO (plusQ M N) w1):=by
 have hML:M.length=n:=by have:=congrArg List.length hM;rw[List.length_map,List.length_map,h.len] at this;omega
 have hNL:N.length=n:=by have:=congrArg List.length hN;rw[List.length_map,List.length_map,h'.len] at this;omega
 have hTL:Hid ((plusQ M N).length=n):=Lib.hid (by unfold plusQ;rw[List.length_zipWith,hML,hNL,Nat.min_self])
 have hb:=Lib.hid hn;have h1:=Lib.hid h;have h2:=Lib.hid h';replace hM:=Lib.hid hM;replace hN:=Lib.hid hN;replace hs:=Lib.hid hs;replace hs':=Lib.hid hs';have S:=Lib.hid (St.new w1);clear hn h h' hML hNL;go_enter Tryz.func85,Tryz.ntmps85;go_wp2
 go_loopw [5,6] (fun rv iv wr=>∃ (i:Nat) (rs:List GRd) (R:List Gw) (av:Value),av=rv∧i≤n∧iv=.int .i64 i∧Gro rwC w1 wr [] rs 45 av R∧(∀ x∈R,rwI rs x)∧R.map rwV=((plusQ M N).take i).map qV) (fun _ iv _=>n-(intOf iv).toNat)
 case atStart=>exact⟨0,[],[],_,rfl,Nat.zero_le _,rfl,Gro.nil_ rwC S.out _,fun s hs=>(by cases hs),rfl⟩
 case round=>
  clear S;obtain⟨i,rs,R,av,hav,hin,rfl,GR,hR,hV⟩:=hrel;subst hav
  by_cases hlt:i<n
  ·have g1:(i:Int)<(n:Int):=by omega
   have g2:(0:Int)≤(i:Int):=by omega
   have hih:=Lib.hid hlt;obtain⟨b,o,x,rfl,hx,_,e0,e1,e2,R1,R2⟩:=row_get h1.out hlt;obtain⟨b2,o2,z,rfl,hz,_,z0,z1,z2,R3,R4⟩:=row_get h2.out hlt;obtain⟨p,hp,hpm,hxq⟩:=map_at hM.out hx;obtain⟨p2,hp2,hpm2,hzq⟩:=map_at hN.out hz;obtain⟨xb,X⟩:=rw_rr hxq R1 R2;obtain⟨zb,Z⟩:=rw_rr hzq R3 R4;obtain⟨q,hq⟩:∃ q,q=p+p2:=⟨_,rfl⟩;have hRl:Hid (R.length=i):=Lib.hid (by have:=congrArg List.length hV;rw[List.length_map,List.length_map,List.length_take] at this;have:=hTL.out;omega)
   have hT:Hid (∀ W,Below w1.heap.size w1 W→Calls Tryz.prog 71 #[.agg #[.bool x.b,.slice x.x.A x.x.n x.x.c,.slice x.y.A x.y.n x.y.c],.agg #[.bool z.b,.slice z.x.A z.x.n z.x.c,.slice z.y.A z.y.n z.y.c]] W (RetR q W)):=Lib.hid fun W hW=>by
    have:=faddQ _ _ x.x.A x.x.n x.x.c x.y.A x.y.n x.y.c z.x.A z.x.n z.x.c z.y.A z.y.n z.y.c W (X.below hW) (Z.below hW) (hs.out p hpm) (hs'.out p2 hpm2);rw[←xb,←zb,←hq] at this;exact this
   have hV2:Hid (∀ y:Gw,rwV y=qV q→(R++[y]).map rwV=((plusQ M N).take (i+1)).map qV):=Lib.hid fun y hy=>by
    rw[take_at (plusQ_at hp hp2),←hq,List.map_append,List.map_append,hV];simp only[List.map_cons,List.map_nil,hy]
   replace GR:=Lib.hid GR;replace hR:=Lib.hid hR;replace e0:=Lib.hid e0;replace e1:=Lib.hid e1;replace e2:=Lib.hid e2;replace z0:=Lib.hid z0;replace z1:=Lib.hid z1;replace z2:=Lib.hid z2;clear hlt hin hx hp hpm hxq R1 R2 xb X hV hq hz hp2 hpm2 hzq R3 R4 zb Z;go_upto_region 5 with fail
   obtain⟨ob,hOb,So⟩:=GR.out.unop;have hIn:=Lib.hid GR.out.2;replace hOb:=Lib.hid hOb;replace So:=Lib.hid So;clear GR;have hbase:=Lib.hid So.out;refine RW.begin (Z:=[]) (S:=(fun W=>Below w1.heap.size w1 W)) (by kernel_rfl) ?_ hbase.out ?_
   ·exact⟨by kernel_rfl,zis_nil,by decide,by decide,nol_nil,(fun _ _ h=>h.bel)⟩
   intro hzk;refine RW.t (i:=0) (v:=av) (some 13) at0 (hy:=fun _ _=>by kernel_rfl) (h:=?_)
   refine RW.t (i:=1) (v:=.slice (some ⟨b,o,none⟩) n c) (some 14) at1 (hy:=fun _ _=>by kernel_rfl) (h:=?_)
   refine RW.t (i:=2) (v:=.int .i64 i) (some 15) at2 (hy:=fun _ _=>by kernel_rfl) (h:=?_)
   refine RW.t (i:=3) (v:=.pointer (some ⟨b,o+i*3,none⟩)) (some 16) at3 (hy:=fun _ _=>by go_simp) (h:=?_)
   refine RW.t (i:=4) (v:=.agg #[.bool x.b,.slice x.x.A x.x.n x.x.c,.slice x.y.A x.y.n x.y.c]) (some 17) at4 (hy:=fun W hS=>by (have k0:=bel_cell hS e0.out;have k1:=bel_cell hS e1.out;have k2:=bel_cell hS e2.out;clear hS;go_simp)) (h:=?_)
   refine RW.t (i:=5) (v:=.slice (some ⟨b2,o2,none⟩) n c') (some 18) at5 (hy:=fun _ _=>by kernel_rfl) (h:=?_)
   refine RW.t (i:=6) (v:=.int .i64 i) (some 19) at6 (hy:=fun _ _=>by kernel_rfl) (h:=?_)
   refine RW.t (i:=7) (v:=.pointer (some ⟨b2,o2+i*3,none⟩)) (some 20) at7 (hy:=fun _ _=>by go_simp) (h:=?_)
   refine RW.t (i:=8) (v:=.agg #[.bool z.b,.slice z.x.A z.x.n z.x.c,.slice z.y.A z.y.n z.y.c]) (some 21) at8 (hy:=fun W hS=>by (have k0:=bel_cell hS z0.out;have k1:=bel_cell hS z1.out;have k2:=bel_cell hS z2.out;clear hS;go_simp)) (h:=?_)
   refine RW.tail hzk.out (by kernel_rfl) ?_
   intro gs' w5 hgs' hS Sb;obtain rfl:=len0 hgs';simp only[mark,fill,Act.put,sZ0,sZ1,sZ2];have G5:Gro rwC w1 w5 [] rs 45 av R:=⟨Apd.close hOb.out Sb,hIn.out⟩;refine Wk.g (i:=9) at9 (by kernel_rfl) (by kernel_rfl) fun K' hK=>?_
   refine oper_call (f:=71) (args:=#[.agg #[.bool x.b,.slice x.x.A x.x.n x.x.c,.slice x.y.A x.y.n x.y.c],.agg #[.bool z.b,.slice z.x.A z.x.n z.x.c,.slice z.y.A z.y.n z.y.c]]) rfl (by kernel_rfl) ((hT.out _ hS).mono ?_)
   rintro e w6 ⟨A3,m3,c3,D3,m4,c4,rfl,X,bb3⟩;obtain⟨y,hy⟩:∃ y:Gw,y=⟨ng q.num,⟨A3,m3,c3,limbs q.num.natAbs⟩,⟨D3,m4,c4,dn q⟩⟩:=⟨_,rfl⟩;have hcs:rwC.cs y=[.bool (ng q.num),.slice A3 m3 c3,.slice D3 m4 c4]:=by rw[hy];rfl
   have hyI:Hid (rwI ((A3,m3,c3,limbs q.num.natAbs)::(D3,m4,c4,dn q)::rs) y):=Lib.hid (by rw[hy];exact⟨List.mem_cons_self,List.mem_cons_of_mem _ List.mem_cons_self⟩)
   have hyV:=Lib.hid (hV2.out y (by rw[hy];rfl))
   have G6:=Lib.hid (((G5.call bb3).read X.d).read X.n);have hS6:=G6.out.st.bel;clear G5 X bb3 hy hT hV2 hOb hIn hS Sb;refine⟨_,rfl,hK.out _ _ hS6 ?_⟩
   clear hK K'
   try simp only[Act.put,sZ0,sZ1,sZ2]
   refine Wk.g (i:=10) at10 (by kernel_rfl) (by kernel_rfl) fun K' hK=>?_
   have GA:=Lib.hid (G6.out.alloc #[.bool (ng q.num),.slice A3 m3 c3,.slice D3 m4 c4] 45 (noL3 _ _ _ _ _ _ _))
   go_simp
   have hSA:=GA.out.st.bel;refine hK.out _ _ hSA ?_
   clear hK K' G6 hS6
   try simp only[Act.put,sZ0,sZ1,sZ2]
   refine Wk.g (i:=11) at11 (by kernel_rfl) (by kernel_rfl) fun K' hK=>?_
   refine Gro.op (.tmp 13) (.tmp 23) 23 rfl (.agg #[.bool false,.slice none 0 0,.slice none 0 0]) 56 Tryz.underlying23 (by kernel_rfl) rfl (fun v hv z e=>by simp[Value.cells] at hv;subst e;simp at hv) rfl GA.out w6.heap.size y rfl (by rw[hcs];exact (GA.out.st).cb 0 rfl) (hyI.out.in_ _ _) (by have:=hRl.out;have:=hih.out;have:=hb.out;omega) (by have:=hRl.out;have:=hih.out;have:=hb.out;unfold maxLen;omega) ?_
   intro v' w7 G7;have hR7:Hid (∀ x∈R++[y],rwI ((A3,m3,c3,limbs q.num.natAbs)::(D3,m4,c4,dn q)::rs) x):=Lib.hid fun x hx=>by
    rcases List.mem_append.1 hx with hx | hx
    ·exact (hR.out x hx).mono (fun p hp=>List.mem_cons_of_mem _ (List.mem_cons_of_mem _ hp))
    ·rw[List.mem_singleton.1 hx];exact hyI.out
   have G8:=Lib.hid (Gro.sub G7 (fun x hx=>(hR7.out x hx).in_ _ _))
   have hS8:=G8.out.st.bel;refine hK.out _ _ hS8 ?_
   clear hK K' G7 GA hSA hR hyI hcs hRl
   try simp only[Act.put,sZ0,sZ1,sZ2]
   refine Wk.g (i:=12) at12 (by kernel_rfl) (by kernel_rfl) fun K' hK=>?_
   go_simp
   refine hK.out _ _ hS8 ?_
   clear hK K';refine Wk.done (by kernel_rfl) ?_
   clear hS8 hzk hbase;have hlt:=hih.out;have hbb:=hb.out
   go_simp
   go_wp2
   go_roundw
   case rel=>exact⟨i+1,_,_,_,rfl,by omega,by go_num,G8.out,hR7.out,hyV.out⟩
   case measure=>simp[intOf];omega
  ·obtain rfl:n=i:=by omega
   rw[List.take_of_length_le (by rw[hTL.out];exact Nat.le_refl _)] at hV
   obtain⟨A9,c9,bs9,hv,S9,_,hrow⟩:=GR.drow hR;subst hv;have hres:=Lib.hid (show RowO _ w1 (.returned (.slice A9 R.length c9)) wr from ⟨A9,c9,R,bs9,rs,rfl,S9,hrow,hV⟩)
   clear GR hR hV S9 hrow hin hlt;go_wp2;go_ret;exact hres.out
end Go.Proofs.YtfnkpfbobdmieaaGreat
