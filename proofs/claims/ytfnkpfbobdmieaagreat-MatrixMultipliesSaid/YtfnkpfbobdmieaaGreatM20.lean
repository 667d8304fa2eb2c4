/- Back substitution upon an echelon form, and the determinant of Bareiss' elimination. Core Lean only; upon G5. -/
import Derived.Test.YtfnkpfbobdmieaaGreatM19
import Derived.Test.YtfnkpfbobdmieaaGreatM17
set_option linter.unusedVariables false
set_option linter.unusedVariables false
namespace GE
variable {n k:Nat}
theorem epiv_iff {R:List (List Rat)} {p:List Nat} (F:EF n k R p k) {j:Nat} (h:j∈p) {x:Nat→Rat} (hx:NS n k R x) (h0:∀ i,j<i→x i=0):x j=0:=by
 obtain⟨t,ht,rfl⟩:=List.getElem_of_mem h;have:=hx t (by have:=F.ple;omega)
 unfold dt at this;rw[sm_one (F.lt _ h) (fun i hi hn=>?_)] at this
 ·have:=F.nz t ht
  generalize el R t p[t]=u at *;generalize x p[t]=v at *
  grind
 ·rcases Nat.lt_or_ge i p[t] with g | g
  ·rw[F.left t ht i g];exact Rat.zero_mul _
  ·rw[h0 i (by omega)];exact Rat.mul_zero _
def tmf (R:List (List Rat)) (p:List Nat) (l:Rat) (c:Nat):Nat→Nat→Rat
 | 0,_=>0
 | d+1,a=>if a+(d+1)=p.length then (l*el R a c-sm (fun m=>el R a (p.getD (a+1+m) 0)*tmf R p l c d (a+1+m)) d) / el R a (p.getD a 0) else tmf R p l c d a
theorem tmf_keep {R:List (List Rat)} {p:List Nat} {l:Rat} {c a:Nat}:∀ {d e:Nat},p.length≤a+d→d≤e→tmf R p l c e a=tmf R p l c d a
 | d,e,h1,h2=>by
  induction e with
  | zero=>
   obtain rfl:d=0:=by omega
   rfl
  | succ e ih=>
   by_cases h:d=e+1
   ·rw[h]
   ·show (if a+(e+1)=p.length then _ else tmf R p l c e a)=_
    rw[if_neg (by omega),ih (by omega)]
theorem tmf_eq {R:List (List Rat)} {p:List Nat} (F:EF n k R p k) {l:Rat} {c i:Nat} (hi:i<p.length) :
  sm (fun t=>el R i (p.getD t 0)*tmf R p l c p.length t) p.length=l*el R i c:=by
 have hd:p.length=i+(p.length-i-1+1):=by omega
 have e1:tmf R p l c p.length i=(l*el R i c-sm (fun m=>el R i (p.getD (i+1+m) 0)*tmf R p l c p.length (i+1+m)) (p.length-i-1)) / el R i (p.getD i 0):=by
  rw[tmf_keep (d:=p.length-i-1+1) (by omega) (by omega)]
  show (if i+(p.length-i-1+1)=p.length then _ else _)=_
  rw[if_pos (by omega)]
  congr 2
  exact sm_congr fun m hm=>by rw[tmf_keep (d:=p.length-i-1) (e:=p.length) (by omega) (by omega)]
 have hnz:el R i (p.getD i 0)≠0:=by
  rw[List.getD_eq_getElem?_getD,List.getElem?_eq_getElem hi];exact F.nz i hi
 have e2:sm (fun t=>el R i (p.getD t 0)*tmf R p l c p.length t) p.length=el R i (p.getD i 0)*tmf R p l c p.length i+sm (fun m=>el R i (p.getD (i+1+m) 0)*tmf R p l c p.length (i+1+m)) (p.length-i-1):=by
  have h1:sm (fun t=>el R i (p.getD t 0)*tmf R p l c p.length t) (i+(p.length-i-1+1))=_:=sm_split
  rw[←hd] at h1;rw[h1,sm_zero (f:=fun t=>el R i (p.getD t 0)*tmf R p l c p.length t) (k:=i) (fun t ht=>by
   have:p.getD t 0<p[i]:=by
    rw[List.getD_eq_getElem?_getD,List.getElem?_eq_getElem (by omega)]
    exact List.pairwise_iff_getElem.1 F.mono _ _ (by omega) hi ht
   rw[F.left i hi _ this];exact Rat.zero_mul _),sm_front,Rat.zero_add]
  congr 1
  exact sm_congr fun m _=>by
   show el R i (p.getD (i+(m+1)) 0)*tmf R p l c p.length (i+(m+1))=_
   rw[show i+(m+1)=i+1+m by omega]
 rw[e2,e1];generalize sm _ (p.length-i-1)=S;generalize el R i (p.getD i 0)=u at hnz ⊢;generalize l*el R i c=v
 grind
theorem tmf_zero {R:List (List Rat)} {p:List Nat} (F:EF n k R p k) {l:Rat} {c:Nat}:∀ {d i:Nat} (hi:i<p.length),p.length≤i+d→c<p[i]→tmf R p l c d i=0
 | 0,i,hi,h1,_=>by omega
 | d+1,i,hi,h1,h2=>by
  show (if i+(d+1)=p.length then _ else tmf R p l c d i)=0
  split
  ·rw[F.left i hi c h2,Rat.mul_zero,sm_zero fun m hm=>?_]
   ·rw[Rat.div_def];grind
   ·have hm':i+1+m<p.length:=by omega
    have:=List.pairwise_iff_getElem.1 F.mono _ _ hi hm' (by omega)
    rw[tmf_zero F hm' (by omega) (by omega)]
    exact Rat.mul_zero _
  ·exact tmf_zero F hi (by omega) h2
def nvE (R:List (List Rat)) (p:List Nat) (l:Rat) (j i:Nat):Rat:=if i=j then 1 else if i∈p then -(tmf R p l j p.length (p.idxOf i) / l) else 0
theorem nvE_ns {R:List (List Rat)} {p:List Nat} (F:EF n k R p k) {l:Rat} (hl:l≠0) {j:Nat} (hj:j<k) (hp:j∉p):NS n k R (nvE R p l j):=by
 intro i hi
 rcases Nat.lt_or_ge i p.length with h | h
 ·have e:dt k R (nvE R p l j) i=el R i j+sm (fun a=>if a=j then 0 else el R i a*nvE R p l j a) k:=by
   have e1:dt k R (nvE R p l j) i=sm (fun a=>(if a=j then el R i a else 0)+(if a=j then 0 else el R i a*nvE R p l j a)) k:=sm_congr fun a _=>by
    by_cases ha:a=j
    ·rw[if_pos ha,if_pos ha,ha];unfold nvE;rw[if_pos rfl,Rat.mul_one,Rat.add_zero]
    ·rw[if_neg ha,if_neg ha,Rat.zero_add]
   rw[e1,sm_add,sm_one hj (fun a _ ha=>if_neg ha),if_pos rfl]
  have e2:sm (fun a=>if a=j then 0 else el R i a*nvE R p l j a) k=sm (fun t=>el R i (p.getD t 0)*tmf R p l j p.length t*(-(1 / l))) p.length:=by
   rw[sm_ls F.mono F.lt (fun a ha hap=>?_),ls_sm]
   ·refine sm_congr fun t ht=>?_
    have g:p.getD t 0=p[t]:=by rw[List.getD_eq_getElem?_getD,List.getElem?_eq_getElem ht];rfl
    have hne:p[t]≠j:=fun e=>hp (e ▸ List.getElem_mem ht)
    show (if p.getD t 0=j then (0:Rat) else el R i (p.getD t 0)*nvE R p l j (p.getD t 0))=_
    rw[g,if_neg hne];unfold nvE;rw[if_neg hne,if_pos (List.getElem_mem ht),idx_get F.mono ht]
    grind
   ·split
    ·rfl
    ·rename_i haj
     unfold nvE;rw[if_neg haj,if_neg hap];exact Rat.mul_zero _
  rw[e,e2,sm_mul,tmf_eq F h];generalize el R i j=u
  grind
 ·unfold dt
  exact sm_zero fun a ha=>by rw[F.low i h hi a ha];exact Rat.zero_mul _
theorem nvE_high {R:List (List Rat)} {p:List Nat} (F:EF n k R p k) {l:Rat} {j i:Nat} (h:j<i):nvE R p l j i=0:=by
 unfold nvE;rw[if_neg (by omega)]
 split
 ·rename_i hi
  obtain⟨t,ht,rfl⟩:=List.getElem_of_mem hi;rw[idx_get F.mono ht,tmf_zero F ht (by omega) h,Rat.div_def,Rat.zero_mul]
  rfl
 ·rfl
theorem ef_red {R R':List (List Rat)} {p p':List Nat} (F:EF n k R p k) (F':RF n k R' p' k) (h:∀ x,NS n k R x↔NS n k R' x) {l:Rat} (hl:l≠0) :
  p=p'∧∀ j<k,j∉p→∀ s (hs:s<p.length),el R' s j=tmf R p l j p.length s / l:=by
 have hp:p=p':=sorted_ext F.mono F'.mono fun j=>by
  constructor
  ·intro hj
   exact (piv_iff F' (F.lt j hj)).2 fun x hx h0=>epiv_iff F hj ((h x).2 hx) h0
  ·intro hj
   have hk:=F'.lt j hj
   by_cases hjp:j∈p
   ·exact hjp
   ·have:=(piv_iff F' hk).1 hj (nvE R p l j) ((h _).1 (nvE_ns F hl hk hjp)) fun i hi=>nvE_high F hi
    unfold nvE at this;rw[if_pos rfl] at this;exact absurd this (by decide)
 subst hp;refine⟨rfl,fun j hj hjp s hs=>?_⟩
 have h1:=(h _).1 (nvE_ns F hl hj hjp) s (by have:=F.ple;omega)
 have hne:j≠p[s]:=fun e=>hjp (e ▸ List.getElem_mem hs)
 unfold dt at h1;rw[sm_two hj (F'.lt _ (List.getElem_mem hs)) hne fun i hi g1 g2=>?_] at h1
 ·rw[F'.one s hs] at h1
  unfold nvE at h1;rw[if_pos rfl,if_neg (fun e=>hne e.symm),if_pos (List.getElem_mem hs),idx_get F.mono hs] at h1
  generalize tmf R p l j p.length s / l=u at h1 ⊢;generalize el R' s j=v at h1 ⊢
  grind
 ·unfold nvE
  rw[if_neg g1]
  split
  ·rename_i g3
   obtain⟨t,ht,rfl⟩:=List.getElem_of_mem g3;rw[F'.off t ht s (by have:=F.ple;omega) (fun e=>g2 (by subst e;rfl))]
   exact Rat.zero_mul _
  ·exact Rat.mul_zero _
end GE
set_option linter.unusedVariables false
namespace GE
variable {n k:Nat} {Φ:(Nat→Nat→Rat)→Rat}
def pr (f:Nat→Rat):Nat→Rat
 | 0=>1
 | m+1=>pr f m*f m
theorem brun_sq:∀ {c j:Nat} {s:GS} {l:Rat},(brun c j s l).1.f*(brun c j s l).1.f=s.f*s.f
 | 0,_,_,_=>rfl
 | c+1,j,s,l=>by
  refine (brun_sq (c:=c)).trans ?_
  unfold bcol
  split
  ·rfl
  ·show gf1 j s*gf1 j s=_
   unfold gf1
   split
   ·rfl
   ·grind
end GE
set_option linter.unusedVariables false
namespace GE
variable {n k:Nat}
structure S2 (a d:Nat) (q:Rat):Prop where
 n:q.num.natAbs≤4294967296^a
 d:q.den≤4294967296^d
theorem w_mono {a b:Nat} (h:a≤b):4294967296^a≤4294967296^b:=Nat.pow_le_pow_right (by decide) h
theorem w_pos (a:Nat):1≤4294967296^a:=Nat.pow_pos (by decide)
theorem S2.mono {a b d e:Nat} {q:Rat} (h:S2 a d q) (h1:a≤b) (h2:d≤e):S2 b e q:=⟨Nat.le_trans h.n (w_mono h1),Nat.le_trans h.d (w_mono h2)⟩
theorem S2.zero {a d:Nat}:S2 a d 0:=⟨Nat.zero_le _,w_pos d⟩
theorem S2.one {a d:Nat}:S2 a d 1:=⟨w_pos a,w_pos d⟩
theorem S2.neg {a d:Nat} {q:Rat} (h:S2 a d q):S2 a d (-q):=⟨by rw[Rat.neg_num,Int.natAbs_neg];exact h.n,h.d⟩
theorem num_le (n:Int) {d:Nat} (hd:0<d):(Rat.divInt n (d:Int)).num.natAbs≤n.natAbs∧(Rat.divInt n (d:Int)).den≤d:=by
 have h0:(d:Int)≠0:=by omega
 rw[Rat.num_divInt,Rat.den_divInt,if_neg h0]
 constructor
 ·rw[Int.sign_eq_one_of_pos (by omega),Int.one_mul]
  exact Int.natAbs_ediv_le_natAbs _ _
 ·rw[Int.natAbs_natCast];exact Nat.div_le_self _ _
theorem S2.mul {a b d e:Nat} {x y:Rat} (h1:S2 a d x) (h2:S2 b e y):S2 (a+b) (d+e) (x*y):=by
 have e':x*y=Rat.divInt (x.num*y.num) ((x.den*y.den:Nat):Int):=by rw[Rat.mul_def',Rat.divInt_ofNat]
 have h:=num_le (x.num*y.num) (Nat.mul_pos x.den_pos y.den_pos);rw[←e'] at h;refine⟨Nat.le_trans h.1 ?_,Nat.le_trans h.2 ?_⟩
 ·rw[Int.natAbs_mul,Nat.pow_add];exact Nat.mul_le_mul h1.n h2.n
 ·rw[Nat.pow_add];exact Nat.mul_le_mul h1.d h2.d
theorem S2.add {a b d e:Nat} {x y:Rat} (h1:S2 a d x) (h2:S2 b e y):S2 (max (a+e) (b+d)+1) (d+e) (x+y):=by
 have e':x+y=Rat.divInt (x.num*y.den+y.num*x.den) ((x.den*y.den:Nat):Int):=by rw[Rat.add_def',Rat.divInt_ofNat]
 have h:=num_le (x.num*y.den+y.num*x.den) (Nat.mul_pos x.den_pos y.den_pos);rw[←e'] at h;refine⟨Nat.le_trans h.1 ?_,Nat.le_trans h.2 ?_⟩
 ·have t:=Int.natAbs_add_le (x.num*y.den) (y.num*x.den)
  rw[Int.natAbs_mul,Int.natAbs_mul,Int.natAbs_natCast,Int.natAbs_natCast] at t;have t1:=Nat.mul_le_mul h1.n h2.d;have t2:=Nat.mul_le_mul h2.n h1.d;rw[←Nat.pow_add] at t1 t2;have t3:=w_mono (Nat.le_max_left (a+e) (b+d));have t4:=w_mono (Nat.le_max_right (a+e) (b+d));rw[Nat.pow_succ]
  omega
 ·rw[Nat.pow_add];exact Nat.mul_le_mul h1.d h2.d
theorem S2.sub {a b d e:Nat} {x y:Rat} (h1:S2 a d x) (h2:S2 b e y):S2 (max (a+e) (b+d)+1) (d+e) (x-y):=by
 rw[Rat.sub_eq_add_neg];exact h1.add h2.neg
theorem S2.inv {a d:Nat} {q:Rat} (h:S2 a d q):S2 d a q⁻¹:=by
 refine⟨?_,?_⟩
 ·rw[Rat.num_inv,Int.natAbs_mul,Int.natAbs_natCast]
  have:q.num.sign.natAbs≤1:=by rw[Int.natAbs_sign];split<;>omega
  have h3:=Nat.mul_le_mul_right q.den this;have:=h.d
  omega
 ·rw[Rat.den_inv]
  split
  ·exact w_pos a
  ·exact h.n
theorem S2.div {a b d e:Nat} {x y:Rat} (h1:S2 a d x) (h2:S2 b e y):S2 (a+e) (d+b) (x / y):=by
 rw[Rat.div_def];exact h1.mul h2.inv
def zA (a:Nat):Nat→Nat×Nat×Nat×Nat
 | 0=>(a,0,0,0)
 | t+1=>(2*(zA a t).1+2*(zA a t).2.1+1+(zA a t).2.2.2,4*(zA a t).2.1+(zA a t).2.2.1,(zA a t).1,(zA a t).2.1)
theorem zA_last {a:Nat}:∀ {t:Nat},(zA a t).2.2.1≤(zA a t).1∧(zA a t).2.2.2≤(zA a t).2.1
 | 0=>⟨Nat.zero_le _,Nat.le_refl _⟩
 | t+1=>⟨by show (zA a t).1≤2*(zA a t).1+_+_+_;omega,by show (zA a t).2.1≤4*(zA a t).2.1+_;omega⟩
theorem zA_step {a t:Nat}:(zA a t).1≤(zA a (t+1)).1∧(zA a t).2.1≤(zA a (t+1)).2.1:=zA_last (t:=t+1)
theorem zA_mono {a:Nat}:∀ {t u:Nat},t≤u→(zA a t).1≤(zA a u).1∧(zA a t).2.1≤(zA a u).2.1
 | t,u,h=>by
  induction u with
  | zero=>
   obtain rfl:t=0:=by omega
   exact⟨Nat.le_refl _,Nat.le_refl _⟩
  | succ u ih=>
   by_cases e:t=u+1
   ·subst e;exact⟨Nat.le_refl _,Nat.le_refl _⟩
   ·have h1:=ih (by omega)
    have h2:=zA_step (a:=a) (t:=u);exact⟨Nat.le_trans h1.1 h2.1,Nat.le_trans h1.2 h2.2⟩
structure ZI (a n:Nat) (s:GS) (l:Rat):Prop where
 e:∀ i c,S2 (zA a (min s.p.length (n-1))).1 (zA a (min s.p.length (n-1))).2.1 (el s.M i c)
 o:s.p.length<n→S2 (zA a s.p.length).2.2.1 (zA a s.p.length).2.2.2 l
 m:s.p.length=n→0<n→S2 (zA a (n-1)).1 (zA a (n-1)).2.1 l
theorem bcls_size {M:List (List Rat)} {a d a' d' c t:Nat} {l:Rat} (hr:rct k M) (hn:M.length=n) (ht:t<n) (h:∀ i j,S2 a d (el M i j)) (hl:S2 a' d' l) {m:Nat} (hm:m≤n) (i j:Nat) :
  S2 (2*a+2*d+1+d') (4*d+a') (el (bcls M c l t m) i j):=by
 rw[el_bcls hr (by omega) (by omega)]
 split
 ·split
  ·exact (h i j).mono (by omega) (by omega)
  ·split
   ·exact S2.zero
   ·exact ((((h t c).mul (h i j)).sub ((h i c).mul (h t j))).div hl).mono (by omega) (by omega)
 ·exact (h i j).mono (by omega) (by omega)
theorem bcol_size {a j:Nat} {s:GS} {l:Rat} (F:EF n k s.M s.p j) (Z:ZI a n s l):ZI a n (bcol j s l).1 (bcol j s l).2:=by
 have hle:=gat_le (j:=j) (s:=s) (by rw[F.len];exact F.ple)
 by_cases hg:gat j s=s.M.length
 ·have e:bcol j s l=(s,l):=by unfold bcol;rw[if_pos hg]
  rw[e];exact Z
 ·have ha:gat j s<s.M.length:=by omega
  have hn:=F.len;have hge:=gat_ge (j:=j) (s:=s);have ht:s.p.length<n:=by omega
  have e:bcol j s l=(⟨bcls (gm1 j s) j l s.p.length s.M.length,s.p++[j],gf1 j s⟩,el (gm1 j s) s.p.length j):=by unfold bcol;rw[if_neg hg]
  have r1:=gm1_rct F.rect ha;have l1:(gm1 j s).length=n:=gm1_len.trans hn;have hm:min s.p.length (n-1)=s.p.length:=by omega
  have h1:∀ i c,S2 (zA a s.p.length).1 (zA a s.p.length).2.1 (el (gm1 j s) i c):=fun i c=>by
   have:=Z.e;rw[hm] at this;rw[el_gm1 ha]
   split
   ·exact this _ _
   ·split<;>exact this _ _
  have hp:(s.p++[j]).length=s.p.length+1:=List.length_append;rw[e,hn];refine⟨fun i c=>?_,fun h=>?_,fun h h0=>?_⟩
  ·show S2 (zA a (min (s.p++[j]).length (n-1))).1 (zA a (min (s.p++[j]).length (n-1))).2.1 (el (bcls (gm1 j s) j l s.p.length n) i c)
   rw[hp]
   by_cases hs:s.p.length+1<n
   ·rw[show min (s.p.length+1) (n-1)=s.p.length+1 by omega]
    exact bcls_size r1 l1 ht h1 (Z.o ht) (Nat.le_refl n) i c
   ·rw[show min (s.p.length+1) (n-1)=s.p.length by omega]
    by_cases hi:i<n
    ·rw[el_bcls r1 (by omega) (by omega),if_neg (by omega)];exact h1 i c
    ·have:el (bcls (gm1 j s) j l s.p.length n) i c=0:=by
      have h2:(bcls (gm1 j s) j l s.p.length n)[i]?=none:=List.getElem?_eq_none (by rw[bcls_len,l1];omega)
      unfold el;rw[List.getD_eq_getElem?_getD,List.getD_eq_getElem?_getD,h2]
      rfl
     rw[this];exact S2.zero
  ·show S2 (zA a (s.p++[j]).length).2.2.1 (zA a (s.p++[j]).length).2.2.2 _
   rw[hp];exact h1 _ _
  ·have h:(s.p++[j]).length=n:=h
   rw[hp] at h;rw[show n-1=s.p.length by omega]
   exact h1 _ _
theorem brun_size {a:Nat}:∀ {c j:Nat} {s:GS} {l:Rat},EF n k s.M s.p j→l≠0→ZI a n s l→ZI a n (brun c j s l).1 (brun c j s l).2
 | 0,_,_,_,_,_,Z=>Z
 | c+1,j,s,l,F,hl,Z=>brun_size (c:=c) (bcol_ef F hl).1 (bcol_ef F hl).2.1 (bcol_size F Z)
theorem ZI.all {a:Nat} {s:GS} {l:Rat} (Z:ZI a n s l) (hp:s.p.length≤n) (h0:0<n) :
  (∀ i c,S2 (zA a (n-1)).1 (zA a (n-1)).2.1 (el s.M i c))∧S2 (zA a (n-1)).1 (zA a (n-1)).2.1 l:=by
 refine⟨fun i c=>(Z.e i c).mono (zA_mono (by omega)).1 (zA_mono (by omega)).2,?_⟩
 by_cases h:s.p.length<n
 ·have h1:=zA_last (a:=a) (t:=s.p.length)
  have h2:=zA_mono (a:=a) (t:=s.p.length) (u:=n-1) (by omega)
  exact (Z.o h).mono (by omega) (by omega)
 ·exact Z.m (by omega) h0
def sz2 (a d ta td:Nat):Nat→Nat×Nat
 | 0=>(2*a,2*d)
 | m+1=>(max ((sz2 a d ta td m).1+(d+td)) (a+ta+(sz2 a d ta td m).2)+1,(sz2 a d ta td m).2+(d+td))
def tz (a d:Nat):Nat→Nat×Nat
 | 0=>(0,0)
 | m+1=>(max ((sz2 a d (tz a d m).1 (tz a d m).2 m).1+d) (tz a d m).1,max ((sz2 a d (tz a d m).1 (tz a d m).2 m).2+a) (tz a d m).2)
theorem sub_size {a d ta td:Nat} {x:Rat} {f g:Nat→Rat} (hx:S2 (2*a) (2*d) x) (hf:∀ m,S2 a d (f m)) (hg:∀ m,S2 ta td (g m)):∀ {m:Nat},S2 (sz2 a d ta td m).1 (sz2 a d ta td m).2 (x-sm (fun i=>f i*g i) m)
 | 0=>by
  show S2 (2*a) (2*d) (x-0)
  rw[Rat.sub_eq_add_neg,Rat.neg_zero,Rat.add_zero];exact hx
 | m+1=>by
  have h:=(sub_size hx hf hg (m:=m)).sub ((hf m).mul (hg m));have e:x-sm (fun i=>f i*g i) (m+1)=x-sm (fun i=>f i*g i) m-f m*g m:=by
   show x-(sm _ m+_)=_
   generalize sm (fun i=>f i*g i) m=u
   grind
  rw[e];exact h
theorem tmf_size {R:List (List Rat)} {p:List Nat} {l:Rat} {c a d:Nat} (hR:∀ i j,S2 a d (el R i j)) (hl:S2 a d l):∀ {m i:Nat},S2 (tz a d m).1 (tz a d m).2 (tmf R p l c m i)
 | 0,i=>S2.zero
 | m+1,i=>by
  show S2 _ _ (if i+(m+1)=p.length then _ else tmf R p l c m i)
  split
  ·have h:=(sub_size (x:=l*el R i c) (f:=fun q=>el R i (p.getD (i+1+q) 0)) (g:=fun q=>tmf R p l c m (i+1+q)) ((hl.mul (hR i c)).mono (by omega) (by omega)) (fun q=>hR _ _) (fun q=>tmf_size hR hl (m:=m)) (m:=m)).div (hR i (p.getD i 0))
   exact h.mono (Nat.le_max_left _ _) (Nat.le_max_left _ _)
  ·exact (tmf_size hR hl (m:=m) (i:=i)).mono (Nat.le_max_right _ _) (Nat.le_max_right _ _)
end GE
set_option linter.unusedVariables false
namespace GE
theorem den_times (q:Rat):(q.den:Rat)*q=q.num:=by
 have h:=Rat.num_divInt_den q;have h2:(q.den:Rat)≠0:=by have:=q.den_nz;simpa using this
 rw[Rat.divInt_eq_div] at h;have h3:((q.den:Int):Rat)=(q.den:Rat):=rfl;rw[h3] at h;generalize (q.den:Rat)=d at *;generalize (q.num:Rat)=n at *
 grind
theorem int_of {q:Rat} (h:q.den=1):q=(q.num:Rat):=by
 have:=den_times q;rw[h] at this;rw[←this];exact (Rat.one_mul q).symm
theorem int_mul {x y:Rat} (hx:x.den=1) (hy:y.den=1):(x*y).den=1:=by
 rw[int_of hx,int_of hy,←Rat.intCast_mul];rfl
def wsc:Rat→List Rat→Rat
 | s,[]=>s
 | s,x::l=>wsc (if x.den=1 then s else s*((s*x).den:Rat)) l
structure Pz (s:Rat):Prop where
 d:s.den=1
 p:0<s.num
theorem Pz.mul {x y:Rat} (h1:Pz x) (h2:Pz y):Pz (x*y):=by
 refine⟨int_mul h1.d h2.d,?_⟩
 rw[int_of h1.d,int_of h2.d,←Rat.intCast_mul];exact Int.mul_pos h1.p h2.p
theorem Pz.nat {n:Nat} (h:0<n):Pz (n:Rat):=⟨rfl,by show (0:Int)<(n:Int);omega⟩
theorem Pz.one:Pz 1:=⟨rfl,by decide⟩
theorem Pz.nz {s:Rat} (h:Pz s):s≠0:=by rintro rfl;exact absurd h.p (by decide)
theorem wsc_step {s:Rat} (x:Rat) (h:Pz s):Pz (if x.den=1 then s else s*((s*x).den:Rat)):=by
 split
 ·exact h
 ·exact h.mul (Pz.nat (s*x).den_pos)
theorem wsc_pz:∀ {l:List Rat} {s:Rat},Pz s→Pz (wsc s l)
 | [],s,h=>h
 | x::l,s,h=>wsc_pz (l:=l) (wsc_step x h)
theorem wsc_keep:∀ {l:List Rat} {s x:Rat},(s*x).den=1→(wsc s l*x).den=1
 | [],s,x,h=>h
 | y::l,s,x,h=>by
  refine wsc_keep (l:=l) ?_
  split
  ·exact h
  ·rw[show s*((s*y).den:Rat)*x=((s*y).den:Rat)*(s*x) by generalize ((s*y).den:Rat)=w;grind]
   exact int_mul rfl h
theorem wsc_whole:∀ {l:List Rat} {s x:Rat},Pz s→x∈l→(wsc s l*x).den=1
 | y::l,s,x,hs,h=>by
  rcases List.mem_cons.1 h with rfl | h
  ·refine wsc_keep (l:=l) ?_
   split
   ·rename_i h1;exact int_mul hs.d h1
   ·rw[show s*((s*x).den:Rat)*x=((s*x).den:Rat)*(s*x) by generalize ((s*x).den:Rat)=w;grind,den_times]
    rfl
  ·exact wsc_whole (l:=l) (wsc_step y hs) h
theorem den_le {s x:Rat} (h:s.den=1):(s*x).den≤x.den:=by
 rw[Rat.den_mul,h,Nat.one_mul];exact Nat.div_le_self _ _
theorem wsc_size {d:Nat}:∀ {l:List Rat} {s:Rat} {b:Nat},Pz s→s.num.natAbs≤4294967296^b→(∀ x∈l,x.den≤4294967296^d)→(wsc s l).num.natAbs≤4294967296^(b+d*l.length)
 | [],s,b,hs,h,_=>h
 | y::l,s,b,hs,h,hd=>by
  have ih:=wsc_size (l:=l) (b:=b+d) (wsc_step y hs) ?_ fun x hx=>hd x (List.mem_cons_of_mem _ hx)
  ·refine Nat.le_trans ih (w_mono ?_)
   rw[List.length_cons,Nat.mul_succ];omega
  ·split
   ·exact Nat.le_trans h (w_mono (by omega))
   ·have e:s*((s*y).den:Rat)=((s.num*((s*y).den:Int):Int):Rat):=by
     rw[Rat.intCast_mul,←int_of hs.d];rfl
    rw[e,Rat.num_intCast,Int.natAbs_mul,Int.natAbs_natCast,Nat.pow_add];exact Nat.mul_le_mul h (Nat.le_trans (den_le hs.d) (hd y List.mem_cons_self))
theorem wsc_s2 {l:List Rat} {a d m:Nat} (hl:l.length≤m) (h:∀ x∈l,x.num.natAbs≤4294967296^a∧x.den≤4294967296^d) :
  S2 (d*m) 0 (wsc 1 l)∧∀ x∈l,S2 (d*m+a) 0 (wsc 1 l*x):=by
 have h1:=wsc_size (d:=d) (l:=l) (s:=1) (b:=0) Pz.one (Nat.le_refl 1) fun x hx=>(h x hx).2
 have h2:=wsc_pz (l:=l) Pz.one;have h3:S2 (d*m) 0 (wsc 1 l):=⟨Nat.le_trans h1 (w_mono (by rw[Nat.zero_add];exact Nat.mul_le_mul_left d hl)),by rw[h2.d];exact Nat.le_refl 1⟩
 refine⟨h3,fun x hx=>⟨?_,by rw[wsc_whole Pz.one hx];exact Nat.le_refl 1⟩⟩
 have h4:=(h3.mul (⟨(h x hx).1,(h x hx).2⟩:S2 a d x)).n;exact h4
def rsc (M:List (List Rat)) (i:Nat):Rat:=wsc 1 (M.getD i [])
def wh (M:List (List Rat)):List (List Rat):=M.map fun r=>r.map fun x=>wsc 1 r*x
theorem wh_len {M:List (List Rat)}:(wh M).length=M.length:=List.length_map _
theorem wh_rct {k:Nat} {M:List (List Rat)} (h:rct k M):rct k (wh M):=by
 intro r hr;obtain⟨s,hs,rfl⟩:=List.mem_map.1 hr;rw[List.length_map];exact h s hs
theorem el_wh {M:List (List Rat)} {i j:Nat} (hi:i<M.length):el (wh M) i j=el M i j*rsc M i:=by
 unfold el wh rsc;simp only[List.getD_eq_getElem?_getD,List.getElem?_map,List.getElem?_eq_getElem hi,Option.map_some,Option.getD_some]
 cases M[i][j]? with
 | none=>exact (Rat.zero_mul _).symm
 | some x=>exact Rat.mul_comm _ _
theorem rsc_nz {M:List (List Rat)} {i:Nat}:rsc M i≠0:=(wsc_pz Pz.one).nz
theorem ns_wh {n k:Nat} {M:List (List Rat)} (hn:M.length=n) {x:Nat→Rat}:NS n k (wh M) x↔NS n k M x:=by
 have e:∀ i<n,dt k (wh M) x i=dt k M x i*rsc M i:=fun i hi=>dt_mul fun j=>el_wh (by omega)
 constructor
 ·intro h i hi
  have h1:=h i hi;have h2:=rsc_nz (M:=M) (i:=i);rw[e i hi] at h1;generalize dt k M x i=u at h1 ⊢
  grind
 ·intro h i hi
  rw[e i hi,h i hi,Rat.zero_mul]
theorem elim_red {n k:Nat} {M:List (List Rat)} (hn:M.length=n) (hr:rct k M) {f:Rat} {S:GS} {l:Rat} (h:brun k 0 ⟨wh M,[],f⟩ 1=(S,l)) :
  EF n k S.M S.p k∧l≠0∧S.p=(red k M).p∧∀ j<k,j∉S.p→∀ s (hs:s<S.p.length),el (red k M).M s j=tmf S.M S.p l j S.p.length s / l:=by
 have F0:=ef_start (n:=n) (k:=k) (M:=wh M) (wh_len.trans hn) (wh_rct hr);have h1:=brun_ef (c:=k) (s:=⟨wh M,[],f⟩) (l:=1) F0 (by decide)
 rw[h,Nat.zero_add] at h1;have R:=red_rf hn hr;have h2:=ef_red h1.1 R.1 (fun x=>(h1.2.2 x).trans ((ns_wh hn).trans (R.2 x).symm)) h1.2.1
 exact⟨h1.1,h1.2.1,h2.1,h2.2⟩
end GE
set_option linter.unusedVariables false
namespace GE
variable {n k:Nat}
def rdP (n k:Nat) (S:GS) (l:Rat):List (List Rat):=
 mk n k fun i j=>if j∈S.p then (if i<S.p.length∧S.p.getD i 0=j then 1 else 0) else if i<S.p.length then tmf S.M S.p l j S.p.length i / l else 0
theorem rdP_eq {M:List (List Rat)} (hn:M.length=n) (hr:rct k M) {f:Rat} {S:GS} {l:Rat} (h:brun k 0 ⟨wh M,[],f⟩ 1=(S,l)):rdP n k S l=(red k M).M:=by
 obtain⟨E,hl,hp,he⟩:=elim_red hn hr h;have R:=(red_rf hn hr).1;rw[←hp] at R;refine ext_el mk_len R.len mk_rct R.rect fun i hi j hj=>?_
 unfold rdP;rw[el_mk hi hj]
 by_cases hjp:j∈S.p
 ·rw[if_pos hjp]
  obtain⟨t,ht,rfl⟩:=List.getElem_of_mem hjp
  by_cases h1:i<S.p.length∧S.p.getD i 0=S.p[t]
  ·rw[if_pos h1]
   obtain⟨h2,e⟩:=h1;rw[List.getD_eq_getElem?_getD,List.getElem?_eq_getElem h2] at e
   have e:S.p[i]=S.p[t]:=e;rw[←e];exact (R.one i h2).symm
  ·rw[if_neg h1]
   refine (R.off t ht i hi fun e=>h1 ?_).symm
   subst e;exact⟨ht,by rw[List.getD_eq_getElem?_getD,List.getElem?_eq_getElem ht];rfl⟩
 ·rw[if_neg hjp]
  split
  ·rename_i h1;exact (he j hj hjp i h1).symm
  ·rename_i h1;exact (R.low i (by omega) hi j hj).symm
end GE
namespace Go.Proofs.YtfnkpfbobdmieaaGreat
open Go.RowKit RQ GE
set_option linter.unusedVariables false
theorem noLof {xs:List Value} (h:xs.all (fun v=>match v with | .int .u32 _=>false | _=>true)=true):NoL xs.toArray:=by
 refine NoLl.arr fun v hv z e=>?_
 have:=List.all_eq_true.1 h v hv;rw[e] at this
 cases this
def rwV (x:Gw):Bool×List Nat×List Nat:=(x.b,x.x.x,x.y.x)
def qV (q:Rat):Bool×List Nat×List Nat:=(ng q.num,limbs q.num.natAbs,dn q)
def rwI (rs:List GRd) (x:Gw):Prop:=(x.x.A,x.x.n,x.x.c,x.x.x)∈rs∧(x.y.A,x.y.n,x.y.c,x.y.x)∈rs
theorem rwI.in_ {rs:List GRd} {x:Gw} (h:rwI rs x) (w:World) (bs:List GBk):rwC.In w bs rs x:=⟨trivial,.inl h.1,.inl h.2⟩
theorem rwI.mono {rs rs':List GRd} {x:Gw} (h:rwI rs x) (hr:∀ p∈rs,p∈rs'):rwI rs' x:=⟨hr _ h.1,hr _ h.2⟩
structure RowI (bs:List GBk) (rs:List GRd) (s:Sl Gw):Prop where
 cap:s.L.length≤s.c
 el:∀ x∈s.L,rwI rs x
 mem:s.L=[]∨∃ (g:Nat) (cur:Array Value) (t:Nat),s.A=some ⟨g,0,none⟩∧(g,cur,t)∈bs∧∀ (j:Nat) v,(rwC.all s.L)[j]?=some v→cur[j]?=some v
section
variable {bs bs':List GBk} {rs rs':List GRd} {s:Sl Gw} {w W W':World}
theorem RowI.mono (h:RowI bs rs s) (hb:∀ p∈bs,p∈bs') (hr:∀ p∈rs,p∈rs'):RowI bs' rs' s:=by
 refine⟨h.cap,fun x hx=>(h.el x hx).mono hr,?_⟩
 rcases h.mem with h0 | ⟨g,cur,t,h1,h2,h3⟩
 ·exact .inl h0
 ·exact .inr ⟨g,cur,t,h1,hb _ h2,h3⟩
theorem RowI.in_ (h:RowI bs rs s) (w:World):(slC rwC).In w bs rs s:=by
 refine⟨⟨rfl,?_,fun x hx=>(h.el x hx).in_ w bs⟩,h.cap⟩
 rcases h.mem with h0 | ⟨g,cur,t,h1,h2,h3⟩
 ·exact .inl (by rw[h0];rfl)
 ·exact .inr (.inr ⟨g,cur,t,h1,h2,h3⟩)
theorem RowI.nil_ (bs:List GBk) (rs:List GRd):RowI bs rs ⟨none,0,[]⟩:=⟨Nat.le_refl _,fun x hx=>(by cases hx),Or.inl rfl⟩
theorem St.join {w W W':World} {bs bs':List GBk} {rs rs':List GRd} (h:St w W bs rs) (h':St W W' bs' rs'):St w W' (bs++bs') (rs++rs'):=by
 refine⟨h.bel.trans (h'.bel.mono h.bel.size),fun p hp=>?_,List.pairwise_append.2 ⟨h.nd,h'.nd,fun p hp q hq=>?_⟩,fun r hr=>?_⟩
 ·rcases List.mem_append.1 hp with hp | hp
  ·obtain⟨q1,q2,q3⟩:=h.bk p hp
   exact⟨q1.bel h'.bel,q2,q3⟩
  ·obtain⟨q1,q2,q3⟩:=h'.bk p hp
   exact⟨q1,q2,Nat.le_trans h.bel.size q3⟩
 ·have a:=(h.bk p hp).1.lt
  have b:=(h'.bk q hq).2.2
  omega
 ·rcases List.mem_append.1 hr with hr | hr
  ·exact (h.rd r hr).below h'.bel
  ·exact h'.rd r hr
theorem Gro.drow {e:Nat} {v:Value} {L:List Gw} (h:Gro rwC w W bs rs e v L) (hx:∀ x∈L,rwI rs x):∃ A c bs',v=.slice A L.length c∧St w W bs' rs∧(∀ p∈bs,p∈bs')∧RowI bs' rs ⟨A,c,L⟩:=by
 obtain⟨⟨h1,h2,⟨rfl,h3,S⟩ | ⟨g,cap,cur,rfl,h3,h4,h5,h6,S⟩⟩,_⟩:=h
 ·have:L=[]:=List.length_eq_zero_iff.1 h3
  subst this;exact⟨none,0,bs,rfl,S,fun _ h=>h,.nil_ _ _⟩
 ·refine⟨_,_,_,rfl,S,fun _ h=>List.mem_cons_of_mem _ h,h3,hx,.inr ⟨g,cur,e,rfl,List.mem_cons_self,fun j u hu=>?_⟩⟩
  rw[←h6,List.getElem?_take] at hu
  split at hu
  ·simpa using hu
  ·cases hu
end
def MatV (L:List (Sl Gw)) (M:List (List Rat)):Prop:=L.map (fun s=>s.L.map rwV)=M.map (fun r=>r.map qV)
theorem MatV.len {L:List (Sl Gw)} {M:List (List Rat)} (h:MatV L M):L.length=M.length:=by have:=congrArg List.length h;simpa using this
section
variable {α:Type} {C:Cod α} {w W W':World} {g t:Nat} {L:List α} {bs:List GBk} {rs:List GRd}
end
theorem bel_cell {w W:World} (h:Below w.heap.size w W) {a:Addr} {v:Value} (hc:w.cell? a=some v):W.cell? a=some v:=by
 have hlt:a.block<w.heap.size:=by
  rcases Nat.lt_or_ge a.block w.heap.size with h1 | h1
  ·exact h1
  ·rw[World.cell?,Array.getElem?_eq_none h1] at hc
   cases hc
 rw[World.cell?_of_block (h.block a.block hlt)];exact hc
section
variable {w W:World} {A:Option Addr} {n:Nat}
theorem row_get {L:List Gw} (h:LR rwC W A n L) {i:Nat} (hi:i<n):∃ b o x,A=some ⟨b,o,none⟩∧L[i]?=some x∧x∈L∧W.cell? ⟨b,o+i*3,none⟩=some (.bool x.b)∧W.cell? ⟨b,o+i*3+1,none⟩=some (.slice x.x.A x.x.n x.x.c)∧W.cell? ⟨b,o+i*3+2,none⟩=some (.slice x.y.A x.y.n x.y.c)∧Rd W x.x.A x.x.n x.x.c x.x.x∧Rd W x.y.A x.y.n x.y.c x.y.x:=by
 obtain⟨b,o,x,h1,h2,h3,h4,h5⟩:=h.get hi;have q0:=h5 0 _ rfl;have q1:=h5 1 _ rfl;have q2:=h5 2 _ rfl;rw[show rwC.sz=3 from rfl] at q0 q1 q2
 rw[Nat.add_zero] at q0;exact⟨b,o,x,h1,h2,h3,q0,q1,q2,h4.2.1,h4.2.2⟩
theorem map_at {α β γ:Type} {f:α→γ} {g:β→γ} {L:List α} {M:List β} (h:L.map f=M.map g) {i:Nat} {x:α} (hx:L[i]?=some x):∃ q,M[i]?=some q∧q∈M∧f x=g q:=by
 have e:=congrArg (fun l=>l[i]?) h
 simp only[List.getElem?_map,hx,Option.map_some] at e
 cases hq:M[i]? with
 | none=>rw[hq] at e;cases e
 | some q=>rw[hq] at e;injection e with e;exact⟨q,rfl,List.mem_of_getElem? hq,e⟩
theorem rw_rr {x:Gw} {q:Rat} (h:rwV x=qV q) (R1:Rd W x.x.A x.x.n x.x.c x.x.x) (R2:Rd W x.y.A x.y.n x.y.c x.y.x):x.b=ng q.num∧RR W x.x.A x.x.n x.x.c x.y.A x.y.n x.y.c q:=by
 unfold rwV qV at h;simp only[Prod.mk.injEq] at h;obtain⟨h1,h2,h3⟩:=h;rw[h2] at R1;rw[h3] at R2;exact⟨h1,⟨R1,R2⟩⟩
end
section
variable {P:Program} {ops:Array Oper} {Q:Exit→Act→World→Prop} {S:World→Prop}
theorem Wk.t {L:Array Bool} {a:Act} {w:World} {i:Nat} {oi:Oper} {v:Value} (dst:Option Nat) (hi:ops[i]?=some oi) (hd:oi.dst=dst:=by rfl) (hc:takeOk ops [] L i oi=true:=by kernel_rfl) (hw:Region.wanted oi (yielded ops a.tmps)=true:=by kernel_rfl)
  (hQ:∀ c a w,Q (.panic c) (Act.put a dst v) w→Q (.panic c) a w:=by exact fun _ _ _ h=>h) (hy:∀ w,S w→(execOp a.eval oi).run P w=.ok (.value v) w) (hS:S w)
  (h:Wk P ops Q S (L.setIfInBounds i true) (a.put dst v) w):Wk P ops Q S L a w:=by
 simp only[takeOk,Bool.and_eq_true,Bool.not_eq_true'] at hc;obtain⟨⟨⟨⟨c1,c2⟩,c3⟩,_⟩,_⟩:=hc;subst hd;exact Wk.take hi c1 c2 (by simpa using c3) hQ (.inl ⟨hw,hy⟩) hS h
theorem Wk.g {i:Nat} {o:Oper} {L:Array Bool} {a:Act} {w:World} (ho:ops[i]?=some o) (hr:(Region.ready .any ops L==[i])=true) (hw:Region.wanted o (yielded ops a.tmps)=true)
  (h:∀ K':Act→World→Prop,Shut (∀ a w,S w→Wk P ops Q S (L.setIfInBounds i true) a w→K' a w)→Oper.wp P o a w K' Q):Wk P ops Q S L a w:=
 Wk.one (by simpa using hr) ho hw fun K' hK=>h K' (fun a w hS hW=>hK.out a w hS fun _=>hW)
theorem oper_call {P:Program} {o:Oper} {f:FuncId} {args:Array Value} {dst:Option Nat} {a:Act} {w:World} {K':Act→World→Prop} {Q:Exit→Act→World→Prop} (hd:o.dst=dst) (hx:(execOp a.eval o).run P w=.ok (.enter f args) w) (h:Calls P f args w fun e w'=>∃ v,e=.returned v∧K' (a.put dst v) w'):Oper.wp P o a w K' Q:=by
 unfold Oper.wp;rw[hx];refine Calls.mono h ?_
 rintro e w' ⟨v,rfl,hk⟩;subst hd;exact hk
end
section
variable {P:Program} {ops:Array Oper} {Q:Exit→Act→World→Prop} {S:World→Prop}
theorem Wk.two {i j:Nat} {oi oj:Oper} {L:Array Bool} {a:Act} {w:World} (hi:ops[i]?=some oi) (hj:ops[j]?=some oj) (hr:(((Region.ready .any ops L==[i,j])&&oi.guard.isNone)&&oj.guard.isNone)=true)
  (h1:∀ K':Act→World→Prop,Shut (∀ a w,S w→Wk P ops Q S (L.setIfInBounds i true) a w→K' a w)→Oper.wp P oi a w K' Q)
  (h2:∀ K':Act→World→Prop,Shut (∀ a w,S w→Wk P ops Q S (L.setIfInBounds j true) a w→K' a w)→Oper.wp P oj a w K' Q):Wk P ops Q S L a w:=by
 simp only[Bool.and_eq_true,beq_iff_eq] at hr;obtain⟨⟨r,gi⟩,gj⟩:=hr;refine Wk.all ⟨i,by rw[r];simp⟩ fun k hk=>?_
 rw[r] at hk
 rcases List.mem_cons.1 hk with rfl | hk
 ·exact wpOp_step hi (fun K' hK=>by rw[if_pos (wanted_none gi)];exact h1 K' (fun a w hS hW=>hK a w ⟨hS,hW⟩))
 ·have:=List.mem_singleton.1 hk
  subst this;exact wpOp_step hj (fun K' hK=>by rw[if_pos (wanted_none gj)];exact h2 K' (fun a w hS hW=>hK a w ⟨hS,hW⟩))
end
theorem rwI.rr {w W:World} {bs:List GBk} {rs:List GRd} {y:Gw} {q:Rat} (h:rwI rs y) (S:St w W bs rs) (hv:rwV y=qV q):y.b=ng q.num∧RR W y.x.A y.x.n y.x.c y.y.A y.y.n y.y.c q:=rw_rr hv (S.rd _ h.1) (S.rd _ h.2)
end Go.Proofs.YtfnkpfbobdmieaaGreat
namespace Go.Proofs.YtfnkpfbobdmieaaGreat
open Go.RowKit RQ GE
set_option linter.unusedVariables false
section
variable {α:Type} {C:Cod α} {w W:World} {bs:List GBk} {rs:List GRd} {e:Nat} {v:Value} {L:List α}
theorem Gro.op {P:Program} {o:Oper} {a:Act} {K':Act→World→Prop} {Q:Exit→Act→World→Prop} (s x:Operand) (ty:TypeId)
  (ho:o.op=.call { callee:=.builtin .append,args:=#[s,x],argTypes:=#[ty,ty] })
  (z:Value) (bytes:Nat) (ht:P.underlying ty=some (.slice e)) (hi:(P.info? e).map (fun i=>(i.zero,i.size,i.bytes))=some (some z,C.sz,bytes))
  (hzs:z.cells.size=C.sz) (hzn:NoLl z.cells.toList) (hs:a.eval s=v) (h:Gro C w W bs rs e v L)
  (g:Nat) (y:α) {t:Nat} (hx:a.eval x=.slice (some ⟨g,0,none⟩) 1 1) (hc:Cb W g (C.cs y).toArray t) (hy:C.In w bs rs y) (hn:(L.length+1)*bytes≤140737488355328) (h63:L.length+1≤maxLen)
  (hk:∀ v' W',Gro C w W' bs rs e v' (L++[y])→K' (a.put o.dst v') W'):Oper.wp P o a W K' Q:=by
 obtain⟨i0,hi0,hzz⟩:=Option.map_eq_some_iff.1 hi;simp only[Prod.mk.injEq] at hzz;obtain⟨hz0,hz1,hz2⟩:=hzz;obtain⟨v',W',hr,hA⟩:=Apd.run (P:=P) ty o.type i0 z bytes ht hi0 hz0 hz1 hz2 hzs hzn h.1 ⟨g,0,none⟩ 1 1 (C.cs y) (by rw[C.len,Nat.one_mul]) (fun j u hu=>by
  have hadd:(⟨g,0,none⟩:Addr).add j=⟨g,j,none⟩:=by unfold Addr.add;split<;>simp_all
  rw[hadd];exact hc.cell (by rw[List.getElem?_toArray];exact hu)) (C.one y) (C.noL y) (by decide) h63 hn
 unfold Oper.wp execOp;simp only[ho,resolve,invoke,builtin,Sem.run_bind,Sem.run_pure,Result.andThen_ok,List.map_toArray,List.map_cons,List.map_nil,hs,hx,hr];refine hk v' W' ⟨?_,fun x hx=>?_⟩
 ·rw[all_app,all_one,List.length_append];exact hA
 ·rcases List.mem_append.1 hx with hx | hx
  ·exact h.2 x hx
  ·rw[List.mem_singleton.1 hx];exact hy
end
def RowO (M:List Rat) (w:World) (e:Ending) (w':World):Prop:=∃ A c L bs rs,e=.returned (.slice A L.length c)∧St w w' bs rs∧RowI bs rs ⟨A,c,L⟩∧L.map rwV=M.map qV
theorem RowI.lr {w W:World} {bs:List GBk} {rs:List GRd} {s:Sl Gw} (h:RowI bs rs s) (S:St w W bs rs):LR rwC W s.A s.L.length s.L:=(h.in_ w).1.lr S
def RowG (M:List Rat) (w:World) (e:Ending) (w':World):Prop:=∃ v L rs,e=.returned v∧Gro rwC w w' [] rs 45 v L∧(∀ x∈L,rwI rs x)∧L.map rwV=M.map qV
theorem RowG.row {M:List Rat} {w:World} {e:Ending} {w':World} (h:RowG M w e w'):RowO M w e w':=by
 obtain⟨v,L,rs,rfl,G,hI,hV⟩:=h;obtain⟨A9,c9,bs9,hv,S9,_,hrow⟩:=G.drow hI;exact⟨A9,c9,L,bs9,rs,by rw[hv],S9,hrow,hV⟩
end Go.Proofs.YtfnkpfbobdmieaaGreat
namespace Go.Proofs.YtfnkpfbobdmieaaGreat
open Go.RowKit RQ GE
set_option linter.unusedVariables false
section
variable {P:Program} {ops:Array Oper} {Q:Exit→Act→World→Prop} {S:World→Prop} {K:List Nat}
def early (K:List Nat) (L:Array Bool):Bool:=K.all fun k=>!(L.getD k false)
def wpL (P:Program) (ops:Array Oper) (Q:Exit→Act→World→Prop) (S:World→Prop) (K:List Nat):Nat→Array Bool→Act→World→Prop
 | 0,L,a,w=>Region.ready .any ops L=[]∧Q .normal a w
 | n+1,L,a,w=>(Region.ready .any ops L=[]→Q .normal a w) ∧
  ∀ i∈Region.ready .any ops L,wpOp P ops Q i (fun a' w'=>(early K (L.setIfInBounds i true)=true→S w')∧wpL P ops Q S K n (L.setIfInBounds i true) a' w') a w
theorem wpAny_of_L:∀ (fuel:Nat) (L:Array Bool) (a:Act) (w:World),wpL P ops Q S K fuel L a w→wpAny P .any ops Q fuel L a w
 | 0,_,_,_,h=>h
 | n+1,_,_,_,h=>⟨h.1,fun i hi=>wpOp_mono (fun a' w' h'=>wpAny_of_L n _ a' w' h'.2) (h.2 i hi)⟩
def clos (ops:Array Oper) (L:Array Bool):Prop:=∀ j o,ops[j]?=some o→L.getD j false=true→∀ e∈o.after,Region.binds .any e=true→L.getD e.on false=true
def closB (ops:Array Oper) (L:Array Bool):Bool:=(List.range ops.size).all fun j=>!(L.getD j false)||match ops[j]? with
 | some o=>o.after.toList.all fun e=>!(Region.binds .any e)||L.getD e.on false
 | none=>true
theorem clos_of {L:Array Bool} (h:closB ops L=true):clos ops L:=by
 intro j o ho hj e he hb;have hlt:j<ops.size:=(Array.getElem?_eq_some_iff.1 ho).1
 have:=List.all_eq_true.1 h j (List.mem_range.2 hlt);rw[ho,hj] at this;simp only[Bool.not_true,Bool.false_or] at this;have:=List.all_eq_true.1 this e (by simpa using he)
 rw[hb] at this
 simpa using this
def waits (ops:Array Oper) (i:Nat):Nat→Nat→Bool
 | 0,_=>false
 | n+1,k=>match ops[k]? with
  | some o=>o.after.toList.any fun e=>Region.binds .any e&&(e.on==i||waits ops i n e.on)
  | none=>false
theorem waits_done {i:Nat} {L:Array Bool} (hc:clos ops L):∀ (n k:Nat) (o:Oper),ops[k]?=some o→(∀ e∈o.after,Region.binds .any e=true→L.getD e.on false=true)→waits ops i n k=true→L.getD i false=true:=by
 intro n
 induction n with
 | zero=>intro k o _ _ h;cases h
 | succ n ih=>
  intro k o ho hd h;unfold waits at h;rw[ho] at h;obtain⟨e,he,h⟩:=List.any_eq_true.1 h;rw[Bool.and_eq_true,Bool.or_eq_true] at h;obtain⟨hb,h⟩:=h;have hde:=hd e (by simpa using he) hb
  rcases h with h | h
  ·rw[←eq_of_beq h];exact hde
  ·cases hn:ops[e.on]? with
   | none=>cases n with
    | zero=>cases h
    | succ n=>unfold waits at h;rw[hn] at h;cases h
   | some o'=>exact ih e.on o' hn (fun e' he' hb'=>hc _ o' hn hde e' he' hb') h
theorem clos_set {j:Nat} {L:Array Bool} (hc:clos ops L) (hj:j∈Region.ready .any ops L):clos ops (L.setIfInBounds j true):=by
 intro k o ho hk e he hb;obtain⟨hju,oj,hoj,hall⟩:=mem_ready.1 hj
 by_cases hkj:j=k
 ·subst hkj
  rw[ho] at hoj;obtain rfl:=Option.some.inj hoj;exact getD_set_true (hall e he hb)
 ·have:L.getD k false=true:=by
   rwa [getD_set_ne false hkj] at hk
  exact getD_set_true (hc k o ho this e he hb)
theorem early_set {j:Nat} {L:Array Bool} (h:early K L=true) (hj:j∉K):early K (L.setIfInBounds j true)=true:=by
 refine List.all_eq_true.2 fun k hk=>?_
 have:=List.all_eq_true.1 h k hk
 rwa [getD_set_ne false (show j≠k from fun e=>hj (by rw[e];exact hk))]
theorem wpL_first {i:Nat} {oi:Oper} {v:Value} (hi:ops[i]?=some oi) (hsel:∀ (j:Nat) (o:Oper) cs b,ops[j]?=some o→o.op≠.select cs b)
  (hQ:∀ c a w,Q (.panic c) (a.put oi.dst v) w→Q (.panic c) a w) (hiK:i∉K) (hw:∀ k∈K,∃ n,waits ops i n k=true) :
  ∀ (fuel:Nat) (L:Array Bool) (a:Act) (w:World),clos ops L→early K L=true →
   (∀ j oj,ops[j]?=some oj→j≠i→L.getD j true=false→(∀ e∈oj.after,Region.binds .any e=true→e.on≠i)→oi.apart ops oj=true) →
   i∈Region.ready .any ops L→YieldsIf P ops S oi v a→S w →
   wpL P ops Q S K fuel (L.setIfInBounds i true) (a.put oi.dst v) w→wpL P ops Q S K (fuel+1) L a w:=by
 intro fuel
 induction fuel with
 | zero=>
  intro L a w _ _ _ hr hy hS H;refine⟨fun h=>(by rw[h] at hr;cases hr),fun j hj=>?_⟩
  by_cases hji:j=i
  ·subst hji;exact hy.wpOp hi hS ⟨fun _=>hS,H⟩
  ·have:=ready_mono hj hji
   rw[H.1] at this
   cases this
 | succ fuel ih=>
  intro L a w hcl hea hfree hr hy hS H;refine⟨fun h=>(by rw[h] at hr;cases hr),fun j hj=>?_⟩
  by_cases hji:j=i
  ·subst hji;exact hy.wpOp hi hS ⟨fun _=>hS,H⟩
  ·have h1:=H.2 j (ready_mono hj hji)
   obtain⟨hjun,oj,hoj,hall⟩:=mem_ready.1 hj;have hiun:¬ L.getD i false=true:=fun h1=>by
    have h0:=(mem_ready.1 hr).1
    rcases Nat.lt_or_ge i L.size with h' | h'
    ·simp[h'] at h0 h1;rw[h0] at h1;cases h1
    ·simp[Array.getElem?_eq_none h'] at h1
   have hnot:∀ e∈oj.after,Region.binds .any e=true→e.on≠i:=fun e he hb heq=>by
    have h1:=hall e he hb;rw[heq] at h1;exact hiun h1
   have hjK:j∉K:=fun hk=>by
    obtain⟨n,hn⟩:=hw j hk;exact hiun (waits_done hcl n j oj hoj hall hn)
   have h2:=wpOp_putIf hoj (hfree j oj hoj hji hjun hnot) (fun cs b=>hsel i oi cs b hi) (fun cs b=>hsel j oj cs b hoj) hQ hy h1
   have hfree':∀ k ok,ops[k]?=some ok→k≠i→(L.setIfInBounds j true).getD k true=false →
     (∀ e∈ok.after,Region.binds .any e=true→e.on≠i)→oi.apart ops ok=true:=fun k ok hk hki hun hno=>by
    refine hfree k ok hk hki ?_ hno
    by_cases hjk:j=k
    ·subst hjk;exact hjun
    ·rw[getD_set_ne true hjk] at hun;exact hun
   have hej:early K (L.setIfInBounds j true)=true:=early_set hea hjK;refine wpOp_mono (fun a' w' h3=>⟨fun _=>h3.2.1 (by rw[Array.setIfInBounds_comm _ _ (Ne.symm hji)];exact early_set hej hiK),ih (L.setIfInBounds j true) a' w' (clos_set hcl hj) hej hfree' (ready_mono hr (Ne.symm hji)) h3.1 (h3.2.1 (by rw[Array.setIfInBounds_comm _ _ (Ne.symm hji)];exact early_set hej hiK)) ?_⟩) h2
   rw[Array.setIfInBounds_comm _ _ hji];exact h3.2.2
def Wl (P:Program) (ops:Array Oper) (Q:Exit→Act→World→Prop) (S:World→Prop) (K:List Nat) (L:Array Bool) (a:Act) (w:World):Prop:=wpL P ops Q S K (lft L) L a w
theorem Wl.start {id:Nat} {a:Act} {w:World} (S:World→Prop) (K:List Nat) (hm:P.follows .mixedOrders=true) (h:Wl P ops Q S K (Array.replicate ops.size false) a w.drew):(Code.region id ops true).wp P Q a w:=by
 unfold Wl at h;rw[show lft (Array.replicate ops.size false)=ops.size by simp[lft]] at h
 exact wp_region_any hm (wpAny_of_L _ _ _ _ h)
def lateOk (ops:Array Oper) (K:List Nat) (L:Array Bool) (i:Nat):Bool:=
 Region.noSelect ops&&Region.free .any ops L i&&(Region.ready .any ops L).contains i&&closB ops L&&early K L && !(K.contains i)&&K.all (waits ops i 20)
theorem Wl.t {L:Array Bool} {a:Act} {w:World} {i:Nat} {oi:Oper} {v:Value} (dst:Option Nat) (hi:ops[i]?=some oi) (hd:oi.dst=dst:=by rfl) (hc:lateOk ops K L i=true:=by kernel_rfl) (hw:Region.wanted oi (yielded ops a.tmps)=true:=by kernel_rfl)
  (hQ:∀ c a w,Q (.panic c) (Act.put a dst v) w→Q (.panic c) a w:=by exact fun _ _ _ h=>h) (hy:∀ w,S w→(execOp a.eval oi).run P w=.ok (.value v) w) (hS:S w)
  (h:Wl P ops Q S K (L.setIfInBounds i true) (a.put dst v) w):Wl P ops Q S K L a w:=by
 simp only[lateOk,Bool.and_eq_true,Bool.not_eq_true'] at hc;obtain⟨⟨⟨⟨⟨⟨c1,c2⟩,c3⟩,c4⟩,c5⟩,c6⟩,c7⟩:=hc;subst hd;have hm:i∈Region.ready .any ops L:=by simpa using c3
 unfold Wl at *;rw[lft_set (mem_ready.1 hm).1];exact wpL_first hi (Region.noSelect_spec c1) hQ (by simpa using c6) (fun k hk=>⟨20,List.all_eq_true.1 c7 k hk⟩) _ _ _ _ (clos_of c4) c5 (Region.free_spec hi c2) hm (.inl ⟨hw,hy⟩) hS h
theorem Wl.one {i:Nat} {o:Oper} {L:Array Bool} {a:Act} {w:World} (hr:(Region.ready .any ops L==[i])=true) (ho:ops[i]?=some o) (hw:Region.wanted o (yielded ops a.tmps)=true)
  (h:∀ K':Act→World→Prop,Shut (∀ a w,(early K (L.setIfInBounds i true)=true→S w)→Wl P ops Q S K (L.setIfInBounds i true) a w→K' a w)→Oper.wp P o a w K' Q):Wl P ops Q S K L a w:=by
 have hr:Region.ready .any ops L=[i]:=by simpa using hr
 have hm:i∈Region.ready .any ops L:=by rw[hr];exact List.mem_singleton.2 rfl
 unfold Wl at *;rw[lft_set (mem_ready.1 hm).1];refine⟨fun h0=>(by rw[h0] at hr;cases hr),fun j hj=>?_⟩
 rw[hr] at hj;have:=List.mem_singleton.1 hj;subst this;exact wpOp_step ho (fun K' hK=>by rw[if_pos hw];exact h K' (fun a w hS hW=>hK a w ⟨hS,hW⟩))
theorem Wl.g {i:Nat} {o:Oper} {L:Array Bool} {a:Act} {w:World} (ho:ops[i]?=some o) (hr:(Region.ready .any ops L==[i])=true) (hw:Region.wanted o (yielded ops a.tmps)=true)
  (h:∀ K':Act→World→Prop,Shut (∀ a w,S w→Wl P ops Q S K (L.setIfInBounds i true) a w→K' a w)→Oper.wp P o a w K' Q):Wl P ops Q S K L a w:=by
 refine Wl.one hr ho hw fun K' hK=>h K' ?_
 exact fun a w hS hW=>hK.out a w (fun _=>hS) hW
theorem Wl.s {i:Nat} {o:Oper} {L:Array Bool} {a:Act} {w:World} (ho:ops[i]?=some o) (hr:(Region.ready .any ops L==[i])=true) (hw:Region.wanted o (yielded ops a.tmps)=true) (hk:early K (L.setIfInBounds i true)=false)
  (h:∀ K':Act→World→Prop,Shut (∀ a w,Wl P ops Q S K (L.setIfInBounds i true) a w→K' a w)→Oper.wp P o a w K' Q):Wl P ops Q S K L a w:=by
 refine Wl.one hr ho hw fun K' hK=>h K' ?_
 exact fun a w hW=>hK.out a w (fun h=>by rw[hk] at h;cases h) hW
theorem Wl.done {L:Array Bool} {a:Act} {w:World} (hr:Region.ready .any ops L=[]) (h:Q .normal a w):Wl P ops Q S K L a w:=by
 unfold Wl
 cases lft L with
 | zero=>exact⟨hr,h⟩
 | succ n=>exact⟨fun _=>h,by rw[hr];simp⟩
end
end Go.Proofs.YtfnkpfbobdmieaaGreat
namespace GE
theorem rct.getD {k:Nat} {M:List (List Rat)} (h:rct k M) {i:Nat} (hi:i<M.length):(M.getD i []).length=k:=rct_getD h hi
theorem rct.set {k:Nat} {M:List (List Rat)} (h:rct k M) {i:Nat} {r:List Rat} (hr:r.length=k):rct k (M.set i r):=rct_set h hr
end GE
namespace Go.Proofs.YtfnkpfbobdmieaaGreat
open Go.RowKit RQ GE
set_option linter.unusedVariables false
def Mx (cur:Array Value) (L:List (Sl Gw)):Prop:=∀ (i:Nat) (s:Sl Gw),L[i]?=some s→cur[i]?=some s.v
theorem Mx.set {cur:Array Value} {L:List (Sl Gw)} (h:Mx cur L) {i:Nat} (x:Sl Gw):Mx (cur.setIfInBounds i x.v) (L.set i x):=by
 intro k s hs
 by_cases hk:i=k
 ·subst hk
  rcases Nat.lt_or_ge i L.length with hl | hl
  ·rw[List.getElem?_set_self hl] at hs
   obtain rfl:=Option.some.inj hs;have h1:=h i _ (List.getElem?_eq_getElem hl)
   have:i<cur.size:=(Array.getElem?_eq_some_iff.1 h1).1
   rw[Array.getElem?_setIfInBounds_self_of_lt this]
  ·rw[List.getElem?_eq_none (by rw[List.length_set];exact hl)] at hs
   cases hs
 ·rw[List.getElem?_set_ne hk] at hs
  rw[Array.getElem?_setIfInBounds_ne hk]
  exact h k s hs
def RSt (w wr:World) (g fb zb n k:Nat) (pv:Value) (s:GS):Prop:=∃ (cur:Array Value) (bs:List GBk) (rs:List GRd) (L:List (Sl Gw)) (y z:Gw),
 Gro intC w wr ((g,cur,23)::(fb,y.vs,45)::(zb,z.vs,45)::bs) rs 3 pv (s.p.map Int.ofNat)∧L.length=n∧Mx cur L∧(∀ x∈L,RowI bs rs x)∧MatV L s.M∧rct k s.M∧rwI rs y∧rwV y=qV s.f
section
variable {w wr W':World} {g fb zb n k:Nat} {pv:Value} {s:GS}
theorem RSt.call (h:RSt w wr g fb zb n k pv s) (hb:Below wr.heap.size wr W'):RSt w W' g fb zb n k pv s:=by
 obtain⟨cur,bs,rs,L,y,z,G,h⟩:=h;exact⟨cur,bs,rs,L,y,z,G.call hb,h⟩
theorem RSt.bel (h:RSt w wr g fb zb n k pv s):Below w.heap.size w wr:=by
 obtain⟨cur,bs,rs,L,y,z,G,h⟩:=h;exact G.st.bel
theorem RSt.len (h:RSt w wr g fb zb n k pv s):s.M.length=n:=by
 obtain⟨cur,bs,rs,L,y,z,G,h1,h2,h3,h4,h5⟩:=h;rw[←h4.len];exact h1
theorem RSt.rect (h:RSt w wr g fb zb n k pv s):rct k s.M:=by
 obtain⟨cur,bs,rs,L,y,z,G,h1,h2,h3,h4,h5,_⟩:=h;exact h5
theorem RSt.row (h:RSt w wr g fb zb n k pv s) {i:Nat} (hi:i<n):∃ A c R,wr.cell? ⟨g,i,none⟩=some (.slice A k c)∧LR rwC wr A k R∧R.map rwV=(s.M.getD i []).map qV∧(s.M.getD i []).length=k:=by
 have hr:=h.rect.getD (i:=i) (by rw[h.len];exact hi)
 obtain⟨cur,bs,rs,L,y,z,G,h1,h2,h3,h4,h5⟩:=h;have hx:L[i]?=some L[i]:=List.getElem?_eq_getElem (by omega)
 obtain⟨q,hq,hqm,hxq⟩:=map_at h4 hx;have e:s.M.getD i []=q:=by rw[List.getD_eq_getElem?_getD,hq];rfl
 have hl:L[i].L.length=k:=by have:=congrArg List.length hxq;rw[List.length_map,List.length_map,←e,hr] at this;exact this
 have hc:=(G.st.cb 0 rfl).cell (h2 i _ hx);refine⟨L[i].A,L[i].c,L[i].L,?_,?_,?_,hr⟩
 ·rw[hc];show some (Value.slice _ _ _)=_;rw[hl]
 ·have:=((h3 L[i] (List.getElem_mem _)).mono (bs':=(g,cur,23)::(fb,y.vs,45)::(zb,z.vs,45)::bs) (rs':=rs) (fun p hp=>List.mem_cons_of_mem _ (List.mem_cons_of_mem _ (List.mem_cons_of_mem _ hp))) (fun p hp=>hp)).lr G.st
  rwa [hl] at this
 ·rw[e];exact hxq
theorem RSt.cells (h:RSt w wr g fb zb n k pv s):(∀ i,wr.frozen? ⟨g,i,none⟩=false)∧(∀ i,wr.frozen? ⟨fb,i,none⟩=false)∧(∀ i,wr.frozen? ⟨zb,i,none⟩=false):=by
 obtain⟨cur,bs,rs,L,y,z,G,h⟩:=h;exact⟨fun i=>G.st.f 0 i rfl,fun i=>G.st.f 1 i rfl,fun i=>G.st.f 2 i rfl⟩
theorem RSt.step {α:Type} {C:Cod α} {e:Nat} {bs bs':List GBk} {rs rs':List GRd} {v:Value} {L:List α} (G:Gro C w wr bs rs e v L) (hC:∀ x w bs rs,C.In w bs rs x) (h:∀ ob,St w wr (bs++ob) rs→St w W' (bs'++ob) rs'):Gro C w W' bs' rs' e v L:=by
 obtain⟨ob,h1,h2⟩:=G.1.open_;exact⟨Apd.close h1 (h ob h2),fun x _=>hC x _ _ _⟩
theorem intC_in:∀ (x:Int) w bs rs,intC.In w bs rs x:=fun _ _ _ _=>trivial
theorem RSt.put (h:RSt w wr g fb zb n k pv s) {bs':List GBk} {rs':List GRd} {A:Option Addr} {c i:Nat} {R:List Gw} {r:List Rat} (S:St wr W' bs' rs') (hI:RowI bs' rs' ⟨A,c,R⟩) (hR:R.map rwV=r.map qV) (hr:r.length=k):RSt w (W'.setCell ⟨g,i,none⟩ (.slice A k c)) g fb zb n k pv ⟨s.M.set i r,s.p,s.f⟩:=by
 obtain⟨cur,bs,rs,L,y,z,G,h1,h2,h3,h4,h5,h6,h7⟩:=h;have hl:R.length=k:=by have:=congrArg List.length hR;rw[List.length_map,List.length_map,hr] at this;exact this
 have e:(⟨A,c,R⟩:Sl Gw).v=.slice A k c:=by show Value.slice _ _ _=_;rw[hl]
 refine⟨cur.setIfInBounds i (⟨A,c,R⟩:Sl Gw).v,bs++bs',rs++rs',L.set i ⟨A,c,R⟩,y,z,RSt.step G intC_in fun ob h=>?_,by rw[List.length_set];exact h1,h2.set _,fun x hx=>?_,?_,h5.set hr,h6.mono (fun p hp=>List.mem_append_left _ hp),h7⟩
 ·have h8:=(h.join S).set 0 i (.slice A k c) rfl (fun _ e=>by cases e)
  rw[e];refine h8.prm ?_
  simp only[List.cons_append,List.set_cons_zero,List.append_assoc];refine ((List.Perm.append_left bs List.perm_append_comm).cons _ |>.cons _ |>.cons _)
 ·rcases List.mem_or_eq_of_mem_set hx with hx | rfl
  ·exact (h3 x hx).mono (fun p hp=>List.mem_append_left _ hp) (fun p hp=>List.mem_append_left _ hp)
  ·exact hI.mono (fun p hp=>List.mem_append_right _ hp) (fun p hp=>List.mem_append_right _ hp)
 ·unfold MatV at *
  rw[List.map_set,List.map_set,h4,hR]
theorem RSt.swap (h:RSt w wr g fb zb n k pv s) {a t:Nat} {va vt:Value} (ha:a<n) (ht:t<n) (ca:wr.cell? ⟨g,a,none⟩=some va) (ct:wr.cell? ⟨g,t,none⟩=some vt):RSt w ((wr.setCell ⟨g,a,none⟩ vt).setCell ⟨g,t,none⟩ va) g fb zb n k pv ⟨swp s.M a t,s.p,s.f⟩:=by
 obtain⟨cur,bs,rs,L,y,z,G,h1,h2,h3,h4,h5,h6,h7⟩:=h;have xa:L[a]?=some L[a]:=List.getElem?_eq_getElem (by omega)
 have xt:L[t]?=some L[t]:=List.getElem?_eq_getElem (by omega)
 have ka:=(G.st.cb 0 rfl).cell (h2 a _ xa);have kt:=(G.st.cb 0 rfl).cell (h2 t _ xt);rw[ca] at ka;rw[ct] at kt;obtain rfl:=Option.some.inj ka;obtain rfl:=Option.some.inj kt;obtain⟨qa,hqa,_,hxa⟩:=map_at h4 xa;obtain⟨qt,hqt,_,hxt⟩:=map_at h4 xt;have ea:s.M.getD a []=qa:=by rw[List.getD_eq_getElem?_getD,hqa];rfl
 have et:s.M.getD t []=qt:=by rw[List.getD_eq_getElem?_getD,hqt];rfl
 refine⟨(cur.setIfInBounds a L[t].v).setIfInBounds t L[a].v,bs,rs,(L.set a L[t]).set t L[a],y,z,RSt.step G intC_in fun ob h=>?_,by rw[List.length_set,List.length_set];exact h1,(h2.set _).set _,fun x hx=>?_,?_,?_,h6,h7⟩
 ·exact (h.set 0 a L[t].v rfl (fun _ e=>by cases e)).set 0 t L[a].v rfl (fun _ e=>by cases e)
 ·rcases List.mem_or_eq_of_mem_set hx with hx | rfl
  ·rcases List.mem_or_eq_of_mem_set hx with hx | rfl
   ·exact h3 x hx
   ·exact h3 _ (List.getElem_mem _)
  ·exact h3 _ (List.getElem_mem _)
 ·unfold MatV at *
  show _=((s.M.set a (s.M.getD t [])).set t (s.M.getD a [])).map _
  rw[ea,et,List.map_set,List.map_set,List.map_set,List.map_set,h4,hxa,hxt]
 ·show rct k ((s.M.set a (s.M.getD t [])).set t (s.M.getD a []))
  refine (h5.set ?_).set ?_
  ·rw[et];exact h5 _ (List.mem_of_getElem? hqt)
  ·rw[ea];exact h5 _ (List.mem_of_getElem? hqa)
end
end Go.Proofs.YtfnkpfbobdmieaaGreat
