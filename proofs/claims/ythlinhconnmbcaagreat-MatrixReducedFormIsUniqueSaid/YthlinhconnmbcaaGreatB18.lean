/- Bareiss: the program's elimination, its back substitution, its determinant. Core Lean only; upon G4. -/
import Derived.Test.YthlinhconnmbcaaGreatB17
import Derived.Test.YthlinhconnmbcaaGreatB16
set_option linter.unusedVariables false
set_option linter.unusedVariables false
namespace GE
variable {n k:Nat}
def brow (c:Nat) (l:Rat) (top row:List Rat):List Rat:=
 (List.range row.length).map fun j=>if j<c then row.getD j 0 else if j=c then 0 else (top.getD c 0*row.getD j 0-row.getD c 0*top.getD j 0) / l
def bcls (M:List (List Rat)) (c:Nat) (l:Rat) (t:Nat):Nat→List (List Rat)
 | 0=>M
 | i+1=>if i≤t then bcls M c l t i else (bcls M c l t i).set i (brow c l ((bcls M c l t i).getD t []) ((bcls M c l t i).getD i []))
def bcol (j:Nat) (s:GS) (l:Rat):GS×Rat:=
 if gat j s=s.M.length then (s,l) else (⟨bcls (gm1 j s) j l s.p.length s.M.length,s.p++[j],gf1 j s⟩,el (gm1 j s) s.p.length j)
def brun:Nat→Nat→GS→Rat→GS×Rat
 | 0,_,s,l=>(s,l)
 | c+1,j,s,l=>brun c (j+1) (bcol j s l).1 (bcol j s l).2
theorem brow_len {c:Nat} {l:Rat} {a b:List Rat}:(brow c l a b).length=b.length:=by unfold brow;rw[List.length_map,List.length_range]
theorem brow_get {c:Nat} {l:Rat} {a b:List Rat} (h:a.length=b.length) {j:Nat} :
  (brow c l a b).getD j 0=if j<c then b.getD j 0 else if j=c then 0 else (a.getD c 0*b.getD j 0-b.getD c 0*a.getD j 0) / l:=by
 unfold brow
 rcases Nat.lt_or_ge j b.length with hj | hj
 ·simp only[List.getD_eq_getElem?_getD,List.getElem?_map,List.getElem?_range hj,Option.map_some,Option.getD_some]
 ·have e1:b.getD j 0=0:=by rw[List.getD_eq_getElem?_getD,List.getElem?_eq_none hj];rfl
  have e2:a.getD j 0=0:=by rw[List.getD_eq_getElem?_getD,List.getElem?_eq_none (by omega)];rfl
  rw[e1,e2,List.getD_eq_getElem?_getD,List.getElem?_eq_none (by rw[List.length_map,List.length_range];exact hj)]
  show (0:Rat)=_
  split
  ·rfl
  ·split
   ·rfl
   ·rw[Rat.mul_zero,Rat.mul_zero]
    rw[Rat.div_def]
    grind
theorem bcls_len {M:List (List Rat)} {c:Nat} {l:Rat} {t:Nat}:∀ {m:Nat},(bcls M c l t m).length=M.length
 | 0=>rfl
 | m+1=>by
  unfold bcls
  split
  ·exact bcls_len
  ·rw[List.length_set];exact bcls_len
theorem bcls_rct {M:List (List Rat)} {c:Nat} {l:Rat} {t:Nat} (h:rct k M):∀ {m:Nat},m≤M.length→rct k (bcls M c l t m)
 | 0,_=>h
 | m+1,hm=>by
  have ih:=bcls_rct (c:=c) (l:=l) (t:=t) h (m:=m) (by omega)
  unfold bcls
  split
  ·exact ih
  ·exact rct_set ih (by rw[brow_len];exact rct_getD ih (by rw[bcls_len];omega))
theorem el_bcls {M:List (List Rat)} {c:Nat} {l:Rat} {t:Nat} (h:rct k M) (ht:t<M.length) {a j:Nat}:∀ {m:Nat},m≤M.length →
  el (bcls M c l t m) a j=if t<a∧a<m then (if j<c then el M a j else if j=c then 0 else (el M t c*el M a j-el M a c*el M t j) / l) else el M a j
 | 0,_=>by rw[if_neg (by omega)];rfl
 | m+1,hm=>by
  have ih:=fun b d=>el_bcls h ht (a:=b) (j:=d) (m:=m) (c:=c) (l:=l) (by omega)
  have hr:=bcls_rct (c:=c) (l:=l) (t:=t) h (m:=m) (by omega)
  have hl:(bcls M c l t m).length=M.length:=bcls_len;unfold bcls
  by_cases hmt:m≤t
  ·rw[if_pos hmt,ih,if_neg (by omega),if_neg (by omega)]
  ·rw[if_neg hmt]
   have e1:∀ d,el (bcls M c l t m) t d=el M t d:=fun d=>by rw[ih,if_neg (by omega)]
   have e2:∀ d,el (bcls M c l t m) m d=el M m d:=fun d=>by rw[ih,if_neg (by omega)]
   show ((List.set _ m _).getD a []).getD j 0=_
   rw[getD_set (by omega)]
   by_cases ham:a=m
   ·rw[if_pos ham,if_pos (by omega),brow_get (by rw[rct_getD hr (by omega),rct_getD hr (by omega)])]
    subst ham
    show (if j<c then el (bcls M c l t a) a j else if j=c then 0 else (el (bcls M c l t a) t c*el (bcls M c l t a) a j-el (bcls M c l t a) a c*el (bcls M c l t a) t j) / l)=_
    rw[e1,e1,e2,e2]
   ·rw[if_neg ham]
    show el (bcls M c l t m) a j=_
    rw[ih]
    by_cases h2:t<a∧a<m
    ·rw[if_pos h2,if_pos (show t<a∧a<m+1 from ⟨h2.1,by omega⟩)]
    ·rw[if_neg h2,if_neg (by omega)]
structure EF (n k:Nat) (R:List (List Rat)) (p:List Nat) (j:Nat):Prop where
 len:R.length=n
 rect:rct k R
 ple:p.length≤n
 lt:∀ x∈p,x<j
 mono:p.Pairwise (· < ·)
 nz:∀ t (h:t<p.length),el R t p[t]≠0
 left:∀ t (h:t<p.length) i,i<p[t]→el R t i=0
 low:∀ s,p.length≤s→s<n→∀ i<j,el R s i=0
theorem bcol_ef {j:Nat} {s:GS} {l:Rat} (F:EF n k s.M s.p j) (hl:l≠0) :
  EF n k (bcol j s l).1.M (bcol j s l).1.p (j+1)∧(bcol j s l).2≠0∧∀ x,NS n k (bcol j s l).1.M x↔NS n k s.M x:=by
 have hle:=gat_le (j:=j) (s:=s) (by rw[F.len];exact F.ple)
 by_cases hg:gat j s=s.M.length
 ·have e:bcol j s l=(s,l):=by unfold bcol;rw[if_pos hg]
  rw[e];refine⟨⟨F.len,F.rect,F.ple,fun x hx=>by have:=F.lt x hx;omega,F.mono,F.nz,F.left,fun t h1 h2 i hi=>?_⟩,hl,fun x=>Iff.rfl⟩
  rcases Nat.lt_or_ge i j with h3 | h3
  ·exact F.low t h1 h2 i h3
  ·obtain rfl:i=j:=by omega
   exact gat_lt h1 (by rw[hg,F.len];exact h2)
 ·have ha:gat j s<s.M.length:=by omega
  have hn:=F.len;have hge:=gat_ge (j:=j) (s:=s);have e:bcol j s l=(⟨bcls (gm1 j s) j l s.p.length s.M.length,s.p++[j],gf1 j s⟩,el (gm1 j s) s.p.length j):=by unfold bcol;rw[if_neg hg]
  have r1:=gm1_rct F.rect ha;have l1:(gm1 j s).length=n:=gm1_len.trans hn;have hd:el (gm1 j s) s.p.length j≠0:=by rw[el_gm1 ha,if_pos rfl];exact gat_at ha
  have e3:=fun i c=>el_bcls (c:=j) (l:=l) (t:=s.p.length) (a:=i) (j:=c) (m:=n) r1 (by omega) (by omega)
  have z1:∀ i,s.p.length≤i→i<n→∀ c<j,el (gm1 j s) i c=0:=fun i h1 h2 c hc=>by
   rw[el_gm1 ha]
   split
   ·exact F.low _ hge (by omega) c hc
   ·split
    ·exact F.low _ (Nat.le_refl _) (by omega) c hc
    ·exact F.low i h1 h2 c hc
  have o1:∀ i<s.p.length,∀ c,el (bcls (gm1 j s) j l s.p.length n) i c=el s.M i c:=fun i hi c=>by
   rw[e3,if_neg (by omega),el_gm1 ha,if_neg (by omega),if_neg (by omega)]
  have t1:∀ c,el (bcls (gm1 j s) j l s.p.length n) s.p.length c=el (gm1 j s) s.p.length c:=fun c=>by rw[e3,if_neg (by omega)]
  have b1:∀ i,s.p.length<i→i<n→∀ c,el (bcls (gm1 j s) j l s.p.length n) i c=el (gm1 j s) i c*(el (gm1 j s) s.p.length j / l)+el (gm1 j s) s.p.length c*(-(el (gm1 j s) i j) / l):=fun i h1 h2 c=>by
   rw[e3,if_pos ⟨h1,h2⟩]
   by_cases hc:c<j
   ·rw[if_pos hc,z1 i (by omega) h2 c hc,z1 s.p.length (by omega) (by omega) c hc,Rat.zero_mul,Rat.zero_mul];exact (Rat.add_zero 0).symm
   ·rw[if_neg hc]
    by_cases hcj:c=j
    ·rw[if_pos hcj,hcj]
     generalize el (gm1 j s) i j=u;generalize el (gm1 j s) s.p.length j=v
     grind
    ·rw[if_neg hcj]
     generalize el (gm1 j s) i j=u;generalize el (gm1 j s) s.p.length j=v;generalize el (gm1 j s) i c=u';generalize el (gm1 j s) s.p.length c=v'
     grind
  have ga:∀ t (h:t<(s.p++[j]).length),(∃ h':t<s.p.length,(s.p++[j])[t]=s.p[t])∨(t=s.p.length∧(s.p++[j])[t]=j):=fun t h=>by
   rw[List.getElem_append]
   split
   ·rename_i h';exact Or.inl ⟨h',rfl⟩
   ·rename_i h'
    rw[List.length_append,List.length_singleton] at h;exact Or.inr ⟨by omega,List.getElem_singleton _⟩
  rw[e,hn];refine⟨⟨bcls_len.trans l1,bcls_rct r1 (by omega),by rw[List.length_append];show s.p.length+1≤n;omega,fun x hx=>?_,?_,fun t h=>?_,fun t h i hi=>?_,fun t h1 h2 i hi=>?_⟩,hd,fun x=>?_⟩
  ·rcases List.mem_append.1 hx with hx | hx
   ·have:=F.lt x hx;omega
   ·rw[List.mem_singleton.1 hx];exact Nat.lt_succ_self j
  ·exact List.pairwise_append.2 ⟨F.mono,List.pairwise_singleton _ _,fun a ha b hb=>by rw[List.mem_singleton.1 hb];exact F.lt a ha⟩
  ·rcases ga t h with ⟨h',g⟩ | ⟨h',g⟩
   ·show el _ t _≠0
    rw[g,o1 t h'];exact F.nz t h'
   ·show el _ t _≠0
    rw[g,h',t1];exact hd
  ·rcases ga t h with ⟨h',g⟩ | ⟨h',g⟩
   ·rw[g] at hi
    show el _ t i=0
    rw[o1 t h'];exact F.left t h' i hi
   ·rw[g] at hi
    show el _ t i=0
    rw[h',t1];exact z1 _ (Nat.le_refl _) (by omega) i hi
  ·rw[List.length_append,List.length_singleton] at h1
   show el _ t i=0
   rcases Nat.lt_or_ge i j with h3 | h3
   ·rw[b1 t (by omega) h2,z1 t (by omega) h2 i h3,z1 s.p.length (by omega) (by omega) i h3,Rat.zero_mul,Rat.zero_mul];exact Rat.add_zero 0
   ·obtain rfl:i=j:=by omega
    rw[e3,if_pos ⟨by omega,h2⟩,if_neg (by omega),if_pos rfl]
  ·rw[←ns_gm1 (s:=s) (j:=j) hn (by omega)]
   have d1:dt k (bcls (gm1 j s) j l s.p.length n) x s.p.length=dt k (gm1 j s) x s.p.length:=dt_congr t1;have d0:∀ i<s.p.length,dt k (bcls (gm1 j s) j l s.p.length n) x i=dt k (gm1 j s) x i:=fun i hi=>dt_congr fun c=>by rw[o1 i hi,el_gm1 ha,if_neg (by omega),if_neg (by omega)]
   have d2:∀ i,s.p.length<i→i<n→dt k (bcls (gm1 j s) j l s.p.length n) x i=dt k (gm1 j s) x i*(el (gm1 j s) s.p.length j / l)+dt k (gm1 j s) x s.p.length*(-(el (gm1 j s) i j) / l):=fun i h1 h2=>by
    unfold dt;rw[←sm_mul,←sm_mul,←sm_add];exact sm_congr fun c _=>by rw[b1 i h1 h2];generalize el (gm1 j s) i j=u;generalize el (gm1 j s) s.p.length j=v;grind
   constructor
   ·intro h i hi
    have ht:=h s.p.length (by omega)
    have ht:dt k (bcls (gm1 j s) j l s.p.length n) x s.p.length=0:=ht;rw[d1] at ht
    rcases Nat.lt_trichotomy i s.p.length with g | g | g
    ·rw[←d0 i g];exact h i hi
    ·rw[g];exact ht
    ·have:=h i hi
     have this:dt k (bcls (gm1 j s) j l s.p.length n) x i=0:=this;rw[d2 i g hi,ht,Rat.zero_mul,Rat.add_zero] at this;generalize dt k (gm1 j s) x i=u at this ⊢;generalize el (gm1 j s) s.p.length j=v at this hd
     grind
   ·intro h i hi
    show dt k (bcls (gm1 j s) j l s.p.length n) x i=0
    rcases Nat.lt_trichotomy i s.p.length with g | g | g
    ·rw[d0 i g];exact h i hi
    ·rw[g,d1];exact h _ (by omega)
    ·rw[d2 i g hi,h i hi,h s.p.length (by omega),Rat.zero_mul,Rat.zero_mul];exact Rat.add_zero 0
theorem brun_ef:∀ {c j:Nat} {s:GS} {l:Rat},EF n k s.M s.p j→l≠0 →
  EF n k (brun c j s l).1.M (brun c j s l).1.p (j+c)∧(brun c j s l).2≠0∧∀ x,NS n k (brun c j s l).1.M x↔NS n k s.M x
 | 0,_,_,_,F,hl=>⟨F,hl,fun _=>Iff.rfl⟩
 | c+1,j,s,l,F,hl=>by
  obtain⟨h1,h2,h3⟩:=bcol_ef F hl;obtain⟨g1,g2,g3⟩:=brun_ef (c:=c) h1 h2;refine⟨?_,g2,fun x=>(g3 x).trans (h3 x)⟩
  rw[Nat.add_assoc,Nat.add_comm 1 c] at g1;exact g1
theorem ef_start {M:List (List Rat)} (hn:M.length=n) (h:rct k M):EF n k M [] 0:=
 ⟨hn,h,Nat.zero_le _,fun _ h=>absurd h List.not_mem_nil,List.Pairwise.nil,fun _ h=>absurd h (Nat.not_lt_zero _),fun _ h=>absurd h (Nat.not_lt_zero _),fun _ _ _ _ h=>absurd h (Nat.not_lt_zero _)⟩
end GE
set_option linter.unusedVariables false
namespace GE
variable {n k:Nat}
theorem epiv_iff {R:List (List Rat)} {p:List Nat} (F:EF n k R p k) {j:Nat} (h:j∈p) {x:Nat→Rat} (hx:NS n k R x) (h0:∀ i,j<i→x i=0):x j=0:=by
 obtain⟨t,ht,rfl⟩:=List.getElem_of_mem h;have:=hx t (by have:=F.ple;omega)
 unfold dt at this;rw[sm_one (F.lt _ h) (fun i hi hn=>?_)] at this
 ·have:=F.nz t ht
  generalize el R t p[t]=u at *;generalize x p[t]=v at *
  grind
 ·rcases Nat.lt_or_ge i p[t] with g | g
  ·rw[F.left t ht i g];exact Rat.zero_mul _
  ·rw[h0 i (by omega)];exact Rat.mul_zero _
def tmf (R:List (List Rat)) (p:List Nat) (l:Rat) (c:Nat):Nat→Nat→Rat
 | 0,_=>0
 | d+1,a=>if a+(d+1)=p.length then (l*el R a c-sm (fun m=>el R a (p.getD (a+1+m) 0)*tmf R p l c d (a+1+m)) d) / el R a (p.getD a 0) else tmf R p l c d a
theorem tmf_keep {R:List (List Rat)} {p:List Nat} {l:Rat} {c a:Nat}:∀ {d e:Nat},p.length≤a+d→d≤e→tmf R p l c e a=tmf R p l c d a
 | d,e,h1,h2=>by
  induction e with
  | zero=>
   obtain rfl:d=0:=by omega
   rfl
  | succ e ih=>
   by_cases h:d=e+1
   ·rw[h]
   ·show (if a+(e+1)=p.length then _ else tmf R p l c e a)=_
    rw[if_neg (by omega),ih (by omega)]
theorem tmf_eq {R:List (List Rat)} {p:List Nat} (F:EF n k R p k) {l:Rat} {c i:Nat} (hi:i<p.length) :
  sm (fun t=>el R i (p.getD t 0)*tmf R p l c p.length t) p.length=l*el R i c:=by
 have hd:p.length=i+(p.length-i-1+1):=by omega
 have e1:tmf R p l c p.length i=(l*el R i c-sm (fun m=>el R i (p.getD (i+1+m) 0)*tmf R p l c p.length (i+1+m)) (p.length-i-1)) / el R i (p.getD i 0):=by
  rw[tmf_keep (d:=p.length-i-1+1) (by omega) (by omega)]
  show (if i+(p.length-i-1+1)=p.length then _ else _)=_
  rw[if_pos (by omega)]
  congr 2
  exact sm_congr fun m hm=>by rw[tmf_keep (d:=p.length-i-1) (e:=p.length) (by omega) (by omega)]
 have hnz:el R i (p.getD i 0)≠0:=by
  rw[List.getD_eq_getElem?_getD,List.getElem?_eq_getElem hi];exact F.nz i hi
 have e2:sm (fun t=>el R i (p.getD t 0)*tmf R p l c p.length t) p.length=el R i (p.getD i 0)*tmf R p l c p.length i+sm (fun m=>el R i (p.getD (i+1+m) 0)*tmf R p l c p.length (i+1+m)) (p.length-i-1):=by
  have h1:sm (fun t=>el R i (p.getD t 0)*tmf R p l c p.length t) (i+(p.length-i-1+1))=_:=sm_split
  rw[←hd] at h1;rw[h1,sm_zero (f:=fun t=>el R i (p.getD t 0)*tmf R p l c p.length t) (k:=i) (fun t ht=>by
   have:p.getD t 0<p[i]:=by
    rw[List.getD_eq_getElem?_getD,List.getElem?_eq_getElem (by omega)]
    exact List.pairwise_iff_getElem.1 F.mono _ _ (by omega) hi ht
   rw[F.left i hi _ this];exact Rat.zero_mul _),sm_front,Rat.zero_add]
  congr 1
  exact sm_congr fun m _=>by
   show el R i (p.getD (i+(m+1)) 0)*tmf R p l c p.length (i+(m+1))=_
   rw[show i+(m+1)=i+1+m by omega]
 rw[e2,e1];generalize sm _ (p.length-i-1)=S;generalize el R i (p.getD i 0)=u at hnz ⊢;generalize l*el R i c=v
 grind
theorem tmf_zero {R:List (List Rat)} {p:List Nat} (F:EF n k R p k) {l:Rat} {c:Nat}:∀ {d i:Nat} (hi:i<p.length),p.length≤i+d→c<p[i]→tmf R p l c d i=0
 | 0,i,hi,h1,_=>by omega
 | d+1,i,hi,h1,h2=>by
  show (if i+(d+1)=p.length then _ else tmf R p l c d i)=0
  split
  ·rw[F.left i hi c h2,Rat.mul_zero,sm_zero fun m hm=>?_]
   ·rw[Rat.div_def];grind
   ·have hm':i+1+m<p.length:=by omega
    have:=List.pairwise_iff_getElem.1 F.mono _ _ hi hm' (by omega)
    rw[tmf_zero F hm' (by omega) (by omega)]
    exact Rat.mul_zero _
  ·exact tmf_zero F hi (by omega) h2
def nvE (R:List (List Rat)) (p:List Nat) (l:Rat) (j i:Nat):Rat:=if i=j then 1 else if i∈p then -(tmf R p l j p.length (p.idxOf i) / l) else 0
theorem nvE_ns {R:List (List Rat)} {p:List Nat} (F:EF n k R p k) {l:Rat} (hl:l≠0) {j:Nat} (hj:j<k) (hp:j∉p):NS n k R (nvE R p l j):=by
 intro i hi
 rcases Nat.lt_or_ge i p.length with h | h
 ·have e:dt k R (nvE R p l j) i=el R i j+sm (fun a=>if a=j then 0 else el R i a*nvE R p l j a) k:=by
   have e1:dt k R (nvE R p l j) i=sm (fun a=>(if a=j then el R i a else 0)+(if a=j then 0 else el R i a*nvE R p l j a)) k:=sm_congr fun a _=>by
    by_cases ha:a=j
    ·rw[if_pos ha,if_pos ha,ha];unfold nvE;rw[if_pos rfl,Rat.mul_one,Rat.add_zero]
    ·rw[if_neg ha,if_neg ha,Rat.zero_add]
   rw[e1,sm_add,sm_one hj (fun a _ ha=>if_neg ha),if_pos rfl]
  have e2:sm (fun a=>if a=j then 0 else el R i a*nvE R p l j a) k=sm (fun t=>el R i (p.getD t 0)*tmf R p l j p.length t*(-(1 / l))) p.length:=by
   rw[sm_ls F.mono F.lt (fun a ha hap=>?_),ls_sm]
   ·refine sm_congr fun t ht=>?_
    have g:p.getD t 0=p[t]:=by rw[List.getD_eq_getElem?_getD,List.getElem?_eq_getElem ht];rfl
    have hne:p[t]≠j:=fun e=>hp (e ▸ List.getElem_mem ht)
    show (if p.getD t 0=j then (0:Rat) else el R i (p.getD t 0)*nvE R p l j (p.getD t 0))=_
    rw[g,if_neg hne];unfold nvE;rw[if_neg hne,if_pos (List.getElem_mem ht),idx_get F.mono ht]
    grind
   ·split
    ·rfl
    ·rename_i haj
     unfold nvE;rw[if_neg haj,if_neg hap];exact Rat.mul_zero _
  rw[e,e2,sm_mul,tmf_eq F h];generalize el R i j=u
  grind
 ·unfold dt
  exact sm_zero fun a ha=>by rw[F.low i h hi a ha];exact Rat.zero_mul _
theorem nvE_high {R:List (List Rat)} {p:List Nat} (F:EF n k R p k) {l:Rat} {j i:Nat} (h:j<i):nvE R p l j i=0:=by
 unfold nvE;rw[if_neg (by omega)]
 split
 ·rename_i hi
  obtain⟨t,ht,rfl⟩:=List.getElem_of_mem hi;rw[idx_get F.mono ht,tmf_zero F ht (by omega) h,Rat.div_def,Rat.zero_mul]
  rfl
 ·rfl
theorem ef_red {R R':List (List Rat)} {p p':List Nat} (F:EF n k R p k) (F':RF n k R' p' k) (h:∀ x,NS n k R x↔NS n k R' x) {l:Rat} (hl:l≠0) :
  p=p'∧∀ j<k,j∉p→∀ s (hs:s<p.length),el R' s j=tmf R p l j p.length s / l:=by
 have hp:p=p':=sorted_ext F.mono F'.mono fun j=>by
  constructor
  ·intro hj
   exact (piv_iff F' (F.lt j hj)).2 fun x hx h0=>epiv_iff F hj ((h x).2 hx) h0
  ·intro hj
   have hk:=F'.lt j hj
   by_cases hjp:j∈p
   ·exact hjp
   ·have:=(piv_iff F' hk).1 hj (nvE R p l j) ((h _).1 (nvE_ns F hl hk hjp)) fun i hi=>nvE_high F hi
    unfold nvE at this;rw[if_pos rfl] at this;exact absurd this (by decide)
 subst hp;refine⟨rfl,fun j hj hjp s hs=>?_⟩
 have h1:=(h _).1 (nvE_ns F hl hj hjp) s (by have:=F.ple;omega)
 have hne:j≠p[s]:=fun e=>hjp (e ▸ List.getElem_mem hs)
 unfold dt at h1;rw[sm_two hj (F'.lt _ (List.getElem_mem hs)) hne fun i hi g1 g2=>?_] at h1
 ·rw[F'.one s hs] at h1
  unfold nvE at h1;rw[if_pos rfl,if_neg (fun e=>hne e.symm),if_pos (List.getElem_mem hs),idx_get F.mono hs] at h1
  generalize tmf R p l j p.length s / l=u at h1 ⊢;generalize el R' s j=v at h1 ⊢
  grind
 ·unfold nvE
  rw[if_neg g1]
  split
  ·rename_i g3
   obtain⟨t,ht,rfl⟩:=List.getElem_of_mem g3;rw[F'.off t ht s (by have:=F.ple;omega) (fun e=>g2 (by subst e;rfl))]
   exact Rat.zero_mul _
  ·exact Rat.mul_zero _
end GE
set_option linter.unusedVariables false
namespace GE
variable {n k:Nat} {Φ:(Nat→Nat→Rat)→Rat}
def pr (f:Nat→Rat):Nat→Rat
 | 0=>1
 | m+1=>pr f m*f m
theorem pr_congr {f g:Nat→Rat}:∀ {m:Nat},(∀ i<m,f i=g i)→pr f m=pr g m
 | 0,_=>rfl
 | m+1,h=>by show pr f m*f m=pr g m*g m;rw[pr_congr fun i hi=>h i (by omega),h m (by omega)]
theorem pr_nz {f:Nat→Rat}:∀ {m:Nat},(∀ i<m,f i≠0)→pr f m≠0
 | 0,_=>by show (1:Rat)≠0;decide
 | m+1,h=>by
  show pr f m*f m≠0
  have h1:=pr_nz (m:=m) fun i hi=>h i (by omega)
  have h2:=h m (by omega)
  grind
theorem phi_rows (H:Alt n Φ) {A:Nat→Nat→Rat} {c:Nat→Rat}:∀ {m:Nat},m≤n→Φ (fun i j=>if i<m then A i j*c i else A i j)=Φ A*pr c m
 | 0,_=>by
  show _=Φ A*1
  rw[Rat.mul_one];exact H.congr _ _ fun i _ j _=>if_neg (Nat.not_lt_zero i)
 | m+1,hm=>by
  show _=Φ A*(pr c m*c m)
  rw[←Rat.mul_assoc,←phi_rows H (m:=m) (by omega),←H.scale _ m (c m) (by omega)]
  refine H.congr _ _ fun i _ j _=>?_
  by_cases h1:i=m
  ·rw[if_pos (by omega),if_pos h1,if_neg (by omega),h1]
  ·rw[if_neg h1]
   by_cases h2:i<m
   ·rw[if_pos (by omega),if_pos h2]
   ·rw[if_neg (by omega),if_neg h2]
theorem D_rows (hn:n≤4) (A:Nat→Nat→Rat) (c:Nat→Rat):D n (fun i j=>A i j*c i)=D n A*pr c n:=by
 rw[←phi_rows (D_alt hn) (Nat.le_refl n)];exact D_congr hn _ _ fun i hi j _=>(if_pos hi).symm
theorem D_upper (hn:n≤4) (A:Nat→Nat→Rat) (h:∀ i<n,∀ j<i,A i j=0):D n A=pr (fun i=>A i i) n:=by
 have:n=0∨n=1∨n=2∨n=3∨n=4:=by omega
 rcases this with rfl | rfl | rfl | rfl | rfl
 ·rfl
 ·simp only[D,pr];grind
 ·have:=h 1 (by decide) 0 (by decide)
  simp only[D,pr];grind
 ·have:=h 1 (by decide) 0 (by decide)
  have:=h 2 (by decide) 0 (by decide)
  have:=h 2 (by decide) 1 (by decide)
  simp only[D,pr];grind
 ·have:=h 1 (by decide) 0 (by decide)
  have:=h 2 (by decide) 0 (by decide)
  have:=h 2 (by decide) 1 (by decide)
  have:=h 3 (by decide) 0 (by decide)
  have:=h 3 (by decide) 1 (by decide)
  have:=h 3 (by decide) 2 (by decide)
  simp only[D,pr];grind
theorem phi_bcls (H:Alt n Φ) {M:List (List Rat)} (hn:M.length=n) (hr:rct n M) {c t:Nat} {l:Rat} (ht:t<n) (hz:∀ i,t≤i→i<n→∀ j<c,el M i j=0) :
  ∀ {m:Nat},t+1+m≤n→Φ (el (bcls M c l t (t+1+m)))=Φ (el M)*(el M t c / l)^m
 | 0,_=>by
  rw[Rat.pow_zero,Rat.mul_one];exact H.congr _ _ fun i hi j hj=>by rw[el_bcls hr (by omega) (by omega),if_neg (by omega)]
 | m+1,hm=>by
  rw[Rat.pow_succ,←Rat.mul_assoc,←phi_bcls H hn hr ht hz (m:=m) (by omega)]
  have e:=fun q (hq:q≤n) a j=>el_bcls (c:=c) (l:=l) (t:=t) (a:=a) (j:=j) (m:=q) hr (by omega) (by omega)
  rw[←H.scale (el (bcls M c l t (t+1+m))) (t+1+m) _ (by omega),←H.add (fun i j=>if i=t+1+m then el (bcls M c l t (t+1+m)) (t+1+m) j*(el M t c / l) else el (bcls M c l t (t+1+m)) i j) (t+1+m) t (-(el M (t+1+m) c) / l) (by omega) ht (by omega)]
  refine H.congr _ _ fun a ha j hj=>?_
  have eT:∀ j,el (bcls M c l t (t+1+m)) t j=el M t j:=fun j=>by rw[e _ (by omega),if_neg (by omega)]
  have eA:∀ j,el (bcls M c l t (t+1+m)) (t+1+m) j=el M (t+1+m) j:=fun j=>by rw[e _ (by omega),if_neg (by omega)]
  show el (bcls M c l t (t+1+(m+1))) a j=if a=t+1+m then (if t+1+m=t+1+m then el (bcls M c l t (t+1+m)) (t+1+m) j*(el M t c / l) else el (bcls M c l t (t+1+m)) (t+1+m) j)+(if t=t+1+m then el (bcls M c l t (t+1+m)) (t+1+m) j*(el M t c / l) else el (bcls M c l t (t+1+m)) t j)*(-(el M (t+1+m) c) / l) else (if a=t+1+m then el (bcls M c l t (t+1+m)) (t+1+m) j*(el M t c / l) else el (bcls M c l t (t+1+m)) a j)
  rw[e (t+1+(m+1)) (by omega),if_pos (show t+1+m=t+1+m from rfl),if_neg (show ¬t=t+1+m by omega),eT,eA]
  by_cases h1:a=t+1+m
  ·rw[if_pos h1,if_pos (show t<a∧a<t+1+(m+1) by omega),h1]
   by_cases h2:j<c
   ·rw[if_pos h2,hz (t+1+m) (by omega) (by omega) j h2,hz t (by omega) (by omega) j h2,Rat.zero_mul,Rat.zero_mul];exact (Rat.add_zero 0).symm
   ·rw[if_neg h2]
    by_cases h3:j=c
    ·subst h3
     rw[if_pos rfl];generalize el M (t+1+m) j=u;generalize el M t j=v
     grind
    ·rw[if_neg h3]
     generalize el M (t+1+m) j=u;generalize el M (t+1+m) c=u';generalize el M t c=v;generalize el M t j=v'
     grind
  ·rw[if_neg h1,if_neg h1,e (t+1+m) (by omega)]
   by_cases h2:t<a∧a<t+1+m
   ·rw[if_pos h2,if_pos (show t<a∧a<t+1+(m+1) by omega)]
   ·rw[if_neg h2,if_neg (show ¬(t<a∧a<t+1+(m+1)) by omega)]
theorem phi_bcol (H:Alt n Φ) {j:Nat} {s:GS} {l:Rat} (F:EF n n s.M s.p j) (hl:l≠0) {C:Rat}
  (hI:s.f*Φ (el s.M)*l=C*pr (fun t=>el s.M t (s.p.getD t 0)) s.p.length*l^(n-s.p.length)) :
  (bcol j s l).1.f*Φ (el (bcol j s l).1.M)*(bcol j s l).2=C*pr (fun t=>el (bcol j s l).1.M t ((bcol j s l).1.p.getD t 0)) (bcol j s l).1.p.length*(bcol j s l).2^(n-(bcol j s l).1.p.length):=by
 have hle:=gat_le (j:=j) (s:=s) (by rw[F.len];exact F.ple)
 by_cases hg:gat j s=s.M.length
 ·have e:bcol j s l=(s,l):=by unfold bcol;rw[if_pos hg]
  rw[e];exact hI
 ·have ha:gat j s<s.M.length:=by omega
  have hn:=F.len;have hge:=gat_ge (j:=j) (s:=s);have ht:s.p.length<n:=by omega
  have e:bcol j s l=(⟨bcls (gm1 j s) j l s.p.length s.M.length,s.p++[j],gf1 j s⟩,el (gm1 j s) s.p.length j):=by unfold bcol;rw[if_neg hg]
  have r1:=gm1_rct F.rect ha;have l1:(gm1 j s).length=n:=gm1_len.trans hn;have h1:gf1 j s*Φ (el (gm1 j s))=s.f*Φ (el s.M):=by
   unfold gf1 gm1
   by_cases h:gat j s=s.p.length
   ·rw[if_pos h,if_pos h]
   ·rw[if_neg h,if_neg h,phi_swp H hn (by omega) (by omega) h]
    generalize Φ (el s.M)=z
    grind
  have z1:∀ i,s.p.length≤i→i<n→∀ c<j,el (gm1 j s) i c=0:=fun i h1 h2 c hc=>by
   rw[el_gm1 ha]
   split
   ·exact F.low _ hge (by omega) c hc
   ·split
    ·exact F.low _ (Nat.le_refl _) (by omega) c hc
    ·exact F.low i h1 h2 c hc
  have e3:=fun i c=>el_bcls (c:=j) (l:=l) (t:=s.p.length) (a:=i) (j:=c) (m:=n) r1 (by omega) (by omega)
  have hb:=phi_bcls H l1 r1 (c:=j) (l:=l) (t:=s.p.length) ht z1 (m:=n-(s.p.length+1)) (by omega)
  rw[show s.p.length+1+(n-(s.p.length+1))=n by omega] at hb
  have hT:pr (fun t=>el (bcls (gm1 j s) j l s.p.length n) t ((s.p++[j]).getD t 0)) (s.p++[j]).length=pr (fun t=>el s.M t (s.p.getD t 0)) s.p.length*el (gm1 j s) s.p.length j:=by
   rw[List.length_append]
   show pr _ s.p.length*_=_
   congr 1
   ·refine pr_congr fun t h=>?_
    show el (bcls (gm1 j s) j l s.p.length n) t ((s.p++[j]).getD t 0)=_
    rw[e3,if_neg (by omega),el_gm1 ha,if_neg (by omega),if_neg (by omega),List.getD_eq_getElem?_getD,List.getElem?_append_left h,←List.getD_eq_getElem?_getD]
   ·show el (bcls (gm1 j s) j l s.p.length n) s.p.length ((s.p++[j]).getD s.p.length 0)=_
    rw[e3,if_neg (by omega),List.getD_eq_getElem?_getD,List.getElem?_append_right (Nat.le_refl _),Nat.sub_self]
    rfl
  rw[e,hn]
  show gf1 j s*Φ (el (bcls (gm1 j s) j l s.p.length n))*el (gm1 j s) s.p.length j=C*pr (fun t=>el (bcls (gm1 j s) j l s.p.length n) t ((s.p++[j]).getD t 0)) (s.p++[j]).length*el (gm1 j s) s.p.length j^(n-(s.p++[j]).length)
  rw[hT,hb,List.length_append,List.length_singleton,←Rat.mul_assoc,h1];rw[show n-s.p.length=n-(s.p.length+1)+1 by omega,Rat.pow_succ] at hI
  have hp:(el (gm1 j s) s.p.length j / l)^(n-(s.p.length+1))*l^(n-(s.p.length+1))=el (gm1 j s) s.p.length j^(n-(s.p.length+1)):=by
   generalize n-(s.p.length+1)=q;generalize el (gm1 j s) s.p.length j=d
   induction q with
   | zero=>rw[Rat.pow_zero,Rat.pow_zero,Rat.pow_zero];exact Rat.mul_one 1
   | succ q ih=>
    rw[Rat.pow_succ,Rat.pow_succ,Rat.pow_succ,←ih];generalize (d / l)^q=u;generalize l^q=v
    grind
  rw[←hp];generalize (el (gm1 j s) s.p.length j / l)^(n-(s.p.length+1))=u at *;generalize l^(n-(s.p.length+1))=v at *;generalize pr (fun t=>el s.M t (s.p.getD t 0)) s.p.length=T at *
  generalize s.f*Φ (el s.M)=y at *;generalize el (gm1 j s) s.p.length j=d at *;have:y=C*T*v:=by
   generalize C*T=w at *
   grind
  rw[this]
  grind
theorem phi_brun (H:Alt n Φ) {C:Rat}:∀ {c j:Nat} {s:GS} {l:Rat},EF n n s.M s.p j→l≠0→s.f*Φ (el s.M)*l=C*pr (fun t=>el s.M t (s.p.getD t 0)) s.p.length*l^(n-s.p.length) →
  (brun c j s l).1.f*Φ (el (brun c j s l).1.M)*(brun c j s l).2=C*pr (fun t=>el (brun c j s l).1.M t ((brun c j s l).1.p.getD t 0)) (brun c j s l).1.p.length*(brun c j s l).2^(n-(brun c j s l).1.p.length)
 | 0,_,_,_,_,_,h=>h
 | c+1,j,s,l,F,hl,h=>phi_brun H (c:=c) (bcol_ef F hl).1 (bcol_ef F hl).2.1 (phi_bcol H F hl h)
theorem brun_sq:∀ {c j:Nat} {s:GS} {l:Rat},(brun c j s l).1.f*(brun c j s l).1.f=s.f*s.f
 | 0,_,_,_=>rfl
 | c+1,j,s,l=>by
  refine (brun_sq (c:=c)).trans ?_
  unfold bcol
  split
  ·rfl
  ·show gf1 j s*gf1 j s=_
   unfold gf1
   split
   ·rfl
   ·grind
theorem bareiss_det (hn:n≤4) {A:Nat→Nat→Rat} {c:Nat→Rat} (hc:∀ i<n,c i≠0) {S:GS} {l:Rat}
  (h:brun n 0 ⟨mk n n (fun i j=>A i j*c i),[],pr c n⟩ 1=(S,l)) (hr:S.p.length=n):l / S.f=D n A:=by
 have F0:=ef_start (n:=n) (k:=n) (M:=mk n n (fun i j=>A i j*c i)) mk_len mk_rct
 have h1:=brun_ef (c:=n) (s:=⟨mk n n (fun i j=>A i j*c i),[],pr c n⟩) (l:=1) F0 (by decide)
 have h2:=phi_brun (D_alt hn) (c:=n) (j:=0) (s:=⟨mk n n (fun i j=>A i j*c i),[],pr c n⟩) (l:=1) (C:=pr c n*(D n A*pr c n)) F0 (by decide) (by
  show pr c n*D n (el (mk n n _))*1=pr c n*(D n A*pr c n)*1*1^(n-0)
  rw[D_congr hn (el (mk n n fun i j=>A i j*c i)) (fun i j=>A i j*c i) fun i hi j hj=>el_mk hi hj,D_rows hn]
  have:(1:Rat)^(n-0)=1:=by
   generalize n-0=q
   induction q with
   | zero=>exact Rat.pow_zero _
   | succ q ih=>rw[Rat.pow_succ,ih];exact Rat.mul_one 1
  rw[this,Rat.mul_one,Rat.mul_one])
 have h3:=brun_sq (c:=n) (j:=0) (s:=⟨mk n n (fun i j=>A i j*c i),[],pr c n⟩) (l:=1)
 rw[h,Nat.zero_add] at h1;rw[h] at h2 h3;obtain⟨E,hl,_⟩:=h1;have hσ:=pr_nz (f:=c) (m:=n) hc;have hp:S.p=List.range n:=range_eq E.mono (fun j hj=>by
  by_cases hm:j∈S.p
  ·exact hm
  ·have g1:=len_le (a:=S.p) (b:=(List.range n).erase j) E.mono fun x hx=>(List.mem_erase_of_ne (by rintro rfl;exact hm hx)).2 (List.mem_range.2 (E.lt x hx))
   rw[List.length_erase_of_mem (List.mem_range.2 hj),List.length_range] at g1
   omega) (Nat.le_of_eq hr)
 have g2:∀ i<n,∃ h:i<S.p.length,S.p[i]=i:=fun i hi=>⟨by omega,by simp only[hp,List.getElem_range]⟩
 have g3:∀ i<n,S.p.getD i 0=i:=fun i hi=>by
  obtain⟨a,b⟩:=g2 i hi;rw[List.getD_eq_getElem?_getD,List.getElem?_eq_getElem a];exact b
 have hT:D n (el S.M)=pr (fun t=>el S.M t (S.p.getD t 0)) S.p.length:=by
  rw[D_upper hn _ fun i hi j hj=>?_,hr]
  ·exact pr_congr fun i hi=>by rw[g3 i hi]
  ·obtain⟨a,b⟩:=g2 i hi
   exact E.left i a j (by rw[b];exact hj)
 have hTn:pr (fun t=>el S.M t (S.p.getD t 0)) S.p.length≠0:=pr_nz fun i hi=>by
  rw[List.getD_eq_getElem?_getD,List.getElem?_eq_getElem hi];exact E.nz i hi
 simp only at h2 h3;rw[←hT,hr,Nat.sub_self,Rat.pow_zero,Rat.mul_one] at h2;rw[←hT] at hTn;generalize D n (el S.M)=T at h2 hTn;generalize D n A=d at h2 ⊢;generalize pr c n=σ at *;generalize S.f=f at *;have hf:f≠0:=by rintro rfl;rw[Rat.zero_mul] at h3;grind
 have h4:f*l=σ*σ*d:=by grind
 grind
end GE
set_option linter.unusedVariables false
namespace GE
variable {n k:Nat}
structure S2 (a d:Nat) (q:Rat):Prop where
 n:q.num.natAbs≤4294967296^a
 d:q.den≤4294967296^d
theorem w_mono {a b:Nat} (h:a≤b):4294967296^a≤4294967296^b:=Nat.pow_le_pow_right (by decide) h
theorem w_pos (a:Nat):1≤4294967296^a:=Nat.pow_pos (by decide)
theorem S2.mono {a b d e:Nat} {q:Rat} (h:S2 a d q) (h1:a≤b) (h2:d≤e):S2 b e q:=⟨Nat.le_trans h.n (w_mono h1),Nat.le_trans h.d (w_mono h2)⟩
theorem S2.zero {a d:Nat}:S2 a d 0:=⟨Nat.zero_le _,w_pos d⟩
theorem S2.one {a d:Nat}:S2 a d 1:=⟨w_pos a,w_pos d⟩
theorem S2.neg {a d:Nat} {q:Rat} (h:S2 a d q):S2 a d (-q):=⟨by rw[Rat.neg_num,Int.natAbs_neg];exact h.n,h.d⟩
theorem num_le (n:Int) {d:Nat} (hd:0<d):(Rat.divInt n (d:Int)).num.natAbs≤n.natAbs∧(Rat.divInt n (d:Int)).den≤d:=by
 have h0:(d:Int)≠0:=by omega
 rw[Rat.num_divInt,Rat.den_divInt,if_neg h0]
 constructor
 ·rw[Int.sign_eq_one_of_pos (by omega),Int.one_mul]
  exact Int.natAbs_ediv_le_natAbs _ _
 ·rw[Int.natAbs_natCast];exact Nat.div_le_self _ _
theorem S2.mul {a b d e:Nat} {x y:Rat} (h1:S2 a d x) (h2:S2 b e y):S2 (a+b) (d+e) (x*y):=by
 have e':x*y=Rat.divInt (x.num*y.num) ((x.den*y.den:Nat):Int):=by rw[Rat.mul_def',Rat.divInt_ofNat]
 have h:=num_le (x.num*y.num) (Nat.mul_pos x.den_pos y.den_pos);rw[←e'] at h;refine⟨Nat.le_trans h.1 ?_,Nat.le_trans h.2 ?_⟩
 ·rw[Int.natAbs_mul,Nat.pow_add];exact Nat.mul_le_mul h1.n h2.n
 ·rw[Nat.pow_add];exact Nat.mul_le_mul h1.d h2.d
theorem S2.add {a b d e:Nat} {x y:Rat} (h1:S2 a d x) (h2:S2 b e y):S2 (max (a+e) (b+d)+1) (d+e) (x+y):=by
 have e':x+y=Rat.divInt (x.num*y.den+y.num*x.den) ((x.den*y.den:Nat):Int):=by rw[Rat.add_def',Rat.divInt_ofNat]
 have h:=num_le (x.num*y.den+y.num*x.den) (Nat.mul_pos x.den_pos y.den_pos);rw[←e'] at h;refine⟨Nat.le_trans h.1 ?_,Nat.le_trans h.2 ?_⟩
 ·have t:=Int.natAbs_add_le (x.num*y.den) (y.num*x.den)
  rw[Int.natAbs_mul,Int.natAbs_mul,Int.natAbs_natCast,Int.natAbs_natCast] at t;have t1:=Nat.mul_le_mul h1.n h2.d;have t2:=Nat.mul_le_mul h2.n h1.d;rw[←Nat.pow_add] at t1 t2;have t3:=w_mono (Nat.le_max_left (a+e) (b+d));have t4:=w_mono (Nat.le_max_right (a+e) (b+d));rw[Nat.pow_succ]
  omega
 ·rw[Nat.pow_add];exact Nat.mul_le_mul h1.d h2.d
theorem S2.sub {a b d e:Nat} {x y:Rat} (h1:S2 a d x) (h2:S2 b e y):S2 (max (a+e) (b+d)+1) (d+e) (x-y):=by
 rw[Rat.sub_eq_add_neg];exact h1.add h2.neg
theorem S2.inv {a d:Nat} {q:Rat} (h:S2 a d q):S2 d a q⁻¹:=by
 refine⟨?_,?_⟩
 ·rw[Rat.num_inv,Int.natAbs_mul,Int.natAbs_natCast]
  have:q.num.sign.natAbs≤1:=by rw[Int.natAbs_sign];split<;>omega
  have h3:=Nat.mul_le_mul_right q.den this;have:=h.d
  omega
 ·rw[Rat.den_inv]
  split
  ·exact w_pos a
  ·exact h.n
theorem S2.div {a b d e:Nat} {x y:Rat} (h1:S2 a d x) (h2:S2 b e y):S2 (a+e) (d+b) (x / y):=by
 rw[Rat.div_def];exact h1.mul h2.inv
def zA (a:Nat):Nat→Nat×Nat×Nat×Nat
 | 0=>(a,0,0,0)
 | t+1=>(2*(zA a t).1+2*(zA a t).2.1+1+(zA a t).2.2.2,4*(zA a t).2.1+(zA a t).2.2.1,(zA a t).1,(zA a t).2.1)
theorem zA_last {a:Nat}:∀ {t:Nat},(zA a t).2.2.1≤(zA a t).1∧(zA a t).2.2.2≤(zA a t).2.1
 | 0=>⟨Nat.zero_le _,Nat.le_refl _⟩
 | t+1=>⟨by show (zA a t).1≤2*(zA a t).1+_+_+_;omega,by show (zA a t).2.1≤4*(zA a t).2.1+_;omega⟩
theorem zA_step {a t:Nat}:(zA a t).1≤(zA a (t+1)).1∧(zA a t).2.1≤(zA a (t+1)).2.1:=zA_last (t:=t+1)
theorem zA_mono {a:Nat}:∀ {t u:Nat},t≤u→(zA a t).1≤(zA a u).1∧(zA a t).2.1≤(zA a u).2.1
 | t,u,h=>by
  induction u with
  | zero=>
   obtain rfl:t=0:=by omega
   exact⟨Nat.le_refl _,Nat.le_refl _⟩
  | succ u ih=>
   by_cases e:t=u+1
   ·subst e;exact⟨Nat.le_refl _,Nat.le_refl _⟩
   ·have h1:=ih (by omega)
    have h2:=zA_step (a:=a) (t:=u);exact⟨Nat.le_trans h1.1 h2.1,Nat.le_trans h1.2 h2.2⟩
structure ZI (a n:Nat) (s:GS) (l:Rat):Prop where
 e:∀ i c,S2 (zA a (min s.p.length (n-1))).1 (zA a (min s.p.length (n-1))).2.1 (el s.M i c)
 o:s.p.length<n→S2 (zA a s.p.length).2.2.1 (zA a s.p.length).2.2.2 l
 m:s.p.length=n→0<n→S2 (zA a (n-1)).1 (zA a (n-1)).2.1 l
theorem bcls_size {M:List (List Rat)} {a d a' d' c t:Nat} {l:Rat} (hr:rct k M) (hn:M.length=n) (ht:t<n) (h:∀ i j,S2 a d (el M i j)) (hl:S2 a' d' l) {m:Nat} (hm:m≤n) (i j:Nat) :
  S2 (2*a+2*d+1+d') (4*d+a') (el (bcls M c l t m) i j):=by
 rw[el_bcls hr (by omega) (by omega)]
 split
 ·split
  ·exact (h i j).mono (by omega) (by omega)
  ·split
   ·exact S2.zero
   ·exact ((((h t c).mul (h i j)).sub ((h i c).mul (h t j))).div hl).mono (by omega) (by omega)
 ·exact (h i j).mono (by omega) (by omega)
theorem bcol_size {a j:Nat} {s:GS} {l:Rat} (F:EF n k s.M s.p j) (Z:ZI a n s l):ZI a n (bcol j s l).1 (bcol j s l).2:=by
 have hle:=gat_le (j:=j) (s:=s) (by rw[F.len];exact F.ple)
 by_cases hg:gat j s=s.M.length
 ·have e:bcol j s l=(s,l):=by unfold bcol;rw[if_pos hg]
  rw[e];exact Z
 ·have ha:gat j s<s.M.length:=by omega
  have hn:=F.len;have hge:=gat_ge (j:=j) (s:=s);have ht:s.p.length<n:=by omega
  have e:bcol j s l=(⟨bcls (gm1 j s) j l s.p.length s.M.length,s.p++[j],gf1 j s⟩,el (gm1 j s) s.p.length j):=by unfold bcol;rw[if_neg hg]
  have r1:=gm1_rct F.rect ha;have l1:(gm1 j s).length=n:=gm1_len.trans hn;have hm:min s.p.length (n-1)=s.p.length:=by omega
  have h1:∀ i c,S2 (zA a s.p.length).1 (zA a s.p.length).2.1 (el (gm1 j s) i c):=fun i c=>by
   have:=Z.e;rw[hm] at this;rw[el_gm1 ha]
   split
   ·exact this _ _
   ·split<;>exact this _ _
  have hp:(s.p++[j]).length=s.p.length+1:=List.length_append;rw[e,hn];refine⟨fun i c=>?_,fun h=>?_,fun h h0=>?_⟩
  ·show S2 (zA a (min (s.p++[j]).length (n-1))).1 (zA a (min (s.p++[j]).length (n-1))).2.1 (el (bcls (gm1 j s) j l s.p.length n) i c)
   rw[hp]
   by_cases hs:s.p.length+1<n
   ·rw[show min (s.p.length+1) (n-1)=s.p.length+1 by omega]
    exact bcls_size r1 l1 ht h1 (Z.o ht) (Nat.le_refl n) i c
   ·rw[show min (s.p.length+1) (n-1)=s.p.length by omega]
    by_cases hi:i<n
    ·rw[el_bcls r1 (by omega) (by omega),if_neg (by omega)];exact h1 i c
    ·have:el (bcls (gm1 j s) j l s.p.length n) i c=0:=by
      have h2:(bcls (gm1 j s) j l s.p.length n)[i]?=none:=List.getElem?_eq_none (by rw[bcls_len,l1];omega)
      unfold el;rw[List.getD_eq_getElem?_getD,List.getD_eq_getElem?_getD,h2]
      rfl
     rw[this];exact S2.zero
  ·show S2 (zA a (s.p++[j]).length).2.2.1 (zA a (s.p++[j]).length).2.2.2 _
   rw[hp];exact h1 _ _
  ·have h:(s.p++[j]).length=n:=h
   rw[hp] at h;rw[show n-1=s.p.length by omega]
   exact h1 _ _
theorem brun_size {a:Nat}:∀ {c j:Nat} {s:GS} {l:Rat},EF n k s.M s.p j→l≠0→ZI a n s l→ZI a n (brun c j s l).1 (brun c j s l).2
 | 0,_,_,_,_,_,Z=>Z
 | c+1,j,s,l,F,hl,Z=>brun_size (c:=c) (bcol_ef F hl).1 (bcol_ef F hl).2.1 (bcol_size F Z)
theorem ZI.all {a:Nat} {s:GS} {l:Rat} (Z:ZI a n s l) (hp:s.p.length≤n) (h0:0<n) :
  (∀ i c,S2 (zA a (n-1)).1 (zA a (n-1)).2.1 (el s.M i c))∧S2 (zA a (n-1)).1 (zA a (n-1)).2.1 l:=by
 refine⟨fun i c=>(Z.e i c).mono (zA_mono (by omega)).1 (zA_mono (by omega)).2,?_⟩
 by_cases h:s.p.length<n
 ·have h1:=zA_last (a:=a) (t:=s.p.length)
  have h2:=zA_mono (a:=a) (t:=s.p.length) (u:=n-1) (by omega)
  exact (Z.o h).mono (by omega) (by omega)
 ·exact Z.m (by omega) h0
def sz2 (a d ta td:Nat):Nat→Nat×Nat
 | 0=>(2*a,2*d)
 | m+1=>(max ((sz2 a d ta td m).1+(d+td)) (a+ta+(sz2 a d ta td m).2)+1,(sz2 a d ta td m).2+(d+td))
def tz (a d:Nat):Nat→Nat×Nat
 | 0=>(0,0)
 | m+1=>(max ((sz2 a d (tz a d m).1 (tz a d m).2 m).1+d) (tz a d m).1,max ((sz2 a d (tz a d m).1 (tz a d m).2 m).2+a) (tz a d m).2)
theorem sub_size {a d ta td:Nat} {x:Rat} {f g:Nat→Rat} (hx:S2 (2*a) (2*d) x) (hf:∀ m,S2 a d (f m)) (hg:∀ m,S2 ta td (g m)):∀ {m:Nat},S2 (sz2 a d ta td m).1 (sz2 a d ta td m).2 (x-sm (fun i=>f i*g i) m)
 | 0=>by
  show S2 (2*a) (2*d) (x-0)
  rw[Rat.sub_eq_add_neg,Rat.neg_zero,Rat.add_zero];exact hx
 | m+1=>by
  have h:=(sub_size hx hf hg (m:=m)).sub ((hf m).mul (hg m));have e:x-sm (fun i=>f i*g i) (m+1)=x-sm (fun i=>f i*g i) m-f m*g m:=by
   show x-(sm _ m+_)=_
   generalize sm (fun i=>f i*g i) m=u
   grind
  rw[e];exact h
theorem tmf_size {R:List (List Rat)} {p:List Nat} {l:Rat} {c a d:Nat} (hR:∀ i j,S2 a d (el R i j)) (hl:S2 a d l):∀ {m i:Nat},S2 (tz a d m).1 (tz a d m).2 (tmf R p l c m i)
 | 0,i=>S2.zero
 | m+1,i=>by
  show S2 _ _ (if i+(m+1)=p.length then _ else tmf R p l c m i)
  split
  ·have h:=(sub_size (x:=l*el R i c) (f:=fun q=>el R i (p.getD (i+1+q) 0)) (g:=fun q=>tmf R p l c m (i+1+q)) ((hl.mul (hR i c)).mono (by omega) (by omega)) (fun q=>hR _ _) (fun q=>tmf_size hR hl (m:=m)) (m:=m)).div (hR i (p.getD i 0))
   exact h.mono (Nat.le_max_left _ _) (Nat.le_max_left _ _)
  ·exact (tmf_size hR hl (m:=m) (i:=i)).mono (Nat.le_max_right _ _) (Nat.le_max_right _ _)
end GE
set_option linter.unusedVariables false
namespace GE
theorem den_times (q:Rat):(q.den:Rat)*q=q.num:=by
 have h:=Rat.num_divInt_den q;have h2:(q.den:Rat)≠0:=by have:=q.den_nz;simpa using this
 rw[Rat.divInt_eq_div] at h;have h3:((q.den:Int):Rat)=(q.den:Rat):=rfl;rw[h3] at h;generalize (q.den:Rat)=d at *;generalize (q.num:Rat)=n at *
 grind
theorem int_of {q:Rat} (h:q.den=1):q=(q.num:Rat):=by
 have:=den_times q;rw[h] at this;rw[←this];exact (Rat.one_mul q).symm
theorem int_mul {x y:Rat} (hx:x.den=1) (hy:y.den=1):(x*y).den=1:=by
 rw[int_of hx,int_of hy,←Rat.intCast_mul];rfl
def wsc:Rat→List Rat→Rat
 | s,[]=>s
 | s,x::l=>wsc (if x.den=1 then s else s*((s*x).den:Rat)) l
structure Pz (s:Rat):Prop where
 d:s.den=1
 p:0<s.num
theorem Pz.mul {x y:Rat} (h1:Pz x) (h2:Pz y):Pz (x*y):=by
 refine⟨int_mul h1.d h2.d,?_⟩
 rw[int_of h1.d,int_of h2.d,←Rat.intCast_mul];exact Int.mul_pos h1.p h2.p
theorem Pz.nat {n:Nat} (h:0<n):Pz (n:Rat):=⟨rfl,by show (0:Int)<(n:Int);omega⟩
theorem Pz.one:Pz 1:=⟨rfl,by decide⟩
theorem Pz.nz {s:Rat} (h:Pz s):s≠0:=by rintro rfl;exact absurd h.p (by decide)
theorem wsc_step {s:Rat} (x:Rat) (h:Pz s):Pz (if x.den=1 then s else s*((s*x).den:Rat)):=by
 split
 ·exact h
 ·exact h.mul (Pz.nat (s*x).den_pos)
theorem wsc_pz:∀ {l:List Rat} {s:Rat},Pz s→Pz (wsc s l)
 | [],s,h=>h
 | x::l,s,h=>wsc_pz (l:=l) (wsc_step x h)
theorem wsc_keep:∀ {l:List Rat} {s x:Rat},(s*x).den=1→(wsc s l*x).den=1
 | [],s,x,h=>h
 | y::l,s,x,h=>by
  refine wsc_keep (l:=l) ?_
  split
  ·exact h
  ·rw[show s*((s*y).den:Rat)*x=((s*y).den:Rat)*(s*x) by generalize ((s*y).den:Rat)=w;grind]
   exact int_mul rfl h
theorem wsc_whole:∀ {l:List Rat} {s x:Rat},Pz s→x∈l→(wsc s l*x).den=1
 | y::l,s,x,hs,h=>by
  rcases List.mem_cons.1 h with rfl | h
  ·refine wsc_keep (l:=l) ?_
   split
   ·rename_i h1;exact int_mul hs.d h1
   ·rw[show s*((s*x).den:Rat)*x=((s*x).den:Rat)*(s*x) by generalize ((s*x).den:Rat)=w;grind,den_times]
    rfl
  ·exact wsc_whole (l:=l) (wsc_step y hs) h
theorem den_le {s x:Rat} (h:s.den=1):(s*x).den≤x.den:=by
 rw[Rat.den_mul,h,Nat.one_mul];exact Nat.div_le_self _ _
theorem wsc_size {d:Nat}:∀ {l:List Rat} {s:Rat} {b:Nat},Pz s→s.num.natAbs≤4294967296^b→(∀ x∈l,x.den≤4294967296^d)→(wsc s l).num.natAbs≤4294967296^(b+d*l.length)
 | [],s,b,hs,h,_=>h
 | y::l,s,b,hs,h,hd=>by
  have ih:=wsc_size (l:=l) (b:=b+d) (wsc_step y hs) ?_ fun x hx=>hd x (List.mem_cons_of_mem _ hx)
  ·refine Nat.le_trans ih (w_mono ?_)
   rw[List.length_cons,Nat.mul_succ];omega
  ·split
   ·exact Nat.le_trans h (w_mono (by omega))
   ·have e:s*((s*y).den:Rat)=((s.num*((s*y).den:Int):Int):Rat):=by
     rw[Rat.intCast_mul,←int_of hs.d];rfl
    rw[e,Rat.num_intCast,Int.natAbs_mul,Int.natAbs_natCast,Nat.pow_add];exact Nat.mul_le_mul h (Nat.le_trans (den_le hs.d) (hd y List.mem_cons_self))
theorem wsc_s2 {l:List Rat} {a d m:Nat} (hl:l.length≤m) (h:∀ x∈l,x.num.natAbs≤4294967296^a∧x.den≤4294967296^d) :
  S2 (d*m) 0 (wsc 1 l)∧∀ x∈l,S2 (d*m+a) 0 (wsc 1 l*x):=by
 have h1:=wsc_size (d:=d) (l:=l) (s:=1) (b:=0) Pz.one (Nat.le_refl 1) fun x hx=>(h x hx).2
 have h2:=wsc_pz (l:=l) Pz.one;have h3:S2 (d*m) 0 (wsc 1 l):=⟨Nat.le_trans h1 (w_mono (by rw[Nat.zero_add];exact Nat.mul_le_mul_left d hl)),by rw[h2.d];exact Nat.le_refl 1⟩
 refine⟨h3,fun x hx=>⟨?_,by rw[wsc_whole Pz.one hx];exact Nat.le_refl 1⟩⟩
 have h4:=(h3.mul (⟨(h x hx).1,(h x hx).2⟩:S2 a d x)).n;exact h4
def rsc (M:List (List Rat)) (i:Nat):Rat:=wsc 1 (M.getD i [])
def wh (M:List (List Rat)):List (List Rat):=M.map fun r=>r.map fun x=>wsc 1 r*x
theorem wh_len {M:List (List Rat)}:(wh M).length=M.length:=List.length_map _
theorem wh_rct {k:Nat} {M:List (List Rat)} (h:rct k M):rct k (wh M):=by
 intro r hr;obtain⟨s,hs,rfl⟩:=List.mem_map.1 hr;rw[List.length_map];exact h s hs
theorem el_wh {M:List (List Rat)} {i j:Nat} (hi:i<M.length):el (wh M) i j=el M i j*rsc M i:=by
 unfold el wh rsc;simp only[List.getD_eq_getElem?_getD,List.getElem?_map,List.getElem?_eq_getElem hi,Option.map_some,Option.getD_some]
 cases M[i][j]? with
 | none=>exact (Rat.zero_mul _).symm
 | some x=>exact Rat.mul_comm _ _
theorem rsc_nz {M:List (List Rat)} {i:Nat}:rsc M i≠0:=(wsc_pz Pz.one).nz
theorem ns_wh {n k:Nat} {M:List (List Rat)} (hn:M.length=n) {x:Nat→Rat}:NS n k (wh M) x↔NS n k M x:=by
 have e:∀ i<n,dt k (wh M) x i=dt k M x i*rsc M i:=fun i hi=>dt_mul fun j=>el_wh (by omega)
 constructor
 ·intro h i hi
  have h1:=h i hi;have h2:=rsc_nz (M:=M) (i:=i);rw[e i hi] at h1;generalize dt k M x i=u at h1 ⊢
  grind
 ·intro h i hi
  rw[e i hi,h i hi,Rat.zero_mul]
theorem elim_red {n k:Nat} {M:List (List Rat)} (hn:M.length=n) (hr:rct k M) {f:Rat} {S:GS} {l:Rat} (h:brun k 0 ⟨wh M,[],f⟩ 1=(S,l)) :
  EF n k S.M S.p k∧l≠0∧S.p=(red k M).p∧∀ j<k,j∉S.p→∀ s (hs:s<S.p.length),el (red k M).M s j=tmf S.M S.p l j S.p.length s / l:=by
 have F0:=ef_start (n:=n) (k:=k) (M:=wh M) (wh_len.trans hn) (wh_rct hr);have h1:=brun_ef (c:=k) (s:=⟨wh M,[],f⟩) (l:=1) F0 (by decide)
 rw[h,Nat.zero_add] at h1;have R:=red_rf hn hr;have h2:=ef_red h1.1 R.1 (fun x=>(h1.2.2 x).trans ((ns_wh hn).trans (R.2 x).symm)) h1.2.1
 exact⟨h1.1,h1.2.1,h2.1,h2.2⟩
end GE
set_option linter.unusedVariables false
namespace GE
variable {n k:Nat}
def rdP (n k:Nat) (S:GS) (l:Rat):List (List Rat):=
 mk n k fun i j=>if j∈S.p then (if i<S.p.length∧S.p.getD i 0=j then 1 else 0) else if i<S.p.length then tmf S.M S.p l j S.p.length i / l else 0
theorem rdP_eq {M:List (List Rat)} (hn:M.length=n) (hr:rct k M) {f:Rat} {S:GS} {l:Rat} (h:brun k 0 ⟨wh M,[],f⟩ 1=(S,l)):rdP n k S l=(red k M).M:=by
 obtain⟨E,hl,hp,he⟩:=elim_red hn hr h;have R:=(red_rf hn hr).1;rw[←hp] at R;refine ext_el mk_len R.len mk_rct R.rect fun i hi j hj=>?_
 unfold rdP;rw[el_mk hi hj]
 by_cases hjp:j∈S.p
 ·rw[if_pos hjp]
  obtain⟨t,ht,rfl⟩:=List.getElem_of_mem hjp
  by_cases h1:i<S.p.length∧S.p.getD i 0=S.p[t]
  ·rw[if_pos h1]
   obtain⟨h2,e⟩:=h1;rw[List.getD_eq_getElem?_getD,List.getElem?_eq_getElem h2] at e
   have e:S.p[i]=S.p[t]:=e;rw[←e];exact (R.one i h2).symm
  ·rw[if_neg h1]
   refine (R.off t ht i hi fun e=>h1 ?_).symm
   subst e;exact⟨ht,by rw[List.getD_eq_getElem?_getD,List.getElem?_eq_getElem ht];rfl⟩
 ·rw[if_neg hjp]
  split
  ·rename_i h1;exact (he j hj hjp i h1).symm
  ·rename_i h1;exact (R.low i (by omega) hi j hj).symm
theorem pv_prefix {K:Nat} {A B:Nat→Nat→Rat} (hk:k≤K) (h:∀ i<n,∀ j<k,A i j=B i j) {j:Nat} (hj:j<k):j∈pv n K A↔j∈pv n k B:=by
 have e:∀ x:Nat→Rat,(∀ i,j<i→x i=0)→(KF n K A x↔KF n k B x):=fun x h0=>by
  have e1:∀ i<n,sm (fun l=>A i l*x l) K=sm (fun l=>B i l*x l) k:=fun i hi=>by
   have:sm (fun l=>A i l*x l) (k+(K-k))=_:=sm_split
   rw[Nat.add_sub_cancel' hk] at this;rw[this,sm_zero (f:=fun l=>A i (k+l)*x (k+l)) (fun l _=>by rw[h0 (k+l) (by omega),Rat.mul_zero]),Rat.add_zero]
   exact sm_congr fun l hl=>by rw[h i hi l hl]
  constructor
  ·intro g i hi;rw[←e1 i hi];exact g i hi
  ·intro g i hi;rw[e1 i hi];exact g i hi
 rw[pv_iff (by omega),pv_iff hj]
 exact⟨fun g x hx h0=>g x ((e x h0).2 hx) h0,fun g x hx h0=>g x ((e x h0).1 hx) h0⟩
theorem besd_rank {A:Nat→Nat→Rat}:rk n (n+n) (besd n A)=n:=by
 refine rk_indep.2 fun y hy i hi=>?_
 have h:=hy (n+i) (by omega)
 rw[sm_one hi fun l _ hl=>?_] at h
 ·have e:besd n A i (n+i)=1:=by unfold besd I1;rw[if_neg (by omega),if_pos (by omega)]
  rw[e,Rat.mul_one] at h;exact h
 ·have e:besd n A l (n+i)=0:=by unfold besd I1;rw[if_neg (by omega),if_neg (by omega)]
  rw[e,Rat.mul_zero]
theorem sorted_ge {p:List Nat} (h:p.Pairwise (· < ·)):∀ {t:Nat} (ht:t<p.length),t≤p[t]
 | 0,_=>Nat.zero_le _
 | t+1,ht=>by
  have h1:=sorted_ge h (t:=t) (by omega)
  have h2:=List.pairwise_iff_getElem.1 h t (t+1) (by omega) ht (by omega)
  omega
theorem besd_sing {A:Nat→Nat→Rat} (h0:0<n):(pv n (n+n) (besd n A)).getD (n-1) 0=n-1↔rk n n A=n:=by
 have hl:(pv n (n+n) (besd n A)).length=n:=besd_rank;have hm:=rr_rf (n:=n) (k:=n+n) (A:=besd n A) |>.mono;have g:(pv n (n+n) (besd n A)).getD (n-1) 0=(pv n (n+n) (besd n A))[n-1]'(by omega):=by
  rw[List.getD_eq_getElem?_getD,List.getElem?_eq_getElem (by omega)];rfl
 constructor
 ·intro h
  rw[g] at h;have all:∀ t (ht:t<n),(pv n (n+n) (besd n A))[t]'(by omega)=t:=fun t ht=>by
   have a:=sorted_ge hm (t:=t) (by omega)
   have key:∀ d,∀ u (hu:u<n),u+d=n-1→(pv n (n+n) (besd n A))[u]'(by omega)≤u:=fun d=>by
    induction d with
    | zero=>
     intro u hu e;obtain rfl:u=n-1:=by omega
     omega
    | succ d ih=>
     intro u hu e;have b:=ih (u+1) (by omega) (by omega)
     have c:=List.pairwise_iff_getElem.1 hm u (u+1) (by omega) (by omega) (by omega)
     omega
   have b:=key (n-1-t) t ht (by omega)
   omega
  have mem:∀ j<n,j∈pv n n A:=fun j hj=>by
   refine (pv_prefix (K:=n+n) (A:=besd n A) (by omega) (fun i _ l hl=>if_pos hl) hj).1 ?_
   have:=List.getElem_mem (l:=pv n (n+n) (besd n A)) (n:=j) (by omega)
   rw[all j hj] at this;exact this
  have:=len_le (a:=List.range n) (b:=pv n n A) List.pairwise_lt_range fun x hx=>mem x (List.mem_range.1 hx)
  rw[List.length_range] at this;exact Nat.le_antisymm rk_rows this
 ·intro h
  rw[besd_pv h,List.getD_eq_getElem?_getD,List.getElem?_range (by omega)];rfl
theorem det_eq (hn4:n≤4) {M:List (List Rat)} (hn:M.length=n) (hr:rct n M) {S:GS} {l:Rat} (h:brun n 0 ⟨wh M,[],pr (rsc M) n⟩ 1=(S,l)) :
  (if S.p.length<n then 0 else l / S.f)=dE n (el M):=by
 obtain⟨E,hl,hp,he⟩:=elim_red hn hr h;have hrk:S.p.length=rk n n (el M):=by
  rw[hp];unfold rk pv;rw[mk_el hn hr]
 have hle:=rk_rows (n:=n) (k:=n) (A:=el M)
 by_cases hlt:S.p.length<n
 ·rw[if_pos hlt]
  exact ((dE_zero hn4).2 (by omega)).symm
 ·rw[if_neg hlt,←D_dE hn4]
  refine bareiss_det hn4 (c:=rsc M) (fun i _=>rsc_nz) (S:=S) (l:=l) ?_ (by omega)
  rw[←h]
  congr 2
  exact ext_el mk_len (wh_len.trans hn) mk_rct (wh_rct hr) fun i hi j hj=>by rw[el_mk hi hj,el_wh (by omega)]
end GE
namespace Go.Proofs.YthlinhconnmbcaaGreat
open Go.RowKit RQ GE
set_option linter.unusedVariables false
def rowv (m b:Nat):Value:=.slice (some ⟨b,0,none⟩) m m
def rowb (b:Nat) (L:List Rt):Bk:=(b,(csE L).toArray,33)
def MB (g:Nat) (V:List Value) (B:List Nat) (R:List (List Rt)):List Bk:=(g,V.toArray,46)::List.zipWith rowb B R
structure RK (B:List Nat) (m:Nat) (R:List (List Rt)) (M:List (List Rat)) (rs:List Rdg):Prop where
 len:R.length=B.length
 row:∀ L∈R,L.length=m
 el:∀ L∈R,∀ x∈L,x.can∧x.rdIn rs
 q:R.map (fun L=>L.map (·.q))=M
theorem zip_perm:∀ {B:List Nat} {R:List (List Rt)} {i b:Nat} {L:List Rt},B[i]?=some b→R[i]?=some L→(List.zipWith rowb B R).Perm (rowb b L::List.zipWith rowb (B.eraseIdx i) (R.eraseIdx i))
 | [],_,_,_,_,h,_=>by simp at h
 | _::_,[],_,_,_,_,h=>by simp at h
 | b'::B,L'::R,0,b,L,h,h'=>by
  simp only[List.getElem?_cons_zero,Option.some.injEq] at h h'
  subst h h';exact List.Perm.refl _
 | b'::B,L'::R,i+1,b,L,h,h'=>by
  simp only[List.getElem?_cons_succ] at h h'
  exact ((zip_perm h h').cons _).trans (List.Perm.swap _ _ _)
theorem erase_set {α:Type}:∀ {R:List α} {i:Nat} {x:α},(R.set i x).eraseIdx i=R.eraseIdx i
 | [],_,_=>rfl
 | _::_,0,_=>rfl
 | y::R,i+1,x=>by
  show y::(R.set i x).eraseIdx i=y::R.eraseIdx i
  rw[erase_set]
section
variable {w W W':World} {g m:Nat} {V:List Value} {B:List Nat} {R:List (List Rt)} {xs:List Bk} {rs rs':List Rdg} {M:List (List Rat)}
theorem RK.mono (h:RK B m R M rs) (hr:∀ p∈rs,p∈rs'):RK B m R M rs':=⟨h.len,h.row,fun L hL x hx=>⟨(h.el L hL x hx).1,hr _ (h.el L hL x hx).2.1,hr _ (h.el L hL x hx).2.2⟩,h.q⟩
theorem RK.mlen (h:RK B m R M rs):M.length=B.length:=by rw[←h.q,List.length_map];exact h.len
theorem RK.rct (h:RK B m R M rs):rct m M:=by
 intro r hr;rw[←h.q] at hr;obtain⟨L,hL,rfl⟩:=List.mem_map.1 hr;rw[List.length_map];exact h.row L hL
theorem RK.get (h:RK B m R M rs) {i:Nat} (hi:i<B.length):∃ L,R[i]?=some L∧L∈R∧M.getD i []=L.map (·.q)∧L.length=m∧B[i]?=some (B.getD i 0):=by
 have hl:=h.len;have e:R[i]?=some R[i]:=List.getElem?_eq_getElem (by omega)
 refine⟨R[i],e,List.getElem_mem _,?_,h.row _ (List.getElem_mem _),?_⟩
 ·rw[←h.q,List.getD_eq_getElem?_getD,List.getElem?_map,e];rfl
 ·rw[List.getD_eq_getElem?_getD,List.getElem?_eq_getElem hi];rfl
theorem MB_cell (S:St w W (MB g V B R++xs) rs) {i:Nat} {v:Value} (hv:V[i]?=some v):W.cell? ⟨g,i,none⟩=some v∧∀ j,W.frozen? ⟨g,j,none⟩=false:=by
 have hb:=(S.bk (g,V.toArray,46) (List.mem_append_left _ List.mem_cons_self)).1;exact⟨hb.cell (by rw[List.getElem?_toArray];exact hv),fun j=>hb.frozen j⟩
theorem MB_row (S:St w W (MB g (B.map (rowv m)) B R++xs) rs) {i:Nat} (hi:i<B.length):W.cell? ⟨g,i,none⟩=some (.slice (some ⟨B.getD i 0,0,none⟩) m m):=by
 refine (MB_cell S (v:=rowv m (B.getD i 0)) ?_).1
 rw[List.getElem?_map,List.getD_eq_getElem?_getD,List.getElem?_eq_getElem hi];rfl
theorem MB_perm {i b:Nat} {L:List Rt} (hb:B[i]?=some b) (hL:R[i]?=some L):(MB g V B R++xs).Perm (rowb b L::((g,V.toArray,46)::List.zipWith rowb (B.eraseIdx i) (R.eraseIdx i)++xs)):=by
 unfold MB;exact (((zip_perm hb hL).cons _).trans (List.Perm.swap _ _ _)).append_right xs
theorem MB_num (S:St w W (MB g V B R++xs) rs) (K:RK B m R M rs) {i j:Nat} (hi:i<B.length) (hj:j<m):∃ x:Rt,x.q=el M i j∧x.can∧x.raw W∧W.cell? ⟨B.getD i 0,j*3,none⟩=some (.bool x.b)∧W.cell? ⟨B.getD i 0,j*3+1,none⟩=some (.slice x.A x.n x.c)∧W.cell? ⟨B.getD i 0,j*3+2,none⟩=some (.slice x.D x.m x.d)∧∀ k,W.frozen? ⟨B.getD i 0,k,none⟩=false:=by
 obtain⟨L,hL,hm,hq,hl,hb⟩:=K.get hi;have S1:=S.prm (MB_perm hb hL);have hx:L[j]?=some L[j]:=List.getElem?_eq_getElem (by omega)
 obtain⟨⟨e0,e1,e2⟩,f⟩:=St_lcl S1 hx;obtain⟨k1,k2⟩:=K.el L hm L[j] (List.getElem_mem _);refine⟨L[j],?_,k1,⟨S.rd _ k2.1,S.rd _ k2.2⟩,e0,e1,e2,f⟩
 unfold GE.el;rw[hq,List.getD_eq_getElem?_getD,List.getElem?_map,hx];rfl
theorem MB_put (S:St w W (MB g V B R++xs) rs) (K:RK B m R M rs) {i j:Nat} (hi:i<B.length) (x:Rt) (hx:x.can∧x.rdIn rs):∃ R',St w (((W.setCell ⟨B.getD i 0,j*3,none⟩ (.bool x.b)).setCell ⟨B.getD i 0,j*3+1,none⟩ (.slice x.A x.n x.c)).setCell ⟨B.getD i 0,j*3+2,none⟩ (.slice x.D x.m x.d)) (MB g V B R'++xs) rs∧RK B m R' (M.set i ((M.getD i []).set j x.q)) rs:=by
 obtain⟨L,hL,hm,hq,hl,hb⟩:=K.get hi;have hiR:i<R.length:=by rw[K.len];exact hi
 have S1:=St_lset (S.prm (MB_perm hb hL)) j x;refine⟨R.set i (L.set j x),S1.prm ?_,?_⟩
 ·have:=(MB_perm (g:=g) (V:=V) (xs:=xs) hb (show (R.set i (L.set j x))[i]?=some (L.set j x) by rw[List.getElem?_set_self hiR])).symm
  rw[erase_set] at this;exact this
 ·refine⟨by rw[List.length_set];exact K.len,fun L' h'=>?_,fun L' h' y hy=>?_,?_⟩
  ·rcases List.mem_or_eq_of_mem_set h' with h' | rfl
   ·exact K.row L' h'
   ·rw[List.length_set];exact hl
  ·rcases List.mem_or_eq_of_mem_set h' with h' | rfl
   ·exact K.el L' h' y hy
   ·rcases List.mem_or_eq_of_mem_set hy with hy | rfl
    ·exact K.el L hm y hy
    ·exact hx
  ·rw[List.map_set,List.map_set,K.q,hq]
def KR (m:Nat) (B:List Nat) (R:List (List Rt)):List Ro:=List.zipWith (fun b L=>⟨some ⟨b,0,none⟩,m,m,L⟩) B R
theorem KR_get {i b:Nat} {L:List Rt} (hb:B[i]?=some b) (hL:R[i]?=some L):(KR m B R)[i]?=some ⟨some ⟨b,0,none⟩,m,m,L⟩:=by
 unfold KR;rw[List.getElem?_zipWith,hb,hL]
theorem KR_of {i:Nat} {r:Ro} (h:(KR m B R)[i]?=some r):∃ b L,B[i]?=some b∧R[i]?=some L∧r=⟨some ⟨b,0,none⟩,m,m,L⟩:=by
 unfold KR at h;rw[List.getElem?_zipWith] at h
 cases hb:B[i]? with
 | none=>rw[hb] at h;cases h
 | some b=>cases hL:R[i]? with
  | none=>rw[hb,hL] at h;cases h
  | some L=>rw[hb,hL] at h;exact⟨b,L,rfl,rfl,(Option.some.inj h).symm⟩
theorem KR_len (K:RK B m R M rs):(KR m B R).length=B.length:=by unfold KR;rw[List.length_zipWith,K.len,Nat.min_self]
theorem KR_v:∀ {B:List Nat} {R:List (List Rt)},R.length=B.length→(KR m B R).map Ro.v=B.map (rowv m)
 | [],[],_=>rfl
 | b::B,L::R,h=>by
  show Ro.v _::(KR m B R).map Ro.v=rowv m b::B.map (rowv m)
  rw[KR_v (by simpa using h)];rfl
theorem KR_q:∀ {B:List Nat} {R:List (List Rt)},R.length=B.length→qM (KR m B R)=R.map (fun L=>L.map (·.q))
 | [],[],_=>rfl
 | b::B,L::R,h=>by
  have ih:=KR_q (B:=B) (R:=R) (by simpa using h)
  unfold qM at *
  show _::(KR m B R).map _=_::R.map _
  rw[ih]
theorem KR_in (K:RK B m R M rs) (S:St w W (MB g V B R++xs) rs):∀ r∈KR m B R,r.In (MB g V B R++xs) rs:=by
 intro r hr;obtain⟨i,hi⟩:=List.getElem?_of_mem hr
 obtain⟨b,L,hb,hL,rfl⟩:=KR_of hi;have hm:=List.mem_of_getElem? hL;refine⟨K.row L hm,.inr ⟨b,(csE L).toArray,rfl,Nat.le_refl _,?_,?_⟩,fun x hx=>(K.el L hm x hx).2⟩
 ·exact (MB_perm hb hL).mem_iff.2 List.mem_cons_self
 ·show ((csE L).toArray.toList).take (m*3)=csE L
  rw[List.toList_toArray,List.take_of_length_le (by rw[csE_len,K.row L hm];exact Nat.le_refl _)]
theorem KR_can (K:RK B m R M rs) (hm:m≤1000):canM (KR m B R):=by
 intro r hr;obtain⟨i,hi⟩:=List.getElem?_of_mem hr
 obtain⟨b,L,hb,hL,rfl⟩:=KR_of hi;exact⟨hm,fun x hx=>(K.el L (List.mem_of_getElem? hL) x hx).1⟩
theorem MB_mat (S:St w W (MB g (B.map (rowv m)) B R++xs) rs) (K:RK B m R M rs):Mr W (some ⟨g,0,none⟩) B.length B.length (KR m B R):=by
 have hI:=KR_in K S;refine⟨KR_len K,Nat.le_refl _,.inr ⟨g,0,rfl,(S.bk (g,(B.map (rowv m)).toArray,46) (List.mem_append_left _ List.mem_cons_self)).1.lt,fun i r hi=>?_⟩,fun r hr=>(hI r hr).sr S⟩
 obtain⟨b,L,hb,hL,rfl⟩:=KR_of hi;rw[Nat.zero_add];exact (MB_cell S (v:=rowv m b) (by rw[List.getElem?_map,hb];rfl)).1
end
end Go.Proofs.YthlinhconnmbcaaGreat
namespace Go.Proofs.YthlinhconnmbcaaGreat
open Go.RowKit RQ
theorem rv_den1 {b:Bool} {xs:List Nat}:(rv b xs []).den=1:=by
 unfold rv
 split
 ·have h1:=den_divInt_le (sg b (val xs)) (d:=1) (by decide)
  have e:mkRat (sg b (val xs)) (dv [])=Rat.divInt (sg b (val xs)) 1:=(Rat.divInt_ofNat _ 1).symm;rw[e];have:=(Rat.divInt (sg b (val xs)) 1).den_pos
  omega
 ·rfl
theorem rk_den1 {b:Bool} {n:Nat} {x:List Nat} {m:Nat} {y:List Nat} {q:Rat} (k:Rk b n x m y q) (h:y.length=m) (h0:m=0):q.den=1:=by
 obtain rfl:y=[]:=List.length_eq_zero_iff.1 (h.trans h0);rw[←k.1];exact rv_den1
theorem den1_mul {x y:Rat} (hx:x.den=1) (hy:y.den=1):(x*y).den=1:=by
 have ex:x=(x.num:Rat):=by apply Rat.ext<;>simp[hx]
 have ey:y=(y.num:Rat):=by apply Rat.ext<;>simp[hy]
 rw[ex,ey,←Rat.intCast_mul];rfl
def wsc (l:List Rat):Nat→Rat
 | 0=>((1:Int):Rat)
 | i+1=>wsc l i*(((wsc l i*l.getD i 0).den:Int):Rat)
theorem wsc_den (l:List Rat):∀ i,(wsc l i).den=1
 | 0=>rfl
 | i+1=>by unfold wsc;exact den1_mul (wsc_den l i) rfl
theorem wsc_stay {l:List Rat} {i:Nat} {q:Rat} (hq:l.getD i 0=q) (h:q.den=1):wsc l (i+1)=wsc l i:=by
 show wsc l i*(((wsc l i*l.getD i 0).den:Int):Rat)=_
 rw[hq,den1_mul (wsc_den l i) h];exact Rat.mul_one _
theorem wsc_ne (l:List Rat):∀ i,wsc l i≠0
 | 0=>show ((1:Int):Rat)≠0 by decide
 | i+1=>by
  unfold wsc;intro h
  rcases Rat.mul_eq_zero.1 h with h | h
  ·exact wsc_ne l i h
  ·have:(wsc l i*l.getD i 0).den=0:=by exact_mod_cast h
   exact Rat.den_nz _ this
def wbn:Nat→Nat→Nat
 | _,0=>1
 | p,i+1=>wbn p i+(wbn p i+p)
theorem wsc_rs {l:List Rat} {p:Nat} (hl:∀ x∈l,Rs x p) (hp0:1≤p):∀ i,Rs (wsc l i) (wbn p i)
 | 0=>show Rs ((1:Int):Rat) 1 from Rs.int (z:=1) (by decide) (Nat.le_refl _)
 | i+1=>by
  have h1:=wsc_rs hl hp0 i;have hx:Rs (l.getD i 0) p:=by
   rw[List.getD_eq_getElem?_getD]
   cases hh:l[i]? with
   | none=>exact (Rs.int (z:=0) (p:=p) (Nat.pow_pos (by decide)) hp0)
   | some x=>exact hl x (List.mem_of_getElem? hh)
  have h2:=h1.mul hx;have h3:1≤wbn p i:=by
   clear h1 h2 hx
   induction i with
   | zero=>exact Nat.le_refl _
   | succ i ih=>show 1≤wbn p i+(wbn p i+p);omega
  exact h1.mul (Rs.int (z:=((wsc l i*l.getD i 0).den:Int)) (by simpa using h2.d) (by omega))
end Go.Proofs.YthlinhconnmbcaaGreat
