/- The reduced form of a matrix over Rat: the elimination of text Ev ends in the one reduced form with the same solutions. Core Lean only. -/

set_option linter.unusedVariables false
namespace GE
def timesQ (l:List Rat) (c:Rat):List Rat:=l.map (· * c)
def plusQ (a b:List Rat):List Rat:=List.zipWith (· + ·) a b
def el (M:List (List Rat)) (i j:Nat):Rat:=(M.getD i []).getD j 0
def sr (j:Nat):List (List Rat)→Nat
 | []=>0
 | r::M=>if (r.getD j 0).num=0 then sr j M+1 else 0
def swp (M:List (List Rat)) (a t:Nat):=(M.set a (M.getD t [])).set t (M.getD a [])
def nrm (M:List (List Rat)) (j t:Nat):=M.set t (timesQ (M.getD t []) (1 / el M t j))
def rw1 (M:List (List Rat)) (j t i:Nat):=if i=t then M else M.set i (plusQ (M.getD i []) (timesQ (M.getD t []) (-(el M i j))))
def rws (M:List (List Rat)) (j t:Nat):Nat→List (List Rat)
 | 0=>M
 | i+1=>rw1 (rws M j t i) j t i
structure GS where
 M:List (List Rat)
 p:List Nat
 f:Rat
def gat (j:Nat) (s:GS):Nat:=s.p.length+sr j (s.M.drop s.p.length)
def gm1 (j:Nat) (s:GS):List (List Rat):=if gat j s=s.p.length then s.M else swp s.M (gat j s) s.p.length
def gf1 (j:Nat) (s:GS):Rat:=if gat j s=s.p.length then s.f else -s.f
def gcol (j:Nat) (s:GS):GS:=
 if gat j s=s.M.length then s else ⟨rws (nrm (gm1 j s) j s.p.length) j s.p.length s.M.length,s.p++[j],gf1 j s*el (gm1 j s) s.p.length j⟩
def grun:Nat→Nat→GS→GS
 | 0,_,s=>s
 | c+1,j,s=>grun c (j+1) (gcol j s)
def rct (k:Nat) (M:List (List Rat)):Prop:=∀ r∈M,r.length=k
/- From here on: what is proved. -/
theorem rct_getD {k:Nat} {M:List (List Rat)} (h:rct k M) {i:Nat} (hi:i<M.length):(M.getD i []).length=k:=by
 rw[List.getD_eq_getElem?_getD,List.getElem?_eq_getElem hi]
 exact h _ (List.getElem_mem hi)
theorem rct_set {k:Nat} {M:List (List Rat)} (h:rct k M) {i:Nat} {r:List Rat} (hr:r.length=k):rct k (M.set i r):=by
 intro x hx
 rcases List.mem_or_eq_of_mem_set hx with hx | rfl
 ·exact h x hx
 ·exact hr
theorem getD_set {M:List (List Rat)} {i a:Nat} {r:List Rat} (hi:i<M.length):(M.set i r).getD a []=if a=i then r else M.getD a []:=by
 rw[List.getD_eq_getElem?_getD,List.getD_eq_getElem?_getD]
 by_cases h:a=i
 ·subst h;rw[List.getElem?_set_self hi,if_pos rfl];rfl
 ·rw[List.getElem?_set_ne (fun e=>h e.symm),if_neg h]
theorem times_getD {l:List Rat} {c:Rat} {j:Nat}:(timesQ l c).getD j 0=l.getD j 0*c:=by
 unfold timesQ;rw[List.getD_eq_getElem?_getD,List.getD_eq_getElem?_getD,List.getElem?_map]
 cases l[j]? with
 | none=>exact (Rat.zero_mul c).symm
 | some x=>rfl
theorem plus_getD {a b:List Rat} (h:a.length=b.length) {j:Nat}:(plusQ a b).getD j 0=a.getD j 0+b.getD j 0:=by
 unfold plusQ;rw[List.getD_eq_getElem?_getD,List.getD_eq_getElem?_getD,List.getD_eq_getElem?_getD,List.getElem?_zipWith]
 rcases Nat.lt_or_ge j a.length with hj | hj
 ·rw[List.getElem?_eq_getElem hj,List.getElem?_eq_getElem (h ▸ hj)];rfl
 ·rw[List.getElem?_eq_none hj,List.getElem?_eq_none (h ▸ hj)];exact (Rat.add_zero 0).symm
theorem times_len {l:List Rat} {c:Rat}:(timesQ l c).length=l.length:=by unfold timesQ;exact List.length_map _
theorem plus_len {a b:List Rat} (h:a.length=b.length):(plusQ a b).length=a.length:=by unfold plusQ;rw[List.length_zipWith,h,Nat.min_self]
theorem swp_len {M:List (List Rat)} {a t:Nat}:(swp M a t).length=M.length:=by unfold swp;rw[List.length_set,List.length_set]
theorem swp_rct {k:Nat} {M:List (List Rat)} (h:rct k M) {a t:Nat} (ha:a<M.length) (ht:t<M.length):rct k (swp M a t):=
 rct_set (rct_set h (rct_getD h ht)) (rct_getD h ha)
theorem el_swp {M:List (List Rat)} {a t i j:Nat} (ha:a<M.length) (ht:t<M.length):el (swp M a t) i j=if i=t then el M a j else if i=a then el M t j else el M i j:=by
 unfold el swp;rw[getD_set (by rw[List.length_set];exact ht),getD_set ha]
 split
 ·rfl
 ·split<;>rfl
theorem nrm_len {M:List (List Rat)} {j t:Nat}:(nrm M j t).length=M.length:=by unfold nrm;rw[List.length_set]
theorem nrm_rct {k:Nat} {M:List (List Rat)} (h:rct k M) {j t:Nat} (ht:t<M.length):rct k (nrm M j t):=
 rct_set h (by rw[times_len];exact rct_getD h ht)
theorem el_nrm {M:List (List Rat)} {j t i c:Nat} (ht:t<M.length):el (nrm M j t) i c=if i=t then el M t c*(1 / el M t j) else el M i c:=by
 unfold nrm el;rw[getD_set ht]
 split
 ·exact times_getD
 ·rfl
theorem rw1_len {M:List (List Rat)} {j t i:Nat}:(rw1 M j t i).length=M.length:=by
 unfold rw1
 split
 ·rfl
 ·exact List.length_set
theorem rw1_rct {k:Nat} {M:List (List Rat)} (h:rct k M) {j t i:Nat} (ht:t<M.length) (hi:i<M.length):rct k (rw1 M j t i):=by
 unfold rw1
 split
 ·exact h
 ·exact rct_set h (by rw[plus_len (by rw[times_len,rct_getD h ht,rct_getD h hi])];exact rct_getD h hi)
theorem el_rw1 {k:Nat} {M:List (List Rat)} (h:rct k M) {j t i a c:Nat} (ht:t<M.length) (hi:i<M.length):el (rw1 M j t i) a c=if a=i∧i≠t then el M i c+el M t c * -(el M i j) else el M a c:=by
 unfold rw1
 by_cases hit:i=t
 ·rw[if_pos hit,if_neg (fun e=>e.2 hit)]
 ·rw[if_neg hit]
  show ((M.set i _).getD a []).getD c 0=_
  rw[getD_set hi]
  by_cases ha:a=i
  ·rw[if_pos ha,if_pos ⟨ha,hit⟩,plus_getD (by rw[times_len,rct_getD h ht,rct_getD h hi]),times_getD];rfl
  ·rw[if_neg ha,if_neg (fun e=>ha e.1)];rfl
theorem rws_len {M:List (List Rat)} {j t:Nat}:∀ {n:Nat},(rws M j t n).length=M.length
 | 0=>rfl
 | n+1=>(rw1_len (M:=rws M j t n) (j:=j) (t:=t) (i:=n)).trans rws_len
theorem rws_rct {M:List (List Rat)} {j t k:Nat} (h:rct k M) (ht:t<M.length):∀ {n:Nat},n≤M.length→rct k (rws M j t n)
 | 0,_=>h
 | n+1,hn=>rw1_rct (rws_rct h ht (by omega)) (by rw[rws_len];exact ht) (by rw[rws_len];omega)
theorem el_rws {M:List (List Rat)} {j t k:Nat} (h:rct k M) (ht:t<M.length) {a c:Nat}:∀ {n:Nat},n≤M.length→el (rws M j t n) a c=if a<n∧a≠t then el M a c+el M t c * -(el M a j) else el M a c
 | 0,_=>by rw[if_neg (by omega)];rfl
 | n+1,hn=>by
  have ih:=fun b d=>el_rws h ht (a:=b) (c:=d) (n:=n) (j:=j) (by omega)
  show el (rw1 (rws M j t n) j t n) a c=_
  have e1:∀ d,el (rws M j t n) n d=el M n d:=fun d=>by rw[ih n d,if_neg (by omega)]
  have e2:el (rws M j t n) t c=el M t c:=by rw[ih t c,if_neg (fun e=>e.2 rfl)]
  rw[el_rw1 (rws_rct h ht (by omega)) (by rw[rws_len];exact ht) (by rw[rws_len];omega),e1,e1,e2,ih a c]
  by_cases h1:a=n
  ·subst h1
   by_cases h2:a=t
   ·rw[if_neg (fun e=>e.2 h2),if_neg (fun e=>e.2 h2),if_neg (fun e=>e.2 h2)]
   ·rw[if_pos ⟨rfl,h2⟩,if_pos ⟨by omega,h2⟩]
  ·rw[if_neg (fun e=>h1 e.1)]
   by_cases h2:a<n∧a≠t
   ·rw[if_pos h2,if_pos ⟨by omega,h2.2⟩]
   ·rw[if_neg h2,if_neg (fun e=>h2 ⟨by omega,e.2⟩)]
def sm (f:Nat→Rat):Nat→Rat
 | 0=>0
 | k+1=>sm f k+f k
theorem sm_congr {f g:Nat→Rat}:∀ {k:Nat},(∀ i<k,f i=g i)→sm f k=sm g k
 | 0,_=>rfl
 | k+1,h=>by show sm f k+f k=sm g k+g k;rw[sm_congr fun i hi=>h i (by omega),h k (by omega)]
theorem sm_zero {f:Nat→Rat}:∀ {k:Nat},(∀ i<k,f i=0)→sm f k=0
 | 0,_=>rfl
 | k+1,h=>by show sm f k+f k=0;rw[sm_zero fun i hi=>h i (by omega),h k (by omega)];exact Rat.add_zero 0
theorem sm_add {f g:Nat→Rat}:∀ {k:Nat},sm (fun i=>f i+g i) k=sm f k+sm g k
 | 0=>(Rat.add_zero 0).symm
 | k+1=>by
  show sm _ k+(f k+g k)=(sm f k+f k)+(sm g k+g k)
  rw[sm_add];grind
theorem sm_mul {f:Nat→Rat} {c:Rat}:∀ {k:Nat},sm (fun i=>f i*c) k=sm f k*c
 | 0=>(Rat.zero_mul c).symm
 | k+1=>by
  show sm _ k+f k*c=(sm f k+f k)*c
  rw[sm_mul];grind
theorem sm_one {f:Nat→Rat} {a:Nat}:∀ {k:Nat},a<k→(∀ i<k,i≠a→f i=0)→sm f k=f a
 | 0,h,_=>by omega
 | k+1,h,h0=>by
  show sm f k+f k=f a
  by_cases e:a=k
  ·subst e;rw[sm_zero fun i hi=>h0 i (by omega) (by omega)];exact Rat.zero_add _
  ·rw[sm_one (a:=a) (by omega) fun i hi hn=>h0 i (by omega) hn,h0 k (by omega) (fun e'=>e e'.symm)];exact Rat.add_zero _
theorem sm_two {f:Nat→Rat} {a b:Nat} {k:Nat} (ha:a<k) (hb:b<k) (hab:a≠b) (h0:∀ i<k,i≠a→i≠b→f i=0):sm f k=f a+f b:=by
 have e:sm f k=sm (fun i=>(if i=a then f i else 0)+(if i=a then 0 else f i)) k:=sm_congr fun i _=>by
  split
  ·exact (Rat.add_zero _).symm
  ·exact (Rat.zero_add _).symm
 rw[e,sm_add,sm_one ha (fun i _ hi=>if_neg hi),sm_one (a:=b) hb (fun i h hi=>by
  split
  ·rfl
  ·rename_i hia;exact h0 i h hia hi),if_pos rfl,if_neg (fun e=>hab e.symm)]
def dt (k:Nat) (M:List (List Rat)) (x:Nat→Rat) (i:Nat):Rat:=sm (fun j=>el M i j*x j) k
def NS (n k:Nat) (M:List (List Rat)) (x:Nat→Rat):Prop:=∀ i<n,dt k M x i=0
theorem dt_congr {k:Nat} {M M':List (List Rat)} {x:Nat→Rat} {i i':Nat} (h:∀ j,el M i j=el M' i' j):dt k M x i=dt k M' x i':=by
 unfold dt;exact sm_congr fun j _=>by rw[h j]
theorem dt_mul {k:Nat} {M M':List (List Rat)} {x:Nat→Rat} {i i':Nat} {c:Rat} (h:∀ j,el M i j=el M' i' j*c):dt k M x i=dt k M' x i'*c:=by
 unfold dt;rw[←sm_mul];exact sm_congr fun j _=>by rw[h j];grind
theorem dt_add {k:Nat} {M M':List (List Rat)} {x:Nat→Rat} {i i' t:Nat} {c:Rat} (h:∀ j,el M i j=el M' i' j+el M' t j*c):dt k M x i=dt k M' x i'+dt k M' x t*c:=by
 unfold dt;rw[←sm_mul,←sm_add];exact sm_congr fun j _=>by rw[h j];grind
theorem ns_swp {n k:Nat} {M:List (List Rat)} {a t:Nat} {x:Nat→Rat} (hn:M.length=n) (ha:a<n) (ht:t<n):NS n k (swp M a t) x↔NS n k M x:=by
 have key:∀ i,dt k (swp M a t) x i=if i=t then dt k M x a else if i=a then dt k M x t else dt k M x i:=fun i=>by
  have e:=fun j=>el_swp (M:=M) (i:=i) (j:=j) (hn ▸ ha) (hn ▸ ht)
  by_cases h1:i=t
  ·rw[if_pos h1];exact dt_congr fun j=>by rw[e j,if_pos h1]
  ·rw[if_neg h1]
   by_cases h2:i=a
   ·rw[if_pos h2];exact dt_congr fun j=>by rw[e j,if_neg h1,if_pos h2]
   ·rw[if_neg h2];exact dt_congr fun j=>by rw[e j,if_neg h1,if_neg h2]
 constructor
 ·intro h i hi
  by_cases h1:i=t
  ·have:=h a ha
   rw[key a] at this
   by_cases h2:a=t
   ·rw[if_pos h2] at this;rw[h1,←h2];exact this
   ·rw[if_neg h2,if_pos rfl] at this;rw[h1];exact this
  ·by_cases h2:i=a
   ·have:=h t ht
    rw[key t,if_pos rfl] at this;rw[h2];exact this
   ·have:=h i hi
    rw[key i,if_neg h1,if_neg h2] at this;exact this
 ·intro h i hi
  rw[key i]
  split
  ·exact h a ha
  ·split
   ·exact h t ht
   ·exact h i hi
theorem ns_nrm {n k:Nat} {M:List (List Rat)} {j t:Nat} {x:Nat→Rat} (hn:M.length=n) (ht:t<n) (h0:el M t j≠0):NS n k (nrm M j t) x↔NS n k M x:=by
 have e:=fun i c=>el_nrm (M:=M) (j:=j) (t:=t) (i:=i) (c:=c) (hn ▸ ht)
 have e1:dt k (nrm M j t) x t=dt k M x t*(1 / el M t j):=dt_mul fun c=>by rw[e,if_pos rfl]
 have e2:∀ i,i≠t→dt k (nrm M j t) x i=dt k M x i:=fun i hi=>dt_congr fun c=>by rw[e,if_neg hi]
 constructor
 ·intro h i hi
  by_cases h1:i=t
  ·have:=h t ht
   rw[e1] at this;rw[h1];generalize dt k M x t=d at this
   grind
  ·rw[←e2 i h1];exact h i hi
 ·intro h i hi
  by_cases h1:i=t
  ·rw[h1,e1,h t ht];exact Rat.zero_mul _
  ·rw[e2 i h1];exact h i hi
theorem ns_rws {n k:Nat} {M:List (List Rat)} {j t:Nat} {x:Nat→Rat} (hr:rct k M) (hn:M.length=n) (ht:t<n):NS n k (rws M j t n) x↔NS n k M x:=by
 have e:=fun a c=>el_rws (j:=j) (a:=a) (c:=c) (n:=n) hr (hn ▸ ht) (by omega)
 have e1:dt k (rws M j t n) x t=dt k M x t:=dt_congr fun c=>by rw[e,if_neg (fun e=>e.2 rfl)]
 have e2:∀ i,i<n→i≠t→dt k (rws M j t n) x i=dt k M x i+dt k M x t * -(el M i j):=fun i hi hit=>dt_add fun c=>by rw[e,if_pos ⟨hi,hit⟩]
 constructor
 ·intro h
  have h1:dt k M x t=0:=by rw[←e1];exact h t ht
  intro i hi
  by_cases h2:i=t
  ·rw[h2];exact h1
  ·have:=h i hi
   rw[e2 i hi h2,h1,Rat.zero_mul,Rat.add_zero] at this;exact this
 ·intro h i hi
  by_cases h2:i=t
  ·rw[h2,e1];exact h t ht
  ·rw[e2 i hi h2,h t ht,h i hi,Rat.zero_mul];exact Rat.add_zero 0
structure RF (n k:Nat) (R:List (List Rat)) (p:List Nat) (j:Nat):Prop where
 len:R.length=n
 rect:rct k R
 ple:p.length≤n
 lt:∀ x∈p,x<j
 mono:p.Pairwise (· < ·)
 one:∀ t (h:t<p.length),el R t p[t]=1
 off:∀ t (h:t<p.length) s,s<n→s≠t→el R s p[t]=0
 left:∀ t (h:t<p.length) i,i<p[t]→el R t i=0
 low:∀ s,p.length≤s→s<n→∀ i<j,el R s i=0
theorem sr_le {j:Nat}:∀ {L:List (List Rat)},sr j L≤L.length
 | []=>Nat.le_refl 0
 | r::L=>by
  unfold sr
  split
  ·exact Nat.succ_le_succ sr_le
  ·exact Nat.zero_le _
theorem sr_lt {j:Nat}:∀ {L:List (List Rat)} {i:Nat},i<sr j L→(L.getD i []).getD j 0=0
 | [],i,h=>by unfold sr at h;omega
 | r::L,i,h=>by
  unfold sr at h
  split at h
  ·rename_i h0
   cases i with
   | zero=>exact Rat.num_eq_zero.1 h0
   | succ i=>exact sr_lt (L:=L) (by omega)
  ·omega
theorem sr_at {j:Nat}:∀ {L:List (List Rat)},sr j L<L.length→(L.getD (sr j L) []).getD j 0≠0
 | [],h=>by unfold sr at h;exact absurd h (Nat.lt_irrefl 0)
 | r::L,h=>by
  unfold sr at h ⊢
  by_cases h0:(r.getD j 0).num=0
  ·rw[if_pos h0] at h ⊢
   exact sr_at (L:=L) (by rw[List.length_cons] at h;omega)
  ·rw[if_neg h0]
   intro e;exact h0 (by show ((r::L).getD 0 [] |>.getD j 0).num=0;rw[e];rfl)
theorem drop_getD {M:List (List Rat)} {t i:Nat}:(M.drop t).getD i []=M.getD (t+i) []:=by
 rw[List.getD_eq_getElem?_getD,List.getD_eq_getElem?_getD,List.getElem?_drop]
theorem gat_le {j:Nat} {s:GS} (h:s.p.length≤s.M.length):gat j s≤s.M.length:=by
 unfold gat;have:=sr_le (j:=j) (L:=s.M.drop s.p.length);rw[List.length_drop] at this
 omega
theorem gat_ge {j:Nat} {s:GS}:s.p.length≤gat j s:=Nat.le_add_right _ _
theorem gat_lt {j:Nat} {s:GS} {i:Nat} (h1:s.p.length≤i) (h2:i<gat j s):el s.M i j=0:=by
 unfold gat at h2;have:=sr_lt (j:=j) (L:=s.M.drop s.p.length) (i:=i-s.p.length) (by omega)
 rw[drop_getD,Nat.add_sub_cancel' h1] at this;exact this
theorem gat_at {j:Nat} {s:GS} (h:gat j s<s.M.length):el s.M (gat j s) j≠0:=by
 have:=sr_at (j:=j) (L:=s.M.drop s.p.length) (by rw[List.length_drop];unfold gat at h;omega)
 rw[drop_getD] at this;exact this
theorem gm1_len {j:Nat} {s:GS}:(gm1 j s).length=s.M.length:=by
 unfold gm1
 split
 ·rfl
 ·exact swp_len
theorem gm1_rct {j k:Nat} {s:GS} (h:rct k s.M) (ha:gat j s<s.M.length):rct k (gm1 j s):=by
 unfold gm1
 split
 ·exact h
 ·exact swp_rct h ha (Nat.lt_of_le_of_lt gat_ge ha)
theorem el_gm1 {j:Nat} {s:GS} (ha:gat j s<s.M.length) {i c:Nat}:el (gm1 j s) i c=if i=s.p.length then el s.M (gat j s) c else if i=gat j s then el s.M s.p.length c else el s.M i c:=by
 unfold gm1
 by_cases h:gat j s=s.p.length
 ·rw[if_pos h,h]
  split
  ·rename_i e;rw[e]
  ·rfl
 ·rw[if_neg h,el_swp ha (Nat.lt_of_le_of_lt gat_ge ha)]
theorem ns_gm1 {n k j:Nat} {s:GS} {x:Nat→Rat} (hn:s.M.length=n) (ha:gat j s<n):NS n k (gm1 j s) x↔NS n k s.M x:=by
 unfold gm1
 split
 ·exact Iff.rfl
 ·exact ns_swp hn ha (Nat.lt_of_le_of_lt gat_ge ha)
theorem gcol_rf {n k j:Nat} {s:GS} (F:RF n k s.M s.p j):RF n k (gcol j s).M (gcol j s).p (j+1)∧∀ x,NS n k (gcol j s).M x↔NS n k s.M x:=by
 have hle:=gat_le (j:=j) (s:=s) (by rw[F.len];exact F.ple)
 by_cases hg:gat j s=s.M.length
 ·have e:gcol j s=s:=by unfold gcol;rw[if_pos hg]
  rw[e];refine⟨⟨F.len,F.rect,F.ple,fun x hx=>by have:=F.lt x hx;omega,F.mono,F.one,F.off,F.left,fun t h1 h2 i hi=>?_⟩,fun x=>Iff.rfl⟩
  rcases Nat.lt_or_ge i j with h3 | h3
  ·exact F.low t h1 h2 i h3
  ·obtain rfl:i=j:=by omega
   exact gat_lt h1 (by rw[hg,F.len];exact h2)
 ·have ha:gat j s<s.M.length:=by omega
  have hn:=F.len;have ht:s.p.length<n:=by have:=gat_ge (j:=j) (s:=s);omega
  have e:gcol j s=⟨rws (nrm (gm1 j s) j s.p.length) j s.p.length s.M.length,s.p++[j],gf1 j s*el (gm1 j s) s.p.length j⟩:=by unfold gcol;rw[if_neg hg]
  have r1:=gm1_rct F.rect ha;have l1:(gm1 j s).length=n:=gm1_len.trans hn;have r2:=nrm_rct r1 (j:=j) (t:=s.p.length) (by omega)
  have l2:(nrm (gm1 j s) j s.p.length).length=n:=nrm_len.trans l1;have r3:=rws_rct r2 (j:=j) (t:=s.p.length) (n:=n) (by omega) (by omega)
  have l3:(rws (nrm (gm1 j s) j s.p.length) j s.p.length n).length=n:=rws_len.trans l2;have hd:el (gm1 j s) s.p.length j≠0:=by rw[el_gm1 ha,if_pos rfl];exact gat_at ha
  have e2:=fun i c=>el_nrm (M:=gm1 j s) (j:=j) (t:=s.p.length) (i:=i) (c:=c) (by omega)
  have e3:=fun i c=>el_rws (j:=j) (t:=s.p.length) (a:=i) (c:=c) (n:=n) r2 (by omega) (by omega)
  have z1:∀ c<j,el (gm1 j s) s.p.length c=0:=fun c hc=>by
   rw[el_gm1 ha,if_pos rfl];exact F.low _ gat_ge (by omega) c hc
  have z2:∀ c<j,el (nrm (gm1 j s) j s.p.length) s.p.length c=0:=fun c hc=>by rw[e2,if_pos rfl,z1 c hc];exact Rat.zero_mul _
  have o2:el (nrm (gm1 j s) j s.p.length) s.p.length j=1:=by
   rw[e2,if_pos rfl];generalize el (gm1 j s) s.p.length j=d at hd
   grind
  have same:∀ i<n,∀ c<j,el (rws (nrm (gm1 j s) j s.p.length) j s.p.length n) i c=el s.M i c:=fun i hi c hc=>by
   have h1:el (rws (nrm (gm1 j s) j s.p.length) j s.p.length n) i c=el (nrm (gm1 j s) j s.p.length) i c:=by
    rw[e3]
    split
    ·rw[z2 c hc,Rat.zero_mul];exact Rat.add_zero _
    ·rfl
   rw[h1]
   by_cases h2:i=s.p.length
   ·rw[h2,z2 c hc];exact (F.low _ (Nat.le_refl _) ht c hc).symm
   ·rw[e2,if_neg h2,el_gm1 ha,if_neg h2]
    split
    ·rename_i h3
     rw[F.low _ (Nat.le_refl _) ht c hc,h3];exact (F.low _ gat_ge (by omega) c hc).symm
    ·rfl
  have one:el (rws (nrm (gm1 j s) j s.p.length) j s.p.length n) s.p.length j=1:=by rw[e3,if_neg (fun e=>e.2 rfl)];exact o2
  have zer:∀ i<n,i≠s.p.length→el (rws (nrm (gm1 j s) j s.p.length) j s.p.length n) i j=0:=fun i hi hit=>by
   rw[e3,if_pos ⟨hi,hit⟩,o2];generalize el (nrm (gm1 j s) j s.p.length) i j=d
   grind
  have ga:∀ t (h:t<(s.p++[j]).length),(∃ h':t<s.p.length,(s.p++[j])[t]=s.p[t])∨(t=s.p.length∧(s.p++[j])[t]=j):=fun t h=>by
   rw[List.getElem_append]
   split
   ·rename_i h';exact Or.inl ⟨h',rfl⟩
   ·rename_i h'
    rw[List.length_append,List.length_singleton] at h;exact Or.inr ⟨by omega,List.getElem_singleton _⟩
  rw[e,hn];refine⟨⟨l3,r3,by rw[List.length_append];exact ht,fun x hx=>?_,?_,fun t h=>?_,fun t h i hi hit=>?_,fun t h i hi=>?_,fun t h1 h2 i hi=>?_⟩,fun x=>?_⟩
  ·rcases List.mem_append.1 hx with hx | hx
   ·have:=F.lt x hx;omega
   ·rw[List.mem_singleton.1 hx];exact Nat.lt_succ_self j
  ·exact List.pairwise_append.2 ⟨F.mono,List.pairwise_singleton _ _,fun a ha b hb=>by rw[List.mem_singleton.1 hb];exact F.lt a ha⟩
  ·rcases ga t h with ⟨h',g⟩ | ⟨h',g⟩
   ·show el _ t _=1
    rw[g,same t (by omega) _ (F.lt _ (List.getElem_mem h'))]
    exact F.one t h'
   ·show el _ t _=1
    rw[g,h'];exact one
  ·rcases ga t h with ⟨h',g⟩ | ⟨h',g⟩
   ·show el _ i _=0
    rw[g,same i hi _ (F.lt _ (List.getElem_mem h'))];exact F.off t h' i hi hit
   ·show el _ i _=0
    rw[g];exact zer i hi (by omega)
  ·rcases ga t h with ⟨h',g⟩ | ⟨h',g⟩
   ·rw[g] at hi
    have:=F.lt _ (List.getElem_mem h');rw[same t (by omega) i (by omega)]
    exact F.left t h' i hi
   ·rw[g] at hi
    rw[same t (by omega) i hi]
    exact F.low t (by omega) (by omega) i hi
  ·rw[List.length_append,List.length_singleton] at h1
   rcases Nat.lt_or_ge i j with h3 | h3
   ·rw[same t h2 i h3];exact F.low t (by omega) h2 i h3
   ·obtain rfl:i=j:=by omega
    exact zer t h2 (by omega)
  ·rw[ns_rws r2 l2 ht,ns_nrm l1 ht hd,ns_gm1 hn (by omega)]
theorem grun_rf {n k:Nat}:∀ {c j:Nat} {s:GS},RF n k s.M s.p j→RF n k (grun c j s).M (grun c j s).p (j+c)∧∀ x,NS n k (grun c j s).M x↔NS n k s.M x
 | 0,_,_,F=>⟨F,fun _=>Iff.rfl⟩
 | c+1,j,s,F=>by
  have h1:=gcol_rf F;have h2:=grun_rf (c:=c) h1.1;refine⟨?_,fun x=>(h2.2 x).trans (h1.2 x)⟩
  have:=h2.1;rw[Nat.add_assoc,Nat.add_comm 1 c] at this;exact this
theorem rf_start {n k:Nat} {M:List (List Rat)} (hn:M.length=n) (h:rct k M):RF n k M [] 0:=
 ⟨hn,h,Nat.zero_le _,fun _ h=>absurd h List.not_mem_nil,List.Pairwise.nil,fun _ h=>absurd h (Nat.not_lt_zero _),fun _ h=>absurd h (Nat.not_lt_zero _),fun _ h=>absurd h (Nat.not_lt_zero _),fun _ _ _ _ h=>absurd h (Nat.not_lt_zero _)⟩
def red (k:Nat) (M:List (List Rat)):GS:=grun k 0 ⟨M,[],1⟩
theorem red_rf {n k:Nat} {M:List (List Rat)} (hn:M.length=n) (h:rct k M):RF n k (red k M).M (red k M).p k∧∀ x,NS n k (red k M).M x↔NS n k M x:=by
 have:=grun_rf (c:=k) (j:=0) (s:=⟨M,[],1⟩) (rf_start hn h);rw[Nat.zero_add] at this;exact this
def nv (R:List (List Rat)) (p:List Nat) (j i:Nat):Rat:=if i=j then 1 else if i<j∧i∈p then -(el R (p.idxOf i) j) else 0
theorem idx_get {p:List Nat} (h:p.Pairwise (· < ·)) {t:Nat} (ht:t<p.length):p.idxOf p[t]=t:=by
 have h1:p.idxOf p[t]<p.length:=List.idxOf_lt_length_of_mem (List.getElem_mem ht);have h2:p[p.idxOf p[t]]=p[t]:=List.getElem_idxOf h1;have h3:=List.pairwise_iff_getElem.1 h
 rcases Nat.lt_trichotomy (p.idxOf p[t]) t with g | g | g
 ·have:=h3 _ _ h1 ht g;omega
 ·exact g
 ·have:=h3 _ _ ht h1 g;omega
theorem dt_nv {n k:Nat} {R R':List (List Rat)} {p:List Nat} (F:RF n k R' p k) {j:Nat} (hj:j<k) (hp:j∉p) {s:Nat} (hs:s<p.length) :
  dt k R' (nv R p j) s=el R' s j+if p[s]<j then -(el R s j) else 0:=by
 have hne:j≠p[s]:=fun e=>hp (e ▸ List.getElem_mem hs)
 unfold dt;rw[sm_two hj (F.lt _ (List.getElem_mem hs)) hne fun i hi h1 h2=>?_]
 ·rw[F.one s hs]
  unfold nv;rw[if_pos rfl,if_neg (fun e=>hne e.symm),idx_get F.mono hs]
  by_cases h:p[s]<j
  ·rw[if_pos ⟨h,List.getElem_mem hs⟩,if_pos h,Rat.mul_one,Rat.one_mul]
  ·rw[if_neg (fun e=>h e.1),if_neg h,Rat.mul_one,Rat.one_mul]
 ·unfold nv
  rw[if_neg h1]
  split
  ·rename_i h3
   obtain⟨t,ht,rfl⟩:=List.getElem_of_mem h3.2;rw[F.off t ht s (by have:=F.ple;omega) (fun e=>h2 (by subst e;rfl))]
   exact Rat.zero_mul _
  ·exact Rat.mul_zero _
theorem ns_nv {n k:Nat} {R:List (List Rat)} {p:List Nat} (F:RF n k R p k) {j:Nat} (hj:j<k) (hp:j∉p):NS n k R (nv R p j):=by
 intro s hs
 rcases Nat.lt_or_ge s p.length with h | h
 ·rw[dt_nv F hj hp h]
  by_cases h1:p[s]<j
  ·rw[if_pos h1]
   generalize el R s j=d
   grind
  ·have hne:j≠p[s]:=fun e=>hp (e ▸ List.getElem_mem h)
   rw[if_neg h1,F.left s h j (by omega)]
   exact Rat.add_zero 0
 ·unfold dt
  exact sm_zero fun i hi=>by rw[F.low s h hs i hi];exact Rat.zero_mul _
theorem piv_iff {n k:Nat} {R:List (List Rat)} {p:List Nat} (F:RF n k R p k) {j:Nat} (hj:j<k):j∈p↔∀ x,NS n k R x→(∀ i,j<i→x i=0)→x j=0:=by
 constructor
 ·intro h x hx h0
  obtain⟨t,ht,rfl⟩:=List.getElem_of_mem h;have:=hx t (by have:=F.ple;omega)
  unfold dt at this;rw[sm_one hj (fun i hi hn=>?_),F.one t ht,Rat.one_mul] at this
  ·exact this
  ·rcases Nat.lt_or_ge i p[t] with g | g
   ·rw[F.left t ht i g];exact Rat.zero_mul _
   ·rw[h0 i (by omega)];exact Rat.mul_zero _
 ·intro h
  by_cases hp:j∈p
  ·exact hp
  ·have:=h (nv R p j) (ns_nv F hj hp) fun i hi=>by unfold nv;rw[if_neg (by omega),if_neg (by omega)]
   unfold nv at this;rw[if_pos rfl] at this;exact absurd this (by decide)
theorem sorted_ext:∀ {a b:List Nat},a.Pairwise (· < ·)→b.Pairwise (· < ·)→(∀ x,x∈a↔x∈b)→a=b
 | [],[],_,_,_=>rfl
 | [],y::b,_,_,h=>absurd ((h y).2 List.mem_cons_self) List.not_mem_nil
 | x::a,[],_,_,h=>absurd ((h x).1 List.mem_cons_self) List.not_mem_nil
 | x::a,y::b,ha,hb,h=>by
  rw[List.pairwise_cons] at ha hb;have e:x=y:=by
   rcases List.mem_cons.1 ((h x).1 List.mem_cons_self) with g | g
   ·exact g
   ·rcases List.mem_cons.1 ((h y).2 List.mem_cons_self) with g' | g'
    ·exact g'.symm
    ·have:=hb.1 x g;have:=ha.1 y g';omega
  subst e;rw[sorted_ext ha.2 hb.2 fun z=>?_]
  constructor
  ·intro hz
   rcases List.mem_cons.1 ((h z).1 (List.mem_cons_of_mem _ hz)) with g | g
   ·have:=ha.1 z hz;omega
   ·exact g
  ·intro hz
   rcases List.mem_cons.1 ((h z).2 (List.mem_cons_of_mem _ hz)) with g | g
   ·have:=hb.1 z hz;omega
   ·exact g
theorem ext_el {n k:Nat} {R R':List (List Rat)} (h1:R.length=n) (h2:R'.length=n) (r1:rct k R) (r2:rct k R') (h:∀ i<n,∀ j<k,el R i j=el R' i j):R=R':=by
 apply List.ext_getElem (h1.trans h2.symm)
 intro i hi hi';have l1:=r1 _ (List.getElem_mem hi);have l2:=r2 _ (List.getElem_mem hi')
 apply List.ext_getElem (l1.trans l2.symm)
 intro j hj hj';have:=h i (by omega) j (by omega)
 unfold el at this;simp only[List.getD_eq_getElem?_getD,List.getElem?_eq_getElem hi,List.getElem?_eq_getElem hi',Option.getD_some,List.getElem?_eq_getElem hj,List.getElem?_eq_getElem hj'] at this
 exact this
theorem rf_unique {n k:Nat} {R R':List (List Rat)} {p p':List Nat} (F:RF n k R p k) (F':RF n k R' p' k) (h:∀ x,NS n k R x↔NS n k R' x):p=p'∧R=R':=by
 have hp:p=p':=sorted_ext F.mono F'.mono fun j=>by
  constructor
  ·intro hj
   have hk:=F.lt j hj;exact (piv_iff F' hk).2 fun x hx=>(piv_iff F hk).1 hj x ((h x).2 hx)
  ·intro hj
   have hk:=F'.lt j hj;exact (piv_iff F hk).2 fun x hx=>(piv_iff F' hk).1 hj x ((h x).1 hx)
 subst hp;refine⟨rfl,ext_el F.len F'.len F.rect F'.rect fun s hs j hj=>?_⟩
 rcases Nat.lt_or_ge s p.length with g | g
 ·by_cases hjp:j∈p
  ·obtain⟨t,ht,rfl⟩:=List.getElem_of_mem hjp
   by_cases hst:s=t
   ·subst hst;rw[F.one s ht,F'.one s ht]
   ·rw[F.off t ht s hs hst,F'.off t ht s hs hst]
  ·by_cases h1:p[s]<j
   ·have:=(h _).1 (ns_nv F hj hjp) s hs
    rw[dt_nv F' hj hjp g,if_pos h1] at this;generalize el R s j=d,el R' s j=d' at this
    grind
   ·have hne:j≠p[s]:=fun e=>hjp (e ▸ List.getElem_mem g)
    rw[F.left s g j (by omega),F'.left s g j (by omega)]
 ·rw[F.low s g hs j hj,F'.low s g hs j hj]
theorem red_unique {n k:Nat} {M M':List (List Rat)} (h1:M.length=n) (h2:M'.length=n) (r1:rct k M) (r2:rct k M') (h:∀ x,NS n k M x↔NS n k M' x):(red k M).p=(red k M').p∧(red k M).M=(red k M').M:=by
 have F:=red_rf h1 r1;have F':=red_rf h2 r2;exact rf_unique F.1 F'.1 fun x=>(F.2 x).trans ((h x).trans (F'.2 x).symm)
theorem red_idem {n k:Nat} {M:List (List Rat)} (h1:M.length=n) (r1:rct k M):(red k (red k M).M).M=(red k M).M:=by
 have F:=red_rf h1 r1;exact (red_unique F.1.len h1 F.1.rect r1 F.2).2
end GE
set_option linter.unusedVariables false
namespace GE
theorem sm_front {f:Nat→Rat}:∀ {k:Nat},sm f (k+1)=f 0+sm (fun i=>f (i+1)) k
 | 0=>by show (0:Rat)+f 0=f 0+0;grind
 | k+1=>by
  show sm f (k+1)+f (k+1)=f 0+(sm (fun i=>f (i+1)) k+f (k+1))
  rw[sm_front];grind
theorem sm_comm {f:Nat→Nat→Rat} {m:Nat}:∀ {n:Nat},sm (fun i=>sm (fun j=>f i j) m) n=sm (fun j=>sm (fun i=>f i j) n) m
 | 0=>(sm_zero fun _ _=>rfl).symm
 | n+1=>by
  show sm (fun i=>sm (fun j=>f i j) m) n+sm (fun j=>f n j) m=sm (fun j=>sm (fun i=>f i j) n+f n j) m
  rw[sm_comm,sm_add]
theorem sm_mul' {f:Nat→Rat} {c:Rat} {k:Nat}:sm (fun i=>c*f i) k=c*sm f k:=by
 rw[Rat.mul_comm,←sm_mul];exact sm_congr fun i _=>Rat.mul_comm _ _
def ls (f:Nat→Rat):List Nat→Rat
 | []=>0
 | x::p=>f x+ls f p
theorem ls_congr {f g:Nat→Rat}:∀ {p:List Nat},(∀ x∈p,f x=g x)→ls f p=ls g p
 | [],_=>rfl
 | x::p,h=>by
  show f x+ls f p=g x+ls g p
  rw[h x List.mem_cons_self,ls_congr fun y hy=>h y (List.mem_cons_of_mem _ hy)]
theorem sm_ls {k:Nat}:∀ {p:List Nat} {f:Nat→Rat},p.Pairwise (· < ·)→(∀ x∈p,x<k)→(∀ i<k,i∉p→f i=0)→sm f k=ls f p
 | [],f,_,_,h=>sm_zero fun i hi=>h i hi List.not_mem_nil
 | x::p,f,hp,hk,h=>by
  rw[List.pairwise_cons] at hp;have hx:=hk x List.mem_cons_self;have e:sm f k=sm (fun i=>(if i=x then f i else 0)+(if i=x then 0 else f i)) k:=sm_congr fun i _=>by
   split
   ·exact (Rat.add_zero _).symm
   ·exact (Rat.zero_add _).symm
  rw[e,sm_add,sm_one hx (fun i _ hi=>if_neg hi),if_pos rfl]
  show _=f x+ls f p
  have hxp:x∉p:=fun h=>Nat.lt_irrefl _ (hp.1 x h)
  rw[sm_ls (p:=p) (f:=fun i=>if i=x then 0 else f i) hp.2 (fun y hy=>hk y (List.mem_cons_of_mem _ hy)) fun i hi hn=>?_]
  ·congr 1
   exact ls_congr fun y hy=>by
    show (if y=x then 0 else f y)=f y
    rw[if_neg (by rintro rfl;exact hxp hy)]
  ·split
   ·rfl
   ·rename_i hix
    exact h i hi fun h'=>(List.mem_cons.1 h').elim hix hn
theorem ls_sm {f:Nat→Rat}:∀ {p:List Nat},ls f p=sm (fun t=>f (p.getD t 0)) p.length
 | []=>rfl
 | x::p=>by
  show f x+ls f p=sm _ (p.length+1)
  rw[sm_front,ls_sm];rfl
def mk (n k:Nat) (A:Nat→Nat→Rat):List (List Rat):=(List.range n).map fun i=>(List.range k).map fun j=>A i j
theorem mk_len {n k:Nat} {A:Nat→Nat→Rat}:(mk n k A).length=n:=by unfold mk;rw[List.length_map,List.length_range]
theorem mk_rct {n k:Nat} {A:Nat→Nat→Rat}:rct k (mk n k A):=by
 intro r hr;obtain⟨i,_,rfl⟩:=List.mem_map.1 hr;rw[List.length_map,List.length_range]
theorem el_mk {n k:Nat} {A:Nat→Nat→Rat} {i j:Nat} (hi:i<n) (hj:j<k):el (mk n k A) i j=A i j:=by
 unfold el mk;simp only[List.getD_eq_getElem?_getD,List.getElem?_map,List.getElem?_range hi,Option.map_some,Option.getD_some,List.getElem?_range hj]
theorem mk_el {n k:Nat} {M:List (List Rat)} (hn:M.length=n) (hr:rct k M):mk n k (el M)=M:=
 ext_el mk_len hn mk_rct hr fun i hi j hj=>el_mk hi hj
theorem mk_congr {n k:Nat} {A B:Nat→Nat→Rat} (h:∀ i<n,∀ j<k,A i j=B i j):mk n k A=mk n k B:=
 ext_el mk_len mk_len mk_rct mk_rct fun i hi j hj=>by rw[el_mk hi hj,el_mk hi hj,h i hi j hj]
def KF (n k:Nat) (A:Nat→Nat→Rat) (x:Nat→Rat):Prop:=∀ i<n,sm (fun j=>A i j*x j) k=0
theorem ns_mk {n k:Nat} {A:Nat→Nat→Rat} {x:Nat→Rat}:NS n k (mk n k A) x↔KF n k A x:=by
 have e:∀ i<n,dt k (mk n k A) x i=sm (fun j=>A i j*x j) k:=fun i hi=>sm_congr fun j hj=>by rw[el_mk hi hj]
 constructor
 ·intro h i hi;rw[←e i hi];exact h i hi
 ·intro h i hi;rw[e i hi];exact h i hi
def pv (n k:Nat) (A:Nat→Nat→Rat):List Nat:=(red k (mk n k A)).p
def rr (n k:Nat) (A:Nat→Nat→Rat):List (List Rat):=(red k (mk n k A)).M
def rk (n k:Nat) (A:Nat→Nat→Rat):Nat:=(pv n k A).length
theorem rr_rf {n k:Nat} {A:Nat→Nat→Rat}:RF n k (rr n k A) (pv n k A) k:=(red_rf mk_len mk_rct).1
theorem rr_ns {n k:Nat} {A:Nat→Nat→Rat} {x:Nat→Rat}:NS n k (rr n k A) x↔KF n k A x:=((red_rf mk_len mk_rct).2 x).trans ns_mk
theorem pv_iff {n k:Nat} {A:Nat→Nat→Rat} {j:Nat} (hj:j<k):j∈pv n k A↔∀ x,KF n k A x→(∀ i,j<i→x i=0)→x j=0:=by
 rw[piv_iff rr_rf hj];exact forall_congr' fun x=>by rw[rr_ns]
theorem nv_kf {n k:Nat} {A:Nat→Nat→Rat} {j:Nat} (hj:j<k) (hp:j∉pv n k A):KF n k A (nv (rr n k A) (pv n k A) j):=rr_ns.1 (ns_nv rr_rf hj hp)
theorem nv_self {R:List (List Rat)} {p:List Nat} {j:Nat}:nv R p j j=1:=if_pos rfl
theorem len_le:∀ {a b:List Nat},a.Pairwise (· < ·)→(∀ x∈a,x∈b)→a.length≤b.length
 | [],_,_,_=>Nat.zero_le _
 | x::a,b,ha,h=>by
  rw[List.pairwise_cons] at ha;have hx:=h x List.mem_cons_self;have:=len_le (b:=b.erase x) ha.2 fun y hy=>(List.mem_erase_of_ne (by have:=ha.1 y hy;omega)).2 (h y (List.mem_cons_of_mem _ hy))
  rw[List.length_erase_of_mem hx] at this;have:=List.length_pos_of_mem hx;rw[List.length_cons]
  omega
theorem rk_mono {n m k:Nat} {A B:Nat→Nat→Rat} (h:∀ x,KF n k A x→KF m k B x):rk m k B≤rk n k A:=
 len_le rr_rf.mono fun j hj=>by
  have hk:=rr_rf.lt j hj;exact (pv_iff hk).2 fun x hx=>(pv_iff hk).1 hj x (h x hx)
theorem rk_rows {n k:Nat} {A:Nat→Nat→Rat}:rk n k A≤n:=rr_rf.ple
theorem rk_cols {n k:Nat} {A:Nat→Nat→Rat}:rk n k A≤k:=by
 have:=len_le (a:=pv n k A) (b:=List.range k) rr_rf.mono fun x hx=>List.mem_range.2 (rr_rf.lt x hx)
 rw[List.length_range] at this;exact this
theorem rk_full {n k:Nat} {A:Nat→Nat→Rat}:rk n k A=k↔∀ x,KF n k A x→∀ j<k,x j=0:=by
 constructor
 ·intro h
  have all:∀ j<k,j∈pv n k A:=fun j hj=>by
   by_cases hp:j∈pv n k A
   ·exact hp
   ·have h1:=len_le (a:=pv n k A) (b:=(List.range k).erase j) rr_rf.mono fun x hx=>(List.mem_erase_of_ne (by rintro rfl;exact hp hx)).2 (List.mem_range.2 (rr_rf.lt x hx))
    rw[List.length_erase_of_mem (List.mem_range.2 hj),List.length_range] at h1;unfold rk at h
    omega
  intro x hx;have key:∀ d j,j<k→k-j≤d→x j=0:=fun d=>by
   induction d with
   | zero=>intro j hj hd;omega
   | succ d ih=>
    intro j hj hd;have h1:=(pv_iff hj).1 (all j hj) (fun i=>if i<k then x i else 0) (fun i hi=>(sm_congr fun l hl=>by
     show A i l*(if l<k then x l else 0)=A i l*x l
     rw[if_pos hl]).trans (hx i hi)) fun i hi=>by
      by_cases hik:i<k
      ·rw[if_pos hik];exact ih i hik (by omega)
      ·rw[if_neg hik]
    rw[if_pos hj] at h1;exact h1
  exact fun j hj=>key k j hj (Nat.sub_le _ _)
 ·intro h
  have all:∀ j∈List.range k,j∈pv n k A:=fun j hj=>by
   have hj:=List.mem_range.1 hj
   by_cases hp:j∈pv n k A
   ·exact hp
   ·have:=h _ (nv_kf hj hp) j hj
    rw[nv_self] at this;exact absurd this (by decide)
  have h1:=len_le (List.pairwise_lt_range) all;rw[List.length_range] at h1;exact Nat.le_antisymm rk_cols h1
def mp (r:Nat) (B C:Nat→Nat→Rat) (i j:Nat):Rat:=sm (fun t=>B i t*C t j) r
theorem mp_vec {n r k:Nat} {B C:Nat→Nat→Rat} {x:Nat→Rat} {i:Nat}:sm (fun j=>mp r B C i j*x j) k=sm (fun t=>B i t*sm (fun j=>C t j*x j) k) r:=by
 unfold mp;have e1:sm (fun j=>sm (fun t=>B i t*C t j) r*x j) k=sm (fun j=>sm (fun t=>B i t*C t j*x j) r) k:=sm_congr fun j _=>by rw[←sm_mul]
 rw[e1,sm_comm];exact sm_congr fun t _=>by rw[←sm_mul'];exact sm_congr fun j _=>by grind
theorem rk_prod {n r k:Nat} {A B C:Nat→Nat→Rat} (h:∀ i<n,∀ j<k,A i j=mp r B C i j):rk n k A≤rk r k C:=by
 refine rk_mono fun x hx i hi=>?_
 rw[sm_congr fun j hj=>by rw[h i hi j hj],mp_vec (n:=n)]
 exact sm_zero fun t ht=>by rw[hx t ht];exact Rat.mul_zero _
theorem rows_of {n k:Nat} {A:Nat→Nat→Rat} {i j:Nat} (hi:i<n) (hj:j<k) :
  A i j=mp (rk n k A) (fun i t=>A i ((pv n k A).getD t 0)) (el (rr n k A)) i j:=by
 have F:=rr_rf (n:=n) (k:=k) (A:=A);unfold mp rk
 by_cases hp:j∈pv n k A
 ·obtain⟨t,ht,e⟩:=List.getElem_of_mem hp
  subst e;rw[sm_one ht fun s hs hst=>?_,F.one t ht,Rat.mul_one]
  ·show A i _=A i ((pv n k A).getD t 0)
   rw[List.getD_eq_getElem?_getD,List.getElem?_eq_getElem ht];rfl
  ·rw[F.off t ht s (by have:=F.ple;omega) hst];exact Rat.mul_zero _
 ·have h:=nv_kf hj hp i hi
  have e:sm (fun l=>A i l*nv (rr n k A) (pv n k A) j l) k=A i j+sm (fun l=>if l=j then 0 else A i l*nv (rr n k A) (pv n k A) j l) k:=by
   have e1:sm (fun l=>A i l*nv (rr n k A) (pv n k A) j l) k=sm (fun l=>(if l=j then A i l else 0)+(if l=j then 0 else A i l*nv (rr n k A) (pv n k A) j l)) k:=sm_congr fun l _=>by
    by_cases hl:l=j
    ·rw[if_pos hl,if_pos hl,hl,nv_self,Rat.mul_one,Rat.add_zero]
    ·rw[if_neg hl,if_neg hl,Rat.zero_add]
   rw[e1,sm_add,sm_one hj (fun l _ hl=>if_neg hl),if_pos rfl]
  rw[e,sm_ls F.mono F.lt (fun l hl hlp=>?_),ls_sm] at h
  ·have e2:sm (fun t=>if (pv n k A).getD t 0=j then 0 else A i ((pv n k A).getD t 0)*nv (rr n k A) (pv n k A) j ((pv n k A).getD t 0)) (pv n k A).length=sm (fun t=>A i ((pv n k A).getD t 0)*el (rr n k A) t j * -1) (pv n k A).length:=sm_congr fun t ht=>by
    have g:(pv n k A).getD t 0=(pv n k A)[t]:=by rw[List.getD_eq_getElem?_getD,List.getElem?_eq_getElem ht];rfl
    have hne:(pv n k A)[t]≠j:=fun e=>hp (e ▸ List.getElem_mem ht)
    rw[g,if_neg hne];unfold nv;rw[if_neg hne,idx_get F.mono ht]
    by_cases hlt:(pv n k A)[t]<j
    ·rw[if_pos ⟨hlt,List.getElem_mem ht⟩];grind
    ·rw[if_neg (fun e=>hlt e.1),F.left t ht j (by omega)];grind
   rw[e2,sm_mul] at h;generalize sm _ (pv n k A).length=S at h ⊢
   grind
  ·split
   ·rfl
   ·rename_i hlj
    unfold nv;rw[if_neg hlj,if_neg (fun e=>hlp e.2)]
    exact Rat.mul_zero _
theorem rk_trans_le {n k:Nat} {A:Nat→Nat→Rat}:rk k n (fun i j=>A j i)≤rk n k A:=by
 refine Nat.le_trans (rk_prod (r:=rk n k A) (B:=fun j t=>el (rr n k A) t j) (C:=fun t i=>A i ((pv n k A).getD t 0)) fun j hj i hi=>?_) rk_rows
 show A i j=_
 rw[rows_of (A:=A) hi hj];unfold mp;exact sm_congr fun t _=>Rat.mul_comm _ _
theorem rk_trans {n k:Nat} {A:Nat→Nat→Rat}:rk k n (fun i j=>A j i)=rk n k A:=
 Nat.le_antisymm rk_trans_le (rk_trans_le (A:=fun i j=>A j i))
theorem rk_indep {n k:Nat} {A:Nat→Nat→Rat}:rk n k A=n↔∀ y:Nat→Rat,(∀ j<k,sm (fun i=>y i*A i j) n=0)→∀ i<n,y i=0:=by
 rw[←rk_trans,rk_full];refine forall_congr' fun y=>?_
 have e:KF k n (fun i j=>A j i) y↔∀ j<k,sm (fun i=>y i*A i j) n=0:=by
  refine forall_congr' fun j=>forall_congr' fun _=>?_
  rw[sm_congr fun i _=>Rat.mul_comm (A i j) (y i)]
 rw[e]
end GE
set_option linter.unusedVariables false
namespace GE
structure Alt (n:Nat) (Φ:(Nat→Nat→Rat)→Rat):Prop where
 congr:∀ A B:Nat→Nat→Rat,(∀ i<n,∀ j<n,A i j=B i j)→Φ A=Φ B
 swap:∀ (A:Nat→Nat→Rat) a t,a<n→t<n→a≠t→Φ (fun i j=>if i=t then A a j else if i=a then A t j else A i j) = -Φ A
 scale:∀ (A:Nat→Nat→Rat) t c,t<n→Φ (fun i j=>if i=t then A t j*c else A i j)=Φ A*c
 add:∀ (A:Nat→Nat→Rat) a t c,a<n→t<n→a≠t→Φ (fun i j=>if i=a then A a j+A t j*c else A i j)=Φ A
def D:Nat→(Nat→Nat→Rat)→Rat
 | 0,_=>1
 | 1,A=>A 0 0
 | 2,A=>A 0 0*A 1 1-A 0 1*A 1 0
 | 3,A=>A 0 0*(A 1 1*A 2 2-A 1 2*A 2 1)-A 0 1*(A 1 0*A 2 2-A 1 2*A 2 0)+A 0 2*(A 1 0*A 2 1-A 1 1*A 2 0)
 | 4,A=>(A 0 0*A 1 1-A 0 1*A 1 0)*(A 2 2*A 3 3-A 2 3*A 3 2)-(A 0 0*A 1 2-A 0 2*A 1 0)*(A 2 1*A 3 3-A 2 3*A 3 1)
   + (A 0 0*A 1 3-A 0 3*A 1 0)*(A 2 1*A 3 2-A 2 2*A 3 1)+(A 0 1*A 1 2-A 0 2*A 1 1)*(A 2 0*A 3 3-A 2 3*A 3 0)
   - (A 0 1*A 1 3-A 0 3*A 1 1)*(A 2 0*A 3 2-A 2 2*A 3 0)+(A 0 2*A 1 3-A 0 3*A 1 2)*(A 2 0*A 3 1-A 2 1*A 3 0)
 | _,_=>0
theorem lt4 {n i:Nat} (h:i<n) (hn:n≤4):i=0∨i=1∨i=2∨i=3:=by omega
theorem D_congr {n:Nat} (hn:n≤4) (A B:Nat→Nat→Rat) (h:∀ i<n,∀ j<n,A i j=B i j):D n A=D n B:=by
 have:n=0∨n=1∨n=2∨n=3∨n=4:=by omega
 rcases this with rfl | rfl | rfl | rfl | rfl
 ·rfl
 ·simp only[D];exact h 0 (by decide) 0 (by decide)
 ·simp only[D];rw[h 0 (by decide) 0 (by decide),h 0 (by decide) 1 (by decide),h 1 (by decide) 0 (by decide),h 1 (by decide) 1 (by decide)]
 ·simp only[D,h 0 (by decide) 0 (by decide),h 0 (by decide) 1 (by decide),h 0 (by decide) 2 (by decide),h 1 (by decide) 0 (by decide),h 1 (by decide) 1 (by decide),h 1 (by decide) 2 (by decide),h 2 (by decide) 0 (by decide),h 2 (by decide) 1 (by decide),h 2 (by decide) 2 (by decide)]
 ·simp only[D,h 0 (by decide) 0 (by decide),h 0 (by decide) 1 (by decide),h 0 (by decide) 2 (by decide),h 0 (by decide) 3 (by decide),h 1 (by decide) 0 (by decide),h 1 (by decide) 1 (by decide),h 1 (by decide) 2 (by decide),h 1 (by decide) 3 (by decide),h 2 (by decide) 0 (by decide),h 2 (by decide) 1 (by decide),h 2 (by decide) 2 (by decide),h 2 (by decide) 3 (by decide),h 3 (by decide) 0 (by decide),h 3 (by decide) 1 (by decide),h 3 (by decide) 2 (by decide),h 3 (by decide) 3 (by decide)]
theorem D_scale {n:Nat} (hn:n≤4) (A:Nat→Nat→Rat) (t:Nat) (c:Rat) (ht:t<n):D n (fun i j=>if i=t then A t j*c else A i j)=D n A*c:=by
 have:n=1∨n=2∨n=3∨n=4:=by omega
 rcases this with rfl | rfl | rfl | rfl<;>rcases lt4 ht (by decide) with rfl | rfl | rfl | rfl<;>first | omega | (simp[D];done) | (simp[D];grind)
theorem D_swap {n:Nat} (hn:n≤4) (A:Nat→Nat→Rat) (a t:Nat) (ha:a<n) (ht:t<n) (h:a≠t):D n (fun i j=>if i=t then A a j else if i=a then A t j else A i j) = -D n A:=by
 have:n=1∨n=2∨n=3∨n=4:=by omega
 rcases this with rfl | rfl | rfl | rfl<;>rcases lt4 ht (by decide) with rfl | rfl | rfl | rfl<;>rcases lt4 ha (by decide) with rfl | rfl | rfl | rfl<;>first | omega | (simp[D];done) | (simp[D];grind)
theorem D_add {n:Nat} (hn:n≤4) (A:Nat→Nat→Rat) (a t:Nat) (c:Rat) (ha:a<n) (ht:t<n) (h:a≠t):D n (fun i j=>if i=a then A a j+A t j*c else A i j)=D n A:=by
 have:n=1∨n=2∨n=3∨n=4:=by omega
 rcases this with rfl | rfl | rfl | rfl<;>rcases lt4 ht (by decide) with rfl | rfl | rfl | rfl<;>rcases lt4 ha (by decide) with rfl | rfl | rfl | rfl<;>first | omega | (simp[D];done) | (simp[D];grind)
theorem D_trans {n:Nat} (hn:n≤4) (A:Nat→Nat→Rat):D n (fun i j=>A j i)=D n A:=by
 have:n=0∨n=1∨n=2∨n=3∨n=4:=by omega
 rcases this with rfl | rfl | rfl | rfl | rfl<;>simp only[D]<;>grind
def I1 (i j:Nat):Rat:=if i=j then 1 else 0
theorem D_one {n:Nat} (hn:n≤4):D n I1=1:=by
 have:n=0∨n=1∨n=2∨n=3∨n=4:=by omega
 rcases this with rfl | rfl | rfl | rfl | rfl<;>simp[D,I1]<;>grind
theorem D_alt {n:Nat} (hn:n≤4):Alt n (D n):=⟨D_congr hn,D_swap hn,D_scale hn,D_add hn⟩
theorem mp_alt {n:Nat} (hn:n≤4) (B:Nat→Nat→Rat):Alt n (fun A=>D n (mp n A B)):=by
 refine⟨fun A A' h=>D_congr hn _ _ fun i hi j hj=>sm_congr fun t ht=>by rw[h i hi t ht],fun A a t ha ht hat=>?_,fun A t c ht=>?_,fun A a t c ha ht hat=>?_⟩
 ·show D n _ = -(D n (mp n A B))
  rw[←D_swap hn (mp n A B) a t ha ht hat];refine D_congr hn _ _ fun i hi j hj=>?_
  unfold mp
  by_cases h1:i=t
  ·simp only[if_pos h1]
  ·simp only[if_neg h1]
   by_cases h2:i=a
   ·simp only[if_pos h2]
   ·simp only[if_neg h2]
 ·show D n _=D n (mp n A B)*c
  rw[←D_scale hn (mp n A B) t c ht];refine D_congr hn _ _ fun i hi j hj=>?_
  unfold mp
  by_cases h1:i=t
  ·simp only[if_pos h1]
   rw[←sm_mul];exact sm_congr fun l _=>by grind
  ·simp only[if_neg h1]
 ·show D n _=D n (mp n A B)
  rw[←D_add hn (mp n A B) a t c ha ht hat];refine D_congr hn _ _ fun i hi j hj=>?_
  unfold mp
  by_cases h1:i=a
  ·simp only[if_pos h1]
   rw[←sm_mul,←sm_add];exact sm_congr fun l _=>by grind
  ·simp only[if_neg h1]
end GE
set_option linter.unusedVariables false
namespace GE
variable {n k:Nat} {Φ:(Nat→Nat→Rat)→Rat}
theorem phi_swp (H:Alt n Φ) {M:List (List Rat)} (hn:M.length=n) {a t:Nat} (ha:a<n) (ht:t<n) (h:a≠t):Φ (el (swp M a t)) = -Φ (el M):=by
 rw[←H.swap (el M) a t ha ht h];exact H.congr _ _ fun i _ j _=>el_swp (by omega) (by omega)
theorem phi_nrm (H:Alt n Φ) {M:List (List Rat)} (hn:M.length=n) {j t:Nat} (ht:t<n):Φ (el (nrm M j t))=Φ (el M)*(1 / el M t j):=by
 rw[←H.scale (el M) t _ ht];exact H.congr _ _ fun i _ c _=>el_nrm (by omega)
theorem phi_rws (H:Alt n Φ) {M:List (List Rat)} (hn:M.length=n) (hr:rct k M) {j t:Nat} (ht:t<n):∀ {m:Nat},m≤n→Φ (el (rws M j t m))=Φ (el M)
 | 0,_=>rfl
 | m+1,hm=>by
  have hr':=rws_rct hr (j:=j) (t:=t) (n:=m) (by omega) (by omega)
  have hl:(rws M j t m).length=n:=rws_len.trans hn;rw[←phi_rws H hn hr ht (m:=m) (by omega)]
  show Φ (el (rw1 (rws M j t m) j t m))=_
  have e:=fun a c=>el_rw1 (j:=j) (t:=t) (i:=m) (a:=a) (c:=c) hr' (by omega) (by omega)
  by_cases h:m=t
  ·exact H.congr _ _ fun a _ c _=>by rw[e,if_neg (fun h'=>h'.2 h)]
  ·rw[←H.add (el (rws M j t m)) m t (-(el (rws M j t m) m j)) (by omega) ht h]
   refine H.congr _ _ fun a _ c _=>?_
   rw[e]
   by_cases h1:a=m
   ·rw[if_pos ⟨h1,h⟩,if_pos h1]
   ·rw[if_neg (fun h'=>h1 h'.1),if_neg h1]
theorem phi_gcol (H:Alt n Φ) {j:Nat} {s:GS} (F:RF n k s.M s.p j):(gcol j s).f*Φ (el (gcol j s).M)=s.f*Φ (el s.M):=by
 have hle:=gat_le (j:=j) (s:=s) (by rw[F.len];exact F.ple)
 by_cases hg:gat j s=s.M.length
 ·have e:gcol j s=s:=by unfold gcol;rw[if_pos hg]
  rw[e]
 ·have ha:gat j s<s.M.length:=by omega
  have hn:=F.len;have hge:=gat_ge (j:=j) (s:=s);have e:gcol j s=⟨rws (nrm (gm1 j s) j s.p.length) j s.p.length s.M.length,s.p++[j],gf1 j s*el (gm1 j s) s.p.length j⟩:=by unfold gcol;rw[if_neg hg]
  have r1:=gm1_rct F.rect ha;have l1:(gm1 j s).length=n:=gm1_len.trans hn;have hd:el (gm1 j s) s.p.length j≠0:=by rw[el_gm1 ha,if_pos rfl];exact gat_at ha
  have h1:gf1 j s*Φ (el (gm1 j s))=s.f*Φ (el s.M):=by
   unfold gf1 gm1
   by_cases h:gat j s=s.p.length
   ·rw[if_pos h,if_pos h]
   ·rw[if_neg h,if_neg h,phi_swp H hn (by omega) (by omega) h]
    generalize Φ (el s.M)=z
    grind
  rw[e,hn]
  show gf1 j s*el (gm1 j s) s.p.length j*Φ (el (rws (nrm (gm1 j s) j s.p.length) j s.p.length n))=_
  rw[phi_rws H (nrm_len.trans l1) (nrm_rct r1 (by omega)) (by omega) (Nat.le_refl n),phi_nrm H l1 (by omega),←h1]
  generalize el (gm1 j s) s.p.length j=d at hd ⊢;generalize Φ (el (gm1 j s))=z;generalize gf1 j s=f
  grind
theorem phi_grun (H:Alt n Φ):∀ {c j:Nat} {s:GS},RF n k s.M s.p j→(grun c j s).f*Φ (el (grun c j s).M)=s.f*Φ (el s.M)
 | 0,_,_,F=>rfl
 | c+1,j,s,F=>(phi_grun H (c:=c) (gcol_rf F).1).trans (phi_gcol H F)
theorem pv_all {A:Nat→Nat→Rat} (h:rk n k A=k) {j:Nat} (hj:j<k):j∈pv n k A:=
 (pv_iff hj).2 fun x hx _=>rk_full.1 h x hx j hj
theorem range_eq {p:List Nat} (hp:p.Pairwise (· < ·)) (h:∀ j<n,j∈p) (hl:p.length≤n):p=List.range n:=by
 refine sorted_ext hp List.pairwise_lt_range fun x=>⟨fun hx=>?_,fun hx=>h x (List.mem_range.1 hx)⟩
 by_cases hxn:x<n
 ·exact List.mem_range.2 hxn
 ·have:=len_le (a:=List.range n) (b:=p.erase x) List.pairwise_lt_range fun y hy=>(List.mem_erase_of_ne (by have:=List.mem_range.1 hy;omega)).2 (h y (List.mem_range.1 hy))
  rw[List.length_erase_of_mem hx,List.length_range] at this;have:=List.length_pos_of_mem hx
  omega
theorem pv_range {A:Nat→Nat→Rat} (h:rk n n A=n):pv n n A=List.range n:=
 range_eq rr_rf.mono (fun j hj=>pv_all h hj) (Nat.le_of_eq h)
def dE (n:Nat) (A:Nat→Nat→Rat):Rat:=if rk n n A=n then (red n (mk n n A)).f else 0
theorem phi_dE (H:Alt n Φ) (A:Nat→Nat→Rat):Φ A=dE n A*Φ I1:=by
 have h1:=phi_grun H (c:=n) (j:=0) (s:=⟨mk n n A,[],1⟩) (rf_start (n:=n) (k:=n) (M:=mk n n A) mk_len mk_rct);have e1:Φ (el (mk n n A))=Φ A:=H.congr _ _ fun i hi j hj=>el_mk hi hj
 have h2:(red n (mk n n A)).f*Φ (el (rr n n A))=1*Φ (el (mk n n A)):=h1;rw[e1,Rat.one_mul] at h2;rw[←h2];have F:=rr_rf (n:=n) (k:=n) (A:=A);unfold dE
 by_cases h:rk n n A=n
 ·rw[if_pos h]
  congr 1
  have hp:=pv_range h;refine H.congr _ _ fun i hi j hj=>?_
  have hl:j<(pv n n A).length:=by rw[hp,List.length_range];exact hj
  have g:(pv n n A)[j]=j:=by simp only[hp,List.getElem_range]
  unfold I1
  by_cases hij:i=j
  ·rw[if_pos hij,hij]
   have:=F.one j hl;rw[g] at this;exact this
  ·rw[if_neg hij]
   have:=F.off j hl i hi hij;rw[g] at this;exact this
 ·rw[if_neg h]
  have hlt:rk n n A<n:=Nat.lt_of_le_of_ne rk_rows h;have h0:=H.scale (el (rr n n A)) (n-1) 0 (by omega)
  rw[Rat.mul_zero] at h0;rw[←H.congr _ (el (rr n n A)) (fun i hi j hj=>by
   show (if i=n-1 then el (rr n n A) (n-1) j*0 else el (rr n n A) i j)=el (rr n n A) i j
   split
   ·rename_i hi1
    rw[Rat.mul_zero,hi1];exact (F.low (n-1) (by unfold rk at hlt;omega) (by omega) j hj).symm
   ·rfl),h0,Rat.mul_zero,Rat.zero_mul]
theorem D_dE (hn:n≤4) (A:Nat→Nat→Rat):D n A=dE n A:=by rw[phi_dE (D_alt hn) A,D_one hn,Rat.mul_one]
theorem dE_mul (hn:n≤4) (A B:Nat→Nat→Rat):dE n (mp n A B)=dE n A*dE n B:=by
 rw[←D_dE hn,phi_dE (mp_alt hn B) A,←D_dE hn B]
 congr 1
 refine D_congr hn _ _ fun i hi j hj=>?_
 unfold mp I1;rw[sm_one hi fun t _ hti=>by rw[if_neg (fun e=>hti e.symm)];exact Rat.zero_mul _,if_pos rfl,Rat.one_mul]
theorem dE_trans (hn:n≤4) (A:Nat→Nat→Rat):dE n (fun i j=>A j i)=dE n A:=by rw[←D_dE hn,←D_dE hn,D_trans hn]
theorem sm_split {f:Nat→Rat} {a:Nat}:∀ {b:Nat},sm f (a+b)=sm f a+sm (fun i=>f (a+i)) b
 | 0=>(Rat.add_zero _).symm
 | b+1=>by
  show sm f (a+b)+f (a+b)=sm f a+(sm (fun i=>f (a+i)) b+f (a+b))
  rw[sm_split,Rat.add_assoc]
def wide (k:Nat) (A:Nat→Nat→Rat) (b:Nat→Rat) (i j:Nat):Rat:=if j<k then A i j else b i
theorem wide_sum {A:Nat→Nat→Rat} {b x:Nat→Rat} {i:Nat}:sm (fun j=>wide k A b i j*x j) (k+1)=sm (fun j=>A i j*x j) k+b i*x k:=by
 show sm _ k+wide k A b i k*x k=_
 have:wide k A b i k=b i:=if_neg (Nat.lt_irrefl k);rw[this]
 congr 1
 exact sm_congr fun j hj=>by show (if j<k then _ else _)*_=_;rw[if_pos hj]
def sol (n k:Nat) (A:Nat→Nat→Rat) (b:Nat→Rat) (j:Nat):Rat:=
 if j∈pv n (k+1) (wide k A b) then el (rr n (k+1) (wide k A b)) ((pv n (k+1) (wide k A b)).idxOf j) k else 0
theorem sol_solves {A:Nat→Nat→Rat} {b:Nat→Rat} (h:k∉pv n (k+1) (wide k A b)):∀ i<n,sm (fun j=>A i j*sol n k A b j) k=b i:=by
 intro i hi;have h1:=nv_kf (Nat.lt_succ_self k) h i hi;rw[wide_sum,nv_self,Rat.mul_one] at h1;have e:sm (fun j=>A i j*nv (rr n (k+1) (wide k A b)) (pv n (k+1) (wide k A b)) k j) k=sm (fun j=>A i j*sol n k A b j * -1) k:=sm_congr fun j hj=>by
  unfold nv sol;rw[if_neg (by omega)]
  by_cases hp:j∈pv n (k+1) (wide k A b)
  ·rw[if_pos ⟨hj,hp⟩,if_pos hp];grind
  ·rw[if_neg (fun e=>hp e.2),if_neg hp];grind
 rw[e,sm_mul] at h1;generalize sm _ k=S at h1 ⊢
 grind
theorem sol_exists {A:Nat→Nat→Rat} {b v:Nat→Rat} (h:∀ i<n,sm (fun j=>A i j*v j) k=b i):k∉pv n (k+1) (wide k A b):=by
 intro hp;have:=(pv_iff (Nat.lt_succ_self k)).1 hp (fun j=>if j<k then v j else if j=k then -1 else 0) (fun i hi=>by
  rw[wide_sum,if_neg (Nat.lt_irrefl k),if_pos rfl,sm_congr (g:=fun j=>A i j*v j) fun j hj=>by rw[if_pos hj],h i hi]
  grind) fun i hi=>by rw[if_neg (by omega),if_neg (by omega)]
 rw[if_neg (Nat.lt_irrefl k),if_pos rfl] at this;exact absurd this (by decide)
def fr (n k:Nat) (A:Nat→Nat→Rat):List Nat:=(List.range k).filter fun j=>!(pv n k A).contains j
theorem fr_mem {A:Nat→Nat→Rat} {j:Nat}:j∈fr n k A↔j<k∧j∉pv n k A:=by
 unfold fr;rw[List.mem_filter,List.mem_range]
 simp
theorem fr_sorted {A:Nat→Nat→Rat}:(fr n k A).Pairwise (· < ·):=List.Pairwise.filter _ List.pairwise_lt_range
theorem filt_len {p:List Nat}:∀ {l:List Nat},(l.filter fun j=>!p.contains j).length+(l.filter fun j=>p.contains j).length=l.length
 | []=>rfl
 | x::l=>by
  have:=filt_len (p:=p) (l:=l);rw[List.filter_cons,List.filter_cons,List.length_cons]
  cases p.contains x<;>simp only[Bool.not_true,Bool.not_false,Bool.false_eq_true,if_false,if_true,List.length_cons]<;>omega
theorem fr_len {A:Nat→Nat→Rat}:(fr n k A).length=k-rk n k A:=by
 have h1:=filt_len (p:=pv n k A) (l:=List.range k);have h2:(List.range k).filter (fun j=>(pv n k A).contains j)=pv n k A:=sorted_ext (List.Pairwise.filter _ List.pairwise_lt_range) rr_rf.mono fun x=>by
  rw[List.mem_filter,List.mem_range]
  constructor
  ·intro h;exact List.contains_iff_mem.1 h.2
  ·intro h;exact⟨rr_rf.lt x h,List.contains_iff_mem.2 h⟩
 rw[h2,List.length_range] at h1;unfold fr rk
 omega
def nul (n k:Nat) (A:Nat→Nat→Rat) (i j:Nat):Rat:=nv (rr n k A) (pv n k A) ((fr n k A).getD i 0) j
theorem fr_get {A:Nat→Nat→Rat} {i:Nat} (h:i<(fr n k A).length):(fr n k A).getD i 0=(fr n k A)[i]:=by rw[List.getD_eq_getElem?_getD,List.getElem?_eq_getElem h];rfl
theorem nul_kf {A:Nat→Nat→Rat} {i:Nat} (h:i<(fr n k A).length):KF n k A (nul n k A i):=by
 have hm:=fr_mem.1 (List.getElem_mem h);have:=nv_kf hm.1 hm.2;unfold nul;rw[fr_get h];exact this
theorem nul_rank {A:Nat→Nat→Rat}:rk (fr n k A).length k (nul n k A)=(fr n k A).length:=by
 refine rk_indep.2 fun y hy i hi=>?_
 have hm:=fr_mem.1 (List.getElem_mem hi);have h1:=hy _ hm.1;rw[sm_one hi fun l hl hli=>?_] at h1
 ·unfold nul at h1
  rw[fr_get hi,nv_self,Rat.mul_one] at h1;exact h1
 ·unfold nul nv
  rw[fr_get hl,if_neg (fun e=>?_),if_neg (fun e=>hm.2 e.2),Rat.mul_zero]
  have h3:=List.pairwise_iff_getElem.1 (fr_sorted (n:=n) (k:=k) (A:=A))
  rcases Nat.lt_trichotomy l i with g | g | g
  ·have:=h3 _ _ hl hi g;omega
  ·exact hli g
  ·have:=h3 _ _ hi hl g;omega
def besd (n:Nat) (A:Nat→Nat→Rat) (i j:Nat):Rat:=if j<n then A i j else I1 i (j-n)
def inv (n:Nat) (A:Nat→Nat→Rat) (i j:Nat):Rat:=el (rr n (n+n) (besd n A)) i (n+j)
theorem besd_sum {A:Nat→Nat→Rat} {x:Nat→Rat} {i:Nat} (hi:i<n):sm (fun j=>besd n A i j*x j) (n+n)=sm (fun j=>A i j*x j) n+x (n+i):=by
 rw[sm_split]
 congr 1
 ·exact sm_congr fun j hj=>by show (if j<n then _ else _)*_=_;rw[if_pos hj]
 ·rw[sm_one hi fun j hj hji=>?_]
  ·show (if n+i<n then _ else I1 i (n+i-n))*_=_
   rw[if_neg (by omega),Nat.add_sub_cancel_left]
   unfold I1;rw[if_pos rfl,Rat.one_mul]
  ·show (if n+j<n then _ else I1 i (n+j-n))*_=_
   rw[if_neg (by omega),Nat.add_sub_cancel_left]
   unfold I1;rw[if_neg (fun e=>hji e.symm),Rat.zero_mul]
theorem besd_pv {A:Nat→Nat→Rat} (h:rk n n A=n):pv n (n+n) (besd n A)=List.range n:=by
 refine range_eq rr_rf.mono (fun j hj=>(pv_iff (by omega)).2 fun x hx h0=>?_) rk_rows
 refine rk_full.1 h x (fun i hi=>?_) j hj
 have:=hx i hi;rw[besd_sum hi,h0 (n+i) (by omega),Rat.add_zero] at this
 exact this
theorem inv_right {A:Nat→Nat→Rat} (h:rk n n A=n) {i j:Nat} (hi:i<n) (hj:j<n):mp n A (inv n A) i j=I1 i j:=by
 have hp:=besd_pv h;have h1:=nv_kf (n:=n) (k:=n+n) (A:=besd n A) (j:=n+j) (by omega) (by rw[hp,List.mem_range];omega) i hi
 rw[besd_sum hi] at h1;have e:sm (fun l=>A i l*nv (rr n (n+n) (besd n A)) (pv n (n+n) (besd n A)) (n+j) l) n=sm (fun l=>A i l*inv n A l j * -1) n:=sm_congr fun l hl=>by
  have hl':l<(pv n (n+n) (besd n A)).length:=by rw[hp,List.length_range];exact hl
  have g:=idx_get (rr_rf (n:=n) (k:=n+n) (A:=besd n A)).mono hl';have g2:(pv n (n+n) (besd n A))[l]=l:=by simp only[hp,List.getElem_range]
  rw[g2] at g;unfold nv inv;rw[if_neg (by omega),if_pos ⟨by omega,by rw[hp];exact List.mem_range.2 hl⟩,g]
  grind
 have e2:nv (rr n (n+n) (besd n A)) (pv n (n+n) (besd n A)) (n+j) (n+i)=I1 i j:=by
  unfold nv I1
  by_cases hij:i=j
  ·rw[if_pos (by omega),if_pos hij]
  ·rw[if_neg (by omega),if_neg (fun e=>by have:=e.2;rw[hp,List.mem_range] at this;omega),if_neg hij]
 rw[e,e2,sm_mul] at h1;unfold mp;generalize sm _ n=S at h1 ⊢;generalize I1 i j=d at h1 ⊢
 grind
theorem inv_left {A:Nat→Nat→Rat} (h:rk n n A=n) {i j:Nat} (hi:i<n) (hj:j<n):mp n (inv n A) A i j=I1 i j:=by
 have h1:=rk_full.1 h (fun l=>mp n (inv n A) A l j-I1 l j) (fun a ha=>by
  have e1:sm (fun l=>A a l*(mp n (inv n A) A l j-I1 l j)) n=sm (fun l=>A a l*mp n (inv n A) A l j+A a l*I1 l j * -1) n:=sm_congr fun l _=>by grind
  have e2:sm (fun l=>A a l*I1 l j) n=A a j:=by
   rw[sm_one hj fun l _ hlj=>by unfold I1;rw[if_neg hlj,Rat.mul_zero]]
   unfold I1;rw[if_pos rfl,Rat.mul_one]
  have e3:sm (fun l=>A a l*mp n (inv n A) A l j) n=A a j:=by
   have:sm (fun l=>A a l*mp n (inv n A) A l j) n=sm (fun t=>mp n A (inv n A) a t*A t j) n:=by
    unfold mp;rw[sm_congr (g:=fun l=>sm (fun t=>A a l*inv n A l t*A t j) n) fun l _=>by rw[←sm_mul'];exact sm_congr fun t _=>by grind,sm_comm]
    exact sm_congr fun t _=>sm_mul
   rw[this,sm_congr (g:=fun t=>I1 a t*A t j) fun t ht=>by rw[inv_right h ha ht],sm_one ha fun t _ hta=>by unfold I1;rw[if_neg (fun e=>hta e.symm),Rat.zero_mul]]
   unfold I1;rw[if_pos rfl,Rat.one_mul]
  rw[e1,sm_add,sm_mul,e2,e3]
  grind) i hi
 generalize mp n (inv n A) A i j=u at h1 ⊢;generalize I1 i j=v at h1 ⊢
 grind
theorem dE_inv (hn:n≤4) {A:Nat→Nat→Rat} (h:rk n n A=n):dE n A*dE n (inv n A)=1:=by
 rw[←dE_mul hn,←D_dE hn,D_congr hn _ I1 fun i hi j hj=>inv_right h hi hj,D_one hn]
theorem dE_zero (hn:n≤4) {A:Nat→Nat→Rat}:dE n A=0↔rk n n A≠n:=by
 constructor
 ·intro h h'
  have:=dE_inv hn h';rw[h,Rat.zero_mul] at this;exact absurd this (by decide)
 ·intro h;unfold dE;rw[if_neg h]
end GE
set_option linter.unusedVariables false
namespace GE
structure Grw (P:Nat→Rat→Prop):Prop where
 mono:∀ {a b:Nat} {q:Rat},P a q→a≤b→P b q
 zero:∀ {a:Nat},1≤a→P a 0
 neg:∀ {a:Nat} {q:Rat},P a q→P a (-q)
 add:∀ {a b:Nat} {x y:Rat},P a x→P b y→P (a+b+1) (x+y)
 mul:∀ {a b:Nat} {x y:Rat},P a x→P b y→P (a+b) (x*y)
 inv:∀ {a:Nat} {x:Rat},P a x→1≤a→P a (1 / x)
variable {n k:Nat} {P:Nat→Rat→Prop}
def colP (P:Rat→Prop) (j:Nat) (s:GS):Prop:=gat j s=s.M.length ∨
 (P (1 / el (gm1 j s) s.p.length j)∧P (gf1 j s)∧P (gf1 j s*el (gm1 j s) s.p.length j)∧(∀ a c,P (el (gm1 j s) a c)) ∧
  (∀ i≤s.M.length,∀ a c,P (el (rws (nrm (gm1 j s) j s.p.length) j s.p.length i) a c)) ∧
  ∀ i<s.M.length,P (-(el (rws (nrm (gm1 j s) j s.p.length) j s.p.length i) i j)) ∧
   ∀ c,P (el (rws (nrm (gm1 j s) j s.p.length) j s.p.length i) s.p.length c * -(el (rws (nrm (gm1 j s) j s.p.length) j s.p.length i) i j)))
def gokP (P:Rat→Prop):Nat→Nat→GS→Prop
 | 0,_,_=>True
 | c+1,j,s=>colP P j s∧gokP P c (j+1) (gcol j s)
theorem col_grow (G:Grw P) {b j:Nat} {s:GS} (F:RF n k s.M s.p j) (hE:∀ i c,P b (el s.M i c)) (hf:P b s.f) (hb:1≤b) :
  (gat j s=s.M.length∨s.p.length<n)∧colP (P (5*b)) j s∧(∀ i c,P (5*b) (el (gcol j s).M i c))∧P (5*b) (gcol j s).f:=by
 by_cases hg:gat j s=s.M.length
 ·have e:gcol j s=s:=by unfold gcol;rw[if_pos hg]
  rw[e];exact⟨Or.inl hg,Or.inl hg,fun i c=>G.mono (hE i c) (by omega),G.mono hf (by omega)⟩
 ·have hle:=gat_le (j:=j) (s:=s) (by rw[F.len];exact F.ple)
  have ha:gat j s<s.M.length:=by omega
  have hn:=F.len;have hge:=gat_ge (j:=j) (s:=s);have e:gcol j s=⟨rws (nrm (gm1 j s) j s.p.length) j s.p.length s.M.length,s.p++[j],gf1 j s*el (gm1 j s) s.p.length j⟩:=by unfold gcol;rw[if_neg hg]
  have r1:=gm1_rct F.rect ha;have l1:(gm1 j s).length=n:=gm1_len.trans hn;have r2:=nrm_rct r1 (j:=j) (t:=s.p.length) (by omega)
  have l2:(nrm (gm1 j s) j s.p.length).length=n:=nrm_len.trans l1;have h1:∀ i c,P b (el (gm1 j s) i c):=fun i c=>by
   rw[el_gm1 ha]
   split
   ·exact hE _ _
   ·split<;>exact hE _ _
  have hf1:P b (gf1 j s):=by
   unfold gf1
   split
   ·exact hf
   ·exact G.neg hf
  have e2:=fun i c=>el_nrm (M:=gm1 j s) (j:=j) (t:=s.p.length) (i:=i) (c:=c) (by omega)
  have ht:∀ c,P (b+b) (el (nrm (gm1 j s) j s.p.length) s.p.length c):=fun c=>by
   rw[e2,if_pos rfl];exact G.mul (h1 _ _) (G.inv (h1 _ _) hb)
  have ho:∀ i c,i≠s.p.length→P b (el (nrm (gm1 j s) j s.p.length) i c):=fun i c hi=>by rw[e2,if_neg hi];exact h1 _ _
  have e3:=fun m (hm:m≤n) i c=>el_rws (j:=j) (t:=s.p.length) (a:=i) (c:=c) (n:=m) r2 (by omega) (by omega)
  have h3:∀ m≤n,∀ i c,P (5*b) (el (rws (nrm (gm1 j s) j s.p.length) j s.p.length m) i c):=fun m hm i c=>by
   rw[e3 m hm]
   split
   ·rename_i h
    exact G.mono (G.add (ho i c h.2) (G.mul (ht c) (G.neg (ho i j h.2)))) (by omega)
   ·by_cases hi:i=s.p.length
    ·rw[hi];exact G.mono (ht c) (by omega)
    ·exact G.mono (ho i c hi) (by omega)
  have h4:∀ i<n,P (b+b) (-(el (rws (nrm (gm1 j s) j s.p.length) j s.p.length i) i j)):=fun i hi=>by
   rw[e3 i (by omega),if_neg (by omega)]
   by_cases h:i=s.p.length
   ·rw[h];exact G.neg (ht j)
   ·exact G.mono (G.neg (ho i j h)) (by omega)
  have h5:∀ i<n,∀ c,P (b+b) (el (rws (nrm (gm1 j s) j s.p.length) j s.p.length i) s.p.length c):=fun i hi c=>by
   rw[e3 i (by omega),if_neg (fun h=>h.2 rfl)];exact ht c
  rw[e];refine⟨Or.inr (by omega),Or.inr ⟨G.mono (G.inv (h1 _ _) hb) (by omega),G.mono hf1 (by omega),G.mono (G.mul hf1 (h1 _ _)) (by omega),fun i c=>G.mono (h1 i c) (by omega),fun i hi a c=>h3 i (by omega) a c,fun i hi=>⟨G.mono (h4 i (by omega)) (by omega),fun c=>G.mono (G.mul (h5 i (by omega) c) (h4 i (by omega))) (by omega)⟩⟩,fun i c=>h3 _ (by omega) i c,G.mono (G.mul hf1 (h1 _ _)) (by omega)⟩
theorem col_same {j:Nat} {s:GS} (hg:gat j s=s.M.length):gcol j s=s:=by unfold gcol;rw[if_pos hg]
theorem col_more {j:Nat} {s:GS} (hg:gat j s≠s.M.length):(gcol j s).p.length=s.p.length+1:=by
 unfold gcol;rw[if_neg hg];exact List.length_append
theorem colP_mono {P Q:Rat→Prop} (h:∀ q,P q→Q q) {j:Nat} {s:GS} (hc:colP P j s):colP Q j s:=by
 rcases hc with hc | ⟨h1,h2,h3,h4,h5,h6⟩
 ·exact Or.inl hc
 ·exact Or.inr ⟨h _ h1,h _ h2,h _ h3,fun a c=>h _ (h4 a c),fun i hi a c=>h _ (h5 i hi a c),fun i hi=>⟨h _ (h6 i hi).1,fun c=>h _ ((h6 i hi).2 c)⟩⟩
theorem run_grow (G:Grw P) {B:Nat}:∀ {c j:Nat} {s:GS} {b:Nat},RF n k s.M s.p j→(∀ i c,P b (el s.M i c))→P b s.f→1≤b→b*5^(n-s.p.length)≤B →
  gokP (P B) c j s∧(∀ i c',P B (el (grun c j s).M i c'))∧P B (grun c j s).f
 | 0,j,s,b,F,hE,hf,hb,hB=>by
  have:b≤B:=Nat.le_trans (Nat.le_mul_of_pos_right b (Nat.pow_pos (by decide))) hB
  exact⟨trivial,fun i c=>G.mono (hE i c) this,G.mono hf this⟩
 | c+1,j,s,b,F,hE,hf,hb,hB=>by
  obtain⟨h0,h1,h2,h3⟩:=col_grow G F hE hf hb;have F':=(gcol_rf F).1
  by_cases hg:gat j s=s.M.length
  ·have ih:=run_grow (c:=c) G F' (b:=b) (by rw[col_same hg];exact hE) (by rw[col_same hg];exact hf) hb (by rw[col_same hg];exact hB)
   exact⟨⟨Or.inl hg,ih.1⟩,ih.2⟩
  ·have hlt:s.p.length<n:=h0.resolve_left hg
   have hp:=col_more hg;have e:b*5^(n-s.p.length)=5*b*5^(n-(s.p.length+1)):=by
    rw[show n-s.p.length=n-(s.p.length+1)+1 by omega,Nat.pow_succ]
    rw[Nat.mul_comm 5 b,Nat.mul_assoc,Nat.mul_comm 5]
   have hB':5*b*5^(n-(gcol j s).p.length)≤B:=by rw[hp,←e];exact hB
   have h5:5*b≤B:=Nat.le_trans (Nat.le_mul_of_pos_right _ (Nat.pow_pos (by decide))) hB'
   have ih:=run_grow (c:=c) G F' h2 h3 (by omega) hB'
   exact⟨⟨colP_mono (fun q hq=>G.mono hq h5) h1,ih.1⟩,ih.2⟩
end GE
