/- Lists of limbs of 32 bits and the numbers that they stand for: plain lemmas; no program. -/

set_option linter.unusedVariables false
namespace Go.Proofs.YthlinhconnmbcaaGreat
theorem sZ0 {α:Type _} (l:List α) (i:Nat) (a:α):l.toArray.setIfInBounds i a=(l.set i a).toArray:=List.setIfInBounds_toArray l i a
theorem sZ1 {α:Type _} {x:α} {l:List α} {a:α}:(x::l).set 0 a=a::l:=List.set_cons_zero
theorem sZ2 {α:Type _} {x:α} {l:List α} {i:Nat} {a:α}:(x::l).set (i+1) a=x::l.set i a:=List.set_cons_succ
def val:List Nat→Nat
 | []=>0
 | x::r=>x+4294967296*val r
def vldB (xs:List Nat):Bool:=xs.length==0 || !(xs.getD (xs.length-1) 0==0)
def num (xs:List Nat):Nat:=if vldB xs then val xs else 0
def Sm (xs:List Nat):Prop:=∀ x∈xs,x<4294967296
def limbs (n:Nat):List Nat:=if h:n=0 then [] else (n%4294967296)::limbs (n / 4294967296)
termination_by n
decreasing_by omega
theorem limbs_zero:limbs 0=[]:=by rw[limbs];simp
theorem limbs_pos {n:Nat} (h:0<n):limbs n=(n%4294967296)::limbs (n / 4294967296):=by rw[limbs,dif_neg (by omega)]
theorem val_limbs (n:Nat):val (limbs n)=n:=by
 induction n using Nat.strongRecOn with
 | ind n ih=>
  by_cases h:n=0
  ·subst h;rw[limbs_zero];rfl
  ·rw[limbs_pos (by omega),val,ih _ (by omega)];omega
theorem sm_limbs (n:Nat):Sm (limbs n):=by
 induction n using Nat.strongRecOn with
 | ind n ih=>
  by_cases h:n=0
  ·subst h;rw[limbs_zero];intro x hx;simp at hx
  ·rw[limbs_pos (by omega)]
   intro x hx
   rcases List.mem_cons.1 hx with rfl | hx
   ·omega
   ·exact ih _ (by omega) x hx
theorem vldB_one (x:Nat):vldB [x] = !(x==0):=by simp[vldB]
theorem vldB_cons (x y:Nat) (r:List Nat):vldB (x::y::r)=vldB (y::r):=by
 simp[vldB]
theorem vldB_limbs (n:Nat):vldB (limbs n)=true:=by
 induction n using Nat.strongRecOn with
 | ind n ih=>
  by_cases h:n=0
  ·subst h;rw[limbs_zero];rfl
  ·rw[limbs_pos (by omega)]
   by_cases h2:n / 4294967296=0
   ·rw[h2,limbs_zero,vldB_one];simp;omega
   ·have:=ih (n / 4294967296) (by omega)
    rw[limbs_pos (by omega)] at this ⊢
    rw[vldB_cons];exact this
theorem val_pos:∀ {xs:List Nat},vldB xs=true→xs≠[]→0<val xs
 | [],_,h=>absurd rfl h
 | [x],h,_=>by rw[vldB_one] at h;simp at h;simp[val];omega
 | x::y::r,h,_=>by
  rw[vldB_cons] at h;have:=val_pos h (by simp)
  rw[val];omega
theorem limbs_val:∀ {xs:List Nat},Sm xs→vldB xs=true→limbs (val xs)=xs
 | [],_,_=>limbs_zero
 | [x],hs,h=>by
  rw[vldB_one] at h;simp at h;have:=hs x (by simp)
  show limbs (x+4294967296*0)=[x]
  rw[limbs_pos (by omega),show (x+4294967296*0) / 4294967296=0 by omega,limbs_zero,show (x+4294967296*0)%4294967296=x by omega]
 | x::y::r,hs,h=>by
  have hx:=hs x (by simp)
  rw[vldB_cons] at h;have ih:=limbs_val (xs:=y::r) (fun z hz=>hs z (by simp at hz ⊢;right;exact hz)) h
  have hp:=val_pos h (by simp)
  rw[val,limbs_pos (by omega),show (x+4294967296*val (y::r)) / 4294967296=val (y::r) by omega,show (x+4294967296*val (y::r))%4294967296=x by omega,ih]
theorem num_limbs (n:Nat):num (limbs n)=n:=by rw[num,vldB_limbs,if_pos rfl,val_limbs]
theorem num_of_vld {xs:List Nat} (h:vldB xs=true):num xs=val xs:=by rw[num,if_pos h]
theorem limbs_inj {a b:Nat} (h:limbs a=limbs b):a=b:=by rw[←val_limbs a,h,val_limbs]
theorem val_append (xs ys:List Nat):val (xs++ys)=val xs+4294967296^xs.length*val ys:=by
 induction xs with
 | nil=>simp[val]
 | cons x r ih=>simp only[List.cons_append,val,ih,List.length_cons,Nat.pow_succ];rw[Nat.mul_add];rw[Nat.mul_comm (4294967296^r.length) 4294967296,Nat.mul_assoc];omega
theorem val_lt {xs:List Nat} (h:Sm xs):val xs<4294967296^xs.length:=by
 induction xs with
 | nil=>simp[val]
 | cons x r ih=>
  have hx:=h x (by simp)
  have:=ih (fun z hz=>h z (by simp[hz]))
  simp only[val,List.length_cons,Nat.pow_succ]
  omega
theorem val_snoc (xs:List Nat) (x:Nat):val (xs++[x])=val xs+4294967296^xs.length*x:=by
 rw[val_append];simp[val]
theorem val_take_succ (xs:List Nat) (k:Nat) (h:k<xs.length):val (xs.take (k+1))=val (xs.take k)+4294967296^k*xs.getD k 0:=by
 rw[List.take_succ_eq_append_getElem h,val_snoc,List.length_take,Nat.min_eq_left (by omega)]
 simp[List.getD,List.getElem?_eq_getElem h]
theorem val_take_succ_any (xs:List Nat) (k:Nat):val (xs.take (k+1))=val (xs.take k)+4294967296^k*xs.getD k 0:=by
 by_cases h:k<xs.length
 ·exact val_take_succ xs k h
 ·rw[List.take_of_length_le (by omega),List.take_of_length_le (by omega)]
  simp[List.getD,List.getElem?_eq_none (show xs.length≤k by omega)]
theorem val_ge {xs:List Nat} (h:vldB xs=true) (hn:0<xs.length):4294967296^(xs.length-1)≤val xs:=by
 have e:xs=xs.take (xs.length-1)++[xs.getD (xs.length-1) 0]:=by
  have:=List.take_succ_eq_append_getElem (l:=xs) (i:=xs.length-1) (by omega)
  rw[show xs.length-1+1=xs.length by omega,List.take_length] at this
  rw[List.getD_eq_getElem?_getD,List.getElem?_eq_getElem (by omega)]
  exact this
 have h0:xs.getD (xs.length-1) 0≠0:=by
  unfold vldB at h;simp at h;rcases h with h | h
  ·subst h;simp at hn
  ·simpa using h
 rw[e,val_snoc,←e,List.length_take,Nat.min_eq_left (by omega)]
 have:=Nat.mul_le_mul_left (4294967296^(xs.length-1)) (show 1≤xs.getD (xs.length-1) 0 by omega)
 omega
def tl (xs:List Nat):Nat→Nat
 | 0=>0
 | k+1=>if xs.getD k 0=0 then tl xs k else k+1
theorem tl_le (xs:List Nat) (k:Nat):tl xs k≤k:=by
 induction k with
 | zero=>simp[tl]
 | succ k ih=>unfold tl;split<;>omega
theorem tl_val (xs:List Nat) (k:Nat):val (xs.take (tl xs k))=val (xs.take k):=by
 induction k with
 | zero=>simp[tl]
 | succ k ih=>
  unfold tl
  split
  ·rename_i h;rw[ih,val_take_succ_any,h];omega
  ·rfl
theorem tl_vld (xs:List Nat) (k:Nat) (h:k≤xs.length):vldB (xs.take (tl xs k))=true:=by
 induction k with
 | zero=>simp[tl,vldB]
 | succ k ih=>
  unfold tl
  split
  ·exact ih (by omega)
  ·rename_i h0
   unfold vldB;rw[List.length_take,Nat.min_eq_left h]
   simp at h0 ⊢
   exact h0
theorem sm_take {xs:List Nat} (h:Sm xs) (k:Nat):Sm (xs.take k):=fun x hx=>h x (List.mem_of_mem_take hx)
theorem sm_drop {xs:List Nat} (h:Sm xs) (k:Nat):Sm (xs.drop k):=fun x hx=>h x (List.mem_of_mem_drop hx)
theorem sm_set {xs:List Nat} (h:Sm xs) (k x:Nat) (hx:x<4294967296):Sm (xs.set k x):=by
 intro y hy
 rcases List.mem_or_eq_of_mem_set hy with hy | rfl
 ·exact h y hy
 ·exact hx
theorem sm_replicate (k:Nat):Sm (List.replicate k 0):=by
 intro x hx;rw[List.eq_of_mem_replicate hx];omega
theorem sm_get {xs:List Nat} (h:Sm xs) (k:Nat):xs.getD k 0<4294967296:=by
 by_cases hk:k<xs.length
 ·rw[List.getD_eq_getElem?_getD,List.getElem?_eq_getElem hk];exact h _ (List.getElem_mem hk)
 ·rw[List.getD_eq_getElem?_getD,List.getElem?_eq_none (by omega)];simp
theorem sm_nil:Sm []:=by intro x hx;simp at hx
theorem tl_limbs {xs:List Nat} (h:Sm xs) (k:Nat) (hk:k≤xs.length):xs.take (tl xs k)=limbs (val (xs.take k)):=by
 rw[←tl_val,limbs_val (sm_take h _) (tl_vld xs k hk)]
def kn (xs:List Nat):List Nat:=if vldB xs then xs else []
theorem kn_limbs {xs:List Nat} (h:Sm xs):kn xs=limbs (num xs):=by
 unfold kn num
 split
 ·rename_i hv;rw[limbs_val h hv]
 ·rw[limbs_zero]
theorem limbs_len_le {n k:Nat}:(limbs n).length≤k↔n<4294967296^k:=by
 constructor
 ·intro h
  have:=val_lt (sm_limbs n);rw[val_limbs] at this;exact Nat.lt_of_lt_of_le this (Nat.pow_le_pow_right (by omega) h)
 ·intro h
  rcases Nat.lt_or_ge k (limbs n).length with hk | hk
  ·have:=val_ge (vldB_limbs n) (by omega)
   rw[val_limbs] at this;have h2:4294967296^k≤4294967296^((limbs n).length-1):=Nat.pow_le_pow_right (by omega) (by omega)
   omega
  ·exact hk
theorem take_set_succ (zs:List Nat) (k v:Nat) (h:k<zs.length):val ((zs.set k v).take (k+1))=val (zs.take k)+4294967296^k*v:=by
 rw[val_take_succ _ _ (by simpa using h),List.take_set_of_le (Nat.le_refl _)]
 congr 2
 simp[List.getD,h]
theorem pow_mul_succ (k a:Nat):4294967296^(k+1)*a=4294967296^k*(4294967296*a):=by
 rw[Nat.pow_succ,Nat.mul_assoc]
theorem add_step {zs X Y:List Nat} {k cy x y:Nat} (hk:k<zs.length) (h:val (zs.take k)+4294967296^k*cy=val (X.take k)+val (Y.take k))
  (hx:X.getD k 0=x) (hy:Y.getD k 0=y) :
  val ((zs.set k ((cy+x+y)%4294967296)).take (k+1))+4294967296^(k+1)*((cy+x+y) / 4294967296)=val (X.take (k+1))+val (Y.take (k+1)):=by
 rw[take_set_succ _ _ _ hk,val_take_succ_any X,val_take_succ_any Y,hx,hy,pow_mul_succ,Nat.add_assoc,←Nat.mul_add];have e:(cy+x+y)%4294967296+4294967296*((cy+x+y) / 4294967296)=cy+x+y:=Nat.mod_add_div _ _;rw[e,Nat.mul_add,Nat.mul_add]
 omega
theorem add_last {zs X Y:List Nat} {k cy:Nat} (hl:zs.length=k+1) (h:val (zs.take k)+4294967296^k*cy=val (X.take k)+val (Y.take k))
  (hX:X.length≤k) (hY:Y.length≤k):val (zs.set k cy)=val X+val Y:=by
 have:=take_set_succ zs k cy (by omega)
 rw[h,List.take_of_length_le (by rw[List.length_set];omega),List.take_of_length_le hX,List.take_of_length_le hY] at this
 exact this
theorem getD_none {X:List Nat} {k:Nat} (h:X.length≤k):X.getD k 0=0:=by
 rw[List.getD_eq_getElem?_getD,List.getElem?_eq_none h];rfl
theorem val_take_all {X:List Nat} {k:Nat} (h:X.length≤k):val (X.take k)=val X:=by rw[List.take_of_length_le h]
theorem drop_get {X:List Nat} {j:Nat} (h:j<X.length):X.drop j=X.getD j 0::X.drop (j+1):=by
 rw[List.drop_eq_getElem_cons h,List.getD_eq_getElem?_getD,List.getElem?_eq_getElem h];rfl
theorem drop_same {X Y:List Nat} {j:Nat} (hX:j<X.length) (hY:j<Y.length) (h:X.drop (j+1)=Y.drop (j+1)) (he:X.getD j 0=Y.getD j 0):X.drop j=Y.drop j:=by
 rw[drop_get hX,drop_get hY,h,he]
theorem val_split (X:List Nat) (k:Nat) (h:k≤X.length):val X=val (X.take k)+4294967296^k*val (X.drop k):=by
 have:=val_append (X.take k) (X.drop k);rw[List.take_append_drop,List.length_take,Nat.min_eq_left h] at this;exact this
theorem lt_at {X Y:List Nat} {j:Nat} (hX:j<X.length) (hY:j<Y.length) (h:X.drop (j+1)=Y.drop (j+1)) (hs:Sm X) (hlt:X.getD j 0<Y.getD j 0):val X<val Y:=by
 rw[val_split X j (by omega),val_split Y j (by omega),drop_get hX,drop_get hY,h,val,val]
 have:=val_lt (sm_take hs j);rw[List.length_take,Nat.min_eq_left (by omega)] at this
 have h2:4294967296^j*(X.getD j 0+4294967296*val (Y.drop (j+1))+1)≤4294967296^j*(Y.getD j 0+4294967296*val (Y.drop (j+1))):=Nat.mul_le_mul_left _ (by omega)
 rw[Nat.mul_add _ _ 1] at h2
 omega
theorem lt_len {x y:Nat} (h:(limbs x).length<(limbs y).length):x<y:=by
 have h1:=(limbs_len_le (n:=x) (k:=(limbs x).length)).1 (Nat.le_refl _);have h2:=mt (limbs_len_le (n:=y) (k:=(limbs x).length)).2 (by omega)
 omega
theorem drop_step {zs X:List Nat} {k:Nat} (h:zs.drop k=X.drop k) (hz:k<zs.length) (hX:k<X.length):zs.getD k 0=X.getD k 0∧zs.drop (k+1)=X.drop (k+1):=by
 have e1:=drop_get hz;have e2:=drop_get hX;rw[h,e2] at e1;injection e1 with a b
 exact⟨a.symm,b.symm⟩
theorem drop_set_succ (zs:List Nat) (k v:Nat):(zs.set k v).drop (k+1)=zs.drop (k+1):=by
 rw[List.drop_set_of_lt (by omega)]
theorem sub_step {zs X Y:List Nat} {k br b' x y d:Nat} (hk:k<zs.length) (h:val (zs.take k)+val (Y.take k)=val (X.take k)+4294967296^k*br)
  (hx:X.getD k 0=x) (hy:Y.getD k 0=y) (hd:d+y+br=x+4294967296*b') :
  val ((zs.set k d).take (k+1))+val (Y.take (k+1))=val (X.take (k+1))+4294967296^(k+1)*b':=by
 rw[take_set_succ _ _ _ hk,val_take_succ_any X,val_take_succ_any Y,hx,hy,pow_mul_succ];have e:4294967296^k*(d+y+br)=4294967296^k*(x+4294967296*b'):=by rw[hd]
 rw[Nat.mul_add,Nat.mul_add,Nat.mul_add] at e
 omega
theorem len_le {x y:Nat} (h:y≤x):(limbs y).length≤(limbs x).length:=by
 rcases Nat.lt_or_ge (limbs x).length (limbs y).length with hl | hl
 ·have:=lt_len hl;omega
 ·exact hl
theorem sub_last {zs:List Nat} {x y k br:Nat} (hl:zs.length=k) (hs:Sm zs) (h:val (zs.take k)+val ((limbs y).take k)=val ((limbs x).take k)+4294967296^k*br)
  (hX:(limbs x).length=k) (hle:y≤x):val zs=x-y:=by
 have hY:=len_le hle;rw[List.take_of_length_le (by omega),List.take_of_length_le (by omega),List.take_of_length_le (by omega),val_limbs,val_limbs] at h
 have hv:=val_lt hs;rw[hl] at hv
 rcases Nat.eq_zero_or_pos br with h0 | h0
 ·subst h0;omega
 ·have:=Nat.mul_le_mul_left (4294967296^k) h0
  omega
theorem sub_limb (x br y:Nat) (hx:x<4294967296) (hbr:br≤1) (hy:y<4294967296) :
  ∃ d b':Nat,d<4294967296∧b'≤1∧d+y+br=x+4294967296*b' ∧
   (((x:Int)-br)%18446744073709551616-y)%18446744073709551616 / 9223372036854775808=(b':Int) ∧
   (((x:Int)-br)%18446744073709551616-y)%18446744073709551616%4294967296=(d:Int):=by
 by_cases h:br+y≤x
 ·exact⟨x-br-y,0,by omega,by omega,by omega,by omega,by omega⟩
 ·exact⟨x+4294967296-br-y,1,by omega,by omega,by omega,by omega,by omega⟩
theorem val_set (zs:List Nat) (i v:Nat) (h:i<zs.length):val (zs.set i v)+4294967296^i*zs.getD i 0=val zs+4294967296^i*v:=by
 have e1:=val_split zs (i+1) (by omega)
 have e2:=val_split (zs.set i v) (i+1) (by rw[List.length_set];omega)
 rw[take_set_succ _ _ _ h,drop_set_succ] at e2;rw[val_take_succ _ _ h] at e1
 omega
theorem getD_set (zs:List Nat) (i v:Nat) (h:i<zs.length):(zs.set i v).getD i 0=v:=by
 rw[List.getD_eq_getElem?_getD,List.getElem?_set_self h];rfl
theorem mul_step {zs zs' ys:List Nat} {o k cy x y s t:Nat} (hk:o+k<zs'.length) (h:val zs'+4294967296^(o+k)*cy=val zs+4294967296^o*(x*val (ys.take k)))
  (hs:zs'.getD (o+k) 0=s) (hy:ys.getD k 0=y) (ht:t=cy+(x*y+s)) :
  val (zs'.set (o+k) (t%4294967296))+4294967296^(o+(k+1))*(t / 4294967296)=val zs+4294967296^o*(x*val (ys.take (k+1))):=by
 have e:=val_set zs' (o+k) (t%4294967296) hk;rw[hs] at e;have e2:t%4294967296+4294967296*(t / 4294967296)=cy+(x*y+s):=by rw[←ht];exact Nat.mod_add_div _ _
 have e3:4294967296^(o+k)*(t%4294967296+4294967296*(t / 4294967296))=4294967296^(o+k)*(cy+(x*y+s)):=by rw[e2]
 rw[show o+(k+1)=o+k+1 by omega,pow_mul_succ,val_take_succ_any,hy]
 rw[Nat.mul_add,Nat.mul_add,Nat.mul_add] at e3;have e4:4294967296^o*(x*(val (ys.take k)+4294967296^k*y))=4294967296^o*(x*val (ys.take k))+4294967296^(o+k)*(x*y):=by
  rw[Nat.mul_add,Nat.mul_add,Nat.pow_add]
  congr 1
  rw[Nat.mul_left_comm x,Nat.mul_assoc]
 rw[e4]
 omega
theorem take_set_low (zs:List Nat) {o i:Nat} (v:Nat) (h:o≤i):(zs.set i v).take o=zs.take o:=by
 rw[List.take_set_of_le h]
theorem mul_bd {x y:Nat} (hx:x<4294967296) (hy:y<4294967296):x*y≤18446744065119617025:=by
 have:=Nat.mul_le_mul (show x≤4294967295 by omega) (show y≤4294967295 by omega)
 omega
theorem drop_step' {zs X:List Nat} {k:Nat} (h:zs.drop k=X.drop k):zs.drop (k+1)=X.drop (k+1):=by
 have:=congrArg (List.drop 1) h;rw[List.drop_drop,List.drop_drop] at this;exact this
theorem val_zeros (n:Nat):val (List.replicate n 0)=0:=by
 induction n with
 | zero=>rfl
 | succ n ih=>rw[List.replicate_succ,val,ih]
theorem getD_drop_zero {zs:List Nat} {k n:Nat} (h:zs.drop k=List.replicate n 0):zs.getD k 0=0:=by
 have:=congrArg (fun l=>l.getD 0 0) h
 simp only[List.getD_eq_getElem?_getD,List.getElem?_drop,Nat.add_zero] at this
 rw[List.getD_eq_getElem?_getD,this]
 cases n<;>simp
theorem take_step {zs X:List Nat} {j:Nat} (h:zs.take (j+1)=X.take (j+1)):zs.getD j 0=X.getD j 0∧zs.take j=X.take j:=by
 constructor
 ·have:=congrArg (fun l=>l.getD j 0) h
  simpa using this
 ·have:=congrArg (List.take j) h
  rw[List.take_take,List.take_take,Nat.min_eq_left (by omega)] at this
  exact this
theorem drop_set_self {zs:List Nat} {j q:Nat} (h:j<zs.length):(zs.set j q).drop j=q::zs.drop (j+1):=by
 rw[drop_get (by rw[List.length_set];exact h),getD_set _ _ _ h,drop_set_succ]
theorem div_step {zs zs':List Nat} {j b rest x t:Nat} (hl:j<zs'.length) (hl2:j<zs.length) (h:val (zs'.drop (j+1))*b+rest=val (zs.drop (j+1)))
  (hx:zs.getD j 0=x) (ht:t=rest*4294967296+x):val ((zs'.set j (t / b)).drop j)*b+t%b=val (zs.drop j):=by
 rw[drop_set_self hl,drop_get hl2,val,val,hx,←h,Nat.add_mul];have e:t / b*b+t%b=t:=Nat.div_add_mod' t b;rw[Nat.mul_add,Nat.mul_assoc]
 omega
theorem quo_bd {rest b x t:Nat} (hr:rest<b) (hx:x<4294967296) (ht:t=rest*4294967296+x):t / b<4294967296:=by
 rw[Nat.div_lt_iff_lt_mul (by omega)]
 have:=Nat.mul_le_mul_left 4294967296 (show rest+1≤b by omega)
 omega
theorem pow_limb (i:Nat):4294967296^i=2^(32*i):=by
 rw[Nat.pow_mul]
theorem pow_split (k:Nat):4294967296^(k / 32)*2^(k%32)=2^k:=by
 rw[pow_limb,←Nat.pow_add]
 congr 1
 omega
theorem shr_math (x low V p q:Nat) (hB:p*q=4294967296) (hp:0<p) (hx:x<4294967296) (hlow:low=V%4294967296) :
  (low*4294967296+x) / p%4294967296+4294967296*(V / p)=(x+4294967296*V) / p:=by
 obtain⟨U,hU⟩:∃ U,V=low+4294967296*U:=⟨V / 4294967296,by omega⟩
 have e1:(low*4294967296+x) / p=q*low+x / p:=by
  rw[←hB,show low*(p*q)+x=x+p*(q*low) by rw[Nat.mul_comm low,Nat.mul_assoc,Nat.add_comm],Nat.add_mul_div_left _ _ hp,Nat.add_comm]
 have e2:(x+4294967296*V) / p=x / p+q*V:=by
  rw[←hB,Nat.mul_assoc,Nat.add_mul_div_left _ _ hp]
 have e3:V / p=low / p+q*U:=by
  rw[hU,←hB,Nat.mul_assoc,Nat.add_mul_div_left _ _ hp]
 have e4:low=p*(low / p)+low%p:=(Nat.div_add_mod low p).symm;have hr:low%p<p:=Nat.mod_lt _ hp;have hxp:x / p<q:=by rw[Nat.div_lt_iff_lt_mul hp,Nat.mul_comm,hB];exact hx
 have e5:q*low=4294967296*(low / p)+q*(low%p):=by
  have:q*low=q*(p*(low / p)+low%p):=by rw[←e4]
  rw[this,Nat.mul_add,←Nat.mul_assoc,Nat.mul_comm q p,hB]
 have h6:q*(low%p)+x / p<4294967296:=by
  have:=Nat.mul_le_mul_left q (show low%p+1≤p by omega)
  rw[Nat.mul_comm q p,hB,Nat.mul_add] at this
  omega
 rw[e1,e2,e3,hU,Nat.mul_add,Nat.mul_add,e5];have e7:q*(4294967296*U)=4294967296*(q*U):=Nat.mul_left_comm _ _ _;rw[e7,Nat.add_assoc,Nat.mul_add_mod];rw[Nat.mod_eq_of_lt h6]
 omega
theorem low_mod {zs:List Nat} {k low:Nat} (hs:Sm zs) (h:low=zs.getD k 0):low=val (zs.drop k)%4294967296:=by
 by_cases hk:k<zs.length
 ·rw[drop_get hk,val,←h]
  have:=sm_get hs k
  omega
 ·rw[List.drop_of_length_le (by omega),h,getD_none (by omega)];rfl
theorem two_pow_32 {s:Nat} (hs:s<32):2^s*2^(32-s)=4294967296:=by
 rw[←Nat.pow_add,show s+(32-s)=32 by omega]
theorem shr_step {zs zs':List Nat} {j low x t s:Nat} (hl:j<zs'.length) (hl2:j<zs.length) (hs:s<32) (hsm:Sm zs) (h:val (zs'.drop (j+1))=val (zs.drop (j+1)) / 2^s)
  (hlow:low=zs.getD (j+1) 0) (hx:zs.getD j 0=x) (ht:t=low*4294967296+x):val ((zs'.set j (t / 2^s%4294967296)).drop j)=val (zs.drop j) / 2^s:=by
 rw[drop_set_self hl,drop_get hl2,val,val,hx,h,ht];exact shr_math x low _ _ _ (two_pow_32 hs) (Nat.pow_pos (by omega)) (by rw[←hx];exact sm_get hsm j) (low_mod hsm hlow)
theorem trim_take {xs:List Nat} (hs:Sm xs):limbs (val xs)=xs.take (limbs (val xs)).length:=by
 have h:=tl_limbs hs xs.length (Nat.le_refl _);rw[List.take_length] at h;have hl:=congrArg List.length h;rw[List.length_take,Nat.min_eq_left (tl_le _ _)] at hl;rw[←hl];exact h.symm
theorem len_of_lt {x n:Nat} (h:x<4294967296^n):(limbs x).length≤n:=limbs_len_le.2 h
theorem lt_of_len {x n:Nat} (h:(limbs x).length=n):x<4294967296^n:=limbs_len_le.1 (by omega)
theorem gl_id (g b1 b0:Nat):g*(b1*4294967296+b0)=g*b1*4294967296+g*b0:=by
 rw[Nat.mul_add,Nat.mul_assoc]
def GuessOk (T a0 b1 b0 g:Nat):Prop:=
 g≤4294967295∧g*(b1*4294967296+b0)≤T*4294967296+a0∧(4294967295≤g∨T*4294967296+a0<(g+1)*(b1*4294967296+b0))
theorem gl_stop {T a0 b1 b0 g rest:Nat} (h:g*b1+rest=T) (hg:g≤4294967295) (ht:g*b0≤rest*4294967296+a0)
  (hm:4294967295≤g∨T*4294967296+a0<(g+1)*(b1*4294967296+b0)):GuessOk T a0 b1 b0 g:=by
 refine⟨hg,?_,hm⟩
 rw[gl_id]
 omega
theorem lin_next {X Y Z T rest a0:Nat} (e:X=Y*4294967296+Z) (h:Y+rest=T) (hd:rest*4294967296+a0<Z):T*4294967296+a0<X:=by
 rw[e,←h,Nat.add_mul,Nat.add_assoc];exact Nat.add_lt_add_left hd _
theorem gl_next {T a0 b1 b0 g rest:Nat} (h:(g+1)*b1+rest=T) (hd:4294967295<g+1∨rest*4294967296+a0<(g+1)*b0) :
  g*b1+(rest+b1)=T∧(4294967295≤g∨T*4294967296+a0<(g+1)*(b1*4294967296+b0)):=by
 constructor
 ·rw[Nat.add_mul] at h;omega
 ·rcases hd with hd | hd
  ·exact Or.inl (Nat.le_of_lt_succ hd)
  ·exact Or.inr (lin_next (gl_id (g+1) b1 b0) h hd)
theorem gl_break {T a0 b1 b0 g rest:Nat} (h:g*b1+rest=T) (hr:4294967296≤rest) (hT:T≤b1*4294967296+b0) (hb0:b0<4294967296)
  (hm:4294967295≤g∨T*4294967296+a0<(g+1)*(b1*4294967296+b0)):GuessOk T a0 b1 b0 g:=by
 have hg:g≤4294967295:=by
  rcases Nat.lt_or_ge 4294967295 g with hl | hl
  ·have:=Nat.mul_le_mul_right b1 (show 4294967296≤g by omega)
   omega
  ·exact hl
 refine gl_stop h hg ?_ hm
 have:=mul_bd (x:=g) (y:=b0) (by omega) hb0
 omega
theorem gl_start {T b1 b0:Nat} (hT:T≤b1*4294967296+b0) (hb1:2147483648≤b1) (hb0:b0<4294967296):T / b1≤4294967297:=by
 have:T / b1<4294967298:=by
  rw[Nat.div_lt_iff_lt_mul (by omega)]
  omega
 exact Nat.le_of_lt_succ this
theorem gl_start_m (T a0 b1 b0:Nat) (hb1:0<b1) (ha0:a0<4294967296):T*4294967296+a0<(T / b1+1)*(b1*4294967296+b0):=by
 rw[gl_id];have h:=Nat.div_add_mod' T b1;have h2:=Nat.mod_lt T hb1;have h3:(T / b1+1)*b1=T / b1*b1+b1:=by rw[Nat.add_mul];omega
 rw[h3];have:=Nat.zero_le ((T / b1+1)*b0);generalize (T / b1+1)*b0=u at *;generalize T / b1*b1=v at *
 omega
theorem knuth {W D P a b g:Nat} (hP:0<P) (hW1:a*P≤W) (hW2:W<(a+1)*P) (hD1:b*P≤D) (hD2:D<(b+1)*P) (hn:4294967296*P≤D) (hWD:W<D*4294967296)
  (hg:g≤4294967295) (hg1:g*b≤a) (hg2:4294967295≤g∨a<(g+1)*b):g=W / D∨g=W / D+1:=by
 have hD0:0<D:=by omega
 have hq:W / D<4294967296:=by rw[Nat.div_lt_iff_lt_mul hD0,Nat.mul_comm];exact hWD
 have hq1:W / D*D≤W:=Nat.div_mul_le_self W D;have e1:W<(W / D+1)*D:=by
  have:=Nat.lt_div_mul_add (a:=W) (b:=D) hD0;rw[Nat.add_mul,Nat.one_mul];exact this
 generalize W / D=q at *
 -- the quotient is at most the guess
 have h1:q≤g:=by
  rcases hg2 with h | h
  ·omega
  ·rcases Nat.lt_or_ge g (q) with hl | hl
   ·exfalso
    have e1:(g+1)*(b*P)≤W:=Nat.le_trans (Nat.mul_le_mul hl hD1) hq1;rw[←Nat.mul_assoc] at e1;have e2:(a+1)*P≤(g+1)*b*P:=Nat.mul_le_mul_right P h
    omega
   ·exact hl
 -- and the guess at most one more
 have h2:g≤q+1:=by
  rcases Nat.lt_or_ge (q+1) g with hl | hl
  ·exfalso
   obtain⟨k,rfl⟩:∃ k,g=k+1:=⟨g-1,by omega⟩
   have e2:(q+1)*D≤k*D:=Nat.mul_le_mul_right D (by omega)
   have e3:(k+1)*b*P≤a*P:=Nat.mul_le_mul_right P hg1;have e4:(k+1)*D≤(k+1)*((b+1)*P):=Nat.mul_le_mul_left _ (by omega)
   have e5:(k+1)*((b+1)*P)=(k+1)*b*P+(k+1)*P:=by rw[←Nat.mul_assoc,Nat.mul_add,Nat.add_mul,Nat.mul_one]
   have e6:(k+1)*P≤4294967296*P:=Nat.mul_le_mul_right P (by omega)
   have e7:(k+1)*D=k*D+D:=by rw[Nat.add_mul];omega
   omega
  ·exact hl
 omega
theorem subp_step {zs zs' ys:List Nat} {o k cy cy' x y s t d c:Nat} (hk:o+k<zs'.length) (h:val zs'+4294967296^o*(x*val (ys.take k))=val zs+4294967296^(o+k)*cy)
  (hs:zs'.getD (o+k) 0=s) (hy:ys.getD k 0=y) (ht:cy+x*y=t) (hd:d+t%4294967296=s+4294967296*c) (hc:cy'=t / 4294967296+c) :
  val (zs'.set (o+k) d)+4294967296^o*(x*val (ys.take (k+1)))=val zs+4294967296^(o+(k+1))*cy':=by
 have e:=val_set zs' (o+k) d hk;rw[hs] at e;rw[show o+(k+1)=o+k+1 by omega,pow_mul_succ,val_take_succ_any,hy]
 have e4:4294967296^o*(x*(val (ys.take k)+4294967296^k*y))=4294967296^o*(x*val (ys.take k))+4294967296^(o+k)*(x*y):=by
  rw[Nat.mul_add,Nat.mul_add,Nat.pow_add]
  congr 1
  rw[Nat.mul_left_comm x,Nat.mul_assoc]
 rw[e4];have e5:d+(cy+x*y)=s+4294967296*cy':=by rw[ht,hc];omega
 have e6:4294967296^(o+k)*(d+(cy+x*y))=4294967296^(o+k)*(s+4294967296*cy'):=by rw[e5]
 rw[Nat.mul_add,Nat.mul_add,Nat.mul_add] at e6
 omega
theorem sub_carry {s t:Nat} (ht:t≤18446744069414584320) (hs:s<4294967296) :
  ∃ d c,d<4294967296∧d+t%4294967296=s+4294967296*c∧t / 4294967296+c<4294967296 ∧
   ((s<t%4294967296∧c=1∧d=s+4294967296-t%4294967296)∨(t%4294967296≤s∧c=0∧d=s-t%4294967296)):=by
 by_cases h:s<t%4294967296
 ·exact⟨s+4294967296-t%4294967296,1,by omega,by omega,by omega,.inl ⟨h,rfl,rfl⟩⟩
 ·exact⟨s-t%4294967296,0,by omega,by omega,by omega,.inr ⟨by omega,rfl,rfl⟩⟩
theorem drop_set_over (zs:List Nat) (k v:Nat):(zs.set k v).drop (k+1+1)=zs.drop (k+1+1):=by
 rw[List.drop_set_of_lt (by omega)]
theorem shl_low {x s lo wd:Nat} (hs:s<32) (hlo:lo<2^s) (hw:x*2^s=wd) :
  (lo ||| wd%4294967296)=lo+wd%4294967296∧lo+wd%4294967296<4294967296:=by
 have hB:=two_pow_32 hs;have e:wd%4294967296=2^s*(x%2^(32-s)):=by
  rw[←hw,←hB,Nat.mul_comm x,Nat.mul_mod_mul_left]
 have hu:x%2^(32-s)<2^(32-s):=Nat.mod_lt _ (Nat.pow_pos (by omega))
 rw[e]
 constructor
 ·have:=Nat.two_pow_add_eq_or_of_lt hlo (x%2^(32-s))
  rw[Nat.or_comm,←this,Nat.add_comm]
 ·have:=Nat.mul_le_mul_left (2^s) (show x%2^(32-s)+1≤2^(32-s) by omega)
  rw[hB,Nat.mul_add,Nat.mul_one] at this
  omega
theorem pow31 {s:Nat} (hs:s<32):2^s≤2147483648:=
 Nat.le_trans (Nat.pow_le_pow_right (by omega) (show s≤31 by omega)) (by decide)
theorem shl_bd {x s wd:Nat} (hs:s<32) (hx:x<4294967296) (hw:x*2^s=wd):wd≤9223372034707292160∧wd / 4294967296<2^s:=by
 have h:=pow31 hs
 constructor
 ·have:=Nat.mul_le_mul (show x≤4294967295 by omega) h
  omega
 ·rw[Nat.div_lt_iff_lt_mul (by omega),←hw,Nat.mul_comm]
  exact Nat.mul_lt_mul_of_pos_left hx (Nat.pow_pos (by omega))
theorem shl_step {zs xs:List Nat} {k lo x s wd:Nat} (hk:k+1<zs.length) (h:val (zs.take (k+1))=val (xs.take k)*2^s) (hlo:zs.getD k 0=lo) (hx:xs.getD k 0=x) (hw:x*2^s=wd) :
  val (((zs.set k (lo+wd%4294967296)).set (k+1) (wd / 4294967296)).take (k+1+1))=val (xs.take (k+1))*2^s:=by
 rw[take_set_succ _ _ _ (by rw[List.length_set];exact hk),take_set_succ _ _ _ (by omega),val_take_succ_any xs,hx,Nat.add_mul,←h,val_take_succ_any zs,hlo,Nat.mul_assoc,hw,pow_mul_succ]
 have e:wd%4294967296+4294967296*(wd / 4294967296)=wd:=Nat.mod_add_div _ _;have e2:4294967296^k*(wd%4294967296+4294967296*(wd / 4294967296))=4294967296^k*wd:=by rw[e]
 rw[Nat.mul_add] at e2;rw[Nat.mul_add]
 omega
def gq (T a0 b1 b0:Nat):Nat:=min 4294967295 ((T*4294967296+a0) / (b1*4294967296+b0))
theorem gq_of {T a0 b1 b0 g:Nat} (hb:0<b1) (h:GuessOk T a0 b1 b0 g):g=gq T a0 b1 b0:=by
 obtain⟨h1,h2,h3⟩:=h;unfold gq;have hB:0<b1*4294967296+b0:=by omega
 have h4:g≤(T*4294967296+a0) / (b1*4294967296+b0):=(Nat.le_div_iff_mul_le hB).2 h2
 rcases h3 with h3 | h3
 ·rw[Nat.min_eq_left (by omega)];omega
 ·have h5:(T*4294967296+a0) / (b1*4294967296+b0)<g+1:=(Nat.div_lt_iff_lt_mul hB).2 h3
  rw[Nat.min_eq_right (by omega)];omega
theorem gq_ok (T a0 b1 b0:Nat) (hb:0<b1):GuessOk T a0 b1 b0 (gq T a0 b1 b0):=by
 have hB:0<b1*4294967296+b0:=by omega
 have h1:(T*4294967296+a0) / (b1*4294967296+b0)*(b1*4294967296+b0)≤T*4294967296+a0:=Nat.div_mul_le_self _ _;have h2:T*4294967296+a0<((T*4294967296+a0) / (b1*4294967296+b0)+1)*(b1*4294967296+b0):=by
  rw[Nat.add_mul,Nat.one_mul];exact Nat.lt_div_mul_add hB
 unfold gq
 rcases Nat.le_total 4294967295 ((T*4294967296+a0) / (b1*4294967296+b0)) with h | h
 ·rw[Nat.min_eq_left h]
  exact⟨Nat.le_refl _,Nat.le_trans (Nat.mul_le_mul_right _ h) h1,.inl (Nat.le_refl _)⟩
 ·rw[Nat.min_eq_right h]
  exact⟨h,h1,.inr h2⟩
def win (zs:List Nat) (o m:Nat):Nat:=val ((zs.drop o).take m)
theorem val_win (zs:List Nat) (o m:Nat) (h:o+m≤zs.length):val zs=val (zs.take o)+4294967296^o*(win zs o m+4294967296^m*val (zs.drop (o+m))):=by
 rw[val_split zs o (by omega),val_split (zs.drop o) m (by rw[List.length_drop];omega),List.drop_drop]
 rfl
theorem win_eq {zs zs':List Nat} {o m a c:Nat} (h:o+m≤zs.length) (hl:zs'.length=zs.length) (ht:zs'.take o=zs.take o) (hd:zs'.drop (o+m)=zs.drop (o+m))
  (hv:val zs'+4294967296^o*a=val zs+4294967296^(o+m)*c):win zs' o m+a=win zs o m+4294967296^m*c:=by
 rw[val_win zs o m h,val_win zs' o m (by omega),ht,hd,Nat.pow_add,Nat.mul_assoc] at hv
 have hp:0<4294967296^o:=Nat.pow_pos (by omega)
 apply Nat.eq_of_mul_eq_mul_left hp
 rw[Nat.mul_add,Nat.mul_add];rw[Nat.mul_add,Nat.mul_add] at hv
 omega
theorem win_lt {zs:List Nat} (o m:Nat) (hs:Sm zs) (h:o+m≤zs.length):win zs o m<4294967296^m:=by
 have:=val_lt (sm_take (sm_drop hs o) m);rw[List.length_take,List.length_drop,Nat.min_eq_left (by omega)] at this
 exact this
theorem win_succ (zs:List Nat) (o m:Nat):win zs o (m+1)=win zs o m+4294967296^m*zs.getD (o+m) 0:=by
 unfold win;rw[val_take_succ_any]
 simp[List.getD,List.getElem?_drop]
theorem win_cons (zs:List Nat) (o m:Nat) (h:o<zs.length):win zs o (m+1)=zs.getD o 0+4294967296*win zs (o+1) m:=by
 unfold win;rw[drop_get h,List.take_succ_cons,val]
theorem ea_lem (a2 a1 a0:Nat):(a2*4294967296+a1)*4294967296+a0=a0+4294967296*(a1+4294967296*a2):=by
 rw[Nat.add_mul,Nat.mul_add];rw[Nat.mul_comm (a2*4294967296),Nat.mul_comm a2,Nat.mul_comm a1];rw[Nat.add_comm (4294967296*(4294967296*a2)),Nat.add_comm _ a0]
theorem window_guess {zs ys:List Nat} {o p a2 a1 a0 b1 b0:Nat} (hs:Sm zs) (hsy:Sm ys) (hl:o+(p+2)+1≤zs.length) (hy:ys.length=p+2)
  (h2:zs.getD (o+(p+2)) 0=a2) (h1:zs.getD (o+(p+1)) 0=a1) (h0:zs.getD (o+p) 0=a0) (e1:ys.getD (p+1) 0=b1) (e0:ys.getD p 0=b0)
  (hn:2147483648≤b1) (hW:win zs o (p+2+1)<val ys*4294967296) :
  a2*4294967296+a1≤b1*4294967296+b0 ∧
  (gq (a2*4294967296+a1) a0 b1 b0=win zs o (p+2+1) / val ys∨gq (a2*4294967296+a1) a0 b1 b0=win zs o (p+2+1) / val ys+1):=by
 have hp:0<4294967296^p:=Nat.pow_pos (by omega)
 have w0:=win_lt o p hs (by omega)
 have ew:win zs o (p+2+1)=win zs o p+4294967296^p*(a0+4294967296*(a1+4294967296*a2)):=by
  rw[win_succ,show o+(p+2)=o+(p+2) from rfl,h2,show p+2=p+1+1 from rfl,win_succ,show o+(p+1)=o+(p+1) from rfl,h1,win_succ,h0,pow_mul_succ,pow_mul_succ,pow_mul_succ,Nat.mul_add,Nat.mul_add,Nat.mul_add]
  omega
 have v0:=val_lt (sm_take hsy p);rw[List.length_take,Nat.min_eq_left (by omega)] at v0
 have ey:val ys=val (ys.take p)+4294967296^p*(b0+4294967296*b1):=by
  have t1:=val_take_succ_any ys (p+1);have t0:=val_take_succ_any ys p;rw[List.take_of_length_le (by omega),t0,e1,e0,pow_mul_succ] at t1
  rw[t1,Nat.mul_add];omega
 generalize 4294967296^p=P at *;generalize val ys=D at *;generalize win zs o (p+2+1)=W at *;have hA:P*(a0+4294967296*(a1+4294967296*a2))≤W:=by omega
 have hA2:W<P*(a0+4294967296*(a1+4294967296*a2)+1):=by rw[Nat.mul_add P _ 1];omega
 have hD:P*(b0+4294967296*b1)≤D:=by omega
 have hD2:D<P*(b0+4294967296*b1+1):=by rw[Nat.mul_add P _ 1];omega
 have hT:a2*4294967296+a1≤b1*4294967296+b0:=by
  rcases Nat.lt_or_ge (b1*4294967296+b0) (a2*4294967296+a1) with hl | hl
  ·exfalso
   have:=Nat.mul_le_mul_left (P*4294967296) (show b0+4294967296*b1+1≤a1+4294967296*a2 by omega)
   have e2:P*4294967296*(b0+4294967296*b1+1)=P*(b0+4294967296*b1+1)*4294967296:=Nat.mul_right_comm _ _ _;have e3:P*4294967296*(a1+4294967296*a2)=P*(4294967296*(a1+4294967296*a2)):=Nat.mul_assoc _ _ _;have e4:P*(a0+4294967296*(a1+4294967296*a2))=P*a0+P*(4294967296*(a1+4294967296*a2)):=Nat.mul_add _ _ _
   omega
  ·exact hl
 refine⟨hT,?_⟩
 obtain⟨g1,g2,g3⟩:=gq_ok (a2*4294967296+a1) a0 b1 b0 (by omega)
 have ea:=ea_lem a2 a1 a0;have eb:b1*4294967296+b0=b0+4294967296*b1:=by rw[Nat.mul_comm b1,Nat.add_comm]
 rw[ea,eb] at g2 g3;refine knuth hp (by rw[Nat.mul_comm];exact hA) (by rw[Nat.mul_comm];exact hA2) (by rw[Nat.mul_comm];exact hD) (by rw[Nat.mul_comm];exact hD2) ?_ hW g1 g2 g3
 have:=Nat.mul_le_mul_left P (show 4294967296≤b0+4294967296*b1 by clear ea eb g1 g2 g3 hT hA hA2;omega)
 rw[Nat.mul_comm];exact Nat.le_trans this hD
theorem step_right {W D m t M M' cy:Nat} (hW:W=M+4294967296^m*t) (hD0:0<D) (hD:D≤4294967296^m) (hM:M'<4294967296^m) (h:M'+W / D*D=M+4294967296^m*cy):cy=t∧M'=W%D:=by
 have e:=Nat.div_add_mod' W D;have hr:=Nat.mod_lt W hD0;generalize W / D*D=u at *;generalize W%D=r at *;have h2:M'+4294967296^m*t=r+4294967296^m*cy:=by omega
 have hc:cy=t:=by
  rcases Nat.lt_trichotomy cy t with hl | hl | hl
  ·have:=Nat.mul_le_mul_left (4294967296^m) (show cy+1≤t by omega)
   rw[Nat.mul_add] at this;omega
  ·exact hl
  ·have:=Nat.mul_le_mul_left (4294967296^m) (show t+1≤cy by omega)
   rw[Nat.mul_add] at this;omega
 subst hc;exact⟨rfl,by omega⟩
theorem step_over {W D m t M M' M2 cy cy2:Nat} (hW:W=M+4294967296^m*t) (hD0:0<D) (hD:D≤4294967296^m) (hM:M'<4294967296^m) (hM2:M2<4294967296^m) (h:M'+(W / D+1)*D=M+4294967296^m*cy) :
  t<cy∧(M2+4294967296^m*cy2=M'+1*D→M2=W%D):=by
 have e:=Nat.div_add_mod' W D;have hr:=Nat.mod_lt W hD0;rw[Nat.add_mul,Nat.one_mul] at h;generalize W / D*D=u at *;generalize W%D=r at *;have h2:M'+D+4294967296^m*t=r+4294967296^m*cy:=by omega
 have hc:cy=t+1:=by
  rcases Nat.lt_trichotomy cy (t+1) with hl | hl | hl
  ·have:=Nat.mul_le_mul_left (4294967296^m) (show cy≤t by omega)
   omega
  ·exact hl
  ·have:=Nat.mul_le_mul_left (4294967296^m) (show t+1+1≤cy by omega)
   rw[Nat.mul_add,Nat.mul_add] at this;omega
 subst hc;rw[Nat.mul_add] at h2;refine⟨by omega,fun h3=>?_⟩
 have h4:M2+4294967296^m*cy2=r+4294967296^m:=by omega
 have hc2:cy2=1:=by
  rcases Nat.lt_trichotomy cy2 1 with hl | hl | hl
  ·obtain rfl:cy2=0:=by omega
   omega
  ·exact hl
  ·have:=Nat.mul_le_mul_left (4294967296^m) (show 2≤cy2 by omega)
   omega
 subst hc2
 omega
theorem divmod_of' {x y q r:Nat} (h:q*y+r=x) (hr:r<y):x / y=q∧x%y=r:=by
 constructor
 ·rw[←h,Nat.mul_comm,Nat.mul_add_div (by omega),Nat.div_eq_of_lt hr,Nat.add_zero]
 ·rw[←h,Nat.mul_comm,Nat.mul_add_mod,Nat.mod_eq_of_lt hr]
theorem shifted_div {N D s Q R:Nat} (h:N*2^s=Q*(D*2^s)+R) (hR:R<D*2^s):Q=N / D∧R / 2^s=N%D:=by
 have hp:0<2^s:=Nat.pow_pos (by omega)
 generalize 2^s=P at *;have e:N*P=(Q*D)*P+R:=by rw[h,Nat.mul_assoc]
 have h1:Q*D≤N:=by
  rcases Nat.lt_or_ge N (Q*D) with hl | hl
  ·have:=Nat.mul_lt_mul_of_pos_right hl hp;omega
  ·exact hl
 obtain⟨r,hr⟩:∃ r,N=Q*D+r:=⟨N-Q*D,by omega⟩
 have e2:R=r*P:=by rw[hr,Nat.add_mul] at e;omega
 have hrD:r<D:=by
  rw[e2] at hR;exact Nat.lt_of_mul_lt_mul_right hR
 have e3:R / P=r:=by rw[e2,Nat.mul_div_cancel _ hp]
 obtain⟨a,b⟩:=divmod_of' (x:=N) (y:=D) (q:=Q) (r:=r) hr.symm hrD;exact⟨a.symm,by rw[e3,b]⟩
theorem norm_top {ys ds:List Nat} {m l bl s:Nat} (hy:ys.length=m+1) (hs:Sm ys) (hl:ys.getD m 0=l) (hl1:l<2^bl) (hl2:2^bl≤2*l) (hbl:s+bl=32) (hd:ds.length=m+1+1) (hds:Sm ds) (hv:val ds=val ys*2^s) :
  val (ds.take (m+1))=val ys*2^s∧2147483648≤ds.getD m 0∧val ys*2^s<4294967296^(m+1)∧2147483648*4294967296^m≤val ys*2^s:=by
 have ey:=val_take_succ_any ys m;rw[List.take_of_length_le (by omega),hl] at ey
 have y0:=val_lt (sm_take hs m);rw[List.length_take,Nat.min_eq_left (by omega)] at y0
 have hP:0<4294967296^m:=Nat.pow_pos (by omega)
 have h32:2^bl*2^s=4294967296:=by rw[←Nat.pow_add,show bl+s=32 by omega]
 have hps:0<2^s:=Nat.pow_pos (by omega)
 have hup:val ys*2^s<4294967296^(m+1):=by
  have h1:val ys<4294967296^m*2^bl:=by
   have:=Nat.mul_le_mul_left (4294967296^m) (show l+1≤2^bl by omega)
   rw[Nat.mul_add,Nat.mul_one] at this
   omega
  have h2:=Nat.mul_lt_mul_of_pos_right h1 hps;rw[Nat.mul_assoc,h32] at h2;rw[Nat.pow_succ];exact h2
 have hlo:2147483648*4294967296^m≤val ys*2^s:=by
  have h1:4294967296^m*l≤val ys:=by omega
  have h2:=Nat.mul_le_mul_right (2^s) h1;have h3:4294967296≤2*(l*2^s):=by
   have:=Nat.mul_le_mul_right (2^s) hl2;rw[h32,Nat.mul_assoc] at this;exact this
  have h4:=Nat.mul_le_mul_left (4294967296^m) (show 2147483648≤l*2^s by omega)
  rw[←Nat.mul_assoc] at h4;rw[Nat.mul_comm]
  omega
 have et:=val_take_succ_any ds (m+1);rw[List.take_of_length_le (by omega),hv] at et
 have hz:ds.getD (m+1) 0=0:=by
  rcases Nat.eq_zero_or_pos (ds.getD (m+1) 0) with h | h
  ·exact h
  ·have:=Nat.mul_le_mul_left (4294967296^(m+1)) h
   omega
 rw[hz,Nat.mul_zero,Nat.add_zero] at et;refine⟨et.symm,?_,hup,hlo⟩
 have e2:=val_take_succ_any ds m;have d0:=val_lt (sm_take hds m);rw[List.length_take,Nat.min_eq_left (by omega)] at d0
 rw[←et] at e2
 rcases Nat.lt_or_ge (ds.getD m 0) 2147483648 with h | h
 ·have:=Nat.mul_le_mul_left (4294967296^m) (show ds.getD m 0+1≤2147483648 by omega)
  rw[Nat.mul_add,Nat.mul_one,Nat.mul_comm _ 2147483648] at this
  omega
 ·exact h
theorem first_window {zs xs:List Nat} {m K s D:Nat} (hz:zs.length=m+1+K+1) (hx:xs.length=m+1+K) (hs:Sm xs) (hs31:s<32) (hv:val zs=val xs*2^s) (hD:2147483648*4294967296^m≤D) :
  win zs (K+1) (m+1)<D∧val (zs.drop (K+1))=win zs (K+1) (m+1):=by
 have e:val (zs.drop (K+1))=win zs (K+1) (m+1):=by
  unfold win;rw[List.take_of_length_le (by rw[List.length_drop];omega)]
 refine⟨?_,e⟩
 rw[←e];have h1:=val_split zs (K+1) (by omega)
 have hxl:=val_lt hs;rw[hx] at hxl;have h2:val zs<4294967296^(m+1+K)*2147483648:=by
  rw[hv];exact Nat.lt_of_lt_of_le (Nat.mul_lt_mul_of_pos_right hxl (Nat.pow_pos (by omega))) (Nat.mul_le_mul_left _ (pow31 hs31))
 rw[show m+1+K=(K+1)+m by omega,Nat.pow_add,Nat.mul_assoc] at h2
 have h3:4294967296^(K+1)*val (zs.drop (K+1))<4294967296^(K+1)*(4294967296^m*2147483648):=by omega
 have h4:=Nat.lt_of_mul_lt_mul_left h3;rw[Nat.mul_comm] at h4
 omega
theorem long_step {zs zs' zs2 qs:List Nat} {i m D:Nat} (hi:i<zs.length) (hi':i<zs'.length) (hq:i<qs.length) (hz:zs'.getD i 0=zs.getD i 0) (hR:win zs' (i+1) m<D) (hinv:val (zs.drop (i+1))=val (qs.drop (i+1))*D+win zs' (i+1) m) (hs:zs.getD i 0<4294967296) :
  win zs' i (m+1)<D*4294967296∧(win zs2 i m=win zs' i (m+1)%D →
   val (zs.drop i)=val ((qs.set i (win zs' i (m+1) / D)).drop i)*D+win zs2 i m∧win zs2 i m<D):=by
 have hw:=win_cons zs' i m hi';rw[hz] at hw;have hlt:win zs' i (m+1)<D*4294967296:=by
  have:=Nat.mul_le_mul_right 4294967296 (show win zs' (i+1) m+1≤D by omega)
  omega
 refine⟨hlt,fun h2=>?_⟩
 have hD:0<D:=by omega
 rw[h2];refine⟨?_,Nat.mod_lt _ hD⟩
 have e:=Nat.div_add_mod' (win zs' i (m+1)) D;rw[drop_set_self hq,drop_get hi,val,val,hinv,Nat.add_mul,Nat.mul_add,←Nat.mul_assoc]
 omega
theorem limb_at (X:List Nat) (j:Nat) (hs:Sm X):X.getD j 0=val X / 4294967296^j%4294967296:=by
 by_cases hj:j<X.length
 ·have h1:=val_split X j (by omega)
  have h2:=val_lt (sm_take hs j);rw[List.length_take,Nat.min_eq_left (by omega)] at h2
  have hp:0<4294967296^j:=Nat.pow_pos (by omega)
  rw[h1,Nat.add_mul_div_left _ _ hp,Nat.div_eq_of_lt h2,Nat.zero_add,drop_get hj,val];have:=sm_get hs j
  omega
 ·rw[getD_none (by omega)]
  have h2:=val_lt hs;have h3:4294967296^X.length≤4294967296^j:=Nat.pow_le_pow_right (by omega) (by omega)
  rw[Nat.div_eq_of_lt (by omega)]
theorem bit_at (X:List Nat) (i:Nat) (hs:Sm X):X.getD (i / 32) 0 / 2^(i%32)%2=val X / 2^i%2:=by
 have hr:i%32<32:=Nat.mod_lt _ (by omega)
 rw[limb_at X (i / 32) hs];have hB:=two_pow_32 hr;generalize hv:val X / 4294967296^(i / 32)=v;rw[←hB,Nat.mod_mul_right_div_self];have hd:2∣2^(32-i%32):=by
  refine⟨2^(31-i%32),?_⟩
  rw[show 32-i%32=31-i%32+1 by omega,Nat.pow_succ,Nat.mul_comm]
 rw[Nat.mod_mod_of_dvd _ hd,←hv,Nat.div_div_eq_div_mul,pow_split]
theorem half_step {x k:Nat}:x / 2^k=2*(x / 2^(k+1))+x / 2^k%2:=by
 rw[Nat.pow_succ,←Nat.div_div_eq_div_mul]
 omega
theorem bitdiv_step {h b y q r:Nat} (hr:r<y) (hq:h / y=q) (hm:h%y=r) (hb:b<2) :
  (y≤2*r+b→(2*h+b) / y=2*q+1∧(2*h+b)%y=2*r+b-y)∧(2*r+b<y→(2*h+b) / y=2*q∧(2*h+b)%y=2*r+b):=by
 have e:=Nat.div_add_mod' h y;rw[hq,hm] at e;have e2:2*h+b=2*q*y+(2*r+b):=by rw[←e,Nat.mul_assoc];omega
 constructor
 ·intro hge
  refine divmod_of' (q:=2*q+1) (r:=2*r+b-y) ?_ (by omega)
  rw[e2,Nat.add_mul,Nat.one_mul];omega
 ·intro hlt
  exact divmod_of' e2.symm hlt
theorem gcd_step (v w:Nat):Nat.gcd w (v%w)=Nat.gcd v w:=by
 rw[Nat.gcd_comm,←Nat.gcd_rec,Nat.gcd_comm]
theorem diff_step {zs X Y:List Nat} {k p q plus minus br br' x y P M d:Nat} (hk:k<zs.length) (h:val (zs.take k)+q*val (Y.take k)+4294967296^k*plus=p*val (X.take k)+4294967296^k*(minus+br))
  (hx:X.getD k 0=x) (hy:Y.getD k 0=y) (hP:P=plus+p*x) (hM:M=minus+q*y) (hd:d+M%4294967296+br=P%4294967296+4294967296*br') :
  val ((zs.set k d).take (k+1))+q*val (Y.take (k+1))+4294967296^(k+1)*(P / 4294967296)=p*val (X.take (k+1))+4294967296^(k+1)*(M / 4294967296+br'):=by
 rw[take_set_succ _ _ _ hk,val_take_succ_any X,val_take_succ_any Y,hx,hy,pow_mul_succ,pow_mul_succ];have e1:q*(val (Y.take k)+4294967296^k*y)=q*val (Y.take k)+4294967296^k*(q*y):=by rw[Nat.mul_add,Nat.mul_left_comm]
 have e2:p*(val (X.take k)+4294967296^k*x)=p*val (X.take k)+4294967296^k*(p*x):=by rw[Nat.mul_add,Nat.mul_left_comm]
 rw[e1,e2];have e3:d+q*y+4294967296*(P / 4294967296)+(minus+br)=p*x+4294967296*(M / 4294967296+br')+plus:=by omega
 have e4:4294967296^k*(d+q*y+4294967296*(P / 4294967296)+(minus+br))=4294967296^k*(p*x+4294967296*(M / 4294967296+br')+plus):=by rw[e3]
 simp only[Nat.mul_add] at e4 h ⊢
 omega
theorem diff_last {zs X Y:List Nat} {n p q x y plus minus br:Nat} (hl:zs.length=n) (hs:Sm zs) (hX:X.length≤n) (hY:Y.length≤n) (hx:val X=x) (hy:val Y=y)
  (h:val (zs.take n)+q*val (Y.take n)+4294967296^n*plus=p*val (X.take n)+4294967296^n*(minus+br)) (hle:q*y≤p*x) (hlt:p*x-q*y<4294967296^n):val zs=p*x-q*y:=by
 rw[List.take_of_length_le (by omega),List.take_of_length_le hX,List.take_of_length_le hY,hx,hy] at h
 have hz:=val_lt hs;rw[hl] at hz;obtain⟨D,hD⟩:∃ D,p*x=q*y+D:=⟨p*x-q*y,by omega⟩
 rw[hD] at h hlt ⊢;rw[Nat.add_sub_cancel_left] at hlt ⊢;have h2:val zs+4294967296^n*plus=D+4294967296^n*(minus+br):=by omega
 have hc:plus=minus+br:=by
  rcases Nat.lt_trichotomy plus (minus+br) with hl | hl | hl
  ·have:=Nat.mul_le_mul_left (4294967296^n) (show plus+1≤minus+br by omega)
   rw[Nat.mul_add,Nat.mul_one] at this;omega
  ·exact hl
  ·have:=Nat.mul_le_mul_left (4294967296^n) (show minus+br+1≤plus by omega)
   rw[Nat.mul_add (4294967296^n) (minus+br),Nat.mul_one] at this;omega
 rw[hc] at h2
 omega
theorem diff_limb {P M br:Nat} (hbr:br≤1) :
  ∃ d b':Nat,d<4294967296∧b'≤1∧d+M%4294967296+br=P%4294967296+4294967296*b' ∧
   (((P:Int)%4294967296-(M:Int)%4294967296)%18446744073709551616-br)%18446744073709551616 / 9223372036854775808=(b':Int) ∧
   (((P:Int)%4294967296-(M:Int)%4294967296)%18446744073709551616-br)%18446744073709551616%4294967296=(d:Int):=by
 by_cases h:M%4294967296+br≤P%4294967296
 ·exact⟨P%4294967296-M%4294967296-br,0,by omega,by omega,by omega,by omega,by omega⟩
 ·exact⟨P%4294967296+4294967296-M%4294967296-br,1,by omega,by omega,by omega,by omega,by omega⟩
theorem top3 {x m a1 a2 a3:Nat} (hx:x<4294967296^(m+3)) (h1:(limbs x).getD m 0=a1) (h2:(limbs x).getD (m+1) 0=a2) (h3:(limbs x).getD (m+2) 0=a3) :
  x / 4294967296^m=(a3*4294967296+a2)*4294967296+a1:=by
 rw[limb_at _ _ (sm_limbs x),val_limbs] at h1 h2 h3;rw[Nat.pow_add,Nat.pow_one,←Nat.div_div_eq_div_mul] at h2;rw[show m+2=m+1+1 from rfl,Nat.pow_succ,Nat.pow_succ,←Nat.div_div_eq_div_mul,←Nat.div_div_eq_div_mul] at h3
 have hV:x / 4294967296^m<79228162514264337593543950336:=by
  rw[Nat.div_lt_iff_lt_mul (Nat.pow_pos (by omega)),Nat.mul_comm]
  rw[Nat.pow_add] at hx;exact hx
 generalize x / 4294967296^m=V at *
 omega
theorem high_math {V hi a1 s:Nat} (hs:s<32) (hV:V=hi*4294967296+a1) (ha:a1<4294967296) (hb:V*2^s<79228162514264337593543950336) :
  hi*2^s<18446744073709551616∧a1 / 2^(32-s)<2^s∧(hi*2^s ||| a1 / 2^(32-s))=V / 2^(32-s):=by
 have hB:2^(32-s)*2^s=4294967296:=by rw[Nat.mul_comm];exact two_pow_32 hs
 have hp:0<2^(32-s):=Nat.pow_pos (by omega)
 have h1:hi*2^s<18446744073709551616:=by
  have e:hi*4294967296*2^s≤V*2^s:=Nat.mul_le_mul_right _ (by omega)
  rw[Nat.mul_right_comm] at e
  omega
 have h2:a1 / 2^(32-s)<2^s:=by
  rw[Nat.div_lt_iff_lt_mul hp,Nat.mul_comm,hB];exact ha
 refine⟨h1,h2,?_⟩
 have e1:V / 2^(32-s)=hi*2^s+a1 / 2^(32-s):=by
  rw[hV,←hB,←Nat.mul_assoc,Nat.mul_comm hi,Nat.mul_assoc,Nat.mul_add_div hp]
 rw[e1];have:=Nat.two_pow_add_eq_or_of_lt h2 hi;rw[Nat.mul_comm] at this;exact this.symm
end Go.Proofs.YthlinhconnmbcaaGreat
