/- Rational numbers as they are kept: numerator and denominator in lowest terms; what the program's short ways compute. -/
namespace Go.Proofs.YtdeedofmflelfaaGreatDoor.RQ
theorem rat_of {q:Rat} {n:Int} {d:Nat} (hd:0<d) (hc:n.natAbs.gcd d=1) (h:n*q.den=q.num*d):q.num=n∧q.den=d:=by
 have e:q=⟨n,d,by omega,hc⟩:=by
  rw[Rat.eq_iff_mul_eq_mul];exact h.symm
 rw[e];exact⟨rfl,rfl⟩
theorem divInt_pos (n:Int) {d:Int} (hd:0<d):(Rat.divInt n d).num=n / (Int.gcd n d:Int)∧((Rat.divInt n d).den:Int)=d / (Int.gcd n d:Int):=by
 constructor
 ·rw[Rat.num_divInt,Int.sign_eq_one_of_pos hd,Int.one_mul,Int.gcd_comm]
 ·rw[Rat.den_divInt,if_neg (by omega),Int.gcd_comm d n]
  have:(d.natAbs:Int)=d:=by omega
  rw[Int.natCast_ediv,this]
theorem den_pos' (q:Rat):(0:Int)<q.den:=by have:=q.den_pos;omega
theorem over_one (z:Int):Rat.divInt z 1=(z:Rat):=by
 have:=Rat.num_divInt_den (z:Rat);simpa using this
/-- The program's product. -/
theorem prod_eq (x y:Rat) (f s:Nat) (hf:f=Int.gcd x.num y.den) (hs:s=Int.gcd y.num x.den) :
  (x*y).num=x.num / f*(y.num / s)∧((x*y).den:Int)=((x.den:Int) / s)*((y.den:Int) / f)∧0<f∧0<s:=by
 have fp:0<f:=by rw[hf];exact Nat.gcd_pos_of_pos_right _ y.den_pos
 have sp:0<s:=by rw[hs];exact Nat.gcd_pos_of_pos_right _ x.den_pos
 have f1:(f:Int)∣x.num:=by rw[hf];exact Int.gcd_dvd_left ..
 have f2:f∣y.den:=by rw[hf];exact Nat.gcd_dvd_right _ _
 have s1:(s:Int)∣y.num:=by rw[hs];exact Int.gcd_dvd_left ..
 have s2:s∣x.den:=by rw[hs];exact Nat.gcd_dvd_right _ _
 obtain⟨a,ha⟩:=f1
 obtain⟨d,hd⟩:=f2
 obtain⟨c,hc⟩:=s1
 obtain⟨b,hb⟩:=s2
 have e1:x.num / (f:Int)=a:=by rw[ha];exact Int.mul_ediv_cancel_left _ (by omega)
 have e2:y.num / (s:Int)=c:=by rw[hc];exact Int.mul_ediv_cancel_left _ (by omega)
 have e3:(x.den:Int) / (s:Int)=b:=by rw[hb,Int.natCast_mul];exact Int.mul_ediv_cancel_left _ (by omega)
 have e4:(y.den:Int) / (f:Int)=d:=by rw[hd,Int.natCast_mul];exact Int.mul_ediv_cancel_left _ (by omega)
 have b0:0<b:=by rcases Nat.eq_zero_or_pos b with h | h;(rw[h,Nat.mul_zero] at hb;have:=x.den_pos;omega);exact h
 have d0:0<d:=by rcases Nat.eq_zero_or_pos d with h | h;(rw[h,Nat.mul_zero] at hd;have:=y.den_pos;omega);exact h
 -- coprime facts
 have c1:a.natAbs.gcd d=1:=by
  have h:f=(x.num.natAbs).gcd y.den:=by rw[hf];rfl
  rw[ha,hd,Int.natAbs_mul,Int.natAbs_natCast,Nat.gcd_mul_left] at h
  have:f*(a.natAbs.gcd d)=f*1:=by rw[Nat.mul_one];exact h.symm
  exact Nat.eq_of_mul_eq_mul_left fp this
 have c2:c.natAbs.gcd b=1:=by
  have h:s=(y.num.natAbs).gcd x.den:=by rw[hs];rfl
  rw[hc,hb,Int.natAbs_mul,Int.natAbs_natCast,Nat.gcd_mul_left] at h
  have:s*(c.natAbs.gcd b)=s*1:=by rw[Nat.mul_one];exact h.symm
  exact Nat.eq_of_mul_eq_mul_left sp this
 have c3:a.natAbs.gcd b=1:=by
  have h:Nat.Coprime x.num.natAbs x.den:=x.reduced
  rw[ha,hb,Int.natAbs_mul] at h
  exact Nat.Coprime.coprime_mul_left (Nat.Coprime.coprime_mul_left_right h)
 have c4:c.natAbs.gcd d=1:=by
  have h:Nat.Coprime y.num.natAbs y.den:=y.reduced
  rw[hc,hd,Int.natAbs_mul] at h
  exact Nat.Coprime.coprime_mul_left (Nat.Coprime.coprime_mul_left_right h)
 have key:=rat_of (q:=x*y) (n:=a*c) (d:=b*d) (Nat.mul_pos b0 d0) (by
   rw[Int.natAbs_mul]
   exact Nat.Coprime.mul_left (Nat.Coprime.mul_right c3 c1) (Nat.Coprime.mul_right c2 c4)) (by
   have e:x*y=Rat.divInt (a*c) ((b*d:Nat):Int):=by
    have h5:x*y=Rat.divInt (x.num*y.num) ((x.den*y.den:Nat):Int):=by
     rw[Rat.mul_def',Rat.divInt_ofNat]
    rw[h5,Rat.divInt_eq_divInt_iff (by have:=Nat.mul_pos x.den_pos y.den_pos;omega) (by have:=Nat.mul_pos b0 d0;omega)]
    have hx:(x.den:Int)=s*b:=by rw[hb];simp
    have hy:(y.den:Int)=f*d:=by rw[hd];simp
    rw[Int.natCast_mul,Int.natCast_mul,hx,hy]
    generalize x.num=X at *
    generalize y.num=Y at *
    subst ha hc
    simp only[Int.mul_assoc,Int.mul_left_comm,Int.mul_comm]
   have h6:=Rat.num_divInt_den (x*y)
   rw[←h6,Rat.divInt_eq_divInt_iff (by have:=(x*y).den_pos;omega) (by have:=Nat.mul_pos b0 d0;omega)] at e
   exact e.symm)
 exact⟨by rw[key.1,e1,e2],by rw[key.2,e3,e4,Int.natCast_mul],fp,sp⟩
/-- Sizes. -/
theorem natAbs_ediv_le (n:Int) (g:Nat):(n / (g:Int)).natAbs≤n.natAbs:=by
 rcases Nat.eq_zero_or_pos g with h | h
 ·subst h;simp
 ·exact Int.natAbs_ediv_le_natAbs _ _
theorem num_divInt_le (n:Int) {d:Int} (hd:0<d):(Rat.divInt n d).num.natAbs≤n.natAbs:=by
 rw[(divInt_pos n hd).1];exact natAbs_ediv_le _ _
theorem den_divInt_le (n:Int) {d:Int} (hd:0<d):((Rat.divInt n d).den:Int)≤d:=by
 rw[(divInt_pos n hd).2]
 exact Int.ediv_le_self _ (by omega)
/-- Numerator and denominator have at most p limbs. -/
structure Rs (q:Rat) (p:Nat):Prop where
 n:q.num.natAbs<4294967296^p
 d:q.den<4294967296^p
theorem pow_mono {p k:Nat} (h:p≤k):4294967296^p≤4294967296^k:=Nat.pow_le_pow_right (by decide) h
theorem Rs.mono {q:Rat} {p k:Nat} (h:Rs q p) (hk:p≤k):Rs q k:=⟨Nat.lt_of_lt_of_le h.n (pow_mono hk),Nat.lt_of_lt_of_le h.d (pow_mono hk)⟩
theorem Rs.neg {q:Rat} {p:Nat} (h:Rs q p):Rs (-q) p:=⟨by rw[Rat.neg_num,Int.natAbs_neg];exact h.n,h.d⟩
theorem Rs.int {z:Int} {p:Nat} (h:z.natAbs<4294967296^p) (hp:1≤p):Rs (z:Rat) p:=⟨h,by
 have:=pow_mono hp;show 1<_;omega⟩
theorem Rs.divInt {n d:Int} {p:Nat} (hd:0<d) (h1:n.natAbs<4294967296^p) (h2:d.natAbs<4294967296^p):Rs (Rat.divInt n d) p:=by
 have a:=num_divInt_le n hd
 have b:=den_divInt_le n hd
 exact⟨by omega,by omega⟩
theorem mul_lt {a b A B:Nat} (h1:a<A) (h2:b<B):a*b<A*B:=Nat.mul_lt_mul_of_lt_of_le h1 (Nat.le_of_lt h2) (by omega)
theorem Rs.mul {x y:Rat} {p k:Nat} (h1:Rs x p) (h2:Rs y k):Rs (x*y) (p+k):=by
 have e:x*y=Rat.divInt (x.num*y.num) ((x.den*y.den:Nat):Int):=by rw[Rat.mul_def',Rat.divInt_ofNat]
 rw[e]
 refine Rs.divInt (by have:=Nat.mul_pos x.den_pos y.den_pos;omega) ?_ ?_
 ·rw[Int.natAbs_mul,Nat.pow_add];exact mul_lt h1.n h2.n
 ·rw[Int.natAbs_natCast,Nat.pow_add];exact mul_lt h1.d h2.d
theorem Rs.add {x y:Rat} {p k:Nat} (h1:Rs x p) (h2:Rs y k):Rs (x+y) (p+k+1):=by
 have e:x+y=Rat.divInt (x.num*y.den+y.num*x.den) ((x.den*y.den:Nat):Int):=by rw[Rat.add_def',Rat.divInt_ofNat]
 rw[e]
 have a:=mul_lt h1.n h2.d
 have b:=mul_lt h2.n h1.d
 have c:=mul_lt h1.d h2.d
 rw[←Nat.pow_add] at a b c
 rw[Nat.add_comm k p] at b
 refine Rs.divInt (by have:=Nat.mul_pos x.den_pos y.den_pos;omega) ?_ ?_
 ·have t:=Int.natAbs_add_le (x.num*y.den) (y.num*x.den)
  rw[Int.natAbs_mul,Int.natAbs_mul,Int.natAbs_natCast,Int.natAbs_natCast] at t
  rw[Nat.pow_succ]
  omega
 ·rw[Int.natAbs_natCast]
  exact Nat.lt_of_lt_of_le c (pow_mono (by omega))
theorem Rs.sub {x y:Rat} {p k:Nat} (h1:Rs x p) (h2:Rs y k):Rs (x-y) (p+k+1):=by
 rw[Rat.sub_eq_add_neg];exact h1.add h2.neg
theorem Rs.inv {q:Rat} {p:Nat} (h:Rs q p) (hp:1≤p):Rs q⁻¹ p:=by
 have:=pow_mono hp
 refine⟨?_,?_⟩
 ·rw[Rat.num_inv,Int.natAbs_mul,Int.natAbs_natCast]
  have:q.num.sign.natAbs≤1:=by rw[Int.natAbs_sign];split<;>omega
  have h3:=Nat.mul_le_mul_right q.den this
  have:=h.d
  omega
 ·rw[Rat.den_inv];split;omega;exact h.n
theorem quo_eq (x y:Rat):Rat.divInt (x.num*y.den) (x.den*y.num)=x / y:=by
 rw[Rat.div_def,←Rat.num_divInt_den x,←Rat.num_divInt_den y,Rat.inv_divInt,Rat.divInt_mul_divInt]
 rw[Rat.num_divInt_den x,Rat.num_divInt_den y]
theorem mul_eq (x y:Rat):x*y=Rat.divInt (x.num*y.num) ((x.den:Int)*(y.den:Int)):=by
 rw[Rat.mul_def',←Rat.divInt_ofNat,Int.natCast_mul]
theorem den_mul_pos (x y:Rat):(0:Int)<(x.den:Int)*y.den:=Int.mul_pos (den_pos' x) (den_pos' y)
end Go.Proofs.YtdeedofmflelfaaGreatDoor.RQ
