/- Rational numbers as they are kept: numerator and denominator in lowest terms; what the program's short ways compute. -/
namespace Go.Proofs.YthlnhmdpimoojaaGreatDoor.RQ
theorem divInt_pos (n:Int) {d:Int} (hd:0<d):(Rat.divInt n d).num=n / (Int.gcd n d:Int)∧((Rat.divInt n d).den:Int)=d / (Int.gcd n d:Int):=by
 constructor
 ·rw[Rat.num_divInt,Int.sign_eq_one_of_pos hd,Int.one_mul,Int.gcd_comm]
 ·rw[Rat.den_divInt,if_neg (by omega),Int.gcd_comm d n]
  have:(d.natAbs:Int)=d:=by omega
  rw[Int.natCast_ediv,this]
theorem den_pos' (q:Rat):(0:Int)<q.den:=by have:=q.den_pos;omega
theorem over_eq (q:Rat):Rat.divInt q.num q.den=q:=Rat.num_divInt_den q
/-- How two numbers compare. -/
def cmpq (x y:Rat):Int:=(x.num*y.den-y.num*x.den).sign
theorem cmpq_neg {x y:Rat}:cmpq x y<0↔x<y:=by
 unfold cmpq;rw[Rat.lt_iff,Int.sign_neg_iff];omega
theorem cmpq_zero {x y:Rat}:cmpq x y=0↔x=y:=by
 unfold cmpq;rw[Rat.eq_iff_mul_eq_mul,Int.sign_eq_zero_iff_zero];omega
theorem cmpq_pos {x y:Rat}:0<cmpq x y↔y<x:=by
 unfold cmpq;rw[Rat.lt_iff,Int.sign_pos_iff];omega
theorem cmpq_sub (x y:Rat):cmpq x y=(x-y).num.sign:=by
 have h1:∀ a b:Rat,a<b↔(a-b).num<0:=by
  intro a b
  rw[←Rat.not_le,Rat.le_iff_sub_nonneg,←Rat.num_nonneg];omega
 rcases Int.lt_trichotomy (cmpq x y) 0 with h | h | h
 ·have h':=(h1 x y).1 (cmpq_neg.1 h)
  rw[Int.sign_eq_neg_one_of_neg h']
  unfold cmpq at h ⊢;rw[Int.sign_neg_iff] at h;exact Int.sign_eq_neg_one_of_neg h
 ·rw[h];have:=cmpq_zero.1 h;subst this;rw[Rat.sub_self];rfl
 ·have h2:=cmpq_pos.1 h
  have h3:0<(x-y).num:=by
   have:=(h1 y x).1 h2
   rw[←Rat.neg_sub,Rat.neg_num] at this;omega
  rw[Int.sign_eq_one_of_pos h3]
  unfold cmpq at h ⊢;rw[Int.sign_pos_iff] at h;exact Int.sign_eq_one_of_pos h
/-- Sizes. -/
theorem natAbs_ediv_le (n:Int) (g:Nat):(n / (g:Int)).natAbs≤n.natAbs:=by
 rcases Nat.eq_zero_or_pos g with h | h
 ·subst h;simp
 ·exact Int.natAbs_ediv_le_natAbs _ _
theorem num_divInt_le (n:Int) {d:Int} (hd:0<d):(Rat.divInt n d).num.natAbs≤n.natAbs:=by
 rw[(divInt_pos n hd).1];exact natAbs_ediv_le _ _
theorem den_divInt_le (n:Int) {d:Int} (hd:0<d):((Rat.divInt n d).den:Int)≤d:=by
 rw[(divInt_pos n hd).2]
 exact Int.ediv_le_self _ (by omega)
/-- Numerator and denominator have at most p limbs. -/
structure Rs (q:Rat) (p:Nat):Prop where
 n:q.num.natAbs<4294967296^p
 d:q.den<4294967296^p
theorem pow_mono {p k:Nat} (h:p≤k):4294967296^p≤4294967296^k:=Nat.pow_le_pow_right (by decide) h
theorem Rs.mono {q:Rat} {p k:Nat} (h:Rs q p) (hk:p≤k):Rs q k:=⟨Nat.lt_of_lt_of_le h.n (pow_mono hk),Nat.lt_of_lt_of_le h.d (pow_mono hk)⟩
theorem Rs.neg {q:Rat} {p:Nat} (h:Rs q p):Rs (-q) p:=⟨by rw[Rat.neg_num,Int.natAbs_neg];exact h.n,h.d⟩
theorem Rs.abs {q:Rat} {p:Nat} (h:Rs q p):Rs q.abs p:=by unfold Rat.abs;split;exact h;exact h.neg
theorem Rs.int {z:Int} {p:Nat} (h:z.natAbs<4294967296^p) (hp:1≤p):Rs (z:Rat) p:=⟨h,by
 have:=pow_mono hp;show 1<_;omega⟩
theorem Rs.divInt {n d:Int} {p:Nat} (hd:0<d) (h1:n.natAbs<4294967296^p) (h2:d.natAbs<4294967296^p):Rs (Rat.divInt n d) p:=by
 have a:=num_divInt_le n hd
 have b:=den_divInt_le n hd
 exact⟨by omega,by omega⟩
theorem mul_lt {a b A B:Nat} (h1:a<A) (h2:b<B):a*b<A*B:=Nat.mul_lt_mul_of_lt_of_le h1 (Nat.le_of_lt h2) (by omega)
theorem Rs.mul {x y:Rat} {p k:Nat} (h1:Rs x p) (h2:Rs y k):Rs (x*y) (p+k):=by
 have e:x*y=Rat.divInt (x.num*y.num) ((x.den*y.den:Nat):Int):=by rw[Rat.mul_def',Rat.divInt_ofNat]
 rw[e]
 refine Rs.divInt (by have:=Nat.mul_pos x.den_pos y.den_pos;omega) ?_ ?_
 ·rw[Int.natAbs_mul,Nat.pow_add];exact mul_lt h1.n h2.n
 ·rw[Int.natAbs_natCast,Nat.pow_add];exact mul_lt h1.d h2.d
theorem Rs.add {x y:Rat} {p k:Nat} (h1:Rs x p) (h2:Rs y k):Rs (x+y) (p+k+1):=by
 have e:x+y=Rat.divInt (x.num*y.den+y.num*x.den) ((x.den*y.den:Nat):Int):=by rw[Rat.add_def',Rat.divInt_ofNat]
 rw[e]
 have a:=mul_lt h1.n h2.d
 have b:=mul_lt h2.n h1.d
 have c:=mul_lt h1.d h2.d
 rw[←Nat.pow_add] at a b c
 rw[Nat.add_comm k p] at b
 refine Rs.divInt (by have:=Nat.mul_pos x.den_pos y.den_pos;omega) ?_ ?_
 ·have t:=Int.natAbs_add_le (x.num*y.den) (y.num*x.den)
  rw[Int.natAbs_mul,Int.natAbs_mul,Int.natAbs_natCast,Int.natAbs_natCast] at t
  rw[Nat.pow_succ]
  omega
 ·rw[Int.natAbs_natCast]
  exact Nat.lt_of_lt_of_le c (pow_mono (by omega))
theorem Rs.sub {x y:Rat} {p k:Nat} (h1:Rs x p) (h2:Rs y k):Rs (x-y) (p+k+1):=by
 rw[Rat.sub_eq_add_neg];exact h1.add h2.neg
theorem Rs.inv {q:Rat} {p:Nat} (h:Rs q p) (hp:1≤p):Rs q⁻¹ p:=by
 have:=pow_mono hp
 refine⟨?_,?_⟩
 ·rw[Rat.num_inv,Int.natAbs_mul,Int.natAbs_natCast]
  have:q.num.sign.natAbs≤1:=by rw[Int.natAbs_sign];split<;>omega
  have h3:=Nat.mul_le_mul_right q.den this
  have:=h.d
  omega
 ·rw[Rat.den_inv];split;omega;exact h.n
theorem floor_parts (q:Rat):q.floor=q.num / q.den:=Rat.floor_def q
theorem quo_eq (x y:Rat):Rat.divInt (x.num*y.den) (x.den*y.num)=x / y:=by
 rw[Rat.div_def,←Rat.num_divInt_den x,←Rat.num_divInt_den y,Rat.inv_divInt,Rat.divInt_mul_divInt]
 rw[Rat.num_divInt_den x,Rat.num_divInt_den y]
theorem add_eq (x y:Rat):x+y=Rat.divInt (x.num*y.den+y.num*x.den) ((x.den:Int)*(y.den:Int)):=by
 rw[Rat.add_def',←Rat.divInt_ofNat,Int.natCast_mul]
theorem mul_eq (x y:Rat):x*y=Rat.divInt (x.num*y.num) ((x.den:Int)*(y.den:Int)):=by
 rw[Rat.mul_def',←Rat.divInt_ofNat,Int.natCast_mul]
theorem den_mul_pos (x y:Rat):(0:Int)<(x.den:Int)*y.den:=Int.mul_pos (den_pos' x) (den_pos' y)
end Go.Proofs.YthlnhmdpimoojaaGreatDoor.RQ
