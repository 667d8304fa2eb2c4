/- Rational numbers as they are kept: numerator and denominator in lowest terms; what the program's short ways compute. -/
import Derived.Test.YthlinhconnmbcaaGreatB04
import Derived.Test.YthlinhconnmbcaaGreatB03
import Derived.Test.YthlinhconnmbcaaGreatB02
set_option maxRecDepth 100000
set_option maxHeartbeats 40000000
set_option linter.unusedVariables false
namespace Go.Proofs.YthlinhconnmbcaaGreat.RQ
theorem rat_of {q:Rat} {n:Int} {d:Nat} (hd:0<d) (hc:n.natAbs.gcd d=1) (h:n*q.den=q.num*d):q.num=n∧q.den=d:=by
 have e:q=⟨n,d,by omega,hc⟩:=by
  rw[Rat.eq_iff_mul_eq_mul];exact h.symm
 rw[e];exact⟨rfl,rfl⟩
theorem divInt_pos (n:Int) {d:Int} (hd:0<d):(Rat.divInt n d).num=n / (Int.gcd n d:Int)∧((Rat.divInt n d).den:Int)=d / (Int.gcd n d:Int):=by
 constructor
 ·rw[Rat.num_divInt,Int.sign_eq_one_of_pos hd,Int.one_mul,Int.gcd_comm]
 ·rw[Rat.den_divInt,if_neg (by omega),Int.gcd_comm d n]
  have:(d.natAbs:Int)=d:=by omega
  rw[Int.natCast_ediv,this]
theorem den_pos' (q:Rat):(0:Int)<q.den:=by have:=q.den_pos;omega
theorem over_one (z:Int):Rat.divInt z 1=(z:Rat):=by
 have:=Rat.num_divInt_den (z:Rat);simpa using this
theorem sum_eq (x y:Rat) (g r:Nat) (b n:Int) (hg:g=Int.gcd x.den y.den) (hb:b=(x.den:Int) / g) (hn:n=x.num*((y.den:Int) / g)+y.num*b) (hr:r=Int.gcd n g) :
  (x+y).num=n / r∧((x+y).den:Int)=b*((y.den:Int) / r)∧0<g∧0<r:=by
 have hg':g=x.den.gcd y.den:=by rw[hg];rfl
 have hgp:0<g:=by rw[hg'];exact Nat.gcd_pos_of_pos_left _ x.den_pos
 have hgx:g∣x.den:=by rw[hg'];exact Nat.gcd_dvd_left _ _
 have hgy:g∣y.den:=by rw[hg'];exact Nat.gcd_dvd_right _ _
 have aux:=Rat.add.aux x y (g:=g) (ad:=x.den / g) (bd:=y.den / g) hg' rfl rfl;simp only at aux;have hbN:b=((x.den / g:Nat):Int):=by rw[hb,Int.natCast_ediv]
 have hnN:n=x.num*((y.den / g:Nat):Int)+y.num*((x.den / g:Nat):Int):=by rw[hn,hbN,Int.natCast_ediv,Int.natCast_ediv]
 have hr':r=n.natAbs.gcd g:=by rw[hr];rfl
 have hrp:0<r:=by rw[hr'];exact Nat.gcd_pos_of_pos_right _ hgp
 have hrg:r∣g:=by rw[hr'];exact Nat.gcd_dvd_right _ _
 have hry:r∣y.den:=Nat.dvd_trans hrg hgy;have hrn:(r:Int)∣n:=by
  have:r∣n.natAbs:=by rw[hr'];exact Nat.gcd_dvd_left _ _
  exact Int.ofNat_dvd_left.2 this
 rw[←hnN] at aux;have hrd:r=n.natAbs.gcd (x.den / g*y.den):=by rw[hr',aux]
 obtain⟨k,hk⟩:=hrn;obtain⟨m,hm⟩:=hry;obtain⟨ax,hax⟩:=hgx;obtain⟨ay,hay⟩:=hgy;have e1:x.den / g=ax:=by rw[hax];exact Nat.mul_div_cancel_left _ hgp
 have e2:y.den / g=ay:=by rw[hay];exact Nat.mul_div_cancel_left _ hgp
 have e3:y.den / r=m:=by rw[hm];exact Nat.mul_div_cancel_left _ hrp
 have e4:n / (r:Int)=k:=by rw[hk];exact Int.mul_ediv_cancel_left _ (by omega)
 have ax0:0<ax:=by rcases Nat.eq_zero_or_pos ax with h | h;(rw[h,Nat.mul_zero] at hax;have:=x.den_pos;omega);exact h
 have m0:0<m:=by rcases Nat.eq_zero_or_pos m with h | h;(rw[h,Nat.mul_zero] at hm;have:=y.den_pos;omega);exact h
 rw[e1] at hbN hnN hrd;rw[e2] at hnN;have key:=rat_of (q:=x+y) (n:=k) (d:=ax*m) (Nat.mul_pos ax0 m0) (by
   have h2:n.natAbs=r*k.natAbs:=by rw[hk,Int.natAbs_mul];rfl
   have h3:ax*y.den=r*(ax*m):=by rw[hm,Nat.mul_left_comm]
   rw[h2,h3,Nat.gcd_mul_left] at hrd;have:r*(k.natAbs.gcd (ax*m))=r*1:=by rw[Nat.mul_one];exact hrd.symm
   exact Nat.eq_of_mul_eq_mul_left hrp this) (by
   -- (x+y) = (x.num*y.den + y.num*x.den)/(x.den*y.den)
   have e:x+y=Rat.divInt (k:Int) ((ax*m:Nat):Int):=by
    have h5:x+y=Rat.divInt (x.num*y.den+y.num*x.den) ((x.den*y.den:Nat):Int):=by
     rw[Rat.add_def',Rat.divInt_ofNat]
    rw[h5,Rat.divInt_eq_divInt_iff (by have:=Nat.mul_pos x.den_pos y.den_pos;omega) (by have:=Nat.mul_pos ax0 m0;omega)]
    have hx:(x.den:Int)=g*ax:=by rw[hax];simp
    have hy:(y.den:Int)=g*ay:=by rw[hay];simp
    have hy2:(y.den:Int)=r*m:=by rw[hm];simp
    have hs:x.num*y.den+y.num*x.den=g*n:=by
     rw[hnN,hx,hy,Int.mul_add]
     congr 1<;>rw[←Int.mul_assoc,Int.mul_comm _ (g:Int),Int.mul_assoc,←Int.mul_assoc]<;>rw[Int.mul_assoc]
    rw[hs,hk];have:((x.den*y.den:Nat):Int)=g*ax*(r*m):=by rw[Int.natCast_mul,hx,hy2]
    rw[this,Int.natCast_mul];simp only[Int.mul_assoc,Int.mul_left_comm,Int.mul_comm]
   have h6:=Rat.num_divInt_den (x+y);rw[←h6,Rat.divInt_eq_divInt_iff (by have:=(x+y).den_pos;omega) (by have:=Nat.mul_pos ax0 m0;omega)] at e
   exact e.symm)
 refine⟨by rw[key.1,e4],?_,hgp,hrp⟩
 rw[key.2,hbN,Int.natCast_mul]
 congr 1
 rw[←e3,Int.natCast_ediv]
theorem prod_eq (x y:Rat) (f s:Nat) (hf:f=Int.gcd x.num y.den) (hs:s=Int.gcd y.num x.den) :
  (x*y).num=x.num / f*(y.num / s)∧((x*y).den:Int)=((x.den:Int) / s)*((y.den:Int) / f)∧0<f∧0<s:=by
 have fp:0<f:=by rw[hf];exact Nat.gcd_pos_of_pos_right _ y.den_pos
 have sp:0<s:=by rw[hs];exact Nat.gcd_pos_of_pos_right _ x.den_pos
 have f1:(f:Int)∣x.num:=by rw[hf];exact Int.gcd_dvd_left ..
 have f2:f∣y.den:=by rw[hf];exact Nat.gcd_dvd_right _ _
 have s1:(s:Int)∣y.num:=by rw[hs];exact Int.gcd_dvd_left ..
 have s2:s∣x.den:=by rw[hs];exact Nat.gcd_dvd_right _ _
 obtain⟨a,ha⟩:=f1;obtain⟨d,hd⟩:=f2;obtain⟨c,hc⟩:=s1;obtain⟨b,hb⟩:=s2;have e1:x.num / (f:Int)=a:=by rw[ha];exact Int.mul_ediv_cancel_left _ (by omega)
 have e2:y.num / (s:Int)=c:=by rw[hc];exact Int.mul_ediv_cancel_left _ (by omega)
 have e3:(x.den:Int) / (s:Int)=b:=by rw[hb,Int.natCast_mul];exact Int.mul_ediv_cancel_left _ (by omega)
 have e4:(y.den:Int) / (f:Int)=d:=by rw[hd,Int.natCast_mul];exact Int.mul_ediv_cancel_left _ (by omega)
 have b0:0<b:=by rcases Nat.eq_zero_or_pos b with h | h;(rw[h,Nat.mul_zero] at hb;have:=x.den_pos;omega);exact h
 have d0:0<d:=by rcases Nat.eq_zero_or_pos d with h | h;(rw[h,Nat.mul_zero] at hd;have:=y.den_pos;omega);exact h
 -- coprime facts
 have c1:a.natAbs.gcd d=1:=by
  have h:f=(x.num.natAbs).gcd y.den:=by rw[hf];rfl
  rw[ha,hd,Int.natAbs_mul,Int.natAbs_natCast,Nat.gcd_mul_left] at h;have:f*(a.natAbs.gcd d)=f*1:=by rw[Nat.mul_one];exact h.symm
  exact Nat.eq_of_mul_eq_mul_left fp this
 have c2:c.natAbs.gcd b=1:=by
  have h:s=(y.num.natAbs).gcd x.den:=by rw[hs];rfl
  rw[hc,hb,Int.natAbs_mul,Int.natAbs_natCast,Nat.gcd_mul_left] at h;have:s*(c.natAbs.gcd b)=s*1:=by rw[Nat.mul_one];exact h.symm
  exact Nat.eq_of_mul_eq_mul_left sp this
 have c3:a.natAbs.gcd b=1:=by
  have h:Nat.Coprime x.num.natAbs x.den:=x.reduced;rw[ha,hb,Int.natAbs_mul] at h;exact Nat.Coprime.coprime_mul_left (Nat.Coprime.coprime_mul_left_right h)
 have c4:c.natAbs.gcd d=1:=by
  have h:Nat.Coprime y.num.natAbs y.den:=y.reduced;rw[hc,hd,Int.natAbs_mul] at h;exact Nat.Coprime.coprime_mul_left (Nat.Coprime.coprime_mul_left_right h)
 have key:=rat_of (q:=x*y) (n:=a*c) (d:=b*d) (Nat.mul_pos b0 d0) (by
   rw[Int.natAbs_mul];exact Nat.Coprime.mul_left (Nat.Coprime.mul_right c3 c1) (Nat.Coprime.mul_right c2 c4)) (by
   have e:x*y=Rat.divInt (a*c) ((b*d:Nat):Int):=by
    have h5:x*y=Rat.divInt (x.num*y.num) ((x.den*y.den:Nat):Int):=by
     rw[Rat.mul_def',Rat.divInt_ofNat]
    rw[h5,Rat.divInt_eq_divInt_iff (by have:=Nat.mul_pos x.den_pos y.den_pos;omega) (by have:=Nat.mul_pos b0 d0;omega)]
    have hx:(x.den:Int)=s*b:=by rw[hb];simp
    have hy:(y.den:Int)=f*d:=by rw[hd];simp
    rw[Int.natCast_mul,Int.natCast_mul,hx,hy];generalize x.num=X at *;generalize y.num=Y at *;subst ha hc;simp only[Int.mul_assoc,Int.mul_left_comm,Int.mul_comm]
   have h6:=Rat.num_divInt_den (x*y);rw[←h6,Rat.divInt_eq_divInt_iff (by have:=(x*y).den_pos;omega) (by have:=Nat.mul_pos b0 d0;omega)] at e
   exact e.symm)
 exact⟨by rw[key.1,e1,e2],by rw[key.2,e3,e4,Int.natCast_mul],fp,sp⟩
theorem natAbs_ediv_le (n:Int) (g:Nat):(n / (g:Int)).natAbs≤n.natAbs:=by
 rcases Nat.eq_zero_or_pos g with h | h
 ·subst h;simp
 ·exact Int.natAbs_ediv_le_natAbs _ _
theorem num_divInt_le (n:Int) {d:Int} (hd:0<d):(Rat.divInt n d).num.natAbs≤n.natAbs:=by
 rw[(divInt_pos n hd).1];exact natAbs_ediv_le _ _
theorem den_divInt_le (n:Int) {d:Int} (hd:0<d):((Rat.divInt n d).den:Int)≤d:=by
 rw[(divInt_pos n hd).2];exact Int.ediv_le_self _ (by omega)
structure Rs (q:Rat) (p:Nat):Prop where
 n:q.num.natAbs<4294967296^p
 d:q.den<4294967296^p
theorem pow_mono {p k:Nat} (h:p≤k):4294967296^p≤4294967296^k:=Nat.pow_le_pow_right (by decide) h
theorem Rs.mono {q:Rat} {p k:Nat} (h:Rs q p) (hk:p≤k):Rs q k:=⟨Nat.lt_of_lt_of_le h.n (pow_mono hk),Nat.lt_of_lt_of_le h.d (pow_mono hk)⟩
theorem Rs.neg {q:Rat} {p:Nat} (h:Rs q p):Rs (-q) p:=⟨by rw[Rat.neg_num,Int.natAbs_neg];exact h.n,h.d⟩
theorem Rs.int {z:Int} {p:Nat} (h:z.natAbs<4294967296^p) (hp:1≤p):Rs (z:Rat) p:=⟨h,by
 have:=pow_mono hp;show 1<_;omega⟩
theorem Rs.divInt {n d:Int} {p:Nat} (hd:0<d) (h1:n.natAbs<4294967296^p) (h2:d.natAbs<4294967296^p):Rs (Rat.divInt n d) p:=by
 have a:=num_divInt_le n hd;have b:=den_divInt_le n hd;exact⟨by omega,by omega⟩
theorem mul_lt {a b A B:Nat} (h1:a<A) (h2:b<B):a*b<A*B:=Nat.mul_lt_mul_of_lt_of_le h1 (Nat.le_of_lt h2) (by omega)
theorem Rs.mul {x y:Rat} {p k:Nat} (h1:Rs x p) (h2:Rs y k):Rs (x*y) (p+k):=by
 have e:x*y=Rat.divInt (x.num*y.num) ((x.den*y.den:Nat):Int):=by rw[Rat.mul_def',Rat.divInt_ofNat]
 rw[e];refine Rs.divInt (by have:=Nat.mul_pos x.den_pos y.den_pos;omega) ?_ ?_
 ·rw[Int.natAbs_mul,Nat.pow_add];exact mul_lt h1.n h2.n
 ·rw[Int.natAbs_natCast,Nat.pow_add];exact mul_lt h1.d h2.d
theorem Rs.add {x y:Rat} {p k:Nat} (h1:Rs x p) (h2:Rs y k):Rs (x+y) (p+k+1):=by
 have e:x+y=Rat.divInt (x.num*y.den+y.num*x.den) ((x.den*y.den:Nat):Int):=by rw[Rat.add_def',Rat.divInt_ofNat]
 rw[e];have a:=mul_lt h1.n h2.d;have b:=mul_lt h2.n h1.d;have c:=mul_lt h1.d h2.d;rw[←Nat.pow_add] at a b c;rw[Nat.add_comm k p] at b;refine Rs.divInt (by have:=Nat.mul_pos x.den_pos y.den_pos;omega) ?_ ?_
 ·have t:=Int.natAbs_add_le (x.num*y.den) (y.num*x.den)
  rw[Int.natAbs_mul,Int.natAbs_mul,Int.natAbs_natCast,Int.natAbs_natCast] at t;rw[Nat.pow_succ]
  omega
 ·rw[Int.natAbs_natCast]
  exact Nat.lt_of_lt_of_le c (pow_mono (by omega))
theorem Rs.sub {x y:Rat} {p k:Nat} (h1:Rs x p) (h2:Rs y k):Rs (x-y) (p+k+1):=by
 rw[Rat.sub_eq_add_neg];exact h1.add h2.neg
theorem Rs.inv {q:Rat} {p:Nat} (h:Rs q p) (hp:1≤p):Rs q⁻¹ p:=by
 have:=pow_mono hp;refine⟨?_,?_⟩
 ·rw[Rat.num_inv,Int.natAbs_mul,Int.natAbs_natCast]
  have:q.num.sign.natAbs≤1:=by rw[Int.natAbs_sign];split<;>omega
  have h3:=Nat.mul_le_mul_right q.den this;have:=h.d
  omega
 ·rw[Rat.den_inv];split;omega;exact h.n
theorem inv_parts {q:Rat} (h:q≠0):(q⁻¹).num.natAbs=q.den∧((q⁻¹).num<0↔q.num<0)∧(q⁻¹).den=q.num.natAbs:=by
 have hn:q.num≠0:=fun e=>h (Rat.num_eq_zero.1 e)
 rw[Rat.num_inv,Rat.den_inv,if_neg hn];refine⟨?_,?_,rfl⟩
 ·rw[Int.natAbs_mul,Int.natAbs_natCast,Int.natAbs_sign_of_ne_zero hn,Nat.one_mul]
 ·have:=q.den_pos
  rcases Int.lt_trichotomy q.num 0 with h | h | h
  ·rw[Int.sign_eq_neg_one_of_neg h];omega
  ·exact absurd h hn
  ·rw[Int.sign_eq_one_of_pos h];omega
theorem add_eq (x y:Rat):x+y=Rat.divInt (x.num*y.den+y.num*x.den) ((x.den:Int)*(y.den:Int)):=by
 rw[Rat.add_def',←Rat.divInt_ofNat,Int.natCast_mul]
theorem mul_eq (x y:Rat):x*y=Rat.divInt (x.num*y.num) ((x.den:Int)*(y.den:Int)):=by
 rw[Rat.mul_def',←Rat.divInt_ofNat,Int.natCast_mul]
theorem den_mul_pos (x y:Rat):(0:Int)<(x.den:Int)*y.den:=Int.mul_pos (den_pos' x) (den_pos' y)
end Go.Proofs.YthlinhconnmbcaaGreat.RQ
namespace Go.Proofs.YthlinhconnmbcaaGreat
open Go.RowKit
theorem rvalidI_any (b:Bool) (A:Option Addr) (n c:Nat) (xs:List Nat) (w:World) (h:Rd w A n c xs) (hn:n≤1000000000) :
  Calls Tryz.prog 91 #[.agg #[.bool b,.slice A n c]] w fun e w'=>e=.returned (.bool (vldI b xs))∧Below w.heap.size w w':=by
 have hl:=h.len;have hv:=rvalid_any A n c xs (w.alloc (.cells #[.bool b,.slice A n c] 31)) (h.alloc _) (by omega)
 have Hb:=Lib.hid (((Below.refl w.heap.size w).alloc (Nat.le_refl _) (.cells #[.bool b,.slice A n c] 31)));unfold vldI;rw[hl];replace hl:=Lib.hid hl;replace h:=Lib.hid h
 cases hb:vldB xs
 ·rw[hb] at hv
  replace hv:=Lib.hid hv;clear hb;go_enter Tryz.func91,Tryz.ntmps91
  go_wp2_with (go_at_call 92;refine hv.out.mono ?_;rintro e w1 ⟨rfl,rfl⟩)
  go_ret;exact⟨rfl,Hb.out⟩
 ·rw[hb] at hv
  replace hv:=Lib.hid hv;clear hb
  cases b
  ·go_enter Tryz.func91,Tryz.ntmps91
   go_wp2_with (go_at_call 92;refine hv.out.mono ?_;rintro e w1 ⟨rfl,rfl⟩)
   go_ret;exact⟨rfl,Hb.out⟩
  ·go_enter Tryz.func91,Tryz.ntmps91
   go_wp2_with (go_at_call 92;refine hv.out.mono ?_;rintro e w1 ⟨rfl,rfl⟩)
   go_ret;exact⟨by rw[cast_beq];simp,Hb.out⟩
theorem res_take (W:World) (tmps:Array Value) (g:Nat) {b:Bool} {A:Option Addr} {n c:Nat} (ht:tmps.getD 2 undef=.pointer (some ⟨g,0,none⟩)) (h:Bx W g b A n c) :
  (results Tryz.f67 tmps).run Tryz.prog W=.ok (.agg #[.bool b,.slice A n c]) W:=by
 obtain⟨c0,c1,_⟩:=h.at_;have ht':tmps[2]?.getD undef=.pointer (some ⟨g,0,none⟩):=by rw[←ht];simp[Array.getD_eq_getD_getElem?]
 simp[results,Tryz.results67,go_sem,ht',c0,c1]
theorem res_rsigned (W:World) (tmps:Array Value) (g:Nat) {b:Bool} {A:Option Addr} {n c:Nat} (ht:tmps.getD 4 undef=.pointer (some ⟨g,0,none⟩)) (h:Bx W g b A n c) :
  (results Tryz.f73 tmps).run Tryz.prog W=.ok (.agg #[.bool b,.slice A n c]) W:=by
 obtain⟨c0,c1,_⟩:=h.at_;have ht':tmps[4]?.getD undef=.pointer (some ⟨g,0,none⟩):=by rw[←ht];simp[Array.getD_eq_getD_getElem?]
 simp[results,Tryz.results73,go_sem,ht',c0,c1]
theorem takeI_any (b:Bool) (A:Option Addr) (n c:Nat) (xs:List Nat) (w:World) (h:Rd w A n c xs) (hn:n≤1000000000) :
  Calls Tryz.prog 67 #[.agg #[.bool b,.slice A n c]] w (RetI (iv b xs) w):=by
 have h0:=((h.alloc (.cells #[.bool b,.slice A n c] 31)).alloc (.cells #[.bool false,.slice none 0 0] 31));have hv:=rvalidI_any b A n c xs _ h0 hn;obtain⟨x1,x2⟩:=Bx.two w b A n c false none 0 0;have Bw:=two_bel w (.cells #[.bool b,.slice A n c] 31) (.cells #[.bool false,.slice none 0 0] 31);replace x1:=Lib.hid x1;replace x2:=Lib.hid x2;replace Bw:=Lib.hid Bw
 cases hb:vldI b xs
 ·rw[hb] at hv
  have hz:=Lib.hid (iv_no hb);replace hv:=Lib.hid hv;clear hb h0 h;go_enter Tryz.func67,Tryz.ntmps67
  go_wp2_with (go_at_call 91;refine hv.out.mono ?_;rintro e w1 ⟨rfl,B1⟩;refine Hid.out ?_)
  refine Lib.hid ?_
  have y2:=x2.out.bel B1;have Bw1:=Lib.hid (Bw.out.trans (B1.mono Bw.out.size));obtain⟨c0,c1,f0,f1⟩:=y2.at_;have y3:=Lib.hid (y2.put false none 0 0);clear B1 hv y2;go_wp2;refine bodyPost_ret (res_take _ _ (w.heap.size+1) rfl y3.out) rfl ?_
  exact ret_zero hz.out (put_below _ _ Bw1.out (by omega))
 ·rw[hb] at hv
  have hz:=Lib.hid (canon h.sm hb);have hnum:num xs=(iv b xs).natAbs:=by rw[num_of_vld (vldI_parts hb).1,iv_yes hb,abs_sg]
  generalize hZ:iv b xs=z at hz hnum ⊢;replace hnum:=Lib.hid hnum;replace hZ:=Lib.hid hZ;replace hv:=Lib.hid hv;clear hb;replace h0:=Lib.hid h0;replace h:=Lib.hid h;go_enter Tryz.func67,Tryz.ntmps67
  go_wp2_with (go_at_call 91;refine hv.out.mono ?_;rintro e w1 ⟨rfl,B1⟩;refine Hid.out ?_)
  refine Lib.hid ?_
  have y1:=x1.out.bel B1;have y2:=x2.out.bel B1;have Bw1:=Bw.out.trans (B1.mono Bw.out.size);obtain⟨d0,d1,e0,e1⟩:=y1.at_;have R:=Lib.hid (Rd.drew1 (h.out.below Bw1));have y1D:=Lib.hid (Bx.drew y1);have y2D:=Lib.hid (Bx.drew y2);have BwD:=Lib.hid (Bw1.drew);clear B1 hv y1 y2 Bw1 h0;go_wp2
  go_region_held3 (fun w'=>w'.cell? ⟨w.heap.size,0,none⟩=some (.bool b)∧w'.cell? ⟨w.heap.size,1,none⟩=some (.slice A n c))
   (first | exact⟨d0,d1⟩ | exact⟨p0,p1⟩ | exact⟨r0,r1⟩)
   (first
    | (go_at_call 68;refine (take_any A n c xs _ (by exact R.out) hn).mono ?_;rw[hnum.out];rintro e w4 ⟨A4,n4,c4,rfl,Q4,B4,l4⟩;have Y1:=y1D.out.bel B4;have Y2:=y2D.out.bel B4;obtain⟨p0,p1,_⟩:=Y1.at_;obtain⟨v0,v1,v2,v3⟩:=Y2.at_;have Y3:=Y2.put b A4 n4 c4;have Y4:=(Y1.far (p:=⟨w.heap.size+1,0,none⟩) (Nat.ne_of_lt (Nat.lt_succ_self _)) (.bool b)).far (p:=⟨w.heap.size+1,1,none⟩) (Nat.ne_of_lt (Nat.lt_succ_self _)) (.slice A4 n4 c4);obtain⟨r0,r1,_⟩:=Y4.at_))
  all_goals
   have Q5:=Lib.hid (Q4.put Y2 (.bool b) (.slice A4 n4 c4));have Y5:=Lib.hid Y3;have Bz:=Lib.hid (put_below (g:=w.heap.size+1) (.bool b) (.slice A4 n4 c4) (BwD.out.trans (B4.mono BwD.out.size)) (Nat.le_succ _));clear Y3 Y4 Y1 Y2 r0 r1 p0 p1 v0 v1 v2 v3 Q4 B4;go_wp2;refine bodyPost_ret (res_take _ _ (w.heap.size+1) rfl Y5.out) rfl ?_
   exact ret_I hz.out.1 Q5.out Bz.out
theorem rsignedI_any (b:Bool) (A:Option Addr) (n c N:Nat) (w:World) (h:Rd w A n c (limbs N)) :
  Calls Tryz.prog 73 #[.bool b,.slice A n c] w (RetI (sg b N) w):=by
 have x2:=Bx.new w false none 0 0;obtain⟨c0,c1,f0,f1⟩:=x2.at_
 by_cases h0:n=0
 ·subst h0
  have hN:Hid (sg b N=0):=by
   have:=List.eq_nil_of_length_eq_zero h.len;have h2:=congrArg val this;rw[val_limbs] at h2
   show sg b N=0
   rw[h2];exact sg_zero b
  clear x2;replace h:=Lib.hid h
  cases b
  all_goals
   go_enter Tryz.func73,Tryz.ntmps73;go_wp2;refine bodyPost_ret (res_rsigned _ _ w.heap.size rfl (Bx.new w _ _ _ _)) rfl ?_
   exact ret_zero hN.out ((Below.refl w.heap.size w).alloc (Nat.le_refl _) _)
 ·have hN:Hid (0<N):=by
   rcases Nat.eq_zero_or_pos N with h1 | h1
   ·have:=h.len;rw[h1,limbs_zero] at this;exact absurd this.symm h0
   ·exact h1
  have hn:(0:Int)<(n:Int):=by omega
  have hn':Hid (0<n):=by show 0<n;omega
  clear x2;replace h:=Lib.hid h;replace h0:=Lib.hid h0
  cases b
  all_goals
   go_enter Tryz.func73,Tryz.ntmps73;go_wp2;refine bodyPost_ret (res_rsigned _ _ w.heap.size rfl (Bx.new w _ _ _ _)) rfl ?_
   refine ret_I (by rw[ng_sg hN.out]<;>exact decide_eq_true hn'.out) ?_ ((Below.refl w.heap.size w).alloc (Nat.le_refl _) _)
   rw[abs_sg];exact h.out.alloc _
structure B2 (w W:World) (b1:Bool) (A1:Option Addr) (n1 c1:Nat) (b2:Bool) (A2:Option Addr) (n2 c2:Nat):Prop where
 x1:Bx W w.heap.size b1 A1 n1 c1
 x2:Bx W (w.heap.size+1) b2 A2 n2 c2
 bel:Below w.heap.size w W
 sz:w.heap.size+1+1≤W.heap.size
structure B4 (w W:World) (b1:Bool) (A1:Option Addr) (n1 c1:Nat) (b2:Bool) (A2:Option Addr) (n2 c2:Nat):Prop where
 t:B3 w W b1 A1 n1 c1 b2 A2 n2 c2 false none 0 0
 x4:Bx W (w.heap.size+1+1+1) false none 0 0
section
variable {w W W':World} {b1 b2:Bool} {A1 A2:Option Addr} {n1 n2 c1 c2:Nat}
theorem B2.new (w:World) (b1:Bool) (A1:Option Addr) (n1 c1:Nat) (b2:Bool) (A2:Option Addr) (n2 c2:Nat) :
  B2 w ((w.alloc (.cells #[.bool b1,.slice A1 n1 c1] 31)).alloc (.cells #[.bool b2,.slice A2 n2 c2] 31)) b1 A1 n1 c1 b2 A2 n2 c2:=by
 obtain⟨h1,h2⟩:=Bx.two w b1 A1 n1 c1 b2 A2 n2 c2;exact⟨h1,h2,two_bel w _ _,by simp⟩
theorem B2.on (h:B2 w W b1 A1 n1 c1 b2 A2 n2 c2) (hb:Below W.heap.size W W'):B2 w W' b1 A1 n1 c1 b2 A2 n2 c2:=
 ⟨h.x1.bel hb,h.x2.bel hb,h.bel.trans (hb.mono h.bel.size),Nat.le_trans h.sz hb.size⟩
theorem B2.drew (h:B2 w W b1 A1 n1 c1 b2 A2 n2 c2):B2 w W.drew b1 A1 n1 c1 b2 A2 n2 c2:=⟨h.x1,h.x2,h.bel.drew,h.sz⟩
theorem B2.put1 (h:B2 w W b1 A1 n1 c1 b2 A2 n2 c2) (b':Bool) (A':Option Addr) (n' c':Nat) :
  B2 w ((W.setCell ⟨w.heap.size,0,none⟩ (.bool b')).setCell ⟨w.heap.size,1,none⟩ (.slice A' n' c')) b' A' n' c' b2 A2 n2 c2:=
 ⟨h.x1.put _ _ _ _,(h.x2.far (Nat.ne_of_gt (Nat.lt_succ_self _)) _).far (Nat.ne_of_gt (Nat.lt_succ_self _)) _,put_below _ _ h.bel (Nat.le_refl _),by simpa using h.sz⟩
theorem B2.put2 (h:B2 w W b1 A1 n1 c1 b2 A2 n2 c2) (b':Bool) (A':Option Addr) (n' c':Nat) :
  B2 w ((W.setCell ⟨w.heap.size+1,0,none⟩ (.bool b')).setCell ⟨w.heap.size+1,1,none⟩ (.slice A' n' c')) b1 A1 n1 c1 b' A' n' c':=
 ⟨(h.x1.far (Nat.ne_of_lt (Nat.lt_succ_self _)) _).far (Nat.ne_of_lt (Nat.lt_succ_self _)) _,h.x2.put _ _ _ _,put_below _ _ h.bel (Nat.le_succ _),by simpa using h.sz⟩
theorem B2.two_puts (h:B2 w W b1 A1 n1 c1 b2 A2 n2 c2) (b':Bool) (A':Option Addr) (n' c':Nat) (b'':Bool) (A'':Option Addr) (n'' c'':Nat) :
  B2 w ((((W.setCell ⟨w.heap.size,0,none⟩ (.bool b')).setCell ⟨w.heap.size,1,none⟩ (.slice A' n' c')).setCell ⟨w.heap.size+1,0,none⟩ (.bool b'')).setCell ⟨w.heap.size+1,1,none⟩ (.slice A'' n'' c'')) b' A' n' c' b'' A'' n'' c'':=
 (h.put1 b' A' n' c').put2 b'' A'' n'' c''
theorem B4.new (w:World) (b1:Bool) (A1:Option Addr) (n1 c1:Nat) (b2:Bool) (A2:Option Addr) (n2 c2:Nat) :
  B4 w ((((w.alloc (.cells #[.bool b1,.slice A1 n1 c1] 31)).alloc (.cells #[.bool b2,.slice A2 n2 c2] 31)).alloc (.cells #[.bool false,.slice none 0 0] 31)).alloc (.cells #[.bool false,.slice none 0 0] 31)) b1 A1 n1 c1 b2 A2 n2 c2:=by
 have h:=B3.new w b1 A1 n1 c1 b2 A2 n2 c2 false none 0 0;refine⟨h.on ((Below.refl _ _).alloc (Nat.le_refl _) _),?_⟩
 have:=Bx.new (((w.alloc (.cells #[.bool b1,.slice A1 n1 c1] 31)).alloc (.cells #[.bool b2,.slice A2 n2 c2] 31)).alloc (.cells #[.bool false,.slice none 0 0] 31)) false none 0 0
 rwa [show (((w.alloc (.cells #[.bool b1,.slice A1 n1 c1] 31)).alloc (.cells #[.bool b2,.slice A2 n2 c2] 31)).alloc (.cells #[.bool false,.slice none 0 0] 31)).heap.size=w.heap.size+1+1+1 by simp] at this
theorem B4.on (h:B4 w W b1 A1 n1 c1 b2 A2 n2 c2) (hb:Below W.heap.size W W'):B4 w W' b1 A1 n1 c1 b2 A2 n2 c2:=⟨h.t.on hb,h.x4.bel hb⟩
theorem B4.drew (h:B4 w W b1 A1 n1 c1 b2 A2 n2 c2):B4 w W.drew b1 A1 n1 c1 b2 A2 n2 c2:=⟨h.t.drew,h.x4⟩
theorem B4.bel (h:B4 w W b1 A1 n1 c1 b2 A2 n2 c2):Below w.heap.size w W:=h.t.bel
theorem B4.x1 (h:B4 w W b1 A1 n1 c1 b2 A2 n2 c2):Bx W w.heap.size b1 A1 n1 c1:=h.t.x1
theorem B4.x2 (h:B4 w W b1 A1 n1 c1 b2 A2 n2 c2):Bx W (w.heap.size+1) b2 A2 n2 c2:=h.t.x2
theorem B4.x3 (h:B4 w W b1 A1 n1 c1 b2 A2 n2 c2):Bx W (w.heap.size+1+1) false none 0 0:=h.t.x3
theorem B4.put1 (h:B4 w W b1 A1 n1 c1 b2 A2 n2 c2) (b':Bool) (A':Option Addr) (n' c':Nat) :
  B4 w ((W.setCell ⟨w.heap.size,0,none⟩ (.bool b')).setCell ⟨w.heap.size,1,none⟩ (.slice A' n' c')) b' A' n' c' b2 A2 n2 c2:=
 ⟨h.t.put1 _ _ _ _,(h.x4.far (show w.heap.size+1+1+1≠w.heap.size by omega) _).far (show w.heap.size+1+1+1≠w.heap.size by omega) _⟩
theorem B4.put2 (h:B4 w W b1 A1 n1 c1 b2 A2 n2 c2) (b':Bool) (A':Option Addr) (n' c':Nat) :
  B4 w ((W.setCell ⟨w.heap.size+1,0,none⟩ (.bool b')).setCell ⟨w.heap.size+1,1,none⟩ (.slice A' n' c')) b1 A1 n1 c1 b' A' n' c':=
 ⟨h.t.put2 _ _ _ _,(h.x4.far (show w.heap.size+1+1+1≠w.heap.size+1 by omega) _).far (show w.heap.size+1+1+1≠w.heap.size+1 by omega) _⟩
theorem B4.two_puts (h:B4 w W b1 A1 n1 c1 b2 A2 n2 c2) (b':Bool) (A':Option Addr) (n' c':Nat) (b'':Bool) (A'':Option Addr) (n'' c'':Nat) :
  B4 w ((((W.setCell ⟨w.heap.size,0,none⟩ (.bool b')).setCell ⟨w.heap.size,1,none⟩ (.slice A' n' c')).setCell ⟨w.heap.size+1,0,none⟩ (.bool b'')).setCell ⟨w.heap.size+1,1,none⟩ (.slice A'' n'' c'')) b' A' n' c' b'' A'' n'' c'':=
 (h.put1 b' A' n' c').put2 b'' A'' n'' c''
end
end Go.Proofs.YthlinhconnmbcaaGreat
namespace Go.Proofs.YthlinhconnmbcaaGreat
open Go.RowKit
theorem run_mag (W:World) (x:Bool) (A:Option Addr) (n c:Nat):(Instr.field 31 (.agg #[.bool x,.slice A n c]) 1).run Tryz.prog W=.ok (.slice A n c) W:=by kernel_rfl
theorem gcdI_any (b:Bool) (A:Option Addr) (n c:Nat) (xs:List Nat) (b':Bool) (A':Option Addr) (n' c':Nat) (ys:List Nat) (w:World) (h1:Rd w A n c xs) (h2:Rd w A' n' c' ys) (hn:n≤50000000) (hn':n'≤50000000) :
  Calls Tryz.prog 123 #[.agg #[.bool b,.slice A n c],.agg #[.bool b',.slice A' n' c']] w (RetN (Int.gcd (iv b xs) (iv b' ys)) w):=by
 have hk1:=fun W (h:Rd W A n c xs)=>knownI_any b A n c xs W h (by omega)
 have hk2:=fun W (h:Rd W A' n' c' ys)=>knownI_any b' A' n' c' ys W h (by omega)
 have l1:=iv_abs (b:=b) h1.sm (Nat.le_of_eq h1.len);have l2:=iv_abs (b:=b') h2.sm (Nat.le_of_eq h2.len);generalize iv b xs=z1 at *;generalize iv b' ys=z2 at *;replace hk1:=Lib.hid hk1;replace hk2:=Lib.hid hk2;replace l1:=Lib.hid l1;replace l2:=Lib.hid l2;have X:=B2.new w b A n c b' A' n' c';have R1:=h1.below X.bel;have R2:=h2.below X.bel;clear h1 h2;go_enter Tryz.func123,Tryz.ntmps123;go_upto_region 1 with fail
 generalize (w.alloc (.cells #[.bool b,.slice A n c] 31)).alloc (.cells #[.bool b',.slice A' n' c'] 31)=W0 at X R1 R2 ⊢;obtain⟨a0,a1,a2,a3⟩:=X.x1.at_;obtain⟨d0,d1,d2,d3⟩:=X.x2.at_;have XD:=Lib.hid X.drew;have RD1:=Lib.hid (Rd.drew1 R1);have RD2:=Lib.hid (Rd.drew1 R2);clear X R1 R2;have hmag:=run_mag
 go_region_held3 (fun w'=>w'.cell? ⟨w.heap.size,0,none⟩=some (.bool b)∧w'.cell? ⟨w.heap.size,1,none⟩=some (.slice A n c)∧w'.cell? ⟨w.heap.size+1,0,none⟩=some (.bool b')∧w'.cell? ⟨w.heap.size+1,1,none⟩=some (.slice A' n' c'))
  (first | exact⟨a0,a1,d0,d1⟩ | exact⟨f0,f1,k0,k1⟩ | exact⟨p0,p1,q0,q1⟩ | exact⟨r0,r1,t0,t1⟩)
  (first
   | (go_at_call_of 112 (Value.agg #[.bool b,.slice A n c]);refine (hk1.out _ (by exact RD1.out)).mono ?_;rintro e w1 ⟨A1,n1,c1,rfl,Q1,B1⟩;have X1:=XD.out.on B1;have R2':=RD2.out.below B1;obtain⟨f0,f1,_⟩:=X1.x1.at_;obtain⟨k0,k1,_⟩:=X1.x2.at_)
   | (go_at_call_of 112 (Value.agg #[.bool b',.slice A' n' c']);refine (hk2.out _ (by exact R2')).mono ?_;rintro e w2 ⟨A2,n2,c2,rfl,Q2,B2⟩;have X2:=X1.on B2;have Q1':=Q1.below B2;obtain⟨p0,p1,_⟩:=X2.x1.at_;obtain⟨q0,q1,_⟩:=X2.x2.at_)
   | (go_at_call 131;refine (gcd_any _ _ _ (limbs z1.natAbs) _ _ _ (limbs z2.natAbs) _ (by exact Q1') (by exact Q2) (by have:=l1.out;have:=Q1.len;omega) (by have:=l2.out;have:=Q2.len;omega)).mono ?_;rw[num_limbs,num_limbs];rintro e w3 ⟨A3,n3,c3,rfl,Q3,B3⟩;have X3:=X2.on B3;obtain⟨r0,r1,_⟩:=X3.x1.at_;obtain⟨t0,t1,_⟩:=X3.x2.at_))
 all_goals
  have Q5:=Lib.hid Q3;have B5:=Lib.hid X3.bel;clear r0 r1 t0 t1 p0 p1 q0 q1 f0 f1 k0 k1 Q3 X3 X2 X1 Q1 Q2 Q1' B1 B2 B3 R2' a0 a1 a2 a3 d0 d1 d2 d3;go_wp2;go_ret;exact⟨_,_,_,rfl,Q5.out,B5.out⟩
theorem rgcdI_any (b:Bool) (A:Option Addr) (n c:Nat) (xs:List Nat) (b':Bool) (A':Option Addr) (n' c':Nat) (ys:List Nat) (w:World) (h1:Rd w A n c xs) (h2:Rd w A' n' c' ys) (hn:n≤50000000) (hn':n'≤50000000) :
  Calls Tryz.prog 70 #[.agg #[.bool b,.slice A n c],.agg #[.bool b',.slice A' n' c']] w (RetN (Int.gcd (iv b xs) (iv b' ys)) w):=by
 have hk1:=fun W (h:Rd W A n c xs)=>takeI_any b A n c xs W h (by omega)
 have hk2:=fun W (h:Rd W A' n' c' ys)=>takeI_any b' A' n' c' ys W h (by omega)
 have l1:=iv_abs (b:=b) h1.sm (Nat.le_of_eq h1.len);have l2:=iv_abs (b:=b') h2.sm (Nat.le_of_eq h2.len);generalize iv b xs=z1 at *;generalize iv b' ys=z2 at *;replace hk1:=Lib.hid hk1;replace hk2:=Lib.hid hk2;replace l1:=Lib.hid l1;replace l2:=Lib.hid l2;have X:=B2.new w b A n c b' A' n' c';have R1:=h1.below X.bel;have R2:=h2.below X.bel;clear h1 h2;go_enter Tryz.func70,Tryz.ntmps70;go_upto_region 1 with fail
 generalize (w.alloc (.cells #[.bool b,.slice A n c] 31)).alloc (.cells #[.bool b',.slice A' n' c'] 31)=W0 at X R1 R2 ⊢;obtain⟨a0,a1,a2,a3⟩:=X.x1.at_;obtain⟨d0,d1,d2,d3⟩:=X.x2.at_;have XD:=Lib.hid X.drew;have RD1:=Lib.hid (Rd.drew1 R1);have RD2:=Lib.hid (Rd.drew1 R2);clear X R1 R2;have hmag:=run_mag
 go_region_held3 (fun w'=>w'.cell? ⟨w.heap.size,0,none⟩=some (.bool b)∧w'.cell? ⟨w.heap.size,1,none⟩=some (.slice A n c)∧w'.cell? ⟨w.heap.size+1,0,none⟩=some (.bool b')∧w'.cell? ⟨w.heap.size+1,1,none⟩=some (.slice A' n' c'))
  (first | exact⟨a0,a1,d0,d1⟩ | exact⟨f0,f1,k0,k1⟩ | exact⟨p0,p1,q0,q1⟩ | exact⟨r0,r1,t0,t1⟩)
  (first
   | (go_at_call_of 67 (Value.agg #[.bool b,.slice A n c]);refine (hk1.out _ (by exact RD1.out)).mono ?_;rintro e w1 ⟨A1,n1,c1,rfl,Q1,B1⟩;have X1:=XD.out.on B1;have R2':=RD2.out.below B1;obtain⟨f0,f1,_⟩:=X1.x1.at_;obtain⟨k0,k1,_⟩:=X1.x2.at_)
   | (go_at_call_of 67 (Value.agg #[.bool b',.slice A' n' c']);refine (hk2.out _ (by exact R2')).mono ?_;rintro e w2 ⟨A2,n2,c2,rfl,Q2,B2⟩;have X2:=X1.on B2;have Q1':=Q1.below B2;obtain⟨p0,p1,_⟩:=X2.x1.at_;obtain⟨q0,q1,_⟩:=X2.x2.at_)
   | (go_at_call 93;refine (rgcd_any _ _ _ (limbs z1.natAbs) _ _ _ (limbs z2.natAbs) _ (by exact Q1') (by exact Q2) (by have:=l1.out;have:=Q1.len;omega) (by have:=l2.out;have:=Q2.len;omega)).mono ?_;rw[num_limbs,num_limbs];rintro e w3 ⟨A3,n3,c3,rfl,Q3,B3⟩;have X3:=X2.on B3;obtain⟨r0,r1,_⟩:=X3.x1.at_;obtain⟨t0,t1,_⟩:=X3.x2.at_))
 all_goals
  have Q5:=Lib.hid Q3;have B5:=Lib.hid X3.bel;clear r0 r1 t0 t1 p0 p1 q0 q1 f0 f1 k0 k1 Q3 X3 X2 X1 Q1 Q2 Q1' B1 B2 B3 R2' a0 a1 a2 a3 d0 d1 d2 d3;go_wp2;go_ret;exact⟨_,_,_,rfl,Q5.out,B5.out⟩
end Go.Proofs.YthlinhconnmbcaaGreat
namespace Go.Proofs.YthlinhconnmbcaaGreat
open Go.RowKit
theorem sg_not (z:Int):sg (!ng z) z.natAbs = -z:=by
 have h:=sg_ng z;generalize z.natAbs=a at *;generalize ng z=p at *;subst h
 cases p<;>simp[sg]
theorem res_opp (W:World) (tmps:Array Value) (g:Nat) {b:Bool} {A:Option Addr} {n c:Nat} (ht:tmps.getD 2 undef=.pointer (some ⟨g,0,none⟩)) (h:Bx W g b A n c) :
  (results Tryz.f102 tmps).run Tryz.prog W=.ok (.agg #[.bool b,.slice A n c]) W:=by
 obtain⟨c0,c1,_⟩:=h.at_;have ht':tmps[2]?.getD undef=.pointer (some ⟨g,0,none⟩):=by rw[←ht];simp[Array.getD_eq_getD_getElem?]
 simp[results,Tryz.results102,go_sem,ht',c0,c1]
theorem oppI_any (b:Bool) (A:Option Addr) (n c:Nat) (xs:List Nat) (w:World) (h:Rd w A n c xs) (hn:n≤100000000) :
  Calls Tryz.prog 102 #[.agg #[.bool b,.slice A n c]] w (RetI (-(iv b xs)) w):=by
 have X:=B2.new w b A n c false none 0 0;have hk:=knownI_any b A n c xs _ (h.below X.bel) (by omega)
 generalize iv b xs=z at hk ⊢;have hs:=Lib.hid (sg_not z);replace hk:=Lib.hid hk;replace X:=Lib.hid X;clear h;go_enter Tryz.func102,Tryz.ntmps102
 go_wp2_with (go_at_call 112;refine hk.out.mono ?_;rintro e w1 ⟨A1,n1,c1,rfl,Q1,B1⟩;refine Hid.out ?_)
 refine Lib.hid ?_
 have X1:=X.out.on B1;obtain⟨a0,a1,a2,a3⟩:=X1.x1.at_;have X2:=X1.put1 (ng z) A1 n1 c1;have Q2:=Lib.hid (Q1.put X1.x1 (.bool (ng z)) (.slice A1 n1 c1));obtain⟨d0,d1,d2,d3⟩:=X2.x1.at_;replace X2:=Lib.hid X2;clear X1 Q1 B1 hk
 go_wp2_with (go_at_call 97;refine (signedI_any _ _ _ _ z.natAbs _ (by exact Q2.out)).mono ?_;rw[hs.out];rintro e w2 ⟨A3,n3,c3,rfl,Q3,B3⟩;refine Hid.out ?_)
 refine Lib.hid ?_
 have X3:=X2.out.on B3;obtain⟨e0,e1,e2,e3⟩:=X3.x2.at_;have X4:=Lib.hid (X3.put2 (ng (-z)) A3 n3 c3);have Q4:=Lib.hid (Q3.put X3.x2 (.bool (ng (-z))) (.slice A3 n3 c3));clear X3 Q3 B3 a0 a1 a2 a3 d0 d1 d2 d3;go_wp2;refine bodyPost_ret (res_opp _ _ (w.heap.size+1) rfl X4.out.x2) rfl ?_
 exact ret_I rfl Q4.out X4.out.bel
theorem res_rneg (W:World) (tmps:Array Value) (g:Nat) {b:Bool} {A:Option Addr} {n c:Nat} (ht:tmps.getD 2 undef=.pointer (some ⟨g,0,none⟩)) (h:Bx W g b A n c) :
  (results Tryz.f69 tmps).run Tryz.prog W=.ok (.agg #[.bool b,.slice A n c]) W:=by
 obtain⟨c0,c1,_⟩:=h.at_;have ht':tmps[2]?.getD undef=.pointer (some ⟨g,0,none⟩):=by rw[←ht];simp[Array.getD_eq_getD_getElem?]
 simp[results,Tryz.results69,go_sem,ht',c0,c1]
theorem rnegI_any (b:Bool) (A:Option Addr) (n c:Nat) (xs:List Nat) (w:World) (h:Rd w A n c xs) (hn:n≤100000000) :
  Calls Tryz.prog 69 #[.agg #[.bool b,.slice A n c]] w (RetI (-(iv b xs)) w):=by
 have X:=B2.new w b A n c false none 0 0;have hk:=takeI_any b A n c xs _ (h.below X.bel) (by omega)
 generalize iv b xs=z at hk ⊢;have hs:=Lib.hid (sg_not z);replace hk:=Lib.hid hk;replace X:=Lib.hid X;clear h;go_enter Tryz.func69,Tryz.ntmps69
 go_wp2_with (go_at_call 67;refine hk.out.mono ?_;rintro e w1 ⟨A1,n1,c1,rfl,Q1,B1⟩;refine Hid.out ?_)
 refine Lib.hid ?_
 have X1:=X.out.on B1;obtain⟨a0,a1,a2,a3⟩:=X1.x1.at_;have X2:=X1.put1 (ng z) A1 n1 c1;have Q2:=Lib.hid (Q1.put X1.x1 (.bool (ng z)) (.slice A1 n1 c1));obtain⟨d0,d1,d2,d3⟩:=X2.x1.at_;replace X2:=Lib.hid X2;clear X1 Q1 B1 hk
 go_wp2_with (go_at_call 73;refine (rsignedI_any _ _ _ _ z.natAbs _ (by exact Q2.out)).mono ?_;rw[hs.out];rintro e w2 ⟨A3,n3,c3,rfl,Q3,B3⟩;refine Hid.out ?_)
 refine Lib.hid ?_
 have X3:=X2.out.on B3;obtain⟨e0,e1,e2,e3⟩:=X3.x2.at_;have X4:=Lib.hid (X3.put2 (ng (-z)) A3 n3 c3);have Q4:=Lib.hid (Q3.put X3.x2 (.bool (ng (-z))) (.slice A3 n3 c3));clear X3 Q3 B3 a0 a1 a2 a3 d0 d1 d2 d3;go_wp2;refine bodyPost_ret (res_rneg _ _ (w.heap.size+1) rfl X4.out.x2) rfl ?_
 exact ret_I rfl Q4.out X4.out.bel
theorem res_neg (W:World) (tmps:Array Value) (g:Nat) {b:Bool} {A:Option Addr} {n c:Nat} (ht:tmps.getD 2 undef=.pointer (some ⟨g,0,none⟩)) (h:Bx W g b A n c) :
  (results Tryz.f81 tmps).run Tryz.prog W=.ok (.agg #[.bool b,.slice A n c]) W:=by
 obtain⟨c0,c1,_⟩:=h.at_;have ht':tmps[2]?.getD undef=.pointer (some ⟨g,0,none⟩):=by rw[←ht];simp[Array.getD_eq_getD_getElem?]
 simp[results,Tryz.results81,go_sem,ht',c0,c1]
theorem negI_any (b:Bool) (A:Option Addr) (n c:Nat) (xs:List Nat) (w:World) (h:Rd w A n c xs) (hn:n≤100000000) :
  Calls Tryz.prog 81 #[.agg #[.bool b,.slice A n c]] w (RetI (-(iv b xs)) w):=by
 have X:=B2.new w b A n c false none 0 0;have hk:=oppI_any b A n c xs _ (h.below X.bel) (by omega)
 have l1:=iv_abs (b:=b) h.sm (Nat.le_of_eq h.len);generalize iv b xs=z at hk l1 ⊢;have l2:Hid ((limbs (-z).natAbs).length≤n):=by rw[Int.natAbs_neg];exact Lib.hid l1
 generalize -z=y at hk l2 ⊢;have hs:=Lib.hid (sg_ng y);replace hk:=Lib.hid hk;replace X:=Lib.hid X;clear h l1 z;go_enter Tryz.func81,Tryz.ntmps81
 go_wp2_with (go_at_call 102;refine hk.out.mono ?_;rintro e w1 ⟨A1,n1,c1,rfl,Q1,B1⟩;refine Hid.out ?_)
 refine Lib.hid ?_
 have hn1:n1≤100000000:=by have:=l2.out;have:=Q1.len;omega
 have X1:=X.out.on B1;obtain⟨a0,a1,a2,a3⟩:=X1.x1.at_;have X2:=X1.put1 (ng y) A1 n1 c1;have Q2:=Q1.put X1.x1 (.bool (ng y)) (.slice A1 n1 c1)
 go_wp2_with fail
 generalize (w1.setCell ⟨w.heap.size,0,none⟩ (.bool (ng y))).setCell ⟨w.heap.size,1,none⟩ (.slice A1 n1 c1)=W2 at X2 Q2 ⊢;obtain⟨d0,d1,d2,d3⟩:=X2.x1.at_;have XD:=Lib.hid X2.drew;have QD:=Lib.hid (Rd.drew1 Q2);clear X1 Q1 B1 hk X2 Q2 a0 a1 a2 a3
 go_region_held3 (fun w'=>w'.cell? ⟨w.heap.size,0,none⟩=some (.bool (ng y))∧w'.cell? ⟨w.heap.size,1,none⟩=some (.slice A1 n1 c1))
  (first | exact⟨d0,d1⟩ | exact⟨f0,f1⟩ | exact⟨p0,p1⟩ | exact⟨r0,r1⟩)
  (first
   | (go_at_call 82;refine (clone_any _ _ _ (limbs y.natAbs) _ (by exact QD.out) (by omega)).mono ?_;rintro e w3 ⟨A3,c3,rfl,Q3,_,B3'⟩;have Y3:=XD.out.on B3';obtain⟨f0,f1,_⟩:=Y3.x1.at_)
   | (go_at_call 97;refine (signedI_any _ _ _ _ y.natAbs _ (by exact Q3)).mono ?_;rw[hs.out];rintro e w4 ⟨A4,n4,c4,rfl,Q4,B4'⟩;have Y4:=Y3.on B4';obtain⟨p0,p1,_⟩:=Y4.x1.at_;obtain⟨v0,v1,v2,v3⟩:=Y4.x2.at_;have Y5:=Y4.put2 (ng y) A4 n4 c4;obtain⟨r0,r1,_⟩:=Y5.x1.at_))
 all_goals
  have Y5':=Lib.hid Y5;have Q5:=Lib.hid (Q4.put Y4.x2 (.bool (ng y)) (.slice A4 n4 c4));clear Y5 Y4 Y3 r0 r1 v0 v1 v2 v3 p0 p1 f0 f1 Q3 Q4 B3' B4';go_wp2;refine bodyPost_ret (res_neg _ _ (w.heap.size+1) rfl Y5'.out.x2) rfl ?_
  exact ret_I rfl Q5.out Y5'.out.bel
end Go.Proofs.YthlinhconnmbcaaGreat
namespace Go.Proofs.YthlinhconnmbcaaGreat
open Go.RowKit
theorem signI_any (b:Bool) (A:Option Addr) (n c:Nat) (xs:List Nat) (w:World) (h:Rd w A n c xs) (hn:n≤100000000) :
  Calls Tryz.prog 89 #[.agg #[.bool b,.slice A n c]] w (fun e w'=>e=.returned (.int .i64 (iv b xs).sign)∧Below w.heap.size w w'):=by
 have X:=Bx.new w b A n c;have Bw:=(Below.refl w.heap.size w).alloc (Nat.le_refl _) (.cells #[.bool b,.slice A n c] 31);have hk:=knownI_any b A n c xs _ (h.below Bw) (by omega)
 generalize iv b xs=z at hk ⊢;replace hk:=Lib.hid hk;replace X:=Lib.hid X;replace Bw:=Lib.hid Bw;clear h
 rcases Int.lt_trichotomy z 0 with hz | hz | hz
 ·have hg:Hid (ng z=true):=Lib.hid (decide_eq_true hz)
  have hs:Hid (z.sign = -1):=Lib.hid (Int.sign_eq_neg_one_of_neg hz);clear hz;go_enter Tryz.func89,Tryz.ntmps89
  go_wp2_with (go_at_call 112;refine hk.out.mono ?_;rintro e w1 ⟨A1,n1,c1,rfl,Q1,B1⟩;rw[hg.out];refine Hid.out ?_)
  refine Lib.hid ?_
  have X1:=X.out.bel B1;have Bz:=Lib.hid (put_below (.bool true) (.slice A1 n1 c1) (Bw.out.trans (B1.mono Bw.out.size)) (Nat.le_refl w.heap.size));obtain⟨a0,a1,a2,a3⟩:=X1.at_;obtain⟨d0,d1,d2,d3⟩:=(X1.put true A1 n1 c1).at_;clear X1 Q1 B1 hk;go_wp2;go_ret;exact⟨by rw[hs.out];rfl,Bz.out⟩
 ·subst hz
  have hg:Hid (ng 0=false):=Lib.hid rfl;go_enter Tryz.func89,Tryz.ntmps89
  go_wp2_with (go_at_call 112;refine hk.out.mono ?_;rintro e w1 ⟨A1,n1,c1,rfl,Q1,B1⟩;rw[hg.out];refine Hid.out ?_)
  refine Lib.hid ?_
  obtain rfl:n1=0:=by have:=Q1.len;rw[show (0:Int).natAbs=0 from rfl,limbs_zero] at this;exact this.symm
  have X1:=X.out.bel B1;have Bz:=Lib.hid (put_below (.bool false) (.slice A1 0 c1) (Bw.out.trans (B1.mono Bw.out.size)) (Nat.le_refl w.heap.size));obtain⟨a0,a1,a2,a3⟩:=X1.at_;obtain⟨d0,d1,d2,d3⟩:=(X1.put false A1 0 c1).at_;clear X1 Q1 B1 hk;go_wp2;go_ret;exact⟨rfl,Bz.out⟩
 ·have hg:Hid (ng z=false):=Lib.hid (decide_eq_false (by omega))
  have hs:Hid (z.sign=1):=Lib.hid (Int.sign_eq_one_of_pos hz);go_enter Tryz.func89,Tryz.ntmps89
  go_wp2_with (go_at_call 112;refine hk.out.mono ?_;rintro e w1 ⟨A1,n1,c1,rfl,Q1,B1⟩;rw[hg.out];refine Hid.out ?_)
  refine Lib.hid ?_
  have hn1:0<n1:=by have:=Q1.len;rw[limbs_pos (by omega)] at this;simp at this;omega
  have hn2:(0:Int)<(n1:Int):=by omega
  have hn3:((n1:Int)==0)=false:=by rw[beq_eq_false_iff_ne];omega
  have X1:=X.out.bel B1;have Bz:=Lib.hid (put_below (.bool false) (.slice A1 n1 c1) (Bw.out.trans (B1.mono Bw.out.size)) (Nat.le_refl w.heap.size));obtain⟨a0,a1,a2,a3⟩:=X1.at_;obtain⟨d0,d1,d2,d3⟩:=(X1.put false A1 n1 c1).at_;clear X1 Q1 B1 hk hz hn1;go_wp2;go_ret;exact⟨by rw[hs.out];rfl,Bz.out⟩
theorem rsignI_any (b:Bool) (A:Option Addr) (n c:Nat) (xs:List Nat) (w:World) (h:Rd w A n c xs) (hn:n≤100000000) :
  Calls Tryz.prog 48 #[.agg #[.bool b,.slice A n c]] w (fun e w'=>e=.returned (.int .i64 (iv b xs).sign)∧Below w.heap.size w w'):=by
 have X:=Bx.new w b A n c;have Bw:=(Below.refl w.heap.size w).alloc (Nat.le_refl _) (.cells #[.bool b,.slice A n c] 31);have hk:=takeI_any b A n c xs _ (h.below Bw) (by omega)
 generalize iv b xs=z at hk ⊢;replace hk:=Lib.hid hk;replace X:=Lib.hid X;replace Bw:=Lib.hid Bw;clear h
 rcases Int.lt_trichotomy z 0 with hz | hz | hz
 ·have hg:Hid (ng z=true):=Lib.hid (decide_eq_true hz)
  have hs:Hid (z.sign = -1):=Lib.hid (Int.sign_eq_neg_one_of_neg hz);clear hz;go_enter Tryz.func48,Tryz.ntmps48
  go_wp2_with (go_at_call 67;refine hk.out.mono ?_;rintro e w1 ⟨A1,n1,c1,rfl,Q1,B1⟩;rw[hg.out];refine Hid.out ?_)
  refine Lib.hid ?_
  have X1:=X.out.bel B1;have Bz:=Lib.hid (put_below (.bool true) (.slice A1 n1 c1) (Bw.out.trans (B1.mono Bw.out.size)) (Nat.le_refl w.heap.size));obtain⟨a0,a1,a2,a3⟩:=X1.at_;obtain⟨d0,d1,d2,d3⟩:=(X1.put true A1 n1 c1).at_;clear X1 Q1 B1 hk;go_wp2;go_ret;exact⟨by rw[hs.out];rfl,Bz.out⟩
 ·subst hz
  have hg:Hid (ng 0=false):=Lib.hid rfl;go_enter Tryz.func48,Tryz.ntmps48
  go_wp2_with (go_at_call 67;refine hk.out.mono ?_;rintro e w1 ⟨A1,n1,c1,rfl,Q1,B1⟩;rw[hg.out];refine Hid.out ?_)
  refine Lib.hid ?_
  obtain rfl:n1=0:=by have:=Q1.len;rw[show (0:Int).natAbs=0 from rfl,limbs_zero] at this;exact this.symm
  have X1:=X.out.bel B1;have Bz:=Lib.hid (put_below (.bool false) (.slice A1 0 c1) (Bw.out.trans (B1.mono Bw.out.size)) (Nat.le_refl w.heap.size));obtain⟨a0,a1,a2,a3⟩:=X1.at_;obtain⟨d0,d1,d2,d3⟩:=(X1.put false A1 0 c1).at_;clear X1 Q1 B1 hk;go_wp2;go_ret;exact⟨rfl,Bz.out⟩
 ·have hg:Hid (ng z=false):=Lib.hid (decide_eq_false (by omega))
  have hs:Hid (z.sign=1):=Lib.hid (Int.sign_eq_one_of_pos hz);go_enter Tryz.func48,Tryz.ntmps48
  go_wp2_with (go_at_call 67;refine hk.out.mono ?_;rintro e w1 ⟨A1,n1,c1,rfl,Q1,B1⟩;rw[hg.out];refine Hid.out ?_)
  refine Lib.hid ?_
  have hn1:0<n1:=by have:=Q1.len;rw[limbs_pos (by omega)] at this;simp at this;omega
  have hn2:(0:Int)<(n1:Int):=by omega
  have hn3:((n1:Int)==0)=false:=by rw[beq_eq_false_iff_ne];omega
  have X1:=X.out.bel B1;have Bz:=Lib.hid (put_below (.bool false) (.slice A1 n1 c1) (Bw.out.trans (B1.mono Bw.out.size)) (Nat.le_refl w.heap.size));obtain⟨a0,a1,a2,a3⟩:=X1.at_;obtain⟨d0,d1,d2,d3⟩:=(X1.put false A1 n1 c1).at_;clear X1 Q1 B1 hk hz hn1;go_wp2;go_ret;exact⟨by rw[hs.out];rfl,Bz.out⟩
end Go.Proofs.YthlinhconnmbcaaGreat
namespace Go.Proofs.YthlinhconnmbcaaGreat
open Go.RowKit
theorem res_rmul (W:World) (tmps:Array Value) (g:Nat) {b:Bool} {A:Option Addr} {n c:Nat} (ht:tmps.getD 4 undef=.pointer (some ⟨g,0,none⟩)) (h:Bx W g b A n c) :
  (results Tryz.f46 tmps).run Tryz.prog W=.ok (.agg #[.bool b,.slice A n c]) W:=by
 obtain⟨c0,c1,_⟩:=h.at_;have ht':tmps[4]?.getD undef=.pointer (some ⟨g,0,none⟩):=by rw[←ht];simp[Array.getD_eq_getD_getElem?]
 simp[results,Tryz.results46,go_sem,ht',c0,c1]
theorem rmulI_any (b:Bool) (A:Option Addr) (n c:Nat) (xs:List Nat) (b':Bool) (A':Option Addr) (n' c':Nat) (ys:List Nat) (w:World) (h1:Rd w A n c xs) (h2:Rd w A' n' c' ys) (hn:n≤50000000) (hn':n'≤50000000) :
  Calls Tryz.prog 46 #[.agg #[.bool b,.slice A n c],.agg #[.bool b',.slice A' n' c']] w (RetI ((iv b xs)*(iv b' ys)) w):=by
 have hk1:=fun W (h:Rd W A n c xs)=>takeI_any b A n c xs W h (by omega)
 have hk2:=fun W (h:Rd W A' n' c' ys)=>takeI_any b' A' n' c' ys W h (by omega)
 have l1:=iv_abs (b:=b) h1.sm (Nat.le_of_eq h1.len);have l2:=iv_abs (b:=b') h2.sm (Nat.le_of_eq h2.len);generalize iv b xs=z1 at *;generalize iv b' ys=z2 at *;replace hk1:=Lib.hid hk1;replace hk2:=Lib.hid hk2;replace l1:=Lib.hid l1;replace l2:=Lib.hid l2;have X:=B3.new w b A n c b' A' n' c' false none 0 0;have R1:=h1.below X.bel;have R2:=h2.below X.bel;clear h1 h2;go_enter Tryz.func46,Tryz.ntmps46
 go_upto_region 1 with fail
 generalize ((w.alloc (.cells #[.bool b,.slice A n c] 31)).alloc (.cells #[.bool b',.slice A' n' c'] 31)).alloc (.cells #[.bool false,.slice none 0 0] 31)=W0 at X R1 R2 ⊢;obtain⟨a0,a1,a2,a3⟩:=X.x1.at_;obtain⟨d0,d1,d2,d3⟩:=X.x2.at_;replace X:=Lib.hid X;replace R1:=Lib.hid R1;replace R2:=Lib.hid R2
 go_cut [] (fun wx=>∃ A1 n1 c1 A2 n2 c2,B3 w wx (ng z1) A1 n1 c1 (ng z2) A2 n2 c2 false none 0 0∧Rd wx A1 n1 c1 (limbs z1.natAbs)∧Rd wx A2 n2 c2 (limbs z2.natAbs))
 case first=>
  have XD:=Lib.hid X.out.drew;have RD1:=Lib.hid (Rd.drew1 R1.out);have RD2:=Lib.hid (Rd.drew1 R2.out)
  go_region_with (first
   | (go_at_call_of 67 (Value.agg #[.bool b,.slice A n c]);refine (hk1.out _ (by exact RD1.out)).mono ?_;rintro e w1 ⟨A1,n1,c1,rfl,Q1,B1⟩;have X1:=XD.out.on B1;have R2':=RD2.out.below B1;obtain⟨d0',d1',d2',d3'⟩:=X1.x2.at_)
   | (go_at_call_of 67 (Value.agg #[.bool b',.slice A' n' c']);refine (hk2.out _ (by exact R2')).mono ?_;rintro e w2 ⟨A2,n2,c2,rfl,Q2,B2⟩;have X2:=X1.on B2;obtain⟨f0,f1,f2,f3⟩:=X2.x1.at_;obtain⟨k0,k1,k2,k3⟩:=X2.x2.at_))
  all_goals
   have Y:=Lib.hid (X2.two_puts (ng z1) A1 n1 c1 (ng z2) A2 n2 c2);have P1:=Lib.hid (((Q1.below B2).put X2.x1 (.bool (ng z1)) (.slice A1 n1 c1)).put (X2.put1 (ng z1) A1 n1 c1).x2 (.bool (ng z2)) (.slice A2 n2 c2));have P2:=Lib.hid ((Q2.put X2.x1 (.bool (ng z1)) (.slice A1 n1 c1)).put (X2.put1 (ng z1) A1 n1 c1).x2 (.bool (ng z2)) (.slice A2 n2 c2));clear a0 a1 a2 a3 d0 d1 d2 d3 d0' d1' d2' d3' f0 f1 f2 f3 k0 k1 k2 k3 Q1 Q2 B1 B2 X1 X2 R2'
   go_wp2_with fail
   go_meet
   exact⟨_,_,_,_,_,_,Y.out,P1.out,P2.out⟩
 case rest=>
  obtain⟨A1,n1,c1,A2,n2,c2,Y,P1,P2⟩:=hcut;clear X R1 R2 a0 a1 a2 a3 d0 d1 d2 d3 hk1 hk2;have hl1:n1≤50000000:=by have:=l1.out;have:=P1.len;omega
  have hl2:n2≤50000000:=by have:=l2.out;have:=P2.len;omega
  obtain⟨a0,a1,a2,a3⟩:=Y.x1.at_;obtain⟨d0,d1,d2,d3⟩:=Y.x2.at_;have hs:=Lib.hid (show sg (!(ng z1==ng z2)) (z1.natAbs*z2.natAbs)=z1*z2 from sg_mul z1 z2)
  have YD:=Lib.hid Y.drew;have P1D:=Lib.hid (Rd.drew1 P1);have P2D:=Lib.hid (Rd.drew1 P2);clear Y P1 P2
  go_wp2_with fail
  go_region_held3 (fun w'=>w'.cell? ⟨w.heap.size,0,none⟩=some (.bool (ng z1))∧w'.cell? ⟨w.heap.size,1,none⟩=some (.slice A1 n1 c1)∧w'.cell? ⟨w.heap.size+1,0,none⟩=some (.bool (ng z2))∧w'.cell? ⟨w.heap.size+1,1,none⟩=some (.slice A2 n2 c2))
   (first | exact⟨a0,a1,d0,d1⟩ | exact⟨f0,f1,k0,k1⟩ | exact⟨p0,p1,q0,q1⟩ | exact⟨r0,r1,t0,t1⟩)
   (first
    | (go_at_call 74;refine (rmul_any _ _ _ (limbs z1.natAbs) _ _ _ (limbs z2.natAbs) _ (by exact P1D.out) (by exact P2D.out) (by omega) (by omega)).mono ?_;rw[num_limbs,num_limbs];rintro e w3 ⟨A3,n3,c3,rfl,Q3,B3'⟩;have Y3:=YD.out.on B3';obtain⟨f0,f1,_⟩:=Y3.x1.at_;obtain⟨k0,k1,_⟩:=Y3.x2.at_)
    | (go_at_call 73;refine (rsignedI_any _ _ _ _ (z1.natAbs*z2.natAbs) _ (by exact Q3)).mono ?_;rw[hs.out];rintro e w4 ⟨A4,n4,c4,rfl,Q4,B4'⟩;have Y4:=Y3.on B4';obtain⟨p0,p1,_⟩:=Y4.x1.at_;obtain⟨q0,q1,_⟩:=Y4.x2.at_;obtain⟨v0,v1,v2,v3⟩:=Y4.x3.at_;have Y5:=Y4.put3 (ng (z1*z2)) A4 n4 c4;obtain⟨r0,r1,_⟩:=Y5.x1.at_;obtain⟨t0,t1,_⟩:=Y5.x2.at_))
  all_goals
   have Y5':=Lib.hid Y5;have Q5:=Lib.hid (Q4.put Y4.x3 (.bool (ng (z1*z2))) (.slice A4 n4 c4));clear Y5 Y4 Y3 r0 r1 t0 t1 v0 v1 v2 v3 p0 p1 q0 q1 f0 f1 k0 k1 Q3 Q4 B3' B4';go_wp2;refine bodyPost_ret (res_rmul _ _ (w.heap.size+1+1) rfl Y5'.out.x3) rfl ?_
   exact ret_I rfl Q5.out Y5'.out.bel
end Go.Proofs.YthlinhconnmbcaaGreat
namespace Go.Proofs.YthlinhconnmbcaaGreat
open Go.RowKit
theorem sg_add {x y:Int} (h:ng x=ng y):sg (ng x) (x.natAbs+y.natAbs)=x+y:=by
 have hx:=sg_ng x;have hy:=sg_ng y;rw[←h] at hy;generalize x.natAbs=a at *;generalize y.natAbs=b at *;generalize ng x=p at *;subst hx hy
 cases p<;>simp[sg]<;>omega
theorem sg_sub1 {x y:Int} (h:¬ ng x=ng y) (hle:y.natAbs≤x.natAbs):sg (ng x) (x.natAbs-y.natAbs)=x+y:=by
 unfold ng at h;unfold sg ng
 by_cases hx:x<0<;>by_cases hy:y<0<;>simp[hx,hy] at h ⊢<;>omega
theorem sg_sub2 {x y:Int} (h:¬ ng x=ng y) (hle:x.natAbs≤y.natAbs):sg (ng y) (y.natAbs-x.natAbs)=x+y:=by
 unfold ng at h;unfold sg ng
 by_cases hx:x<0<;>by_cases hy:y<0<;>simp[hx,hy] at h ⊢<;>omega
theorem res_add (W:World) (tmps:Array Value) (g:Nat) {b:Bool} {A:Option Addr} {n c:Nat} (ht:tmps.getD 4 undef=.pointer (some ⟨g,0,none⟩)) (h:Bx W g b A n c) :
  (results Tryz.f111 tmps).run Tryz.prog W=.ok (.agg #[.bool b,.slice A n c]) W:=by
 obtain⟨c0,c1,_⟩:=h.at_;have ht':tmps[4]?.getD undef=.pointer (some ⟨g,0,none⟩):=by rw[←ht];simp[Array.getD_eq_getD_getElem?]
 simp[results,Tryz.results111,go_sem,ht',c0,c1]
theorem addI_any (b:Bool) (A:Option Addr) (n c:Nat) (xs:List Nat) (b':Bool) (A':Option Addr) (n' c':Nat) (ys:List Nat) (w:World) (h1:Rd w A n c xs) (h2:Rd w A' n' c' ys) (hn:n≤50000000) (hn':n'≤50000000) :
  Calls Tryz.prog 111 #[.agg #[.bool b,.slice A n c],.agg #[.bool b',.slice A' n' c']] w (RetI ((iv b xs)+(iv b' ys)) w):=by
 have hk1:=fun W (h:Rd W A n c xs)=>knownI_any b A n c xs W h (by omega)
 have hk2:=fun W (h:Rd W A' n' c' ys)=>knownI_any b' A' n' c' ys W h (by omega)
 have l1:=iv_abs (b:=b) h1.sm (Nat.le_of_eq h1.len);have l2:=iv_abs (b:=b') h2.sm (Nat.le_of_eq h2.len);generalize iv b xs=z1 at *;generalize iv b' ys=z2 at *;replace hk1:=Lib.hid hk1;replace hk2:=Lib.hid hk2;replace l1:=Lib.hid l1;replace l2:=Lib.hid l2;have X:=B3.new w b A n c b' A' n' c' false none 0 0;have R1:=h1.below X.bel;have R2:=h2.below X.bel;clear h1 h2;go_enter Tryz.func111,Tryz.ntmps111
 go_upto_region 1 with fail
 generalize ((w.alloc (.cells #[.bool b,.slice A n c] 31)).alloc (.cells #[.bool b',.slice A' n' c'] 31)).alloc (.cells #[.bool false,.slice none 0 0] 31)=W0 at X R1 R2 ⊢;obtain⟨a0,a1,a2,a3⟩:=X.x1.at_;obtain⟨d0,d1,d2,d3⟩:=X.x2.at_;replace X:=Lib.hid X;replace R1:=Lib.hid R1;replace R2:=Lib.hid R2
 go_cut [] (fun wx=>∃ A1 n1 c1 A2 n2 c2,B3 w wx (ng z1) A1 n1 c1 (ng z2) A2 n2 c2 false none 0 0∧Rd wx A1 n1 c1 (limbs z1.natAbs)∧Rd wx A2 n2 c2 (limbs z2.natAbs))
 case first=>
  have XD:=Lib.hid X.out.drew;have RD1:=Lib.hid (Rd.drew1 R1.out);have RD2:=Lib.hid (Rd.drew1 R2.out)
  go_region_with (first
   | (go_at_call_of 112 (Value.agg #[.bool b,.slice A n c]);refine (hk1.out _ (by exact RD1.out)).mono ?_;rintro e w1 ⟨A1,n1,c1,rfl,Q1,B1⟩;have X1:=XD.out.on B1;have R2':=RD2.out.below B1;obtain⟨d0',d1',d2',d3'⟩:=X1.x2.at_)
   | (go_at_call_of 112 (Value.agg #[.bool b',.slice A' n' c']);refine (hk2.out _ (by exact R2')).mono ?_;rintro e w2 ⟨A2,n2,c2,rfl,Q2,B2⟩;have X2:=X1.on B2;obtain⟨f0,f1,f2,f3⟩:=X2.x1.at_;obtain⟨k0,k1,k2,k3⟩:=X2.x2.at_))
  all_goals
   have Y:=Lib.hid (X2.two_puts (ng z1) A1 n1 c1 (ng z2) A2 n2 c2);have P1:=Lib.hid (((Q1.below B2).put X2.x1 (.bool (ng z1)) (.slice A1 n1 c1)).put (X2.put1 (ng z1) A1 n1 c1).x2 (.bool (ng z2)) (.slice A2 n2 c2));have P2:=Lib.hid ((Q2.put X2.x1 (.bool (ng z1)) (.slice A1 n1 c1)).put (X2.put1 (ng z1) A1 n1 c1).x2 (.bool (ng z2)) (.slice A2 n2 c2));clear a0 a1 a2 a3 d0 d1 d2 d3 d0' d1' d2' d3' f0 f1 f2 f3 k0 k1 k2 k3 Q1 Q2 B1 B2 X1 X2 R2'
   go_wp2_with fail
   go_meet
   exact⟨_,_,_,_,_,_,Y.out,P1.out,P2.out⟩
 case rest=>
  obtain⟨A1,n1,c1,A2,n2,c2,Y,P1,P2⟩:=hcut;clear X R1 R2 a0 a1 a2 a3 d0 d1 d2 d3 hk1 hk2;have hl1:n1≤50000000:=by have:=l1.out;have:=P1.len;omega
  have hl2:n2≤50000000:=by have:=l2.out;have:=P2.len;omega
  obtain⟨a0,a1,a2,a3⟩:=Y.x1.at_;obtain⟨d0,d1,d2,d3⟩:=Y.x2.at_
  by_cases hs:ng z1=ng z2
  ·have hq:(ng z1==ng z2)=true:=by rw[hs];simp
   have hsum:=Lib.hid (sg_add hs);clear hs;have YD:=Lib.hid Y.drew;have P1D:=Lib.hid (Rd.drew1 P1);have P2D:=Lib.hid (Rd.drew1 P2);clear Y P1 P2
   go_wp2_with fail
   go_region_held3 (fun w'=>w'.cell? ⟨w.heap.size,0,none⟩=some (.bool (ng z1))∧w'.cell? ⟨w.heap.size,1,none⟩=some (.slice A1 n1 c1)∧w'.cell? ⟨w.heap.size+1,0,none⟩=some (.bool (ng z2))∧w'.cell? ⟨w.heap.size+1,1,none⟩=some (.slice A2 n2 c2))
    (first | exact⟨a0,a1,d0,d1⟩ | exact⟨f0,f1,k0,k1⟩ | exact⟨p0,p1,q0,q1⟩ | exact⟨r0,r1,t0,t1⟩)
    (first
     | (go_at_call 125;refine (add_any _ _ _ (limbs z1.natAbs) _ _ _ (limbs z2.natAbs) _ (by exact P1D.out) (by exact P2D.out) (by omega) (by omega)).mono ?_;rw[num_limbs,num_limbs];rintro e w3 ⟨A3,n3,c3,rfl,Q3,B3'⟩;have Y3:=YD.out.on B3';obtain⟨f0,f1,_⟩:=Y3.x1.at_;obtain⟨k0,k1,_⟩:=Y3.x2.at_)
     | (go_at_call 97;refine (signedI_any _ _ _ _ (z1.natAbs+z2.natAbs) _ (by exact Q3)).mono ?_;rw[hsum.out];rintro e w4 ⟨A4,n4,c4,rfl,Q4,B4'⟩;have Y4:=Y3.on B4';obtain⟨p0,p1,_⟩:=Y4.x1.at_;obtain⟨q0,q1,_⟩:=Y4.x2.at_;obtain⟨v0,v1,v2,v3⟩:=Y4.x3.at_;have Y5:=Y4.put3 (ng (z1+z2)) A4 n4 c4;obtain⟨r0,r1,_⟩:=Y5.x1.at_;obtain⟨t0,t1,_⟩:=Y5.x2.at_))
   all_goals
    have Y5':=Lib.hid Y5;have Q5:=Lib.hid (Q4.put Y4.x3 (.bool (ng (z1+z2))) (.slice A4 n4 c4));clear Y5 Y4 Y3 r0 r1 t0 t1 v0 v1 v2 v3 p0 p1 q0 q1 f0 f1 k0 k1 Q3 Q4 B3' B4';go_wp2;refine bodyPost_ret (res_add _ _ (w.heap.size+1+1) rfl Y5'.out.x3) rfl ?_
    exact ret_I rfl Q5.out Y5'.out.bel
  ·have hq:(ng z1==ng z2)=false:=by rw[beq_eq_false_iff_ne];exact hs
   have hg1:=@sg_sub1 z1 z2 hs;have hg2:=@sg_sub2 z1 z2 hs;clear hs
   rcases Nat.lt_or_ge z1.natAbs z2.natAbs with hle | hle
   ·replace hg2:=Lib.hid (hg2 (Nat.le_of_lt hle))
    clear hg1;have hd1:=Lib.hid (sub_lt_b _ _ _ _ _ _ _ _ _ P1 P2 (by omega) (by omega) hle)
    go_wp2_with (go_at_call 126;refine hd1.out.mono ?_;rintro e w3 ⟨rfl,B3'⟩;refine Hid.out ?_)
    refine Lib.hid ?_
    have hd2:=Lib.hid (sub_ge_b _ _ _ _ _ _ _ _ _ 100000000 (P2.below B3') (P1.below B3') (by omega) (by omega) (by omega) (Nat.le_of_lt hle))
    replace Y:=Y.on B3';obtain⟨u0,u1,u2,u3⟩:=Y.x1.at_;obtain⟨y0,y1,y2,y3⟩:=Y.x2.at_;clear hd1 P1 P2 a0 a1 a2 a3 d0 d1 d2 d3 B3' hle;have P1:True:=trivial;have P2:True:=trivial;have a0:True:=trivial;have a1:True:=trivial;have a2:True:=trivial;have a3:True:=trivial;have d0:True:=trivial;have d1:True:=trivial;have d2:True:=trivial;have d3:True:=trivial;replace Y:=Lib.hid Y
    go_wp2_with (go_at_call 126;refine hd2.out.mono ?_;rintro e w4 ⟨A3,n3,c3,rfl,Q3,B3',_⟩;refine Hid.out ?_)
    replace Y:=Y.out;clear u0 u1 u2 u3 y0 y1 y2 y3;refine Lib.hid ?_
    have Y3:=Y.on B3';obtain⟨f0,f1,f2,f3⟩:=Y3.x1.at_;obtain⟨k0,k1,k2,k3⟩:=Y3.x2.at_;clear Y P1 P2 a0 a1 a2 a3 d0 d1 d2 d3 B3';replace Y3:=Lib.hid Y3;replace Q3:=Lib.hid Q3
    go_wp2_with (go_at_call 97;refine (signedI_any _ _ _ _ (z2.natAbs-z1.natAbs) _ (by exact Q3.out)).mono ?_;rw[hg2.out];rintro e w5 ⟨A4,n4,c4,rfl,Q4,B4'⟩;refine Hid.out ?_)
    refine Lib.hid ?_
    have Y4:=Y3.out.on B4';obtain⟨v0,v1,v2,v3⟩:=Y4.x3.at_;have Y5:=Lib.hid (Y4.put3 (ng (z1+z2)) A4 n4 c4);have Q5:=Lib.hid (Q4.put Y4.x3 (.bool (ng (z1+z2))) (.slice A4 n4 c4));clear Y4 Q4 B4' Y3 Q3 f0 f1 f2 f3 k0 k1 k2 k3;go_wp2;refine bodyPost_ret (res_add _ _ (w.heap.size+1+1) rfl Y5.out.x3) rfl ?_
    exact ret_I rfl Q5.out Y5.out.bel
   ·replace hg1:=Lib.hid (hg1 hle)
    clear hg2;have hd1:=Lib.hid (sub_ge_b _ _ _ _ _ _ _ _ _ 100000000 P1 P2 (by omega) (by omega) (by omega) hle)
    replace hle:=Lib.hid hle;replace Y:=Lib.hid Y;replace P1:=Lib.hid P1;replace P2:=Lib.hid P2
    go_wp2_with (go_at_call 126;refine hd1.out.mono ?_;rintro e w3 ⟨A3,n3,c3,rfl,Q3,B3',_⟩;refine Hid.out ?_)
    replace Y:=Y.out;refine Lib.hid ?_
    have Y3:=Y.on B3';obtain⟨f0,f1,f2,f3⟩:=Y3.x1.at_;obtain⟨k0,k1,k2,k3⟩:=Y3.x2.at_;clear Y P1 P2 a0 a1 a2 a3 d0 d1 d2 d3 B3';replace Y3:=Lib.hid Y3;replace Q3:=Lib.hid Q3
    go_wp2_with (go_at_call 97;refine (signedI_any _ _ _ _ (z1.natAbs-z2.natAbs) _ (by exact Q3.out)).mono ?_;rw[hg1.out];rintro e w5 ⟨A4,n4,c4,rfl,Q4,B4'⟩;refine Hid.out ?_)
    refine Lib.hid ?_
    have Y4:=Y3.out.on B4';obtain⟨v0,v1,v2,v3⟩:=Y4.x3.at_;have Y5:=Lib.hid (Y4.put3 (ng (z1+z2)) A4 n4 c4);have Q5:=Lib.hid (Q4.put Y4.x3 (.bool (ng (z1+z2))) (.slice A4 n4 c4));clear Y4 Q4 B4' Y3 Q3 f0 f1 f2 f3 k0 k1 k2 k3;go_wp2;refine bodyPost_ret (res_add _ _ (w.heap.size+1+1) rfl Y5.out.x3) rfl ?_
    exact ret_I rfl Q5.out Y5.out.bel
end Go.Proofs.YthlinhconnmbcaaGreat
