/- Lehmer's steps: plain lemmas. Contracts of reduce and of natural.Gcd. Contracts of the reference's Root and Power and of natural.Power. -/
import Derived.Test.YtdeedofmflelfaaGreatDoorQWvz
import Derived.Deep.RegionHeld3
import Derived.Test.YtdeedofmflelfaaGreatDoorQWqz
namespace Go.Proofs.YtdeedofmflelfaaGreatDoor
theorem inv_even {xh yh r s a b c d:Nat} (h:Inv xh yh r s a b c d false):a*xh=r+b*yh∧d*yh=s+c*xh:=by
 have h1:=h.ex
 have h2:=h.ey
 have h3:a*d=b*c+1:=by have:=h.det;simpa using this
 constructor
 ·rw[←h1,←h2,Nat.mul_add,Nat.mul_add,←Nat.mul_assoc,←Nat.mul_assoc,←Nat.mul_assoc,←Nat.mul_assoc,h3,Nat.add_mul,Nat.one_mul,Nat.mul_comm a b];omega
 ·rw[←h1,←h2,Nat.mul_add,Nat.mul_add,←Nat.mul_assoc,←Nat.mul_assoc,←Nat.mul_assoc,←Nat.mul_assoc,Nat.mul_comm d a,h3,Nat.add_mul,Nat.one_mul,Nat.mul_comm d c,Nat.mul_comm c b];omega
theorem inv_odd {xh yh r s a b c d:Nat} (h:Inv xh yh r s a b c d true):b*yh=r+a*xh∧c*xh=s+d*yh:=by
 have h1:=h.ex
 have h2:=h.ey
 have h3:b*c=a*d+1:=by have:=h.det;simpa using this
 constructor
 ·rw[←h1,←h2,Nat.mul_add,Nat.mul_add,←Nat.mul_assoc,←Nat.mul_assoc,←Nat.mul_assoc,←Nat.mul_assoc,h3,Nat.add_mul,Nat.one_mul,Nat.mul_comm a b];omega
 ·rw[←h1,←h2,Nat.mul_add,Nat.mul_add,←Nat.mul_assoc,←Nat.mul_assoc,←Nat.mul_assoc,←Nat.mul_assoc,Nat.mul_comm c b,h3,Nat.add_mul,Nat.one_mul,Nat.mul_comm d c,Nat.mul_comm d a];omega
theorem comb {X Y X' Y' a b c d:Nat} (h:(X'+b*Y=a*X∧Y'+c*X=d*Y∧a*d=b*c+1)∨(X'+a*X=b*Y∧Y'+d*Y=c*X∧b*c=a*d+1)) :
  d*X'+b*Y'=X∧c*X'+a*Y'=Y:=by
 rcases h with ⟨h1,h2,h3⟩ | ⟨h1,h2,h3⟩
 ·have e1:d*X'+d*(b*Y)=a*d*X:=by rw[←Nat.mul_add,h1,←Nat.mul_assoc,Nat.mul_comm d a]
  have e2:b*Y'+b*c*X=d*(b*Y):=by rw[Nat.mul_assoc,←Nat.mul_add,h2,Nat.mul_left_comm]
  have e3:c*X'+b*c*Y=a*(c*X):=by rw[Nat.mul_comm b c,Nat.mul_assoc,←Nat.mul_add,h1,Nat.mul_left_comm]
  have e4:a*Y'+a*(c*X)=a*d*Y:=by rw[←Nat.mul_add,h2,Nat.mul_assoc]
  rw[h3,Nat.add_mul,Nat.one_mul] at e1 e4
  omega
 ·have e1:d*X'+a*d*X=d*(b*Y):=by rw[Nat.mul_comm a d,Nat.mul_assoc,←Nat.mul_add,h1]
  have e2:b*Y'+d*(b*Y)=b*c*X:=by rw[Nat.mul_left_comm,←Nat.mul_add,h2,Nat.mul_assoc]
  have e3:c*X'+a*(c*X)=b*c*Y:=by rw[Nat.mul_left_comm,←Nat.mul_add,h1,←Nat.mul_assoc,Nat.mul_comm c b]
  have e4:a*Y'+a*d*Y=a*(c*X):=by rw[Nat.mul_assoc,←Nat.mul_add,h2]
  rw[h3,Nat.add_mul,Nat.one_mul] at e2 e3
  omega
theorem gcd_comb {X Y X' Y' a b c d:Nat} (h:(X'+b*Y=a*X∧Y'+c*X=d*Y)∨(X'+a*X=b*Y∧Y'+d*Y=c*X)) (e1:d*X'+b*Y'=X) (e2:c*X'+a*Y'=Y):Nat.gcd X' Y'=Nat.gcd X Y:=by
 apply Nat.dvd_antisymm
 ·apply Nat.dvd_gcd
  ·rw[←e1];exact Nat.dvd_add (Nat.dvd_mul_left_of_dvd (Nat.gcd_dvd_left _ _) _) (Nat.dvd_mul_left_of_dvd (Nat.gcd_dvd_right _ _) _)
  ·rw[←e2];exact Nat.dvd_add (Nat.dvd_mul_left_of_dvd (Nat.gcd_dvd_left _ _) _) (Nat.dvd_mul_left_of_dvd (Nat.gcd_dvd_right _ _) _)
 ·have gx:∀ k,Nat.gcd X Y∣k*X:=fun k=>Nat.dvd_mul_left_of_dvd (Nat.gcd_dvd_left _ _) _
  have gy:∀ k,Nat.gcd X Y∣k*Y:=fun k=>Nat.dvd_mul_left_of_dvd (Nat.gcd_dvd_right _ _) _
  rcases h with ⟨h1,h2⟩ | ⟨h1,h2⟩
  ·apply Nat.dvd_gcd
   ·exact (Nat.dvd_add_iff_left (gy b)).2 (by rw[h1];exact gx a)
   ·exact (Nat.dvd_add_iff_left (gx c)).2 (by rw[h2];exact gy d)
  ·apply Nat.dvd_gcd
   ·exact (Nat.dvd_add_iff_left (gx a)).2 (by rw[h1];exact gy b)
   ·exact (Nat.dvd_add_iff_left (gy d)).2 (by rw[h2];exact gx c)
/-- What two later members of Euclid's sequence are. -/
structure Later (X Y X' Y':Nat):Prop where
 gcd:Nat.gcd X' Y'=Nat.gcd X Y
 le:Y'≤X'
 lt:X'+Y'<X+Y
 lx:X'≤X
theorem later_of {X Y X' Y' a b c d:Nat} (hX:0<X) (hle:Y'≤X') (hb:1≤b) (hc:1≤c) (hd:1≤d)
  (h:(X'+b*Y=a*X∧Y'+c*X=d*Y∧a*d=b*c+1)∨(X'+a*X=b*Y∧Y'+d*Y=c*X∧b*c=a*d+1)):Later X Y X' Y':=by
 obtain⟨e1,e2⟩:=comb h
 have h':(X'+b*Y=a*X∧Y'+c*X=d*Y)∨(X'+a*X=b*Y∧Y'+d*Y=c*X):=by
  rcases h with ⟨p,q,_⟩ | ⟨p,q,_⟩
  ·exact .inl ⟨p,q⟩
  ·exact .inr ⟨p,q⟩
 have m1:X'≤d*X':=Nat.le_mul_of_pos_left X' (by omega)
 have m2:Y'≤b*Y':=Nat.le_mul_of_pos_left Y' (by omega)
 have m3:X'≤c*X':=Nat.le_mul_of_pos_left X' (by omega)
 have hx0:0<X':=by
  rcases Nat.eq_zero_or_pos X' with h0 | h0
  ·have hy0:Y'=0:=by omega
   rw[h0,hy0,Nat.mul_zero,Nat.mul_zero] at e1;omega
  ·exact h0
 exact⟨gcd_comb h' e1 e2,hle,by omega,by omega⟩
theorem lehmer_even {X Y T xl yl r s a b c d xh yh:Nat} (hX:X=xh*T+xl) (hxl:xl<T) (hY:Y=yh*T+yl) (hyl:yl<T) (h:Inv xh yh r s a b c d false) (hb:1≤b) (hc:1≤c) (hds:d≤s) (hr:b+d+s≤r) :
  ∃ X' Y',X'+b*Y=a*X∧Y'+c*X=d*Y∧Later X Y X' Y':=by
 obtain⟨e1,e2⟩:=inv_even h
 have f1:a*X=r*T+b*yh*T+a*xl:=by rw[hX,Nat.mul_add,←Nat.mul_assoc,e1,Nat.add_mul]
 have f2:b*Y=b*yh*T+b*yl:=by rw[hY,Nat.mul_add,←Nat.mul_assoc]
 have f3:d*Y=s*T+c*xh*T+d*yl:=by rw[hY,Nat.mul_add,←Nat.mul_assoc,e2,Nat.add_mul]
 have f4:c*X=c*xh*T+c*xl:=by rw[hX,Nat.mul_add,←Nat.mul_assoc]
 have g1:b*yl≤b*T:=Nat.mul_le_mul_left b (by omega)
 have g2:c*xl≤c*T:=Nat.mul_le_mul_left c (by omega)
 have g3:d*yl≤d*T:=Nat.mul_le_mul_left d (by omega)
 have g4:b*T+d*T+s*T≤r*T:=by rw[←Nat.add_mul,←Nat.add_mul];exact Nat.mul_le_mul_right T hr
 have g5:c*T≤d*T:=Nat.mul_le_mul_right T h.cd
 have g6:d*T≤s*T:=Nat.mul_le_mul_right T hds
 have hX0:0<X:=by
  have h1:=h.ex
  have h2:=Nat.mul_pos (show 0<d by have:=h.d1;omega) (show 0<r by omega)
  have h3:=Nat.mul_pos (show 0<xh by omega) (show 0<T by omega)
  omega
 obtain⟨X',hX'⟩:∃ X',X'+b*Y=a*X:=⟨a*X-b*Y,by omega⟩
 obtain⟨Y',hY'⟩:∃ Y',Y'+c*X=d*Y:=⟨d*Y-c*X,by omega⟩
 refine⟨X',Y',hX',hY',later_of hX0 (by omega) hb hc h.d1 (.inl ⟨hX',hY',by have:=h.det;simpa using this⟩)⟩
theorem lehmer_odd {X Y T xl yl r s a b c d xh yh:Nat} (hX:X=xh*T+xl) (hxl:xl<T) (hY:Y=yh*T+yl) (hyl:yl<T) (h:Inv xh yh r s a b c d true) (hb:1≤b) (ha:a≤b) (hc:1≤c) (hds:d≤s) (hr:b+d+s≤r) :
  ∃ X' Y',X'+a*X=b*Y∧Y'+d*Y=c*X∧Later X Y X' Y':=by
 obtain⟨e1,e2⟩:=inv_odd h
 have f1:a*X=a*xh*T+a*xl:=by rw[hX,Nat.mul_add,←Nat.mul_assoc]
 have f2:b*Y=r*T+a*xh*T+b*yl:=by rw[hY,Nat.mul_add,←Nat.mul_assoc,e1,Nat.add_mul]
 have f3:d*Y=d*yh*T+d*yl:=by rw[hY,Nat.mul_add,←Nat.mul_assoc]
 have f4:c*X=s*T+d*yh*T+c*xl:=by rw[hX,Nat.mul_add,←Nat.mul_assoc,e2,Nat.add_mul]
 have g1:a*xl≤a*T:=Nat.mul_le_mul_left a (by omega)
 have g2:c*xl≤c*T:=Nat.mul_le_mul_left c (by omega)
 have g3:d*yl≤d*T:=Nat.mul_le_mul_left d (by omega)
 have g4:b*T+d*T+s*T≤r*T:=by rw[←Nat.add_mul,←Nat.add_mul];exact Nat.mul_le_mul_right T hr
 have g5:c*T≤d*T:=Nat.mul_le_mul_right T h.cd
 have g6:d*T≤s*T:=Nat.mul_le_mul_right T hds
 have g7:a*T≤b*T:=Nat.mul_le_mul_right T ha
 have hX0:0<X:=by
  have h1:=h.ex
  have h2:=Nat.mul_pos (show 0<d by have:=h.d1;omega) (show 0<r by omega)
  have h3:=Nat.mul_pos (show 0<xh by omega) (show 0<T by omega)
  omega
 obtain⟨X',hX'⟩:∃ X',X'+a*X=b*Y:=⟨b*Y-a*X,by omega⟩
 obtain⟨Y',hY'⟩:∃ Y',Y'+d*Y=c*X:=⟨c*X-d*Y,by omega⟩
 refine⟨X',Y',hX',hY',later_of hX0 (by omega) hb hc h.d1 (.inr ⟨hX',hY',by have:=h.det;simpa using this⟩)⟩
theorem later_div {X Y:Nat} (hY:0<Y) (hle:Y≤X):Later X Y Y (X%Y):=by
 have h:=Nat.mod_lt X hY
 refine⟨gcd_step X Y,by omega,by omega,hle⟩
theorem high_bound {X m l bl s:Nat} (hl:(limbs X).length=m+3) (hle:(limbs X).getD (m+2) 0=l) (h1:l<2^bl) (hs:s+bl=32):X / 4294967296^m*2^s<79228162514264337593543950336:=by
 have e:=val_take_succ (limbs X) (m+2) (by omega)
 rw[List.take_of_length_le (by omega),val_limbs,hle] at e
 have h2:=val_lt (sm_take (sm_limbs X) (m+2))
 rw[List.length_take,Nat.min_eq_left (by omega)] at h2
 have h3:X<4294967296^(m+2)*2^bl:=by
  have:=Nat.mul_le_mul_left (4294967296^(m+2)) (show l+1≤2^bl by omega)
  rw[Nat.mul_add] at this;omega
 rw[Nat.pow_add,Nat.mul_assoc] at h3
 have h4:X / 4294967296^m<4294967296^2*2^bl:=(Nat.div_lt_iff_lt_mul (Nat.pow_pos (by omega))).2 (by rw[Nat.mul_comm];exact h3)
 have h5:=Nat.mul_lt_mul_of_pos_right h4 (Nat.pow_pos (n:=s) (show 0<2 by omega))
 rw[Nat.mul_assoc,←Nat.pow_add,show bl+s=32 by omega] at h5
 exact h5
theorem high_64 {V s:Nat} (hs:s<32) (h:V*2^s<79228162514264337593543950336):V / 2^(32-s)<18446744073709551616:=by
 rw[Nat.div_lt_iff_lt_mul (Nat.pow_pos (by omega))]
 have hB:2^s*2^(32-s)=4294967296:=two_pow_32 hs
 have hp:0<2^s:=Nat.pow_pos (by omega)
 apply Nat.lt_of_mul_lt_mul_right (a:=2^s)
 rw[Nat.mul_assoc,Nat.mul_comm (2^(32-s)),hB]
 exact h
end Go.Proofs.YtdeedofmflelfaaGreatDoor

namespace Go.Proofs.YtdeedofmflelfaaGreatDoor
open Go.RowKit
/-- What reduce leaves. -/
def RetRed (X Y p:Nat) (w:World) (e:Ending) (w':World):Prop:=
 ∃ X' Y' A n c A' n' c',e=.returned (.tuple #[.slice A n c,.slice A' n' c'])∧Rd w' A n c (limbs X')∧Rd w' A' n' c' (limbs Y')∧Later X Y X' Y'∧n≤p∧n'≤p∧Below w.heap.size w w'
theorem skeep {a b:World} {g:Nat} {v0 v1 v2 v3:Value} (hb:Below a.heap.size a b) (hg:g<a.heap.size)
  (h:a.cell? ⟨g,0,none⟩=some v0∧a.cell? ⟨g,1,none⟩=some v1∧a.cell? ⟨g,2,none⟩=some v2∧a.cell? ⟨g,3,none⟩=some v3) :
  b.cell? ⟨g,0,none⟩=some v0∧b.cell? ⟨g,1,none⟩=some v1∧b.cell? ⟨g,2,none⟩=some v2∧b.cell? ⟨g,3,none⟩=some v3:=
 ⟨(hb.cell (p:=⟨g,0,none⟩) hg).trans h.1,(hb.cell (p:=⟨g,1,none⟩) hg).trans h.2.1,(hb.cell (p:=⟨g,2,none⟩) hg).trans h.2.2.1,(hb.cell (p:=⟨g,3,none⟩) hg).trans h.2.2.2⟩
theorem len_later {X n N:Nat} (h:(limbs X).length=n) (hle:N≤X):(limbs N).length≤n:=by
 have:=len_le hle;omega
set_option maxRecDepth 100000 in
set_option maxHeartbeats 4000000 in
theorem reduce_any (A:Option Addr) (n c X:Nat) (A':Option Addr) (n' c' Y:Nat) (w:World) (h1:Rd w A n c (limbs X)) (h2:Rd w A' n' c' (limbs Y)) (hn:n≤1000) (hle:Y≤X) (hn':2<n') :
  Calls Tryz.prog 233 #[.slice A n c,.slice A' n' c'] w (RetRed X Y n w):=by
 have hnn:n'≤n:=by have:=len_le hle;rw[h1.len,h2.len] at this;exact this
 obtain⟨m,rfl⟩:∃ m,n=m+3:=⟨n-3,by omega⟩
 have hY0:0<Y:=by
  rcases Nat.eq_zero_or_pos Y with h | h
  ·have:=h2.len;rw[h,limbs_zero] at this;simp at this;omega
  ·exact h
 obtain⟨bb,ob,l,rfl,hbb,hlb,hlx,hcl⟩:=h1.at_ (k:=m+2) (by omega)
 have hl0:0<l:=by
  have hv:=vldB_last (xs:=limbs X) (m:=m+2) h1.len hlx
  rw[vldB_limbs] at hv
  simp at hv
  omega
 have hlz:=fun W=>lz_nat l W hlb
 have hbl:=bitLen_spec l (by omega)
 have hbl32:=Lib.bitLen_le l 32 (by omega) (by omega)
 obtain⟨bl,hble⟩:∃ bl,Lib.bitLen l=bl:=⟨_,rfl⟩
 rw[hble] at hbl hbl32
 have hbl1:1≤bl:=by
  rcases Nat.eq_zero_or_pos bl with h | h
  ·rw[h] at hbl;have:=hbl.1;simp at this;omega
  ·exact h
 simp only[hble] at hlz
 clear hble
 obtain⟨s,hs⟩:∃ s,32-bl=s:=⟨_,rfl⟩
 rw[hs] at hlz
 have hs31:s<32:=by omega
 have hhb:=high_bound h1.len hlx hbl.1 (by omega:s+bl=32)
 have hXl:=lt_of_len h1.len
 have hVY:Y / 4294967296^m≤X / 4294967296^m:=Nat.div_le_div_right hle
 have hhbY:Y / 4294967296^m*2^s<79228162514264337593543950336:=Nat.lt_of_le_of_lt (Nat.mul_le_mul_right _ hVY) hhb
 have hx64:=high_64 hs31 hhb
 have hyx:Y / 4294967296^m / 2^(32-s)≤X / 4294967296^m / 2^(32-s):=Nat.div_le_div_right hVY
 have hH1:=fun W ni si h' e1 e2=>high_any (some ⟨bb,ob,none⟩) (m+3) c X m s ni si W h' (by omega) (by omega) e1 e2 hs31 hXl hhb
 have hH2:=fun W ni si h' e1 e2=>high_any A' n' c' Y m s ni si W h' (by omega) (by omega) e1 e2 hs31 (by omega) hhbY
 obtain⟨T,hT⟩:∃ T,4294967296^m*2^(32-s)=T:=⟨_,rfl⟩
 have hTp:0<T:=by rw[←hT];exact Nat.mul_pos (Nat.pow_pos (by omega)) (Nat.pow_pos (by omega))
 rw[Nat.div_div_eq_div_mul,Nat.div_div_eq_div_mul,hT] at hyx
 rw[Nat.div_div_eq_div_mul,hT] at hx64
 simp only[Nat.div_div_eq_div_mul,hT] at hH1 hH2
 have eX:X=X / T*T+X%T:=(Nat.div_add_mod' X T).symm
 have eY:Y=Y / T*T+Y%T:=(Nat.div_add_mod' Y T).symm
 have lX:=Nat.mod_lt X hTp
 have lY:=Nat.mod_lt Y hTp
 obtain⟨xh,hxh⟩:∃ xh,X / T=xh:=⟨_,rfl⟩
 obtain⟨yh,hyh⟩:∃ yh,Y / T=yh:=⟨_,rfl⟩
 rw[hxh] at hx64 hyx eX
 rw[hyh] at hyx eY
 simp only[hxh] at hH1
 simp only[hyh] at hH2
 have hF:=fun W=>foresee_any xh yh W hx64 hyx
 have hdv:=fun W k1 k2=>div_b (some ⟨bb,ob,none⟩) (m+3) c X A' n' c' Y W (m+3) (m+3) k1 k2 (by omega) hnn (by omega) (by omega) hY0
 replace hlz:=Lib.hid hlz
 replace hH1:=Lib.hid hH1
 replace hH2:=Lib.hid hH2
 replace hF:=Lib.hid hF
 replace hdv:=Lib.hid hdv
 replace eX:=Lib.hid eX
 replace eY:=Lib.hid eY
 replace lX:=Lib.hid lX
 replace lY:=Lib.hid lY
 replace h1:=Lib.hid h1
 replace h2:=Lib.hid h2
 replace hle:=Lib.hid hle
 replace hY0:=Lib.hid hY0
 replace hx64:=Lib.hid hx64
 clear hbl hbl32 hbl1 hs hhb hXl hVY hhbY hyx hT hTp hxh hyh hlx
 go_enter Tryz.func233,Tryz.ntmps233
 go_wp2_with fail
 refine (hlz.out _).mono ?_
 rintro e w' ⟨rfl,rfl⟩
 go_wp2_with fail
 refine (hH1.out _ _ _ h1.out (by omega) rfl).mono ?_
 rintro e w1 ⟨rfl,b1⟩
 have R1:=Lib.hid (h1.out.below b1)
 have R2:=Lib.hid (h2.out.below b1)
 have B:=Lib.hid b1
 clear b1 hcl
 go_wp2_with fail
 refine (hH2.out _ _ _ R2.out (by omega) rfl).mono ?_
 rintro e w2 ⟨rfl,b2⟩
 replace R1:=Lib.hid (R1.out.below b2)
 replace R2:=Lib.hid (R2.out.below b2)
 replace B:=Lib.hid (B.out.trans (b2.mono B.out.size))
 clear b2
 go_wp2_with fail
 refine (hF.out _).mono ?_
 rintro e w3 ⟨a,b,cc,d,o,rfl,hG,b3⟩
 replace R1:=Lib.hid (R1.out.below b3)
 replace R2:=Lib.hid (R2.out.below b3)
 replace B:=Lib.hid (B.out.trans (b3.mono B.out.size))
 replace hG:=Lib.hid hG
 clear b3
 by_cases hb0:b=0
 ·subst hb0
  go_wp2_with fail
  refine (hdv.out _ (R1.out.alloc _) (R2.out.alloc _)).mono ?_
  rintro e w4 ⟨A5,n5,c5,A6,n6,c6,rfl,_,R6,b4,_,l6⟩
  replace R2:=Lib.hid ((R2.out.alloc _).below b4)
  replace R6:=Lib.hid R6
  replace B:Hid (Below w.heap.size w w4):=Lib.hid ((B.out.alloc B.out.size _).trans (b4.mono (by have:=B.out.size;simp;omega)))
  clear b4
  go_wp2
  go_ret2
  exact⟨Y,X%Y,_,_,_,_,_,_,rfl,R2.out,R6.out,later_div hY0.out hle.out,hnn,l6,B.out⟩
 ·have hbi:((b:Int)==0)=false:=by simp;omega
  obtain⟨r,q,hI,hb1,hds,hr⟩:∃ r q,Inv xh yh r q a b cc d o∧1≤b∧d≤q∧b+d+q≤r:=by
   rcases hG.out with ⟨_,h,_⟩ | h
   ·exact absurd h hb0
   ·exact h
  have hd32:d<4294967296:=hI.small hds (by omega) hx64.out
  obtain⟨hab,hc1⟩:a≤b∧1≤cc:=by
   rcases hI.shape with ⟨_,h,_⟩ | ⟨_,h1,h2⟩
   ·exact absurd h hb0
   ·exact⟨h1,h2⟩
  have hbd:=hI.bd
  have hcd:=hI.cd
  have hap:=R1.out.alloc (.cells #[.int .u64 (a:Nat),.int .u64 (b:Nat),.int .u64 (cc:Nat),.int .u64 (d:Nat),.bool o] 225)
  have hap2:=R2.out.alloc (.cells #[.int .u64 (a:Nat),.int .u64 (b:Nat),.int .u64 (cc:Nat),.int .u64 (d:Nat),.bool o] 225)
  have hap3:Below w.heap.size w (w3.alloc (.cells #[.int .u64 (a:Nat),.int .u64 (b:Nat),.int .u64 (cc:Nat),.int .u64 (d:Nat),.bool o] 225)):=B.out.alloc B.out.size _
  have hap4:(w3.alloc (.cells #[.int .u64 (a:Nat),.int .u64 (b:Nat),.int .u64 (cc:Nat),.int .u64 (d:Nat),.bool o] 225)).heap[w3.heap.size]?=some (.cells #[.int .u64 (a:Nat),.int .u64 (b:Nat),.int .u64 (cc:Nat),.int .u64 (d:Nat),.bool o] 225 (0,0)):=heap_alloc_new w3 _
  have hgl:w3.heap.size<(w3.alloc (.cells #[.int .u64 (a:Nat),.int .u64 (b:Nat),.int .u64 (cc:Nat),.int .u64 (d:Nat),.bool o] 225)).heap.size:=by simp
  replace hap:=Lib.hid hap
  replace hap2:=Lib.hid hap2
  replace hap3:=Lib.hid hap3
  replace hap4:=Lib.hid hap4
  replace hgl:=Lib.hid hgl
  clear R1 R2 B hG hb0
  cases o
  · -- even
   obtain⟨X',Y',hX',hY',hL⟩:=lehmer_even eX.out lX.out eY.out lY.out hI hb1 hc1 hds hr
   have hlx':(limbs X').length≤m+3:=len_later h1.out.len hL.lx
   have hly':(limbs Y').length≤m+3:=len_later h1.out.len (Nat.le_trans hL.le hL.lx)
   have hD1:∀ W,Rd W (some ⟨bb,ob,none⟩) (m+3) c (limbs X)→Rd W A' n' c' (limbs Y)→Calls Tryz.prog 245 #[.int .u64 (a:Nat),.slice (some ⟨bb,ob,none⟩) (m+3) c,.int .u64 (b:Nat),.slice A' n' c'] W (RetN X' W):=fun W k1 k2=>by
    have e:a*X-b*Y=X':=by omega
    have:=diff_any (some ⟨bb,ob,none⟩) (m+3) c X A' n' c' Y a b W k1 k2 (by omega) (by omega) (by omega) (by omega) (by omega) (by rw[e];exact Nat.lt_of_le_of_lt hL.lx (Nat.lt_of_lt_of_le (lt_of_len h1.out.len) (Nat.pow_le_pow_right (by omega) (by omega))))
    rw[e] at this;exact this
   have hD2:∀ W,Rd W (some ⟨bb,ob,none⟩) (m+3) c (limbs X)→Rd W A' n' c' (limbs Y)→Calls Tryz.prog 245 #[.int .u64 (d:Nat),.slice A' n' c',.int .u64 (cc:Nat),.slice (some ⟨bb,ob,none⟩) (m+3) c] W (RetN Y' W):=fun W k1 k2=>by
    have e:d*Y-cc*X=Y':=by omega
    have:=diff_any A' n' c' Y (some ⟨bb,ob,none⟩) (m+3) c X d cc W k2 k1 (by omega) (by omega) (by omega) (by omega) (by omega) (by rw[e];exact Nat.lt_of_le_of_lt (Nat.le_trans hL.le hL.lx) (Nat.lt_of_lt_of_le (lt_of_len h1.out.len) (Nat.pow_le_pow_right (by omega) (by omega))))
    rw[e] at this;exact this
   replace hD1:=Lib.hid hD1
   replace hD2:=Lib.hid hD2
   replace hL:=Lib.hid hL
   clear hX' hY' hI hb1 hds hr hab hc1 hbd hcd
   go_wp2_with fail
   generalize w3.alloc (.cells #[.int .u64 (a:Nat),.int .u64 (b:Nat),.int .u64 (cc:Nat),.int .u64 (d:Nat),.bool false] 225)=W at hap hap2 hap3 hap4 hgl ⊢
   generalize w3.heap.size=g at hap4 hgl ⊢
   have S0:Hid (W.cell? ⟨g,0,none⟩=some (.int .u64 (a:Int))∧W.cell? ⟨g,1,none⟩=some (.int .u64 (b:Int))∧W.cell? ⟨g,2,none⟩=some (.int .u64 (cc:Int))∧W.cell? ⟨g,3,none⟩=some (.int .u64 (d:Int))):=by
    obtain⟨⟨k0,k1,k2,k3,_⟩,_⟩:=cells5 hap4.out
    exact⟨k0,k1,k2,k3⟩
   go_region_held3 (fun w'=>w'.cell? ⟨g,0,none⟩=some (.int .u64 (a:Int))∧w'.cell? ⟨g,1,none⟩=some (.int .u64 (b:Int))∧w'.cell? ⟨g,2,none⟩=some (.int .u64 (cc:Int))∧w'.cell? ⟨g,3,none⟩=some (.int .u64 (d:Int)))
    (first | exact S0.out | exact skeep (⟨bb1.os,bb1.tape,bb1.output,bb1.size,bb1.block⟩:Below W.heap.size W w5) hgl.out S0.out | exact skeep (⟨bb2.os,bb2.tape,bb2.output,bb2.size,bb2.block⟩:Below W.heap.size W w6) hgl.out S0.out | exact skeep bb2 (Nat.lt_of_lt_of_le hgl.out bb1.size) (skeep (⟨bb1.os,bb1.tape,bb1.output,bb1.size,bb1.block⟩:Below W.heap.size W w5) hgl.out S0.out) | exact skeep bb1 (Nat.lt_of_lt_of_le hgl.out bb2.size) (skeep (⟨bb2.os,bb2.tape,bb2.output,bb2.size,bb2.block⟩:Below W.heap.size W w6) hgl.out S0.out))
    (first | (go_at_call_of 245 (Value.int IntKind.u64 (a:Int));refine (hD1.out _ (by first | exact⟨hap.out.len,hap.out.cap,hap.out.sm,hap.out.mem⟩ | exact Rd.below (w:=W) hap.out ⟨bb1.os,bb1.tape,bb1.output,bb1.size,bb1.block⟩ | exact Rd.below (w:=W) hap.out ⟨bb2.os,bb2.tape,bb2.output,bb2.size,bb2.block⟩) (by first | exact⟨hap2.out.len,hap2.out.cap,hap2.out.sm,hap2.out.mem⟩ | exact Rd.below (w:=W) hap2.out ⟨bb1.os,bb1.tape,bb1.output,bb1.size,bb1.block⟩ | exact Rd.below (w:=W) hap2.out ⟨bb2.os,bb2.tape,bb2.output,bb2.size,bb2.block⟩)).mono ?_;rintro e w5 ⟨A5,n5,c5,rfl,R5,bb1⟩) | (go_at_call_of 245 (Value.int IntKind.u64 (d:Int));refine (hD2.out _ (by first | exact⟨hap.out.len,hap.out.cap,hap.out.sm,hap.out.mem⟩ | exact Rd.below (w:=W) hap.out ⟨bb1.os,bb1.tape,bb1.output,bb1.size,bb1.block⟩ | exact Rd.below (w:=W) hap.out ⟨bb2.os,bb2.tape,bb2.output,bb2.size,bb2.block⟩) (by first | exact⟨hap2.out.len,hap2.out.cap,hap2.out.sm,hap2.out.mem⟩ | exact Rd.below (w:=W) hap2.out ⟨bb1.os,bb1.tape,bb1.output,bb1.size,bb1.block⟩ | exact Rd.below (w:=W) hap2.out ⟨bb2.os,bb2.tape,bb2.output,bb2.size,bb2.block⟩)).mono ?_;rintro e w6 ⟨A6,n6,c6,rfl,R6,bb2⟩))
   all_goals
    have l5:n5≤m+3:=by rw[←R5.len];exact hlx'
    have l6:n6≤m+3:=by rw[←R6.len];exact hly'
    replace R5:=Lib.hid R5
    replace R6:=Lib.hid R6
    replace bb1:=Lib.hid bb1
    replace bb2:=Lib.hid bb2
    go_wp2
    go_ret2
    first
     | exact⟨X',Y',_,_,_,_,_,_,rfl,R5.out.below bb2.out,R6.out,hL.out,l5,l6,(hap3.out.trans ((⟨bb1.out.os,bb1.out.tape,bb1.out.output,bb1.out.size,bb1.out.block⟩:Below W.heap.size W w5).mono hap3.out.size)).trans (bb2.out.mono (Nat.le_trans hap3.out.size bb1.out.size))⟩
     | exact⟨X',Y',_,_,_,_,_,_,rfl,R5.out,R6.out.below bb1.out,hL.out,l5,l6,(hap3.out.trans ((⟨bb2.out.os,bb2.out.tape,bb2.out.output,bb2.out.size,bb2.out.block⟩:Below W.heap.size W w6).mono hap3.out.size)).trans (bb1.out.mono (Nat.le_trans hap3.out.size bb2.out.size))⟩
  · -- odd
   obtain⟨X',Y',hX',hY',hL⟩:=lehmer_odd eX.out lX.out eY.out lY.out hI hb1 hab hc1 hds hr
   have hlx':(limbs X').length≤m+3:=len_later h1.out.len hL.lx
   have hly':(limbs Y').length≤m+3:=len_later h1.out.len (Nat.le_trans hL.le hL.lx)
   have hD1:∀ W,Rd W (some ⟨bb,ob,none⟩) (m+3) c (limbs X)→Rd W A' n' c' (limbs Y)→Calls Tryz.prog 245 #[.int .u64 (b:Nat),.slice A' n' c',.int .u64 (a:Nat),.slice (some ⟨bb,ob,none⟩) (m+3) c] W (RetN X' W):=fun W k1 k2=>by
    have e:b*Y-a*X=X':=by omega
    have:=diff_any A' n' c' Y (some ⟨bb,ob,none⟩) (m+3) c X b a W k2 k1 (by omega) (by omega) (by omega) (by omega) (by omega) (by rw[e];exact Nat.lt_of_le_of_lt hL.lx (Nat.lt_of_lt_of_le (lt_of_len h1.out.len) (Nat.pow_le_pow_right (by omega) (by omega))))
    rw[e] at this;exact this
   have hD2:∀ W,Rd W (some ⟨bb,ob,none⟩) (m+3) c (limbs X)→Rd W A' n' c' (limbs Y)→Calls Tryz.prog 245 #[.int .u64 (cc:Nat),.slice (some ⟨bb,ob,none⟩) (m+3) c,.int .u64 (d:Nat),.slice A' n' c'] W (RetN Y' W):=fun W k1 k2=>by
    have e:cc*X-d*Y=Y':=by omega
    have:=diff_any (some ⟨bb,ob,none⟩) (m+3) c X A' n' c' Y cc d W k1 k2 (by omega) (by omega) (by omega) (by omega) (by omega) (by rw[e];exact Nat.lt_of_le_of_lt (Nat.le_trans hL.le hL.lx) (Nat.lt_of_lt_of_le (lt_of_len h1.out.len) (Nat.pow_le_pow_right (by omega) (by omega))))
    rw[e] at this;exact this
   replace hD1:=Lib.hid hD1
   replace hD2:=Lib.hid hD2
   replace hL:=Lib.hid hL
   clear hX' hY' hI hb1 hds hr hab hc1 hbd hcd
   go_wp2_with fail
   generalize w3.alloc (.cells #[.int .u64 (a:Nat),.int .u64 (b:Nat),.int .u64 (cc:Nat),.int .u64 (d:Nat),.bool true] 225)=W at hap hap2 hap3 hap4 hgl ⊢
   generalize w3.heap.size=g at hap4 hgl ⊢
   have S0:Hid (W.cell? ⟨g,0,none⟩=some (.int .u64 (a:Int))∧W.cell? ⟨g,1,none⟩=some (.int .u64 (b:Int))∧W.cell? ⟨g,2,none⟩=some (.int .u64 (cc:Int))∧W.cell? ⟨g,3,none⟩=some (.int .u64 (d:Int))):=by
    obtain⟨⟨k0,k1,k2,k3,_⟩,_⟩:=cells5 hap4.out
    exact⟨k0,k1,k2,k3⟩
   go_region_held3 (fun w'=>w'.cell? ⟨g,0,none⟩=some (.int .u64 (a:Int))∧w'.cell? ⟨g,1,none⟩=some (.int .u64 (b:Int))∧w'.cell? ⟨g,2,none⟩=some (.int .u64 (cc:Int))∧w'.cell? ⟨g,3,none⟩=some (.int .u64 (d:Int)))
    (first | exact S0.out | exact skeep (⟨bb1.os,bb1.tape,bb1.output,bb1.size,bb1.block⟩:Below W.heap.size W w5) hgl.out S0.out | exact skeep (⟨bb2.os,bb2.tape,bb2.output,bb2.size,bb2.block⟩:Below W.heap.size W w6) hgl.out S0.out | exact skeep bb2 (Nat.lt_of_lt_of_le hgl.out bb1.size) (skeep (⟨bb1.os,bb1.tape,bb1.output,bb1.size,bb1.block⟩:Below W.heap.size W w5) hgl.out S0.out) | exact skeep bb1 (Nat.lt_of_lt_of_le hgl.out bb2.size) (skeep (⟨bb2.os,bb2.tape,bb2.output,bb2.size,bb2.block⟩:Below W.heap.size W w6) hgl.out S0.out))
    (first | (go_at_call_of 245 (Value.int IntKind.u64 (b:Int));refine (hD1.out _ (by first | exact⟨hap.out.len,hap.out.cap,hap.out.sm,hap.out.mem⟩ | exact Rd.below (w:=W) hap.out ⟨bb1.os,bb1.tape,bb1.output,bb1.size,bb1.block⟩ | exact Rd.below (w:=W) hap.out ⟨bb2.os,bb2.tape,bb2.output,bb2.size,bb2.block⟩) (by first | exact⟨hap2.out.len,hap2.out.cap,hap2.out.sm,hap2.out.mem⟩ | exact Rd.below (w:=W) hap2.out ⟨bb1.os,bb1.tape,bb1.output,bb1.size,bb1.block⟩ | exact Rd.below (w:=W) hap2.out ⟨bb2.os,bb2.tape,bb2.output,bb2.size,bb2.block⟩)).mono ?_;rintro e w5 ⟨A5,n5,c5,rfl,R5,bb1⟩) | (go_at_call_of 245 (Value.int IntKind.u64 (cc:Int));refine (hD2.out _ (by first | exact⟨hap.out.len,hap.out.cap,hap.out.sm,hap.out.mem⟩ | exact Rd.below (w:=W) hap.out ⟨bb1.os,bb1.tape,bb1.output,bb1.size,bb1.block⟩ | exact Rd.below (w:=W) hap.out ⟨bb2.os,bb2.tape,bb2.output,bb2.size,bb2.block⟩) (by first | exact⟨hap2.out.len,hap2.out.cap,hap2.out.sm,hap2.out.mem⟩ | exact Rd.below (w:=W) hap2.out ⟨bb1.os,bb1.tape,bb1.output,bb1.size,bb1.block⟩ | exact Rd.below (w:=W) hap2.out ⟨bb2.os,bb2.tape,bb2.output,bb2.size,bb2.block⟩)).mono ?_;rintro e w6 ⟨A6,n6,c6,rfl,R6,bb2⟩))
   all_goals
    have l5:n5≤m+3:=by rw[←R5.len];exact hlx'
    have l6:n6≤m+3:=by rw[←R6.len];exact hly'
    replace R5:=Lib.hid R5
    replace R6:=Lib.hid R6
    replace bb1:=Lib.hid bb1
    replace bb2:=Lib.hid bb2
    go_wp2
    go_ret2
    first
     | exact⟨X',Y',_,_,_,_,_,_,rfl,R5.out.below bb2.out,R6.out,hL.out,l5,l6,(hap3.out.trans ((⟨bb1.out.os,bb1.out.tape,bb1.out.output,bb1.out.size,bb1.out.block⟩:Below W.heap.size W w5).mono hap3.out.size)).trans (bb2.out.mono (Nat.le_trans hap3.out.size bb1.out.size))⟩
     | exact⟨X',Y',_,_,_,_,_,_,rfl,R5.out,R6.out.below bb1.out,hL.out,l5,l6,(hap3.out.trans ((⟨bb2.out.os,bb2.out.tape,bb2.out.output,bb2.out.size,bb2.out.block⟩:Below W.heap.size W w6).mono hap3.out.size)).trans (bb1.out.mono (Nat.le_trans hap3.out.size bb2.out.size))⟩
set_option maxRecDepth 100000 in
set_option maxHeartbeats 4000000 in
theorem gcd_any (A:Option Addr) (n c:Nat) (xs:List Nat) (A':Option Addr) (n' c':Nat) (ys:List Nat) (w:World) (h1:Rd w A n c xs) (h2:Rd w A' n' c' ys) (hn:n≤1000) (hn':n'≤1000) :
  Calls Tryz.prog 220 #[.slice A n c,.slice A' n' c'] w (RetN (Nat.gcd (num xs) (num ys)) w):=by
 replace h1:=Lib.hid h1
 replace h2:=Lib.hid h2
 go_enter Tryz.func220,Tryz.ntmps220
 go_wp2_with fail
 refine (known_any _ _ _ xs _ h1.out (by omega)).mono ?_
 rintro e w' ⟨B1,n1,c1,rfl,rfl,R1,l1⟩
 replace R1:=Lib.hid R1
 go_wp2_with fail
 refine (known_any _ _ _ ys _ h2.out (by omega)).mono ?_
 rintro e w' ⟨B2,n2,c2,rfl,rfl,R2,l2⟩
 replace R2:=Lib.hid R2
 clear h1 h2
 obtain⟨q,hq⟩:∃ q,cmpi (num xs) (num ys)=q:=⟨_,rfl⟩
 replace hq:=Lib.hid hq
 go_wp2_with fail
 refine (compare_b _ _ _ _ _ _ _ _ _ R1.out R2.out (by omega) (by omega) q hq.out).mono ?_
 rintro e w1 ⟨rfl,b1⟩
 replace R1:=Lib.hid (R1.out.below b1)
 replace R2:=Lib.hid (R2.out.below b1)
 replace b1:=Lib.hid b1
 go_upto_if 21 with fail
 go_cut [5,6] (fun u v wc=>∃ (X Y:Nat) (A3:Option Addr) (n3 c3:Nat) (A4:Option Addr) (n4 c4:Nat),u=.slice A3 n3 c3∧v=.slice A4 n4 c4∧Rd w1 A3 n3 c3 (limbs X)∧Rd w1 A4 n4 c4 (limbs Y)∧Y≤X∧n3≤1000∧Nat.gcd X Y=Nat.gcd (num xs) (num ys)∧w1=wc)
 case first=>
  by_cases hlt:q<0
  ·have hle:num xs≤num ys:=by
    have:=hq.out
    rcases Nat.lt_or_ge (num ys) (num xs) with h | h
    ·rw[cmpi_gt (by omega)] at this;omega
    ·exact h
   replace hle:=Lib.hid hle
   go_wp2
   go_meet
   case rel=>exact⟨num ys,num xs,_,_,_,_,_,_,rfl,rfl,R2.out,R1.out,hle.out,by omega,Nat.gcd_comm _ _,rfl⟩
  ·have hle:num ys≤num xs:=by
    have:=hq.out
    rcases Nat.lt_or_ge (num xs) (num ys) with h | h
    ·rw[cmpi_lt (by omega)] at this;omega
    ·exact h
   replace hle:=Lib.hid hle
   go_wp2
   go_meet
   case rel=>exact⟨num xs,num ys,_,_,_,_,_,_,rfl,rfl,R1.out,R2.out,hle.out,by omega,rfl,rfl⟩
 case rest=>
  clear R1 R2 hq l1 l2
  obtain⟨X,Y,A3,n3,c3,A4,n4,c4,rfl,rfl,R3,R4,hle,hn3,hg,rfl⟩:=hcut
  replace R3:=Lib.hid R3
  replace R4:=Lib.hid R4
  replace hle:=Lib.hid hle
  replace hg:=Lib.hid hg
  go_wp2_with fail
  go_loopg [5,6] (X+Y) (fun k u v wr=>∃ (X' Y':Nat) (A3:Option Addr) (n3 c3:Nat) (A4:Option Addr) (n4 c4:Nat),u=.slice A3 n3 c3∧v=.slice A4 n4 c4∧Rd wr A3 n3 c3 (limbs X')∧Rd wr A4 n4 c4 (limbs Y')∧Y'≤X'∧n3≤1000∧Nat.gcd X' Y'=Nat.gcd (num xs) (num ys)∧k=X'+Y'∧Below w1.heap.size w1 wr)
  case atStart=>exact⟨X,Y,_,_,_,_,_,_,rfl,rfl,R3.out,R4.out,hle.out,hn3,hg.out,rfl,Below.refl _ _⟩
  case round=>
   clear R3 R4 hle hn3 hg
   obtain⟨X',Y',A3,n3,c3,A4,n4,c4,rfl,rfl,R3,R4,hle,hn3,hg,hk,hB⟩:=hrel
   have hn4:n4≤n3:=by have:=len_le hle;rw[R3.len,R4.len] at this;exact this
   replace R3:=Lib.hid R3
   replace R4:=Lib.hid R4
   replace hle:=Lib.hid hle
   replace hg:=Lib.hid hg
   replace hk:=Lib.hid hk
   replace hB:=Lib.hid hB
   by_cases h2:2<n4
   ·have h2i:(2:Int)<(n4:Int):=by omega
    go_wp2_with fail
    refine (reduce_any _ _ _ _ _ _ _ _ _ R3.out R4.out hn3 hle.out h2).mono ?_
    rintro e w2 ⟨X2,Y2,A5,n5,c5,A6,n6,c6,rfl,R5,R6,hL,l5,l6,b2⟩
    replace R5:=Lib.hid R5
    replace R6:=Lib.hid R6
    replace hL:=Lib.hid hL
    replace hB:=Lib.hid (hB.out.trans (b2.mono hB.out.size))
    have hml:Hid (X2+Y2<gk):=by have:=hL.out.lt;have:=hk.out;show _<_;omega
    have l5':n5≤1000:=by omega
    clear b2 R3 R4
    go_wp2
    go_roundg (X2+Y2)
    case measure=>exact hml.out
    case rel=>exact⟨X2,Y2,_,_,_,_,_,_,rfl,rfl,R5.out,R6.out,hL.out.le,l5',hL.out.gcd.trans hg.out,rfl,hB.out⟩
   ·have h2i:(n4:Int)≤2:=by omega
    by_cases h0:n4=0
    ·subst h0
     have hy0:Y'=0:=limbs_inj (by rw[limbs_zero];exact List.eq_nil_of_length_eq_zero R4.out.len)
     have hgx:X'=Nat.gcd (num xs) (num ys):=by rw[←hg.out,hy0,Nat.gcd_zero_right]
     replace hgx:=Lib.hid hgx
     clear hy0 h2
     go_wp2_with fail
     refine (clone_any _ _ _ _ _ R3.out (by omega)).mono ?_
     rintro e w2 ⟨A5,c5,rfl,R5,_,b2⟩
     rw[hgx.out] at R5
     replace R5:=Lib.hid R5
     replace hB:=Lib.hid (b1.out.trans ((hB.out.trans (b2.mono hB.out.size)).mono b1.out.size))
     clear b2 R3 R4
     go_wp2
     go_ret
     exact⟨_,_,_,rfl,R5.out,hB.out⟩
    ·have hy0:0<Y':=by
      rcases Nat.eq_zero_or_pos Y' with h | h
      ·have:=R4.out.len;rw[h,limbs_zero] at this;exact absurd this.symm h0
      ·exact h
     have h0i:((n4:Int)==0)=false:=by simp;omega
     have hyb:Y'<18446744073709551616:=by have:=lt_of_len R4.out.len;have h3:4294967296^n4≤4294967296^2:=Nat.pow_le_pow_right (by omega) (by omega);rw[two_pow_64] at h3;omega
     have hrb:=Nat.mod_lt X' hy0
     have hgf:Nat.gcd Y' (X'%Y')=Nat.gcd (num xs) (num ys):=(gcd_step X' Y').trans hg.out
     obtain⟨Z,hZ⟩:∃ Z,X'%Y'=Z:=⟨_,rfl⟩
     have hdv:=fun W k1 k2=>div_b A3 n3 c3 X' A4 n4 c4 Y' W 1000 1000 k1 k2 hn3 (by omega) (by omega) (by omega) hy0
     simp only[hZ] at hdv
     rw[hZ] at hrb hgf
     have hzb:Z<18446744073709551616:=by omega
     have hU1:=fun W k=>uint_any A4 n4 c4 (limbs Y') W k (by omega)
     simp only[num_limbs] at hU1
     have e1:uval Y'=Y':=if_pos hyb
     have e2:uval Z=Z:=if_pos hzb
     have e3:uok Y'=true:=decide_eq_true hyb
     have e4:uok Z=true:=decide_eq_true hzb
     simp only[e1,e3] at hU1
     have hU2:∀ W A n c,Rd W A n c (limbs Z)→n≤1000→Calls Tryz.prog 201 #[.slice A n c] W fun e w'=>e=.returned (.tuple #[.int .u64 (Z:Nat),.bool true])∧W=w':=fun W A n c k hn=>by
      have:=uint_any A n c (limbs Z) W k (by omega)
      simp only[num_limbs,e2,e4] at this
      exact this
     have hGU:=fun W=>gcdUint_any Y' Z W hyb hzb
     have hgl:Nat.gcd Y' Z<18446744073709551616:=Nat.lt_of_le_of_lt (Nat.gcd_le_left _ hy0) hyb
     simp only[hgf] at hGU
     rw[hgf] at hgl
     have hFU:=fun W=>fromUint_any (Nat.gcd (num xs) (num ys)) W hgl
     replace hdv:=Lib.hid hdv
     replace hU1:=Lib.hid hU1
     replace hU2:=Lib.hid hU2
     replace hGU:=Lib.hid hGU
     replace hFU:=Lib.hid hFU
     clear h0 h2 hy0 hyb hrb hgf hZ hzb e1 e2 e3 e4 hgl
     go_wp2_with fail
     refine (hdv.out _ R3.out R4.out).mono ?_
     rintro e w2 ⟨A5,n5,c5,A6,n6,c6,rfl,_,R6,b2,_,l6⟩
     replace R4:=Lib.hid (R4.out.below b2)
     replace R6:=Lib.hid R6
     replace hB:=Lib.hid (hB.out.trans (b2.mono hB.out.size))
     clear b2 R3
     go_wp2_with fail
     refine (hU1.out _ R4.out).mono ?_
     rintro e w' ⟨rfl,rfl⟩
     go_wp2_with fail
     refine (hU2.out _ _ _ _ R6.out l6).mono ?_
     rintro e w' ⟨rfl,rfl⟩
     go_wp2_with fail
     refine (hGU.out _).mono ?_
     rintro e w3 ⟨rfl,b3⟩
     replace hB:=Lib.hid (hB.out.trans (b3.mono hB.out.size))
     clear b3
     go_wp2_with fail
     refine (hFU.out _).mono ?_
     rintro e w4 ⟨A7,n7,c7,rfl,R7,b4⟩
     replace R7:=Lib.hid R7
     replace hB:=Lib.hid (b1.out.trans ((hB.out.trans (b4.mono hB.out.size)).mono b1.out.size))
     clear b4
     go_wp2
     go_ret
     exact⟨_,_,_,rfl,R7.out,hB.out⟩
end Go.Proofs.YtdeedofmflelfaaGreatDoor

namespace Go.Proofs.YtdeedofmflelfaaGreatDoor
open Go.RowKit
/-- What Power gives. -/
def powV (x:Nat) (k:Int):Nat:=if 0≤k∧k≤64 then x^k.toNat else 0
theorem pow_bd {x n k:Nat} (hx:x<4294967296^n) (_:0<n):x^k<4294967296^(n*k+1):=by
 have h1:x^k≤(4294967296^n)^k:=Nat.pow_le_pow_left (Nat.le_of_lt hx) k
 rw[←Nat.pow_mul] at h1
 exact Nat.lt_of_le_of_lt h1 (Nat.pow_lt_pow_right (by omega) (by omega))
end Go.Proofs.YtdeedofmflelfaaGreatDoor
