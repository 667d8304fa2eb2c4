/- Are two lists equal? slices.Equal and the reference's Same, both ways. Compare of rational. -/
import Derived.Test.YtphckmdnflbloaaGreatQWez
import Derived.Test.YtphckmdnflbloaaGreatDr
import Derived.Test.YtphckmdnflbloaaGreatTh
import Derived.Test.YtphckmdnflbloaaGreatQIlz
import Derived.Test.YtphckmdnflbloaaGreatSi
namespace Go.Proofs.YtphckmdnflbloaaGreat
open Go.RowKit
theorem ne_len {xs ys:List Nat} {n n':Nat} (h:xs.length=n) (h':ys.length=n') (hn:n≠n'):decide (xs=ys)=false:=decide_eq_false (by rintro rfl;omega)
theorem ne_at {xs ys:List Nat} {k:Nat} (h:xs.getD k 0≠ys.getD k 0):decide (xs=ys)=false:=decide_eq_false (by rintro rfl;exact h rfl)
theorem take_eq {xs ys:List Nat} {k:Nat} (h:xs.take k=ys.take k) (hk:k<xs.length) (hk':k<ys.length) (he:xs.getD k 0=ys.getD k 0):xs.take (k+1)=ys.take (k+1):=by
 rw[List.take_succ_eq_append_getElem hk,List.take_succ_eq_append_getElem hk',h]
 simp[List.getD_eq_getElem?_getD,List.getElem?_eq_getElem hk,List.getElem?_eq_getElem hk'] at he
 rw[he]
theorem all_eq {xs ys:List Nat} {n:Nat} (h:xs.take n=ys.take n) (h1:xs.length=n) (h2:ys.length=n):decide (xs=ys)=true:=decide_eq_true (by
 rw[←h1,List.take_length,h1,←h2,List.take_length] at h;exact h)
set_option maxHeartbeats 1000000 in
theorem equalS_any (A:Option Addr) (n c:Nat) (A':Option Addr) (n' c':Nat) (xs ys:List Nat) (w:World)
  (h1:Rd w A n c xs) (h2:Rd w A' n' c' ys) (hn:n≤100000) (hn':n'≤100000) :
  Calls Tryz.prog 157 #[.slice A n c,.slice A' n' c'] w fun e w'=>e=.returned (.bool (decide (xs=ys)))∧Below w.heap.size w w':=by
 by_cases hnn:n=n'
 ·subst hnn
  replace h1:=Lib.hid h1
  replace h2:=Lib.hid h2
  go_enter Tryz.func157,Tryz.ntmps157
  go_wp2
  go_loopw [13] (fun iv wr=>∃ (k m:Nat),k≤n∧iv=.int .i64 k∧wr=w.drewN m∧xs.take k=ys.take k) (fun iv _=>n-(intOf iv).toNat)
  case atStart=>exact⟨0,0,Nat.zero_le _,rfl,rfl,by simp⟩
  case round=>
   obtain⟨k,m,hk,rfl,rfl,ht⟩:=hrel
   replace ht:=Lib.hid ht
   by_cases hlt:k<n
   ·obtain⟨b1,o1,x1,rfl,hb1,hx1,hxe,hcx⟩:=h1.out.at_ hlt
    obtain⟨b2,o2,y1,rfl,hb2,hy1,hye,hcy⟩:=h2.out.at_ hlt
    have g1:(0:Int)≤(k:Int):=by omega
    have g2:(k:Int)<(n:Int):=by omega
    by_cases hxy:x1=y1
    ·have ht':Hid (xs.take (k+1)=ys.take (k+1)):=Lib.hid (take_eq ht.out (by rw[h1.out.len];exact hlt) (by rw[h2.out.len];exact hlt) (by rw[hxe,hye,hxy]))
     clear hxe hye
     subst hxy
     have hq:((x1:Int) != (x1:Int))=false:=by simp
     go_wp2
     go_quiet (fail)
     go_wp2
     go_roundw
     case rel=>exact⟨k+1,_,by omega,by go_num,rfl,ht'.out⟩
     case measure=>simp[intOf];omega
    ·have hf:Hid (decide (xs=ys)=false):=Lib.hid (ne_at (k:=k) (by rw[hxe,hye];exact hxy))
     have hq:((x1:Int) != (y1:Int))=true:=by simp;omega
     clear hxe hye ht
     go_wp2
     go_quiet (fail)
     go_wp2
     go_ret
     rw[hf.out]
     exact⟨rfl,below_drewN (below_drewN (Below.refl _ _) _) _⟩
   ·have ek:k=n:=by omega
    have hf:Hid (decide (xs=ys)=true):=Lib.hid (all_eq (n:=n) (ek ▸ ht.out) h1.out.len h2.out.len)
    clear ek
    clear ht
    go_wp2
    go_ret
    rw[hf.out]
    exact⟨rfl,below_drewN (Below.refl _ _) _⟩
 ·have hf:Hid (decide (xs=ys)=false):=Lib.hid (ne_len h1.len h2.len hnn)
  have B:=Lib.hid (Below.refl w.heap.size w)
  clear h1 h2
  go_enter Tryz.func157,Tryz.ntmps157
  go_wp2
  go_ret
  rw[hf.out]
  exact⟨rfl,B.out⟩
set_option maxHeartbeats 1000000 in
theorem same1_any (A:Option Addr) (n c:Nat) (A':Option Addr) (n' c':Nat) (xs ys:List Nat) (w:World)
  (h1:Rd w A n c xs) (h2:Rd w A' n' c' ys) (hn:n≤100000) (hn':n'≤100000) :
  Calls Tryz.prog 133 #[.slice A n c,.slice A' n' c'] w fun e w'=>e=.returned (.bool (decide (xs=ys)))∧Below w.heap.size w w':=by
 by_cases hnn:n=n'
 ·subst hnn
  replace h1:=Lib.hid h1
  replace h2:=Lib.hid h2
  go_enter Tryz.func133,Tryz.ntmps133
  go_wp2
  go_loopw [5] (fun iv wr=>∃ (k m:Nat),k≤n∧iv=.int .i64 k∧wr=w.drewN m∧xs.take k=ys.take k) (fun iv _=>n-(intOf iv).toNat)
  case atStart=>exact⟨0,0,Nat.zero_le _,rfl,rfl,by simp⟩
  case round=>
   obtain⟨k,m,hk,rfl,rfl,ht⟩:=hrel
   replace ht:=Lib.hid ht
   by_cases hlt:k<n
   ·obtain⟨b1,o1,x1,rfl,hb1,hx1,hxe,hcx⟩:=h1.out.at_ hlt
    obtain⟨b2,o2,y1,rfl,hb2,hy1,hye,hcy⟩:=h2.out.at_ hlt
    have g1:(0:Int)≤(k:Int):=by omega
    have g2:(k:Int)<(n:Int):=by omega
    by_cases hxy:x1=y1
    ·have ht':Hid (xs.take (k+1)=ys.take (k+1)):=Lib.hid (take_eq ht.out (by rw[h1.out.len];exact hlt) (by rw[h2.out.len];exact hlt) (by rw[hxe,hye,hxy]))
     clear hxe hye
     subst hxy
     have hq:((x1:Int) != (x1:Int))=false:=by simp
     go_wp2
     go_quiet (fail)
     go_wp2
     go_roundw
     case rel=>exact⟨k+1,_,by omega,by go_num,rfl,ht'.out⟩
     case measure=>simp[intOf];omega
    ·have hf:Hid (decide (xs=ys)=false):=Lib.hid (ne_at (k:=k) (by rw[hxe,hye];exact hxy))
     have hq:((x1:Int) != (y1:Int))=true:=by simp;omega
     clear hxe hye ht
     go_wp2
     go_quiet (fail)
     go_wp2
     go_ret
     rw[hf.out]
     exact⟨rfl,below_drewN (below_drewN (Below.refl _ _) _) _⟩
   ·have ek:k=n:=by omega
    have hf:Hid (decide (xs=ys)=true):=Lib.hid (all_eq (n:=n) (ek ▸ ht.out) h1.out.len h2.out.len)
    clear ek
    clear ht
    go_wp2
    go_ret
    rw[hf.out]
    exact⟨rfl,below_drewN (Below.refl _ _) _⟩
 ·have hf:Hid (decide (xs=ys)=false):=Lib.hid (ne_len h1.len h2.len hnn)
  have B:=Lib.hid (Below.refl w.heap.size w)
  clear h1 h2
  go_enter Tryz.func133,Tryz.ntmps133
  go_wp2
  go_ret
  rw[hf.out]
  exact⟨rfl,B.out⟩
end Go.Proofs.YtphckmdnflbloaaGreat

namespace Go.Proofs.YtphckmdnflbloaaGreat
open Go.RowKit RQ
theorem cmpi_sign (a b:Int):cmpi a b=(a-b).sign:=by
 unfold cmpi
 rcases Int.lt_trichotomy a b with h | h | h
 ·rw[if_pos h,Int.sign_eq_neg_one_of_neg (by omega)]
 ·rw[if_neg (by omega),if_neg (by omega),h,Int.sub_self];rfl
 ·rw[if_neg (by omega),if_pos h,Int.sign_eq_one_of_pos (by omega)]
theorem libcmp_sign (a b:Int):Lib.compareInt a b=(a-b).sign:=by
 rw[←cmpi_sign];rfl
theorem cmpq_same {x y:Rat} (h:dn x=dn y):cmpi x.num y.num=cmpq x y:=by
 have e:x.den=y.den:=by rw[←dv_dn,←dv_dn,h]
 have hp:=den_pos' y
 rw[cmpi_sign];unfold cmpq
 rw[e,←Int.sub_mul,Int.sign_mul,Int.sign_eq_one_of_pos hp,Int.mul_one]
set_option maxRecDepth 100000 in
set_option maxHeartbeats 8000000 in
theorem Rcompare_any (b:Bool) (A:Option Addr) (n c:Nat) (xs:List Nat) (D:Option Addr) (m d:Nat) (ds:List Nat) (b':Bool) (A':Option Addr) (n' c':Nat) (ys:List Nat) (D':Option Addr) (m' d':Nat) (es:List Nat) (w:World) (R1:Rd w A n c xs) (R2:Rd w D m d ds) (R3:Rd w A' n' c' ys) (R4:Rd w D' m' d' es) (hn:n≤200) (hm:m≤200) (hn':n'≤200) (hm':m'≤200):Calls Tryz.prog 102 #[.agg #[.bool b,.slice A n c,.slice D m d],.agg #[.bool b',.slice A' n' c',.slice D' m' d']] w fun e w'=>e=.returned (.int .i64 (cmpq (rv b xs ds) (rv b' ys es)))∧Below w.heap.size w w':=by
 have h1:Rs (rv b xs ds) 200:=Rs.of R1.sm R2.sm (Nat.le_trans (Nat.le_of_eq R1.len) hn) (Nat.le_trans (Nat.le_of_eq R2.len) hm) (by decide)
 have h2:Rs (rv b' ys es) 200:=Rs.of R3.sm R4.sm (Nat.le_trans (Nat.le_of_eq R3.len) hn') (Nat.le_trans (Nat.le_of_eq R4.len) hm') (by decide)
 have hK1:=fun W h h'=>knownR_any b A n c xs D m d ds W h h' (by omega) (by omega)
 have hK2:=fun W h h'=>knownR_any b' A' n' c' ys D' m' d' es W h h' (by omega) (by omega)
 generalize rv b xs ds=x at *
 generalize rv b' ys es=y at *
 replace hK1:=Lib.hid hK1
 replace hK2:=Lib.hid hK2
 have kx:(limbs x.num.natAbs).length≤200:=limbs_len_le.2 h1.n
 have ky:(limbs y.num.natAbs).length≤200:=limbs_len_le.2 h2.n
 have kp:(limbs x.den).length≤200:=limbs_len_le.2 h1.d
 have kq:(limbs y.den).length≤200:=limbs_len_le.2 h2.d
 have kdx:=dn_len h1
 have kdy:=dn_len h2
 have hB:=Lib.hid (fun A n c D m d A' n' c' D' m' d' W X Y=>bothShort_any x y A n c D m d A' n' c' D' m' d' W X Y)
 have hE:Hid (∀ W D m d D' m' d',Rd W D m d (dn x)→Rd W D' m' d' (dn y)→Calls Tryz.prog 157 #[.slice D m d,.slice D' m' d'] W fun e w'=>e=.returned (.bool (decide (dn x=dn y)))∧Below W.heap.size W w'):=Lib.hid fun W D m d D' m' d' q1 q2=>equalS_any D m d D' m' d' _ _ W q1 q2 (by rw[←q1.len];omega) (by rw[←q2.len];omega)
 have hI:Hid (∀ W A n c A' n' c',Rd W A n c (limbs x.num.natAbs)→Rd W A' n' c' (limbs y.num.natAbs)→Calls Tryz.prog 158 #[.agg #[.bool (ng x.num),.slice A n c],.agg #[.bool (ng y.num),.slice A' n' c']] W fun e w'=>e=.returned (.int .i64 (cmpi x.num y.num))∧Below W.heap.size W w'):=Lib.hid fun W A n c A' n' c' q1 q2=>by
  have:=compareI_any (ng x.num) A n c _ (ng y.num) A' n' c' _ W q1 q2 (by rw[←q1.len];omega) (by rw[←q2.len];omega)
  rwa [iv_z,iv_z] at this
 have hX:=Lib.hid (den_u x)
 have hY:=Lib.hid (den_u y)
 have hM1:=Lib.hid (mul_iu (z:=x.num) (g:=y.den) (by omega) (by omega))
 have hM2:=Lib.hid (mul_iu (z:=y.num) (g:=x.den) (by omega) (by omega))
 have k1:(limbs (x.num*(y.den:Int)).natAbs).length≤400:=mulI_len2 kx (by rw[Int.natAbs_natCast];exact kq)
 have k2:(limbs (y.num*(x.den:Int)).natAbs).length≤400:=mulI_len2 ky (by rw[Int.natAbs_natCast];exact kp)
 have hJ:Hid (∀ W A n c A' n' c',Rd W A n c (limbs (x.num*(y.den:Int)).natAbs)→Rd W A' n' c' (limbs (y.num*(x.den:Int)).natAbs)→Calls Tryz.prog 158 #[.agg #[.bool (ng (x.num*(y.den:Int))),.slice A n c],.agg #[.bool (ng (y.num*(x.den:Int))),.slice A' n' c']] W fun e w'=>e=.returned (.int .i64 (cmpq x y))∧Below W.heap.size W w'):=Lib.hid fun W A n c A' n' c' q1 q2=>by
  have:=compareI_any (ng (x.num*(y.den:Int))) A n c _ (ng (y.num*(x.den:Int))) A' n' c' _ W q1 q2 (by rw[←q1.len];omega) (by rw[←q2.len];omega)
  rw[iv_z,iv_z,cmpi_sign] at this;exact this
 obtain⟨cc,ecc⟩:∃ cc,cc=cmpq x y:=⟨_,rfl⟩
 have hs0:=Lib.hid (fun h=>cmpq_same (x:=x) (y:=y) h)
 rw[←ecc]
 rw[←ecc] at hs0 hJ
 replace ecc:=Lib.hid ecc
 clear kx ky kp kq kdx kdy k1 k2 h1 h2
 have S:=(((((((St.new w).read R1).read R2).read R3).read R4).allocAt (w.heap.size) #[.bool b,.slice A n c,.slice D m d] 26 (noL3 _ _ _ _ _ _ _) (by simp)).allocAt (w.heap.size+1) #[.bool b',.slice A' n' c',.slice D' m' d'] 26 (noL3 _ _ _ _ _ _ _) (by simp))
 replace S:=Lib.hid S
 clear R1 R2 R3 R4 hn hm hn' hm'
 go_enter Tryz.func102,Tryz.ntmps102
 go_upto_region 1 with fail
 have S:=S.out
 generalize hW1:(World.alloc (World.alloc w (.cells #[.bool b,.slice A n c,.slice D m d] 26)) (.cells #[.bool b',.slice A' n' c',.slice D' m' d'] 26))=w1 at S ⊢
 clear hW1
 replace S:=Lib.hid S
 have d_x0:=St.cl (S.out) 1 0 rfl rfl
 have d_x1:=St.cl (S.out) 1 1 rfl rfl
 have d_x2:=St.cl (S.out) 1 2 rfl rfl
 have d_y0:=St.cl (S.out) 0 0 rfl rfl
 have d_y1:=St.cl (S.out) 0 1 rfl rfl
 have d_y2:=St.cl (S.out) 0 2 rfl rfl
 have dz_x0:=St.f (S.out) 1 0 rfl
 have dz_x1:=St.f (S.out) 1 1 rfl
 have dz_x2:=St.f (S.out) 1 2 rfl
 have dz_y0:=St.f (S.out) 0 0 rfl
 have dz_y1:=St.f (S.out) 0 1 rfl
 have dz_y2:=St.f (S.out) 0 2 rfl
 go_cut [] (fun wx=>∃ A1 n1 c1 D1 m1 d1 A2 n2 c2 D2 m2 d2,St w wx [(w.heap.size+1,#[.bool (ng y.num),.slice A2 n2 c2,.slice D2 m2 d2],26),(w.heap.size,#[.bool (ng x.num),.slice A1 n1 c1,.slice D1 m1 d1],26)] [(D2,m2,d2,dn y),(A2,n2,c2,limbs y.num.natAbs),(D1,m1,d1,dn x),(A1,n1,c1,limbs x.num.natAbs),(D',m',d',es),(A',n',c',ys),(D,m,d,ds),(A,n,c,xs)])
 case first=>
  have SD:=Lib.hid (S.out.drew)
  go_region_with (first
   | (go_at_call_of 143 (Value.agg #[.bool b,.slice A n c,.slice D m d]);refine (hK1.out _ (SD.out.r 3 rfl) (SD.out.r 2 rfl)).mono ?_;rintro e w2 ⟨A1,n1,c1,D1,m1,d1,rfl,Q1,bb0⟩;have S0:St w w2 [(w.heap.size+1,#[.bool b',.slice A' n' c',.slice D' m' d'],26),(w.heap.size,#[.bool b,.slice A n c,.slice D m d],26)] [(D1,m1,d1,dn x),(A1,n1,c1,limbs x.num.natAbs),(D',m',d',es),(A',n',c',ys),(D,m,d,ds),(A,n,c,xs)]:=(((SD.out.call bb0).read Q1.n).read Q1.d);have e0_y0:=St.cl (S0) 0 0 rfl rfl;have e0_y1:=St.cl (S0) 0 1 rfl rfl;have e0_y2:=St.cl (S0) 0 2 rfl rfl)
   | (go_at_call_of 143 (Value.agg #[.bool b',.slice A' n' c',.slice D' m' d']);refine (hK2.out _ (S0.r 3 rfl) (S0.r 2 rfl)).mono ?_;rintro e w3 ⟨A2,n2,c2,D2,m2,d2,rfl,Q2,bb1⟩;have S1:St w w3 [(w.heap.size+1,#[.bool b',.slice A' n' c',.slice D' m' d'],26),(w.heap.size,#[.bool b,.slice A n c,.slice D m d],26)] [(D2,m2,d2,dn y),(A2,n2,c2,limbs y.num.natAbs),(D1,m1,d1,dn x),(A1,n1,c1,limbs x.num.natAbs),(D',m',d',es),(A',n',c',ys),(D,m,d,ds),(A,n,c,xs)]:=(((S0.call bb1).read Q2.n).read Q2.d);have e1_x0:=St.cl (S1) 1 0 rfl rfl;have e1_x1:=St.cl (S1) 1 1 rfl rfl;have e1_x2:=St.cl (S1) 1 2 rfl rfl;have e1_y0:=St.cl (S1) 0 0 rfl rfl;have e1_y1:=St.cl (S1) 0 1 rfl rfl;have e1_y2:=St.cl (S1) 0 2 rfl rfl;have e1z_x0:=St.f (S1) 1 0 rfl;have e1z_x1:=St.f (S1) 1 1 rfl;have e1z_x2:=St.f (S1) 1 2 rfl;have e1z_y0:=St.f (S1) 0 0 rfl;have e1z_y1:=St.f (S1) 0 1 rfl;have e1z_y2:=St.f (S1) 0 2 rfl))
  all_goals
   have SE:=Lib.hid (((((((S1.set 1 0 (.bool (ng x.num)) rfl (by nofun)).set 1 1 (.slice A1 n1 c1) rfl (by nofun)).set 1 2 (.slice D1 m1 d1) rfl (by nofun)).set 0 0 (.bool (ng y.num)) rfl (by nofun)).set 0 1 (.slice A2 n2 c2) rfl (by nofun)).set 0 2 (.slice D2 m2 d2) rfl (by nofun)))
   clear d_x0 d_x1 d_x2 d_y0 d_y1 d_y2 dz_x0 dz_x1 dz_x2 dz_y0 dz_y1 dz_y2 e0_y0 e0_y1 e0_y2 e1_x0 e1_x1 e1_x2 e1_y0 e1_y1 e1_y2 e1z_x0 e1z_x1 e1z_x2 e1z_y0 e1z_y1 e1z_y2
   go_wp2_with fail
   go_meet
   exact⟨_,_,_,_,_,_,_,_,_,_,_,_,SE.out⟩
 case rest=>
  clear d_x0 d_x1 d_x2 d_y0 d_y1 d_y2 dz_x0 dz_x1 dz_x2 dz_y0 dz_y1 dz_y2
  clear S
  obtain⟨A1,n1,c1,D1,m1,d1,A2,n2,c2,D2,m2,d2,S⟩:=hcut
  obtain⟨c_y0,c_y1,c_y2,f_y0,f_y1,f_y2⟩:=S.cf3 0 rfl
  obtain⟨c_x0,c_x1,c_x2,f_x0,f_x1,f_x2⟩:=S.cf3 1 rfl
  have hz:w.heap.size+1<wc.heap.size:=S.lt 0 rfl
  replace S:=Lib.hid S
  clear hK1 hK2
  cases hs:(shq x&&shq y)
  case true=>
   have hBt:Hid (∀ A n c D m d A' n' c' D' m' d' W,RR W A n c D m d x→RR W A' n' c' D' m' d' y→Calls Tryz.prog 155 #[.agg #[.bool (ng x.num),.slice A n c,.slice D m d],.agg #[.bool (ng y.num),.slice A' n' c',.slice D' m' d']] W fun e w'=>e=.returned (.tuple #[.agg #[.int .i64 x.num,.int .i64 x.den],.agg #[.int .i64 y.num,.int .i64 y.den],.bool true])∧Below W.heap.size W w'):=Lib.hid fun A n c D m d A' n' c' D' m' d' W X Y=>(hB.out A n c D m d A' n' c' D' m' d' W X Y).mono (by
    rintro e w' ⟨a,b,c,d,rfl,h,bb⟩
    obtain⟨rfl,rfl,rfl,rfl⟩:=h hs
    rw[hs];exact⟨rfl,bb⟩)
   have hC:Hid (∀ W,Calls Tryz.prog 156 #[.int .i64 (x.num*y.den),.int .i64 (y.num*x.den)] W fun e w'=>e=.returned (.int .i64 cc)∧w'=W):=Lib.hid fun W=>by
    have:=Tryz.cmp_Compare_int (x.num*y.den) (y.num*x.den) W
    rw[libcmp_sign] at this;rw[ecc.out];exact this
   obtain⟨b1,b2,b3,b4⟩:=shq_true hs
   have p1:=mulq_bd b1 b4
   have p2:=mulq_bd b3 b2
   have w1':IntKind.i64.wrap (x.num*y.den)=x.num*y.den:=IntWalk.i64_in _ (by omega)
   have w2':IntKind.i64.wrap (y.num*x.den)=y.num*x.den:=IntWalk.i64_in _ (by omega)
   clear b1 b2 b3 b4 p1 p2 hs hB hE hI hX hY hM1 hM2 hJ hs0 ecc
   go_wp2_with fail
   refine (hBt.out _ _ _ _ _ _ _ _ _ _ _ _ _ ⟨(S.out.r 3 rfl),(S.out.r 2 rfl)⟩ ⟨(S.out.r 1 rfl),(S.out.r 0 rfl)⟩).mono ?_
   rintro e w5 ⟨rfl,bb⟩
   have T:=(S.out.call bb)
   clear bb S c_y0 f_y0 c_y1 f_y1 c_y2 f_y2 c_x0 f_x0 c_x1 f_x1 c_x2 f_x2 hz
   have S:=T
   clear T
   obtain⟨c_y0,c_y1,c_y2,f_y0,f_y1,f_y2⟩:=S.cf3 0 rfl
   obtain⟨c_x0,c_x1,c_x2,f_x0,f_x1,f_x2⟩:=S.cf3 1 rfl
   have hz:w.heap.size+1<w5.heap.size:=S.lt 0 rfl
   replace S:=Lib.hid S
   have S:=((S.out.allocAt (w5.heap.size) #[.int .i64 x.num,.int .i64 x.den] 123 (noLi _ _) (by simp)).allocAt (w5.heap.size+1) #[.int .i64 y.num,.int .i64 y.den] 123 (noLi _ _) (by simp))
   replace S:=Lib.hid S
   go_wp2_with fail
   refine (hC.out _).mono ?_
   rintro e wq ⟨rfl,rfl⟩
   have SB:=Lib.hid S.out.bel
   go_wp2
   go_ret
   exact⟨rfl,SB.out⟩
  case false=>
   have hBf:Hid (∀ A n c D m d A' n' c' D' m' d' W,RR W A n c D m d x→RR W A' n' c' D' m' d' y→Calls Tryz.prog 155 #[.agg #[.bool (ng x.num),.slice A n c,.slice D m d],.agg #[.bool (ng y.num),.slice A' n' c',.slice D' m' d']] W fun e w'=>∃ a b c d:Int,e=.returned (.tuple #[.agg #[.int .i64 a,.int .i64 b],.agg #[.int .i64 c,.int .i64 d],.bool false])∧Below W.heap.size W w'):=Lib.hid fun A n c D m d A' n' c' D' m' d' W X Y=>(hB.out A n c D m d A' n' c' D' m' d' W X Y).mono (by
    rintro e w' ⟨a,b,c,d,rfl,h,bb⟩
    rw[hs];exact⟨a,b,c,d,rfl,bb⟩)
   clear hs hB
   go_wp2_with fail
   refine (hBf.out _ _ _ _ _ _ _ _ _ _ _ _ _ ⟨(S.out.r 3 rfl),(S.out.r 2 rfl)⟩ ⟨(S.out.r 1 rfl),(S.out.r 0 rfl)⟩).mono ?_
   rintro e w5 ⟨a1,b1,a2,b2,rfl,bb⟩
   have T:=(S.out.call bb)
   clear bb S c_y0 f_y0 c_y1 f_y1 c_y2 f_y2 c_x0 f_x0 c_x1 f_x1 c_x2 f_x2 hz
   have S:=T
   clear T
   obtain⟨c_y0,c_y1,c_y2,f_y0,f_y1,f_y2⟩:=S.cf3 0 rfl
   obtain⟨c_x0,c_x1,c_x2,f_x0,f_x1,f_x2⟩:=S.cf3 1 rfl
   have hz:w.heap.size+1<w5.heap.size:=S.lt 0 rfl
   replace S:=Lib.hid S
   clear hBf
   have S:=((S.out.allocAt (w5.heap.size) #[.int .i64 a1,.int .i64 b1] 123 (noLi _ _) (by simp)).allocAt (w5.heap.size+1) #[.int .i64 a2,.int .i64 b2] 123 (noLi _ _) (by simp))
   replace S:=Lib.hid S
   have S:=S.out
   obtain⟨a_x0,a_x1,a_x2,b_x0,b_x1,b_x2⟩:=S.cf3 3 rfl
   obtain⟨a_y0,a_y1,a_y2,b_y0,b_y1,b_y2⟩:=S.cf3 2 rfl
   replace S:=Lib.hid S
   by_cases hd:dn x=dn y
   ·rw[decide_eq_true hd] at hE
    rw[hs0.out hd] at hI
    clear hd hs0 hX hY hM1 hM2 hJ ecc
    go_wp2_with fail
    refine (hE.out _ _ _ _ _ _ _ (S.out.r 2 rfl) (S.out.r 0 rfl)).mono ?_
    rintro e w6 ⟨rfl,bb⟩
    have T:=(S.out.call bb)
    clear bb S c_y0 f_y0 c_y1 f_y1 c_y2 f_y2 c_x0 f_x0 c_x1 f_x1 c_x2 f_x2 hz a_x0 b_x0 a_x1 b_x1 a_x2 b_x2 a_y0 b_y0 a_y1 b_y1 a_y2 b_y2
    have S:=T
    clear T
    obtain⟨c_t0,c_t1,f_t0,f_t1⟩:=S.cf2 0 rfl
    obtain⟨c_s0,c_s1,f_s0,f_s1⟩:=S.cf2 1 rfl
    obtain⟨c_y0,c_y1,c_y2,f_y0,f_y1,f_y2⟩:=S.cf3 2 rfl
    obtain⟨c_x0,c_x1,c_x2,f_x0,f_x1,f_x2⟩:=S.cf3 3 rfl
    have hz:w5.heap.size+1<w6.heap.size:=S.lt 0 rfl
    replace S:=Lib.hid S
    clear hE
    go_wp2_with fail
    refine (hI.out _ _ _ _ _ _ _ (S.out.r 3 rfl) (S.out.r 1 rfl)).mono ?_
    rintro e w7 ⟨rfl,bb⟩
    have T:=(S.out.call bb)
    clear bb S c_t0 f_t0 c_t1 f_t1 c_s0 f_s0 c_s1 f_s1 c_y0 f_y0 c_y1 f_y1 c_y2 f_y2 c_x0 f_x0 c_x1 f_x1 c_x2 f_x2 hz
    have S:=T
    clear T
    obtain⟨c_t0,c_t1,f_t0,f_t1⟩:=S.cf2 0 rfl
    obtain⟨c_s0,c_s1,f_s0,f_s1⟩:=S.cf2 1 rfl
    obtain⟨c_y0,c_y1,c_y2,f_y0,f_y1,f_y2⟩:=S.cf3 2 rfl
    obtain⟨c_x0,c_x1,c_x2,f_x0,f_x1,f_x2⟩:=S.cf3 3 rfl
    have hz:w5.heap.size+1<w7.heap.size:=S.lt 0 rfl
    replace S:=Lib.hid S
    clear hI
    have S:=S.out
    replace S:=Lib.hid S
    go_wp2
    go_ret
    exact⟨rfl,S.out.bel⟩
   ·rw[decide_eq_false hd] at hE
    clear hs0 hI hd ecc
    generalize x.num*(y.den:Int)=z1 at *
    generalize y.num*(x.den:Int)=z2 at *
    go_wp2_with fail
    refine (hE.out _ _ _ _ _ _ _ (S.out.r 2 rfl) (S.out.r 0 rfl)).mono ?_
    rintro e w6 ⟨rfl,bb⟩
    have T:=(S.out.call bb)
    clear bb S c_y0 f_y0 c_y1 f_y1 c_y2 f_y2 c_x0 f_x0 c_x1 f_x1 c_x2 f_x2 hz a_x0 b_x0 a_x1 b_x1 a_x2 b_x2 a_y0 b_y0 a_y1 b_y1 a_y2 b_y2
    have S:=T
    clear T
    obtain⟨c_t0,c_t1,f_t0,f_t1⟩:=S.cf2 0 rfl
    obtain⟨c_s0,c_s1,f_s0,f_s1⟩:=S.cf2 1 rfl
    obtain⟨c_y0,c_y1,c_y2,f_y0,f_y1,f_y2⟩:=S.cf3 2 rfl
    obtain⟨c_x0,c_x1,c_x2,f_x0,f_x1,f_x2⟩:=S.cf3 3 rfl
    have hz:w5.heap.size+1<w6.heap.size:=S.lt 0 rfl
    replace S:=Lib.hid S
    clear hE
    go_upto_region 7 with fail
    clear c_t0 f_t0 c_t1 f_t1 c_s0 f_s0 c_s1 f_s1 c_y0 f_y0 c_y1 f_y1 c_y2 f_y2 c_x0 f_x0 c_x1 f_x1 c_x2 f_x2 hz
    refine RW.begin (Z:=[]) (S:=(fun W=>Cb W (w.heap.size) #[.bool (ng x.num),.slice A1 n1 c1,.slice D1 m1 d1] 26∧Cb W (w.heap.size+1) #[.bool (ng y.num),.slice A2 n2 c2,.slice D2 m2 d2] 26)) (by kernel_rfl) ?_ S.out ?_
    ·exact⟨by kernel_rfl,zis_nil,by decide,by decide,nol_nil,(fun _ _ h=>⟨h.kb 3 rfl,h.kb 2 rfl⟩)⟩
    intro hzk
    clear S
    refine RW.t (i:=0) (v:=.pointer (some ⟨w.heap.size,0,none⟩)) (some 41) at0 (hy:=fun _ _=>by kernel_rfl) (h:=?_)
    refine RW.t (i:=1) (v:=.agg #[.bool (ng x.num),.slice A1 n1 c1]) (some 42) at1 (hy:=fun W hS=>by (have k0:=Cb.cell (i:=0) hS.1 rfl;have k1:=Cb.cell (i:=1) hS.1 rfl;clear hS;go_simp)) (h:=?_)
    refine RW.t (i:=2) (v:=.agg #[.bool (ng y.num),.slice A2 n2 c2,.slice D2 m2 d2]) (some 43) at2 (hy:=fun W hS=>by (have k0:=Cb.cell (i:=0) hS.2 rfl;have k1:=Cb.cell (i:=1) hS.2 rfl;have k2:=Cb.cell (i:=2) hS.2 rfl;clear hS;go_simp)) (h:=?_)
    refine RW.t (i:=5) (v:=.pointer (some ⟨w.heap.size+1,0,none⟩)) (some 46) at5 (hy:=fun _ _=>by kernel_rfl) (h:=?_)
    refine RW.t (i:=6) (v:=.agg #[.bool (ng y.num),.slice A2 n2 c2]) (some 47) at6 (hy:=fun W hS=>by (have k0:=Cb.cell (i:=0) hS.2 rfl;have k1:=Cb.cell (i:=1) hS.2 rfl;clear hS;go_simp)) (h:=?_)
    refine RW.t (i:=7) (v:=.agg #[.bool (ng x.num),.slice A1 n1 c1,.slice D1 m1 d1]) (some 48) at7 (hy:=fun W hS=>by (have k0:=Cb.cell (i:=0) hS.1 rfl;have k1:=Cb.cell (i:=1) hS.1 rfl;have k2:=Cb.cell (i:=2) hS.1 rfl;clear hS;go_simp)) (h:=?_)
    refine RW.c (i:=3) (args:=#[.agg #[.bool (ng y.num),.slice A2 n2 c2,.slice D2 m2 d2]]) (some 44) hzk.out at3 (hx:=fun _=>by kernel_rfl) (h:=fun _ S=>(hY.out _ _ _ _ _ _ _ ⟨(S.r 1 rfl),(S.r 0 rfl)⟩).mono ?_)
    rintro e w7 ⟨A3,n3,c3,rfl,Q3,bb⟩
    refine⟨bb,_,[(A3,n3,c3,limbs y.den)],rfl,(rd_cons Q3 rd_nil),?_⟩
    clear bb S Q3
    refine RW.c (i:=4) (args:=#[.agg #[.bool (ng x.num),.slice A1 n1 c1],.agg #[.bool false,.slice A3 n3 c3]]) (some 45) hzk.out at4 (hx:=fun _=>by kernel_rfl) (h:=fun _ S=>(hM1.out _ _ _ _ _ _ _ (S.r 4 rfl) (S.r 0 rfl)).mono ?_)
    rintro e w8 ⟨A4,n4,c4,rfl,Q4,bb⟩
    refine⟨bb,_,[(A4,n4,c4,limbs z1.natAbs)],rfl,(rd_cons Q4 rd_nil),?_⟩
    clear bb S Q4
    refine RW.c (i:=8) (args:=#[.agg #[.bool (ng x.num),.slice A1 n1 c1,.slice D1 m1 d1]]) (some 49) hzk.out at8 (hx:=fun _=>by kernel_rfl) (h:=fun _ S=>(hX.out _ _ _ _ _ _ _ ⟨(S.r 5 rfl),(S.r 4 rfl)⟩).mono ?_)
    rintro e w9 ⟨A5,n5,c5,rfl,Q5,bb⟩
    refine⟨bb,_,[(A5,n5,c5,limbs x.den)],rfl,(rd_cons Q5 rd_nil),?_⟩
    clear bb S Q5
    refine RW.c (i:=9) (args:=#[.agg #[.bool (ng y.num),.slice A2 n2 c2],.agg #[.bool false,.slice A5 n5 c5]]) (some 50) hzk.out at9 (hx:=fun _=>by kernel_rfl) (h:=fun _ S=>(hM2.out _ _ _ _ _ _ _ (S.r 4 rfl) (S.r 0 rfl)).mono ?_)
    rintro e w10 ⟨A6,n6,c6,rfl,Q6,bb⟩
    refine⟨bb,_,[(A6,n6,c6,limbs z2.natAbs)],rfl,(rd_cons Q6 rd_nil),?_⟩
    clear bb S Q6
    refine RW.c (i:=10) (args:=#[.agg #[.bool (ng z1),.slice A4 n4 c4],.agg #[.bool (ng z2),.slice A6 n6 c6]]) (some 51) hzk.out at10 (hx:=fun _=>by kernel_rfl) (h:=fun _ S=>(hJ.out _ _ _ _ _ _ _ (S.r 2 rfl) (S.r 0 rfl)).mono ?_)
    rintro e w11 ⟨rfl,bb⟩
    refine⟨bb,_,[],rfl,rd_nil,?_⟩
    clear bb S
    refine RW.tail hzk.out (by kernel_rfl) ?_
    intro gs w12 hgs hS S
    obtain rfl:=len0 hgs
    clear hS hgs hzk
    simp only[mark,fill,Act.put,List.setIfInBounds_toArray,List.set_cons_zero,List.set_cons_succ]
    replace S:=Lib.hid S
    refine Wk.o (i:=11) at11 (by kernel_rfl) fun K' hK=>?_
    go_simp
    have SN:=S.out
    clear S
    have S:=SN
    clear SN
    refine hK.out _ _ ⟨(S.cb 3 rfl),(S.cb 2 rfl)⟩ ?_
    clear hK K'
    replace S:=Lib.hid S
    try simp only[Act.put,List.setIfInBounds_toArray,List.set_cons_zero,List.set_cons_succ]
    refine Wk.done (by kernel_rfl) ?_
    go_simp
    replace S:=S.out
    have S:St w _ [(w5.heap.size+1,#[.int .i64 a2,.int .i64 b2],123),(w5.heap.size,#[.int .i64 a1,.int .i64 b1],123),(w.heap.size+1,#[.bool (ng y.num),.slice A2 n2 c2,.slice D2 m2 d2],26),(w.heap.size,#[.bool (ng x.num),.slice A1 n1 c1,.slice D1 m1 d1],26)] [(A6,n6,c6,limbs z2.natAbs),(A5,n5,c5,limbs x.den),(A4,n4,c4,limbs z1.natAbs),(A3,n3,c3,limbs y.den),(D2,m2,d2,dn y),(A2,n2,c2,limbs y.num.natAbs),(D1,m1,d1,dn x),(A1,n1,c1,limbs x.num.natAbs),(D',m',d',es),(A',n',c',ys),(D,m,d,ds),(A,n,c,xs)]:=S
    replace S:=Lib.hid S
    replace S:=S.out
    obtain⟨c_t0,c_t1,f_t0,f_t1⟩:=S.cf2 0 rfl
    obtain⟨c_s0,c_s1,f_s0,f_s1⟩:=S.cf2 1 rfl
    obtain⟨c_y0,c_y1,c_y2,f_y0,f_y1,f_y2⟩:=S.cf3 2 rfl
    obtain⟨c_x0,c_x1,c_x2,f_x0,f_x1,f_x2⟩:=S.cf3 3 rfl
    have hz:w5.heap.size+1<w12.heap.size:=S.lt 0 rfl
    replace S:=Lib.hid S
    have S:=S.out
    replace S:=Lib.hid S
    go_wp2
    go_ret
    exact⟨rfl,S.out.bel⟩
end Go.Proofs.YtphckmdnflbloaaGreat
