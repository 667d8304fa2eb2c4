/- Make of rational. -/
import Derived.Test.YtdeedofmflelfaaGreatDoorQRcz
import Derived.Deep.CutBlock
namespace Go.Proofs.YtdeedofmflelfaaGreatDoor
open Go.RowKit RQ
theorem res_make (W:World) (tmps:Array Value) (g t:Nat) {v0 v1 v2 er:Value} (ht:tmps.getD 4 undef=.pointer (some ⟨g,0,none⟩)) (ht2:tmps.getD 5 undef=er) (h:Cb W g #[v0,v1,v2] t) :
  (results Tryz.f161 tmps).run Tryz.prog W=.ok (.tuple #[.agg #[v0,v1,v2],er]) W:=by
 have c0:W.cell? ⟨g,0,none⟩=some v0:=h.cell rfl
 have c1:W.cell? ⟨g,1,none⟩=some v1:=h.cell rfl
 have c2:W.cell? ⟨g,2,none⟩=some v2:=h.cell rfl
 have ht':tmps[4]?.getD undef=.pointer (some ⟨g,0,none⟩):=by rw[←ht];simp[Array.getD_eq_getD_getElem?]
 have ht3:tmps[5]?.getD undef=er:=by rw[←ht2];simp[Array.getD_eq_getD_getElem?]
 simp[results,Tryz.results161,go_sem,ht',ht3,c0,c1,c2]
/-- What a function that returns one rational number and a word leaves. -/
def RetRE (q:Rat) (er:Value) (w:World) (e:Ending) (w':World):Prop:=∃ A n c D m d,e=.returned (.tuple #[.agg #[.bool (ng q.num),.slice A n c,.slice D m d],er])∧RR w' A n c D m d q∧Below w.heap.size w w'
def mkE (z:Int):Int:=if z=0 then 5 else 0
theorem gcd_len {u v:Int} {p:Nat} (hv:v≠0) (h:v.natAbs<4294967296^p):(limbs (Int.gcd u v)).length≤p:=
 limbs_len_le.2 (Nat.lt_of_le_of_lt (Nat.le_of_dvd (by omega) (Nat.gcd_dvd_right _ _)) h)
set_option maxHeartbeats 8000000 in
theorem make_any (b:Bool) (A:Option Addr) (n c:Nat) (xs:List Nat) (b':Bool) (A':Option Addr) (n' c':Nat) (ys:List Nat) (w:World) (R1:Rd w A n c xs) (R2:Rd w A' n' c' ys) (hn:n≤400) (hn':n'≤400) :
  Calls Tryz.prog 161 #[.agg #[.bool b,.slice A n c],.agg #[.bool b',.slice A' n' c']] w (RetRE (Rat.divInt (iv b xs) (iv b' ys)) (.int .i64 (mkE (iv b' ys))) w):=by
 obtain⟨u0,hu⟩:∃ u,iv b xs=u:=⟨_,rfl⟩
 obtain⟨v0,hv⟩:∃ v,iv b' ys=v:=⟨_,rfl⟩
 have lv:=iv_lt (b:=b') R2.sm (Nat.le_trans (Nat.le_of_eq R2.len) hn')
 have lu:=iv_abs (b:=b) R1.sm (Nat.le_trans (Nat.le_of_eq R1.len) hn)
 have lv2:=iv_abs (b:=b') R2.sm (Nat.le_trans (Nat.le_of_eq R2.len) hn')
 rw[hv] at lv lv2
 rw[hu] at lu
 have hsg:=fun W h=>signI_any b' A' n' c' ys W h (by omega)
 have hnu:=fun W h=>negI_any b A n c xs W h (by omega)
 have hnv:=fun W h=>negI_any b' A' n' c' ys W h (by omega)
 rw[hv] at hsg hnv
 rw[hu] at hnu
 rw[hu,hv]
 unfold mkE
 have S:=((((((St.new w).read R1).read R2).allocAt (w.heap.size) #[.bool b,.slice A n c] 44 (noL2 _ _ _ _) (by simp)).allocAt (w.heap.size+1) #[.bool b',.slice A' n' c'] 44 (noL2 _ _ _ _) (by simp)).allocAt (w.heap.size+1+1) #[.bool false,.slice none 0 0,.slice none 0 0] 46 (noL3 _ _ _ _ _ _ _) (by simp))
 replace S:=Lib.hid S
 clear R1 R2
 rcases Int.lt_trichotomy v0 0 with h | h | h
 ·have hgp:Hid (0<Int.gcd (-u0) (-v0)):=Lib.hid (Nat.gcd_pos_of_pos_right _ (by omega))
  have hgl:Hid ((limbs (Int.gcd (-u0) (-v0))).length≤400):=Lib.hid (gcd_len (by omega) (by rw[Int.natAbs_neg];exact lv))
  have hv0:Hid (0 < -v0):=Lib.hid (by omega)
  rw[if_neg (show v0≠0 by omega),←Rat.neg_divInt_neg]
  rw[Int.sign_eq_neg_one_of_neg h] at hsg
  have l1:(limbs (-u0).natAbs).length≤400:=by rw[Int.natAbs_neg];exact lu
  have l2:(limbs (-v0).natAbs).length≤400:=by rw[Int.natAbs_neg];exact lv2
  clear h lu lv lv2 hu hv hn hn'
  generalize -u0=u at *
  generalize -v0=v at *
  replace hsg:=Lib.hid hsg
  replace hnu:=Lib.hid hnu
  replace hnv:=Lib.hid hnv
  replace l1:=Lib.hid l1
  replace l2:=Lib.hid l2
  go_enter Tryz.func161,Tryz.ntmps161
  go_wp2_with fail
  refine (hsg.out _ (S.out.r 0 rfl)).mono ?_
  rintro e w1 ⟨rfl,bb⟩
  have T:=(S.out.call bb)
  clear bb S
  have S:=T
  clear T
  obtain⟨c_r0,c_r1,c_r2,f_r0,f_r1,f_r2⟩:=S.cf3 0 rfl
  obtain⟨c_y0,c_y1,f_y0,f_y1⟩:=S.cf2 1 rfl
  obtain⟨c_x0,c_x1,f_x0,f_x1⟩:=S.cf2 2 rfl
  have hz:w.heap.size+1+1<w1.heap.size:=S.lt 0 rfl
  replace S:=Lib.hid S
  clear hsg
  go_upto_block 0 with fail
  clear c_r0 f_r0 c_r1 f_r1 c_r2 f_r2 c_y0 f_y0 c_y1 f_y1 c_x0 f_x0 c_x1 f_x1 hz
  go_cut [] (fun wx=>∃ A1 n1 c1 A2 n2 c2,St w wx [(w.heap.size+1+1,#[.bool false,.slice none 0 0,.slice none 0 0],46),(w.heap.size+1,#[.bool (ng v),.slice A2 n2 c2],44),(w.heap.size,#[.bool (ng u),.slice A1 n1 c1],44)] [(A2,n2,c2,limbs v.natAbs),(A1,n1,c1,limbs u.natAbs),(A',n',c',ys),(A,n,c,xs)])
  case first=>
   go_upto_region 5 with fail
   have d_x0:=St.cl (S.out) 2 0 rfl rfl
   have d_x1:=St.cl (S.out) 2 1 rfl rfl
   have d_y0:=St.cl (S.out) 1 0 rfl rfl
   have d_y1:=St.cl (S.out) 1 1 rfl rfl
   have dz_x0:=St.f (S.out) 2 0 rfl
   have dz_x1:=St.f (S.out) 2 1 rfl
   have dz_y0:=St.f (S.out) 1 0 rfl
   have dz_y1:=St.f (S.out) 1 1 rfl
   have SD:=Lib.hid (S.out.drew)
   go_region_with (first
    | (go_at_call_of 130 (Value.agg #[.bool b,.slice A n c]);refine (hnu.out _ (SD.out.r 1 rfl)).mono ?_;rintro e w2 ⟨A1,n1,c1,rfl,Q1,bb0⟩;have S0:St w w2 [(w.heap.size+1+1,#[.bool false,.slice none 0 0,.slice none 0 0],46),(w.heap.size+1,#[.bool b',.slice A' n' c'],44),(w.heap.size,#[.bool b,.slice A n c],44)] [(A1,n1,c1,limbs u.natAbs),(A',n',c',ys),(A,n,c,xs)]:=((SD.out.call bb0).read Q1);have e0_y0:=St.cl (S0) 1 0 rfl rfl;have e0_y1:=St.cl (S0) 1 1 rfl rfl)
    | (go_at_call_of 130 (Value.agg #[.bool b',.slice A' n' c']);refine (hnv.out _ (S0.r 1 rfl)).mono ?_;rintro e w3 ⟨A2,n2,c2,rfl,Q2,bb1⟩;have S1:St w w3 [(w.heap.size+1+1,#[.bool false,.slice none 0 0,.slice none 0 0],46),(w.heap.size+1,#[.bool b',.slice A' n' c'],44),(w.heap.size,#[.bool b,.slice A n c],44)] [(A2,n2,c2,limbs v.natAbs),(A1,n1,c1,limbs u.natAbs),(A',n',c',ys),(A,n,c,xs)]:=((S0.call bb1).read Q2);have e1_x0:=St.cl (S1) 2 0 rfl rfl;have e1_x1:=St.cl (S1) 2 1 rfl rfl;have e1_y0:=St.cl (S1) 1 0 rfl rfl;have e1_y1:=St.cl (S1) 1 1 rfl rfl;have e1z_x0:=St.f (S1) 2 0 rfl;have e1z_x1:=St.f (S1) 2 1 rfl;have e1z_y0:=St.f (S1) 1 0 rfl;have e1z_y1:=St.f (S1) 1 1 rfl))
   all_goals
    have SE:=Lib.hid (((((S1.set 2 0 (.bool (ng u)) rfl (by nofun)).set 2 1 (.slice A1 n1 c1) rfl (by nofun)).set 1 0 (.bool (ng v)) rfl (by nofun)).set 1 1 (.slice A2 n2 c2) rfl (by nofun)))
    clear d_x0 d_x1 d_y0 d_y1 dz_x0 dz_x1 dz_y0 dz_y1 e0_y0 e0_y1 e1_x0 e1_x1 e1_y0 e1_y1 e1z_x0 e1z_x1 e1z_y0 e1z_y1
    go_wp2_with fail
    go_meet
    exact⟨_,_,_,_,_,_,SE.out⟩
  case rest=>
   clear S
   obtain⟨A1,n1,c1,A2,n2,c2,S⟩:=hcut
   obtain⟨c_r0,c_r1,c_r2,f_r0,f_r1,f_r2⟩:=S.cf3 0 rfl
   obtain⟨c_y0,c_y1,f_y0,f_y1⟩:=S.cf2 1 rfl
   obtain⟨c_x0,c_x1,f_x0,f_x1⟩:=S.cf2 2 rfl
   have hz:w.heap.size+1+1<wc.heap.size:=S.lt 0 rfl
   replace S:=Lib.hid S
   have g1:n1≤400:=by rw[←(S.out.r 1 rfl).len];exact l1.out
   have g2:n2≤400:=by rw[←(S.out.r 0 rfl).len];exact l2.out
   clear hnu hnv
   have hg:Hid (∀ W,Rd W A1 n1 c1 (limbs u.natAbs)→Rd W A2 n2 c2 (limbs v.natAbs)→Calls Tryz.prog 181 #[.agg #[.bool (ng u),.slice A1 n1 c1],.agg #[.bool (ng v),.slice A2 n2 c2]] W fun e W'=>∃ A n c,e=.returned (.agg #[.bool false,.slice A n c])∧Rd W' A n c (limbs (Int.gcd u v))∧Below W.heap.size W W'):=Lib.hid fun W q1 q2=>by
    have:=divisor_any (ng u) A1 n1 c1 (limbs u.natAbs) (ng v) A2 n2 c2 (limbs v.natAbs) W q1 q2 (by omega) (by omega)
    rw[show iv (ng u) (limbs u.natAbs)=u from iv_z u,show iv (ng v) (limbs v.natAbs)=v from iv_z v] at this
    refine this.mono fun e W' h=>?_
    obtain⟨A,n,c,he,R,B⟩:=h
    rw[show ng ((Int.gcd u v:Nat):Int)=false from decide_eq_false (by omega)] at he
    rw[Int.natAbs_natCast] at R
    exact⟨A,n,c,he,R,B⟩
   have hd1:Hid (∀ W A3 n3 c3,Rd W A1 n1 c1 (limbs u.natAbs)→Rd W A3 n3 c3 (limbs (Int.gcd u v))→Calls Tryz.prog 186 #[.agg #[.bool (ng u),.slice A1 n1 c1],.agg #[.bool false,.slice A3 n3 c3]] W (RetD2 (Rat.divInt u v).num (u%(Int.gcd u v:Int)) W)):=Lib.hid fun W A3 n3 c3 q1 q2=>by
    have l3:n3≤400:=by rw[←q2.len];exact hgl.out
    have:=divI_any (ng u) A1 n1 c1 (limbs u.natAbs) false A3 n3 c3 _ W q1 q2 (by omega) (by omega) (by rw[iv_pos];have:=hgp.out;omega)
    rwa [show iv (ng u) (limbs u.natAbs)=u from iv_z u,iv_pos,←(divInt_pos u hv0.out).1] at this
   have hd2:Hid (∀ W A3 n3 c3,Rd W A2 n2 c2 (limbs v.natAbs)→Rd W A3 n3 c3 (limbs (Int.gcd u v))→Calls Tryz.prog 186 #[.agg #[.bool (ng v),.slice A2 n2 c2],.agg #[.bool false,.slice A3 n3 c3]] W (RetD2 ((Rat.divInt u v).den:Int) (v%(Int.gcd u v:Int)) W)):=Lib.hid fun W A3 n3 c3 q1 q2=>by
    have l3:n3≤400:=by rw[←q2.len];exact hgl.out
    have:=divI_any (ng v) A2 n2 c2 (limbs v.natAbs) false A3 n3 c3 _ W q1 q2 (by omega) (by omega) (by rw[iv_pos];have:=hgp.out;omega)
    rwa [show iv (ng v) (limbs v.natAbs)=v from iv_z v,iv_pos,←(divInt_pos u hv0.out).2] at this
   have hfr:=Lib.hid (fun W A n c D m d q1 q2=>fraction_any (Rat.divInt u v) A n c D m d W q1 q2)
   have hngd:Hid (ng ((Rat.divInt u v).den:Int)=false):=Lib.hid (decide_eq_false (by omega))
   clear g1 g2
   go_wp2_with fail
   refine (hg.out _ (S.out.r 1 rfl) (S.out.r 0 rfl)).mono ?_
   rintro e w5 ⟨A3,n3,c3,rfl,Q3,bb⟩
   have T:=((S.out.call bb).read Q3)
   clear bb S c_r0 f_r0 c_r1 f_r1 c_r2 f_r2 c_y0 f_y0 c_y1 f_y1 c_x0 f_x0 c_x1 f_x1 hz
   have S:=T
   clear T
   obtain⟨c_r0,c_r1,c_r2,f_r0,f_r1,f_r2⟩:=S.cf3 0 rfl
   obtain⟨c_y0,c_y1,f_y0,f_y1⟩:=S.cf2 1 rfl
   obtain⟨c_x0,c_x1,f_x0,f_x1⟩:=S.cf2 2 rfl
   have hz:w.heap.size+1+1<w5.heap.size:=S.lt 0 rfl
   replace S:=Lib.hid S
   clear Q3 hg
   have S:=(S.out.allocAt (w5.heap.size) #[.bool false,.slice A3 n3 c3] 44 (noL2 _ _ _ _) (by simp))
   obtain⟨a_x0,a_x1,b_x0,b_x1⟩:=S.cf2 3 rfl
   obtain⟨a_y0,a_y1,b_y0,b_y1⟩:=S.cf2 2 rfl
   replace S:=Lib.hid S
   go_wp2_with fail
   refine (hd1.out _ _ _ _ (S.out.r 2 rfl) (S.out.r 0 rfl)).mono ?_
   rintro e w6 ⟨A4,n4,c4,A5,n5,c5,rfl,Q4,Q5,bb⟩
   have T:=((S.out.call bb).read Q4)
   clear bb S c_r0 f_r0 c_r1 f_r1 c_r2 f_r2 c_y0 f_y0 c_y1 f_y1 c_x0 f_x0 c_x1 f_x1 hz a_x0 b_x0 a_x1 b_x1 a_y0 b_y0 a_y1 b_y1
   have S:=T
   clear T
   obtain⟨c_g0,c_g1,f_g0,f_g1⟩:=S.cf2 0 rfl
   obtain⟨c_r0,c_r1,c_r2,f_r0,f_r1,f_r2⟩:=S.cf3 1 rfl
   obtain⟨c_y0,c_y1,f_y0,f_y1⟩:=S.cf2 2 rfl
   obtain⟨c_x0,c_x1,f_x0,f_x1⟩:=S.cf2 3 rfl
   have hz:w5.heap.size<w6.heap.size:=S.lt 0 rfl
   replace S:=Lib.hid S
   clear Q4 Q5 hd1
   have S:St w _ [(w5.heap.size,#[.bool false,.slice A3 n3 c3],44),(w.heap.size+1+1,#[.bool false,.slice none 0 0,.slice none 0 0],46),(w.heap.size+1,#[.bool (ng v),.slice A2 n2 c2],44),(w.heap.size,#[.bool (ng (Rat.divInt u v).num),.slice A4 n4 c4],44)] [(A4,n4,c4,limbs (Rat.divInt u v).num.natAbs),(A3,n3,c3,limbs (Int.gcd u v)),(A2,n2,c2,limbs v.natAbs),(A1,n1,c1,limbs u.natAbs),(A',n',c',ys),(A,n,c,xs)]:=((S.out.set 3 0 (.bool (ng (Rat.divInt u v).num)) rfl (by nofun)).set 3 1 (.slice A4 n4 c4) rfl (by nofun))
   obtain⟨a_y0,a_y1,b_y0,b_y1⟩:=S.cf2 2 rfl
   obtain⟨a_g0,a_g1,b_g0,b_g1⟩:=S.cf2 0 rfl
   replace S:=Lib.hid S
   go_wp2_with fail
   refine (hd2.out _ _ _ _ (S.out.r 2 rfl) (S.out.r 1 rfl)).mono ?_
   rintro e w7 ⟨A6,n6,c6,A7,n7,c7,rfl,Q6,Q7,bb⟩
   have T:=((S.out.call bb).read Q6)
   clear bb S c_g0 f_g0 c_g1 f_g1 c_r0 f_r0 c_r1 f_r1 c_r2 f_r2 c_y0 f_y0 c_y1 f_y1 c_x0 f_x0 c_x1 f_x1 hz a_y0 b_y0 a_y1 b_y1 a_g0 b_g0 a_g1 b_g1
   have S:=T
   clear T
   obtain⟨c_g0,c_g1,f_g0,f_g1⟩:=S.cf2 0 rfl
   obtain⟨c_r0,c_r1,c_r2,f_r0,f_r1,f_r2⟩:=S.cf3 1 rfl
   obtain⟨c_y0,c_y1,f_y0,f_y1⟩:=S.cf2 2 rfl
   obtain⟨c_x0,c_x1,f_x0,f_x1⟩:=S.cf2 3 rfl
   have hz:w5.heap.size<w7.heap.size:=S.lt 0 rfl
   replace S:=Lib.hid S
   clear Q6 Q7 hd2
   rw[hngd.out]
   have S:St w _ [(w5.heap.size,#[.bool false,.slice A3 n3 c3],44),(w.heap.size+1+1,#[.bool false,.slice none 0 0,.slice none 0 0],46),(w.heap.size+1,#[.bool false,.slice A6 n6 c6],44),(w.heap.size,#[.bool (ng (Rat.divInt u v).num),.slice A4 n4 c4],44)] [(A6,n6,c6,limbs (Rat.divInt u v).den),(A4,n4,c4,limbs (Rat.divInt u v).num.natAbs),(A3,n3,c3,limbs (Int.gcd u v)),(A2,n2,c2,limbs v.natAbs),(A1,n1,c1,limbs u.natAbs),(A',n',c',ys),(A,n,c,xs)]:=((S.out.set 2 0 (.bool false) rfl (by nofun)).set 2 1 (.slice A6 n6 c6) rfl (by nofun))
   obtain⟨a_x0,a_x1,b_x0,b_x1⟩:=S.cf2 3 rfl
   obtain⟨a_y0,a_y1,b_y0,b_y1⟩:=S.cf2 2 rfl
   replace S:=Lib.hid S
   go_wp2_with fail
   refine (hfr.out _ _ _ _ _ _ _ (S.out.r 1 rfl) (S.out.r 0 rfl)).mono ?_
   rintro e w8 ⟨A8,n8,c8,D8,m8,d8,rfl,Q8,bb⟩
   have T:=(((S.out.call bb).read Q8.n).read Q8.d)
   clear bb S c_g0 f_g0 c_g1 f_g1 c_r0 f_r0 c_r1 f_r1 c_r2 f_r2 c_y0 f_y0 c_y1 f_y1 c_x0 f_x0 c_x1 f_x1 hz a_x0 b_x0 a_x1 b_x1 a_y0 b_y0 a_y1 b_y1
   have S:=T
   clear T
   obtain⟨c_g0,c_g1,f_g0,f_g1⟩:=S.cf2 0 rfl
   obtain⟨c_r0,c_r1,c_r2,f_r0,f_r1,f_r2⟩:=S.cf3 1 rfl
   obtain⟨c_y0,c_y1,f_y0,f_y1⟩:=S.cf2 2 rfl
   obtain⟨c_x0,c_x1,f_x0,f_x1⟩:=S.cf2 3 rfl
   have hz:w5.heap.size<w8.heap.size:=S.lt 0 rfl
   replace S:=Lib.hid S
   clear Q8 hfr
   have S:St w _ [(w5.heap.size,#[.bool false,.slice A3 n3 c3],44),(w.heap.size+1+1,#[.bool (ng (Rat.divInt u v).num),.slice A8 n8 c8,.slice D8 m8 d8],46),(w.heap.size+1,#[.bool false,.slice A6 n6 c6],44),(w.heap.size,#[.bool (ng (Rat.divInt u v).num),.slice A4 n4 c4],44)] [(D8,m8,d8,dn (Rat.divInt u v)),(A8,n8,c8,limbs (Rat.divInt u v).num.natAbs),(A6,n6,c6,limbs (Rat.divInt u v).den),(A4,n4,c4,limbs (Rat.divInt u v).num.natAbs),(A3,n3,c3,limbs (Int.gcd u v)),(A2,n2,c2,limbs v.natAbs),(A1,n1,c1,limbs u.natAbs),(A',n',c',ys),(A,n,c,xs)]:=(((S.out.set 1 0 (.bool (ng (Rat.divInt u v).num)) rfl (by nofun)).set 1 1 (.slice A8 n8 c8) rfl (by nofun)).set 1 2 (.slice D8 m8 d8) rfl (by nofun))
   replace S:=Lib.hid S
   go_wp2
   refine bodyPost_ret (res_make _ _ (w.heap.size+1+1) 46 rfl rfl (S.out.bk _ (List.mem_of_getElem? (i:=1) rfl)).1) rfl ?_
   exact⟨_,_,_,_,_,_,rfl,⟨S.out.r 1 rfl,S.out.r 0 rfl⟩,S.out.bel⟩
 ·subst h
  rw[if_pos rfl,Rat.divInt_zero]
  replace hsg:=Lib.hid hsg
  clear hnu hnv lu lv lv2 hu hv hn hn'
  go_enter Tryz.func161,Tryz.ntmps161
  go_wp2_with fail
  refine (hsg.out _ (S.out.r 0 rfl)).mono ?_
  rintro e w1 ⟨rfl,bb⟩
  have T:=(S.out.call bb)
  clear bb S
  have S:=T
  clear T
  obtain⟨c_r0,c_r1,c_r2,f_r0,f_r1,f_r2⟩:=S.cf3 0 rfl
  obtain⟨c_y0,c_y1,f_y0,f_y1⟩:=S.cf2 1 rfl
  obtain⟨c_x0,c_x1,f_x0,f_x1⟩:=S.cf2 2 rfl
  have hz:w.heap.size+1+1<w1.heap.size:=S.lt 0 rfl
  replace S:=Lib.hid S
  clear hsg
  have S:St w _ [(w.heap.size+1+1,#[.bool false,.slice none 0 0,.slice none 0 0],46),(w.heap.size+1,#[.bool b',.slice A' n' c'],44),(w.heap.size,#[.bool b,.slice A n c],44)] [(A',n',c',ys),(A,n,c,xs)]:=(((S.out.set 0 0 (.bool false) rfl (by nofun)).set 0 1 (.slice none 0 0) rfl (by nofun)).set 0 2 (.slice none 0 0) rfl (by nofun))
  replace S:=Lib.hid S
  go_wp2
  refine bodyPost_ret (res_make _ _ (w.heap.size+1+1) 46 rfl rfl (S.out.bk _ (List.mem_of_getElem? (i:=0) rfl)).1) rfl ?_
  exact⟨_,_,_,_,_,_,rfl,zero_RR _ _ _ _ _,S.out.bel⟩
 ·have hgp:Hid (0<Int.gcd u0 v0):=Lib.hid (Nat.gcd_pos_of_pos_right _ (by omega))
  have hgl:Hid ((limbs (Int.gcd u0 v0)).length≤400):=Lib.hid (gcd_len (by omega) lv)
  have hv0:Hid (0<v0):=Lib.hid h
  rw[if_neg (show v0≠0 by omega)]
  rw[Int.sign_eq_one_of_pos h] at hsg
  clear h lu lv lv2 hnu hnv
  obtain⟨u,eu⟩:∃ u,u0=u:=⟨_,rfl⟩
  obtain⟨v,ev⟩:∃ v,v0=v:=⟨_,rfl⟩
  rw[eu] at hu hgp hgl ⊢
  rw[ev] at hv hgp hgl hv0 ⊢
  clear eu ev
  replace hsg:=Lib.hid hsg
  have hg:Hid (∀ W,Rd W A n c (xs)→Rd W A' n' c' (ys)→Calls Tryz.prog 181 #[.agg #[.bool (b),.slice A n c],.agg #[.bool (b'),.slice A' n' c']] W fun e W'=>∃ A n c,e=.returned (.agg #[.bool false,.slice A n c])∧Rd W' A n c (limbs (Int.gcd u v))∧Below W.heap.size W W'):=Lib.hid fun W q1 q2=>by
   have:=divisor_any (b) A n c (xs) (b') A' n' c' (ys) W q1 q2 (by omega) (by omega)
   rw[hu,hv] at this
   refine this.mono fun e W' h=>?_
   obtain⟨A,n,c,he,R,B⟩:=h
   rw[show ng ((Int.gcd u v:Nat):Int)=false from decide_eq_false (by omega)] at he
   rw[Int.natAbs_natCast] at R
   exact⟨A,n,c,he,R,B⟩
  have hd1:Hid (∀ W A3 n3 c3,Rd W A n c (xs)→Rd W A3 n3 c3 (limbs (Int.gcd u v))→Calls Tryz.prog 186 #[.agg #[.bool (b),.slice A n c],.agg #[.bool false,.slice A3 n3 c3]] W (RetD2 (Rat.divInt u v).num (u%(Int.gcd u v:Int)) W)):=Lib.hid fun W A3 n3 c3 q1 q2=>by
   have l3:n3≤400:=by rw[←q2.len];exact hgl.out
   have:=divI_any (b) A n c (xs) false A3 n3 c3 _ W q1 q2 (by omega) (by omega) (by rw[iv_pos];have:=hgp.out;omega)
   rwa [hu,iv_pos,←(divInt_pos u hv0.out).1] at this
  have hd2:Hid (∀ W A3 n3 c3,Rd W A' n' c' (ys)→Rd W A3 n3 c3 (limbs (Int.gcd u v))→Calls Tryz.prog 186 #[.agg #[.bool (b'),.slice A' n' c'],.agg #[.bool false,.slice A3 n3 c3]] W (RetD2 ((Rat.divInt u v).den:Int) (v%(Int.gcd u v:Int)) W)):=Lib.hid fun W A3 n3 c3 q1 q2=>by
   have l3:n3≤400:=by rw[←q2.len];exact hgl.out
   have:=divI_any (b') A' n' c' (ys) false A3 n3 c3 _ W q1 q2 (by omega) (by omega) (by rw[iv_pos];have:=hgp.out;omega)
   rwa [hv,iv_pos,←(divInt_pos u hv0.out).2] at this
  have hfr:=Lib.hid (fun W A n c D m d q1 q2=>fraction_any (Rat.divInt u v) A n c D m d W q1 q2)
  have hngd:Hid (ng ((Rat.divInt u v).den:Int)=false):=Lib.hid (decide_eq_false (by omega))
  clear hu hv hn hn'
  go_enter Tryz.func161,Tryz.ntmps161
  go_wp2_with fail
  refine (hsg.out _ (S.out.r 0 rfl)).mono ?_
  rintro e w1 ⟨rfl,bb⟩
  have T:=(S.out.call bb)
  clear bb S
  have S:=T
  clear T
  obtain⟨c_r0,c_r1,c_r2,f_r0,f_r1,f_r2⟩:=S.cf3 0 rfl
  obtain⟨c_y0,c_y1,f_y0,f_y1⟩:=S.cf2 1 rfl
  obtain⟨c_x0,c_x1,f_x0,f_x1⟩:=S.cf2 2 rfl
  have hz:w.heap.size+1+1<w1.heap.size:=S.lt 0 rfl
  replace S:=Lib.hid S
  clear hsg
  go_wp2_with fail
  refine (hg.out _ (S.out.r 1 rfl) (S.out.r 0 rfl)).mono ?_
  rintro e w2 ⟨A3,n3,c3,rfl,Q3,bb⟩
  have T:=((S.out.call bb).read Q3)
  clear bb S c_r0 f_r0 c_r1 f_r1 c_r2 f_r2 c_y0 f_y0 c_y1 f_y1 c_x0 f_x0 c_x1 f_x1 hz
  have S:=T
  clear T
  obtain⟨c_r0,c_r1,c_r2,f_r0,f_r1,f_r2⟩:=S.cf3 0 rfl
  obtain⟨c_y0,c_y1,f_y0,f_y1⟩:=S.cf2 1 rfl
  obtain⟨c_x0,c_x1,f_x0,f_x1⟩:=S.cf2 2 rfl
  have hz:w.heap.size+1+1<w2.heap.size:=S.lt 0 rfl
  replace S:=Lib.hid S
  clear Q3 hg
  have S:=(S.out.allocAt (w2.heap.size) #[.bool false,.slice A3 n3 c3] 44 (noL2 _ _ _ _) (by simp))
  obtain⟨a_x0,a_x1,b_x0,b_x1⟩:=S.cf2 3 rfl
  obtain⟨a_y0,a_y1,b_y0,b_y1⟩:=S.cf2 2 rfl
  replace S:=Lib.hid S
  go_wp2_with fail
  refine (hd1.out _ _ _ _ (S.out.r 2 rfl) (S.out.r 0 rfl)).mono ?_
  rintro e w3 ⟨A4,n4,c4,A5,n5,c5,rfl,Q4,Q5,bb⟩
  have T:=((S.out.call bb).read Q4)
  clear bb S c_r0 f_r0 c_r1 f_r1 c_r2 f_r2 c_y0 f_y0 c_y1 f_y1 c_x0 f_x0 c_x1 f_x1 hz a_x0 b_x0 a_x1 b_x1 a_y0 b_y0 a_y1 b_y1
  have S:=T
  clear T
  obtain⟨c_g0,c_g1,f_g0,f_g1⟩:=S.cf2 0 rfl
  obtain⟨c_r0,c_r1,c_r2,f_r0,f_r1,f_r2⟩:=S.cf3 1 rfl
  obtain⟨c_y0,c_y1,f_y0,f_y1⟩:=S.cf2 2 rfl
  obtain⟨c_x0,c_x1,f_x0,f_x1⟩:=S.cf2 3 rfl
  have hz:w2.heap.size<w3.heap.size:=S.lt 0 rfl
  replace S:=Lib.hid S
  clear Q4 Q5 hd1
  have S:St w _ [(w2.heap.size,#[.bool false,.slice A3 n3 c3],44),(w.heap.size+1+1,#[.bool false,.slice none 0 0,.slice none 0 0],46),(w.heap.size+1,#[.bool b',.slice A' n' c'],44),(w.heap.size,#[.bool (ng (Rat.divInt u v).num),.slice A4 n4 c4],44)] [(A4,n4,c4,limbs (Rat.divInt u v).num.natAbs),(A3,n3,c3,limbs (Int.gcd u v)),(A',n',c',ys),(A,n,c,xs)]:=((S.out.set 3 0 (.bool (ng (Rat.divInt u v).num)) rfl (by nofun)).set 3 1 (.slice A4 n4 c4) rfl (by nofun))
  obtain⟨a_y0,a_y1,b_y0,b_y1⟩:=S.cf2 2 rfl
  obtain⟨a_g0,a_g1,b_g0,b_g1⟩:=S.cf2 0 rfl
  replace S:=Lib.hid S
  go_wp2_with fail
  refine (hd2.out _ _ _ _ (S.out.r 2 rfl) (S.out.r 1 rfl)).mono ?_
  rintro e w4 ⟨A6,n6,c6,A7,n7,c7,rfl,Q6,Q7,bb⟩
  have T:=((S.out.call bb).read Q6)
  clear bb S c_g0 f_g0 c_g1 f_g1 c_r0 f_r0 c_r1 f_r1 c_r2 f_r2 c_y0 f_y0 c_y1 f_y1 c_x0 f_x0 c_x1 f_x1 hz a_y0 b_y0 a_y1 b_y1 a_g0 b_g0 a_g1 b_g1
  have S:=T
  clear T
  obtain⟨c_g0,c_g1,f_g0,f_g1⟩:=S.cf2 0 rfl
  obtain⟨c_r0,c_r1,c_r2,f_r0,f_r1,f_r2⟩:=S.cf3 1 rfl
  obtain⟨c_y0,c_y1,f_y0,f_y1⟩:=S.cf2 2 rfl
  obtain⟨c_x0,c_x1,f_x0,f_x1⟩:=S.cf2 3 rfl
  have hz:w2.heap.size<w4.heap.size:=S.lt 0 rfl
  replace S:=Lib.hid S
  clear Q6 Q7 hd2
  rw[hngd.out]
  have S:St w _ [(w2.heap.size,#[.bool false,.slice A3 n3 c3],44),(w.heap.size+1+1,#[.bool false,.slice none 0 0,.slice none 0 0],46),(w.heap.size+1,#[.bool false,.slice A6 n6 c6],44),(w.heap.size,#[.bool (ng (Rat.divInt u v).num),.slice A4 n4 c4],44)] [(A6,n6,c6,limbs (Rat.divInt u v).den),(A4,n4,c4,limbs (Rat.divInt u v).num.natAbs),(A3,n3,c3,limbs (Int.gcd u v)),(A',n',c',ys),(A,n,c,xs)]:=((S.out.set 2 0 (.bool false) rfl (by nofun)).set 2 1 (.slice A6 n6 c6) rfl (by nofun))
  obtain⟨a_x0,a_x1,b_x0,b_x1⟩:=S.cf2 3 rfl
  obtain⟨a_y0,a_y1,b_y0,b_y1⟩:=S.cf2 2 rfl
  replace S:=Lib.hid S
  go_wp2_with fail
  refine (hfr.out _ _ _ _ _ _ _ (S.out.r 1 rfl) (S.out.r 0 rfl)).mono ?_
  rintro e w5 ⟨A8,n8,c8,D8,m8,d8,rfl,Q8,bb⟩
  have T:=(((S.out.call bb).read Q8.n).read Q8.d)
  clear bb S c_g0 f_g0 c_g1 f_g1 c_r0 f_r0 c_r1 f_r1 c_r2 f_r2 c_y0 f_y0 c_y1 f_y1 c_x0 f_x0 c_x1 f_x1 hz a_x0 b_x0 a_x1 b_x1 a_y0 b_y0 a_y1 b_y1
  have S:=T
  clear T
  obtain⟨c_g0,c_g1,f_g0,f_g1⟩:=S.cf2 0 rfl
  obtain⟨c_r0,c_r1,c_r2,f_r0,f_r1,f_r2⟩:=S.cf3 1 rfl
  obtain⟨c_y0,c_y1,f_y0,f_y1⟩:=S.cf2 2 rfl
  obtain⟨c_x0,c_x1,f_x0,f_x1⟩:=S.cf2 3 rfl
  have hz:w2.heap.size<w5.heap.size:=S.lt 0 rfl
  replace S:=Lib.hid S
  clear Q8 hfr
  have S:St w _ [(w2.heap.size,#[.bool false,.slice A3 n3 c3],44),(w.heap.size+1+1,#[.bool (ng (Rat.divInt u v).num),.slice A8 n8 c8,.slice D8 m8 d8],46),(w.heap.size+1,#[.bool false,.slice A6 n6 c6],44),(w.heap.size,#[.bool (ng (Rat.divInt u v).num),.slice A4 n4 c4],44)] [(D8,m8,d8,dn (Rat.divInt u v)),(A8,n8,c8,limbs (Rat.divInt u v).num.natAbs),(A6,n6,c6,limbs (Rat.divInt u v).den),(A4,n4,c4,limbs (Rat.divInt u v).num.natAbs),(A3,n3,c3,limbs (Int.gcd u v)),(A',n',c',ys),(A,n,c,xs)]:=(((S.out.set 1 0 (.bool (ng (Rat.divInt u v).num)) rfl (by nofun)).set 1 1 (.slice A8 n8 c8) rfl (by nofun)).set 1 2 (.slice D8 m8 d8) rfl (by nofun))
  replace S:=Lib.hid S
  go_wp2
  refine bodyPost_ret (res_make _ _ (w.heap.size+1+1) 46 rfl rfl (S.out.bk _ (List.mem_of_getElem? (i:=1) rfl)).1) rfl ?_
  exact⟨_,_,_,_,_,_,rfl,⟨S.out.r 1 rfl,S.out.r 0 rfl⟩,S.out.bel⟩
end Go.Proofs.YtdeedofmflelfaaGreatDoor
