/- The reference's one, over, Make and Same of rational. -/
import Derived.Test.YtdeedofmflelfaaGreatDoorRe
import Derived.Test.YtdeedofmflelfaaGreatDoorIq
import Derived.Test.YtdeedofmflelfaaGreatDoorQIlz
namespace Go.Proofs.YtdeedofmflelfaaGreatDoor
open Go.RowKit RQ
theorem one_row {ds:List Nat} {x:Nat} (h:ds.length=1) (hx:ds.getD 0 0=x):is1 ds=decide (x=1):=by
 match ds,h with
 | [y],_=>simp at hx;subst hx;unfold is1;rw[Bool.eq_iff_iff,beq_iff_eq,decide_eq_true_iff];simp
theorem one_len {ds:List Nat} {n:Nat} (h:ds.length=n) (hn:n≠1):is1 ds=false:=by
 unfold is1;rw[beq_eq_false_iff_ne];rintro rfl;exact hn h.symm
set_option maxHeartbeats 1000000 in
theorem one_any (A:Option Addr) (n c:Nat) (ds:List Nat) (w:World) (R:Rd w A n c ds) :
  Calls Tryz.prog 112 #[.slice A n c] w fun e w'=>e=.returned (.bool (is1 ds))∧Below w.heap.size w w':=by
 have hl:=R.len
 have B:=Lib.hid (Below.refl w.heap.size w)
 by_cases hn:n=1
 ·subst hn
  obtain⟨b,o,x,rfl,_,hx,hget,hc⟩:=R.at_ (k:=0) (by omega)
  rw[Nat.add_zero] at hc
  rw[one_row hl hget]
  by_cases h1:x=1
  ·subst h1
   clear hget hx hl R
   go_enter Tryz.func112,Tryz.ntmps112
   go_wp2
   go_ret
   exact⟨rfl,B.out⟩
  ·have h2:((x:Int)==1)=false:=by rw[beq_eq_false_iff_ne];omega
   rw[decide_eq_false h1]
   clear hget hx hl R h1
   go_enter Tryz.func112,Tryz.ntmps112
   go_wp2
   go_ret
   exact⟨rfl,B.out⟩
 ·rw[one_len hl hn]
  have h2:((n:Int)==1)=false:=by rw[beq_eq_false_iff_ne];omega
  clear hl R hn
  go_enter Tryz.func112,Tryz.ntmps112
  go_wp2
  go_ret
  exact⟨rfl,B.out⟩
theorem res_rover (W:World) (tmps:Array Value) (g t:Nat) {v0 v1 v2:Value} (ht:tmps.getD 4 undef=.pointer (some ⟨g,0,none⟩)) (h:Cb W g #[v0,v1,v2] t) :
  (results Tryz.f69 tmps).run Tryz.prog W=.ok (.agg #[v0,v1,v2]) W:=by
 have c0:W.cell? ⟨g,0,none⟩=some v0:=h.cell rfl
 have c1:W.cell? ⟨g,1,none⟩=some v1:=h.cell rfl
 have c2:W.cell? ⟨g,2,none⟩=some v2:=h.cell rfl
 have ht':tmps[4]?.getD undef=.pointer (some ⟨g,0,none⟩):=by rw[←ht];simp[Array.getD_eq_getD_getElem?]
 simp[results,Tryz.results69,go_sem,ht',c0,c1,c2]
theorem gcd_len2 {u v:Int} {p:Nat} (hv:v≠0) (h:(limbs v.natAbs).length≤p):(limbs (Int.gcd u v)).length≤p:=gcd_len hv (limbs_len_le.1 h)
theorem is1_den (q:Rat):is1 (limbs q.den)=decide (q.den=1):=by
 unfold is1;rw[Bool.eq_iff_iff,beq_iff_eq,decide_eq_true_iff,←limbs_is1]
 exact⟨fun h=>limbs_inj h,fun h=>by rw[h]⟩
set_option maxHeartbeats 8000000 in
theorem rover_any (u v:Int) (A:Option Addr) (n c:Nat) (A':Option Addr) (n' c':Nat) (w:World) (R1:Rd w A n c (limbs u.natAbs)) (R2:Rd w A' n' c' (limbs v.natAbs)) (hn:n≤400) (hn':n'≤400) (hv:v≠0) :
  Calls Tryz.prog 69 #[.agg #[.bool (ng u),.slice A n c],.agg #[.bool (ng v),.slice A' n' c']] w (RetR (Rat.divInt u v) w):=by
 have l1:(limbs u.natAbs).length≤400:=by rw[R1.len];exact hn
 have l2:(limbs v.natAbs).length≤400:=by rw[R2.len];exact hn'
 have hsg:=fun W h=>rsignI_any (ng v) A' n' c' (limbs v.natAbs) W h (by omega)
 rw[iv_z] at hsg
 have S:=((((((St.new w).read R1).read R2).allocAt (w.heap.size) #[.bool (ng u),.slice A n c] 44 (noL2 _ _ _ _) (by simp)).allocAt (w.heap.size+1) #[.bool (ng v),.slice A' n' c'] 44 (noL2 _ _ _ _) (by simp)).allocAt (w.heap.size+1+1) #[.bool false,.slice none 0 0,.slice none 0 0] 46 (noL3 _ _ _ _ _ _ _) (by simp))
 replace S:=Lib.hid S
 clear R1 R2
 by_cases h:v<0
 ·have hgp:Hid (0<Int.gcd (-u) (-v)):=Lib.hid (Nat.gcd_pos_of_pos_right _ (by omega))
  have l1:(limbs (-u).natAbs).length≤400:=by rw[Int.natAbs_neg];exact l1
  have l2:(limbs (-v).natAbs).length≤400:=by rw[Int.natAbs_neg];exact l2
  have hv1 : -v≠0:=by omega
  have hgl:Hid ((limbs (Int.gcd (-u) (-v))).length≤400):=Lib.hid (gcd_len2 hv1 l2)
  clear hv1
  have hv0:Hid (0 < -v):=Lib.hid (by omega)
  rw[←Rat.neg_divInt_neg]
  rw[Int.sign_eq_neg_one_of_neg h] at hsg
  replace hsg:=Lib.hid hsg
  have hnu:Hid (∀ W,Rd W A n c (limbs u.natAbs)→Calls Tryz.prog 109 #[.agg #[.bool (ng u),.slice A n c]] W (RetI (-u) W)):=Lib.hid fun W h=>by have:=rnegI_any (ng u) A n c _ W h (by omega);rwa [iv_z] at this
  have hnv:Hid (∀ W,Rd W A' n' c' (limbs v.natAbs)→Calls Tryz.prog 109 #[.agg #[.bool (ng v),.slice A' n' c']] W (RetI (-v) W)):=Lib.hid fun W h=>by have:=rnegI_any (ng v) A' n' c' _ W h (by omega);rwa [iv_z] at this
  clear h hn hn' hv
  replace l1:=Lib.hid l1
  replace l2:=Lib.hid l2
  go_enter Tryz.func69,Tryz.ntmps69
  go_wp2_with fail
  refine (hsg.out _ (S.out.r 0 rfl)).mono ?_
  rintro e w1 ⟨rfl,bb⟩
  have T:=(S.out.call bb)
  clear bb S
  have S:=T
  clear T
  obtain⟨c_r0,c_r1,c_r2,f_r0,f_r1,f_r2⟩:=S.cf3 0 rfl
  obtain⟨c_y0,c_y1,f_y0,f_y1⟩:=S.cf2 1 rfl
  obtain⟨c_x0,c_x1,f_x0,f_x1⟩:=S.cf2 2 rfl
  have hz:w.heap.size+1+1<w1.heap.size:=S.lt 0 rfl
  replace S:=Lib.hid S
  clear hsg
  go_upto_if 14 with fail
  clear c_r0 f_r0 c_r1 f_r1 c_r2 f_r2 c_y0 f_y0 c_y1 f_y1 c_x0 f_x0 c_x1 f_x1 hz
  have S:=S.out
  replace S:=Lib.hid S
  go_cut [] (fun wx=>∃ A1 n1 c1 A2 n2 c2,St w wx [(w.heap.size+1+1,#[.bool false,.slice none 0 0,.slice none 0 0],46),(w.heap.size+1,#[.bool (ng (-v)),.slice A2 n2 c2],44),(w.heap.size,#[.bool (ng (-u)),.slice A1 n1 c1],44)] [(A2,n2,c2,limbs (-v).natAbs),(A1,n1,c1,limbs (-u).natAbs),(A',n',c',limbs v.natAbs),(A,n,c,limbs u.natAbs)])
  case first=>
   go_upto_region 2 with fail
   have d_x0:=St.cl (S.out) 2 0 rfl rfl
   have d_x1:=St.cl (S.out) 2 1 rfl rfl
   have d_y0:=St.cl (S.out) 1 0 rfl rfl
   have d_y1:=St.cl (S.out) 1 1 rfl rfl
   have dz_x0:=St.f (S.out) 2 0 rfl
   have dz_x1:=St.f (S.out) 2 1 rfl
   have dz_y0:=St.f (S.out) 1 0 rfl
   have dz_y1:=St.f (S.out) 1 1 rfl
   have SD:=Lib.hid (S.out.drew)
   go_region_with (first
    | (go_at_call_of 109 (Value.agg #[.bool (ng u),.slice A n c]);refine (hnu.out _ (SD.out.r 1 rfl)).mono ?_;rintro e w2 ⟨A1,n1,c1,rfl,Q1,bb0⟩;have S0:St w w2 [(w.heap.size+1+1,#[.bool false,.slice none 0 0,.slice none 0 0],46),(w.heap.size+1,#[.bool (ng v),.slice A' n' c'],44),(w.heap.size,#[.bool (ng u),.slice A n c],44)] [(A1,n1,c1,limbs (-u).natAbs),(A',n',c',limbs v.natAbs),(A,n,c,limbs u.natAbs)]:=((SD.out.call bb0).read Q1);have e0_y0:=St.cl (S0) 1 0 rfl rfl;have e0_y1:=St.cl (S0) 1 1 rfl rfl)
    | (go_at_call_of 109 (Value.agg #[.bool (ng v),.slice A' n' c']);refine (hnv.out _ (S0.r 1 rfl)).mono ?_;rintro e w3 ⟨A2,n2,c2,rfl,Q2,bb1⟩;have S1:St w w3 [(w.heap.size+1+1,#[.bool false,.slice none 0 0,.slice none 0 0],46),(w.heap.size+1,#[.bool (ng v),.slice A' n' c'],44),(w.heap.size,#[.bool (ng u),.slice A n c],44)] [(A2,n2,c2,limbs (-v).natAbs),(A1,n1,c1,limbs (-u).natAbs),(A',n',c',limbs v.natAbs),(A,n,c,limbs u.natAbs)]:=((S0.call bb1).read Q2);have e1_x0:=St.cl (S1) 2 0 rfl rfl;have e1_x1:=St.cl (S1) 2 1 rfl rfl;have e1_y0:=St.cl (S1) 1 0 rfl rfl;have e1_y1:=St.cl (S1) 1 1 rfl rfl;have e1z_x0:=St.f (S1) 2 0 rfl;have e1z_x1:=St.f (S1) 2 1 rfl;have e1z_y0:=St.f (S1) 1 0 rfl;have e1z_y1:=St.f (S1) 1 1 rfl))
   all_goals
    have SE:=Lib.hid (((((S1.set 2 0 (.bool (ng (-u))) rfl (by nofun)).set 2 1 (.slice A1 n1 c1) rfl (by nofun)).set 1 0 (.bool (ng (-v))) rfl (by nofun)).set 1 1 (.slice A2 n2 c2) rfl (by nofun)))
    clear d_x0 d_x1 d_y0 d_y1 dz_x0 dz_x1 dz_y0 dz_y1 e0_y0 e0_y1 e1_x0 e1_x1 e1_y0 e1_y1 e1z_x0 e1z_x1 e1z_y0 e1z_y1
    go_wp2_with fail
    go_meet
    exact⟨_,_,_,_,_,_,SE.out⟩
  case rest=>
   clear S
   obtain⟨A1,n1,c1,A2,n2,c2,S⟩:=hcut
   obtain⟨c_r0,c_r1,c_r2,f_r0,f_r1,f_r2⟩:=S.cf3 0 rfl
   obtain⟨c_y0,c_y1,f_y0,f_y1⟩:=S.cf2 1 rfl
   obtain⟨c_x0,c_x1,f_x0,f_x1⟩:=S.cf2 2 rfl
   have hz:w.heap.size+1+1<wc.heap.size:=S.lt 0 rfl
   replace S:=Lib.hid S
   have g1:n1≤400:=by rw[←(S.out.r 1 rfl).len];exact l1.out
   have g2:n2≤400:=by rw[←(S.out.r 0 rfl).len];exact l2.out
   clear hnu hnv l1 l2
   have hg:Hid (∀ W,Rd W A1 n1 c1 (limbs (-u).natAbs)→Rd W A2 n2 c2 (limbs (-v).natAbs)→Calls Tryz.prog 110 #[.agg #[.bool (ng (-u)),.slice A1 n1 c1],.agg #[.bool (ng (-v)),.slice A2 n2 c2]] W (RetN (Int.gcd (-u) (-v)) W)):=Lib.hid fun W q1 q2=>by
    have:=rgcdI_any (ng (-u)) A1 n1 c1 _ (ng (-v)) A2 n2 c2 _ W q1 q2 (by omega) (by omega)
    rwa [iv_z,iv_z] at this
   have hd1:Hid (∀ W A3 n3 c3,Rd W A1 n1 c1 (limbs (-u).natAbs)→Rd W A3 n3 c3 (limbs (Int.gcd (-u) (-v)))→Calls Tryz.prog 111 #[.agg #[.bool (ng (-u)),.slice A1 n1 c1],.agg #[.bool false,.slice A3 n3 c3]] W (RetD2 (Rat.divInt (-u) (-v)).num ((-u)%(Int.gcd (-u) (-v):Int)) W)):=Lib.hid fun W A3 n3 c3 q1 q2=>by
    have l3:n3≤400:=by rw[←q2.len];exact hgl.out
    have:=rdivI_any (ng (-u)) A1 n1 c1 _ false A3 n3 c3 _ W q1 q2 (by omega) (by omega) (by rw[iv_pos];have:=hgp.out;omega)
    rwa [iv_z,iv_pos,←(divInt_pos (-u) hv0.out).1] at this
   have hd2:Hid (∀ W A3 n3 c3,Rd W A2 n2 c2 (limbs (-v).natAbs)→Rd W A3 n3 c3 (limbs (Int.gcd (-u) (-v)))→Calls Tryz.prog 111 #[.agg #[.bool (ng (-v)),.slice A2 n2 c2],.agg #[.bool false,.slice A3 n3 c3]] W (RetD2 ((Rat.divInt (-u) (-v)).den:Int) ((-v)%(Int.gcd (-u) (-v):Int)) W)):=Lib.hid fun W A3 n3 c3 q1 q2=>by
    have l3:n3≤400:=by rw[←q2.len];exact hgl.out
    have:=rdivI_any (ng (-v)) A2 n2 c2 _ false A3 n3 c3 _ W q1 q2 (by omega) (by omega) (by rw[iv_pos];have:=hgp.out;omega)
    rwa [iv_z,iv_pos,←(divInt_pos (-u) hv0.out).2] at this
   have hngd:Hid (ng ((Rat.divInt (-u) (-v)).den:Int)=false):=Lib.hid (decide_eq_false (by omega))
   have h1:=fun W A n c h=>one_any A n c (limbs (Rat.divInt (-u) (-v)).den) W h
   rw[is1_den] at h1
   generalize Rat.divInt (-u) (-v)=q at *
   generalize (-u)%(Int.gcd (-u) (-v):Int)=r1 at hd1
   generalize (-v)%(Int.gcd (-u) (-v):Int)=r2 at hd2
   generalize Int.gcd (-u) (-v)=g at *
   clear g1 g2 hgp hgl hv0
   go_wp2_with fail
   refine (hg.out _ (S.out.r 1 rfl) (S.out.r 0 rfl)).mono ?_
   rintro e w5 ⟨A3,n3,c3,rfl,Q3,bb⟩
   have T:=((S.out.call bb).read Q3)
   clear bb S c_r0 f_r0 c_r1 f_r1 c_r2 f_r2 c_y0 f_y0 c_y1 f_y1 c_x0 f_x0 c_x1 f_x1 hz
   have S:=T
   clear T
   obtain⟨c_r0,c_r1,c_r2,f_r0,f_r1,f_r2⟩:=S.cf3 0 rfl
   obtain⟨c_y0,c_y1,f_y0,f_y1⟩:=S.cf2 1 rfl
   obtain⟨c_x0,c_x1,f_x0,f_x1⟩:=S.cf2 2 rfl
   have hz:w.heap.size+1+1<w5.heap.size:=S.lt 0 rfl
   replace S:=Lib.hid S
   clear Q3 hg
   have S:=(S.out.allocAt (w5.heap.size) #[.bool false,.slice A3 n3 c3] 44 (noL2 _ _ _ _) (by simp))
   obtain⟨a_x0,a_x1,b_x0,b_x1⟩:=S.cf2 3 rfl
   obtain⟨a_y0,a_y1,b_y0,b_y1⟩:=S.cf2 2 rfl
   replace S:=Lib.hid S
   go_wp2_with fail
   refine (hd1.out _ _ _ _ (S.out.r 2 rfl) (S.out.r 0 rfl)).mono ?_
   rintro e w6 ⟨A4,n4,c4,A5,n5,c5,rfl,Q4,Q5,bb⟩
   have T:=((S.out.call bb).read Q4)
   clear bb S c_r0 f_r0 c_r1 f_r1 c_r2 f_r2 c_y0 f_y0 c_y1 f_y1 c_x0 f_x0 c_x1 f_x1 hz a_x0 b_x0 a_x1 b_x1 a_y0 b_y0 a_y1 b_y1
   have S:=T
   clear T
   obtain⟨c_g0,c_g1,f_g0,f_g1⟩:=S.cf2 0 rfl
   obtain⟨c_r0,c_r1,c_r2,f_r0,f_r1,f_r2⟩:=S.cf3 1 rfl
   obtain⟨c_y0,c_y1,f_y0,f_y1⟩:=S.cf2 2 rfl
   obtain⟨c_x0,c_x1,f_x0,f_x1⟩:=S.cf2 3 rfl
   have hz:w5.heap.size<w6.heap.size:=S.lt 0 rfl
   replace S:=Lib.hid S
   clear Q4 Q5 hd1
   have S:=((S.out.allocAt (w6.heap.size) #[.bool (ng q.num),.slice A4 n4 c4] 44 (noL2 _ _ _ _) (by simp)).allocAt (w6.heap.size+1) #[.bool (ng r1),.slice A5 n5 c5] 44 (noL2 _ _ _ _) (by simp))
   obtain⟨a_y0,a_y1,b_y0,b_y1⟩:=S.cf2 4 rfl
   obtain⟨a_g0,a_g1,b_g0,b_g1⟩:=S.cf2 2 rfl
   replace S:=Lib.hid S
   go_wp2_with fail
   refine (hd2.out _ _ _ _ (S.out.r 2 rfl) (S.out.r 1 rfl)).mono ?_
   rintro e w7 ⟨A6,n6,c6,A7,n7,c7,rfl,Q6,Q7,bb⟩
   have T:=((S.out.call bb).read Q6)
   clear bb S c_g0 f_g0 c_g1 f_g1 c_r0 f_r0 c_r1 f_r1 c_r2 f_r2 c_y0 f_y0 c_y1 f_y1 c_x0 f_x0 c_x1 f_x1 hz a_y0 b_y0 a_y1 b_y1 a_g0 b_g0 a_g1 b_g1
   have S:=T
   clear T
   obtain⟨c_o0,c_o1,f_o0,f_o1⟩:=S.cf2 0 rfl
   obtain⟨c_n0,c_n1,f_n0,f_n1⟩:=S.cf2 1 rfl
   obtain⟨c_g0,c_g1,f_g0,f_g1⟩:=S.cf2 2 rfl
   obtain⟨c_r0,c_r1,c_r2,f_r0,f_r1,f_r2⟩:=S.cf3 3 rfl
   obtain⟨c_y0,c_y1,f_y0,f_y1⟩:=S.cf2 4 rfl
   obtain⟨c_x0,c_x1,f_x0,f_x1⟩:=S.cf2 5 rfl
   have hz:w6.heap.size+1<w7.heap.size:=S.lt 0 rfl
   replace S:=Lib.hid S
   clear Q6 Q7 hd2
   rw[hngd.out]
   have S:=((S.out.allocAt (w7.heap.size) #[.bool false,.slice A6 n6 c6] 44 (noL2 _ _ _ _) (by simp)).allocAt (w7.heap.size+1) #[.bool (ng r2),.slice A7 n7 c7] 44 (noL2 _ _ _ _) (by simp))
   obtain⟨a_n0,a_n1,b_n0,b_n1⟩:=S.cf2 3 rfl
   replace S:=Lib.hid S
   by_cases hd:q.den=1
   ·rw[decide_eq_true hd] at h1
    replace h1:=Lib.hid h1
    have e1:=Lib.hid (dn_nil.2 hd)
    clear hd
    go_wp2_with fail
    refine (h1.out _ _ _ _ (S.out.r 0 rfl)).mono ?_
    rintro e w8 ⟨rfl,bb⟩
    have T:=(S.out.call bb)
    clear bb S c_o0 f_o0 c_o1 f_o1 c_n0 f_n0 c_n1 f_n1 c_g0 f_g0 c_g1 f_g1 c_r0 f_r0 c_r1 f_r1 c_r2 f_r2 c_y0 f_y0 c_y1 f_y1 c_x0 f_x0 c_x1 f_x1 hz a_n0 b_n0 a_n1 b_n1
    have S:=T
    clear T
    obtain⟨c_p0,c_p1,f_p0,f_p1⟩:=S.cf2 0 rfl
    obtain⟨c_d0,c_d1,f_d0,f_d1⟩:=S.cf2 1 rfl
    obtain⟨c_o0,c_o1,f_o0,f_o1⟩:=S.cf2 2 rfl
    obtain⟨c_n0,c_n1,f_n0,f_n1⟩:=S.cf2 3 rfl
    obtain⟨c_g0,c_g1,f_g0,f_g1⟩:=S.cf2 4 rfl
    obtain⟨c_r0,c_r1,c_r2,f_r0,f_r1,f_r2⟩:=S.cf3 5 rfl
    obtain⟨c_y0,c_y1,f_y0,f_y1⟩:=S.cf2 6 rfl
    obtain⟨c_x0,c_x1,f_x0,f_x1⟩:=S.cf2 7 rfl
    have hz:w7.heap.size+1<w8.heap.size:=S.lt 0 rfl
    replace S:=Lib.hid S
    have S:St w _ [(w7.heap.size+1,#[.bool (ng r2),.slice A7 n7 c7],44),(w7.heap.size,#[.bool false,.slice none 0 0],44),(w6.heap.size+1,#[.bool (ng r1),.slice A5 n5 c5],44),(w6.heap.size,#[.bool (ng q.num),.slice A4 n4 c4],44),(w5.heap.size,#[.bool false,.slice A3 n3 c3],44),(w.heap.size+1+1,#[.bool false,.slice none 0 0,.slice none 0 0],46),(w.heap.size+1,#[.bool (ng (-v)),.slice A2 n2 c2],44),(w.heap.size,#[.bool (ng (-u)),.slice A1 n1 c1],44)] [(A6,n6,c6,limbs q.den),(A4,n4,c4,limbs q.num.natAbs),(A3,n3,c3,limbs g),(A2,n2,c2,limbs (-v).natAbs),(A1,n1,c1,limbs (-u).natAbs),(A',n',c',limbs v.natAbs),(A,n,c,limbs u.natAbs)]:=(S.out.set 1 1 (.slice none 0 0) rfl (by nofun))
    obtain⟨a_n0,a_n1,b_n0,b_n1⟩:=S.cf2 3 rfl
    obtain⟨a_r0,a_r1,a_r2,b_r0,b_r1,b_r2⟩:=S.cf3 5 rfl
    obtain⟨a_d0,a_d1,b_d0,b_d1⟩:=S.cf2 1 rfl
    replace S:=Lib.hid S
    have S:St w _ [(w7.heap.size+1,#[.bool (ng r2),.slice A7 n7 c7],44),(w7.heap.size,#[.bool false,.slice none 0 0],44),(w6.heap.size+1,#[.bool (ng r1),.slice A5 n5 c5],44),(w6.heap.size,#[.bool (ng q.num),.slice A4 n4 c4],44),(w5.heap.size,#[.bool false,.slice A3 n3 c3],44),(w.heap.size+1+1,#[.bool (ng q.num),.slice A4 n4 c4,.slice none 0 0],46),(w.heap.size+1,#[.bool (ng (-v)),.slice A2 n2 c2],44),(w.heap.size,#[.bool (ng (-u)),.slice A1 n1 c1],44)] [(A6,n6,c6,limbs q.den),(A4,n4,c4,limbs q.num.natAbs),(A3,n3,c3,limbs g),(A2,n2,c2,limbs (-v).natAbs),(A1,n1,c1,limbs (-u).natAbs),(A',n',c',limbs v.natAbs),(A,n,c,limbs u.natAbs)]:=(((S.out.set 5 0 (.bool (ng q.num)) rfl (by nofun)).set 5 1 (.slice A4 n4 c4) rfl (by nofun)).set 5 2 (.slice none 0 0) rfl (by nofun))
    replace S:=Lib.hid S
    go_wp2
    refine bodyPost_ret (res_rover _ _ (w.heap.size+1+1) 46 rfl (S.out.bk _ (List.mem_of_getElem? (i:=5) rfl)).1) rfl ?_
    exact⟨_,_,_,_,_,_,rfl,⟨S.out.r 1 rfl,by rw[e1.out];exact Rd.nil_ _ _ _⟩,S.out.bel⟩
   ·rw[decide_eq_false hd] at h1
    replace h1:=Lib.hid h1
    have e1:Hid (dn q=limbs q.den):=Lib.hid (by unfold dn;rw[if_neg hd])
    clear hd
    go_wp2_with fail
    refine (h1.out _ _ _ _ (S.out.r 0 rfl)).mono ?_
    rintro e w8 ⟨rfl,bb⟩
    have T:=(S.out.call bb)
    clear bb S c_o0 f_o0 c_o1 f_o1 c_n0 f_n0 c_n1 f_n1 c_g0 f_g0 c_g1 f_g1 c_r0 f_r0 c_r1 f_r1 c_r2 f_r2 c_y0 f_y0 c_y1 f_y1 c_x0 f_x0 c_x1 f_x1 hz a_n0 b_n0 a_n1 b_n1
    have S:=T
    clear T
    obtain⟨c_p0,c_p1,f_p0,f_p1⟩:=S.cf2 0 rfl
    obtain⟨c_d0,c_d1,f_d0,f_d1⟩:=S.cf2 1 rfl
    obtain⟨c_o0,c_o1,f_o0,f_o1⟩:=S.cf2 2 rfl
    obtain⟨c_n0,c_n1,f_n0,f_n1⟩:=S.cf2 3 rfl
    obtain⟨c_g0,c_g1,f_g0,f_g1⟩:=S.cf2 4 rfl
    obtain⟨c_r0,c_r1,c_r2,f_r0,f_r1,f_r2⟩:=S.cf3 5 rfl
    obtain⟨c_y0,c_y1,f_y0,f_y1⟩:=S.cf2 6 rfl
    obtain⟨c_x0,c_x1,f_x0,f_x1⟩:=S.cf2 7 rfl
    have hz:w7.heap.size+1<w8.heap.size:=S.lt 0 rfl
    replace S:=Lib.hid S
    have S:St w _ [(w7.heap.size+1,#[.bool (ng r2),.slice A7 n7 c7],44),(w7.heap.size,#[.bool false,.slice A6 n6 c6],44),(w6.heap.size+1,#[.bool (ng r1),.slice A5 n5 c5],44),(w6.heap.size,#[.bool (ng q.num),.slice A4 n4 c4],44),(w5.heap.size,#[.bool false,.slice A3 n3 c3],44),(w.heap.size+1+1,#[.bool (ng q.num),.slice A4 n4 c4,.slice A6 n6 c6],46),(w.heap.size+1,#[.bool (ng (-v)),.slice A2 n2 c2],44),(w.heap.size,#[.bool (ng (-u)),.slice A1 n1 c1],44)] [(A6,n6,c6,limbs q.den),(A4,n4,c4,limbs q.num.natAbs),(A3,n3,c3,limbs g),(A2,n2,c2,limbs (-v).natAbs),(A1,n1,c1,limbs (-u).natAbs),(A',n',c',limbs v.natAbs),(A,n,c,limbs u.natAbs)]:=(((S.out.set 5 0 (.bool (ng q.num)) rfl (by nofun)).set 5 1 (.slice A4 n4 c4) rfl (by nofun)).set 5 2 (.slice A6 n6 c6) rfl (by nofun))
    replace S:=Lib.hid S
    go_wp2
    refine bodyPost_ret (res_rover _ _ (w.heap.size+1+1) 46 rfl (S.out.bk _ (List.mem_of_getElem? (i:=5) rfl)).1) rfl ?_
    exact⟨_,_,_,_,_,_,rfl,⟨S.out.r 1 rfl,by rw[e1.out];exact S.out.r 0 rfl⟩,S.out.bel⟩
 ·have hgp:Hid (0<Int.gcd u v):=Lib.hid (Nat.gcd_pos_of_pos_right _ (by omega))
  have hgl:Hid ((limbs (Int.gcd u v)).length≤400):=Lib.hid (gcd_len2 (by omega) l2)
  have hv0:Hid (0<v):=Lib.hid (by omega)
  rw[Int.sign_eq_one_of_pos (by omega)] at hsg
  replace hsg:=Lib.hid hsg
  clear h l1 l2
  have hg:Hid (∀ W,Rd W A n c (limbs u.natAbs)→Rd W A' n' c' (limbs v.natAbs)→Calls Tryz.prog 110 #[.agg #[.bool (ng u),.slice A n c],.agg #[.bool (ng v),.slice A' n' c']] W (RetN (Int.gcd u v) W)):=Lib.hid fun W q1 q2=>by
   have:=rgcdI_any (ng u) A n c _ (ng v) A' n' c' _ W q1 q2 (by omega) (by omega)
   rwa [iv_z,iv_z] at this
  have hd1:Hid (∀ W A3 n3 c3,Rd W A n c (limbs u.natAbs)→Rd W A3 n3 c3 (limbs (Int.gcd u v))→Calls Tryz.prog 111 #[.agg #[.bool (ng u),.slice A n c],.agg #[.bool false,.slice A3 n3 c3]] W (RetD2 (Rat.divInt u v).num (u%(Int.gcd u v:Int)) W)):=Lib.hid fun W A3 n3 c3 q1 q2=>by
   have l3:n3≤400:=by rw[←q2.len];exact hgl.out
   have:=rdivI_any (ng u) A n c _ false A3 n3 c3 _ W q1 q2 (by omega) (by omega) (by rw[iv_pos];have:=hgp.out;omega)
   rwa [iv_z,iv_pos,←(divInt_pos u hv0.out).1] at this
  have hd2:Hid (∀ W A3 n3 c3,Rd W A' n' c' (limbs v.natAbs)→Rd W A3 n3 c3 (limbs (Int.gcd u v))→Calls Tryz.prog 111 #[.agg #[.bool (ng v),.slice A' n' c'],.agg #[.bool false,.slice A3 n3 c3]] W (RetD2 ((Rat.divInt u v).den:Int) (v%(Int.gcd u v:Int)) W)):=Lib.hid fun W A3 n3 c3 q1 q2=>by
   have l3:n3≤400:=by rw[←q2.len];exact hgl.out
   have:=rdivI_any (ng v) A' n' c' _ false A3 n3 c3 _ W q1 q2 (by omega) (by omega) (by rw[iv_pos];have:=hgp.out;omega)
   rwa [iv_z,iv_pos,←(divInt_pos u hv0.out).2] at this
  have hngd:Hid (ng ((Rat.divInt u v).den:Int)=false):=Lib.hid (decide_eq_false (by omega))
  have h1:=fun W A n c h=>one_any A n c (limbs (Rat.divInt u v).den) W h
  rw[is1_den] at h1
  generalize Rat.divInt u v=q at *
  generalize u%(Int.gcd u v:Int)=r1 at hd1
  generalize v%(Int.gcd u v:Int)=r2 at hd2
  generalize Int.gcd u v=g at *
  clear hn hn' hgp hgl hv0 hv
  go_enter Tryz.func69,Tryz.ntmps69
  go_wp2_with fail
  refine (hsg.out _ (S.out.r 0 rfl)).mono ?_
  rintro e w1 ⟨rfl,bb⟩
  have T:=(S.out.call bb)
  clear bb S
  have S:=T
  clear T
  obtain⟨c_r0,c_r1,c_r2,f_r0,f_r1,f_r2⟩:=S.cf3 0 rfl
  obtain⟨c_y0,c_y1,f_y0,f_y1⟩:=S.cf2 1 rfl
  obtain⟨c_x0,c_x1,f_x0,f_x1⟩:=S.cf2 2 rfl
  have hz:w.heap.size+1+1<w1.heap.size:=S.lt 0 rfl
  replace S:=Lib.hid S
  clear hsg
  go_wp2_with fail
  refine (hg.out _ (S.out.r 1 rfl) (S.out.r 0 rfl)).mono ?_
  rintro e w2 ⟨A3,n3,c3,rfl,Q3,bb⟩
  have T:=((S.out.call bb).read Q3)
  clear bb S c_r0 f_r0 c_r1 f_r1 c_r2 f_r2 c_y0 f_y0 c_y1 f_y1 c_x0 f_x0 c_x1 f_x1 hz
  have S:=T
  clear T
  obtain⟨c_r0,c_r1,c_r2,f_r0,f_r1,f_r2⟩:=S.cf3 0 rfl
  obtain⟨c_y0,c_y1,f_y0,f_y1⟩:=S.cf2 1 rfl
  obtain⟨c_x0,c_x1,f_x0,f_x1⟩:=S.cf2 2 rfl
  have hz:w.heap.size+1+1<w2.heap.size:=S.lt 0 rfl
  replace S:=Lib.hid S
  clear Q3 hg
  have S:=(S.out.allocAt (w2.heap.size) #[.bool false,.slice A3 n3 c3] 44 (noL2 _ _ _ _) (by simp))
  obtain⟨a_x0,a_x1,b_x0,b_x1⟩:=S.cf2 3 rfl
  obtain⟨a_y0,a_y1,b_y0,b_y1⟩:=S.cf2 2 rfl
  replace S:=Lib.hid S
  go_wp2_with fail
  refine (hd1.out _ _ _ _ (S.out.r 2 rfl) (S.out.r 0 rfl)).mono ?_
  rintro e w3 ⟨A4,n4,c4,A5,n5,c5,rfl,Q4,Q5,bb⟩
  have T:=((S.out.call bb).read Q4)
  clear bb S c_r0 f_r0 c_r1 f_r1 c_r2 f_r2 c_y0 f_y0 c_y1 f_y1 c_x0 f_x0 c_x1 f_x1 hz a_x0 b_x0 a_x1 b_x1 a_y0 b_y0 a_y1 b_y1
  have S:=T
  clear T
  obtain⟨c_g0,c_g1,f_g0,f_g1⟩:=S.cf2 0 rfl
  obtain⟨c_r0,c_r1,c_r2,f_r0,f_r1,f_r2⟩:=S.cf3 1 rfl
  obtain⟨c_y0,c_y1,f_y0,f_y1⟩:=S.cf2 2 rfl
  obtain⟨c_x0,c_x1,f_x0,f_x1⟩:=S.cf2 3 rfl
  have hz:w2.heap.size<w3.heap.size:=S.lt 0 rfl
  replace S:=Lib.hid S
  clear Q4 Q5 hd1
  have S:=((S.out.allocAt (w3.heap.size) #[.bool (ng q.num),.slice A4 n4 c4] 44 (noL2 _ _ _ _) (by simp)).allocAt (w3.heap.size+1) #[.bool (ng r1),.slice A5 n5 c5] 44 (noL2 _ _ _ _) (by simp))
  obtain⟨a_y0,a_y1,b_y0,b_y1⟩:=S.cf2 4 rfl
  obtain⟨a_g0,a_g1,b_g0,b_g1⟩:=S.cf2 2 rfl
  replace S:=Lib.hid S
  go_wp2_with fail
  refine (hd2.out _ _ _ _ (S.out.r 2 rfl) (S.out.r 1 rfl)).mono ?_
  rintro e w4 ⟨A6,n6,c6,A7,n7,c7,rfl,Q6,Q7,bb⟩
  have T:=((S.out.call bb).read Q6)
  clear bb S c_g0 f_g0 c_g1 f_g1 c_r0 f_r0 c_r1 f_r1 c_r2 f_r2 c_y0 f_y0 c_y1 f_y1 c_x0 f_x0 c_x1 f_x1 hz a_y0 b_y0 a_y1 b_y1 a_g0 b_g0 a_g1 b_g1
  have S:=T
  clear T
  obtain⟨c_o0,c_o1,f_o0,f_o1⟩:=S.cf2 0 rfl
  obtain⟨c_n0,c_n1,f_n0,f_n1⟩:=S.cf2 1 rfl
  obtain⟨c_g0,c_g1,f_g0,f_g1⟩:=S.cf2 2 rfl
  obtain⟨c_r0,c_r1,c_r2,f_r0,f_r1,f_r2⟩:=S.cf3 3 rfl
  obtain⟨c_y0,c_y1,f_y0,f_y1⟩:=S.cf2 4 rfl
  obtain⟨c_x0,c_x1,f_x0,f_x1⟩:=S.cf2 5 rfl
  have hz:w3.heap.size+1<w4.heap.size:=S.lt 0 rfl
  replace S:=Lib.hid S
  clear Q6 Q7 hd2
  rw[hngd.out]
  have S:=((S.out.allocAt (w4.heap.size) #[.bool false,.slice A6 n6 c6] 44 (noL2 _ _ _ _) (by simp)).allocAt (w4.heap.size+1) #[.bool (ng r2),.slice A7 n7 c7] 44 (noL2 _ _ _ _) (by simp))
  obtain⟨a_n0,a_n1,b_n0,b_n1⟩:=S.cf2 3 rfl
  replace S:=Lib.hid S
  by_cases hd:q.den=1
  ·rw[decide_eq_true hd] at h1
   replace h1:=Lib.hid h1
   have e1:=Lib.hid (dn_nil.2 hd)
   clear hd
   go_wp2_with fail
   refine (h1.out _ _ _ _ (S.out.r 0 rfl)).mono ?_
   rintro e w5 ⟨rfl,bb⟩
   have T:=(S.out.call bb)
   clear bb S c_o0 f_o0 c_o1 f_o1 c_n0 f_n0 c_n1 f_n1 c_g0 f_g0 c_g1 f_g1 c_r0 f_r0 c_r1 f_r1 c_r2 f_r2 c_y0 f_y0 c_y1 f_y1 c_x0 f_x0 c_x1 f_x1 hz a_n0 b_n0 a_n1 b_n1
   have S:=T
   clear T
   obtain⟨c_p0,c_p1,f_p0,f_p1⟩:=S.cf2 0 rfl
   obtain⟨c_d0,c_d1,f_d0,f_d1⟩:=S.cf2 1 rfl
   obtain⟨c_o0,c_o1,f_o0,f_o1⟩:=S.cf2 2 rfl
   obtain⟨c_n0,c_n1,f_n0,f_n1⟩:=S.cf2 3 rfl
   obtain⟨c_g0,c_g1,f_g0,f_g1⟩:=S.cf2 4 rfl
   obtain⟨c_r0,c_r1,c_r2,f_r0,f_r1,f_r2⟩:=S.cf3 5 rfl
   obtain⟨c_y0,c_y1,f_y0,f_y1⟩:=S.cf2 6 rfl
   obtain⟨c_x0,c_x1,f_x0,f_x1⟩:=S.cf2 7 rfl
   have hz:w4.heap.size+1<w5.heap.size:=S.lt 0 rfl
   replace S:=Lib.hid S
   have S:St w _ [(w4.heap.size+1,#[.bool (ng r2),.slice A7 n7 c7],44),(w4.heap.size,#[.bool false,.slice none 0 0],44),(w3.heap.size+1,#[.bool (ng r1),.slice A5 n5 c5],44),(w3.heap.size,#[.bool (ng q.num),.slice A4 n4 c4],44),(w2.heap.size,#[.bool false,.slice A3 n3 c3],44),(w.heap.size+1+1,#[.bool false,.slice none 0 0,.slice none 0 0],46),(w.heap.size+1,#[.bool (ng v),.slice A' n' c'],44),(w.heap.size,#[.bool (ng u),.slice A n c],44)] [(A6,n6,c6,limbs q.den),(A4,n4,c4,limbs q.num.natAbs),(A3,n3,c3,limbs g),(A',n',c',limbs v.natAbs),(A,n,c,limbs u.natAbs)]:=(S.out.set 1 1 (.slice none 0 0) rfl (by nofun))
   obtain⟨a_n0,a_n1,b_n0,b_n1⟩:=S.cf2 3 rfl
   obtain⟨a_r0,a_r1,a_r2,b_r0,b_r1,b_r2⟩:=S.cf3 5 rfl
   obtain⟨a_d0,a_d1,b_d0,b_d1⟩:=S.cf2 1 rfl
   replace S:=Lib.hid S
   have S:St w _ [(w4.heap.size+1,#[.bool (ng r2),.slice A7 n7 c7],44),(w4.heap.size,#[.bool false,.slice none 0 0],44),(w3.heap.size+1,#[.bool (ng r1),.slice A5 n5 c5],44),(w3.heap.size,#[.bool (ng q.num),.slice A4 n4 c4],44),(w2.heap.size,#[.bool false,.slice A3 n3 c3],44),(w.heap.size+1+1,#[.bool (ng q.num),.slice A4 n4 c4,.slice none 0 0],46),(w.heap.size+1,#[.bool (ng v),.slice A' n' c'],44),(w.heap.size,#[.bool (ng u),.slice A n c],44)] [(A6,n6,c6,limbs q.den),(A4,n4,c4,limbs q.num.natAbs),(A3,n3,c3,limbs g),(A',n',c',limbs v.natAbs),(A,n,c,limbs u.natAbs)]:=(((S.out.set 5 0 (.bool (ng q.num)) rfl (by nofun)).set 5 1 (.slice A4 n4 c4) rfl (by nofun)).set 5 2 (.slice none 0 0) rfl (by nofun))
   replace S:=Lib.hid S
   go_wp2
   refine bodyPost_ret (res_rover _ _ (w.heap.size+1+1) 46 rfl (S.out.bk _ (List.mem_of_getElem? (i:=5) rfl)).1) rfl ?_
   exact⟨_,_,_,_,_,_,rfl,⟨S.out.r 1 rfl,by rw[e1.out];exact Rd.nil_ _ _ _⟩,S.out.bel⟩
  ·rw[decide_eq_false hd] at h1
   replace h1:=Lib.hid h1
   have e1:Hid (dn q=limbs q.den):=Lib.hid (by unfold dn;rw[if_neg hd])
   clear hd
   go_wp2_with fail
   refine (h1.out _ _ _ _ (S.out.r 0 rfl)).mono ?_
   rintro e w5 ⟨rfl,bb⟩
   have T:=(S.out.call bb)
   clear bb S c_o0 f_o0 c_o1 f_o1 c_n0 f_n0 c_n1 f_n1 c_g0 f_g0 c_g1 f_g1 c_r0 f_r0 c_r1 f_r1 c_r2 f_r2 c_y0 f_y0 c_y1 f_y1 c_x0 f_x0 c_x1 f_x1 hz a_n0 b_n0 a_n1 b_n1
   have S:=T
   clear T
   obtain⟨c_p0,c_p1,f_p0,f_p1⟩:=S.cf2 0 rfl
   obtain⟨c_d0,c_d1,f_d0,f_d1⟩:=S.cf2 1 rfl
   obtain⟨c_o0,c_o1,f_o0,f_o1⟩:=S.cf2 2 rfl
   obtain⟨c_n0,c_n1,f_n0,f_n1⟩:=S.cf2 3 rfl
   obtain⟨c_g0,c_g1,f_g0,f_g1⟩:=S.cf2 4 rfl
   obtain⟨c_r0,c_r1,c_r2,f_r0,f_r1,f_r2⟩:=S.cf3 5 rfl
   obtain⟨c_y0,c_y1,f_y0,f_y1⟩:=S.cf2 6 rfl
   obtain⟨c_x0,c_x1,f_x0,f_x1⟩:=S.cf2 7 rfl
   have hz:w4.heap.size+1<w5.heap.size:=S.lt 0 rfl
   replace S:=Lib.hid S
   have S:St w _ [(w4.heap.size+1,#[.bool (ng r2),.slice A7 n7 c7],44),(w4.heap.size,#[.bool false,.slice A6 n6 c6],44),(w3.heap.size+1,#[.bool (ng r1),.slice A5 n5 c5],44),(w3.heap.size,#[.bool (ng q.num),.slice A4 n4 c4],44),(w2.heap.size,#[.bool false,.slice A3 n3 c3],44),(w.heap.size+1+1,#[.bool (ng q.num),.slice A4 n4 c4,.slice A6 n6 c6],46),(w.heap.size+1,#[.bool (ng v),.slice A' n' c'],44),(w.heap.size,#[.bool (ng u),.slice A n c],44)] [(A6,n6,c6,limbs q.den),(A4,n4,c4,limbs q.num.natAbs),(A3,n3,c3,limbs g),(A',n',c',limbs v.natAbs),(A,n,c,limbs u.natAbs)]:=(((S.out.set 5 0 (.bool (ng q.num)) rfl (by nofun)).set 5 1 (.slice A4 n4 c4) rfl (by nofun)).set 5 2 (.slice A6 n6 c6) rfl (by nofun))
   replace S:=Lib.hid S
   go_wp2
   refine bodyPost_ret (res_rover _ _ (w.heap.size+1+1) 46 rfl (S.out.bk _ (List.mem_of_getElem? (i:=5) rfl)).1) rfl ?_
   exact⟨_,_,_,_,_,_,rfl,⟨S.out.r 1 rfl,by rw[e1.out];exact S.out.r 0 rfl⟩,S.out.bel⟩
end Go.Proofs.YtdeedofmflelfaaGreatDoor
