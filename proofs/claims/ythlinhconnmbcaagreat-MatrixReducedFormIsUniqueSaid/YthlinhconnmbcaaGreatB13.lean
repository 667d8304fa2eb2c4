/- The reference's one, over, Make and Same of rational. -/
import Derived.Test.YthlinhconnmbcaaGreatB08
import Derived.Test.YthlinhconnmbcaaGreatB07
import Derived.Test.YthlinhconnmbcaaGreatB06
import Derived.Test.YthlinhconnmbcaaGreatB02
import Derived.Shelf.Small.Bits
import Derived.Shelf.Small.Wraps
import Derived.Test.YthlinhconnmbcaaGreatB05
import Derived.Test.YthlinhconnmbcaaGreatB12
import Derived.Test.YthlinhconnmbcaaGreatB01
import Derived.Test.YthlinhconnmbcaaGreatB03
set_option maxRecDepth 100000
set_option maxHeartbeats 40000000
set_option linter.unusedVariables false
namespace Go.Proofs.YthlinhconnmbcaaGreat
open Go.RowKit RQ
theorem one_row {ds:List Nat} {x:Nat} (h:ds.length=1) (hx:ds.getD 0 0=x):is1 ds=decide (x=1):=by
 match ds,h with
 | [y],_=>simp at hx;subst hx;unfold is1;rw[Bool.eq_iff_iff,beq_iff_eq,decide_eq_true_iff];simp
theorem one_len {ds:List Nat} {n:Nat} (h:ds.length=n) (hn:n≠1):is1 ds=false:=by
 unfold is1;rw[beq_eq_false_iff_ne];rintro rfl;exact hn h.symm
theorem one_any (A:Option Addr) (n c:Nat) (ds:List Nat) (w:World) (R:Rd w A n c ds) :
  Calls Tryz.prog 72 #[.slice A n c] w fun e w'=>e=.returned (.bool (is1 ds))∧Below w.heap.size w w':=by
 have hl:=R.len;have B:=Lib.hid (Below.refl w.heap.size w)
 by_cases hn:n=1
 ·subst hn
  obtain⟨b,o,x,rfl,_,hx,hget,hc⟩:=R.at_ (k:=0) (by omega)
  rw[Nat.add_zero] at hc;rw[one_row hl hget]
  by_cases h1:x=1
  ·subst h1
   clear hget hx hl R;go_enter Tryz.func72,Tryz.ntmps72;go_wp2;go_ret;exact⟨rfl,B.out⟩
  ·have h2:((x:Int)==1)=false:=by rw[beq_eq_false_iff_ne];omega
   rw[decide_eq_false h1];clear hget hx hl R h1;go_enter Tryz.func72,Tryz.ntmps72;go_wp2;go_ret;exact⟨rfl,B.out⟩
 ·rw[one_len hl hn]
  have h2:((n:Int)==1)=false:=by rw[beq_eq_false_iff_ne];omega
  clear hl R hn;go_enter Tryz.func72,Tryz.ntmps72;go_wp2;go_ret;exact⟨rfl,B.out⟩
theorem res_rover (W:World) (tmps:Array Value) (g t:Nat) {v0 v1 v2:Value} (ht:tmps.getD 4 undef=.pointer (some ⟨g,0,none⟩)) (h:Cb W g #[v0,v1,v2] t) :
  (results Tryz.f45 tmps).run Tryz.prog W=.ok (.agg #[v0,v1,v2]) W:=by
 have c0:W.cell? ⟨g,0,none⟩=some v0:=h.cell rfl;have c1:W.cell? ⟨g,1,none⟩=some v1:=h.cell rfl;have c2:W.cell? ⟨g,2,none⟩=some v2:=h.cell rfl;have ht':tmps[4]?.getD undef=.pointer (some ⟨g,0,none⟩):=by rw[←ht];simp[Array.getD_eq_getD_getElem?]
 simp[results,Tryz.results45,go_sem,ht',c0,c1,c2]
theorem gcd_len2 {u v:Int} {p:Nat} (hv:v≠0) (h:(limbs v.natAbs).length≤p):(limbs (Int.gcd u v)).length≤p:=gcd_len hv (limbs_len_le.1 h)
theorem is1_den (q:Rat):is1 (limbs q.den)=decide (q.den=1):=by
 unfold is1;rw[Bool.eq_iff_iff,beq_iff_eq,decide_eq_true_iff,←limbs_is1];exact⟨fun h=>limbs_inj h,fun h=>by rw[h]⟩
theorem rover_any (u v:Int) (A:Option Addr) (n c:Nat) (A':Option Addr) (n' c':Nat) (w:World) (R1:Rd w A n c (limbs u.natAbs)) (R2:Rd w A' n' c' (limbs v.natAbs)) (hn:n≤40000000) (hn':n'≤40000000) (hv:v≠0) :
  Calls Tryz.prog 45 #[.agg #[.bool (ng u),.slice A n c],.agg #[.bool (ng v),.slice A' n' c']] w (RetR (Rat.divInt u v) w):=by
 have l1:(limbs u.natAbs).length≤40000000:=by rw[R1.len];exact hn
 have l2:(limbs v.natAbs).length≤40000000:=by rw[R2.len];exact hn'
 have hsg:=fun W h=>rsignI_any (ng v) A' n' c' (limbs v.natAbs) W h (by omega)
 rw[iv_z] at hsg;have S:=((((((St.new w).read R1).read R2).allocAt (w.heap.size) #[.bool (ng u),.slice A n c] 31 (noL2 _ _ _ _) (by simp)).allocAt (w.heap.size+1) #[.bool (ng v),.slice A' n' c'] 31 (noL2 _ _ _ _) (by simp)).allocAt (w.heap.size+1+1) #[.bool false,.slice none 0 0,.slice none 0 0] 33 (noL3 _ _ _ _ _ _ _) (by simp))
 replace S:=Lib.hid S;clear R1 R2
 by_cases h:v<0
 ·have hgp:Hid (0<Int.gcd (-u) (-v)):=Lib.hid (Nat.gcd_pos_of_pos_right _ (by omega))
  have l1:(limbs (-u).natAbs).length≤40000000:=by rw[Int.natAbs_neg];exact l1
  have l2:(limbs (-v).natAbs).length≤40000000:=by rw[Int.natAbs_neg];exact l2
  have hv1 : -v≠0:=by omega
  have hgl:Hid ((limbs (Int.gcd (-u) (-v))).length≤40000000):=Lib.hid (gcd_len2 hv1 l2);clear hv1;have hv0:Hid (0 < -v):=Lib.hid (by omega)
  rw[←Rat.neg_divInt_neg];rw[Int.sign_eq_neg_one_of_neg h] at hsg;replace hsg:=Lib.hid hsg;have hnu:Hid (∀ W,Rd W A n c (limbs u.natAbs)→Calls Tryz.prog 69 #[.agg #[.bool (ng u),.slice A n c]] W (RetI (-u) W)):=Lib.hid fun W h=>by have:=rnegI_any (ng u) A n c _ W h (by omega);rwa [iv_z] at this
  have hnv:Hid (∀ W,Rd W A' n' c' (limbs v.natAbs)→Calls Tryz.prog 69 #[.agg #[.bool (ng v),.slice A' n' c']] W (RetI (-v) W)):=Lib.hid fun W h=>by have:=rnegI_any (ng v) A' n' c' _ W h (by omega);rwa [iv_z] at this
  clear h hn hn' hv;replace l1:=Lib.hid l1;replace l2:=Lib.hid l2;go_enter Tryz.func45,Tryz.ntmps45
  go_wp2_with fail
  refine (hsg.out _ (S.out.r 0 rfl)).mono ?_
  rintro e w1 ⟨rfl,bb⟩;have T:=(S.out.call bb);clear bb S;have S:=T;clear T;obtain⟨c_r0,c_r1,c_r2,f_r0,f_r1,f_r2⟩:=S.cf3 0 rfl;obtain⟨c_y0,c_y1,f_y0,f_y1⟩:=S.cf2 1 rfl;obtain⟨c_x0,c_x1,f_x0,f_x1⟩:=S.cf2 2 rfl;have hz:w.heap.size+1+1<w1.heap.size:=S.lt 0 rfl;replace S:=Lib.hid S;clear hsg
  go_upto_if 14 with fail
  clear c_r0 f_r0 c_r1 f_r1 c_r2 f_r2 c_y0 f_y0 c_y1 f_y1 c_x0 f_x0 c_x1 f_x1 hz;have S:=S.out;replace S:=Lib.hid S
  go_cut [] (fun wx=>∃ A1 n1 c1 A2 n2 c2,St w wx [(w.heap.size+1+1,#[.bool false,.slice none 0 0,.slice none 0 0],33),(w.heap.size+1,#[.bool (ng (-v)),.slice A2 n2 c2],31),(w.heap.size,#[.bool (ng (-u)),.slice A1 n1 c1],31)] [(A2,n2,c2,limbs (-v).natAbs),(A1,n1,c1,limbs (-u).natAbs),(A',n',c',limbs v.natAbs),(A,n,c,limbs u.natAbs)])
  case first=>
   go_upto_region 2 with fail
   have d_x0:=St.cl (S.out) 2 0 rfl rfl;have d_x1:=St.cl (S.out) 2 1 rfl rfl;have d_y0:=St.cl (S.out) 1 0 rfl rfl;have d_y1:=St.cl (S.out) 1 1 rfl rfl;have dz_x0:=St.f (S.out) 2 0 rfl;have dz_x1:=St.f (S.out) 2 1 rfl;have dz_y0:=St.f (S.out) 1 0 rfl;have dz_y1:=St.f (S.out) 1 1 rfl;have SD:=Lib.hid (S.out.drew)
   go_region_with (first
    | (go_at_call_of 69 (Value.agg #[.bool (ng u),.slice A n c]);refine (hnu.out _ (SD.out.r 1 rfl)).mono ?_;rintro e w2 ⟨A1,n1,c1,rfl,Q1,bb0⟩;have S0:St w w2 [(w.heap.size+1+1,#[.bool false,.slice none 0 0,.slice none 0 0],33),(w.heap.size+1,#[.bool (ng v),.slice A' n' c'],31),(w.heap.size,#[.bool (ng u),.slice A n c],31)] [(A1,n1,c1,limbs (-u).natAbs),(A',n',c',limbs v.natAbs),(A,n,c,limbs u.natAbs)]:=((SD.out.call bb0).read Q1);have e0_y0:=St.cl (S0) 1 0 rfl rfl;have e0_y1:=St.cl (S0) 1 1 rfl rfl)
    | (go_at_call_of 69 (Value.agg #[.bool (ng v),.slice A' n' c']);refine (hnv.out _ (S0.r 1 rfl)).mono ?_;rintro e w3 ⟨A2,n2,c2,rfl,Q2,bb1⟩;have S1:St w w3 [(w.heap.size+1+1,#[.bool false,.slice none 0 0,.slice none 0 0],33),(w.heap.size+1,#[.bool (ng v),.slice A' n' c'],31),(w.heap.size,#[.bool (ng u),.slice A n c],31)] [(A2,n2,c2,limbs (-v).natAbs),(A1,n1,c1,limbs (-u).natAbs),(A',n',c',limbs v.natAbs),(A,n,c,limbs u.natAbs)]:=((S0.call bb1).read Q2);have e1_x0:=St.cl (S1) 2 0 rfl rfl;have e1_x1:=St.cl (S1) 2 1 rfl rfl;have e1_y0:=St.cl (S1) 1 0 rfl rfl;have e1_y1:=St.cl (S1) 1 1 rfl rfl;have e1z_x0:=St.f (S1) 2 0 rfl;have e1z_x1:=St.f (S1) 2 1 rfl;have e1z_y0:=St.f (S1) 1 0 rfl;have e1z_y1:=St.f (S1) 1 1 rfl))
   all_goals
    have SE:=Lib.hid (((((S1.set 2 0 (.bool (ng (-u))) rfl (by nofun)).set 2 1 (.slice A1 n1 c1) rfl (by nofun)).set 1 0 (.bool (ng (-v))) rfl (by nofun)).set 1 1 (.slice A2 n2 c2) rfl (by nofun)))
    clear d_x0 d_x1 d_y0 d_y1 dz_x0 dz_x1 dz_y0 dz_y1 e0_y0 e0_y1 e1_x0 e1_x1 e1_y0 e1_y1 e1z_x0 e1z_x1 e1z_y0 e1z_y1
    go_wp2_with fail
    go_meet
    exact⟨_,_,_,_,_,_,SE.out⟩
  case rest=>
   clear S;obtain⟨A1,n1,c1,A2,n2,c2,S⟩:=hcut;obtain⟨c_r0,c_r1,c_r2,f_r0,f_r1,f_r2⟩:=S.cf3 0 rfl;obtain⟨c_y0,c_y1,f_y0,f_y1⟩:=S.cf2 1 rfl;obtain⟨c_x0,c_x1,f_x0,f_x1⟩:=S.cf2 2 rfl;have hz:w.heap.size+1+1<wc.heap.size:=S.lt 0 rfl;replace S:=Lib.hid S;have g1:n1≤40000000:=by rw[←(S.out.r 1 rfl).len];exact l1.out
   have g2:n2≤40000000:=by rw[←(S.out.r 0 rfl).len];exact l2.out
   clear hnu hnv l1 l2;have hg:Hid (∀ W,Rd W A1 n1 c1 (limbs (-u).natAbs)→Rd W A2 n2 c2 (limbs (-v).natAbs)→Calls Tryz.prog 70 #[.agg #[.bool (ng (-u)),.slice A1 n1 c1],.agg #[.bool (ng (-v)),.slice A2 n2 c2]] W (RetN (Int.gcd (-u) (-v)) W)):=Lib.hid fun W q1 q2=>by
    have:=rgcdI_any (ng (-u)) A1 n1 c1 _ (ng (-v)) A2 n2 c2 _ W q1 q2 (by omega) (by omega)
    rwa [iv_z,iv_z] at this
   have hd1:Hid (∀ W A3 n3 c3,Rd W A1 n1 c1 (limbs (-u).natAbs)→Rd W A3 n3 c3 (limbs (Int.gcd (-u) (-v)))→Calls Tryz.prog 71 #[.agg #[.bool (ng (-u)),.slice A1 n1 c1],.agg #[.bool false,.slice A3 n3 c3]] W (RetD2 (Rat.divInt (-u) (-v)).num ((-u)%(Int.gcd (-u) (-v):Int)) W)):=Lib.hid fun W A3 n3 c3 q1 q2=>by
    have l3:n3≤40000000:=by rw[←q2.len];exact hgl.out
    have:=rdivI_any (ng (-u)) A1 n1 c1 _ false A3 n3 c3 _ W q1 q2 (by omega) (by omega) (by rw[iv_pos];have:=hgp.out;omega)
    rwa [iv_z,iv_pos,←(divInt_pos (-u) hv0.out).1] at this
   have hd2:Hid (∀ W A3 n3 c3,Rd W A2 n2 c2 (limbs (-v).natAbs)→Rd W A3 n3 c3 (limbs (Int.gcd (-u) (-v)))→Calls Tryz.prog 71 #[.agg #[.bool (ng (-v)),.slice A2 n2 c2],.agg #[.bool false,.slice A3 n3 c3]] W (RetD2 ((Rat.divInt (-u) (-v)).den:Int) ((-v)%(Int.gcd (-u) (-v):Int)) W)):=Lib.hid fun W A3 n3 c3 q1 q2=>by
    have l3:n3≤40000000:=by rw[←q2.len];exact hgl.out
    have:=rdivI_any (ng (-v)) A2 n2 c2 _ false A3 n3 c3 _ W q1 q2 (by omega) (by omega) (by rw[iv_pos];have:=hgp.out;omega)
    rwa [iv_z,iv_pos,←(divInt_pos (-u) hv0.out).2] at this
   have hngd:Hid (ng ((Rat.divInt (-u) (-v)).den:Int)=false):=Lib.hid (decide_eq_false (by omega))
   have h1:=fun W A n c h=>one_any A n c (limbs (Rat.divInt (-u) (-v)).den) W h
   rw[is1_den] at h1;generalize Rat.divInt (-u) (-v)=q at *;generalize (-u)%(Int.gcd (-u) (-v):Int)=r1 at hd1;generalize (-v)%(Int.gcd (-u) (-v):Int)=r2 at hd2;generalize Int.gcd (-u) (-v)=g at *;clear g1 g2 hgp hgl hv0
   go_wp2_with fail
   refine (hg.out _ (S.out.r 1 rfl) (S.out.r 0 rfl)).mono ?_
   rintro e w5 ⟨A3,n3,c3,rfl,Q3,bb⟩;have T:=((S.out.call bb).read Q3);clear bb S c_r0 f_r0 c_r1 f_r1 c_r2 f_r2 c_y0 f_y0 c_y1 f_y1 c_x0 f_x0 c_x1 f_x1 hz;have S:=T;clear T;obtain⟨c_r0,c_r1,c_r2,f_r0,f_r1,f_r2⟩:=S.cf3 0 rfl;obtain⟨c_y0,c_y1,f_y0,f_y1⟩:=S.cf2 1 rfl;obtain⟨c_x0,c_x1,f_x0,f_x1⟩:=S.cf2 2 rfl;have hz:w.heap.size+1+1<w5.heap.size:=S.lt 0 rfl;replace S:=Lib.hid S;clear Q3 hg;have S:=(S.out.allocAt (w5.heap.size) #[.bool false,.slice A3 n3 c3] 31 (noL2 _ _ _ _) (by simp))
   obtain⟨a_x0,a_x1,b_x0,b_x1⟩:=S.cf2 3 rfl;obtain⟨a_y0,a_y1,b_y0,b_y1⟩:=S.cf2 2 rfl;replace S:=Lib.hid S
   go_wp2_with fail
   refine (hd1.out _ _ _ _ (S.out.r 2 rfl) (S.out.r 0 rfl)).mono ?_
   rintro e w6 ⟨A4,n4,c4,A5,n5,c5,rfl,Q4,Q5,bb⟩;have T:=((S.out.call bb).read Q4);clear bb S c_r0 f_r0 c_r1 f_r1 c_r2 f_r2 c_y0 f_y0 c_y1 f_y1 c_x0 f_x0 c_x1 f_x1 hz a_x0 b_x0 a_x1 b_x1 a_y0 b_y0 a_y1 b_y1;have S:=T;clear T;obtain⟨c_g0,c_g1,f_g0,f_g1⟩:=S.cf2 0 rfl;obtain⟨c_r0,c_r1,c_r2,f_r0,f_r1,f_r2⟩:=S.cf3 1 rfl;obtain⟨c_y0,c_y1,f_y0,f_y1⟩:=S.cf2 2 rfl;obtain⟨c_x0,c_x1,f_x0,f_x1⟩:=S.cf2 3 rfl;have hz:w5.heap.size<w6.heap.size:=S.lt 0 rfl
   replace S:=Lib.hid S;clear Q4 Q5 hd1;have S:=((S.out.allocAt (w6.heap.size) #[.bool (ng q.num),.slice A4 n4 c4] 31 (noL2 _ _ _ _) (by simp)).allocAt (w6.heap.size+1) #[.bool (ng r1),.slice A5 n5 c5] 31 (noL2 _ _ _ _) (by simp))
   obtain⟨a_y0,a_y1,b_y0,b_y1⟩:=S.cf2 4 rfl;obtain⟨a_g0,a_g1,b_g0,b_g1⟩:=S.cf2 2 rfl;replace S:=Lib.hid S
   go_wp2_with fail
   refine (hd2.out _ _ _ _ (S.out.r 2 rfl) (S.out.r 1 rfl)).mono ?_
   rintro e w7 ⟨A6,n6,c6,A7,n7,c7,rfl,Q6,Q7,bb⟩;have T:=((S.out.call bb).read Q6);clear bb S c_g0 f_g0 c_g1 f_g1 c_r0 f_r0 c_r1 f_r1 c_r2 f_r2 c_y0 f_y0 c_y1 f_y1 c_x0 f_x0 c_x1 f_x1 hz a_y0 b_y0 a_y1 b_y1 a_g0 b_g0 a_g1 b_g1;have S:=T;clear T;obtain⟨c_o0,c_o1,f_o0,f_o1⟩:=S.cf2 0 rfl;obtain⟨c_n0,c_n1,f_n0,f_n1⟩:=S.cf2 1 rfl;obtain⟨c_g0,c_g1,f_g0,f_g1⟩:=S.cf2 2 rfl;obtain⟨c_r0,c_r1,c_r2,f_r0,f_r1,f_r2⟩:=S.cf3 3 rfl
   obtain⟨c_y0,c_y1,f_y0,f_y1⟩:=S.cf2 4 rfl;obtain⟨c_x0,c_x1,f_x0,f_x1⟩:=S.cf2 5 rfl;have hz:w6.heap.size+1<w7.heap.size:=S.lt 0 rfl;replace S:=Lib.hid S;clear Q6 Q7 hd2;rw[hngd.out];have S:=((S.out.allocAt (w7.heap.size) #[.bool false,.slice A6 n6 c6] 31 (noL2 _ _ _ _) (by simp)).allocAt (w7.heap.size+1) #[.bool (ng r2),.slice A7 n7 c7] 31 (noL2 _ _ _ _) (by simp))
   obtain⟨a_n0,a_n1,b_n0,b_n1⟩:=S.cf2 3 rfl;replace S:=Lib.hid S
   by_cases hd:q.den=1
   ·rw[decide_eq_true hd] at h1
    replace h1:=Lib.hid h1;have e1:=Lib.hid (dn_nil.2 hd);clear hd
    go_wp2_with fail
    refine (h1.out _ _ _ _ (S.out.r 0 rfl)).mono ?_
    rintro e w8 ⟨rfl,bb⟩;have T:=(S.out.call bb);clear bb S c_o0 f_o0 c_o1 f_o1 c_n0 f_n0 c_n1 f_n1 c_g0 f_g0 c_g1 f_g1 c_r0 f_r0 c_r1 f_r1 c_r2 f_r2 c_y0 f_y0 c_y1 f_y1 c_x0 f_x0 c_x1 f_x1 hz a_n0 b_n0 a_n1 b_n1;have S:=T;clear T;obtain⟨c_p0,c_p1,f_p0,f_p1⟩:=S.cf2 0 rfl;obtain⟨c_d0,c_d1,f_d0,f_d1⟩:=S.cf2 1 rfl;obtain⟨c_o0,c_o1,f_o0,f_o1⟩:=S.cf2 2 rfl;obtain⟨c_n0,c_n1,f_n0,f_n1⟩:=S.cf2 3 rfl;obtain⟨c_g0,c_g1,f_g0,f_g1⟩:=S.cf2 4 rfl
    obtain⟨c_r0,c_r1,c_r2,f_r0,f_r1,f_r2⟩:=S.cf3 5 rfl;obtain⟨c_y0,c_y1,f_y0,f_y1⟩:=S.cf2 6 rfl;obtain⟨c_x0,c_x1,f_x0,f_x1⟩:=S.cf2 7 rfl;have hz:w7.heap.size+1<w8.heap.size:=S.lt 0 rfl;replace S:=Lib.hid S;have S:St w _ [(w7.heap.size+1,#[.bool (ng r2),.slice A7 n7 c7],31),(w7.heap.size,#[.bool false,.slice none 0 0],31),(w6.heap.size+1,#[.bool (ng r1),.slice A5 n5 c5],31),(w6.heap.size,#[.bool (ng q.num),.slice A4 n4 c4],31),(w5.heap.size,#[.bool false,.slice A3 n3 c3],31),(w.heap.size+1+1,#[.bool false,.slice none 0 0,.slice none 0 0],33),(w.heap.size+1,#[.bool (ng (-v)),.slice A2 n2 c2],31),(w.heap.size,#[.bool (ng (-u)),.slice A1 n1 c1],31)] [(A6,n6,c6,limbs q.den),(A4,n4,c4,limbs q.num.natAbs),(A3,n3,c3,limbs g),(A2,n2,c2,limbs (-v).natAbs),(A1,n1,c1,limbs (-u).natAbs),(A',n',c',limbs v.natAbs),(A,n,c,limbs u.natAbs)]:=(S.out.set 1 1 (.slice none 0 0) rfl (by nofun))
    obtain⟨a_n0,a_n1,b_n0,b_n1⟩:=S.cf2 3 rfl;obtain⟨a_r0,a_r1,a_r2,b_r0,b_r1,b_r2⟩:=S.cf3 5 rfl;obtain⟨a_d0,a_d1,b_d0,b_d1⟩:=S.cf2 1 rfl;replace S:=Lib.hid S;have S:St w _ [(w7.heap.size+1,#[.bool (ng r2),.slice A7 n7 c7],31),(w7.heap.size,#[.bool false,.slice none 0 0],31),(w6.heap.size+1,#[.bool (ng r1),.slice A5 n5 c5],31),(w6.heap.size,#[.bool (ng q.num),.slice A4 n4 c4],31),(w5.heap.size,#[.bool false,.slice A3 n3 c3],31),(w.heap.size+1+1,#[.bool (ng q.num),.slice A4 n4 c4,.slice none 0 0],33),(w.heap.size+1,#[.bool (ng (-v)),.slice A2 n2 c2],31),(w.heap.size,#[.bool (ng (-u)),.slice A1 n1 c1],31)] [(A6,n6,c6,limbs q.den),(A4,n4,c4,limbs q.num.natAbs),(A3,n3,c3,limbs g),(A2,n2,c2,limbs (-v).natAbs),(A1,n1,c1,limbs (-u).natAbs),(A',n',c',limbs v.natAbs),(A,n,c,limbs u.natAbs)]:=(((S.out.set 5 0 (.bool (ng q.num)) rfl (by nofun)).set 5 1 (.slice A4 n4 c4) rfl (by nofun)).set 5 2 (.slice none 0 0) rfl (by nofun))
    replace S:=Lib.hid S;go_wp2;refine bodyPost_ret (res_rover _ _ (w.heap.size+1+1) 33 rfl (S.out.bk _ (List.mem_of_getElem? (i:=5) rfl)).1) rfl ?_
    exact⟨_,_,_,_,_,_,rfl,⟨S.out.r 1 rfl,by rw[e1.out];exact Rd.nil_ _ _ _⟩,S.out.bel⟩
   ·rw[decide_eq_false hd] at h1
    replace h1:=Lib.hid h1;have e1:Hid (dn q=limbs q.den):=Lib.hid (by unfold dn;rw[if_neg hd])
    clear hd
    go_wp2_with fail
    refine (h1.out _ _ _ _ (S.out.r 0 rfl)).mono ?_
    rintro e w8 ⟨rfl,bb⟩;have T:=(S.out.call bb);clear bb S c_o0 f_o0 c_o1 f_o1 c_n0 f_n0 c_n1 f_n1 c_g0 f_g0 c_g1 f_g1 c_r0 f_r0 c_r1 f_r1 c_r2 f_r2 c_y0 f_y0 c_y1 f_y1 c_x0 f_x0 c_x1 f_x1 hz a_n0 b_n0 a_n1 b_n1;have S:=T;clear T;obtain⟨c_p0,c_p1,f_p0,f_p1⟩:=S.cf2 0 rfl;obtain⟨c_d0,c_d1,f_d0,f_d1⟩:=S.cf2 1 rfl;obtain⟨c_o0,c_o1,f_o0,f_o1⟩:=S.cf2 2 rfl;obtain⟨c_n0,c_n1,f_n0,f_n1⟩:=S.cf2 3 rfl;obtain⟨c_g0,c_g1,f_g0,f_g1⟩:=S.cf2 4 rfl
    obtain⟨c_r0,c_r1,c_r2,f_r0,f_r1,f_r2⟩:=S.cf3 5 rfl;obtain⟨c_y0,c_y1,f_y0,f_y1⟩:=S.cf2 6 rfl;obtain⟨c_x0,c_x1,f_x0,f_x1⟩:=S.cf2 7 rfl;have hz:w7.heap.size+1<w8.heap.size:=S.lt 0 rfl;replace S:=Lib.hid S;have S:St w _ [(w7.heap.size+1,#[.bool (ng r2),.slice A7 n7 c7],31),(w7.heap.size,#[.bool false,.slice A6 n6 c6],31),(w6.heap.size+1,#[.bool (ng r1),.slice A5 n5 c5],31),(w6.heap.size,#[.bool (ng q.num),.slice A4 n4 c4],31),(w5.heap.size,#[.bool false,.slice A3 n3 c3],31),(w.heap.size+1+1,#[.bool (ng q.num),.slice A4 n4 c4,.slice A6 n6 c6],33),(w.heap.size+1,#[.bool (ng (-v)),.slice A2 n2 c2],31),(w.heap.size,#[.bool (ng (-u)),.slice A1 n1 c1],31)] [(A6,n6,c6,limbs q.den),(A4,n4,c4,limbs q.num.natAbs),(A3,n3,c3,limbs g),(A2,n2,c2,limbs (-v).natAbs),(A1,n1,c1,limbs (-u).natAbs),(A',n',c',limbs v.natAbs),(A,n,c,limbs u.natAbs)]:=(((S.out.set 5 0 (.bool (ng q.num)) rfl (by nofun)).set 5 1 (.slice A4 n4 c4) rfl (by nofun)).set 5 2 (.slice A6 n6 c6) rfl (by nofun))
    replace S:=Lib.hid S;go_wp2;refine bodyPost_ret (res_rover _ _ (w.heap.size+1+1) 33 rfl (S.out.bk _ (List.mem_of_getElem? (i:=5) rfl)).1) rfl ?_
    exact⟨_,_,_,_,_,_,rfl,⟨S.out.r 1 rfl,by rw[e1.out];exact S.out.r 0 rfl⟩,S.out.bel⟩
 ·have hgp:Hid (0<Int.gcd u v):=Lib.hid (Nat.gcd_pos_of_pos_right _ (by omega))
  have hgl:Hid ((limbs (Int.gcd u v)).length≤40000000):=Lib.hid (gcd_len2 (by omega) l2)
  have hv0:Hid (0<v):=Lib.hid (by omega)
  rw[Int.sign_eq_one_of_pos (by omega)] at hsg
  replace hsg:=Lib.hid hsg;clear h l1 l2;have hg:Hid (∀ W,Rd W A n c (limbs u.natAbs)→Rd W A' n' c' (limbs v.natAbs)→Calls Tryz.prog 70 #[.agg #[.bool (ng u),.slice A n c],.agg #[.bool (ng v),.slice A' n' c']] W (RetN (Int.gcd u v) W)):=Lib.hid fun W q1 q2=>by
   have:=rgcdI_any (ng u) A n c _ (ng v) A' n' c' _ W q1 q2 (by omega) (by omega)
   rwa [iv_z,iv_z] at this
  have hd1:Hid (∀ W A3 n3 c3,Rd W A n c (limbs u.natAbs)→Rd W A3 n3 c3 (limbs (Int.gcd u v))→Calls Tryz.prog 71 #[.agg #[.bool (ng u),.slice A n c],.agg #[.bool false,.slice A3 n3 c3]] W (RetD2 (Rat.divInt u v).num (u%(Int.gcd u v:Int)) W)):=Lib.hid fun W A3 n3 c3 q1 q2=>by
   have l3:n3≤40000000:=by rw[←q2.len];exact hgl.out
   have:=rdivI_any (ng u) A n c _ false A3 n3 c3 _ W q1 q2 (by omega) (by omega) (by rw[iv_pos];have:=hgp.out;omega)
   rwa [iv_z,iv_pos,←(divInt_pos u hv0.out).1] at this
  have hd2:Hid (∀ W A3 n3 c3,Rd W A' n' c' (limbs v.natAbs)→Rd W A3 n3 c3 (limbs (Int.gcd u v))→Calls Tryz.prog 71 #[.agg #[.bool (ng v),.slice A' n' c'],.agg #[.bool false,.slice A3 n3 c3]] W (RetD2 ((Rat.divInt u v).den:Int) (v%(Int.gcd u v:Int)) W)):=Lib.hid fun W A3 n3 c3 q1 q2=>by
   have l3:n3≤40000000:=by rw[←q2.len];exact hgl.out
   have:=rdivI_any (ng v) A' n' c' _ false A3 n3 c3 _ W q1 q2 (by omega) (by omega) (by rw[iv_pos];have:=hgp.out;omega)
   rwa [iv_z,iv_pos,←(divInt_pos u hv0.out).2] at this
  have hngd:Hid (ng ((Rat.divInt u v).den:Int)=false):=Lib.hid (decide_eq_false (by omega))
  have h1:=fun W A n c h=>one_any A n c (limbs (Rat.divInt u v).den) W h
  rw[is1_den] at h1;generalize Rat.divInt u v=q at *;generalize u%(Int.gcd u v:Int)=r1 at hd1;generalize v%(Int.gcd u v:Int)=r2 at hd2;generalize Int.gcd u v=g at *;clear hn hn' hgp hgl hv0 hv;go_enter Tryz.func45,Tryz.ntmps45
  go_wp2_with fail
  refine (hsg.out _ (S.out.r 0 rfl)).mono ?_
  rintro e w1 ⟨rfl,bb⟩;have T:=(S.out.call bb);clear bb S;have S:=T;clear T;obtain⟨c_r0,c_r1,c_r2,f_r0,f_r1,f_r2⟩:=S.cf3 0 rfl;obtain⟨c_y0,c_y1,f_y0,f_y1⟩:=S.cf2 1 rfl;obtain⟨c_x0,c_x1,f_x0,f_x1⟩:=S.cf2 2 rfl;have hz:w.heap.size+1+1<w1.heap.size:=S.lt 0 rfl;replace S:=Lib.hid S;clear hsg
  go_wp2_with fail
  refine (hg.out _ (S.out.r 1 rfl) (S.out.r 0 rfl)).mono ?_
  rintro e w2 ⟨A3,n3,c3,rfl,Q3,bb⟩;have T:=((S.out.call bb).read Q3);clear bb S c_r0 f_r0 c_r1 f_r1 c_r2 f_r2 c_y0 f_y0 c_y1 f_y1 c_x0 f_x0 c_x1 f_x1 hz;have S:=T;clear T;obtain⟨c_r0,c_r1,c_r2,f_r0,f_r1,f_r2⟩:=S.cf3 0 rfl;obtain⟨c_y0,c_y1,f_y0,f_y1⟩:=S.cf2 1 rfl;obtain⟨c_x0,c_x1,f_x0,f_x1⟩:=S.cf2 2 rfl;have hz:w.heap.size+1+1<w2.heap.size:=S.lt 0 rfl;replace S:=Lib.hid S;clear Q3 hg;have S:=(S.out.allocAt (w2.heap.size) #[.bool false,.slice A3 n3 c3] 31 (noL2 _ _ _ _) (by simp))
  obtain⟨a_x0,a_x1,b_x0,b_x1⟩:=S.cf2 3 rfl;obtain⟨a_y0,a_y1,b_y0,b_y1⟩:=S.cf2 2 rfl;replace S:=Lib.hid S
  go_wp2_with fail
  refine (hd1.out _ _ _ _ (S.out.r 2 rfl) (S.out.r 0 rfl)).mono ?_
  rintro e w3 ⟨A4,n4,c4,A5,n5,c5,rfl,Q4,Q5,bb⟩;have T:=((S.out.call bb).read Q4);clear bb S c_r0 f_r0 c_r1 f_r1 c_r2 f_r2 c_y0 f_y0 c_y1 f_y1 c_x0 f_x0 c_x1 f_x1 hz a_x0 b_x0 a_x1 b_x1 a_y0 b_y0 a_y1 b_y1;have S:=T;clear T;obtain⟨c_g0,c_g1,f_g0,f_g1⟩:=S.cf2 0 rfl;obtain⟨c_r0,c_r1,c_r2,f_r0,f_r1,f_r2⟩:=S.cf3 1 rfl;obtain⟨c_y0,c_y1,f_y0,f_y1⟩:=S.cf2 2 rfl;obtain⟨c_x0,c_x1,f_x0,f_x1⟩:=S.cf2 3 rfl;have hz:w2.heap.size<w3.heap.size:=S.lt 0 rfl
  replace S:=Lib.hid S;clear Q4 Q5 hd1;have S:=((S.out.allocAt (w3.heap.size) #[.bool (ng q.num),.slice A4 n4 c4] 31 (noL2 _ _ _ _) (by simp)).allocAt (w3.heap.size+1) #[.bool (ng r1),.slice A5 n5 c5] 31 (noL2 _ _ _ _) (by simp))
  obtain⟨a_y0,a_y1,b_y0,b_y1⟩:=S.cf2 4 rfl;obtain⟨a_g0,a_g1,b_g0,b_g1⟩:=S.cf2 2 rfl;replace S:=Lib.hid S
  go_wp2_with fail
  refine (hd2.out _ _ _ _ (S.out.r 2 rfl) (S.out.r 1 rfl)).mono ?_
  rintro e w4 ⟨A6,n6,c6,A7,n7,c7,rfl,Q6,Q7,bb⟩;have T:=((S.out.call bb).read Q6);clear bb S c_g0 f_g0 c_g1 f_g1 c_r0 f_r0 c_r1 f_r1 c_r2 f_r2 c_y0 f_y0 c_y1 f_y1 c_x0 f_x0 c_x1 f_x1 hz a_y0 b_y0 a_y1 b_y1 a_g0 b_g0 a_g1 b_g1;have S:=T;clear T;obtain⟨c_o0,c_o1,f_o0,f_o1⟩:=S.cf2 0 rfl;obtain⟨c_n0,c_n1,f_n0,f_n1⟩:=S.cf2 1 rfl;obtain⟨c_g0,c_g1,f_g0,f_g1⟩:=S.cf2 2 rfl;obtain⟨c_r0,c_r1,c_r2,f_r0,f_r1,f_r2⟩:=S.cf3 3 rfl
  obtain⟨c_y0,c_y1,f_y0,f_y1⟩:=S.cf2 4 rfl;obtain⟨c_x0,c_x1,f_x0,f_x1⟩:=S.cf2 5 rfl;have hz:w3.heap.size+1<w4.heap.size:=S.lt 0 rfl;replace S:=Lib.hid S;clear Q6 Q7 hd2;rw[hngd.out];have S:=((S.out.allocAt (w4.heap.size) #[.bool false,.slice A6 n6 c6] 31 (noL2 _ _ _ _) (by simp)).allocAt (w4.heap.size+1) #[.bool (ng r2),.slice A7 n7 c7] 31 (noL2 _ _ _ _) (by simp))
  obtain⟨a_n0,a_n1,b_n0,b_n1⟩:=S.cf2 3 rfl;replace S:=Lib.hid S
  by_cases hd:q.den=1
  ·rw[decide_eq_true hd] at h1
   replace h1:=Lib.hid h1;have e1:=Lib.hid (dn_nil.2 hd);clear hd
   go_wp2_with fail
   refine (h1.out _ _ _ _ (S.out.r 0 rfl)).mono ?_
   rintro e w5 ⟨rfl,bb⟩;have T:=(S.out.call bb);clear bb S c_o0 f_o0 c_o1 f_o1 c_n0 f_n0 c_n1 f_n1 c_g0 f_g0 c_g1 f_g1 c_r0 f_r0 c_r1 f_r1 c_r2 f_r2 c_y0 f_y0 c_y1 f_y1 c_x0 f_x0 c_x1 f_x1 hz a_n0 b_n0 a_n1 b_n1;have S:=T;clear T;obtain⟨c_p0,c_p1,f_p0,f_p1⟩:=S.cf2 0 rfl;obtain⟨c_d0,c_d1,f_d0,f_d1⟩:=S.cf2 1 rfl;obtain⟨c_o0,c_o1,f_o0,f_o1⟩:=S.cf2 2 rfl;obtain⟨c_n0,c_n1,f_n0,f_n1⟩:=S.cf2 3 rfl;obtain⟨c_g0,c_g1,f_g0,f_g1⟩:=S.cf2 4 rfl
   obtain⟨c_r0,c_r1,c_r2,f_r0,f_r1,f_r2⟩:=S.cf3 5 rfl;obtain⟨c_y0,c_y1,f_y0,f_y1⟩:=S.cf2 6 rfl;obtain⟨c_x0,c_x1,f_x0,f_x1⟩:=S.cf2 7 rfl;have hz:w4.heap.size+1<w5.heap.size:=S.lt 0 rfl;replace S:=Lib.hid S;have S:St w _ [(w4.heap.size+1,#[.bool (ng r2),.slice A7 n7 c7],31),(w4.heap.size,#[.bool false,.slice none 0 0],31),(w3.heap.size+1,#[.bool (ng r1),.slice A5 n5 c5],31),(w3.heap.size,#[.bool (ng q.num),.slice A4 n4 c4],31),(w2.heap.size,#[.bool false,.slice A3 n3 c3],31),(w.heap.size+1+1,#[.bool false,.slice none 0 0,.slice none 0 0],33),(w.heap.size+1,#[.bool (ng v),.slice A' n' c'],31),(w.heap.size,#[.bool (ng u),.slice A n c],31)] [(A6,n6,c6,limbs q.den),(A4,n4,c4,limbs q.num.natAbs),(A3,n3,c3,limbs g),(A',n',c',limbs v.natAbs),(A,n,c,limbs u.natAbs)]:=(S.out.set 1 1 (.slice none 0 0) rfl (by nofun))
   obtain⟨a_n0,a_n1,b_n0,b_n1⟩:=S.cf2 3 rfl;obtain⟨a_r0,a_r1,a_r2,b_r0,b_r1,b_r2⟩:=S.cf3 5 rfl;obtain⟨a_d0,a_d1,b_d0,b_d1⟩:=S.cf2 1 rfl;replace S:=Lib.hid S;have S:St w _ [(w4.heap.size+1,#[.bool (ng r2),.slice A7 n7 c7],31),(w4.heap.size,#[.bool false,.slice none 0 0],31),(w3.heap.size+1,#[.bool (ng r1),.slice A5 n5 c5],31),(w3.heap.size,#[.bool (ng q.num),.slice A4 n4 c4],31),(w2.heap.size,#[.bool false,.slice A3 n3 c3],31),(w.heap.size+1+1,#[.bool (ng q.num),.slice A4 n4 c4,.slice none 0 0],33),(w.heap.size+1,#[.bool (ng v),.slice A' n' c'],31),(w.heap.size,#[.bool (ng u),.slice A n c],31)] [(A6,n6,c6,limbs q.den),(A4,n4,c4,limbs q.num.natAbs),(A3,n3,c3,limbs g),(A',n',c',limbs v.natAbs),(A,n,c,limbs u.natAbs)]:=(((S.out.set 5 0 (.bool (ng q.num)) rfl (by nofun)).set 5 1 (.slice A4 n4 c4) rfl (by nofun)).set 5 2 (.slice none 0 0) rfl (by nofun))
   replace S:=Lib.hid S;go_wp2;refine bodyPost_ret (res_rover _ _ (w.heap.size+1+1) 33 rfl (S.out.bk _ (List.mem_of_getElem? (i:=5) rfl)).1) rfl ?_
   exact⟨_,_,_,_,_,_,rfl,⟨S.out.r 1 rfl,by rw[e1.out];exact Rd.nil_ _ _ _⟩,S.out.bel⟩
  ·rw[decide_eq_false hd] at h1
   replace h1:=Lib.hid h1;have e1:Hid (dn q=limbs q.den):=Lib.hid (by unfold dn;rw[if_neg hd])
   clear hd
   go_wp2_with fail
   refine (h1.out _ _ _ _ (S.out.r 0 rfl)).mono ?_
   rintro e w5 ⟨rfl,bb⟩;have T:=(S.out.call bb);clear bb S c_o0 f_o0 c_o1 f_o1 c_n0 f_n0 c_n1 f_n1 c_g0 f_g0 c_g1 f_g1 c_r0 f_r0 c_r1 f_r1 c_r2 f_r2 c_y0 f_y0 c_y1 f_y1 c_x0 f_x0 c_x1 f_x1 hz a_n0 b_n0 a_n1 b_n1;have S:=T;clear T;obtain⟨c_p0,c_p1,f_p0,f_p1⟩:=S.cf2 0 rfl;obtain⟨c_d0,c_d1,f_d0,f_d1⟩:=S.cf2 1 rfl;obtain⟨c_o0,c_o1,f_o0,f_o1⟩:=S.cf2 2 rfl;obtain⟨c_n0,c_n1,f_n0,f_n1⟩:=S.cf2 3 rfl;obtain⟨c_g0,c_g1,f_g0,f_g1⟩:=S.cf2 4 rfl
   obtain⟨c_r0,c_r1,c_r2,f_r0,f_r1,f_r2⟩:=S.cf3 5 rfl;obtain⟨c_y0,c_y1,f_y0,f_y1⟩:=S.cf2 6 rfl;obtain⟨c_x0,c_x1,f_x0,f_x1⟩:=S.cf2 7 rfl;have hz:w4.heap.size+1<w5.heap.size:=S.lt 0 rfl;replace S:=Lib.hid S;have S:St w _ [(w4.heap.size+1,#[.bool (ng r2),.slice A7 n7 c7],31),(w4.heap.size,#[.bool false,.slice A6 n6 c6],31),(w3.heap.size+1,#[.bool (ng r1),.slice A5 n5 c5],31),(w3.heap.size,#[.bool (ng q.num),.slice A4 n4 c4],31),(w2.heap.size,#[.bool false,.slice A3 n3 c3],31),(w.heap.size+1+1,#[.bool (ng q.num),.slice A4 n4 c4,.slice A6 n6 c6],33),(w.heap.size+1,#[.bool (ng v),.slice A' n' c'],31),(w.heap.size,#[.bool (ng u),.slice A n c],31)] [(A6,n6,c6,limbs q.den),(A4,n4,c4,limbs q.num.natAbs),(A3,n3,c3,limbs g),(A',n',c',limbs v.natAbs),(A,n,c,limbs u.natAbs)]:=(((S.out.set 5 0 (.bool (ng q.num)) rfl (by nofun)).set 5 1 (.slice A4 n4 c4) rfl (by nofun)).set 5 2 (.slice A6 n6 c6) rfl (by nofun))
   replace S:=Lib.hid S;go_wp2;refine bodyPost_ret (res_rover _ _ (w.heap.size+1+1) 33 rfl (S.out.bk _ (List.mem_of_getElem? (i:=5) rfl)).1) rfl ?_
   exact⟨_,_,_,_,_,_,rfl,⟨S.out.r 1 rfl,by rw[e1.out];exact S.out.r 0 rfl⟩,S.out.bel⟩
end Go.Proofs.YthlinhconnmbcaaGreat
namespace Go.Proofs.YthlinhconnmbcaaGreat
open Go.RowKit RQ
theorem is1_gcd (G:Nat):is1 (limbs G)=(G==1):=by
 unfold is1;rw[Bool.eq_iff_iff,beq_iff_eq,beq_iff_eq,←limbs_is1];exact⟨fun h=>limbs_inj h,fun h=>by rw[h]⟩
theorem rvalidR_any (b:Bool) (A:Option Addr) (n c:Nat) (xs:List Nat) (D:Option Addr) (m d:Nat) (ds:List Nat) (w:World) (R1:Rd w A n c xs) (R2:Rd w D m d ds) (hn:n≤50000000) (hm:m≤50000000) :
  Calls Tryz.prog 66 #[.agg #[.bool b,.slice A n c,.slice D m d]] w fun e w'=>e=.returned (.bool (vldR b xs ds))∧Below w.heap.size w w':=by
 have hl1:=R1.len;have hl2:=R2.len;have s2:=R2.sm;have hV:Hid (∀ W,Rd W A n c xs→Calls Tryz.prog 91 #[.agg #[.bool b,.slice A n c]] W fun e w'=>e=.returned (.bool (vldI b xs))∧Below W.heap.size W w'):=Lib.hid fun W h=>rvalidI_any b A n c xs W h (by omega)
 have hU:Hid (∀ W,Rd W D m d ds→Calls Tryz.prog 92 #[.slice D m d] W fun e w'=>e=.returned (.bool (vldB ds))∧Below W.heap.size W w'):=Lib.hid fun W h=>(rvalid_any D m d ds W h (by omega)).mono fun e w' hh=>⟨hh.1,by rw[hh.2];exact Below.refl _ _⟩
 have hO:Hid (∀ W,Rd W D m d ds→Calls Tryz.prog 72 #[.slice D m d] W fun e w'=>e=.returned (.bool (is1 ds))∧Below W.heap.size W w'):=Lib.hid fun W h=>one_any D m d ds W h
 have hG:Hid (∀ W,Rd W A n c xs→Rd W D m d ds→Calls Tryz.prog 93 #[.slice A n c,.slice D m d] W (RetN (Nat.gcd (num xs) (num ds)) W)):=Lib.hid fun W q1 q2=>rgcd_any A n c xs D m d ds W q1 q2 (by omega) (by omega)
 have hP:=Lib.hid (fun W A n c q=>one_any A n c (limbs (Nat.gcd (num xs) (num ds))) W q)
 have S:=((((St.new w).read R1).read R2).allocAt (w.heap.size) #[.bool b,.slice A n c,.slice D m d] 33 (noL3 _ _ _ _ _ _ _) (by simp))
 replace S:=Lib.hid S;clear R1 R2
 cases hb:vldI b xs
 ·have hr:Hid (vldR b xs ds=false):=Lib.hid (by unfold vldR;rw[hb];rfl)
  rw[hb] at hV;clear hU hO hG hP hb hl1 hl2 s2 hn hm;go_enter Tryz.func66,Tryz.ntmps66
  go_wp2_with fail
  refine (hV.out _ (S.out.r 1 rfl)).mono ?_
  rintro e w1 ⟨rfl,bb⟩;have T:=(S.out.call bb);clear bb S;have S:=T;clear T;obtain⟨c_x0,c_x1,c_x2,f_x0,f_x1,f_x2⟩:=S.cf3 0 rfl;have hz:w.heap.size<w1.heap.size:=S.lt 0 rfl;replace S:=Lib.hid S;have S:=S.out;replace S:=Lib.hid S;go_wp2;go_ret;exact⟨congrArg (fun q=>Ending.returned (.bool q)) hr.out.symm,S.out.bel⟩
 cases hd:vldB ds
 ·have hne:ds≠[]:=by rintro rfl;simp[vldB] at hd
  have hr:Hid (vldR b xs ds=false):=Lib.hid (by rw[vldR_row hne,hd];simp)
  rw[hb] at hV;rw[hd] at hU;clear hO hG hP hb hd hne hl1 hl2 s2 hn hm;go_enter Tryz.func66,Tryz.ntmps66
  go_wp2_with fail
  refine (hV.out _ (S.out.r 1 rfl)).mono ?_
  rintro e w1 ⟨rfl,bb⟩;have T:=(S.out.call bb);clear bb S;have S:=T;clear T;obtain⟨c_x0,c_x1,c_x2,f_x0,f_x1,f_x2⟩:=S.cf3 0 rfl;have hz:w.heap.size<w1.heap.size:=S.lt 0 rfl;replace S:=Lib.hid S
  go_wp2_with fail
  refine (hU.out _ (S.out.r 0 rfl)).mono ?_
  rintro e w2 ⟨rfl,bb⟩;have T:=(S.out.call bb);clear bb S c_x0 f_x0 c_x1 f_x1 c_x2 f_x2 hz;have S:=T;clear T;obtain⟨c_x0,c_x1,c_x2,f_x0,f_x1,f_x2⟩:=S.cf3 0 rfl;have hz:w.heap.size<w2.heap.size:=S.lt 0 rfl;replace S:=Lib.hid S;have S:=S.out;replace S:=Lib.hid S;go_wp2;go_ret;exact⟨congrArg (fun q=>Ending.returned (.bool q)) hr.out.symm,S.out.bel⟩
 cases h1:is1 ds
 case true=>
  have hne:ds≠[]:=by rintro rfl;simp[is1] at h1
  have hr:Hid (vldR b xs ds=false):=Lib.hid (by rw[vldR_row hne,hd,h1];simp)
  rw[hb] at hV;rw[hd] at hU;rw[h1] at hO;clear hG hP hb hd h1 hne hl1 hl2 s2 hn hm;go_enter Tryz.func66,Tryz.ntmps66
  go_wp2_with fail
  refine (hV.out _ (S.out.r 1 rfl)).mono ?_
  rintro e w1 ⟨rfl,bb⟩;have T:=(S.out.call bb);clear bb S;have S:=T;clear T;obtain⟨c_x0,c_x1,c_x2,f_x0,f_x1,f_x2⟩:=S.cf3 0 rfl;have hz:w.heap.size<w1.heap.size:=S.lt 0 rfl;replace S:=Lib.hid S
  go_wp2_with fail
  refine (hU.out _ (S.out.r 0 rfl)).mono ?_
  rintro e w2 ⟨rfl,bb⟩;have T:=(S.out.call bb);clear bb S c_x0 f_x0 c_x1 f_x1 c_x2 f_x2 hz;have S:=T;clear T;obtain⟨c_x0,c_x1,c_x2,f_x0,f_x1,f_x2⟩:=S.cf3 0 rfl;have hz:w.heap.size<w2.heap.size:=S.lt 0 rfl;replace S:=Lib.hid S
  go_wp2_with fail
  refine (hO.out _ (S.out.r 0 rfl)).mono ?_
  rintro e w3 ⟨rfl,bb⟩;have T:=(S.out.call bb);clear bb S c_x0 f_x0 c_x1 f_x1 c_x2 f_x2 hz;have S:=T;clear T;obtain⟨c_x0,c_x1,c_x2,f_x0,f_x1,f_x2⟩:=S.cf3 0 rfl;have hz:w.heap.size<w3.heap.size:=S.lt 0 rfl;replace S:=Lib.hid S;have S:=S.out;replace S:=Lib.hid S;go_wp2;go_ret;exact⟨congrArg (fun q=>Ending.returned (.bool q)) hr.out.symm,S.out.bel⟩
 by_cases h0:m=0
 ·have hd0:ds=[]:=List.eq_nil_of_length_eq_zero (by omega)
  have hr:Hid (vldR b xs ds=true):=Lib.hid (by rw[hd0,vldR_nil,hb])
  have g0:((m:Int)==0)=true:=by rw[beq_iff_eq];omega
  rw[hb] at hV;rw[hd] at hU;rw[h1] at hO;clear hG hP hb hd h1 hd0 h0 hl1 hl2 s2 hn hm;go_enter Tryz.func66,Tryz.ntmps66
  go_wp2_with fail
  refine (hV.out _ (S.out.r 1 rfl)).mono ?_
  rintro e w1 ⟨rfl,bb⟩;have T:=(S.out.call bb);clear bb S;have S:=T;clear T;obtain⟨c_x0,c_x1,c_x2,f_x0,f_x1,f_x2⟩:=S.cf3 0 rfl;have hz:w.heap.size<w1.heap.size:=S.lt 0 rfl;replace S:=Lib.hid S
  go_wp2_with fail
  refine (hU.out _ (S.out.r 0 rfl)).mono ?_
  rintro e w2 ⟨rfl,bb⟩;have T:=(S.out.call bb);clear bb S c_x0 f_x0 c_x1 f_x1 c_x2 f_x2 hz;have S:=T;clear T;obtain⟨c_x0,c_x1,c_x2,f_x0,f_x1,f_x2⟩:=S.cf3 0 rfl;have hz:w.heap.size<w2.heap.size:=S.lt 0 rfl;replace S:=Lib.hid S
  go_wp2_with fail
  refine (hO.out _ (S.out.r 0 rfl)).mono ?_
  rintro e w3 ⟨rfl,bb⟩;have T:=(S.out.call bb);clear bb S c_x0 f_x0 c_x1 f_x1 c_x2 f_x2 hz;have S:=T;clear T;obtain⟨c_x0,c_x1,c_x2,f_x0,f_x1,f_x2⟩:=S.cf3 0 rfl;have hz:w.heap.size<w3.heap.size:=S.lt 0 rfl;replace S:=Lib.hid S;have S:=S.out;replace S:=Lib.hid S;go_wp2;go_ret;exact⟨congrArg (fun q=>Ending.returned (.bool q)) hr.out.symm,S.out.bel⟩
 have hne:ds≠[]:=by rintro rfl;exact h0 hl2.symm
 have g0:((m:Int)==0)=false:=by rw[beq_eq_false_iff_ne];omega
 have hvd:num ds=val ds:=by unfold num;rw[hd];rfl
 have hvx:num xs=val xs:=by unfold num;rw[(vldI_parts hb).1];rfl
 have hr0:vldR b xs ds=(Nat.gcd (val xs) (val ds)==1):=by rw[vldR_row hne,hb,hd,h1];simp
 by_cases hn0:n=0
 ·have hx0:xs=[]:=List.eq_nil_of_length_eq_zero (by omega)
  have hr:Hid (vldR b xs ds=false):=Lib.hid (by
   rw[hr0,hx0,show val []=0 from rfl,Nat.gcd_zero_left,beq_eq_false_iff_ne]
   intro e;rw[is1_val s2 hd,e] at h1
   simp at h1)
  have gn:(n:Int)≤0:=by omega
  have gn2:((n:Int))=0:=by omega
  subst hn0;rw[hb] at hV;rw[hd] at hU;rw[h1] at hO;clear hG hP hb hd h1 h0 hl1 hl2 s2 hn hm hne hvd hvx hr0 hx0 gn gn2;go_enter Tryz.func66,Tryz.ntmps66
  go_wp2_with fail
  refine (hV.out _ (S.out.r 1 rfl)).mono ?_
  rintro e w1 ⟨rfl,bb⟩;have T:=(S.out.call bb);clear bb S;have S:=T;clear T;obtain⟨c_x0,c_x1,c_x2,f_x0,f_x1,f_x2⟩:=S.cf3 0 rfl;have hz:w.heap.size<w1.heap.size:=S.lt 0 rfl;replace S:=Lib.hid S
  go_wp2_with fail
  refine (hU.out _ (S.out.r 0 rfl)).mono ?_
  rintro e w2 ⟨rfl,bb⟩;have T:=(S.out.call bb);clear bb S c_x0 f_x0 c_x1 f_x1 c_x2 f_x2 hz;have S:=T;clear T;obtain⟨c_x0,c_x1,c_x2,f_x0,f_x1,f_x2⟩:=S.cf3 0 rfl;have hz:w.heap.size<w2.heap.size:=S.lt 0 rfl;replace S:=Lib.hid S
  go_wp2_with fail
  refine (hO.out _ (S.out.r 0 rfl)).mono ?_
  rintro e w3 ⟨rfl,bb⟩;have T:=(S.out.call bb);clear bb S c_x0 f_x0 c_x1 f_x1 c_x2 f_x2 hz;have S:=T;clear T;obtain⟨c_x0,c_x1,c_x2,f_x0,f_x1,f_x2⟩:=S.cf3 0 rfl;have hz:w.heap.size<w3.heap.size:=S.lt 0 rfl;replace S:=Lib.hid S;have S:=S.out;replace S:=Lib.hid S;go_wp2;go_ret;exact⟨congrArg (fun q=>Ending.returned (.bool q)) hr.out.symm,S.out.bel⟩
 have hr:Hid (vldR b xs ds=is1 (limbs (Nat.gcd (num xs) (num ds)))):=Lib.hid (by rw[hr0,is1_gcd,hvd,hvx])
 have gn:(0:Int)<(n:Int):=by omega
 have gn2:0<n:=by omega
 generalize Nat.gcd (num xs) (num ds)=G at hG hP hr;rw[hb] at hV;rw[hd] at hU;rw[h1] at hO;clear hb hd h1 h0 hl1 hl2 s2 hn hm hne hvd hvx hr0 hn0;go_enter Tryz.func66,Tryz.ntmps66
 go_wp2_with fail
 refine (hV.out _ (S.out.r 1 rfl)).mono ?_
 rintro e w1 ⟨rfl,bb⟩;have T:=(S.out.call bb);clear bb S;have S:=T;clear T;obtain⟨c_x0,c_x1,c_x2,f_x0,f_x1,f_x2⟩:=S.cf3 0 rfl;have hz:w.heap.size<w1.heap.size:=S.lt 0 rfl;replace S:=Lib.hid S
 go_wp2_with fail
 refine (hU.out _ (S.out.r 0 rfl)).mono ?_
 rintro e w2 ⟨rfl,bb⟩;have T:=(S.out.call bb);clear bb S c_x0 f_x0 c_x1 f_x1 c_x2 f_x2 hz;have S:=T;clear T;obtain⟨c_x0,c_x1,c_x2,f_x0,f_x1,f_x2⟩:=S.cf3 0 rfl;have hz:w.heap.size<w2.heap.size:=S.lt 0 rfl;replace S:=Lib.hid S
 go_wp2_with fail
 refine (hO.out _ (S.out.r 0 rfl)).mono ?_
 rintro e w3 ⟨rfl,bb⟩;have T:=(S.out.call bb);clear bb S c_x0 f_x0 c_x1 f_x1 c_x2 f_x2 hz;have S:=T;clear T;obtain⟨c_x0,c_x1,c_x2,f_x0,f_x1,f_x2⟩:=S.cf3 0 rfl;have hz:w.heap.size<w3.heap.size:=S.lt 0 rfl;replace S:=Lib.hid S
 go_wp2_with fail
 refine (hG.out _ (S.out.r 1 rfl) (S.out.r 0 rfl)).mono ?_
 rintro e w4 ⟨A3,n3,c3,rfl,Q3,bb⟩;have T:=((S.out.call bb).read Q3);clear bb S c_x0 f_x0 c_x1 f_x1 c_x2 f_x2 hz;have S:=T;clear T;obtain⟨c_x0,c_x1,c_x2,f_x0,f_x1,f_x2⟩:=S.cf3 0 rfl;have hz:w.heap.size<w4.heap.size:=S.lt 0 rfl;replace S:=Lib.hid S
 go_wp2_with fail
 refine (hP.out _ A3 n3 c3 (S.out.r 0 rfl)).mono ?_
 rintro e w5 ⟨rfl,bb⟩;have T:=(S.out.call bb);clear bb S c_x0 f_x0 c_x1 f_x1 c_x2 f_x2 hz;have S:=T;clear T;obtain⟨c_x0,c_x1,c_x2,f_x0,f_x1,f_x2⟩:=S.cf3 0 rfl;have hz:w.heap.size<w5.heap.size:=S.lt 0 rfl;replace S:=Lib.hid S;have S:=S.out;replace S:=Lib.hid S;go_wp2;go_ret;exact⟨congrArg (fun q=>Ending.returned (.bool q)) hr.out.symm,S.out.bel⟩
end Go.Proofs.YthlinhconnmbcaaGreat
namespace Go.Proofs.YthlinhconnmbcaaGreat
open Go.RowKit RQ
theorem dn_inj {q r:Rat} (h:dn q=dn r):q.den=r.den:=by rw[←dv_dn,←dv_dn,h]
theorem same_parts (q r:Rat):((decide (ng q.num=ng r.num)&&decide (limbs q.num.natAbs=limbs r.num.natAbs))&&decide (dn q=dn r))=decide (q=r):=by
 rw[Bool.eq_iff_iff];simp only[Bool.and_eq_true,decide_eq_true_eq]
 constructor
 ·rintro ⟨⟨h1,h2⟩,h3⟩
  have e1:=limbs_inj1 h2;have e2:q.num=r.num:=by rw[←sg_ng q.num,←sg_ng r.num,h1,e1]
  exact Rat.ext e2 (dn_inj h3)
 ·rintro rfl;exact⟨⟨rfl,rfl⟩,rfl⟩
theorem same2_any (b:Bool) (A:Option Addr) (n c:Nat) (xs:List Nat) (b':Bool) (A':Option Addr) (n' c':Nat) (ys:List Nat) (w:World) (R1:Rd w A n c xs) (R2:Rd w A' n' c' ys) (hn:n≤1000000000) (hn':n'≤1000000000) :
  Calls Tryz.prog 42 #[.agg #[.bool b,.slice A n c],.agg #[.bool b',.slice A' n' c']] w fun e w'=>e=.returned (.bool (decide (b=b')&&decide (xs=ys)))∧Below w.heap.size w w':=by
 have hS:=Lib.hid (fun W p1 p2=>same1_any A n c A' n' c' xs ys W p1 p2 (by omega) (by omega))
 have S:=(((((St.new w).read R1).read R2).allocAt (w.heap.size) #[.bool b,.slice A n c] 31 (noL2 _ _ _ _) (by simp)).allocAt (w.heap.size+1) #[.bool b',.slice A' n' c'] 31 (noL2 _ _ _ _) (by simp))
 replace S:=Lib.hid S;clear R1 R2 hn hn';generalize decide (xs=ys)=eq at *;have hb:((b:Bool)==b')=decide (b=b'):=by cases b<;>cases b'<;>rfl
 cases hbb:decide (b=b')
 ·rw[hbb] at hb
  clear hbb hS;have B:=Lib.hid S.out.bel;go_enter Tryz.func42,Tryz.ntmps42;go_wp2;go_ret;exact⟨rfl,B.out⟩
 ·rw[hbb] at hb
  clear hbb;rw[Bool.true_and];go_enter Tryz.func42,Tryz.ntmps42
  go_wp2_with fail
  refine (hS.out _ (S.out.r 1 rfl) (S.out.r 0 rfl)).mono ?_
  rintro e w1 ⟨rfl,bb⟩;have T:=(S.out.call bb);clear bb S;have S:=T;clear T;obtain⟨c_y0,c_y1,f_y0,f_y1⟩:=S.cf2 0 rfl;obtain⟨c_x0,c_x1,f_x0,f_x1⟩:=S.cf2 1 rfl;have hz:w.heap.size+1<w1.heap.size:=S.lt 0 rfl;replace S:=Lib.hid S;have B:=Lib.hid S.out.bel;go_wp2;go_ret;exact⟨rfl,B.out⟩
theorem sameQ (q r:Rat) (A:Option Addr) (n c:Nat) (D:Option Addr) (m d:Nat) (A':Option Addr) (n' c':Nat) (D':Option Addr) (m' d':Nat) (w:World) (X:RR w A n c D m d q) (Y:RR w A' n' c' D' m' d' r) (hs:Rs q 20000000) (hs':Rs r 20000000) :
  Calls Tryz.prog 14 #[.agg #[.bool (ng q.num),.slice A n c,.slice D m d],.agg #[.bool (ng r.num),.slice A' n' c',.slice D' m' d']] w fun e w'=>e=.returned (.bool (decide (q=r)))∧Below w.heap.size w w':=by
 have l:=X.lens hs;have l':=Y.lens hs';have hS:=Lib.hid (fun W p1 p2=>same2_any (ng q.num) A n c (limbs q.num.natAbs) (ng r.num) A' n' c' (limbs r.num.natAbs) W p1 p2 (by omega) (by omega))
 have hT:=Lib.hid (fun W p1 p2=>same1_any D m d D' m' d' (dn q) (dn r) W p1 p2 (by omega) (by omega))
 have R1:=X.n;have R2:=X.d;have R3:=Y.n;have R4:=Y.d;rw[←same_parts];have S:=(((((((St.new w).read R1).read R2).read R3).read R4).allocAt (w.heap.size) #[.bool (ng q.num),.slice A n c,.slice D m d] 33 (noL3 _ _ _ _ _ _ _) (by simp)).allocAt (w.heap.size+1) #[.bool (ng r.num),.slice A' n' c',.slice D' m' d'] 33 (noL3 _ _ _ _ _ _ _) (by simp))
 replace S:=Lib.hid S;clear X Y R1 R2 R3 R4 l l' hs hs';generalize decide (dn q=dn r)=e2 at *;generalize (decide (ng q.num=ng r.num)&&decide (limbs q.num.natAbs=limbs r.num.natAbs))=e1 at *
 cases e1
 ·clear hT
  go_enter Tryz.func14,Tryz.ntmps14
  go_wp2_with fail
  refine (hS.out _ (S.out.r 3 rfl) (S.out.r 1 rfl)).mono ?_
  rintro e w1 ⟨rfl,bb⟩;have T:=(S.out.call bb);clear bb S;have S:=T;clear T;obtain⟨c_y0,c_y1,c_y2,f_y0,f_y1,f_y2⟩:=S.cf3 0 rfl;obtain⟨c_x0,c_x1,c_x2,f_x0,f_x1,f_x2⟩:=S.cf3 1 rfl;have hz:w.heap.size+1<w1.heap.size:=S.lt 0 rfl;replace S:=Lib.hid S;clear hS;have B:=Lib.hid S.out.bel;go_wp2;go_ret;exact⟨rfl,B.out⟩
 ·rw[Bool.true_and]
  go_enter Tryz.func14,Tryz.ntmps14
  go_wp2_with fail
  refine (hS.out _ (S.out.r 3 rfl) (S.out.r 1 rfl)).mono ?_
  rintro e w1 ⟨rfl,bb⟩;have T:=(S.out.call bb);clear bb S;have S:=T;clear T;obtain⟨c_y0,c_y1,c_y2,f_y0,f_y1,f_y2⟩:=S.cf3 0 rfl;obtain⟨c_x0,c_x1,c_x2,f_x0,f_x1,f_x2⟩:=S.cf3 1 rfl;have hz:w.heap.size+1<w1.heap.size:=S.lt 0 rfl;replace S:=Lib.hid S;clear hS
  go_wp2_with fail
  refine (hT.out _ (S.out.r 2 rfl) (S.out.r 0 rfl)).mono ?_
  rintro e w2 ⟨rfl,bb⟩;have T:=(S.out.call bb);clear bb S c_y0 f_y0 c_y1 f_y1 c_y2 f_y2 c_x0 f_x0 c_x1 f_x1 c_x2 f_x2 hz;have S:=T;clear T;obtain⟨c_y0,c_y1,c_y2,f_y0,f_y1,f_y2⟩:=S.cf3 0 rfl;obtain⟨c_x0,c_x1,c_x2,f_x0,f_x1,f_x2⟩:=S.cf3 1 rfl;have hz:w.heap.size+1<w2.heap.size:=S.lt 0 rfl;replace S:=Lib.hid S;clear hT;have B:=Lib.hid S.out.bel;go_wp2;go_ret;exact⟨rfl,B.out⟩
end Go.Proofs.YthlinhconnmbcaaGreat
namespace Go.Proofs.YthlinhconnmbcaaGreat
open Go.RowKit RQ
theorem res_rtake (W:World) (tmps:Array Value) (g t:Nat) {v0 v1 v2:Value} (ht:tmps.getD 2 undef=.pointer (some ⟨g,0,none⟩)) (h:Cb W g #[v0,v1,v2] t) :
  (results Tryz.f44 tmps).run Tryz.prog W=.ok (.agg #[v0,v1,v2]) W:=by
 have c0:W.cell? ⟨g,0,none⟩=some v0:=h.cell rfl;have c1:W.cell? ⟨g,1,none⟩=some v1:=h.cell rfl;have c2:W.cell? ⟨g,2,none⟩=some v2:=h.cell rfl;have ht':tmps[2]?.getD undef=.pointer (some ⟨g,0,none⟩):=by rw[←ht];simp[Array.getD_eq_getD_getElem?]
 simp[results,Tryz.results44,go_sem,ht',c0,c1,c2]
theorem num_dn (q:Rat):limbs (num (dn q))=dn q:=by
 unfold dn
 split
 ·rw[show num []=0 from rfl,limbs_zero]
 ·rw[show num (limbs q.den)=val (limbs q.den) by unfold num;rw[vldB_limbs];rfl,val_limbs]
theorem rtakeR_any (b:Bool) (A:Option Addr) (n c:Nat) (xs:List Nat) (D:Option Addr) (m d:Nat) (ds:List Nat) (w:World) (R1:Rd w A n c xs) (R2:Rd w D m d ds) (hn:n≤20000000) (hm:m≤20000000):Calls Tryz.prog 44 #[.agg #[.bool b,.slice A n c,.slice D m d]] w (RetR (rv b xs ds) w):=by
 have hV:=fun W q1 q2=>rvalidR_any b A n c xs D m d ds W q1 q2 (by omega) (by omega)
 have S:=(((((St.new w).read R1).read R2).allocAt (w.heap.size) #[.bool b,.slice A n c,.slice D m d] 33 (noL3 _ _ _ _ _ _ _) (by simp)).allocAt (w.heap.size+1) #[.bool false,.slice none 0 0,.slice none 0 0] 33 (noL3 _ _ _ _ _ _ _) (by simp))
 replace S:=Lib.hid S
 cases hv:vldR b xs ds
 ·rw[hv] at hV
  rw[rv_no hv];replace hV:=Lib.hid hV;clear hv R1 R2 hn hm;go_enter Tryz.func44,Tryz.ntmps44
  go_wp2_with fail
  refine (hV.out _ (S.out.r 1 rfl) (S.out.r 0 rfl)).mono ?_
  rintro e w1 ⟨rfl,bb⟩;have T:=(S.out.call bb);clear bb S;have S:=T;clear T;obtain⟨c_r0,c_r1,c_r2,f_r0,f_r1,f_r2⟩:=S.cf3 0 rfl;obtain⟨c_x0,c_x1,c_x2,f_x0,f_x1,f_x2⟩:=S.cf3 1 rfl;have hz:w.heap.size+1<w1.heap.size:=S.lt 0 rfl;replace S:=Lib.hid S;clear hV;have S:St w _ [(w.heap.size+1,#[.bool false,.slice none 0 0,.slice none 0 0],33),(w.heap.size,#[.bool b,.slice A n c,.slice D m d],33)] [(D,m,d,ds),(A,n,c,xs)]:=(((S.out.set 0 0 (.bool false) rfl (by nofun)).set 0 1 (.slice none 0 0) rfl (by nofun)).set 0 2 (.slice none 0 0) rfl (by nofun))
  replace S:=Lib.hid S;go_wp2;refine bodyPost_ret (res_rtake _ _ (w.heap.size+1) 33 rfl (S.out.bk _ (List.mem_of_getElem? (i:=0) rfl)).1) rfl ?_
  exact⟨_,_,_,_,_,_,rfl,zero_RR _ _ _ _ _,S.out.bel⟩
 rw[hv] at hV;obtain⟨e1,e2,e3⟩:=canonR R1.sm R2.sm hv;generalize rv b xs ds=q at *;subst e1;subst e2;subst e3;have h2:Hid (∀ W,Rd W A n c (limbs q.num.natAbs)→Calls Tryz.prog 67 #[.agg #[.bool (ng q.num),.slice A n c]] W (RetI q.num W)):=Lib.hid fun W p=>by
  have:=takeI_any (ng q.num) A n c _ W p (by omega)
  rwa [iv_z] at this
 have h1:Hid (∀ W,Rd W D m d (dn q)→Calls Tryz.prog 68 #[.slice D m d] W fun e w'=>∃ A' n' c',e=.returned (.slice A' n' c')∧Rd w' A' n' c' (dn q)∧Below W.heap.size W w'):=Lib.hid fun W p=>(take_any D m d _ W p (by omega)).mono fun e w' h=>by
  obtain⟨A',n',c',he,hr,hb,_⟩:=h;rw[num_dn] at hr;exact⟨A',n',c',he,hr,hb⟩
 replace hV:=Lib.hid hV;clear hv R1 R2 hn hm;go_enter Tryz.func44,Tryz.ntmps44
 go_wp2_with fail
 refine (hV.out _ (S.out.r 1 rfl) (S.out.r 0 rfl)).mono ?_
 rintro e w1 ⟨rfl,bb⟩;have T:=(S.out.call bb);clear bb S;have S:=T;clear T;obtain⟨c_r0,c_r1,c_r2,f_r0,f_r1,f_r2⟩:=S.cf3 0 rfl;obtain⟨c_x0,c_x1,c_x2,f_x0,f_x1,f_x2⟩:=S.cf3 1 rfl;have hz:w.heap.size+1<w1.heap.size:=S.lt 0 rfl;replace S:=Lib.hid S;clear hV;go_upto_region 3 with fail
 clear c_r0 f_r0 c_r1 f_r1 c_r2 f_r2 c_x0 f_x0 c_x1 f_x1 c_x2 f_x2 hz;refine RW.begin (Z:=[]) (S:=(fun W=>Cb W (w.heap.size) #[.bool (ng q.num),.slice A n c,.slice D m d] 33)) (by kernel_rfl) ?_ S.out ?_
 ·exact⟨by kernel_rfl,zis_nil,by decide,by decide,nol_nil,(fun _ _ h=>h.kb 1 rfl)⟩
 intro hzk;clear S;refine RW.t (i:=0) (v:=.pointer (some ⟨w.heap.size,0,none⟩)) (some 7) at0 (hy:=fun _ _=>by kernel_rfl) (h:=?_)
 refine RW.t (i:=1) (v:=.agg #[.bool (ng q.num),.slice A n c]) (some 8) at1 (hy:=fun W hS=>by (have k0:=Cb.cell (i:=0) hS rfl;have k1:=Cb.cell (i:=1) hS rfl;clear hS;go_simp)) (h:=?_)
 refine RW.t (i:=3) (v:=.pointer (some ⟨w.heap.size,2,none⟩)) (some 10) at3 (hy:=fun _ _=>by kernel_rfl) (h:=?_)
 refine RW.t (i:=4) (v:=.slice D m d) (some 11) at4 (hy:=fun W hS=>by (have k2:=Cb.cell (i:=2) hS rfl;clear hS;go_simp)) (h:=?_)
 refine RW.c (i:=2) (args:=#[.agg #[.bool (ng q.num),.slice A n c]]) (some 9) hzk.out at2 (hx:=fun _=>by kernel_rfl) (h:=fun _ S=>(h2.out _ (S.r 1 rfl)).mono ?_)
 rintro e w2 ⟨A1,n1,c1,rfl,Q1,bb⟩;refine⟨bb,_,[(A1,n1,c1,limbs q.num.natAbs)],rfl,(rd_cons Q1 rd_nil),?_⟩
 clear bb S Q1;refine RW.c (i:=5) (args:=#[.slice D m d]) (some 12) hzk.out at5 (hx:=fun _=>by kernel_rfl) (h:=fun _ S=>(h1.out _ (S.r 1 rfl)).mono ?_)
 rintro e w3 ⟨D2,m2,d2,rfl,Q2,bb⟩;refine⟨bb,_,[(D2,m2,d2,dn q)],rfl,(rd_cons Q2 rd_nil),?_⟩
 clear bb S Q2;refine RW.t (i:=6) (v:=.agg #[.bool (ng q.num),.slice A1 n1 c1,.slice D2 m2 d2]) (some 13) at6 (hy:=fun _ _=>by kernel_rfl) (h:=?_)
 refine RW.tail hzk.out (by kernel_rfl) ?_
 intro gs w4 hgs hS S;obtain rfl:=len0 hgs;clear hS hgs hzk;simp only[mark,fill,Act.put,sZ0,sZ1,sZ2];replace S:=Lib.hid S;refine Wk.o (i:=7) at7 (by kernel_rfl) fun K' hK=>?_
 have q7_r0:=St.cl (S.out) 0 0 rfl rfl;have q7_r1:=St.cl (S.out) 0 1 rfl rfl;have q7_r2:=St.cl (S.out) 0 2 rfl rfl;have q7z_r0:=St.f (S.out) 0 0 rfl;have q7z_r1:=St.f (S.out) 0 1 rfl;have q7z_r2:=St.f (S.out) 0 2 rfl
 go_simp
 have SN:=(((S.out.set 0 0 (.bool (ng q.num)) rfl (by nofun)).set 0 1 (.slice A1 n1 c1) rfl (by nofun)).set 0 2 (.slice D2 m2 d2) rfl (by nofun))
 clear S q7_r0 q7_r1 q7_r2 q7z_r0 q7z_r1 q7z_r2;have S:=SN;clear SN;refine hK.out _ _ (S.cb 1 rfl) ?_
 clear hK K';replace S:=Lib.hid S
 try simp only[Act.put,sZ0,sZ1,sZ2]
 refine Wk.done (by kernel_rfl) ?_
 go_simp
 replace S:=S.out;have S:St w _ [(w.heap.size+1,#[.bool (ng q.num),.slice A1 n1 c1,.slice D2 m2 d2],33),(w.heap.size,#[.bool (ng q.num),.slice A n c,.slice D m d],33)] [(D2,m2,d2,dn q),(A1,n1,c1,limbs q.num.natAbs),(D,m,d,dn q),(A,n,c,limbs q.num.natAbs)]:=S;generalize hW5:(World.setCell (World.setCell (World.setCell w4 ⟨w.heap.size+1,0,none⟩ (.bool (ng q.num))) ⟨w.heap.size+1,1,none⟩ (.slice A1 n1 c1)) ⟨w.heap.size+1,2,none⟩ (.slice D2 m2 d2))=w5 at S ⊢
 clear hW5;replace S:=Lib.hid S;replace S:=S.out;replace S:=Lib.hid S;have S:=S.out;replace S:=Lib.hid S;go_wp2;refine bodyPost_ret (res_rtake _ _ (w.heap.size+1) 33 rfl (S.out.bk _ (List.mem_of_getElem? (i:=0) rfl)).1) rfl ?_
 exact⟨_,_,_,_,_,_,rfl,⟨S.out.r 1 rfl,S.out.r 0 rfl⟩,S.out.bel⟩
theorem rsignR_any (b:Bool) (A:Option Addr) (n c:Nat) (xs:List Nat) (D:Option Addr) (m d:Nat) (ds:List Nat) (w:World) (R1:Rd w A n c xs) (R2:Rd w D m d ds) (hn:n≤20000000) (hm:m≤20000000):Calls Tryz.prog 16 #[.agg #[.bool b,.slice A n c,.slice D m d]] w (fun e w'=>e=.returned (.int .i64 (rv b xs ds).num.sign)∧Below w.heap.size w w'):=by
 have hT:=Lib.hid (fun W q1 q2=>rtakeR_any b A n c xs D m d ds W q1 q2 hn hm)
 have hs:Rs (rv b xs ds) 20000000:=Rs.of R1.sm R2.sm (by rw[R1.len];exact hn) (by rw[R2.len];exact hm) (by decide)
 generalize rv b xs ds=q at *;have hS:Hid (∀ W A n c,Rd W A n c (limbs q.num.natAbs)→Calls Tryz.prog 48 #[.agg #[.bool (ng q.num),.slice A n c]] W fun e w'=>e=.returned (.int .i64 q.num.sign)∧Below W.heap.size W w'):=Lib.hid fun W A n c p=>by
  have l:n≤20000000:=by rw[←p.len];exact limbs_len_le.2 hs.n
  have:=rsignI_any (ng q.num) A n c _ W p (by omega)
  rwa [iv_z] at this
 have hF:=Lib.hid (fun A n c D m d W=>field_num (ng q.num) A n c D m d W)
 have S:=((((St.new w).read R1).read R2).allocAt (w.heap.size) #[.bool b,.slice A n c,.slice D m d] 33 (noL3 _ _ _ _ _ _ _) (by simp))
 replace S:=Lib.hid S;clear R1 R2 hn hm hs;go_enter Tryz.func16,Tryz.ntmps16
 go_wp2_with fail
 refine (hT.out _ (S.out.r 1 rfl) (S.out.r 0 rfl)).mono ?_
 rintro e w1 ⟨A1,n1,c1,D1,m1,d1,rfl,Q1,bb⟩;have T:=(((S.out.call bb).read Q1.n).read Q1.d);clear bb S;have S:=T;clear T;obtain⟨c_x0,c_x1,c_x2,f_x0,f_x1,f_x2⟩:=S.cf3 0 rfl;have hz:w.heap.size<w1.heap.size:=S.lt 0 rfl;replace S:=Lib.hid S;clear Q1 hT;have hF':=hF.out A1 n1 c1 D1 m1 d1 w1
 go_wp2_with fail
 refine (hS.out _ _ _ _ (S.out.r 1 rfl)).mono ?_
 rintro e w2 ⟨rfl,bb⟩;have T:=(S.out.call bb);clear bb S c_x0 f_x0 c_x1 f_x1 c_x2 f_x2 hz;have S:=T;clear T;obtain⟨c_x0,c_x1,c_x2,f_x0,f_x1,f_x2⟩:=S.cf3 0 rfl;have hz:w.heap.size<w2.heap.size:=S.lt 0 rfl;replace S:=Lib.hid S;clear hS hF hF';have S:=S.out;replace S:=Lib.hid S;go_wp2;go_ret;exact⟨rfl,S.out.bel⟩
theorem sameT (q r:Rat) (he:q=r) (A:Option Addr) (n c:Nat) (D:Option Addr) (m d:Nat) (A':Option Addr) (n' c':Nat) (D':Option Addr) (m' d':Nat) (w:World) (X:RR w A n c D m d q) (Y:RR w A' n' c' D' m' d' r) (hs:Rs q 20000000) (hs':Rs r 20000000) :
  Calls Tryz.prog 14 #[.agg #[.bool (ng q.num),.slice A n c,.slice D m d],.agg #[.bool (ng r.num),.slice A' n' c',.slice D' m' d']] w fun e w'=>e=.returned (.bool true)∧Below w.heap.size w w':=by
 have:=sameQ q r A n c D m d A' n' c' D' m' d' w X Y hs hs'
 rwa [decide_eq_true he] at this
end Go.Proofs.YthlinhconnmbcaaGreat
namespace Go.Proofs.YthlinhconnmbcaaGreat
open Go.RowKit RQ
theorem res_rden (W:World) (tmps:Array Value) (g t:Nat) {v0 v1:Value} (ht:tmps.getD 2 undef=.pointer (some ⟨g,0,none⟩)) (h:Cb W g #[v0,v1] t) :
  (results Tryz.f47 tmps).run Tryz.prog W=.ok (.agg #[v0,v1]) W:=by
 have c0:W.cell? ⟨g,0,none⟩=some v0:=h.cell rfl;have c1:W.cell? ⟨g,1,none⟩=some v1:=h.cell rfl;have ht':tmps[2]?.getD undef=.pointer (some ⟨g,0,none⟩):=by rw[←ht];simp[Array.getD_eq_getD_getElem?]
 simp[results,Tryz.results47,go_sem,ht',c0,c1]
theorem rden_any (q:Rat) (A:Option Addr) (n c:Nat) (D:Option Addr) (m d:Nat) (w:World) (R:RR w A n c D m d q) (hm:m≤1000000000) :
  Calls Tryz.prog 47 #[.agg #[.bool (ng q.num),.slice A n c,.slice D m d]] w (RetU q.den w):=by
 obtain⟨h0,h1⟩:=dn_len0 R.d.len;have R2:=R.d
 by_cases hm0:m=0
 ·have e1:q.den=1:=by have:=h0 hm0;omega
  have h2:((m:Int)==0)=true:=by rw[beq_iff_eq];omega
  have e2:limbs q.den=[1]:=by rw[e1,limbs_is1]
  have S0:St w _ _ _:=(St.new w).allocAt (w.heap.size) #[.bool (ng q.num),.slice A n c,.slice D m d] 33 (noL3 _ _ _ _ _ _ _) rfl;have S1:=S0.allocAt (w.heap.size+1) #[.bool false,.slice (some ⟨w.heap.size+1+1,0,none⟩) 1 1] 31 (noL2 _ _ _ _) (by simp)
  have hb:((w.alloc (.cells #[.bool (ng q.num),.slice A n c,.slice D m d] 33)).alloc (.cells #[.bool false,.slice (some ⟨w.heap.size+1+1,0,none⟩) 1 1] 31)).heap.size=w.heap.size+1+1:=by simp
  have O:=(Own.lit ((w.alloc (.cells #[.bool (ng q.num),.slice A n c,.slice D m d] 33)).alloc (.cells #[.bool false,.slice (some ⟨w.heap.size+1+1,0,none⟩) 1 1] 31)) [1] (by intro x hx;simp at hx;omega)).rd0 1 (Nat.le_refl 1)
  rw[hb] at O;have B2:=(Below.refl ((w.alloc (.cells #[.bool (ng q.num),.slice A n c,.slice D m d] 33)).alloc (.cells #[.bool false,.slice (some ⟨w.heap.size+1+1,0,none⟩) 1 1] 31)).heap.size _).alloc (Nat.le_refl _) (.cells #[.int .u32 1] 92);have S2:=Lib.hid ((S1.call B2).read O);replace e2:=Lib.hid e2;clear R R2 h0 h1 hm0 e1 S0 S1 O B2 hb hm;go_enter Tryz.func47,Tryz.ntmps47;go_wp2;refine bodyPost_ret (res_rden _ _ (w.heap.size+1) 31 rfl (S2.out.bk _ (List.mem_of_getElem? (i:=0) rfl)).1) rfl ?_
  exact⟨_,_,_,rfl,by rw[e2.out];exact S2.out.r 0 rfl,S2.out.bel⟩
 ·have e1:=h1 hm0
  rw[e1] at R2;have h2:((m:Int)==0)=false:=by rw[beq_eq_false_iff_ne];omega
  have hT:=fun W h=>take_any D m d (limbs q.den) W h hm
  rw[num_limbs] at hT;replace hT:=Lib.hid hT;clear h0 h1 hm0 R e1 hm;have S:=((((St.new w).read R2).allocAt (w.heap.size) #[.bool (ng q.num),.slice A n c,.slice D m d] 33 (noL3 _ _ _ _ _ _ _) (by simp)).allocAt (w.heap.size+1) #[.bool false,.slice none 0 0] 31 (noL2 _ _ _ _) (by simp))
  replace S:=Lib.hid S;clear R2;go_enter Tryz.func47,Tryz.ntmps47
  go_wp2_with fail
  refine (hT.out _ (S.out.r 0 rfl)).mono ?_
  rintro e w1 ⟨A1,n1,c1,rfl,Q,bb,_⟩;have T:=((S.out.call bb).read Q);clear bb S;have S:=T;clear T;obtain⟨c_r0,c_r1,f_r0,f_r1⟩:=S.cf2 0 rfl;obtain⟨c_x0,c_x1,c_x2,f_x0,f_x1,f_x2⟩:=S.cf3 1 rfl;have hz:w.heap.size+1<w1.heap.size:=S.lt 0 rfl;replace S:=Lib.hid S;clear Q;have S:St w _ [(w.heap.size+1,#[.bool false,.slice A1 n1 c1],31),(w.heap.size,#[.bool (ng q.num),.slice A n c,.slice D m d],33)] [(A1,n1,c1,limbs q.den),(D,m,d,limbs q.den)]:=((S.out.set 0 0 (.bool false) rfl (by nofun)).set 0 1 (.slice A1 n1 c1) rfl (by nofun))
  replace S:=Lib.hid S;go_wp2;refine bodyPost_ret (res_rden _ _ (w.heap.size+1) 31 rfl (S.out.bk _ (List.mem_of_getElem? (i:=0) rfl)).1) rfl ?_
  exact⟨_,_,_,rfl,S.out.r 0 rfl,S.out.bel⟩
end Go.Proofs.YthlinhconnmbcaaGreat
