/- The reference's Parse of a text without a sign. The reference's Parse of every text; its Format. -/
import Derived.Test.YtdeedofmflelfaaGreatDoorQKaz
namespace Go.Proofs.YtdeedofmflelfaaGreatDoor
open Go.RowKit RQ
set_option linter.unusedVariables false
theorem dcq_yes {s:ByteArray} (h:pdok s=true):dcq s=(pdval s:Rat) / (10:Rat)^(pdpl s):=by
 unfold dcq;rw[h,if_pos rfl,divInt_ten]
theorem psq_plain {s:ByteArray} (h:hasE s.data.toList=false):psok s=pdok (pM s)∧psq s=dcq (pM s):=by
 have e1:psok s=pdok (pM s):=by unfold psok;rw[h];rfl
 refine⟨e1,?_⟩
 unfold psq
 rw[e1]
 cases hd:pdok (pM s)
 ·unfold dcq;rw[hd];rfl
 ·rw[if_pos rfl,dcq_yes hd,show psx s=0 from by unfold psx;rw[h];rfl]
  have:=qscale_down (pdval (pM s)) (pdpl (pM s)) 0
  rw[show (-((0:Nat):Int)-(pdpl (pM s):Int))=0-(pdpl (pM s):Int) by omega] at this
  rw[this,Rat.pow_zero]
  grind
theorem psq_exp {s:ByteArray} (h:hasE s.data.toList=true) (hd:pdok (pM s)=true) (hx:xok (pX s)=true):psok s=true∧psq s=(if hm (pX s)=true then dcq (pM s) / p10q (ndec (rest (pX s))) else dcq (pM s)*p10q (ndec (rest (pX s)))):=by
 have e1:psok s=true:=by unfold psok;rw[h,hd,hx];rfl
 refine⟨e1,?_⟩
 unfold psq
 rw[e1,if_pos rfl,dcq_yes hd]
 unfold psx xval p10q
 rw[h,hx,if_pos rfl,if_pos rfl,ten_cast]
 split
 ·exact qscale_down _ _ _
 ·exact qscale_up _ _ _
theorem psq_bad {s:ByteArray} (h:psok s=false):psq s=0:=by unfold psq;rw[h];rfl
theorem dcq_bad {s:ByteArray} (h:pdok s=false):dcq s=0:=by unfold dcq;rw[h];rfl
theorem dcq_size {s:ByteArray} (hs:s.size≤300):Rs (dcq s) 40:=by
 unfold dcq
 split
 ·have h1:=limbs_len_le.1 (pow10_l32 (k:=pdpl s) (by have:=pdpl_le s;omega))
  have h5:=limbs_len_le.1 (pow10_l32 (k:=s.size) hs)
  have h2:pdval s<10^s.size:=by
   have hk:pdok s=true:=by assumption
   have:=pd_size s
   unfold pdval;rw[hk,if_pos rfl]
   refine Nat.lt_of_lt_of_le (dval_lt (pd_all hk)) (Nat.pow_le_pow_right (by decide) ?_)
   rw[List.length_append,toList_len,toList_len];omega
  have h4:(4294967296:Nat)^32≤4294967296^40:=pow_mono (by decide)
  exact Rs.divInt (p10p _) (by rw[Int.natAbs_natCast];omega) (by rw[Int.natAbs_natCast];omega)
 ·exact⟨by decide,by decide⟩
theorem res_rParse (W:World) (tmps:Array Value) (g t:Nat) {v0 v1 v2 e0:Value} (ht:tmps.getD 2 undef=.pointer (some ⟨g,0,none⟩)) (h0:tmps.getD 3 undef=e0) (h:Cb W g #[v0,v1,v2] t) :
  (results Tryz.f92 tmps).run Tryz.prog W=.ok (.tuple #[.agg #[v0,v1,v2],e0]) W:=by
 have c0:W.cell? ⟨g,0,none⟩=some v0:=h.cell rfl
 have c1:W.cell? ⟨g,1,none⟩=some v1:=h.cell rfl
 have c2:W.cell? ⟨g,2,none⟩=some v2:=h.cell rfl
 have ht':tmps[2]?.getD undef=.pointer (some ⟨g,0,none⟩):=by rw[←ht];simp[Array.getD_eq_getD_getElem?]
 have k0:tmps[3]?.getD undef=e0:=by rw[←h0];simp[Array.getD_eq_getD_getElem?]
 simp[results,Tryz.results92,go_sem,ht',k0,c0,c1,c2]
set_option maxRecDepth 100000 in
set_option maxHeartbeats 8000000 in
theorem rparse_slash (s:ByteArray) (w:World) (hs:s.size≤300) (hh:hm s=false) (hb:hasB 47 s.data.toList=true):Calls Tryz.prog 92 #[.string s] w (RetRE (p1q s) (.bool (p1ok s)) w):=by
 have h0:0<s.size:=by
  rcases Nat.eq_zero_or_pos s.size with h | h
  ·rw[←toList_len,List.length_eq_zero_iff] at h
   rw[h] at hb;cases hb
  ·exact h
 have heq:(((s[0]).toNat:Int)==45)=false:=by
  rw[beq_eq_false_iff_ne];have:=hm_not hh h0;omega
 have hz0:(0:Int)<(s.size:Int):=by omega
 have hC:=fun W=>rcut_any s ⟨#[47]⟩ W (by omega) (by decide)
 obtain⟨e1,e2,e3⟩:=cutA_47 s
 rw[e1,e2,e3,hb,if_pos rfl,if_pos rfl,if_pos rfl] at hC
 obtain⟨l1,l2⟩:=bef_size 47 s hb
 have p1:p1ok s=fok (bs (bef 47 s.data.toList)) (bs (aft 47 s.data.toList)):=by unfold p1ok;rw[hb];rfl
 have p2:p1q s=fq (bs (bef 47 s.data.toList)) (bs (aft 47 s.data.toList)):=by unfold p1q;rw[hb];rfl
 rw[p1,p2]
 generalize bs (bef 47 s.data.toList)=X at *
 generalize bs (aft 47 s.data.toList)=Y at *
 generalize ((bef 47 s.data.toList).length)=z at *
 have hz1:(0:Int)≤(z:Int):=by omega
 have hN:=fun W=>rparse_n X W
 have hD:=fun W=>rparse_n Y W
 have lx:=Lib.hid (Nat.le_trans (ndec_len X) l1)
 have ly:=Lib.hid (Nat.le_trans (ndec_len Y) l2)
 have hok:fok X Y=(isDec X&&isDec Y && !(ndec Y==0)):=rfl
 have hqn:fok X Y=false→fq X Y=0:=fun h=>by unfold fq;rw[h];rfl
 have hqy:fok X Y=true→fq X Y=Rat.divInt (ndec X:Int) (ndec Y:Int):=fun h=>by unfold fq;rw[h,if_pos rfl]
 have hsl:=Lib.hid hs
 clear e1 e2 e3 p1 p2 hh hb hs l1 l2
 replace hC:=Lib.hid hC
 have S:=((St.new w).allocAt (w.heap.size) #[.bool false,.slice none 0 0,.slice none 0 0] 46 (noL3 _ _ _ _ _ _ _) (by simp))
 replace S:=Lib.hid S
 cases hx:isDec X
 ·rw[hx] at hN
  cases hy:isDec Y
  ·rw[hy] at hD
   have hf:fok X Y=false:=by rw[hok,hx,hy];rfl
   rw[hf,hqn hf]
   clear hok hqn hqy hf hx hy
   replace hN:=Lib.hid hN
   replace hD:=Lib.hid hD
   go_enter Tryz.func92,Tryz.ntmps92
   go_wp2_with fail
   refine (hC.out _).mono ?_
   rintro e w1 ⟨rfl,bb⟩
   have T:=(S.out.call bb)
   clear bb S
   have S:=T
   clear T
   obtain⟨c_r0,c_r1,c_r2,f_r0,f_r1,f_r2⟩:=S.cf3 0 rfl
   have hz:w.heap.size<w1.heap.size:=S.lt 0 rfl
   replace S:=Lib.hid S
   clear hC
   go_wp2_with fail
   refine (hN.out _).mono ?_
   rintro e w2 ⟨A1,n1,c1,rfl,Q,bb⟩
   have T:=((S.out.call bb).read Q)
   clear bb S c_r0 f_r0 c_r1 f_r1 c_r2 f_r2 hz
   have S:=T
   clear T
   obtain⟨c_r0,c_r1,c_r2,f_r0,f_r1,f_r2⟩:=S.cf3 0 rfl
   have hz:w.heap.size<w2.heap.size:=S.lt 0 rfl
   replace S:=Lib.hid S
   clear Q hN
   go_wp2_with fail
   refine (hD.out _).mono ?_
   rintro e w3 ⟨A2,n2,c2,rfl,Q,bb⟩
   have T:=((S.out.call bb).read Q)
   clear bb S c_r0 f_r0 c_r1 f_r1 c_r2 f_r2 hz
   have S:=T
   clear T
   obtain⟨c_r0,c_r1,c_r2,f_r0,f_r1,f_r2⟩:=S.cf3 0 rfl
   have hz:w.heap.size<w3.heap.size:=S.lt 0 rfl
   replace S:=Lib.hid S
   clear Q hD
   have S:St w _ [(w.heap.size,#[.bool false,.slice none 0 0,.slice none 0 0],46)] [(A2,n2,c2,limbs (ndec Y)),(A1,n1,c1,limbs (ndec X))]:=(((S.out.set 0 0 (.bool false) rfl (by nofun)).set 0 1 (.slice none 0 0) rfl (by nofun)).set 0 2 (.slice none 0 0) rfl (by nofun))
   replace S:=Lib.hid S
   go_wp2
   refine bodyPost_ret (res_rParse _ _ (w.heap.size) 46 rfl rfl (S.out.bk _ (List.mem_of_getElem? (i:=0) rfl)).1) rfl ?_
   exact⟨none,0,0,none,0,0,rfl,zero_RR _ _ _ _ _,S.out.bel⟩
  ·rw[hy] at hD
   have hf:fok X Y=false:=by rw[hok,hx,hy];rfl
   rw[hf,hqn hf]
   clear hok hqn hqy hf hx hy
   replace hN:=Lib.hid hN
   replace hD:=Lib.hid hD
   go_enter Tryz.func92,Tryz.ntmps92
   go_wp2_with fail
   refine (hC.out _).mono ?_
   rintro e w1 ⟨rfl,bb⟩
   have T:=(S.out.call bb)
   clear bb S
   have S:=T
   clear T
   obtain⟨c_r0,c_r1,c_r2,f_r0,f_r1,f_r2⟩:=S.cf3 0 rfl
   have hz:w.heap.size<w1.heap.size:=S.lt 0 rfl
   replace S:=Lib.hid S
   clear hC
   go_wp2_with fail
   refine (hN.out _).mono ?_
   rintro e w2 ⟨A1,n1,c1,rfl,Q,bb⟩
   have T:=((S.out.call bb).read Q)
   clear bb S c_r0 f_r0 c_r1 f_r1 c_r2 f_r2 hz
   have S:=T
   clear T
   obtain⟨c_r0,c_r1,c_r2,f_r0,f_r1,f_r2⟩:=S.cf3 0 rfl
   have hz:w.heap.size<w2.heap.size:=S.lt 0 rfl
   replace S:=Lib.hid S
   clear Q hN
   go_wp2_with fail
   refine (hD.out _).mono ?_
   rintro e w3 ⟨A2,n2,c2,rfl,Q,bb⟩
   have T:=((S.out.call bb).read Q)
   clear bb S c_r0 f_r0 c_r1 f_r1 c_r2 f_r2 hz
   have S:=T
   clear T
   obtain⟨c_r0,c_r1,c_r2,f_r0,f_r1,f_r2⟩:=S.cf3 0 rfl
   have hz:w.heap.size<w3.heap.size:=S.lt 0 rfl
   replace S:=Lib.hid S
   clear Q hD
   have S:St w _ [(w.heap.size,#[.bool false,.slice none 0 0,.slice none 0 0],46)] [(A2,n2,c2,limbs (ndec Y)),(A1,n1,c1,limbs (ndec X))]:=(((S.out.set 0 0 (.bool false) rfl (by nofun)).set 0 1 (.slice none 0 0) rfl (by nofun)).set 0 2 (.slice none 0 0) rfl (by nofun))
   replace S:=Lib.hid S
   go_wp2
   refine bodyPost_ret (res_rParse _ _ (w.heap.size) 46 rfl rfl (S.out.bk _ (List.mem_of_getElem? (i:=0) rfl)).1) rfl ?_
   exact⟨none,0,0,none,0,0,rfl,zero_RR _ _ _ _ _,S.out.bel⟩
 ·rw[hx] at hN
  cases hy:isDec Y
  ·rw[hy] at hD
   have hf:fok X Y=false:=by rw[hok,hx,hy];rfl
   rw[hf,hqn hf]
   clear hok hqn hqy hf hx hy
   replace hN:=Lib.hid hN
   replace hD:=Lib.hid hD
   go_enter Tryz.func92,Tryz.ntmps92
   go_wp2_with fail
   refine (hC.out _).mono ?_
   rintro e w1 ⟨rfl,bb⟩
   have T:=(S.out.call bb)
   clear bb S
   have S:=T
   clear T
   obtain⟨c_r0,c_r1,c_r2,f_r0,f_r1,f_r2⟩:=S.cf3 0 rfl
   have hz:w.heap.size<w1.heap.size:=S.lt 0 rfl
   replace S:=Lib.hid S
   clear hC
   go_wp2_with fail
   refine (hN.out _).mono ?_
   rintro e w2 ⟨A1,n1,c1,rfl,Q,bb⟩
   have T:=((S.out.call bb).read Q)
   clear bb S c_r0 f_r0 c_r1 f_r1 c_r2 f_r2 hz
   have S:=T
   clear T
   obtain⟨c_r0,c_r1,c_r2,f_r0,f_r1,f_r2⟩:=S.cf3 0 rfl
   have hz:w.heap.size<w2.heap.size:=S.lt 0 rfl
   replace S:=Lib.hid S
   clear Q hN
   go_wp2_with fail
   refine (hD.out _).mono ?_
   rintro e w3 ⟨A2,n2,c2,rfl,Q,bb⟩
   have T:=((S.out.call bb).read Q)
   clear bb S c_r0 f_r0 c_r1 f_r1 c_r2 f_r2 hz
   have S:=T
   clear T
   obtain⟨c_r0,c_r1,c_r2,f_r0,f_r1,f_r2⟩:=S.cf3 0 rfl
   have hz:w.heap.size<w3.heap.size:=S.lt 0 rfl
   replace S:=Lib.hid S
   clear Q hD
   have S:St w _ [(w.heap.size,#[.bool false,.slice none 0 0,.slice none 0 0],46)] [(A2,n2,c2,limbs (ndec Y)),(A1,n1,c1,limbs (ndec X))]:=(((S.out.set 0 0 (.bool false) rfl (by nofun)).set 0 1 (.slice none 0 0) rfl (by nofun)).set 0 2 (.slice none 0 0) rfl (by nofun))
   replace S:=Lib.hid S
   go_wp2
   refine bodyPost_ret (res_rParse _ _ (w.heap.size) 46 rfl rfl (S.out.bk _ (List.mem_of_getElem? (i:=0) rfl)).1) rfl ?_
   exact⟨none,0,0,none,0,0,rfl,zero_RR _ _ _ _ _,S.out.bel⟩
  ·rw[hy] at hD
   by_cases hyz:ndec Y=0
   ·have hf:fok X Y=false:=by rw[hok,hx,hy,hyz];rfl
    rw[hf,hqn hf]
    clear hok hqn hqy hf hx hy
    replace hN:=Lib.hid hN
    replace hD:=Lib.hid hD
    go_enter Tryz.func92,Tryz.ntmps92
    go_wp2_with fail
    refine (hC.out _).mono ?_
    rintro e w1 ⟨rfl,bb⟩
    have T:=(S.out.call bb)
    clear bb S
    have S:=T
    clear T
    obtain⟨c_r0,c_r1,c_r2,f_r0,f_r1,f_r2⟩:=S.cf3 0 rfl
    have hz:w.heap.size<w1.heap.size:=S.lt 0 rfl
    replace S:=Lib.hid S
    clear hC
    go_wp2_with fail
    refine (hN.out _).mono ?_
    rintro e w2 ⟨A1,n1,c1,rfl,Q,bb⟩
    have T:=((S.out.call bb).read Q)
    clear bb S c_r0 f_r0 c_r1 f_r1 c_r2 f_r2 hz
    have S:=T
    clear T
    obtain⟨c_r0,c_r1,c_r2,f_r0,f_r1,f_r2⟩:=S.cf3 0 rfl
    have hz:w.heap.size<w2.heap.size:=S.lt 0 rfl
    replace S:=Lib.hid S
    clear Q hN
    go_wp2_with fail
    refine (hD.out _).mono ?_
    rintro e w3 ⟨A2,n2,c2,rfl,Q,bb⟩
    have T:=((S.out.call bb).read Q)
    clear bb S c_r0 f_r0 c_r1 f_r1 c_r2 f_r2 hz
    have S:=T
    clear T
    have hn2:((n2:Int)==0)=true:=by rw[beq_iff_eq,←Q.len,hyz,limbs_zero];rfl
    obtain⟨c_r0,c_r1,c_r2,f_r0,f_r1,f_r2⟩:=S.cf3 0 rfl
    have hz:w.heap.size<w3.heap.size:=S.lt 0 rfl
    replace S:=Lib.hid S
    clear Q hD
    have S:St w _ [(w.heap.size,#[.bool false,.slice none 0 0,.slice none 0 0],46)] [(A2,n2,c2,limbs (ndec Y)),(A1,n1,c1,limbs (ndec X))]:=(((S.out.set 0 0 (.bool false) rfl (by nofun)).set 0 1 (.slice none 0 0) rfl (by nofun)).set 0 2 (.slice none 0 0) rfl (by nofun))
    replace S:=Lib.hid S
    go_wp2
    refine bodyPost_ret (res_rParse _ _ (w.heap.size) 46 rfl rfl (S.out.bk _ (List.mem_of_getElem? (i:=0) rfl)).1) rfl ?_
    exact⟨none,0,0,none,0,0,rfl,zero_RR _ _ _ _ _,S.out.bel⟩
   ·have hf:fok X Y=true:=by rw[hok,hx,hy,beq_eq_false_iff_ne.2 hyz];rfl
    rw[hf,hqy hf]
    have hO:Hid (∀ W A n c A' n' c',Rd W A n c (limbs (ndec X))→Rd W A' n' c' (limbs (ndec Y))→Calls Tryz.prog 69 #[.agg #[.bool false,.slice A n c],.agg #[.bool false,.slice A' n' c']] W (RetR (Rat.divInt (ndec X:Int) (ndec Y:Int)) W)):=Lib.hid fun W A n c A' n' c' q1 q2=>rover_uu _ _ W A n c A' n' c' q1 q2 (by have:=lx.out;have:=hsl.out;omega) (by have:=ly.out;have:=hsl.out;omega) (Nat.pos_of_ne_zero hyz)
    generalize Rat.divInt (ndec X:Int) (ndec Y:Int)=q at *
    replace hyz:=Lib.hid hyz
    clear hok hqn hqy hf hx hy
    replace hN:=Lib.hid hN
    replace hD:=Lib.hid hD
    go_enter Tryz.func92,Tryz.ntmps92
    go_wp2_with fail
    refine (hC.out _).mono ?_
    rintro e w1 ⟨rfl,bb⟩
    have T:=(S.out.call bb)
    clear bb S
    have S:=T
    clear T
    obtain⟨c_r0,c_r1,c_r2,f_r0,f_r1,f_r2⟩:=S.cf3 0 rfl
    have hz:w.heap.size<w1.heap.size:=S.lt 0 rfl
    replace S:=Lib.hid S
    clear hC
    go_wp2_with fail
    refine (hN.out _).mono ?_
    rintro e w2 ⟨A1,n1,c1,rfl,Q,bb⟩
    have T:=((S.out.call bb).read Q)
    clear bb S c_r0 f_r0 c_r1 f_r1 c_r2 f_r2 hz
    have S:=T
    clear T
    obtain⟨c_r0,c_r1,c_r2,f_r0,f_r1,f_r2⟩:=S.cf3 0 rfl
    have hz:w.heap.size<w2.heap.size:=S.lt 0 rfl
    replace S:=Lib.hid S
    clear Q hN
    go_wp2_with fail
    refine (hD.out _).mono ?_
    rintro e w3 ⟨A2,n2,c2,rfl,Q,bb⟩
    have T:=((S.out.call bb).read Q)
    clear bb S c_r0 f_r0 c_r1 f_r1 c_r2 f_r2 hz
    have S:=T
    clear T
    have hn2:((n2:Int)==0)=false:=by
     rw[beq_eq_false_iff_ne,←Q.len]
     intro h
     exact hyz.out (limbs_inj1 ((List.length_eq_zero_iff.1 (by omega)).trans limbs_zero.symm))
    obtain⟨c_r0,c_r1,c_r2,f_r0,f_r1,f_r2⟩:=S.cf3 0 rfl
    have hz:w.heap.size<w3.heap.size:=S.lt 0 rfl
    replace S:=Lib.hid S
    clear Q hD
    go_wp2_with fail
    refine (hO.out _ _ _ _ _ _ _ (S.out.r 1 rfl) (S.out.r 0 rfl)).mono ?_
    rintro e w4 ⟨A9,n9,c9,D9,m9,d9,rfl,Q,bb⟩
    have T:=(((S.out.call bb).read Q.n).read Q.d)
    clear bb S c_r0 f_r0 c_r1 f_r1 c_r2 f_r2 hz
    have S:=T
    clear T
    obtain⟨c_r0,c_r1,c_r2,f_r0,f_r1,f_r2⟩:=S.cf3 0 rfl
    have hz:w.heap.size<w4.heap.size:=S.lt 0 rfl
    replace S:=Lib.hid S
    clear Q
    have S:St w _ [(w.heap.size,#[.bool (ng q.num),.slice A9 n9 c9,.slice D9 m9 d9],46)] [(D9,m9,d9,dn q),(A9,n9,c9,limbs q.num.natAbs),(A2,n2,c2,limbs (ndec Y)),(A1,n1,c1,limbs (ndec X))]:=(((S.out.set 0 0 (.bool (ng q.num)) rfl (by nofun)).set 0 1 (.slice A9 n9 c9) rfl (by nofun)).set 0 2 (.slice D9 m9 d9) rfl (by nofun))
    replace S:=Lib.hid S
    go_wp2
    refine bodyPost_ret (res_rParse _ _ (w.heap.size) 46 rfl rfl (S.out.bk _ (List.mem_of_getElem? (i:=0) rfl)).1) rfl ?_
    exact⟨_,_,_,_,_,_,rfl,⟨S.out.r 1 rfl,S.out.r 0 rfl⟩,S.out.bel⟩
set_option maxRecDepth 100000 in
set_option maxHeartbeats 8000000 in
theorem rparse_plain (s:ByteArray) (w:World) (hs:s.size≤300) (hh:hm s=false) (hb:hasB 47 s.data.toList=false):Calls Tryz.prog 92 #[.string s] w (RetRE (p1q s) (.bool (p1ok s)) w):=by
 have hC:=fun W=>rcut_any s ⟨#[47]⟩ W (by omega) (by decide)
 obtain⟨e1,e2,e3⟩:=cutA_47 s
 rw[e1,e2,e3,hb,if_neg (by simp),if_neg (by simp),if_neg (by simp)] at hC
 have hE:=fun W=>rcut_any s ⟨#[101,69]⟩ W (by omega) (by decide)
 obtain⟨f1,f2,f3⟩:=cutA_E s
 rw[f1,f2,f3] at hE
 have p1:p1ok s=psok s:=by unfold p1ok;rw[hb];rfl
 have p2:p1q s=psq s:=by unfold p1q;rw[hb];rfl
 rw[p1,p2]
 have hMs:=pM_size s
 have hDc:=Lib.hid (fun W=>rdecimal_any (pM s) W (by omega))
 replace hC:=Lib.hid hC
 clear e1 e2 e3 f1 f2 f3 p1 p2 hb
 have S:=((St.new w).allocAt (w.heap.size) #[.bool false,.slice none 0 0,.slice none 0 0] 46 (noL3 _ _ _ _ _ _ _) (by simp))
 replace S:=Lib.hid S
 cases he:hasE s.data.toList
 ·obtain⟨g1,g2⟩:=psq_plain he
  rw[g1,g2]
  rw[he,if_neg (by simp),if_neg (by simp)] at hE
  generalize pM s=M at *
  unfold RetRE at hDc
  generalize dcq M=dq at *
  generalize pdok M=dk at *
  replace hE:=Lib.hid hE
  clear he g1 g2 hMs
  rcases Nat.eq_zero_or_pos s.size with h0 | h0
  ·have hx:True:=trivial
   have hz0:¬ (0:Int)<(s.size:Int):=by omega
   have hz0':decide ((0:Int)<(s.size:Int))=false:=decide_eq_false hz0
   clear hh hs
   go_enter Tryz.func92,Tryz.ntmps92
   go_wp2_with fail
   refine (hC.out _).mono ?_
   rintro e w1 ⟨rfl,bb⟩
   have T:=(S.out.call bb)
   clear bb S
   have S:=T
   clear T
   obtain⟨c_r0,c_r1,c_r2,f_r0,f_r1,f_r2⟩:=S.cf3 0 rfl
   have hz:w.heap.size<w1.heap.size:=S.lt 0 rfl
   replace S:=Lib.hid S
   clear hC
   go_wp2_with fail
   refine (hE.out _).mono ?_
   rintro e w2 ⟨rfl,bb⟩
   have T:=(S.out.call bb)
   clear bb S c_r0 f_r0 c_r1 f_r1 c_r2 f_r2 hz
   have S:=T
   clear T
   obtain⟨c_r0,c_r1,c_r2,f_r0,f_r1,f_r2⟩:=S.cf3 0 rfl
   have hz:w.heap.size<w2.heap.size:=S.lt 0 rfl
   replace S:=Lib.hid S
   clear hE
   go_wp2_with fail
   refine (hDc.out _).mono ?_
   rintro e w3 ⟨A1,n1,c1,D1,m1,d1,rfl,Q,bb⟩
   have T:=(((S.out.call bb).read Q.n).read Q.d)
   clear bb S c_r0 f_r0 c_r1 f_r1 c_r2 f_r2 hz
   have S:=T
   clear T
   obtain⟨c_r0,c_r1,c_r2,f_r0,f_r1,f_r2⟩:=S.cf3 0 rfl
   have hz:w.heap.size<w3.heap.size:=S.lt 0 rfl
   replace S:=Lib.hid S
   clear Q hDc
   have S:St w _ [(w3.heap.size,#[.bool (ng dq.num),.slice A1 n1 c1,.slice D1 m1 d1],46),(w.heap.size,#[.bool (ng dq.num),.slice A1 n1 c1,.slice D1 m1 d1],46)] [(D1,m1,d1,dn dq),(A1,n1,c1,limbs dq.num.natAbs)]:=((((S.out.set 0 0 (.bool (ng dq.num)) rfl (by nofun)).set 0 1 (.slice A1 n1 c1) rfl (by nofun)).set 0 2 (.slice D1 m1 d1) rfl (by nofun)).allocAt (w3.heap.size) #[.bool (ng dq.num),.slice A1 n1 c1,.slice D1 m1 d1] 46 (noL3 _ _ _ _ _ _ _) (by simp))
   replace S:=Lib.hid S
   go_wp2
   refine bodyPost_ret (res_rParse _ _ (w.heap.size) 46 rfl rfl (S.out.bk _ (List.mem_of_getElem? (i:=1) rfl)).1) rfl ?_
   exact⟨_,_,_,_,_,_,rfl,⟨S.out.r 1 rfl,S.out.r 0 rfl⟩,S.out.bel⟩
  ·have hx:True:=trivial
   have heq:(((s[0]).toNat:Int)==45)=false:=by
    rw[beq_eq_false_iff_ne];have:=hm_not hh h0;omega
   have hz0:(0:Int)<(s.size:Int):=by omega
   clear hh hs
   go_enter Tryz.func92,Tryz.ntmps92
   go_wp2_with fail
   refine (hC.out _).mono ?_
   rintro e w1 ⟨rfl,bb⟩
   have T:=(S.out.call bb)
   clear bb S
   have S:=T
   clear T
   obtain⟨c_r0,c_r1,c_r2,f_r0,f_r1,f_r2⟩:=S.cf3 0 rfl
   have hz:w.heap.size<w1.heap.size:=S.lt 0 rfl
   replace S:=Lib.hid S
   clear hC
   go_wp2_with fail
   refine (hE.out _).mono ?_
   rintro e w2 ⟨rfl,bb⟩
   have T:=(S.out.call bb)
   clear bb S c_r0 f_r0 c_r1 f_r1 c_r2 f_r2 hz
   have S:=T
   clear T
   obtain⟨c_r0,c_r1,c_r2,f_r0,f_r1,f_r2⟩:=S.cf3 0 rfl
   have hz:w.heap.size<w2.heap.size:=S.lt 0 rfl
   replace S:=Lib.hid S
   clear hE
   go_wp2_with fail
   refine (hDc.out _).mono ?_
   rintro e w3 ⟨A1,n1,c1,D1,m1,d1,rfl,Q,bb⟩
   have T:=(((S.out.call bb).read Q.n).read Q.d)
   clear bb S c_r0 f_r0 c_r1 f_r1 c_r2 f_r2 hz
   have S:=T
   clear T
   obtain⟨c_r0,c_r1,c_r2,f_r0,f_r1,f_r2⟩:=S.cf3 0 rfl
   have hz:w.heap.size<w3.heap.size:=S.lt 0 rfl
   replace S:=Lib.hid S
   clear Q hDc
   have S:St w _ [(w3.heap.size,#[.bool (ng dq.num),.slice A1 n1 c1,.slice D1 m1 d1],46),(w.heap.size,#[.bool (ng dq.num),.slice A1 n1 c1,.slice D1 m1 d1],46)] [(D1,m1,d1,dn dq),(A1,n1,c1,limbs dq.num.natAbs)]:=((((S.out.set 0 0 (.bool (ng dq.num)) rfl (by nofun)).set 0 1 (.slice A1 n1 c1) rfl (by nofun)).set 0 2 (.slice D1 m1 d1) rfl (by nofun)).allocAt (w3.heap.size) #[.bool (ng dq.num),.slice A1 n1 c1,.slice D1 m1 d1] 46 (noL3 _ _ _ _ _ _ _) (by simp))
   replace S:=Lib.hid S
   go_wp2
   refine bodyPost_ret (res_rParse _ _ (w.heap.size) 46 rfl rfl (S.out.bk _ (List.mem_of_getElem? (i:=1) rfl)).1) rfl ?_
   exact⟨_,_,_,_,_,_,rfl,⟨S.out.r 1 rfl,S.out.r 0 rfl⟩,S.out.bel⟩
 ·have h0:0<s.size:=by
   rcases Nat.eq_zero_or_pos s.size with h | h
   ·rw[←toList_len,List.length_eq_zero_iff] at h
    rw[h] at he;cases he
   ·exact h
  have heq:(((s[0]).toNat:Int)==45)=false:=by
   rw[beq_eq_false_iff_ne];have:=hm_not hh h0;omega
  have hz0:(0:Int)<(s.size:Int):=by omega
  rw[he,if_pos rfl,if_pos rfl] at hE
  have hy1:¬ ((befE s.data.toList).length:Int)<0:=by omega
  have hy2:decide (((befE s.data.toList).length:Int)<0)=false:=decide_eq_false hy1
  have hbad:psok s=false→psq s=0:=fun h=>psq_bad h
  have hsk:psok s=(xok (pX s)&&pdok (pM s)):=by unfold psok;rw[he];rfl
  have hgood:=psq_exp (s:=s) he
  have hds:=Lib.hid (dcq_size (s:=pM s) (by omega))
  have hX:=pX_size s he
  have hXl:=ndec_len (rest (pX s))
  have hdb:=@dcq_bad (pM s)
  have hrs:=rest_size (pX s)
  generalize ((befE s.data.toList).length:Int)=y at *
  generalize pM s=M at *
  generalize pX s=E at *
  unfold RetRE at hDc
  generalize dcq M=dq at *
  replace hE:=Lib.hid hE
  clear he hh
  cases hd:pdok M
  ·have hf:psok s=false:=by rw[hsk,hd];cases xok E<;>rfl
   rw[hf,hbad hf]
   rw[hd] at hDc
   rw[hdb hd] at hDc
   obtain⟨dq,hdq⟩:∃ dq:Rat,(0:Rat)=dq:=⟨_,rfl⟩
   rw[hdq] at hDc ⊢
   clear hd hf hbad hsk hgood hds hX hXl hdb hrs hMs hs hdq
   go_enter Tryz.func92,Tryz.ntmps92
   go_wp2_with fail
   refine (hC.out _).mono ?_
   rintro e w1 ⟨rfl,bb⟩
   have T:=(S.out.call bb)
   clear bb S
   have S:=T
   clear T
   obtain⟨c_r0,c_r1,c_r2,f_r0,f_r1,f_r2⟩:=S.cf3 0 rfl
   have hz:w.heap.size<w1.heap.size:=S.lt 0 rfl
   replace S:=Lib.hid S
   clear hC
   go_wp2_with fail
   refine (hE.out _).mono ?_
   rintro e w2 ⟨rfl,bb⟩
   have T:=(S.out.call bb)
   clear bb S c_r0 f_r0 c_r1 f_r1 c_r2 f_r2 hz
   have S:=T
   clear T
   obtain⟨c_r0,c_r1,c_r2,f_r0,f_r1,f_r2⟩:=S.cf3 0 rfl
   have hz:w.heap.size<w2.heap.size:=S.lt 0 rfl
   replace S:=Lib.hid S
   clear hE
   go_wp2_with fail
   refine (hDc.out _).mono ?_
   rintro e w3 ⟨A1,n1,c1,D1,m1,d1,rfl,Q,bb⟩
   have T:=(((S.out.call bb).read Q.n).read Q.d)
   clear bb S c_r0 f_r0 c_r1 f_r1 c_r2 f_r2 hz
   have S:=T
   clear T
   obtain⟨c_r0,c_r1,c_r2,f_r0,f_r1,f_r2⟩:=S.cf3 0 rfl
   have hz:w.heap.size<w3.heap.size:=S.lt 0 rfl
   replace S:=Lib.hid S
   clear Q hDc
   have S:St w _ [(w3.heap.size,#[.bool (ng dq.num),.slice A1 n1 c1,.slice D1 m1 d1],46),(w.heap.size,#[.bool (ng dq.num),.slice A1 n1 c1,.slice D1 m1 d1],46)] [(D1,m1,d1,dn dq),(A1,n1,c1,limbs dq.num.natAbs)]:=((((S.out.set 0 0 (.bool (ng dq.num)) rfl (by nofun)).set 0 1 (.slice A1 n1 c1) rfl (by nofun)).set 0 2 (.slice D1 m1 d1) rfl (by nofun)).allocAt (w3.heap.size) #[.bool (ng dq.num),.slice A1 n1 c1,.slice D1 m1 d1] 46 (noL3 _ _ _ _ _ _ _) (by simp))
   replace S:=Lib.hid S
   go_wp2
   refine bodyPost_ret (res_rParse _ _ (w.heap.size) 46 rfl rfl (S.out.bk _ (List.mem_of_getElem? (i:=1) rfl)).1) rfl ?_
   exact⟨_,_,_,_,_,_,rfl,⟨S.out.r 1 rfl,S.out.r 0 rfl⟩,S.out.bel⟩
  ·rw[hd] at hDc
   have hES:(E.size:Int)≤300:=by omega
   have hP:=fun W=>rparse_n (rest E) W
   have hU:Hid (∀ W A n c,Rd W A n c (limbs (ndec (rest E)))→Calls Tryz.prog 137 #[.slice A n c] W fun e w'=>e=.returned (.tuple #[.int .u64 ((uval (ndec (rest E)):Nat):Int),.bool (uok (ndec (rest E)))])∧Below W.heap.size W w'):=Lib.hid fun W A n c h=>by
    have:=ruint_any A n c _ W h (by rw[←h.len];omega)
    rwa [num_limbs] at this
   have hsk2:psok s=xok E:=by rw[hsk,hd,Bool.and_true]
   have hxk:xok E=(isDec (rest E)&&decide (ndec (rest E)≤40)):=rfl
   have hun:uok (ndec (rest E))=false→40<ndec (rest E):=fun h=>by
    have:=of_decide_eq_false h;omega
   have huv:uok (ndec (rest E))=true→uval (ndec (rest E))=ndec (rest E):=fun h=>by
    have:=of_decide_eq_true h;unfold uval;rw[if_pos this]
   have hre:=@hm_rest E
   have hrn:=@hm_no E
   have hsz:=@hm_size E
   have hnt:=@hm_not E
   replace hgood:=hgood hd
   generalize ndec (rest E)=V at *
   generalize rest E=T at *
   obtain⟨u,hu⟩:∃ u,uval V=u:=⟨_,rfl⟩
   rw[hu] at hU huv
   clear hd hsk hX hXl hdb hrs hMs hs hu
   cases hneg:hm E
   ·have hTE:T=E:=hrn hneg
    subst hTE
    rcases Nat.eq_zero_or_pos T.size with t0 | t0
    ·have hx:True:=trivial
     cases hdt:isDec T
     ·have hf:psok s=false:=by rw[hsk2,hxk,hdt];rfl
      rw[hf,hbad hf]
      rw[hdt] at hP
      replace hP:=Lib.hid hP
      cases huo:uok V
      ·rw[huo] at hU
       have ht1:¬ (0:Int)<(T.size:Int):=by omega
       have ht2:decide ((0:Int)<(T.size:Int))=false:=decide_eq_false ht1
       clear hneg
       clear hbad hsk2 hxk hun huv hgood hre hrn hsz hnt hds hdt huo hf
       go_enter Tryz.func92,Tryz.ntmps92
       go_wp2_with fail
       refine (hC.out _).mono ?_
       rintro e w1 ⟨rfl,bb⟩
       have T:=(S.out.call bb)
       clear bb S
       have S:=T
       clear T
       obtain⟨c_r0,c_r1,c_r2,f_r0,f_r1,f_r2⟩:=S.cf3 0 rfl
       have hz:w.heap.size<w1.heap.size:=S.lt 0 rfl
       replace S:=Lib.hid S
       clear hC
       go_wp2_with fail
       refine (hE.out _).mono ?_
       rintro e w2 ⟨rfl,bb⟩
       have T:=(S.out.call bb)
       clear bb S c_r0 f_r0 c_r1 f_r1 c_r2 f_r2 hz
       have S:=T
       clear T
       obtain⟨c_r0,c_r1,c_r2,f_r0,f_r1,f_r2⟩:=S.cf3 0 rfl
       have hz:w.heap.size<w2.heap.size:=S.lt 0 rfl
       replace S:=Lib.hid S
       clear hE
       go_wp2_with fail
       refine (hDc.out _).mono ?_
       rintro e w3 ⟨A1,n1,c1,D1,m1,d1,rfl,Q,bb⟩
       have T:=(((S.out.call bb).read Q.n).read Q.d)
       clear bb S c_r0 f_r0 c_r1 f_r1 c_r2 f_r2 hz
       have S:=T
       clear T
       obtain⟨c_r0,c_r1,c_r2,f_r0,f_r1,f_r2⟩:=S.cf3 0 rfl
       have hz:w.heap.size<w3.heap.size:=S.lt 0 rfl
       replace S:=Lib.hid S
       clear Q hDc
       have S:=(S.out.allocAt (w3.heap.size) #[.bool (ng dq.num),.slice A1 n1 c1,.slice D1 m1 d1] 46 (noL3 _ _ _ _ _ _ _) (by simp))
       obtain⟨a_r0,a_r1,a_r2,b_r0,b_r1,b_r2⟩:=S.cf3 1 rfl
       replace S:=Lib.hid S
       go_wp2_with fail
       refine (hP.out _).mono ?_
       rintro e w4 ⟨A2,n2,c2,rfl,Q,bb⟩
       have T:=((S.out.call bb).read Q)
       clear bb S c_r0 f_r0 c_r1 f_r1 c_r2 f_r2 hz a_r0 b_r0 a_r1 b_r1 a_r2 b_r2
       have S:=T
       clear T
       obtain⟨c_x0,c_x1,c_x2,f_x0,f_x1,f_x2⟩:=S.cf3 0 rfl
       obtain⟨c_r0,c_r1,c_r2,f_r0,f_r1,f_r2⟩:=S.cf3 1 rfl
       have hz:w3.heap.size<w4.heap.size:=S.lt 0 rfl
       replace S:=Lib.hid S
       clear Q hP
       go_wp2_with fail
       refine (hU.out _ _ _ _ (S.out.r 0 rfl)).mono ?_
       rintro e w5 ⟨rfl,bb⟩
       have T:=(S.out.call bb)
       clear bb S c_x0 f_x0 c_x1 f_x1 c_x2 f_x2 c_r0 f_r0 c_r1 f_r1 c_r2 f_r2 hz
       have S:=T
       clear T
       obtain⟨c_x0,c_x1,c_x2,f_x0,f_x1,f_x2⟩:=S.cf3 0 rfl
       obtain⟨c_r0,c_r1,c_r2,f_r0,f_r1,f_r2⟩:=S.cf3 1 rfl
       have hz:w3.heap.size<w5.heap.size:=S.lt 0 rfl
       replace S:=Lib.hid S
       clear hU
       have S:St w _ [(w3.heap.size,#[.bool (ng dq.num),.slice A1 n1 c1,.slice D1 m1 d1],46),(w.heap.size,#[.bool false,.slice none 0 0,.slice none 0 0],46)] [(A2,n2,c2,limbs V),(D1,m1,d1,dn dq),(A1,n1,c1,limbs dq.num.natAbs)]:=(((S.out.set 1 0 (.bool false) rfl (by nofun)).set 1 1 (.slice none 0 0) rfl (by nofun)).set 1 2 (.slice none 0 0) rfl (by nofun))
       replace S:=Lib.hid S
       go_wp2
       refine bodyPost_ret (res_rParse _ _ (w.heap.size) 46 rfl rfl (S.out.bk _ (List.mem_of_getElem? (i:=1) rfl)).1) rfl ?_
       exact⟨none,0,0,none,0,0,rfl,zero_RR _ _ _ _ _,S.out.bel⟩
      ·rw[huo] at hU
       have ht1:¬ (0:Int)<(T.size:Int):=by omega
       have ht2:decide ((0:Int)<(T.size:Int))=false:=decide_eq_false ht1
       clear hneg
       clear hbad hsk2 hxk hun huv hgood hre hrn hsz hnt hds hdt huo hf
       go_enter Tryz.func92,Tryz.ntmps92
       go_wp2_with fail
       refine (hC.out _).mono ?_
       rintro e w1 ⟨rfl,bb⟩
       have T:=(S.out.call bb)
       clear bb S
       have S:=T
       clear T
       obtain⟨c_r0,c_r1,c_r2,f_r0,f_r1,f_r2⟩:=S.cf3 0 rfl
       have hz:w.heap.size<w1.heap.size:=S.lt 0 rfl
       replace S:=Lib.hid S
       clear hC
       go_wp2_with fail
       refine (hE.out _).mono ?_
       rintro e w2 ⟨rfl,bb⟩
       have T:=(S.out.call bb)
       clear bb S c_r0 f_r0 c_r1 f_r1 c_r2 f_r2 hz
       have S:=T
       clear T
       obtain⟨c_r0,c_r1,c_r2,f_r0,f_r1,f_r2⟩:=S.cf3 0 rfl
       have hz:w.heap.size<w2.heap.size:=S.lt 0 rfl
       replace S:=Lib.hid S
       clear hE
       go_wp2_with fail
       refine (hDc.out _).mono ?_
       rintro e w3 ⟨A1,n1,c1,D1,m1,d1,rfl,Q,bb⟩
       have T:=(((S.out.call bb).read Q.n).read Q.d)
       clear bb S c_r0 f_r0 c_r1 f_r1 c_r2 f_r2 hz
       have S:=T
       clear T
       obtain⟨c_r0,c_r1,c_r2,f_r0,f_r1,f_r2⟩:=S.cf3 0 rfl
       have hz:w.heap.size<w3.heap.size:=S.lt 0 rfl
       replace S:=Lib.hid S
       clear Q hDc
       have S:=(S.out.allocAt (w3.heap.size) #[.bool (ng dq.num),.slice A1 n1 c1,.slice D1 m1 d1] 46 (noL3 _ _ _ _ _ _ _) (by simp))
       obtain⟨a_r0,a_r1,a_r2,b_r0,b_r1,b_r2⟩:=S.cf3 1 rfl
       replace S:=Lib.hid S
       go_wp2_with fail
       refine (hP.out _).mono ?_
       rintro e w4 ⟨A2,n2,c2,rfl,Q,bb⟩
       have T:=((S.out.call bb).read Q)
       clear bb S c_r0 f_r0 c_r1 f_r1 c_r2 f_r2 hz a_r0 b_r0 a_r1 b_r1 a_r2 b_r2
       have S:=T
       clear T
       obtain⟨c_x0,c_x1,c_x2,f_x0,f_x1,f_x2⟩:=S.cf3 0 rfl
       obtain⟨c_r0,c_r1,c_r2,f_r0,f_r1,f_r2⟩:=S.cf3 1 rfl
       have hz:w3.heap.size<w4.heap.size:=S.lt 0 rfl
       replace S:=Lib.hid S
       clear Q hP
       go_wp2_with fail
       refine (hU.out _ _ _ _ (S.out.r 0 rfl)).mono ?_
       rintro e w5 ⟨rfl,bb⟩
       have T:=(S.out.call bb)
       clear bb S c_x0 f_x0 c_x1 f_x1 c_x2 f_x2 c_r0 f_r0 c_r1 f_r1 c_r2 f_r2 hz
       have S:=T
       clear T
       obtain⟨c_x0,c_x1,c_x2,f_x0,f_x1,f_x2⟩:=S.cf3 0 rfl
       obtain⟨c_r0,c_r1,c_r2,f_r0,f_r1,f_r2⟩:=S.cf3 1 rfl
       have hz:w3.heap.size<w5.heap.size:=S.lt 0 rfl
       replace S:=Lib.hid S
       clear hU
       have S:St w _ [(w3.heap.size,#[.bool (ng dq.num),.slice A1 n1 c1,.slice D1 m1 d1],46),(w.heap.size,#[.bool false,.slice none 0 0,.slice none 0 0],46)] [(A2,n2,c2,limbs V),(D1,m1,d1,dn dq),(A1,n1,c1,limbs dq.num.natAbs)]:=(((S.out.set 1 0 (.bool false) rfl (by nofun)).set 1 1 (.slice none 0 0) rfl (by nofun)).set 1 2 (.slice none 0 0) rfl (by nofun))
       replace S:=Lib.hid S
       go_wp2
       refine bodyPost_ret (res_rParse _ _ (w.heap.size) 46 rfl rfl (S.out.bk _ (List.mem_of_getElem? (i:=1) rfl)).1) rfl ?_
       exact⟨none,0,0,none,0,0,rfl,zero_RR _ _ _ _ _,S.out.bel⟩
     ·rw[hdt] at hP
      replace hP:=Lib.hid hP
      cases huo:uok V
      ·have h40:=hun huo
       have hf:psok s=false:=by rw[hsk2,hxk,decide_eq_false (show ¬ V≤40 by omega),Bool.and_false]
       rw[hf,hbad hf]
       rw[huo] at hU
       have ht1:¬ (0:Int)<(T.size:Int):=by omega
       have ht2:decide ((0:Int)<(T.size:Int))=false:=decide_eq_false ht1
       clear hneg
       clear hbad hsk2 hxk hun huv hgood hre hrn hsz hnt hds hdt huo hf h40
       go_enter Tryz.func92,Tryz.ntmps92
       go_wp2_with fail
       refine (hC.out _).mono ?_
       rintro e w1 ⟨rfl,bb⟩
       have T:=(S.out.call bb)
       clear bb S
       have S:=T
       clear T
       obtain⟨c_r0,c_r1,c_r2,f_r0,f_r1,f_r2⟩:=S.cf3 0 rfl
       have hz:w.heap.size<w1.heap.size:=S.lt 0 rfl
       replace S:=Lib.hid S
       clear hC
       go_wp2_with fail
       refine (hE.out _).mono ?_
       rintro e w2 ⟨rfl,bb⟩
       have T:=(S.out.call bb)
       clear bb S c_r0 f_r0 c_r1 f_r1 c_r2 f_r2 hz
       have S:=T
       clear T
       obtain⟨c_r0,c_r1,c_r2,f_r0,f_r1,f_r2⟩:=S.cf3 0 rfl
       have hz:w.heap.size<w2.heap.size:=S.lt 0 rfl
       replace S:=Lib.hid S
       clear hE
       go_wp2_with fail
       refine (hDc.out _).mono ?_
       rintro e w3 ⟨A1,n1,c1,D1,m1,d1,rfl,Q,bb⟩
       have T:=(((S.out.call bb).read Q.n).read Q.d)
       clear bb S c_r0 f_r0 c_r1 f_r1 c_r2 f_r2 hz
       have S:=T
       clear T
       obtain⟨c_r0,c_r1,c_r2,f_r0,f_r1,f_r2⟩:=S.cf3 0 rfl
       have hz:w.heap.size<w3.heap.size:=S.lt 0 rfl
       replace S:=Lib.hid S
       clear Q hDc
       have S:=(S.out.allocAt (w3.heap.size) #[.bool (ng dq.num),.slice A1 n1 c1,.slice D1 m1 d1] 46 (noL3 _ _ _ _ _ _ _) (by simp))
       obtain⟨a_r0,a_r1,a_r2,b_r0,b_r1,b_r2⟩:=S.cf3 1 rfl
       replace S:=Lib.hid S
       go_wp2_with fail
       refine (hP.out _).mono ?_
       rintro e w4 ⟨A2,n2,c2,rfl,Q,bb⟩
       have T:=((S.out.call bb).read Q)
       clear bb S c_r0 f_r0 c_r1 f_r1 c_r2 f_r2 hz a_r0 b_r0 a_r1 b_r1 a_r2 b_r2
       have S:=T
       clear T
       obtain⟨c_x0,c_x1,c_x2,f_x0,f_x1,f_x2⟩:=S.cf3 0 rfl
       obtain⟨c_r0,c_r1,c_r2,f_r0,f_r1,f_r2⟩:=S.cf3 1 rfl
       have hz:w3.heap.size<w4.heap.size:=S.lt 0 rfl
       replace S:=Lib.hid S
       clear Q hP
       go_wp2_with fail
       refine (hU.out _ _ _ _ (S.out.r 0 rfl)).mono ?_
       rintro e w5 ⟨rfl,bb⟩
       have T:=(S.out.call bb)
       clear bb S c_x0 f_x0 c_x1 f_x1 c_x2 f_x2 c_r0 f_r0 c_r1 f_r1 c_r2 f_r2 hz
       have S:=T
       clear T
       obtain⟨c_x0,c_x1,c_x2,f_x0,f_x1,f_x2⟩:=S.cf3 0 rfl
       obtain⟨c_r0,c_r1,c_r2,f_r0,f_r1,f_r2⟩:=S.cf3 1 rfl
       have hz:w3.heap.size<w5.heap.size:=S.lt 0 rfl
       replace S:=Lib.hid S
       clear hU
       have S:St w _ [(w3.heap.size,#[.bool (ng dq.num),.slice A1 n1 c1,.slice D1 m1 d1],46),(w.heap.size,#[.bool false,.slice none 0 0,.slice none 0 0],46)] [(A2,n2,c2,limbs V),(D1,m1,d1,dn dq),(A1,n1,c1,limbs dq.num.natAbs)]:=(((S.out.set 1 0 (.bool false) rfl (by nofun)).set 1 1 (.slice none 0 0) rfl (by nofun)).set 1 2 (.slice none 0 0) rfl (by nofun))
       replace S:=Lib.hid S
       go_wp2
       refine bodyPost_ret (res_rParse _ _ (w.heap.size) 46 rfl rfl (S.out.bk _ (List.mem_of_getElem? (i:=1) rfl)).1) rfl ?_
       exact⟨none,0,0,none,0,0,rfl,zero_RR _ _ _ _ _,S.out.bel⟩
      ·have huV:=huv huo
       rw[huo] at hU
       by_cases h40:V≤40
       ·have hf:=hgood (by rw[hxk,hdt,decide_eq_true h40];rfl)
        rw[hf.1,hf.2,hneg]
        have hu1:¬ (40:Int)<(u:Int):=by omega
        have hu2:decide ((40:Int)<(u:Int))=false:=decide_eq_false hu1
        have hu3:IntKind.i64.wrap (u:Int)=(u:Int):=IntWalk.i64_in _ (by omega)
        have hS:Hid (∀ W A n c D m d,RR W A n c D m d dq→Calls Tryz.prog 138 #[.agg #[.bool (ng dq.num),.slice A n c,.slice D m d],.bool false,.int .i64 (u:Int)] W (RetR (if false=true then dq / p10q V else dq*p10q V) W)):=Lib.hid fun W A n c D m d h=>by
         rw[huV];exact rscaled_any dq A n c D m d false V W h (hds.out.mono (by decide)) h40
        generalize (if false=true then dq / p10q V else dq*p10q V)=q at *
        have ht1:¬ (0:Int)<(T.size:Int):=by omega
        have ht2:decide ((0:Int)<(T.size:Int))=false:=decide_eq_false ht1
        clear hneg
        clear hbad hsk2 hxk hun huv hgood hre hrn hsz hnt hds hdt huo hf h40 huV
        go_enter Tryz.func92,Tryz.ntmps92
        go_wp2_with fail
        refine (hC.out _).mono ?_
        rintro e w1 ⟨rfl,bb⟩
        have T:=(S.out.call bb)
        clear bb S
        have S:=T
        clear T
        obtain⟨c_r0,c_r1,c_r2,f_r0,f_r1,f_r2⟩:=S.cf3 0 rfl
        have hz:w.heap.size<w1.heap.size:=S.lt 0 rfl
        replace S:=Lib.hid S
        clear hC
        go_wp2_with fail
        refine (hE.out _).mono ?_
        rintro e w2 ⟨rfl,bb⟩
        have T:=(S.out.call bb)
        clear bb S c_r0 f_r0 c_r1 f_r1 c_r2 f_r2 hz
        have S:=T
        clear T
        obtain⟨c_r0,c_r1,c_r2,f_r0,f_r1,f_r2⟩:=S.cf3 0 rfl
        have hz:w.heap.size<w2.heap.size:=S.lt 0 rfl
        replace S:=Lib.hid S
        clear hE
        go_wp2_with fail
        refine (hDc.out _).mono ?_
        rintro e w3 ⟨A1,n1,c1,D1,m1,d1,rfl,Q,bb⟩
        have T:=(((S.out.call bb).read Q.n).read Q.d)
        clear bb S c_r0 f_r0 c_r1 f_r1 c_r2 f_r2 hz
        have S:=T
        clear T
        obtain⟨c_r0,c_r1,c_r2,f_r0,f_r1,f_r2⟩:=S.cf3 0 rfl
        have hz:w.heap.size<w3.heap.size:=S.lt 0 rfl
        replace S:=Lib.hid S
        clear Q hDc
        have S:=(S.out.allocAt (w3.heap.size) #[.bool (ng dq.num),.slice A1 n1 c1,.slice D1 m1 d1] 46 (noL3 _ _ _ _ _ _ _) (by simp))
        obtain⟨a_r0,a_r1,a_r2,b_r0,b_r1,b_r2⟩:=S.cf3 1 rfl
        replace S:=Lib.hid S
        go_wp2_with fail
        refine (hP.out _).mono ?_
        rintro e w4 ⟨A2,n2,c2,rfl,Q,bb⟩
        have T:=((S.out.call bb).read Q)
        clear bb S c_r0 f_r0 c_r1 f_r1 c_r2 f_r2 hz a_r0 b_r0 a_r1 b_r1 a_r2 b_r2
        have S:=T
        clear T
        obtain⟨c_x0,c_x1,c_x2,f_x0,f_x1,f_x2⟩:=S.cf3 0 rfl
        obtain⟨c_r0,c_r1,c_r2,f_r0,f_r1,f_r2⟩:=S.cf3 1 rfl
        have hz:w3.heap.size<w4.heap.size:=S.lt 0 rfl
        replace S:=Lib.hid S
        clear Q hP
        go_wp2_with fail
        refine (hU.out _ _ _ _ (S.out.r 0 rfl)).mono ?_
        rintro e w5 ⟨rfl,bb⟩
        have T:=(S.out.call bb)
        clear bb S c_x0 f_x0 c_x1 f_x1 c_x2 f_x2 c_r0 f_r0 c_r1 f_r1 c_r2 f_r2 hz
        have S:=T
        clear T
        obtain⟨c_x0,c_x1,c_x2,f_x0,f_x1,f_x2⟩:=S.cf3 0 rfl
        obtain⟨c_r0,c_r1,c_r2,f_r0,f_r1,f_r2⟩:=S.cf3 1 rfl
        have hz:w3.heap.size<w5.heap.size:=S.lt 0 rfl
        replace S:=Lib.hid S
        clear hU
        go_wp2_with fail
        refine (hS.out _ _ _ _ _ _ _ ⟨(S.out.r 2 rfl),(S.out.r 1 rfl)⟩).mono ?_
        rintro e w6 ⟨A9,n9,c9,D9,m9,d9,rfl,Q,bb⟩
        have T:=(((S.out.call bb).read Q.n).read Q.d)
        clear bb S c_x0 f_x0 c_x1 f_x1 c_x2 f_x2 c_r0 f_r0 c_r1 f_r1 c_r2 f_r2 hz
        have S:=T
        clear T
        obtain⟨c_x0,c_x1,c_x2,f_x0,f_x1,f_x2⟩:=S.cf3 0 rfl
        obtain⟨c_r0,c_r1,c_r2,f_r0,f_r1,f_r2⟩:=S.cf3 1 rfl
        have hz:w3.heap.size<w6.heap.size:=S.lt 0 rfl
        replace S:=Lib.hid S
        clear Q
        have S:St w _ [(w3.heap.size,#[.bool (ng dq.num),.slice A1 n1 c1,.slice D1 m1 d1],46),(w.heap.size,#[.bool (ng q.num),.slice A9 n9 c9,.slice D9 m9 d9],46)] [(D9,m9,d9,dn q),(A9,n9,c9,limbs q.num.natAbs),(A2,n2,c2,limbs V),(D1,m1,d1,dn dq),(A1,n1,c1,limbs dq.num.natAbs)]:=(((S.out.set 1 0 (.bool (ng q.num)) rfl (by nofun)).set 1 1 (.slice A9 n9 c9) rfl (by nofun)).set 1 2 (.slice D9 m9 d9) rfl (by nofun))
        replace S:=Lib.hid S
        go_wp2
        refine bodyPost_ret (res_rParse _ _ (w.heap.size) 46 rfl rfl (S.out.bk _ (List.mem_of_getElem? (i:=1) rfl)).1) rfl ?_
        exact⟨_,_,_,_,_,_,rfl,⟨S.out.r 1 rfl,S.out.r 0 rfl⟩,S.out.bel⟩
       ·have hf:psok s=false:=by rw[hsk2,hxk,decide_eq_false h40,Bool.and_false]
        rw[hf,hbad hf]
        have hu1:(40:Int)<(u:Int):=by omega
        have hu2:decide ((40:Int)<(u:Int))=true:=decide_eq_true hu1
        have ht1:¬ (0:Int)<(T.size:Int):=by omega
        have ht2:decide ((0:Int)<(T.size:Int))=false:=decide_eq_false ht1
        clear hneg
        clear hbad hsk2 hxk hun huv hgood hre hrn hsz hnt hds hdt huo hf h40 huV
        go_enter Tryz.func92,Tryz.ntmps92
        go_wp2_with fail
        refine (hC.out _).mono ?_
        rintro e w1 ⟨rfl,bb⟩
        have T:=(S.out.call bb)
        clear bb S
        have S:=T
        clear T
        obtain⟨c_r0,c_r1,c_r2,f_r0,f_r1,f_r2⟩:=S.cf3 0 rfl
        have hz:w.heap.size<w1.heap.size:=S.lt 0 rfl
        replace S:=Lib.hid S
        clear hC
        go_wp2_with fail
        refine (hE.out _).mono ?_
        rintro e w2 ⟨rfl,bb⟩
        have T:=(S.out.call bb)
        clear bb S c_r0 f_r0 c_r1 f_r1 c_r2 f_r2 hz
        have S:=T
        clear T
        obtain⟨c_r0,c_r1,c_r2,f_r0,f_r1,f_r2⟩:=S.cf3 0 rfl
        have hz:w.heap.size<w2.heap.size:=S.lt 0 rfl
        replace S:=Lib.hid S
        clear hE
        go_wp2_with fail
        refine (hDc.out _).mono ?_
        rintro e w3 ⟨A1,n1,c1,D1,m1,d1,rfl,Q,bb⟩
        have T:=(((S.out.call bb).read Q.n).read Q.d)
        clear bb S c_r0 f_r0 c_r1 f_r1 c_r2 f_r2 hz
        have S:=T
        clear T
        obtain⟨c_r0,c_r1,c_r2,f_r0,f_r1,f_r2⟩:=S.cf3 0 rfl
        have hz:w.heap.size<w3.heap.size:=S.lt 0 rfl
        replace S:=Lib.hid S
        clear Q hDc
        have S:=(S.out.allocAt (w3.heap.size) #[.bool (ng dq.num),.slice A1 n1 c1,.slice D1 m1 d1] 46 (noL3 _ _ _ _ _ _ _) (by simp))
        obtain⟨a_r0,a_r1,a_r2,b_r0,b_r1,b_r2⟩:=S.cf3 1 rfl
        replace S:=Lib.hid S
        go_wp2_with fail
        refine (hP.out _).mono ?_
        rintro e w4 ⟨A2,n2,c2,rfl,Q,bb⟩
        have T:=((S.out.call bb).read Q)
        clear bb S c_r0 f_r0 c_r1 f_r1 c_r2 f_r2 hz a_r0 b_r0 a_r1 b_r1 a_r2 b_r2
        have S:=T
        clear T
        obtain⟨c_x0,c_x1,c_x2,f_x0,f_x1,f_x2⟩:=S.cf3 0 rfl
        obtain⟨c_r0,c_r1,c_r2,f_r0,f_r1,f_r2⟩:=S.cf3 1 rfl
        have hz:w3.heap.size<w4.heap.size:=S.lt 0 rfl
        replace S:=Lib.hid S
        clear Q hP
        go_wp2_with fail
        refine (hU.out _ _ _ _ (S.out.r 0 rfl)).mono ?_
        rintro e w5 ⟨rfl,bb⟩
        have T:=(S.out.call bb)
        clear bb S c_x0 f_x0 c_x1 f_x1 c_x2 f_x2 c_r0 f_r0 c_r1 f_r1 c_r2 f_r2 hz
        have S:=T
        clear T
        obtain⟨c_x0,c_x1,c_x2,f_x0,f_x1,f_x2⟩:=S.cf3 0 rfl
        obtain⟨c_r0,c_r1,c_r2,f_r0,f_r1,f_r2⟩:=S.cf3 1 rfl
        have hz:w3.heap.size<w5.heap.size:=S.lt 0 rfl
        replace S:=Lib.hid S
        clear hU
        have S:St w _ [(w3.heap.size,#[.bool (ng dq.num),.slice A1 n1 c1,.slice D1 m1 d1],46),(w.heap.size,#[.bool false,.slice none 0 0,.slice none 0 0],46)] [(A2,n2,c2,limbs V),(D1,m1,d1,dn dq),(A1,n1,c1,limbs dq.num.natAbs)]:=(((S.out.set 1 0 (.bool false) rfl (by nofun)).set 1 1 (.slice none 0 0) rfl (by nofun)).set 1 2 (.slice none 0 0) rfl (by nofun))
        replace S:=Lib.hid S
        go_wp2
        refine bodyPost_ret (res_rParse _ _ (w.heap.size) 46 rfl rfl (S.out.bk _ (List.mem_of_getElem? (i:=1) rfl)).1) rfl ?_
        exact⟨none,0,0,none,0,0,rfl,zero_RR _ _ _ _ _,S.out.bel⟩
    ·have hx:True:=trivial
     cases hdt:isDec T
     ·have hf:psok s=false:=by rw[hsk2,hxk,hdt];rfl
      rw[hf,hbad hf]
      rw[hdt] at hP
      replace hP:=Lib.hid hP
      cases huo:uok V
      ·rw[huo] at hU
       have ht1:(0:Int)<(T.size:Int):=by omega
       have ht2:(((T[0]).toNat:Int)==45)=false:=by
        rw[beq_eq_false_iff_ne];have:=hnt hneg t0;omega
       clear hneg
       clear hbad hsk2 hxk hun huv hgood hre hrn hsz hnt hds hdt huo hf
       go_enter Tryz.func92,Tryz.ntmps92
       go_wp2_with fail
       refine (hC.out _).mono ?_
       rintro e w1 ⟨rfl,bb⟩
       have T:=(S.out.call bb)
       clear bb S
       have S:=T
       clear T
       obtain⟨c_r0,c_r1,c_r2,f_r0,f_r1,f_r2⟩:=S.cf3 0 rfl
       have hz:w.heap.size<w1.heap.size:=S.lt 0 rfl
       replace S:=Lib.hid S
       clear hC
       go_wp2_with fail
       refine (hE.out _).mono ?_
       rintro e w2 ⟨rfl,bb⟩
       have T:=(S.out.call bb)
       clear bb S c_r0 f_r0 c_r1 f_r1 c_r2 f_r2 hz
       have S:=T
       clear T
       obtain⟨c_r0,c_r1,c_r2,f_r0,f_r1,f_r2⟩:=S.cf3 0 rfl
       have hz:w.heap.size<w2.heap.size:=S.lt 0 rfl
       replace S:=Lib.hid S
       clear hE
       go_wp2_with fail
       refine (hDc.out _).mono ?_
       rintro e w3 ⟨A1,n1,c1,D1,m1,d1,rfl,Q,bb⟩
       have T:=(((S.out.call bb).read Q.n).read Q.d)
       clear bb S c_r0 f_r0 c_r1 f_r1 c_r2 f_r2 hz
       have S:=T
       clear T
       obtain⟨c_r0,c_r1,c_r2,f_r0,f_r1,f_r2⟩:=S.cf3 0 rfl
       have hz:w.heap.size<w3.heap.size:=S.lt 0 rfl
       replace S:=Lib.hid S
       clear Q hDc
       have S:=(S.out.allocAt (w3.heap.size) #[.bool (ng dq.num),.slice A1 n1 c1,.slice D1 m1 d1] 46 (noL3 _ _ _ _ _ _ _) (by simp))
       obtain⟨a_r0,a_r1,a_r2,b_r0,b_r1,b_r2⟩:=S.cf3 1 rfl
       replace S:=Lib.hid S
       go_wp2_with fail
       refine (hP.out _).mono ?_
       rintro e w4 ⟨A2,n2,c2,rfl,Q,bb⟩
       have T:=((S.out.call bb).read Q)
       clear bb S c_r0 f_r0 c_r1 f_r1 c_r2 f_r2 hz a_r0 b_r0 a_r1 b_r1 a_r2 b_r2
       have S:=T
       clear T
       obtain⟨c_x0,c_x1,c_x2,f_x0,f_x1,f_x2⟩:=S.cf3 0 rfl
       obtain⟨c_r0,c_r1,c_r2,f_r0,f_r1,f_r2⟩:=S.cf3 1 rfl
       have hz:w3.heap.size<w4.heap.size:=S.lt 0 rfl
       replace S:=Lib.hid S
       clear Q hP
       go_wp2_with fail
       refine (hU.out _ _ _ _ (S.out.r 0 rfl)).mono ?_
       rintro e w5 ⟨rfl,bb⟩
       have T:=(S.out.call bb)
       clear bb S c_x0 f_x0 c_x1 f_x1 c_x2 f_x2 c_r0 f_r0 c_r1 f_r1 c_r2 f_r2 hz
       have S:=T
       clear T
       obtain⟨c_x0,c_x1,c_x2,f_x0,f_x1,f_x2⟩:=S.cf3 0 rfl
       obtain⟨c_r0,c_r1,c_r2,f_r0,f_r1,f_r2⟩:=S.cf3 1 rfl
       have hz:w3.heap.size<w5.heap.size:=S.lt 0 rfl
       replace S:=Lib.hid S
       clear hU
       have S:St w _ [(w3.heap.size,#[.bool (ng dq.num),.slice A1 n1 c1,.slice D1 m1 d1],46),(w.heap.size,#[.bool false,.slice none 0 0,.slice none 0 0],46)] [(A2,n2,c2,limbs V),(D1,m1,d1,dn dq),(A1,n1,c1,limbs dq.num.natAbs)]:=(((S.out.set 1 0 (.bool false) rfl (by nofun)).set 1 1 (.slice none 0 0) rfl (by nofun)).set 1 2 (.slice none 0 0) rfl (by nofun))
       replace S:=Lib.hid S
       go_wp2
       refine bodyPost_ret (res_rParse _ _ (w.heap.size) 46 rfl rfl (S.out.bk _ (List.mem_of_getElem? (i:=1) rfl)).1) rfl ?_
       exact⟨none,0,0,none,0,0,rfl,zero_RR _ _ _ _ _,S.out.bel⟩
      ·rw[huo] at hU
       have ht1:(0:Int)<(T.size:Int):=by omega
       have ht2:(((T[0]).toNat:Int)==45)=false:=by
        rw[beq_eq_false_iff_ne];have:=hnt hneg t0;omega
       clear hneg
       clear hbad hsk2 hxk hun huv hgood hre hrn hsz hnt hds hdt huo hf
       go_enter Tryz.func92,Tryz.ntmps92
       go_wp2_with fail
       refine (hC.out _).mono ?_
       rintro e w1 ⟨rfl,bb⟩
       have T:=(S.out.call bb)
       clear bb S
       have S:=T
       clear T
       obtain⟨c_r0,c_r1,c_r2,f_r0,f_r1,f_r2⟩:=S.cf3 0 rfl
       have hz:w.heap.size<w1.heap.size:=S.lt 0 rfl
       replace S:=Lib.hid S
       clear hC
       go_wp2_with fail
       refine (hE.out _).mono ?_
       rintro e w2 ⟨rfl,bb⟩
       have T:=(S.out.call bb)
       clear bb S c_r0 f_r0 c_r1 f_r1 c_r2 f_r2 hz
       have S:=T
       clear T
       obtain⟨c_r0,c_r1,c_r2,f_r0,f_r1,f_r2⟩:=S.cf3 0 rfl
       have hz:w.heap.size<w2.heap.size:=S.lt 0 rfl
       replace S:=Lib.hid S
       clear hE
       go_wp2_with fail
       refine (hDc.out _).mono ?_
       rintro e w3 ⟨A1,n1,c1,D1,m1,d1,rfl,Q,bb⟩
       have T:=(((S.out.call bb).read Q.n).read Q.d)
       clear bb S c_r0 f_r0 c_r1 f_r1 c_r2 f_r2 hz
       have S:=T
       clear T
       obtain⟨c_r0,c_r1,c_r2,f_r0,f_r1,f_r2⟩:=S.cf3 0 rfl
       have hz:w.heap.size<w3.heap.size:=S.lt 0 rfl
       replace S:=Lib.hid S
       clear Q hDc
       have S:=(S.out.allocAt (w3.heap.size) #[.bool (ng dq.num),.slice A1 n1 c1,.slice D1 m1 d1] 46 (noL3 _ _ _ _ _ _ _) (by simp))
       obtain⟨a_r0,a_r1,a_r2,b_r0,b_r1,b_r2⟩:=S.cf3 1 rfl
       replace S:=Lib.hid S
       go_wp2_with fail
       refine (hP.out _).mono ?_
       rintro e w4 ⟨A2,n2,c2,rfl,Q,bb⟩
       have T:=((S.out.call bb).read Q)
       clear bb S c_r0 f_r0 c_r1 f_r1 c_r2 f_r2 hz a_r0 b_r0 a_r1 b_r1 a_r2 b_r2
       have S:=T
       clear T
       obtain⟨c_x0,c_x1,c_x2,f_x0,f_x1,f_x2⟩:=S.cf3 0 rfl
       obtain⟨c_r0,c_r1,c_r2,f_r0,f_r1,f_r2⟩:=S.cf3 1 rfl
       have hz:w3.heap.size<w4.heap.size:=S.lt 0 rfl
       replace S:=Lib.hid S
       clear Q hP
       go_wp2_with fail
       refine (hU.out _ _ _ _ (S.out.r 0 rfl)).mono ?_
       rintro e w5 ⟨rfl,bb⟩
       have T:=(S.out.call bb)
       clear bb S c_x0 f_x0 c_x1 f_x1 c_x2 f_x2 c_r0 f_r0 c_r1 f_r1 c_r2 f_r2 hz
       have S:=T
       clear T
       obtain⟨c_x0,c_x1,c_x2,f_x0,f_x1,f_x2⟩:=S.cf3 0 rfl
       obtain⟨c_r0,c_r1,c_r2,f_r0,f_r1,f_r2⟩:=S.cf3 1 rfl
       have hz:w3.heap.size<w5.heap.size:=S.lt 0 rfl
       replace S:=Lib.hid S
       clear hU
       have S:St w _ [(w3.heap.size,#[.bool (ng dq.num),.slice A1 n1 c1,.slice D1 m1 d1],46),(w.heap.size,#[.bool false,.slice none 0 0,.slice none 0 0],46)] [(A2,n2,c2,limbs V),(D1,m1,d1,dn dq),(A1,n1,c1,limbs dq.num.natAbs)]:=(((S.out.set 1 0 (.bool false) rfl (by nofun)).set 1 1 (.slice none 0 0) rfl (by nofun)).set 1 2 (.slice none 0 0) rfl (by nofun))
       replace S:=Lib.hid S
       go_wp2
       refine bodyPost_ret (res_rParse _ _ (w.heap.size) 46 rfl rfl (S.out.bk _ (List.mem_of_getElem? (i:=1) rfl)).1) rfl ?_
       exact⟨none,0,0,none,0,0,rfl,zero_RR _ _ _ _ _,S.out.bel⟩
     ·rw[hdt] at hP
      replace hP:=Lib.hid hP
      cases huo:uok V
      ·have h40:=hun huo
       have hf:psok s=false:=by rw[hsk2,hxk,decide_eq_false (show ¬ V≤40 by omega),Bool.and_false]
       rw[hf,hbad hf]
       rw[huo] at hU
       have ht1:(0:Int)<(T.size:Int):=by omega
       have ht2:(((T[0]).toNat:Int)==45)=false:=by
        rw[beq_eq_false_iff_ne];have:=hnt hneg t0;omega
       clear hneg
       clear hbad hsk2 hxk hun huv hgood hre hrn hsz hnt hds hdt huo hf h40
       go_enter Tryz.func92,Tryz.ntmps92
       go_wp2_with fail
       refine (hC.out _).mono ?_
       rintro e w1 ⟨rfl,bb⟩
       have T:=(S.out.call bb)
       clear bb S
       have S:=T
       clear T
       obtain⟨c_r0,c_r1,c_r2,f_r0,f_r1,f_r2⟩:=S.cf3 0 rfl
       have hz:w.heap.size<w1.heap.size:=S.lt 0 rfl
       replace S:=Lib.hid S
       clear hC
       go_wp2_with fail
       refine (hE.out _).mono ?_
       rintro e w2 ⟨rfl,bb⟩
       have T:=(S.out.call bb)
       clear bb S c_r0 f_r0 c_r1 f_r1 c_r2 f_r2 hz
       have S:=T
       clear T
       obtain⟨c_r0,c_r1,c_r2,f_r0,f_r1,f_r2⟩:=S.cf3 0 rfl
       have hz:w.heap.size<w2.heap.size:=S.lt 0 rfl
       replace S:=Lib.hid S
       clear hE
       go_wp2_with fail
       refine (hDc.out _).mono ?_
       rintro e w3 ⟨A1,n1,c1,D1,m1,d1,rfl,Q,bb⟩
       have T:=(((S.out.call bb).read Q.n).read Q.d)
       clear bb S c_r0 f_r0 c_r1 f_r1 c_r2 f_r2 hz
       have S:=T
       clear T
       obtain⟨c_r0,c_r1,c_r2,f_r0,f_r1,f_r2⟩:=S.cf3 0 rfl
       have hz:w.heap.size<w3.heap.size:=S.lt 0 rfl
       replace S:=Lib.hid S
       clear Q hDc
       have S:=(S.out.allocAt (w3.heap.size) #[.bool (ng dq.num),.slice A1 n1 c1,.slice D1 m1 d1] 46 (noL3 _ _ _ _ _ _ _) (by simp))
       obtain⟨a_r0,a_r1,a_r2,b_r0,b_r1,b_r2⟩:=S.cf3 1 rfl
       replace S:=Lib.hid S
       go_wp2_with fail
       refine (hP.out _).mono ?_
       rintro e w4 ⟨A2,n2,c2,rfl,Q,bb⟩
       have T:=((S.out.call bb).read Q)
       clear bb S c_r0 f_r0 c_r1 f_r1 c_r2 f_r2 hz a_r0 b_r0 a_r1 b_r1 a_r2 b_r2
       have S:=T
       clear T
       obtain⟨c_x0,c_x1,c_x2,f_x0,f_x1,f_x2⟩:=S.cf3 0 rfl
       obtain⟨c_r0,c_r1,c_r2,f_r0,f_r1,f_r2⟩:=S.cf3 1 rfl
       have hz:w3.heap.size<w4.heap.size:=S.lt 0 rfl
       replace S:=Lib.hid S
       clear Q hP
       go_wp2_with fail
       refine (hU.out _ _ _ _ (S.out.r 0 rfl)).mono ?_
       rintro e w5 ⟨rfl,bb⟩
       have T:=(S.out.call bb)
       clear bb S c_x0 f_x0 c_x1 f_x1 c_x2 f_x2 c_r0 f_r0 c_r1 f_r1 c_r2 f_r2 hz
       have S:=T
       clear T
       obtain⟨c_x0,c_x1,c_x2,f_x0,f_x1,f_x2⟩:=S.cf3 0 rfl
       obtain⟨c_r0,c_r1,c_r2,f_r0,f_r1,f_r2⟩:=S.cf3 1 rfl
       have hz:w3.heap.size<w5.heap.size:=S.lt 0 rfl
       replace S:=Lib.hid S
       clear hU
       have S:St w _ [(w3.heap.size,#[.bool (ng dq.num),.slice A1 n1 c1,.slice D1 m1 d1],46),(w.heap.size,#[.bool false,.slice none 0 0,.slice none 0 0],46)] [(A2,n2,c2,limbs V),(D1,m1,d1,dn dq),(A1,n1,c1,limbs dq.num.natAbs)]:=(((S.out.set 1 0 (.bool false) rfl (by nofun)).set 1 1 (.slice none 0 0) rfl (by nofun)).set 1 2 (.slice none 0 0) rfl (by nofun))
       replace S:=Lib.hid S
       go_wp2
       refine bodyPost_ret (res_rParse _ _ (w.heap.size) 46 rfl rfl (S.out.bk _ (List.mem_of_getElem? (i:=1) rfl)).1) rfl ?_
       exact⟨none,0,0,none,0,0,rfl,zero_RR _ _ _ _ _,S.out.bel⟩
      ·have huV:=huv huo
       rw[huo] at hU
       by_cases h40:V≤40
       ·have hf:=hgood (by rw[hxk,hdt,decide_eq_true h40];rfl)
        rw[hf.1,hf.2,hneg]
        have hu1:¬ (40:Int)<(u:Int):=by omega
        have hu2:decide ((40:Int)<(u:Int))=false:=decide_eq_false hu1
        have hu3:IntKind.i64.wrap (u:Int)=(u:Int):=IntWalk.i64_in _ (by omega)
        have hS:Hid (∀ W A n c D m d,RR W A n c D m d dq→Calls Tryz.prog 138 #[.agg #[.bool (ng dq.num),.slice A n c,.slice D m d],.bool false,.int .i64 (u:Int)] W (RetR (if false=true then dq / p10q V else dq*p10q V) W)):=Lib.hid fun W A n c D m d h=>by
         rw[huV];exact rscaled_any dq A n c D m d false V W h (hds.out.mono (by decide)) h40
        generalize (if false=true then dq / p10q V else dq*p10q V)=q at *
        have ht1:(0:Int)<(T.size:Int):=by omega
        have ht2:(((T[0]).toNat:Int)==45)=false:=by
         rw[beq_eq_false_iff_ne];have:=hnt hneg t0;omega
        clear hneg
        clear hbad hsk2 hxk hun huv hgood hre hrn hsz hnt hds hdt huo hf h40 huV
        go_enter Tryz.func92,Tryz.ntmps92
        go_wp2_with fail
        refine (hC.out _).mono ?_
        rintro e w1 ⟨rfl,bb⟩
        have T:=(S.out.call bb)
        clear bb S
        have S:=T
        clear T
        obtain⟨c_r0,c_r1,c_r2,f_r0,f_r1,f_r2⟩:=S.cf3 0 rfl
        have hz:w.heap.size<w1.heap.size:=S.lt 0 rfl
        replace S:=Lib.hid S
        clear hC
        go_wp2_with fail
        refine (hE.out _).mono ?_
        rintro e w2 ⟨rfl,bb⟩
        have T:=(S.out.call bb)
        clear bb S c_r0 f_r0 c_r1 f_r1 c_r2 f_r2 hz
        have S:=T
        clear T
        obtain⟨c_r0,c_r1,c_r2,f_r0,f_r1,f_r2⟩:=S.cf3 0 rfl
        have hz:w.heap.size<w2.heap.size:=S.lt 0 rfl
        replace S:=Lib.hid S
        clear hE
        go_wp2_with fail
        refine (hDc.out _).mono ?_
        rintro e w3 ⟨A1,n1,c1,D1,m1,d1,rfl,Q,bb⟩
        have T:=(((S.out.call bb).read Q.n).read Q.d)
        clear bb S c_r0 f_r0 c_r1 f_r1 c_r2 f_r2 hz
        have S:=T
        clear T
        obtain⟨c_r0,c_r1,c_r2,f_r0,f_r1,f_r2⟩:=S.cf3 0 rfl
        have hz:w.heap.size<w3.heap.size:=S.lt 0 rfl
        replace S:=Lib.hid S
        clear Q hDc
        have S:=(S.out.allocAt (w3.heap.size) #[.bool (ng dq.num),.slice A1 n1 c1,.slice D1 m1 d1] 46 (noL3 _ _ _ _ _ _ _) (by simp))
        obtain⟨a_r0,a_r1,a_r2,b_r0,b_r1,b_r2⟩:=S.cf3 1 rfl
        replace S:=Lib.hid S
        go_wp2_with fail
        refine (hP.out _).mono ?_
        rintro e w4 ⟨A2,n2,c2,rfl,Q,bb⟩
        have T:=((S.out.call bb).read Q)
        clear bb S c_r0 f_r0 c_r1 f_r1 c_r2 f_r2 hz a_r0 b_r0 a_r1 b_r1 a_r2 b_r2
        have S:=T
        clear T
        obtain⟨c_x0,c_x1,c_x2,f_x0,f_x1,f_x2⟩:=S.cf3 0 rfl
        obtain⟨c_r0,c_r1,c_r2,f_r0,f_r1,f_r2⟩:=S.cf3 1 rfl
        have hz:w3.heap.size<w4.heap.size:=S.lt 0 rfl
        replace S:=Lib.hid S
        clear Q hP
        go_wp2_with fail
        refine (hU.out _ _ _ _ (S.out.r 0 rfl)).mono ?_
        rintro e w5 ⟨rfl,bb⟩
        have T:=(S.out.call bb)
        clear bb S c_x0 f_x0 c_x1 f_x1 c_x2 f_x2 c_r0 f_r0 c_r1 f_r1 c_r2 f_r2 hz
        have S:=T
        clear T
        obtain⟨c_x0,c_x1,c_x2,f_x0,f_x1,f_x2⟩:=S.cf3 0 rfl
        obtain⟨c_r0,c_r1,c_r2,f_r0,f_r1,f_r2⟩:=S.cf3 1 rfl
        have hz:w3.heap.size<w5.heap.size:=S.lt 0 rfl
        replace S:=Lib.hid S
        clear hU
        go_wp2_with fail
        refine (hS.out _ _ _ _ _ _ _ ⟨(S.out.r 2 rfl),(S.out.r 1 rfl)⟩).mono ?_
        rintro e w6 ⟨A9,n9,c9,D9,m9,d9,rfl,Q,bb⟩
        have T:=(((S.out.call bb).read Q.n).read Q.d)
        clear bb S c_x0 f_x0 c_x1 f_x1 c_x2 f_x2 c_r0 f_r0 c_r1 f_r1 c_r2 f_r2 hz
        have S:=T
        clear T
        obtain⟨c_x0,c_x1,c_x2,f_x0,f_x1,f_x2⟩:=S.cf3 0 rfl
        obtain⟨c_r0,c_r1,c_r2,f_r0,f_r1,f_r2⟩:=S.cf3 1 rfl
        have hz:w3.heap.size<w6.heap.size:=S.lt 0 rfl
        replace S:=Lib.hid S
        clear Q
        have S:St w _ [(w3.heap.size,#[.bool (ng dq.num),.slice A1 n1 c1,.slice D1 m1 d1],46),(w.heap.size,#[.bool (ng q.num),.slice A9 n9 c9,.slice D9 m9 d9],46)] [(D9,m9,d9,dn q),(A9,n9,c9,limbs q.num.natAbs),(A2,n2,c2,limbs V),(D1,m1,d1,dn dq),(A1,n1,c1,limbs dq.num.natAbs)]:=(((S.out.set 1 0 (.bool (ng q.num)) rfl (by nofun)).set 1 1 (.slice A9 n9 c9) rfl (by nofun)).set 1 2 (.slice D9 m9 d9) rfl (by nofun))
        replace S:=Lib.hid S
        go_wp2
        refine bodyPost_ret (res_rParse _ _ (w.heap.size) 46 rfl rfl (S.out.bk _ (List.mem_of_getElem? (i:=1) rfl)).1) rfl ?_
        exact⟨_,_,_,_,_,_,rfl,⟨S.out.r 1 rfl,S.out.r 0 rfl⟩,S.out.bel⟩
       ·have hf:psok s=false:=by rw[hsk2,hxk,decide_eq_false h40,Bool.and_false]
        rw[hf,hbad hf]
        have hu1:(40:Int)<(u:Int):=by omega
        have hu2:decide ((40:Int)<(u:Int))=true:=decide_eq_true hu1
        have ht1:(0:Int)<(T.size:Int):=by omega
        have ht2:(((T[0]).toNat:Int)==45)=false:=by
         rw[beq_eq_false_iff_ne];have:=hnt hneg t0;omega
        clear hneg
        clear hbad hsk2 hxk hun huv hgood hre hrn hsz hnt hds hdt huo hf h40 huV
        go_enter Tryz.func92,Tryz.ntmps92
        go_wp2_with fail
        refine (hC.out _).mono ?_
        rintro e w1 ⟨rfl,bb⟩
        have T:=(S.out.call bb)
        clear bb S
        have S:=T
        clear T
        obtain⟨c_r0,c_r1,c_r2,f_r0,f_r1,f_r2⟩:=S.cf3 0 rfl
        have hz:w.heap.size<w1.heap.size:=S.lt 0 rfl
        replace S:=Lib.hid S
        clear hC
        go_wp2_with fail
        refine (hE.out _).mono ?_
        rintro e w2 ⟨rfl,bb⟩
        have T:=(S.out.call bb)
        clear bb S c_r0 f_r0 c_r1 f_r1 c_r2 f_r2 hz
        have S:=T
        clear T
        obtain⟨c_r0,c_r1,c_r2,f_r0,f_r1,f_r2⟩:=S.cf3 0 rfl
        have hz:w.heap.size<w2.heap.size:=S.lt 0 rfl
        replace S:=Lib.hid S
        clear hE
        go_wp2_with fail
        refine (hDc.out _).mono ?_
        rintro e w3 ⟨A1,n1,c1,D1,m1,d1,rfl,Q,bb⟩
        have T:=(((S.out.call bb).read Q.n).read Q.d)
        clear bb S c_r0 f_r0 c_r1 f_r1 c_r2 f_r2 hz
        have S:=T
        clear T
        obtain⟨c_r0,c_r1,c_r2,f_r0,f_r1,f_r2⟩:=S.cf3 0 rfl
        have hz:w.heap.size<w3.heap.size:=S.lt 0 rfl
        replace S:=Lib.hid S
        clear Q hDc
        have S:=(S.out.allocAt (w3.heap.size) #[.bool (ng dq.num),.slice A1 n1 c1,.slice D1 m1 d1] 46 (noL3 _ _ _ _ _ _ _) (by simp))
        obtain⟨a_r0,a_r1,a_r2,b_r0,b_r1,b_r2⟩:=S.cf3 1 rfl
        replace S:=Lib.hid S
        go_wp2_with fail
        refine (hP.out _).mono ?_
        rintro e w4 ⟨A2,n2,c2,rfl,Q,bb⟩
        have T:=((S.out.call bb).read Q)
        clear bb S c_r0 f_r0 c_r1 f_r1 c_r2 f_r2 hz a_r0 b_r0 a_r1 b_r1 a_r2 b_r2
        have S:=T
        clear T
        obtain⟨c_x0,c_x1,c_x2,f_x0,f_x1,f_x2⟩:=S.cf3 0 rfl
        obtain⟨c_r0,c_r1,c_r2,f_r0,f_r1,f_r2⟩:=S.cf3 1 rfl
        have hz:w3.heap.size<w4.heap.size:=S.lt 0 rfl
        replace S:=Lib.hid S
        clear Q hP
        go_wp2_with fail
        refine (hU.out _ _ _ _ (S.out.r 0 rfl)).mono ?_
        rintro e w5 ⟨rfl,bb⟩
        have T:=(S.out.call bb)
        clear bb S c_x0 f_x0 c_x1 f_x1 c_x2 f_x2 c_r0 f_r0 c_r1 f_r1 c_r2 f_r2 hz
        have S:=T
        clear T
        obtain⟨c_x0,c_x1,c_x2,f_x0,f_x1,f_x2⟩:=S.cf3 0 rfl
        obtain⟨c_r0,c_r1,c_r2,f_r0,f_r1,f_r2⟩:=S.cf3 1 rfl
        have hz:w3.heap.size<w5.heap.size:=S.lt 0 rfl
        replace S:=Lib.hid S
        clear hU
        have S:St w _ [(w3.heap.size,#[.bool (ng dq.num),.slice A1 n1 c1,.slice D1 m1 d1],46),(w.heap.size,#[.bool false,.slice none 0 0,.slice none 0 0],46)] [(A2,n2,c2,limbs V),(D1,m1,d1,dn dq),(A1,n1,c1,limbs dq.num.natAbs)]:=(((S.out.set 1 0 (.bool false) rfl (by nofun)).set 1 1 (.slice none 0 0) rfl (by nofun)).set 1 2 (.slice none 0 0) rfl (by nofun))
        replace S:=Lib.hid S
        go_wp2
        refine bodyPost_ret (res_rParse _ _ (w.heap.size) 46 rfl rfl (S.out.bk _ (List.mem_of_getElem? (i:=1) rfl)).1) rfl ?_
        exact⟨none,0,0,none,0,0,rfl,zero_RR _ _ _ _ _,S.out.bel⟩
   ·obtain⟨t0,ht45⟩:=hsz hneg
    have hTE:T=E.extract 1 E.size:=hre hneg
    clear hre
    have hre:True:=trivial
    cases hdt:isDec T
    ·have hf:psok s=false:=by rw[hsk2,hxk,hdt];rfl
     rw[hf,hbad hf]
     rw[hdt] at hP
     replace hP:=Lib.hid hP
     cases huo:uok V
     ·rw[huo] at hU
      have ht1:(0:Int)<(E.size:Int):=by omega
      have ht2:(((E[0]).toNat:Int)==45)=true:=by rw[beq_iff_eq];omega
      have ht3:E.extract 1 E.size=T:=hTE.symm
      have ht4:(1:Int)≤(E.size:Int):=by omega
      clear hneg hTE ht45
      clear hbad hsk2 hxk hun huv hgood hre hrn hsz hnt hds hdt huo hf
      go_enter Tryz.func92,Tryz.ntmps92
      go_wp2_with fail
      refine (hC.out _).mono ?_
      rintro e w1 ⟨rfl,bb⟩
      have T:=(S.out.call bb)
      clear bb S
      have S:=T
      clear T
      obtain⟨c_r0,c_r1,c_r2,f_r0,f_r1,f_r2⟩:=S.cf3 0 rfl
      have hz:w.heap.size<w1.heap.size:=S.lt 0 rfl
      replace S:=Lib.hid S
      clear hC
      go_wp2_with fail
      refine (hE.out _).mono ?_
      rintro e w2 ⟨rfl,bb⟩
      have T:=(S.out.call bb)
      clear bb S c_r0 f_r0 c_r1 f_r1 c_r2 f_r2 hz
      have S:=T
      clear T
      obtain⟨c_r0,c_r1,c_r2,f_r0,f_r1,f_r2⟩:=S.cf3 0 rfl
      have hz:w.heap.size<w2.heap.size:=S.lt 0 rfl
      replace S:=Lib.hid S
      clear hE
      go_wp2_with fail
      refine (hDc.out _).mono ?_
      rintro e w3 ⟨A1,n1,c1,D1,m1,d1,rfl,Q,bb⟩
      have T:=(((S.out.call bb).read Q.n).read Q.d)
      clear bb S c_r0 f_r0 c_r1 f_r1 c_r2 f_r2 hz
      have S:=T
      clear T
      obtain⟨c_r0,c_r1,c_r2,f_r0,f_r1,f_r2⟩:=S.cf3 0 rfl
      have hz:w.heap.size<w3.heap.size:=S.lt 0 rfl
      replace S:=Lib.hid S
      clear Q hDc
      have S:=(S.out.allocAt (w3.heap.size) #[.bool (ng dq.num),.slice A1 n1 c1,.slice D1 m1 d1] 46 (noL3 _ _ _ _ _ _ _) (by simp))
      obtain⟨a_r0,a_r1,a_r2,b_r0,b_r1,b_r2⟩:=S.cf3 1 rfl
      replace S:=Lib.hid S
      go_wp2_with fail
      refine (hP.out _).mono ?_
      rintro e w4 ⟨A2,n2,c2,rfl,Q,bb⟩
      have T:=((S.out.call bb).read Q)
      clear bb S c_r0 f_r0 c_r1 f_r1 c_r2 f_r2 hz a_r0 b_r0 a_r1 b_r1 a_r2 b_r2
      have S:=T
      clear T
      obtain⟨c_x0,c_x1,c_x2,f_x0,f_x1,f_x2⟩:=S.cf3 0 rfl
      obtain⟨c_r0,c_r1,c_r2,f_r0,f_r1,f_r2⟩:=S.cf3 1 rfl
      have hz:w3.heap.size<w4.heap.size:=S.lt 0 rfl
      replace S:=Lib.hid S
      clear Q hP
      go_wp2_with fail
      refine (hU.out _ _ _ _ (S.out.r 0 rfl)).mono ?_
      rintro e w5 ⟨rfl,bb⟩
      have T:=(S.out.call bb)
      clear bb S c_x0 f_x0 c_x1 f_x1 c_x2 f_x2 c_r0 f_r0 c_r1 f_r1 c_r2 f_r2 hz
      have S:=T
      clear T
      obtain⟨c_x0,c_x1,c_x2,f_x0,f_x1,f_x2⟩:=S.cf3 0 rfl
      obtain⟨c_r0,c_r1,c_r2,f_r0,f_r1,f_r2⟩:=S.cf3 1 rfl
      have hz:w3.heap.size<w5.heap.size:=S.lt 0 rfl
      replace S:=Lib.hid S
      clear hU
      have S:St w _ [(w3.heap.size,#[.bool (ng dq.num),.slice A1 n1 c1,.slice D1 m1 d1],46),(w.heap.size,#[.bool false,.slice none 0 0,.slice none 0 0],46)] [(A2,n2,c2,limbs V),(D1,m1,d1,dn dq),(A1,n1,c1,limbs dq.num.natAbs)]:=(((S.out.set 1 0 (.bool false) rfl (by nofun)).set 1 1 (.slice none 0 0) rfl (by nofun)).set 1 2 (.slice none 0 0) rfl (by nofun))
      replace S:=Lib.hid S
      go_wp2
      refine bodyPost_ret (res_rParse _ _ (w.heap.size) 46 rfl rfl (S.out.bk _ (List.mem_of_getElem? (i:=1) rfl)).1) rfl ?_
      exact⟨none,0,0,none,0,0,rfl,zero_RR _ _ _ _ _,S.out.bel⟩
     ·rw[huo] at hU
      have ht1:(0:Int)<(E.size:Int):=by omega
      have ht2:(((E[0]).toNat:Int)==45)=true:=by rw[beq_iff_eq];omega
      have ht3:E.extract 1 E.size=T:=hTE.symm
      have ht4:(1:Int)≤(E.size:Int):=by omega
      clear hneg hTE ht45
      clear hbad hsk2 hxk hun huv hgood hre hrn hsz hnt hds hdt huo hf
      go_enter Tryz.func92,Tryz.ntmps92
      go_wp2_with fail
      refine (hC.out _).mono ?_
      rintro e w1 ⟨rfl,bb⟩
      have T:=(S.out.call bb)
      clear bb S
      have S:=T
      clear T
      obtain⟨c_r0,c_r1,c_r2,f_r0,f_r1,f_r2⟩:=S.cf3 0 rfl
      have hz:w.heap.size<w1.heap.size:=S.lt 0 rfl
      replace S:=Lib.hid S
      clear hC
      go_wp2_with fail
      refine (hE.out _).mono ?_
      rintro e w2 ⟨rfl,bb⟩
      have T:=(S.out.call bb)
      clear bb S c_r0 f_r0 c_r1 f_r1 c_r2 f_r2 hz
      have S:=T
      clear T
      obtain⟨c_r0,c_r1,c_r2,f_r0,f_r1,f_r2⟩:=S.cf3 0 rfl
      have hz:w.heap.size<w2.heap.size:=S.lt 0 rfl
      replace S:=Lib.hid S
      clear hE
      go_wp2_with fail
      refine (hDc.out _).mono ?_
      rintro e w3 ⟨A1,n1,c1,D1,m1,d1,rfl,Q,bb⟩
      have T:=(((S.out.call bb).read Q.n).read Q.d)
      clear bb S c_r0 f_r0 c_r1 f_r1 c_r2 f_r2 hz
      have S:=T
      clear T
      obtain⟨c_r0,c_r1,c_r2,f_r0,f_r1,f_r2⟩:=S.cf3 0 rfl
      have hz:w.heap.size<w3.heap.size:=S.lt 0 rfl
      replace S:=Lib.hid S
      clear Q hDc
      have S:=(S.out.allocAt (w3.heap.size) #[.bool (ng dq.num),.slice A1 n1 c1,.slice D1 m1 d1] 46 (noL3 _ _ _ _ _ _ _) (by simp))
      obtain⟨a_r0,a_r1,a_r2,b_r0,b_r1,b_r2⟩:=S.cf3 1 rfl
      replace S:=Lib.hid S
      go_wp2_with fail
      refine (hP.out _).mono ?_
      rintro e w4 ⟨A2,n2,c2,rfl,Q,bb⟩
      have T:=((S.out.call bb).read Q)
      clear bb S c_r0 f_r0 c_r1 f_r1 c_r2 f_r2 hz a_r0 b_r0 a_r1 b_r1 a_r2 b_r2
      have S:=T
      clear T
      obtain⟨c_x0,c_x1,c_x2,f_x0,f_x1,f_x2⟩:=S.cf3 0 rfl
      obtain⟨c_r0,c_r1,c_r2,f_r0,f_r1,f_r2⟩:=S.cf3 1 rfl
      have hz:w3.heap.size<w4.heap.size:=S.lt 0 rfl
      replace S:=Lib.hid S
      clear Q hP
      go_wp2_with fail
      refine (hU.out _ _ _ _ (S.out.r 0 rfl)).mono ?_
      rintro e w5 ⟨rfl,bb⟩
      have T:=(S.out.call bb)
      clear bb S c_x0 f_x0 c_x1 f_x1 c_x2 f_x2 c_r0 f_r0 c_r1 f_r1 c_r2 f_r2 hz
      have S:=T
      clear T
      obtain⟨c_x0,c_x1,c_x2,f_x0,f_x1,f_x2⟩:=S.cf3 0 rfl
      obtain⟨c_r0,c_r1,c_r2,f_r0,f_r1,f_r2⟩:=S.cf3 1 rfl
      have hz:w3.heap.size<w5.heap.size:=S.lt 0 rfl
      replace S:=Lib.hid S
      clear hU
      have S:St w _ [(w3.heap.size,#[.bool (ng dq.num),.slice A1 n1 c1,.slice D1 m1 d1],46),(w.heap.size,#[.bool false,.slice none 0 0,.slice none 0 0],46)] [(A2,n2,c2,limbs V),(D1,m1,d1,dn dq),(A1,n1,c1,limbs dq.num.natAbs)]:=(((S.out.set 1 0 (.bool false) rfl (by nofun)).set 1 1 (.slice none 0 0) rfl (by nofun)).set 1 2 (.slice none 0 0) rfl (by nofun))
      replace S:=Lib.hid S
      go_wp2
      refine bodyPost_ret (res_rParse _ _ (w.heap.size) 46 rfl rfl (S.out.bk _ (List.mem_of_getElem? (i:=1) rfl)).1) rfl ?_
      exact⟨none,0,0,none,0,0,rfl,zero_RR _ _ _ _ _,S.out.bel⟩
    ·rw[hdt] at hP
     replace hP:=Lib.hid hP
     cases huo:uok V
     ·have h40:=hun huo
      have hf:psok s=false:=by rw[hsk2,hxk,decide_eq_false (show ¬ V≤40 by omega),Bool.and_false]
      rw[hf,hbad hf]
      rw[huo] at hU
      have ht1:(0:Int)<(E.size:Int):=by omega
      have ht2:(((E[0]).toNat:Int)==45)=true:=by rw[beq_iff_eq];omega
      have ht3:E.extract 1 E.size=T:=hTE.symm
      have ht4:(1:Int)≤(E.size:Int):=by omega
      clear hneg hTE ht45
      clear hbad hsk2 hxk hun huv hgood hre hrn hsz hnt hds hdt huo hf h40
      go_enter Tryz.func92,Tryz.ntmps92
      go_wp2_with fail
      refine (hC.out _).mono ?_
      rintro e w1 ⟨rfl,bb⟩
      have T:=(S.out.call bb)
      clear bb S
      have S:=T
      clear T
      obtain⟨c_r0,c_r1,c_r2,f_r0,f_r1,f_r2⟩:=S.cf3 0 rfl
      have hz:w.heap.size<w1.heap.size:=S.lt 0 rfl
      replace S:=Lib.hid S
      clear hC
      go_wp2_with fail
      refine (hE.out _).mono ?_
      rintro e w2 ⟨rfl,bb⟩
      have T:=(S.out.call bb)
      clear bb S c_r0 f_r0 c_r1 f_r1 c_r2 f_r2 hz
      have S:=T
      clear T
      obtain⟨c_r0,c_r1,c_r2,f_r0,f_r1,f_r2⟩:=S.cf3 0 rfl
      have hz:w.heap.size<w2.heap.size:=S.lt 0 rfl
      replace S:=Lib.hid S
      clear hE
      go_wp2_with fail
      refine (hDc.out _).mono ?_
      rintro e w3 ⟨A1,n1,c1,D1,m1,d1,rfl,Q,bb⟩
      have T:=(((S.out.call bb).read Q.n).read Q.d)
      clear bb S c_r0 f_r0 c_r1 f_r1 c_r2 f_r2 hz
      have S:=T
      clear T
      obtain⟨c_r0,c_r1,c_r2,f_r0,f_r1,f_r2⟩:=S.cf3 0 rfl
      have hz:w.heap.size<w3.heap.size:=S.lt 0 rfl
      replace S:=Lib.hid S
      clear Q hDc
      have S:=(S.out.allocAt (w3.heap.size) #[.bool (ng dq.num),.slice A1 n1 c1,.slice D1 m1 d1] 46 (noL3 _ _ _ _ _ _ _) (by simp))
      obtain⟨a_r0,a_r1,a_r2,b_r0,b_r1,b_r2⟩:=S.cf3 1 rfl
      replace S:=Lib.hid S
      go_wp2_with fail
      refine (hP.out _).mono ?_
      rintro e w4 ⟨A2,n2,c2,rfl,Q,bb⟩
      have T:=((S.out.call bb).read Q)
      clear bb S c_r0 f_r0 c_r1 f_r1 c_r2 f_r2 hz a_r0 b_r0 a_r1 b_r1 a_r2 b_r2
      have S:=T
      clear T
      obtain⟨c_x0,c_x1,c_x2,f_x0,f_x1,f_x2⟩:=S.cf3 0 rfl
      obtain⟨c_r0,c_r1,c_r2,f_r0,f_r1,f_r2⟩:=S.cf3 1 rfl
      have hz:w3.heap.size<w4.heap.size:=S.lt 0 rfl
      replace S:=Lib.hid S
      clear Q hP
      go_wp2_with fail
      refine (hU.out _ _ _ _ (S.out.r 0 rfl)).mono ?_
      rintro e w5 ⟨rfl,bb⟩
      have T:=(S.out.call bb)
      clear bb S c_x0 f_x0 c_x1 f_x1 c_x2 f_x2 c_r0 f_r0 c_r1 f_r1 c_r2 f_r2 hz
      have S:=T
      clear T
      obtain⟨c_x0,c_x1,c_x2,f_x0,f_x1,f_x2⟩:=S.cf3 0 rfl
      obtain⟨c_r0,c_r1,c_r2,f_r0,f_r1,f_r2⟩:=S.cf3 1 rfl
      have hz:w3.heap.size<w5.heap.size:=S.lt 0 rfl
      replace S:=Lib.hid S
      clear hU
      have S:St w _ [(w3.heap.size,#[.bool (ng dq.num),.slice A1 n1 c1,.slice D1 m1 d1],46),(w.heap.size,#[.bool false,.slice none 0 0,.slice none 0 0],46)] [(A2,n2,c2,limbs V),(D1,m1,d1,dn dq),(A1,n1,c1,limbs dq.num.natAbs)]:=(((S.out.set 1 0 (.bool false) rfl (by nofun)).set 1 1 (.slice none 0 0) rfl (by nofun)).set 1 2 (.slice none 0 0) rfl (by nofun))
      replace S:=Lib.hid S
      go_wp2
      refine bodyPost_ret (res_rParse _ _ (w.heap.size) 46 rfl rfl (S.out.bk _ (List.mem_of_getElem? (i:=1) rfl)).1) rfl ?_
      exact⟨none,0,0,none,0,0,rfl,zero_RR _ _ _ _ _,S.out.bel⟩
     ·have huV:=huv huo
      rw[huo] at hU
      by_cases h40:V≤40
      ·have hf:=hgood (by rw[hxk,hdt,decide_eq_true h40];rfl)
       rw[hf.1,hf.2,hneg]
       have hu1:¬ (40:Int)<(u:Int):=by omega
       have hu2:decide ((40:Int)<(u:Int))=false:=decide_eq_false hu1
       have hu3:IntKind.i64.wrap (u:Int)=(u:Int):=IntWalk.i64_in _ (by omega)
       have hS:Hid (∀ W A n c D m d,RR W A n c D m d dq→Calls Tryz.prog 138 #[.agg #[.bool (ng dq.num),.slice A n c,.slice D m d],.bool true,.int .i64 (u:Int)] W (RetR (if true=true then dq / p10q V else dq*p10q V) W)):=Lib.hid fun W A n c D m d h=>by
        rw[huV];exact rscaled_any dq A n c D m d true V W h (hds.out.mono (by decide)) h40
       generalize (if true=true then dq / p10q V else dq*p10q V)=q at *
       have ht1:(0:Int)<(E.size:Int):=by omega
       have ht2:(((E[0]).toNat:Int)==45)=true:=by rw[beq_iff_eq];omega
       have ht3:E.extract 1 E.size=T:=hTE.symm
       have ht4:(1:Int)≤(E.size:Int):=by omega
       clear hneg hTE ht45
       clear hbad hsk2 hxk hun huv hgood hre hrn hsz hnt hds hdt huo hf h40 huV
       go_enter Tryz.func92,Tryz.ntmps92
       go_wp2_with fail
       refine (hC.out _).mono ?_
       rintro e w1 ⟨rfl,bb⟩
       have T:=(S.out.call bb)
       clear bb S
       have S:=T
       clear T
       obtain⟨c_r0,c_r1,c_r2,f_r0,f_r1,f_r2⟩:=S.cf3 0 rfl
       have hz:w.heap.size<w1.heap.size:=S.lt 0 rfl
       replace S:=Lib.hid S
       clear hC
       go_wp2_with fail
       refine (hE.out _).mono ?_
       rintro e w2 ⟨rfl,bb⟩
       have T:=(S.out.call bb)
       clear bb S c_r0 f_r0 c_r1 f_r1 c_r2 f_r2 hz
       have S:=T
       clear T
       obtain⟨c_r0,c_r1,c_r2,f_r0,f_r1,f_r2⟩:=S.cf3 0 rfl
       have hz:w.heap.size<w2.heap.size:=S.lt 0 rfl
       replace S:=Lib.hid S
       clear hE
       go_wp2_with fail
       refine (hDc.out _).mono ?_
       rintro e w3 ⟨A1,n1,c1,D1,m1,d1,rfl,Q,bb⟩
       have T:=(((S.out.call bb).read Q.n).read Q.d)
       clear bb S c_r0 f_r0 c_r1 f_r1 c_r2 f_r2 hz
       have S:=T
       clear T
       obtain⟨c_r0,c_r1,c_r2,f_r0,f_r1,f_r2⟩:=S.cf3 0 rfl
       have hz:w.heap.size<w3.heap.size:=S.lt 0 rfl
       replace S:=Lib.hid S
       clear Q hDc
       have S:=(S.out.allocAt (w3.heap.size) #[.bool (ng dq.num),.slice A1 n1 c1,.slice D1 m1 d1] 46 (noL3 _ _ _ _ _ _ _) (by simp))
       obtain⟨a_r0,a_r1,a_r2,b_r0,b_r1,b_r2⟩:=S.cf3 1 rfl
       replace S:=Lib.hid S
       go_wp2_with fail
       refine (hP.out _).mono ?_
       rintro e w4 ⟨A2,n2,c2,rfl,Q,bb⟩
       have T:=((S.out.call bb).read Q)
       clear bb S c_r0 f_r0 c_r1 f_r1 c_r2 f_r2 hz a_r0 b_r0 a_r1 b_r1 a_r2 b_r2
       have S:=T
       clear T
       obtain⟨c_x0,c_x1,c_x2,f_x0,f_x1,f_x2⟩:=S.cf3 0 rfl
       obtain⟨c_r0,c_r1,c_r2,f_r0,f_r1,f_r2⟩:=S.cf3 1 rfl
       have hz:w3.heap.size<w4.heap.size:=S.lt 0 rfl
       replace S:=Lib.hid S
       clear Q hP
       go_wp2_with fail
       refine (hU.out _ _ _ _ (S.out.r 0 rfl)).mono ?_
       rintro e w5 ⟨rfl,bb⟩
       have T:=(S.out.call bb)
       clear bb S c_x0 f_x0 c_x1 f_x1 c_x2 f_x2 c_r0 f_r0 c_r1 f_r1 c_r2 f_r2 hz
       have S:=T
       clear T
       obtain⟨c_x0,c_x1,c_x2,f_x0,f_x1,f_x2⟩:=S.cf3 0 rfl
       obtain⟨c_r0,c_r1,c_r2,f_r0,f_r1,f_r2⟩:=S.cf3 1 rfl
       have hz:w3.heap.size<w5.heap.size:=S.lt 0 rfl
       replace S:=Lib.hid S
       clear hU
       go_wp2_with fail
       refine (hS.out _ _ _ _ _ _ _ ⟨(S.out.r 2 rfl),(S.out.r 1 rfl)⟩).mono ?_
       rintro e w6 ⟨A9,n9,c9,D9,m9,d9,rfl,Q,bb⟩
       have T:=(((S.out.call bb).read Q.n).read Q.d)
       clear bb S c_x0 f_x0 c_x1 f_x1 c_x2 f_x2 c_r0 f_r0 c_r1 f_r1 c_r2 f_r2 hz
       have S:=T
       clear T
       obtain⟨c_x0,c_x1,c_x2,f_x0,f_x1,f_x2⟩:=S.cf3 0 rfl
       obtain⟨c_r0,c_r1,c_r2,f_r0,f_r1,f_r2⟩:=S.cf3 1 rfl
       have hz:w3.heap.size<w6.heap.size:=S.lt 0 rfl
       replace S:=Lib.hid S
       clear Q
       have S:St w _ [(w3.heap.size,#[.bool (ng dq.num),.slice A1 n1 c1,.slice D1 m1 d1],46),(w.heap.size,#[.bool (ng q.num),.slice A9 n9 c9,.slice D9 m9 d9],46)] [(D9,m9,d9,dn q),(A9,n9,c9,limbs q.num.natAbs),(A2,n2,c2,limbs V),(D1,m1,d1,dn dq),(A1,n1,c1,limbs dq.num.natAbs)]:=(((S.out.set 1 0 (.bool (ng q.num)) rfl (by nofun)).set 1 1 (.slice A9 n9 c9) rfl (by nofun)).set 1 2 (.slice D9 m9 d9) rfl (by nofun))
       replace S:=Lib.hid S
       go_wp2
       refine bodyPost_ret (res_rParse _ _ (w.heap.size) 46 rfl rfl (S.out.bk _ (List.mem_of_getElem? (i:=1) rfl)).1) rfl ?_
       exact⟨_,_,_,_,_,_,rfl,⟨S.out.r 1 rfl,S.out.r 0 rfl⟩,S.out.bel⟩
      ·have hf:psok s=false:=by rw[hsk2,hxk,decide_eq_false h40,Bool.and_false]
       rw[hf,hbad hf]
       have hu1:(40:Int)<(u:Int):=by omega
       have hu2:decide ((40:Int)<(u:Int))=true:=decide_eq_true hu1
       have ht1:(0:Int)<(E.size:Int):=by omega
       have ht2:(((E[0]).toNat:Int)==45)=true:=by rw[beq_iff_eq];omega
       have ht3:E.extract 1 E.size=T:=hTE.symm
       have ht4:(1:Int)≤(E.size:Int):=by omega
       clear hneg hTE ht45
       clear hbad hsk2 hxk hun huv hgood hre hrn hsz hnt hds hdt huo hf h40 huV
       go_enter Tryz.func92,Tryz.ntmps92
       go_wp2_with fail
       refine (hC.out _).mono ?_
       rintro e w1 ⟨rfl,bb⟩
       have T:=(S.out.call bb)
       clear bb S
       have S:=T
       clear T
       obtain⟨c_r0,c_r1,c_r2,f_r0,f_r1,f_r2⟩:=S.cf3 0 rfl
       have hz:w.heap.size<w1.heap.size:=S.lt 0 rfl
       replace S:=Lib.hid S
       clear hC
       go_wp2_with fail
       refine (hE.out _).mono ?_
       rintro e w2 ⟨rfl,bb⟩
       have T:=(S.out.call bb)
       clear bb S c_r0 f_r0 c_r1 f_r1 c_r2 f_r2 hz
       have S:=T
       clear T
       obtain⟨c_r0,c_r1,c_r2,f_r0,f_r1,f_r2⟩:=S.cf3 0 rfl
       have hz:w.heap.size<w2.heap.size:=S.lt 0 rfl
       replace S:=Lib.hid S
       clear hE
       go_wp2_with fail
       refine (hDc.out _).mono ?_
       rintro e w3 ⟨A1,n1,c1,D1,m1,d1,rfl,Q,bb⟩
       have T:=(((S.out.call bb).read Q.n).read Q.d)
       clear bb S c_r0 f_r0 c_r1 f_r1 c_r2 f_r2 hz
       have S:=T
       clear T
       obtain⟨c_r0,c_r1,c_r2,f_r0,f_r1,f_r2⟩:=S.cf3 0 rfl
       have hz:w.heap.size<w3.heap.size:=S.lt 0 rfl
       replace S:=Lib.hid S
       clear Q hDc
       have S:=(S.out.allocAt (w3.heap.size) #[.bool (ng dq.num),.slice A1 n1 c1,.slice D1 m1 d1] 46 (noL3 _ _ _ _ _ _ _) (by simp))
       obtain⟨a_r0,a_r1,a_r2,b_r0,b_r1,b_r2⟩:=S.cf3 1 rfl
       replace S:=Lib.hid S
       go_wp2_with fail
       refine (hP.out _).mono ?_
       rintro e w4 ⟨A2,n2,c2,rfl,Q,bb⟩
       have T:=((S.out.call bb).read Q)
       clear bb S c_r0 f_r0 c_r1 f_r1 c_r2 f_r2 hz a_r0 b_r0 a_r1 b_r1 a_r2 b_r2
       have S:=T
       clear T
       obtain⟨c_x0,c_x1,c_x2,f_x0,f_x1,f_x2⟩:=S.cf3 0 rfl
       obtain⟨c_r0,c_r1,c_r2,f_r0,f_r1,f_r2⟩:=S.cf3 1 rfl
       have hz:w3.heap.size<w4.heap.size:=S.lt 0 rfl
       replace S:=Lib.hid S
       clear Q hP
       go_wp2_with fail
       refine (hU.out _ _ _ _ (S.out.r 0 rfl)).mono ?_
       rintro e w5 ⟨rfl,bb⟩
       have T:=(S.out.call bb)
       clear bb S c_x0 f_x0 c_x1 f_x1 c_x2 f_x2 c_r0 f_r0 c_r1 f_r1 c_r2 f_r2 hz
       have S:=T
       clear T
       obtain⟨c_x0,c_x1,c_x2,f_x0,f_x1,f_x2⟩:=S.cf3 0 rfl
       obtain⟨c_r0,c_r1,c_r2,f_r0,f_r1,f_r2⟩:=S.cf3 1 rfl
       have hz:w3.heap.size<w5.heap.size:=S.lt 0 rfl
       replace S:=Lib.hid S
       clear hU
       have S:St w _ [(w3.heap.size,#[.bool (ng dq.num),.slice A1 n1 c1,.slice D1 m1 d1],46),(w.heap.size,#[.bool false,.slice none 0 0,.slice none 0 0],46)] [(A2,n2,c2,limbs V),(D1,m1,d1,dn dq),(A1,n1,c1,limbs dq.num.natAbs)]:=(((S.out.set 1 0 (.bool false) rfl (by nofun)).set 1 1 (.slice none 0 0) rfl (by nofun)).set 1 2 (.slice none 0 0) rfl (by nofun))
       replace S:=Lib.hid S
       go_wp2
       refine bodyPost_ret (res_rParse _ _ (w.heap.size) 46 rfl rfl (S.out.bk _ (List.mem_of_getElem? (i:=1) rfl)).1) rfl ?_
       exact⟨none,0,0,none,0,0,rfl,zero_RR _ _ _ _ _,S.out.bel⟩
end Go.Proofs.YtdeedofmflelfaaGreatDoor

namespace Go.Proofs.YtdeedofmflelfaaGreatDoor
open Go.RowKit RQ
set_option linter.unusedVariables false
theorem ndec_lt (s:ByteArray):ndec s<10^s.size:=by
 unfold ndec
 split
 ·rename_i h
  obtain⟨_,_,ha⟩:=isDec_yes' h
  have:=dval_lt ha
  rwa [toList_len] at this
 ·exact Nat.pow_pos (by decide)
theorem Rs.mul_le {x y:Rat} {p k t:Nat} (h1:Rs x p) (h2:Rs y k) (h:p+k≤t):Rs (x*y) t:=(h1.mul h2).mono h
theorem p10q_size {v:Nat} (h:v≤40):Rs (p10q v) 8:=by
 have h1:(10:Nat)^v≤10^40:=Nat.pow_le_pow_right (by decide) h
 have h2:(10:Nat)^40<4294967296^8:=by decide
 exact Rs.int (by rw[Int.natAbs_natCast];omega) (by decide)
theorem p1_size {s:ByteArray} (hs:s.size≤300):Rs (p1q s) 60:=by
 unfold p1q
 cases hb:hasB 47 s.data.toList
 ·rw[if_neg (by simp)]
  cases he:hasE s.data.toList
  ·rw[(psq_plain he).2]
   exact (dcq_size (by have:=pM_size s;omega)).mono (by decide)
  ·cases hk:psok s
   ·rw[psq_bad hk];exact⟨by decide,by decide⟩
   ·have h2:xok (pX s)=true∧pdok (pM s)=true:=by
     unfold psok at hk;rw[he] at hk
     simpa using hk
    rw[(psq_exp he h2.2 h2.1).2]
    have hv:ndec (rest (pX s))≤40:=by
     have:=h2.1;unfold xok at this;rw[Bool.and_eq_true] at this;exact of_decide_eq_true this.2
    have h3:=dcq_size (s:=pM s) (by have:=pM_size s;omega)
    have h4:=p10q_size hv
    split
    ·rw[Rat.div_def]
     exact Rs.mul_le h3 (h4.inv (by decide)) (by decide)
    ·exact Rs.mul_le h3 h4 (by decide)
 ·rw[if_pos rfl]
  obtain⟨l1,l2⟩:=bef_size 47 s hb
  unfold fq
  split
  ·rename_i h
   have hy:0<ndec (bs (aft 47 s.data.toList)):=by
    unfold fok at h
    rw[Bool.and_eq_true,Bool.not_eq_true',beq_eq_false_iff_ne] at h
    omega
   have h1:=ndec_lt (bs (bef 47 s.data.toList))
   have h2:=ndec_lt (bs (aft 47 s.data.toList))
   have h3:=limbs_len_le.1 (pow10_l32 (k:=(bs (bef 47 s.data.toList)).size) (by omega))
   have h4:=limbs_len_le.1 (pow10_l32 (k:=(bs (aft 47 s.data.toList)).size) (by omega))
   have h5:(4294967296:Nat)^32≤4294967296^60:=pow_mono (by decide)
   exact Rs.divInt (by omega) (by rw[Int.natAbs_natCast];omega) (by rw[Int.natAbs_natCast];omega)
  ·exact⟨by decide,by decide⟩
theorem hm_cons {T:ByteArray} (h:hm T=true):∃ r,T.data.toList=45::r:=by
 unfold hm Lib.hasPrefix at h
 cases hl:T.data.toList with
 | nil=>rw[hl] at h;cases h
 | cons c r=>
  rw[hl] at h
  simp[List.isPrefixOf] at h
  exact⟨r,by rw[←h]⟩
theorem dec_45 (r:List UInt8):isDec (bs (45::r))=false:=hm_dec (by unfold hm Lib.hasPrefix;rw[bs_list];simp[List.isPrefixOf])
theorem pd_45 {s:ByteArray} {r:List UInt8} (h:s.data.toList=45::r):pdok s=false:=by
 unfold pdok pdB
 rw[h]
 have e:bef 46 (45::r)=45::bef 46 r:=by unfold bef;rw[List.takeWhile_cons_of_pos (by decide)]
 rw[e,dec_45];rfl
theorem p1_45 {T:ByteArray} (h:hm T=true):p1ok T=false∧p1q T=0:=by
 obtain⟨r,hr⟩:=hm_cons h
 have e47:bef 47 (45::r)=45::bef 47 r:=by unfold bef;rw[List.takeWhile_cons_of_pos (by decide)]
 have hf:hasB 47 T.data.toList=true→fok (bs (bef 47 T.data.toList)) (bs (aft 47 T.data.toList))=false:=fun _=>by
  unfold fok;rw[hr,e47,dec_45];rfl
 have hp:pdok (pM T)=false:=by
  unfold pM
  split
  ·refine pd_45 (r:=befE r) ?_
   rw[bs_list,hr];unfold befE;rw[List.takeWhile_cons_of_pos (by decide)]
  ·exact pd_45 hr
 have hk:psok T=false:=by unfold psok;rw[hp,Bool.and_false]
 unfold p1ok p1q
 cases hb:hasB 47 T.data.toList
 ·rw[if_neg (by simp),if_neg (by simp)];exact⟨hk,psq_bad hk⟩
 ·rw[if_pos rfl,if_pos rfl];exact⟨hf hb,by unfold fq;rw[hf hb];rfl⟩
theorem rest_list {s:ByteArray} (h:hm s=true):s.data.toList=45::(rest s).data.toList:=by
 obtain⟨r,hr⟩:=hm_cons h
 unfold rest Lib.trimPrefix
 have:Lib.hasPrefix s.data.toList [45]=true:=h
 rw[this,if_pos rfl,hr];rfl
theorem ba_get {s:ByteArray} {i:Nat} {c:UInt8} (hi:i<s.size) (h:s.data.toList[i]?=some c):s[i]=c:=by
 obtain⟨hl,e⟩:=List.getElem?_eq_some_iff.1 h
 exact e
theorem rparse_one (s:ByteArray) (w:World) (hs:s.size≤300) (hh:hm s=false):Calls Tryz.prog 92 #[.string s] w (RetRE (p1q s) (.bool (p1ok s)) w):=by
 cases hb:hasB 47 s.data.toList
 ·exact rparse_plain s w hs hh hb
 ·exact rparse_slash s w hs hh hb
set_option maxRecDepth 100000 in
set_option maxHeartbeats 8000000 in
theorem rparseR_any (s:ByteArray) (w:World) (hs:s.size≤300):Calls Tryz.prog 92 #[.string s] w (RetRE (pQ s) (.bool (pOk s)) w):=by
 cases hh:hm s
 ·have e1:pQ s=p1q s:=by unfold pQ;rw[hh,hm_no hh];rfl
  have e2:pOk s=p1ok s:=by unfold pOk;rw[hm_no hh]
  rw[e1,e2];exact rparse_one s w hs hh
 have e1:pQ s = -(p1q (rest s)):=by unfold pQ;rw[hh];rfl
 have e2:pOk s=p1ok (rest s):=rfl
 rw[e1,e2]
 obtain⟨h0,h45⟩:=hm_size hh
 have hrl:=rest_list hh
 have hre:=hm_rest hh
 have hrs:(rest s).size+1=s.size:=by
  have:=congrArg List.length hrl
  rw[toList_len,List.length_cons,toList_len] at this;omega
 have hz0:(0:Int)<(s.size:Int):=by omega
 have heq:(((s[0]).toNat:Int)==45)=true:=by rw[beq_iff_eq];omega
 generalize rest s=T at *
 have hps:=p1_size (s:=T) (by omega)
 have hNg:Hid (∀ W A n c D m d,RR W A n c D m d (p1q T)→Calls Tryz.prog 133 #[.agg #[.bool (ng (p1q T).num),.slice A n c,.slice D m d]] W (RetR (-(p1q T)) W)):=Lib.hid fun W A n c D m d h=>by
  have l:=h.lens hps
  have:=Fneg_any (ng (p1q T).num) A n c _ D m d _ W h.n h.d (by omega) (by omega)
  rwa [rv_z] at this
 have S:=((St.new w).allocAt (w.heap.size) #[.bool false,.slice none 0 0,.slice none 0 0] 46 (noL3 _ _ _ _ _ _ _) (by simp))
 replace S:=Lib.hid S
 cases ht:hm T
 ·have hP:=Lib.hid (fun W=>rparse_one T W (by omega) ht)
  unfold RetRE at hP
  generalize p1q T=q at *
  generalize p1ok T=d at *
  rcases Nat.eq_zero_or_pos T.size with t0 | t0
  ·have hx:True:=trivial
   have hs1:¬ (1:Int)<(s.size:Int):=by omega
   have hs1':decide ((1:Int)<(s.size:Int))=false:=decide_eq_false hs1
   have hs2:(1:Int)≤(s.size:Int):=by omega
   have hex:s.extract 1 s.size=T:=hre.symm
   clear hre hrl hh ht
   go_enter Tryz.func92,Tryz.ntmps92
   go_wp2_with fail
   refine (hP.out _).mono ?_
   rintro e w1 ⟨A1,n1,c1,D1,m1,d1,rfl,Q,bb⟩
   have T:=(((S.out.call bb).read Q.n).read Q.d)
   clear bb S
   have S:=T
   clear T
   obtain⟨c_r0,c_r1,c_r2,f_r0,f_r1,f_r2⟩:=S.cf3 0 rfl
   have hz:w.heap.size<w1.heap.size:=S.lt 0 rfl
   replace S:=Lib.hid S
   clear Q hP
   have S:=(S.out.allocAt (w1.heap.size) #[.bool (ng q.num),.slice A1 n1 c1,.slice D1 m1 d1] 46 (noL3 _ _ _ _ _ _ _) (by simp))
   obtain⟨a_r0,a_r1,a_r2,b_r0,b_r1,b_r2⟩:=S.cf3 1 rfl
   replace S:=Lib.hid S
   go_wp2_with fail
   refine (hNg.out _ _ _ _ _ _ _ ⟨(S.out.r 1 rfl),(S.out.r 0 rfl)⟩).mono ?_
   rintro e w2 ⟨A9,n9,c9,D9,m9,d9,rfl,Q,bb⟩
   have T:=(((S.out.call bb).read Q.n).read Q.d)
   clear bb S c_r0 f_r0 c_r1 f_r1 c_r2 f_r2 hz a_r0 b_r0 a_r1 b_r1 a_r2 b_r2
   have S:=T
   clear T
   obtain⟨c_x0,c_x1,c_x2,f_x0,f_x1,f_x2⟩:=S.cf3 0 rfl
   obtain⟨c_r0,c_r1,c_r2,f_r0,f_r1,f_r2⟩:=S.cf3 1 rfl
   have hz:w1.heap.size<w2.heap.size:=S.lt 0 rfl
   replace S:=Lib.hid S
   clear Q
   have S:St w _ [(w1.heap.size,#[.bool (ng q.num),.slice A1 n1 c1,.slice D1 m1 d1],46),(w.heap.size,#[.bool (ng (-q).num),.slice A9 n9 c9,.slice D9 m9 d9],46)] [(D9,m9,d9,dn (-q)),(A9,n9,c9,limbs (-q).num.natAbs),(D1,m1,d1,dn q),(A1,n1,c1,limbs q.num.natAbs)]:=(((S.out.set 1 0 (.bool (ng (-q).num)) rfl (by nofun)).set 1 1 (.slice A9 n9 c9) rfl (by nofun)).set 1 2 (.slice D9 m9 d9) rfl (by nofun))
   replace S:=Lib.hid S
   go_wp2
   refine bodyPost_ret (res_rParse _ _ (w.heap.size) 46 rfl rfl (S.out.bk _ (List.mem_of_getElem? (i:=1) rfl)).1) rfl ?_
   exact⟨_,_,_,_,_,_,rfl,⟨S.out.r 1 rfl,S.out.r 0 rfl⟩,S.out.bel⟩
  ·have hx:True:=trivial
   have hs1:(1:Int)<(s.size:Int):=by omega
   have hs2:(1:Int)≤(s.size:Int):=by omega
   have h1:1<s.size:=by omega
   have e10:s[1]=T[0]:=ba_get h1 (by rw[hrl];show T.data.toList[0]?=_;rw[List.getElem?_eq_getElem (by rw[toList_len];exact t0)];rfl)
   have heq1:(((s[1]).toNat:Int)==45)=false:=by rw[e10,beq_eq_false_iff_ne];have:=hm_not ht t0;omega
   have hex:s.extract 1 s.size=T:=hre.symm
   clear hre hrl hh ht e10
   go_enter Tryz.func92,Tryz.ntmps92
   go_wp2_with fail
   refine (hP.out _).mono ?_
   rintro e w1 ⟨A1,n1,c1,D1,m1,d1,rfl,Q,bb⟩
   have T:=(((S.out.call bb).read Q.n).read Q.d)
   clear bb S
   have S:=T
   clear T
   obtain⟨c_r0,c_r1,c_r2,f_r0,f_r1,f_r2⟩:=S.cf3 0 rfl
   have hz:w.heap.size<w1.heap.size:=S.lt 0 rfl
   replace S:=Lib.hid S
   clear Q hP
   have S:=(S.out.allocAt (w1.heap.size) #[.bool (ng q.num),.slice A1 n1 c1,.slice D1 m1 d1] 46 (noL3 _ _ _ _ _ _ _) (by simp))
   obtain⟨a_r0,a_r1,a_r2,b_r0,b_r1,b_r2⟩:=S.cf3 1 rfl
   replace S:=Lib.hid S
   go_wp2_with fail
   refine (hNg.out _ _ _ _ _ _ _ ⟨(S.out.r 1 rfl),(S.out.r 0 rfl)⟩).mono ?_
   rintro e w2 ⟨A9,n9,c9,D9,m9,d9,rfl,Q,bb⟩
   have T:=(((S.out.call bb).read Q.n).read Q.d)
   clear bb S c_r0 f_r0 c_r1 f_r1 c_r2 f_r2 hz a_r0 b_r0 a_r1 b_r1 a_r2 b_r2
   have S:=T
   clear T
   obtain⟨c_x0,c_x1,c_x2,f_x0,f_x1,f_x2⟩:=S.cf3 0 rfl
   obtain⟨c_r0,c_r1,c_r2,f_r0,f_r1,f_r2⟩:=S.cf3 1 rfl
   have hz:w1.heap.size<w2.heap.size:=S.lt 0 rfl
   replace S:=Lib.hid S
   clear Q
   have S:St w _ [(w1.heap.size,#[.bool (ng q.num),.slice A1 n1 c1,.slice D1 m1 d1],46),(w.heap.size,#[.bool (ng (-q).num),.slice A9 n9 c9,.slice D9 m9 d9],46)] [(D9,m9,d9,dn (-q)),(A9,n9,c9,limbs (-q).num.natAbs),(D1,m1,d1,dn q),(A1,n1,c1,limbs q.num.natAbs)]:=(((S.out.set 1 0 (.bool (ng (-q).num)) rfl (by nofun)).set 1 1 (.slice A9 n9 c9) rfl (by nofun)).set 1 2 (.slice D9 m9 d9) rfl (by nofun))
   replace S:=Lib.hid S
   go_wp2
   refine bodyPost_ret (res_rParse _ _ (w.heap.size) 46 rfl rfl (S.out.bk _ (List.mem_of_getElem? (i:=1) rfl)).1) rfl ?_
   exact⟨_,_,_,_,_,_,rfl,⟨S.out.r 1 rfl,S.out.r 0 rfl⟩,S.out.bel⟩
 ·obtain⟨p1,p2⟩:=p1_45 ht
  rw[p1,p2]
  obtain⟨t0,t45⟩:=hm_size ht
  have hs1:(1:Int)<(s.size:Int):=by omega
  have h1:1<s.size:=by omega
  have e10:s[1]=T[0]:=ba_get h1 (by rw[hrl];show T.data.toList[0]?=_;rw[List.getElem?_eq_getElem (by rw[toList_len];exact t0)];rfl)
  have heq1:(((s[1]).toNat:Int)==45)=true:=by rw[e10,beq_iff_eq];omega
  clear hre hrl hh ht e10 p1 p2 t45 hNg hps
  go_enter Tryz.func92,Tryz.ntmps92
  have S:=S.out
  replace S:=Lib.hid S
  go_wp2
  refine bodyPost_ret (res_rParse _ _ (w.heap.size) 46 rfl rfl (S.out.bk _ (List.mem_of_getElem? (i:=0) rfl)).1) rfl ?_
  exact⟨none,0,0,none,0,0,rfl,zero_RR _ _ _ _ _,S.out.bel⟩
end Go.Proofs.YtdeedofmflelfaaGreatDoor
