/- The reference's Parse of a text without a sign. The reference's Parse of every text; its Format. -/
import Derived.Test.YtdeedofmflelfaaGreatDoorQKaz
namespace Go.Proofs.YtdeedofmflelfaaGreatDoor
open Go.RowKit RQ
set_option linter.unusedVariables false
theorem dcq_yes {s:ByteArray} (h:pdok s=true):dcq s=(pdval s:Rat) / (10:Rat)^(pdpl s):=by
 unfold dcq;rw[h,if_pos rfl,divInt_ten]
theorem psq_plain {s:ByteArray} (h:hasE s.data.toList=false):psok s=pdok (pM s)∧psq s=dcq (pM s):=by
 have e1:psok s=pdok (pM s):=by unfold psok;rw[h];rfl
 refine⟨e1,?_⟩
 unfold psq
 rw[e1]
 cases hd:pdok (pM s)
 ·unfold dcq;rw[hd];rfl
 ·rw[if_pos rfl,dcq_yes hd,show psx s=0 from by unfold psx;rw[h];rfl]
  have:=qscale_down (pdval (pM s)) (pdpl (pM s)) 0
  rw[show (-((0:Nat):Int)-(pdpl (pM s):Int))=0-(pdpl (pM s):Int) by omega] at this
  rw[this,Rat.pow_zero]
  grind
theorem psq_exp {s:ByteArray} (h:hasE s.data.toList=true) (hd:pdok (pM s)=true) (hx:xok (pX s)=true):psok s=true∧psq s=(if hm (pX s)=true then dcq (pM s) / p10q (ndec (rest (pX s))) else dcq (pM s)*p10q (ndec (rest (pX s)))):=by
 have e1:psok s=true:=by unfold psok;rw[h,hd,hx];rfl
 refine⟨e1,?_⟩
 unfold psq
 rw[e1,if_pos rfl,dcq_yes hd]
 unfold psx xval p10q
 rw[h,hx,if_pos rfl,if_pos rfl,ten_cast]
 split
 ·exact qscale_down _ _ _
 ·exact qscale_up _ _ _
theorem psq_bad {s:ByteArray} (h:psok s=false):psq s=0:=by unfold psq;rw[h];rfl
theorem dcq_size {s:ByteArray} (hs:s.size≤300):Rs (dcq s) 40:=by
 unfold dcq
 split
 ·have h1:=limbs_len_le.1 (pow10_l32 (k:=pdpl s) (by have:=pdpl_le s;omega))
  have h5:=limbs_len_le.1 (pow10_l32 (k:=s.size) hs)
  have h2:pdval s<10^s.size:=by
   have hk:pdok s=true:=by assumption
   have:=pd_size s
   unfold pdval;rw[hk,if_pos rfl]
   refine Nat.lt_of_lt_of_le (dval_lt (pd_all hk)) (Nat.pow_le_pow_right (by decide) ?_)
   rw[List.length_append,toList_len,toList_len];omega
  have h4:(4294967296:Nat)^32≤4294967296^40:=pow_mono (by decide)
  exact Rs.divInt (p10p _) (by rw[Int.natAbs_natCast];omega) (by rw[Int.natAbs_natCast];omega)
 ·exact⟨by decide,by decide⟩
end Go.Proofs.YtdeedofmflelfaaGreatDoor

namespace Go.Proofs.YtdeedofmflelfaaGreatDoor
open Go.RowKit RQ
set_option linter.unusedVariables false
theorem ndec_lt (s:ByteArray):ndec s<10^s.size:=by
 unfold ndec
 split
 ·rename_i h
  obtain⟨_,_,ha⟩:=isDec_yes' h
  have:=dval_lt ha
  rwa [toList_len] at this
 ·exact Nat.pow_pos (by decide)
theorem Rs.mul_le {x y:Rat} {p k t:Nat} (h1:Rs x p) (h2:Rs y k) (h:p+k≤t):Rs (x*y) t:=(h1.mul h2).mono h
theorem p10q_size {v:Nat} (h:v≤40):Rs (p10q v) 8:=by
 have h1:(10:Nat)^v≤10^40:=Nat.pow_le_pow_right (by decide) h
 have h2:(10:Nat)^40<4294967296^8:=by decide
 exact Rs.int (by rw[Int.natAbs_natCast];omega) (by decide)
theorem p1_size {s:ByteArray} (hs:s.size≤300):Rs (p1q s) 60:=by
 unfold p1q
 cases hb:hasB 47 s.data.toList
 ·rw[if_neg (by simp)]
  cases he:hasE s.data.toList
  ·rw[(psq_plain he).2]
   exact (dcq_size (by have:=pM_size s;omega)).mono (by decide)
  ·cases hk:psok s
   ·rw[psq_bad hk];exact⟨by decide,by decide⟩
   ·have h2:xok (pX s)=true∧pdok (pM s)=true:=by
     unfold psok at hk;rw[he] at hk
     simpa using hk
    rw[(psq_exp he h2.2 h2.1).2]
    have hv:ndec (rest (pX s))≤40:=by
     have:=h2.1;unfold xok at this;rw[Bool.and_eq_true] at this;exact of_decide_eq_true this.2
    have h3:=dcq_size (s:=pM s) (by have:=pM_size s;omega)
    have h4:=p10q_size hv
    split
    ·rw[Rat.div_def]
     exact Rs.mul_le h3 (h4.inv (by decide)) (by decide)
    ·exact Rs.mul_le h3 h4 (by decide)
 ·rw[if_pos rfl]
  obtain⟨l1,l2⟩:=bef_size 47 s hb
  unfold fq
  split
  ·rename_i h
   have hy:0<ndec (bs (aft 47 s.data.toList)):=by
    unfold fok at h
    rw[Bool.and_eq_true,Bool.not_eq_true',beq_eq_false_iff_ne] at h
    omega
   have h1:=ndec_lt (bs (bef 47 s.data.toList))
   have h2:=ndec_lt (bs (aft 47 s.data.toList))
   have h3:=limbs_len_le.1 (pow10_l32 (k:=(bs (bef 47 s.data.toList)).size) (by omega))
   have h4:=limbs_len_le.1 (pow10_l32 (k:=(bs (aft 47 s.data.toList)).size) (by omega))
   have h5:(4294967296:Nat)^32≤4294967296^60:=pow_mono (by decide)
   exact Rs.divInt (by omega) (by rw[Int.natAbs_natCast];omega) (by rw[Int.natAbs_natCast];omega)
  ·exact⟨by decide,by decide⟩
end Go.Proofs.YtdeedofmflelfaaGreatDoor
