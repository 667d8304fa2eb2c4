/- The reference's Parse of a text without a sign. -/
import Derived.Test.YtdeedofmflelfaaGreatDoorQKaz
namespace Go.Proofs.YtdeedofmflelfaaGreatDoor
open Go.RowKit RQ
set_option linter.unusedVariables false
theorem dcq_yes {s:ByteArray} (h:pdok s=true):dcq s=(pdval s:Rat) / (10:Rat)^(pdpl s):=by
 unfold dcq;rw[h,if_pos rfl,divInt_ten]
theorem psq_plain {s:ByteArray} (h:hasE s.data.toList=false):psok s=pdok (pM s)∧psq s=dcq (pM s):=by
 have e1:psok s=pdok (pM s):=by unfold psok;rw[h];rfl
 refine⟨e1,?_⟩
 unfold psq
 rw[e1]
 cases hd:pdok (pM s)
 ·unfold dcq;rw[hd];rfl
 ·rw[if_pos rfl,dcq_yes hd,show psx s=0 from by unfold psx;rw[h];rfl]
  have:=qscale_down (pdval (pM s)) (pdpl (pM s)) 0
  rw[show (-((0:Nat):Int)-(pdpl (pM s):Int))=0-(pdpl (pM s):Int) by omega] at this
  rw[this,Rat.pow_zero]
  grind
theorem psq_exp {s:ByteArray} (h:hasE s.data.toList=true) (hd:pdok (pM s)=true) (hx:xok (pX s)=true):psok s=true∧psq s=(if hm (pX s)=true then dcq (pM s) / p10q (ndec (rest (pX s))) else dcq (pM s)*p10q (ndec (rest (pX s)))):=by
 have e1:psok s=true:=by unfold psok;rw[h,hd,hx];rfl
 refine⟨e1,?_⟩
 unfold psq
 rw[e1,if_pos rfl,dcq_yes hd]
 unfold psx xval p10q
 rw[h,hx,if_pos rfl,if_pos rfl,ten_cast]
 split
 ·exact qscale_down _ _ _
 ·exact qscale_up _ _ _
theorem psq_bad {s:ByteArray} (h:psok s=false):psq s=0:=by unfold psq;rw[h];rfl
theorem dcq_size {s:ByteArray} (hs:s.size≤300):Rs (dcq s) 40:=by
 unfold dcq
 split
 ·have h1:=limbs_len_le.1 (pow10_l32 (k:=pdpl s) (by have:=pdpl_le s;omega))
  have h5:=limbs_len_le.1 (pow10_l32 (k:=s.size) hs)
  have h2:pdval s<10^s.size:=by
   have hk:pdok s=true:=by assumption
   have:=pd_size s
   unfold pdval;rw[hk,if_pos rfl]
   refine Nat.lt_of_lt_of_le (dval_lt (pd_all hk)) (Nat.pow_le_pow_right (by decide) ?_)
   rw[List.length_append,toList_len,toList_len];omega
  have h4:(4294967296:Nat)^32≤4294967296^40:=pow_mono (by decide)
  exact Rs.divInt (p10p _) (by rw[Int.natAbs_natCast];omega) (by rw[Int.natAbs_natCast];omega)
 ·exact⟨by decide,by decide⟩
end Go.Proofs.YtdeedofmflelfaaGreatDoor
