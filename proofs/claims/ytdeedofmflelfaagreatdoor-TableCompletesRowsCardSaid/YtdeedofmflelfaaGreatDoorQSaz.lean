/- The reference's Make and Same of rational; the law RationalMakes. The reference's Valid of rational; Light; the law RationalReadsBack. The reference's Den; the law RationalIsInLowestTerms. -/
import Derived.Test.YtdeedofmflelfaaGreatDoorQRnz
import Derived.Test.YtdeedofmflelfaaGreatDoorRf
import Derived.Test.YtdeedofmflelfaaGreatDoorQScz
namespace Go.Proofs.YtdeedofmflelfaaGreatDoor
open Go.RowKit RQ
end Go.Proofs.YtdeedofmflelfaaGreatDoor

namespace Go.Proofs.YtdeedofmflelfaaGreatDoor
open Go.RowKit RQ
theorem is1_gcd (G:Nat):is1 (limbs G)=(G==1):=by
 unfold is1;rw[Bool.eq_iff_iff,beq_iff_eq,beq_iff_eq,←limbs_is1]
 exact⟨fun h=>limbs_inj h,fun h=>by rw[h]⟩
set_option maxHeartbeats 4000000 in
theorem rvalidR_any (b:Bool) (A:Option Addr) (n c:Nat) (xs:List Nat) (D:Option Addr) (m d:Nat) (ds:List Nat) (w:World) (R1:Rd w A n c xs) (R2:Rd w D m d ds) (hn:n≤500) (hm:m≤500) :
  Calls Tryz.prog 103 #[.agg #[.bool b,.slice A n c,.slice D m d]] w fun e w'=>e=.returned (.bool (vldR b xs ds))∧Below w.heap.size w w':=by
 have hl1:=R1.len
 have hl2:=R2.len
 have s2:=R2.sm
 have hV:Hid (∀ W,Rd W A n c xs→Calls Tryz.prog 145 #[.agg #[.bool b,.slice A n c]] W fun e w'=>e=.returned (.bool (vldI b xs))∧Below W.heap.size W w'):=Lib.hid fun W h=>rvalidI_any b A n c xs W h (by omega)
 have hU:Hid (∀ W,Rd W D m d ds→Calls Tryz.prog 146 #[.slice D m d] W fun e w'=>e=.returned (.bool (vldB ds))∧Below W.heap.size W w'):=Lib.hid fun W h=>(rvalid_any D m d ds W h (by omega)).mono fun e w' hh=>⟨hh.1,by rw[hh.2];exact Below.refl _ _⟩
 have hO:Hid (∀ W,Rd W D m d ds→Calls Tryz.prog 112 #[.slice D m d] W fun e w'=>e=.returned (.bool (is1 ds))∧Below W.heap.size W w'):=Lib.hid fun W h=>one_any D m d ds W h
 have hG:Hid (∀ W,Rd W A n c xs→Rd W D m d ds→Calls Tryz.prog 147 #[.slice A n c,.slice D m d] W (RetN (Nat.gcd (num xs) (num ds)) W)):=Lib.hid fun W q1 q2=>rgcd_any A n c xs D m d ds W q1 q2 (by omega) (by omega)
 have hP:=Lib.hid (fun W A n c q=>one_any A n c (limbs (Nat.gcd (num xs) (num ds))) W q)
 have S:=((((St.new w).read R1).read R2).allocAt (w.heap.size) #[.bool b,.slice A n c,.slice D m d] 46 (noL3 _ _ _ _ _ _ _) (by simp))
 replace S:=Lib.hid S
 clear R1 R2
 cases hb:vldI b xs
 ·have hr:Hid (vldR b xs ds=false):=Lib.hid (by unfold vldR;rw[hb];rfl)
  rw[hb] at hV
  clear hU hO hG hP hb hl1 hl2 s2 hn hm
  go_enter Tryz.func103,Tryz.ntmps103
  go_wp2_with fail
  refine (hV.out _ (S.out.r 1 rfl)).mono ?_
  rintro e w1 ⟨rfl,bb⟩
  have T:=(S.out.call bb)
  clear bb S
  have S:=T
  clear T
  obtain⟨c_x0,c_x1,c_x2,f_x0,f_x1,f_x2⟩:=S.cf3 0 rfl
  have hz:w.heap.size<w1.heap.size:=S.lt 0 rfl
  replace S:=Lib.hid S
  have S:=S.out
  replace S:=Lib.hid S
  go_wp2
  go_ret
  exact⟨congrArg (fun q=>Ending.returned (.bool q)) hr.out.symm,S.out.bel⟩
 cases hd:vldB ds
 ·have hne:ds≠[]:=by rintro rfl;simp[vldB] at hd
  have hr:Hid (vldR b xs ds=false):=Lib.hid (by rw[vldR_row hne,hd];simp)
  rw[hb] at hV
  rw[hd] at hU
  clear hO hG hP hb hd hne hl1 hl2 s2 hn hm
  go_enter Tryz.func103,Tryz.ntmps103
  go_wp2_with fail
  refine (hV.out _ (S.out.r 1 rfl)).mono ?_
  rintro e w1 ⟨rfl,bb⟩
  have T:=(S.out.call bb)
  clear bb S
  have S:=T
  clear T
  obtain⟨c_x0,c_x1,c_x2,f_x0,f_x1,f_x2⟩:=S.cf3 0 rfl
  have hz:w.heap.size<w1.heap.size:=S.lt 0 rfl
  replace S:=Lib.hid S
  go_wp2_with fail
  refine (hU.out _ (S.out.r 0 rfl)).mono ?_
  rintro e w2 ⟨rfl,bb⟩
  have T:=(S.out.call bb)
  clear bb S c_x0 f_x0 c_x1 f_x1 c_x2 f_x2 hz
  have S:=T
  clear T
  obtain⟨c_x0,c_x1,c_x2,f_x0,f_x1,f_x2⟩:=S.cf3 0 rfl
  have hz:w.heap.size<w2.heap.size:=S.lt 0 rfl
  replace S:=Lib.hid S
  have S:=S.out
  replace S:=Lib.hid S
  go_wp2
  go_ret
  exact⟨congrArg (fun q=>Ending.returned (.bool q)) hr.out.symm,S.out.bel⟩
 cases h1:is1 ds
 case true=>
  have hne:ds≠[]:=by rintro rfl;simp[is1] at h1
  have hr:Hid (vldR b xs ds=false):=Lib.hid (by rw[vldR_row hne,hd,h1];simp)
  rw[hb] at hV
  rw[hd] at hU
  rw[h1] at hO
  clear hG hP hb hd h1 hne hl1 hl2 s2 hn hm
  go_enter Tryz.func103,Tryz.ntmps103
  go_wp2_with fail
  refine (hV.out _ (S.out.r 1 rfl)).mono ?_
  rintro e w1 ⟨rfl,bb⟩
  have T:=(S.out.call bb)
  clear bb S
  have S:=T
  clear T
  obtain⟨c_x0,c_x1,c_x2,f_x0,f_x1,f_x2⟩:=S.cf3 0 rfl
  have hz:w.heap.size<w1.heap.size:=S.lt 0 rfl
  replace S:=Lib.hid S
  go_wp2_with fail
  refine (hU.out _ (S.out.r 0 rfl)).mono ?_
  rintro e w2 ⟨rfl,bb⟩
  have T:=(S.out.call bb)
  clear bb S c_x0 f_x0 c_x1 f_x1 c_x2 f_x2 hz
  have S:=T
  clear T
  obtain⟨c_x0,c_x1,c_x2,f_x0,f_x1,f_x2⟩:=S.cf3 0 rfl
  have hz:w.heap.size<w2.heap.size:=S.lt 0 rfl
  replace S:=Lib.hid S
  go_wp2_with fail
  refine (hO.out _ (S.out.r 0 rfl)).mono ?_
  rintro e w3 ⟨rfl,bb⟩
  have T:=(S.out.call bb)
  clear bb S c_x0 f_x0 c_x1 f_x1 c_x2 f_x2 hz
  have S:=T
  clear T
  obtain⟨c_x0,c_x1,c_x2,f_x0,f_x1,f_x2⟩:=S.cf3 0 rfl
  have hz:w.heap.size<w3.heap.size:=S.lt 0 rfl
  replace S:=Lib.hid S
  have S:=S.out
  replace S:=Lib.hid S
  go_wp2
  go_ret
  exact⟨congrArg (fun q=>Ending.returned (.bool q)) hr.out.symm,S.out.bel⟩
 by_cases h0:m=0
 ·have hd0:ds=[]:=List.eq_nil_of_length_eq_zero (by omega)
  have hr:Hid (vldR b xs ds=true):=Lib.hid (by rw[hd0,vldR_nil,hb])
  have g0:((m:Int)==0)=true:=by rw[beq_iff_eq];omega
  rw[hb] at hV
  rw[hd] at hU
  rw[h1] at hO
  clear hG hP hb hd h1 hd0 h0 hl1 hl2 s2 hn hm
  go_enter Tryz.func103,Tryz.ntmps103
  go_wp2_with fail
  refine (hV.out _ (S.out.r 1 rfl)).mono ?_
  rintro e w1 ⟨rfl,bb⟩
  have T:=(S.out.call bb)
  clear bb S
  have S:=T
  clear T
  obtain⟨c_x0,c_x1,c_x2,f_x0,f_x1,f_x2⟩:=S.cf3 0 rfl
  have hz:w.heap.size<w1.heap.size:=S.lt 0 rfl
  replace S:=Lib.hid S
  go_wp2_with fail
  refine (hU.out _ (S.out.r 0 rfl)).mono ?_
  rintro e w2 ⟨rfl,bb⟩
  have T:=(S.out.call bb)
  clear bb S c_x0 f_x0 c_x1 f_x1 c_x2 f_x2 hz
  have S:=T
  clear T
  obtain⟨c_x0,c_x1,c_x2,f_x0,f_x1,f_x2⟩:=S.cf3 0 rfl
  have hz:w.heap.size<w2.heap.size:=S.lt 0 rfl
  replace S:=Lib.hid S
  go_wp2_with fail
  refine (hO.out _ (S.out.r 0 rfl)).mono ?_
  rintro e w3 ⟨rfl,bb⟩
  have T:=(S.out.call bb)
  clear bb S c_x0 f_x0 c_x1 f_x1 c_x2 f_x2 hz
  have S:=T
  clear T
  obtain⟨c_x0,c_x1,c_x2,f_x0,f_x1,f_x2⟩:=S.cf3 0 rfl
  have hz:w.heap.size<w3.heap.size:=S.lt 0 rfl
  replace S:=Lib.hid S
  have S:=S.out
  replace S:=Lib.hid S
  go_wp2
  go_ret
  exact⟨congrArg (fun q=>Ending.returned (.bool q)) hr.out.symm,S.out.bel⟩
 have hne:ds≠[]:=by rintro rfl;exact h0 hl2.symm
 have g0:((m:Int)==0)=false:=by rw[beq_eq_false_iff_ne];omega
 have hvd:num ds=val ds:=by unfold num;rw[hd];rfl
 have hvx:num xs=val xs:=by unfold num;rw[(vldI_parts hb).1];rfl
 have hr0:vldR b xs ds=(Nat.gcd (val xs) (val ds)==1):=by rw[vldR_row hne,hb,hd,h1];simp
 by_cases hn0:n=0
 ·have hx0:xs=[]:=List.eq_nil_of_length_eq_zero (by omega)
  have hr:Hid (vldR b xs ds=false):=Lib.hid (by
   rw[hr0,hx0,show val []=0 from rfl,Nat.gcd_zero_left,beq_eq_false_iff_ne]
   intro e
   rw[is1_val s2 hd,e] at h1
   simp at h1)
  have gn:(n:Int)≤0:=by omega
  have gn2:((n:Int))=0:=by omega
  subst hn0
  rw[hb] at hV
  rw[hd] at hU
  rw[h1] at hO
  clear hG hP hb hd h1 h0 hl1 hl2 s2 hn hm hne hvd hvx hr0 hx0 gn gn2
  go_enter Tryz.func103,Tryz.ntmps103
  go_wp2_with fail
  refine (hV.out _ (S.out.r 1 rfl)).mono ?_
  rintro e w1 ⟨rfl,bb⟩
  have T:=(S.out.call bb)
  clear bb S
  have S:=T
  clear T
  obtain⟨c_x0,c_x1,c_x2,f_x0,f_x1,f_x2⟩:=S.cf3 0 rfl
  have hz:w.heap.size<w1.heap.size:=S.lt 0 rfl
  replace S:=Lib.hid S
  go_wp2_with fail
  refine (hU.out _ (S.out.r 0 rfl)).mono ?_
  rintro e w2 ⟨rfl,bb⟩
  have T:=(S.out.call bb)
  clear bb S c_x0 f_x0 c_x1 f_x1 c_x2 f_x2 hz
  have S:=T
  clear T
  obtain⟨c_x0,c_x1,c_x2,f_x0,f_x1,f_x2⟩:=S.cf3 0 rfl
  have hz:w.heap.size<w2.heap.size:=S.lt 0 rfl
  replace S:=Lib.hid S
  go_wp2_with fail
  refine (hO.out _ (S.out.r 0 rfl)).mono ?_
  rintro e w3 ⟨rfl,bb⟩
  have T:=(S.out.call bb)
  clear bb S c_x0 f_x0 c_x1 f_x1 c_x2 f_x2 hz
  have S:=T
  clear T
  obtain⟨c_x0,c_x1,c_x2,f_x0,f_x1,f_x2⟩:=S.cf3 0 rfl
  have hz:w.heap.size<w3.heap.size:=S.lt 0 rfl
  replace S:=Lib.hid S
  have S:=S.out
  replace S:=Lib.hid S
  go_wp2
  go_ret
  exact⟨congrArg (fun q=>Ending.returned (.bool q)) hr.out.symm,S.out.bel⟩
 have hr:Hid (vldR b xs ds=is1 (limbs (Nat.gcd (num xs) (num ds)))):=Lib.hid (by rw[hr0,is1_gcd,hvd,hvx])
 have gn:(0:Int)<(n:Int):=by omega
 have gn2:0<n:=by omega
 generalize Nat.gcd (num xs) (num ds)=G at hG hP hr
 rw[hb] at hV
 rw[hd] at hU
 rw[h1] at hO
 clear hb hd h1 h0 hl1 hl2 s2 hn hm hne hvd hvx hr0 hn0
 go_enter Tryz.func103,Tryz.ntmps103
 go_wp2_with fail
 refine (hV.out _ (S.out.r 1 rfl)).mono ?_
 rintro e w1 ⟨rfl,bb⟩
 have T:=(S.out.call bb)
 clear bb S
 have S:=T
 clear T
 obtain⟨c_x0,c_x1,c_x2,f_x0,f_x1,f_x2⟩:=S.cf3 0 rfl
 have hz:w.heap.size<w1.heap.size:=S.lt 0 rfl
 replace S:=Lib.hid S
 go_wp2_with fail
 refine (hU.out _ (S.out.r 0 rfl)).mono ?_
 rintro e w2 ⟨rfl,bb⟩
 have T:=(S.out.call bb)
 clear bb S c_x0 f_x0 c_x1 f_x1 c_x2 f_x2 hz
 have S:=T
 clear T
 obtain⟨c_x0,c_x1,c_x2,f_x0,f_x1,f_x2⟩:=S.cf3 0 rfl
 have hz:w.heap.size<w2.heap.size:=S.lt 0 rfl
 replace S:=Lib.hid S
 go_wp2_with fail
 refine (hO.out _ (S.out.r 0 rfl)).mono ?_
 rintro e w3 ⟨rfl,bb⟩
 have T:=(S.out.call bb)
 clear bb S c_x0 f_x0 c_x1 f_x1 c_x2 f_x2 hz
 have S:=T
 clear T
 obtain⟨c_x0,c_x1,c_x2,f_x0,f_x1,f_x2⟩:=S.cf3 0 rfl
 have hz:w.heap.size<w3.heap.size:=S.lt 0 rfl
 replace S:=Lib.hid S
 go_wp2_with fail
 refine (hG.out _ (S.out.r 1 rfl) (S.out.r 0 rfl)).mono ?_
 rintro e w4 ⟨A3,n3,c3,rfl,Q3,bb⟩
 have T:=((S.out.call bb).read Q3)
 clear bb S c_x0 f_x0 c_x1 f_x1 c_x2 f_x2 hz
 have S:=T
 clear T
 obtain⟨c_x0,c_x1,c_x2,f_x0,f_x1,f_x2⟩:=S.cf3 0 rfl
 have hz:w.heap.size<w4.heap.size:=S.lt 0 rfl
 replace S:=Lib.hid S
 go_wp2_with fail
 refine (hP.out _ A3 n3 c3 (S.out.r 0 rfl)).mono ?_
 rintro e w5 ⟨rfl,bb⟩
 have T:=(S.out.call bb)
 clear bb S c_x0 f_x0 c_x1 f_x1 c_x2 f_x2 hz
 have S:=T
 clear T
 obtain⟨c_x0,c_x1,c_x2,f_x0,f_x1,f_x2⟩:=S.cf3 0 rfl
 have hz:w.heap.size<w5.heap.size:=S.lt 0 rfl
 replace S:=Lib.hid S
 have S:=S.out
 replace S:=Lib.hid S
 go_wp2
 go_ret
 exact⟨congrArg (fun q=>Ending.returned (.bool q)) hr.out.symm,S.out.bel⟩
end Go.Proofs.YtdeedofmflelfaaGreatDoor

namespace Go.Proofs.YtdeedofmflelfaaGreatDoor
open Go.RowKit RQ
end Go.Proofs.YtdeedofmflelfaaGreatDoor
