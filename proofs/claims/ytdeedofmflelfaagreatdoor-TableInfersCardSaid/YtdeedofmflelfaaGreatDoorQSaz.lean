/- The reference's Make and Same of rational; the law RationalMakes. The reference's Valid of rational; Light; the law RationalReadsBack. The reference's Den; the law RationalIsInLowestTerms. -/
import Derived.Test.YtdeedofmflelfaaGreatDoorQRnz
import Derived.Test.YtdeedofmflelfaaGreatDoorRf
import Derived.Test.YtdeedofmflelfaaGreatDoorQScz
namespace Go.Proofs.YtdeedofmflelfaaGreatDoor
open Go.RowKit RQ
end Go.Proofs.YtdeedofmflelfaaGreatDoor

namespace Go.Proofs.YtdeedofmflelfaaGreatDoor
open Go.RowKit RQ
theorem is1_gcd (G:Nat):is1 (limbs G)=(G==1):=by
 unfold is1;rw[Bool.eq_iff_iff,beq_iff_eq,beq_iff_eq,←limbs_is1]
 exact⟨fun h=>limbs_inj h,fun h=>by rw[h]⟩
set_option maxHeartbeats 4000000 in
theorem rvalidR_any (b:Bool) (A:Option Addr) (n c:Nat) (xs:List Nat) (D:Option Addr) (m d:Nat) (ds:List Nat) (w:World) (R1:Rd w A n c xs) (R2:Rd w D m d ds) (hn:n≤500) (hm:m≤500) :
  Calls Tryz.prog 103 #[.agg #[.bool b,.slice A n c,.slice D m d]] w fun e w'=>e=.returned (.bool (vldR b xs ds))∧Below w.heap.size w w':=by
 have hl1:=R1.len
 have hl2:=R2.len
 have s2:=R2.sm
 have hV:Hid (∀ W,Rd W A n c xs→Calls Tryz.prog 145 #[.agg #[.bool b,.slice A n c]] W fun e w'=>e=.returned (.bool (vldI b xs))∧Below W.heap.size W w'):=Lib.hid fun W h=>rvalidI_any b A n c xs W h (by omega)
 have hU:Hid (∀ W,Rd W D m d ds→Calls Tryz.prog 146 #[.slice D m d] W fun e w'=>e=.returned (.bool (vldB ds))∧Below W.heap.size W w'):=Lib.hid fun W h=>(rvalid_any D m d ds W h (by omega)).mono fun e w' hh=>⟨hh.1,by rw[hh.2];exact Below.refl _ _⟩
 have hO:Hid (∀ W,Rd W D m d ds→Calls Tryz.prog 112 #[.slice D m d] W fun e w'=>e=.returned (.bool (is1 ds))∧Below W.heap.size W w'):=Lib.hid fun W h=>one_any D m d ds W h
 have hG:Hid (∀ W,Rd W A n c xs→Rd W D m d ds→Calls Tryz.prog 147 #[.slice A n c,.slice D m d] W (RetN (Nat.gcd (num xs) (num ds)) W)):=Lib.hid fun W q1 q2=>rgcd_any A n c xs D m d ds W q1 q2 (by omega) (by omega)
 have hP:=Lib.hid (fun W A n c q=>one_any A n c (limbs (Nat.gcd (num xs) (num ds))) W q)
 have S:=((((St.new w).read R1).read R2).allocAt (w.heap.size) #[.bool b,.slice A n c,.slice D m d] 46 (noL3 _ _ _ _ _ _ _) (by simp))
 replace S:=Lib.hid S
 clear R1 R2
 cases hb:vldI b xs
 ·have hr:Hid (vldR b xs ds=false):=Lib.hid (by unfold vldR;rw[hb];rfl)
  rw[hb] at hV
  clear hU hO hG hP hb hl1 hl2 s2 hn hm
  go_enter Tryz.func103,Tryz.ntmps103
  go_wp2_with fail
  refine (hV.out _ (S.out.r 1 rfl)).mono ?_
  rintro e w1 ⟨rfl,bb⟩
  have T:=(S.out.call bb)
  clear bb S
  have S:=T
  clear T
  obtain⟨c_x0,c_x1,c_x2,f_x0,f_x1,f_x2⟩:=S.cf3 0 rfl
  have hz:w.heap.size<w1.heap.size:=S.lt 0 rfl
  replace S:=Lib.hid S
  have S:=S.out
  replace S:=Lib.hid S
  go_wp2
  go_ret
  exact⟨congrArg (fun q=>Ending.returned (.bool q)) hr.out.symm,S.out.bel⟩
 cases hd:vldB ds
 ·have hne:ds≠[]:=by rintro rfl;simp[vldB] at hd
  have hr:Hid (vldR b xs ds=false):=Lib.hid (by rw[vldR_row hne,hd];simp)
  rw[hb] at hV
  rw[hd] at hU
  clear hO hG hP hb hd hne hl1 hl2 s2 hn hm
  go_enter Tryz.func103,Tryz.ntmps103
  go_wp2_with fail
  refine (hV.out _ (S.out.r 1 rfl)).mono ?_
  rintro e w1 ⟨rfl,bb⟩
  have T:=(S.out.call bb)
  clear bb S
  have S:=T
  clear T
  obtain⟨c_x0,c_x1,c_x2,f_x0,f_x1,f_x2⟩:=S.cf3 0 rfl
  have hz:w.heap.size<w1.heap.size:=S.lt 0 rfl
  replace S:=Lib.hid S
  go_wp2_with fail
  refine (hU.out _ (S.out.r 0 rfl)).mono ?_
  rintro e w2 ⟨rfl,bb⟩
  have T:=(S.out.call bb)
  clear bb S c_x0 f_x0 c_x1 f_x1 c_x2 f_x2 hz
  have S:=T
  clear T
  obtain⟨c_x0,c_x1,c_x2,f_x0,f_x1,f_x2⟩:=S.cf3 0 rfl
  have hz:w.heap.size<w2.heap.size:=S.lt 0 rfl
  replace S:=Lib.hid S
  have S:=S.out
  replace S:=Lib.hid S
  go_wp2
  go_ret
  exact⟨congrArg (fun q=>Ending.returned (.bool q)) hr.out.symm,S.out.bel⟩
 cases h1:is1 ds
 case true=>
  have hne:ds≠[]:=by rintro rfl;simp[is1] at h1
  have hr:Hid (vldR b xs ds=false):=Lib.hid (by rw[vldR_row hne,hd,h1];simp)
  rw[hb] at hV
  rw[hd] at hU
  rw[h1] at hO
  clear hG hP hb hd h1 hne hl1 hl2 s2 hn hm
  go_enter Tryz.func103,Tryz.ntmps103
  go_wp2_with fail
  refine (hV.out _ (S.out.r 1 rfl)).mono ?_
  rintro e w1 ⟨rfl,bb⟩
  have T:=(S.out.call bb)
  clear bb S
  have S:=T
  clear T
  obtain⟨c_x0,c_x1,c_x2,f_x0,f_x1,f_x2⟩:=S.cf3 0 rfl
  have hz:w.heap.size<w1.heap.size:=S.lt 0 rfl
  replace S:=Lib.hid S
  go_wp2_with fail
  refine (hU.out _ (S.out.r 0 rfl)).mono ?_
  rintro e w2 ⟨rfl,bb⟩
  have T:=(S.out.call bb)
  clear bb S c_x0 f_x0 c_x1 f_x1 c_x2 f_x2 hz
  have S:=T
  clear T
  obtain⟨c_x0,c_x1,c_x2,f_x0,f_x1,f_x2⟩:=S.cf3 0 rfl
  have hz:w.heap.size<w2.heap.size:=S.lt 0 rfl
  replace S:=Lib.hid S
  go_wp2_with fail
  refine (hO.out _ (S.out.r 0 rfl)).mono ?_
  rintro e w3 ⟨rfl,bb⟩
  have T:=(S.out.call bb)
  clear bb S c_x0 f_x0 c_x1 f_x1 c_x2 f_x2 hz
  have S:=T
  clear T
  obtain⟨c_x0,c_x1,c_x2,f_x0,f_x1,f_x2⟩:=S.cf3 0 rfl
  have hz:w.heap.size<w3.heap.size:=S.lt 0 rfl
  replace S:=Lib.hid S
  have S:=S.out
  replace S:=Lib.hid S
  go_wp2
  go_ret
  exact⟨congrArg (fun q=>Ending.returned (.bool q)) hr.out.symm,S.out.bel⟩
 by_cases h0:m=0
 ·have hd0:ds=[]:=List.eq_nil_of_length_eq_zero (by omega)
  have hr:Hid (vldR b xs ds=true):=Lib.hid (by rw[hd0,vldR_nil,hb])
  have g0:((m:Int)==0)=true:=by rw[beq_iff_eq];omega
  rw[hb] at hV
  rw[hd] at hU
  rw[h1] at hO
  clear hG hP hb hd h1 hd0 h0 hl1 hl2 s2 hn hm
  go_enter Tryz.func103,Tryz.ntmps103
  go_wp2_with fail
  refine (hV.out _ (S.out.r 1 rfl)).mono ?_
  rintro e w1 ⟨rfl,bb⟩
  have T:=(S.out.call bb)
  clear bb S
  have S:=T
  clear T
  obtain⟨c_x0,c_x1,c_x2,f_x0,f_x1,f_x2⟩:=S.cf3 0 rfl
  have hz:w.heap.size<w1.heap.size:=S.lt 0 rfl
  replace S:=Lib.hid S
  go_wp2_with fail
  refine (hU.out _ (S.out.r 0 rfl)).mono ?_
  rintro e w2 ⟨rfl,bb⟩
  have T:=(S.out.call bb)
  clear bb S c_x0 f_x0 c_x1 f_x1 c_x2 f_x2 hz
  have S:=T
  clear T
  obtain⟨c_x0,c_x1,c_x2,f_x0,f_x1,f_x2⟩:=S.cf3 0 rfl
  have hz:w.heap.size<w2.heap.size:=S.lt 0 rfl
  replace S:=Lib.hid S
  go_wp2_with fail
  refine (hO.out _ (S.out.r 0 rfl)).mono ?_
  rintro e w3 ⟨rfl,bb⟩
  have T:=(S.out.call bb)
  clear bb S c_x0 f_x0 c_x1 f_x1 c_x2 f_x2 hz
  have S:=T
  clear T
  obtain⟨c_x0,c_x1,c_x2,f_x0,f_x1,f_x2⟩:=S.cf3 0 rfl
  have hz:w.heap.size<w3.heap.size:=S.lt 0 rfl
  replace S:=Lib.hid S
  have S:=S.out
  replace S:=Lib.hid S
  go_wp2
  go_ret
  exact⟨congrArg (fun q=>Ending.returned (.bool q)) hr.out.symm,S.out.bel⟩
 have hne:ds≠[]:=by rintro rfl;exact h0 hl2.symm
 have g0:((m:Int)==0)=false:=by rw[beq_eq_false_iff_ne];omega
 have hvd:num ds=val ds:=by unfold num;rw[hd];rfl
 have hvx:num xs=val xs:=by unfold num;rw[(vldI_parts hb).1];rfl
 have hr0:vldR b xs ds=(Nat.gcd (val xs) (val ds)==1):=by rw[vldR_row hne,hb,hd,h1];simp
 by_cases hn0:n=0
 ·have hx0:xs=[]:=List.eq_nil_of_length_eq_zero (by omega)
  have hr:Hid (vldR b xs ds=false):=Lib.hid (by
   rw[hr0,hx0,show val []=0 from rfl,Nat.gcd_zero_left,beq_eq_false_iff_ne]
   intro e
   rw[is1_val s2 hd,e] at h1
   simp at h1)
  have gn:(n:Int)≤0:=by omega
  have gn2:((n:Int))=0:=by omega
  subst hn0
  rw[hb] at hV
  rw[hd] at hU
  rw[h1] at hO
  clear hG hP hb hd h1 h0 hl1 hl2 s2 hn hm hne hvd hvx hr0 hx0 gn gn2
  go_enter Tryz.func103,Tryz.ntmps103
  go_wp2_with fail
  refine (hV.out _ (S.out.r 1 rfl)).mono ?_
  rintro e w1 ⟨rfl,bb⟩
  have T:=(S.out.call bb)
  clear bb S
  have S:=T
  clear T
  obtain⟨c_x0,c_x1,c_x2,f_x0,f_x1,f_x2⟩:=S.cf3 0 rfl
  have hz:w.heap.size<w1.heap.size:=S.lt 0 rfl
  replace S:=Lib.hid S
  go_wp2_with fail
  refine (hU.out _ (S.out.r 0 rfl)).mono ?_
  rintro e w2 ⟨rfl,bb⟩
  have T:=(S.out.call bb)
  clear bb S c_x0 f_x0 c_x1 f_x1 c_x2 f_x2 hz
  have S:=T
  clear T
  obtain⟨c_x0,c_x1,c_x2,f_x0,f_x1,f_x2⟩:=S.cf3 0 rfl
  have hz:w.heap.size<w2.heap.size:=S.lt 0 rfl
  replace S:=Lib.hid S
  go_wp2_with fail
  refine (hO.out _ (S.out.r 0 rfl)).mono ?_
  rintro e w3 ⟨rfl,bb⟩
  have T:=(S.out.call bb)
  clear bb S c_x0 f_x0 c_x1 f_x1 c_x2 f_x2 hz
  have S:=T
  clear T
  obtain⟨c_x0,c_x1,c_x2,f_x0,f_x1,f_x2⟩:=S.cf3 0 rfl
  have hz:w.heap.size<w3.heap.size:=S.lt 0 rfl
  replace S:=Lib.hid S
  have S:=S.out
  replace S:=Lib.hid S
  go_wp2
  go_ret
  exact⟨congrArg (fun q=>Ending.returned (.bool q)) hr.out.symm,S.out.bel⟩
 have hr:Hid (vldR b xs ds=is1 (limbs (Nat.gcd (num xs) (num ds)))):=Lib.hid (by rw[hr0,is1_gcd,hvd,hvx])
 have gn:(0:Int)<(n:Int):=by omega
 have gn2:0<n:=by omega
 generalize Nat.gcd (num xs) (num ds)=G at hG hP hr
 rw[hb] at hV
 rw[hd] at hU
 rw[h1] at hO
 clear hb hd h1 h0 hl1 hl2 s2 hn hm hne hvd hvx hr0 hn0
 go_enter Tryz.func103,Tryz.ntmps103
 go_wp2_with fail
 refine (hV.out _ (S.out.r 1 rfl)).mono ?_
 rintro e w1 ⟨rfl,bb⟩
 have T:=(S.out.call bb)
 clear bb S
 have S:=T
 clear T
 obtain⟨c_x0,c_x1,c_x2,f_x0,f_x1,f_x2⟩:=S.cf3 0 rfl
 have hz:w.heap.size<w1.heap.size:=S.lt 0 rfl
 replace S:=Lib.hid S
 go_wp2_with fail
 refine (hU.out _ (S.out.r 0 rfl)).mono ?_
 rintro e w2 ⟨rfl,bb⟩
 have T:=(S.out.call bb)
 clear bb S c_x0 f_x0 c_x1 f_x1 c_x2 f_x2 hz
 have S:=T
 clear T
 obtain⟨c_x0,c_x1,c_x2,f_x0,f_x1,f_x2⟩:=S.cf3 0 rfl
 have hz:w.heap.size<w2.heap.size:=S.lt 0 rfl
 replace S:=Lib.hid S
 go_wp2_with fail
 refine (hO.out _ (S.out.r 0 rfl)).mono ?_
 rintro e w3 ⟨rfl,bb⟩
 have T:=(S.out.call bb)
 clear bb S c_x0 f_x0 c_x1 f_x1 c_x2 f_x2 hz
 have S:=T
 clear T
 obtain⟨c_x0,c_x1,c_x2,f_x0,f_x1,f_x2⟩:=S.cf3 0 rfl
 have hz:w.heap.size<w3.heap.size:=S.lt 0 rfl
 replace S:=Lib.hid S
 go_wp2_with fail
 refine (hG.out _ (S.out.r 1 rfl) (S.out.r 0 rfl)).mono ?_
 rintro e w4 ⟨A3,n3,c3,rfl,Q3,bb⟩
 have T:=((S.out.call bb).read Q3)
 clear bb S c_x0 f_x0 c_x1 f_x1 c_x2 f_x2 hz
 have S:=T
 clear T
 obtain⟨c_x0,c_x1,c_x2,f_x0,f_x1,f_x2⟩:=S.cf3 0 rfl
 have hz:w.heap.size<w4.heap.size:=S.lt 0 rfl
 replace S:=Lib.hid S
 go_wp2_with fail
 refine (hP.out _ A3 n3 c3 (S.out.r 0 rfl)).mono ?_
 rintro e w5 ⟨rfl,bb⟩
 have T:=(S.out.call bb)
 clear bb S c_x0 f_x0 c_x1 f_x1 c_x2 f_x2 hz
 have S:=T
 clear T
 obtain⟨c_x0,c_x1,c_x2,f_x0,f_x1,f_x2⟩:=S.cf3 0 rfl
 have hz:w.heap.size<w5.heap.size:=S.lt 0 rfl
 replace S:=Lib.hid S
 have S:=S.out
 replace S:=Lib.hid S
 go_wp2
 go_ret
 exact⟨congrArg (fun q=>Ending.returned (.bool q)) hr.out.symm,S.out.bel⟩
end Go.Proofs.YtdeedofmflelfaaGreatDoor

namespace Go.Proofs.YtdeedofmflelfaaGreatDoor
open Go.RowKit RQ
theorem res_rden (W:World) (tmps:Array Value) (g t:Nat) {v0 v1:Value} (ht:tmps.getD 2 undef=.pointer (some ⟨g,0,none⟩)) (h:Cb W g #[v0,v1] t) :
  (results Tryz.f71 tmps).run Tryz.prog W=.ok (.agg #[v0,v1]) W:=by
 have c0:W.cell? ⟨g,0,none⟩=some v0:=h.cell rfl
 have c1:W.cell? ⟨g,1,none⟩=some v1:=h.cell rfl
 have ht':tmps[2]?.getD undef=.pointer (some ⟨g,0,none⟩):=by rw[←ht];simp[Array.getD_eq_getD_getElem?]
 simp[results,Tryz.results71,go_sem,ht',c0,c1]
set_option maxHeartbeats 2000000 in
theorem rden_any (q:Rat) (A:Option Addr) (n c:Nat) (D:Option Addr) (m d:Nat) (w:World) (R:RR w A n c D m d q) (hm:m≤10000) :
  Calls Tryz.prog 71 #[.agg #[.bool (ng q.num),.slice A n c,.slice D m d]] w (RetU q.den w):=by
 obtain⟨h0,h1⟩:=dn_len0 R.d.len
 have R2:=R.d
 by_cases hm0:m=0
 ·have e1:q.den=1:=by have:=h0 hm0;omega
  have h2:((m:Int)==0)=true:=by rw[beq_iff_eq];omega
  have e2:limbs q.den=[1]:=by rw[e1,limbs_is1]
  have S0:St w _ _ _:=(St.new w).allocAt (w.heap.size) #[.bool (ng q.num),.slice A n c,.slice D m d] 46 (noL3 _ _ _ _ _ _ _) rfl
  have S1:=S0.allocAt (w.heap.size+1) #[.bool false,.slice (some ⟨w.heap.size+1+1,0,none⟩) 1 1] 44 (noL2 _ _ _ _) (by simp)
  have hb:((w.alloc (.cells #[.bool (ng q.num),.slice A n c,.slice D m d] 46)).alloc (.cells #[.bool false,.slice (some ⟨w.heap.size+1+1,0,none⟩) 1 1] 44)).heap.size=w.heap.size+1+1:=by simp
  have O:=(Own.lit ((w.alloc (.cells #[.bool (ng q.num),.slice A n c,.slice D m d] 46)).alloc (.cells #[.bool false,.slice (some ⟨w.heap.size+1+1,0,none⟩) 1 1] 44)) [1] (by intro x hx;simp at hx;omega)).rd0 1 (Nat.le_refl 1)
  rw[hb] at O
  have B2:=(Below.refl ((w.alloc (.cells #[.bool (ng q.num),.slice A n c,.slice D m d] 46)).alloc (.cells #[.bool false,.slice (some ⟨w.heap.size+1+1,0,none⟩) 1 1] 44)).heap.size _).alloc (Nat.le_refl _) (.cells #[.int .u32 1] 119)
  have S2:=Lib.hid ((S1.call B2).read O)
  replace e2:=Lib.hid e2
  clear R R2 h0 h1 hm0 e1 S0 S1 O B2 hb hm
  go_enter Tryz.func71,Tryz.ntmps71
  go_wp2
  refine bodyPost_ret (res_rden _ _ (w.heap.size+1) 44 rfl (S2.out.bk _ (List.mem_of_getElem? (i:=0) rfl)).1) rfl ?_
  exact⟨_,_,_,rfl,by rw[e2.out];exact S2.out.r 0 rfl,S2.out.bel⟩
 ·have e1:=h1 hm0
  rw[e1] at R2
  have h2:((m:Int)==0)=false:=by rw[beq_eq_false_iff_ne];omega
  have hT:=fun W h=>take_any D m d (limbs q.den) W h hm
  rw[num_limbs] at hT
  replace hT:=Lib.hid hT
  clear h0 h1 hm0 R e1 hm
  have S:=((((St.new w).read R2).allocAt (w.heap.size) #[.bool (ng q.num),.slice A n c,.slice D m d] 46 (noL3 _ _ _ _ _ _ _) (by simp)).allocAt (w.heap.size+1) #[.bool false,.slice none 0 0] 44 (noL2 _ _ _ _) (by simp))
  replace S:=Lib.hid S
  clear R2
  go_enter Tryz.func71,Tryz.ntmps71
  go_wp2_with fail
  refine (hT.out _ (S.out.r 0 rfl)).mono ?_
  rintro e w1 ⟨A1,n1,c1,rfl,Q,bb,_⟩
  have T:=((S.out.call bb).read Q)
  clear bb S
  have S:=T
  clear T
  obtain⟨c_r0,c_r1,f_r0,f_r1⟩:=S.cf2 0 rfl
  obtain⟨c_x0,c_x1,c_x2,f_x0,f_x1,f_x2⟩:=S.cf3 1 rfl
  have hz:w.heap.size+1<w1.heap.size:=S.lt 0 rfl
  replace S:=Lib.hid S
  clear Q
  have S:St w _ [(w.heap.size+1,#[.bool false,.slice A1 n1 c1],44),(w.heap.size,#[.bool (ng q.num),.slice A n c,.slice D m d],46)] [(A1,n1,c1,limbs q.den),(D,m,d,limbs q.den)]:=((S.out.set 0 0 (.bool false) rfl (by nofun)).set 0 1 (.slice A1 n1 c1) rfl (by nofun))
  replace S:=Lib.hid S
  go_wp2
  refine bodyPost_ret (res_rden _ _ (w.heap.size+1) 44 rfl (S.out.bk _ (List.mem_of_getElem? (i:=0) rfl)).1) rfl ?_
  exact⟨_,_,_,rfl,S.out.r 0 rfl,S.out.bel⟩
end Go.Proofs.YtdeedofmflelfaaGreatDoor
