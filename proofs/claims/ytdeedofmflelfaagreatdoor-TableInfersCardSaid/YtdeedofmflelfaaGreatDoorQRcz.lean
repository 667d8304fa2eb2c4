/- divisorOfInts, isReduced, Valid and known of rational. FromInt, Sign, Neg, Abs, Floor of rational. -/
import Derived.Test.YtdeedofmflelfaaGreatDoorQStz
import Derived.Test.YtdeedofmflelfaaGreatDoorQIrz
import Derived.Test.YtdeedofmflelfaaGreatDoorQWvz
import Derived.IntWalk
import Derived.Test.YtdeedofmflelfaaGreatDoorQIjz
namespace Go.Proofs.YtdeedofmflelfaaGreatDoor
open Go.RowKit RQ
set_option maxRecDepth 20000 in
set_option maxHeartbeats 1000000 in
theorem divisorOfInts_any (v y:Nat) (w:World) (hv:v≤9223372036854775807) (hy:y≤9223372036854775807) :
  Calls Tryz.prog 180 #[.int .i64 (v:Int),.int .i64 (y:Int)] w fun e w'=>e=.returned (.int .i64 (Nat.gcd v y:Nat))∧Below w.heap.size w w':=by
 replace hv:=Lib.hid hv
 replace hy:=Lib.hid hy
 go_enter Tryz.func180,Tryz.ntmps180
 go_wp2
 go_loopg [0,1] y (fun b av bv wr=>∃ a:Nat,av=.int .i64 (a:Int)∧bv=.int .i64 (b:Int)∧Nat.gcd a b=Nat.gcd v y∧a≤9223372036854775807∧b≤9223372036854775807∧Below w.heap.size w wr)
 case atStart=>exact⟨v,rfl,rfl,rfl,hv.out,hy.out,Below.refl _ _⟩
 case round=>
  obtain⟨a,rfl,rfl,hg,ha,hb,hB⟩:=hrel
  by_cases h0:gk=0
  ·subst h0
   rw[Nat.gcd_zero_right] at hg
   replace hg:=Lib.hid hg
   replace hB:=Lib.hid hB
   go_wp2
   go_ret
   exact⟨congrArg (fun q:Nat=>Ending.returned (.int .i64 (q:Int))) hg.out,hB.out⟩
  ·have hne:((gk:Int) != 0)=true:=by simp;omega
   have hpos:(1:Int)≤(gk:Int):=by omega
   have ha0:(0:Int)≤(a:Int):=by omega
   have hml:=Nat.mod_lt a (show 0<gk by omega)
   have hw:IntKind.i64.wrap ((a:Int).tmod (gk:Int))=((a%gk:Nat):Int):=by
    rw[Int.tmod_eq_emod_of_nonneg ha0,←Int.natCast_emod]
    exact IntWalk.i64_in _ (by have:=Nat.mod_le a gk;omega)
   have hg2:=(gcd_step a gk).trans hg
   replace hg2:=Lib.hid hg2
   replace hml:=Lib.hid hml
   replace hB:=Lib.hid hB
   replace hb:=Lib.hid hb
   clear hg h0 ha
   go_wp2
   go_quiet (fail)
   go_wp2
   go_roundg (a%gk)
   case measure=>exact hml.out
   case rel=>exact⟨gk,rfl,rfl,hg2.out,hb.out,by have:=hml.out;have:=hb.out;omega,below_drewN hB.out _⟩
theorem iv_pos (N:Nat):iv false (limbs N)=(N:Int):=by
 have:=iv_z (N:Int)
 rwa [show ng (N:Int)=false from decide_eq_false (by omega),Int.natAbs_natCast] at this
theorem toInt_small (N:Nat) (A:Option Addr) (n c:Nat) (w:World) (h:Rd w A n c (limbs N)) (hn:n≤1000) (hN:N≤9223372036854775807) :
  Calls Tryz.prog 179 #[.agg #[.bool false,.slice A n c]] w fun e w'=>e=.returned (.tuple #[.int .i64 (N:Int),.bool true])∧Below w.heap.size w w':=by
 have:=toInt_any false A n c _ w h hn
 rw[iv_pos] at this
 have e:tk (N:Int)=true:=decide_eq_true (by omega)
 have e2:ti (N:Int)=N:=by unfold ti;rw[e];rfl
 rwa [e,e2] at this
theorem toInt_big (N:Nat) (A:Option Addr) (n c:Nat) (w:World) (h:Rd w A n c (limbs N)) (hn:n≤1000) (hN:9223372036854775807<N) :
  Calls Tryz.prog 179 #[.agg #[.bool false,.slice A n c]] w fun e w'=>e=.returned (.tuple #[.int .i64 0,.bool false])∧Below w.heap.size w w':=by
 have:=toInt_any false A n c _ w h hn
 rw[iv_pos] at this
 have e:tk (N:Int)=false:=decide_eq_false (by omega)
 have e2:ti (N:Int)=0:=by unfold ti;rw[e];rfl
 rwa [e,e2] at this
set_option maxHeartbeats 2000000 in
theorem isReduced_any (z:Int) (A:Option Addr) (n c:Nat) (M:Nat) (A':Option Addr) (n' c':Nat) (w:World) (R1:Rd w A n c (limbs z.natAbs)) (R2:Rd w A' n' c' (limbs M)) (hn:n≤500) (hn':n'≤500) :
  Calls Tryz.prog 155 #[.agg #[.bool (ng z),.slice A n c],.agg #[.bool false,.slice A' n' c']] w fun e w'=>e=.returned (.bool (Nat.gcd z.natAbs M==1))∧Below w.heap.size w w':=by
 obtain⟨N,hN⟩:∃ N,z.natAbs=N:=⟨_,rfl⟩
 rw[hN] at R1
 rw[hN]
 have S:=(((((St.new w).read R1).read R2).allocAt (w.heap.size) #[.bool (ng z),.slice A n c] 44 (noL2 _ _ _ _) (by simp)).allocAt (w.heap.size+1) #[.bool false,.slice A' n' c'] 44 (noL2 _ _ _ _) (by simp))
 replace S:=Lib.hid S
 clear R1 R2
 rcases Nat.lt_or_ge 9223372036854775807 N with h1 | h1
 ·have hT:=Lib.hid (fun W h=>toInt_big N A n c W h (by omega) h1)
  rcases Nat.lt_or_ge 9223372036854775807 M with h2 | h2
  ·have hU:=Lib.hid (fun W h=>toInt_big M A' n' c' W h (by omega) h2)
   have hG:Hid (∀ W,Rd W A n c (limbs N)→Rd W A' n' c' (limbs M)→Calls Tryz.prog 181 #[.agg #[.bool (ng z),.slice A n c],.agg #[.bool false,.slice A' n' c']] W fun e W'=>∃ A n c,e=.returned (.agg #[.bool false,.slice A n c])∧Rd W' A n c (limbs (Nat.gcd N M))∧Below W.heap.size W W'):=Lib.hid fun W Q1 Q2=>by
    have:=divisor_any (ng z) A n c _ false A' n' c' _ W Q1 Q2 hn hn'
    rw[iv_pos,←hN,iv_z] at this
    have e:Int.gcd z (M:Int)=Nat.gcd z.natAbs M:=rfl
    rw[e] at this
    refine this.mono fun e W' h=>?_
    obtain⟨A,n,c,he,R,B⟩:=h
    rw[show ng ((Nat.gcd z.natAbs M:Nat):Int)=false from decide_eq_false (by omega)] at he
    rw[Int.natAbs_natCast,hN] at R
    exact⟨A,n,c,he,R,B⟩
   have hO:Hid (∀ W A n c,Rd W A n c (limbs (Nat.gcd N M))→Calls Tryz.prog 154 #[.agg #[.bool false,.slice A n c]] W fun e W'=>e=.returned (.bool (Nat.gcd N M==1))∧Below W.heap.size W W'):=Lib.hid fun W A n c Q=>by
    have:=isOne_any ((Nat.gcd N M:Nat):Int) A n c W (by rw[Int.natAbs_natCast];exact Q)
    rw[show ng ((Nat.gcd N M:Nat):Int)=false from decide_eq_false (by omega)] at this
    have e:decide (((Nat.gcd N M:Nat):Int)=1)=(Nat.gcd N M==1):=by rw[Bool.eq_iff_iff,decide_eq_true_iff,beq_iff_eq];omega
    rwa [e] at this
   clear hN
   generalize Nat.gcd N M=G at hG hO ⊢
   clear h1 h2 hn hn'
   go_enter Tryz.func155,Tryz.ntmps155
   go_wp2_with fail
   refine (hT.out _ (S.out.r 1 rfl)).mono ?_
   rintro e w1 ⟨rfl,bb⟩
   have T:=(S.out.call bb)
   clear bb S
   have S:=T
   clear T
   obtain⟨c_y0,c_y1,f_y0,f_y1⟩:=S.cf2 0 rfl
   obtain⟨c_x0,c_x1,f_x0,f_x1⟩:=S.cf2 1 rfl
   have hz:w.heap.size+1<w1.heap.size:=S.lt 0 rfl
   replace S:=Lib.hid S
   go_wp2_with fail
   refine (hU.out _ (S.out.r 0 rfl)).mono ?_
   rintro e w2 ⟨rfl,bb⟩
   have T:=(S.out.call bb)
   clear bb S c_y0 f_y0 c_y1 f_y1 c_x0 f_x0 c_x1 f_x1 hz
   have S:=T
   clear T
   obtain⟨c_y0,c_y1,f_y0,f_y1⟩:=S.cf2 0 rfl
   obtain⟨c_x0,c_x1,f_x0,f_x1⟩:=S.cf2 1 rfl
   have hz:w.heap.size+1<w2.heap.size:=S.lt 0 rfl
   replace S:=Lib.hid S
   go_wp2_with fail
   refine (hG.out _ (S.out.r 1 rfl) (S.out.r 0 rfl)).mono ?_
   rintro e w3 ⟨A3,n3,c3,rfl,Q3,bb⟩
   have T:=((S.out.call bb).read Q3)
   clear bb S c_y0 f_y0 c_y1 f_y1 c_x0 f_x0 c_x1 f_x1 hz
   have S:=T
   clear T
   obtain⟨c_y0,c_y1,f_y0,f_y1⟩:=S.cf2 0 rfl
   obtain⟨c_x0,c_x1,f_x0,f_x1⟩:=S.cf2 1 rfl
   have hz:w.heap.size+1<w3.heap.size:=S.lt 0 rfl
   replace S:=Lib.hid S
   clear Q3
   go_wp2_with fail
   refine (hO.out _ A3 n3 c3 (S.out.r 0 rfl)).mono ?_
   rintro e w4 ⟨rfl,bb⟩
   have T:=(S.out.call bb)
   clear bb S c_y0 f_y0 c_y1 f_y1 c_x0 f_x0 c_x1 f_x1 hz
   have S:=T
   clear T
   obtain⟨c_y0,c_y1,f_y0,f_y1⟩:=S.cf2 0 rfl
   obtain⟨c_x0,c_x1,f_x0,f_x1⟩:=S.cf2 1 rfl
   have hz:w.heap.size+1<w4.heap.size:=S.lt 0 rfl
   replace S:=Lib.hid S
   have S:=S.out
   replace S:=Lib.hid S
   go_wp2
   go_ret
   exact⟨rfl,S.out.bel⟩
  ·have hU:=Lib.hid (fun W h=>toInt_small M A' n' c' W h (by omega) h2)
   have hG:Hid (∀ W,Rd W A n c (limbs N)→Rd W A' n' c' (limbs M)→Calls Tryz.prog 181 #[.agg #[.bool (ng z),.slice A n c],.agg #[.bool false,.slice A' n' c']] W fun e W'=>∃ A n c,e=.returned (.agg #[.bool false,.slice A n c])∧Rd W' A n c (limbs (Nat.gcd N M))∧Below W.heap.size W W'):=Lib.hid fun W Q1 Q2=>by
    have:=divisor_any (ng z) A n c _ false A' n' c' _ W Q1 Q2 hn hn'
    rw[iv_pos,←hN,iv_z] at this
    have e:Int.gcd z (M:Int)=Nat.gcd z.natAbs M:=rfl
    rw[e] at this
    refine this.mono fun e W' h=>?_
    obtain⟨A,n,c,he,R,B⟩:=h
    rw[show ng ((Nat.gcd z.natAbs M:Nat):Int)=false from decide_eq_false (by omega)] at he
    rw[Int.natAbs_natCast,hN] at R
    exact⟨A,n,c,he,R,B⟩
   have hO:Hid (∀ W A n c,Rd W A n c (limbs (Nat.gcd N M))→Calls Tryz.prog 154 #[.agg #[.bool false,.slice A n c]] W fun e W'=>e=.returned (.bool (Nat.gcd N M==1))∧Below W.heap.size W W'):=Lib.hid fun W A n c Q=>by
    have:=isOne_any ((Nat.gcd N M:Nat):Int) A n c W (by rw[Int.natAbs_natCast];exact Q)
    rw[show ng ((Nat.gcd N M:Nat):Int)=false from decide_eq_false (by omega)] at this
    have e:decide (((Nat.gcd N M:Nat):Int)=1)=(Nat.gcd N M==1):=by rw[Bool.eq_iff_iff,decide_eq_true_iff,beq_iff_eq];omega
    rwa [e] at this
   clear hN
   generalize Nat.gcd N M=G at hG hO ⊢
   clear h1 h2 hn hn'
   go_enter Tryz.func155,Tryz.ntmps155
   go_wp2_with fail
   refine (hT.out _ (S.out.r 1 rfl)).mono ?_
   rintro e w1 ⟨rfl,bb⟩
   have T:=(S.out.call bb)
   clear bb S
   have S:=T
   clear T
   obtain⟨c_y0,c_y1,f_y0,f_y1⟩:=S.cf2 0 rfl
   obtain⟨c_x0,c_x1,f_x0,f_x1⟩:=S.cf2 1 rfl
   have hz:w.heap.size+1<w1.heap.size:=S.lt 0 rfl
   replace S:=Lib.hid S
   go_wp2_with fail
   refine (hU.out _ (S.out.r 0 rfl)).mono ?_
   rintro e w2 ⟨rfl,bb⟩
   have T:=(S.out.call bb)
   clear bb S c_y0 f_y0 c_y1 f_y1 c_x0 f_x0 c_x1 f_x1 hz
   have S:=T
   clear T
   obtain⟨c_y0,c_y1,f_y0,f_y1⟩:=S.cf2 0 rfl
   obtain⟨c_x0,c_x1,f_x0,f_x1⟩:=S.cf2 1 rfl
   have hz:w.heap.size+1<w2.heap.size:=S.lt 0 rfl
   replace S:=Lib.hid S
   go_wp2_with fail
   refine (hG.out _ (S.out.r 1 rfl) (S.out.r 0 rfl)).mono ?_
   rintro e w3 ⟨A3,n3,c3,rfl,Q3,bb⟩
   have T:=((S.out.call bb).read Q3)
   clear bb S c_y0 f_y0 c_y1 f_y1 c_x0 f_x0 c_x1 f_x1 hz
   have S:=T
   clear T
   obtain⟨c_y0,c_y1,f_y0,f_y1⟩:=S.cf2 0 rfl
   obtain⟨c_x0,c_x1,f_x0,f_x1⟩:=S.cf2 1 rfl
   have hz:w.heap.size+1<w3.heap.size:=S.lt 0 rfl
   replace S:=Lib.hid S
   clear Q3
   go_wp2_with fail
   refine (hO.out _ A3 n3 c3 (S.out.r 0 rfl)).mono ?_
   rintro e w4 ⟨rfl,bb⟩
   have T:=(S.out.call bb)
   clear bb S c_y0 f_y0 c_y1 f_y1 c_x0 f_x0 c_x1 f_x1 hz
   have S:=T
   clear T
   obtain⟨c_y0,c_y1,f_y0,f_y1⟩:=S.cf2 0 rfl
   obtain⟨c_x0,c_x1,f_x0,f_x1⟩:=S.cf2 1 rfl
   have hz:w.heap.size+1<w4.heap.size:=S.lt 0 rfl
   replace S:=Lib.hid S
   have S:=S.out
   replace S:=Lib.hid S
   go_wp2
   go_ret
   exact⟨rfl,S.out.bel⟩
 ·have hT:=Lib.hid (fun W h=>toInt_small N A n c W h (by omega) h1)
  rcases Nat.lt_or_ge 9223372036854775807 M with h2 | h2
  ·have hU:=Lib.hid (fun W h=>toInt_big M A' n' c' W h (by omega) h2)
   have hG:Hid (∀ W,Rd W A n c (limbs N)→Rd W A' n' c' (limbs M)→Calls Tryz.prog 181 #[.agg #[.bool (ng z),.slice A n c],.agg #[.bool false,.slice A' n' c']] W fun e W'=>∃ A n c,e=.returned (.agg #[.bool false,.slice A n c])∧Rd W' A n c (limbs (Nat.gcd N M))∧Below W.heap.size W W'):=Lib.hid fun W Q1 Q2=>by
    have:=divisor_any (ng z) A n c _ false A' n' c' _ W Q1 Q2 hn hn'
    rw[iv_pos,←hN,iv_z] at this
    have e:Int.gcd z (M:Int)=Nat.gcd z.natAbs M:=rfl
    rw[e] at this
    refine this.mono fun e W' h=>?_
    obtain⟨A,n,c,he,R,B⟩:=h
    rw[show ng ((Nat.gcd z.natAbs M:Nat):Int)=false from decide_eq_false (by omega)] at he
    rw[Int.natAbs_natCast,hN] at R
    exact⟨A,n,c,he,R,B⟩
   have hO:Hid (∀ W A n c,Rd W A n c (limbs (Nat.gcd N M))→Calls Tryz.prog 154 #[.agg #[.bool false,.slice A n c]] W fun e W'=>e=.returned (.bool (Nat.gcd N M==1))∧Below W.heap.size W W'):=Lib.hid fun W A n c Q=>by
    have:=isOne_any ((Nat.gcd N M:Nat):Int) A n c W (by rw[Int.natAbs_natCast];exact Q)
    rw[show ng ((Nat.gcd N M:Nat):Int)=false from decide_eq_false (by omega)] at this
    have e:decide (((Nat.gcd N M:Nat):Int)=1)=(Nat.gcd N M==1):=by rw[Bool.eq_iff_iff,decide_eq_true_iff,beq_iff_eq];omega
    rwa [e] at this
   clear hN
   generalize Nat.gcd N M=G at hG hO ⊢
   clear h1 h2 hn hn'
   go_enter Tryz.func155,Tryz.ntmps155
   go_wp2_with fail
   refine (hT.out _ (S.out.r 1 rfl)).mono ?_
   rintro e w1 ⟨rfl,bb⟩
   have T:=(S.out.call bb)
   clear bb S
   have S:=T
   clear T
   obtain⟨c_y0,c_y1,f_y0,f_y1⟩:=S.cf2 0 rfl
   obtain⟨c_x0,c_x1,f_x0,f_x1⟩:=S.cf2 1 rfl
   have hz:w.heap.size+1<w1.heap.size:=S.lt 0 rfl
   replace S:=Lib.hid S
   go_wp2_with fail
   refine (hU.out _ (S.out.r 0 rfl)).mono ?_
   rintro e w2 ⟨rfl,bb⟩
   have T:=(S.out.call bb)
   clear bb S c_y0 f_y0 c_y1 f_y1 c_x0 f_x0 c_x1 f_x1 hz
   have S:=T
   clear T
   obtain⟨c_y0,c_y1,f_y0,f_y1⟩:=S.cf2 0 rfl
   obtain⟨c_x0,c_x1,f_x0,f_x1⟩:=S.cf2 1 rfl
   have hz:w.heap.size+1<w2.heap.size:=S.lt 0 rfl
   replace S:=Lib.hid S
   go_wp2_with fail
   refine (hG.out _ (S.out.r 1 rfl) (S.out.r 0 rfl)).mono ?_
   rintro e w3 ⟨A3,n3,c3,rfl,Q3,bb⟩
   have T:=((S.out.call bb).read Q3)
   clear bb S c_y0 f_y0 c_y1 f_y1 c_x0 f_x0 c_x1 f_x1 hz
   have S:=T
   clear T
   obtain⟨c_y0,c_y1,f_y0,f_y1⟩:=S.cf2 0 rfl
   obtain⟨c_x0,c_x1,f_x0,f_x1⟩:=S.cf2 1 rfl
   have hz:w.heap.size+1<w3.heap.size:=S.lt 0 rfl
   replace S:=Lib.hid S
   clear Q3
   go_wp2_with fail
   refine (hO.out _ A3 n3 c3 (S.out.r 0 rfl)).mono ?_
   rintro e w4 ⟨rfl,bb⟩
   have T:=(S.out.call bb)
   clear bb S c_y0 f_y0 c_y1 f_y1 c_x0 f_x0 c_x1 f_x1 hz
   have S:=T
   clear T
   obtain⟨c_y0,c_y1,f_y0,f_y1⟩:=S.cf2 0 rfl
   obtain⟨c_x0,c_x1,f_x0,f_x1⟩:=S.cf2 1 rfl
   have hz:w.heap.size+1<w4.heap.size:=S.lt 0 rfl
   replace S:=Lib.hid S
   have S:=S.out
   replace S:=Lib.hid S
   go_wp2
   go_ret
   exact⟨rfl,S.out.bel⟩
  ·have hU:=Lib.hid (fun W h=>toInt_small M A' n' c' W h (by omega) h2)
   have hV:=Lib.hid (fun W=>divisorOfInts_any N M W h1 h2)
   have hE:Hid ((((Nat.gcd N M:Nat):Int)==1)=(Nat.gcd N M==1)):=Lib.hid (by rw[Bool.eq_iff_iff,beq_iff_eq,beq_iff_eq];omega)
   clear h1 h2 hn hn' hN
   go_enter Tryz.func155,Tryz.ntmps155
   go_wp2_with fail
   refine (hT.out _ (S.out.r 1 rfl)).mono ?_
   rintro e w1 ⟨rfl,bb⟩
   have T:=(S.out.call bb)
   clear bb S
   have S:=T
   clear T
   obtain⟨c_y0,c_y1,f_y0,f_y1⟩:=S.cf2 0 rfl
   obtain⟨c_x0,c_x1,f_x0,f_x1⟩:=S.cf2 1 rfl
   have hz:w.heap.size+1<w1.heap.size:=S.lt 0 rfl
   replace S:=Lib.hid S
   go_wp2_with fail
   refine (hU.out _ (S.out.r 0 rfl)).mono ?_
   rintro e w2 ⟨rfl,bb⟩
   have T:=(S.out.call bb)
   clear bb S c_y0 f_y0 c_y1 f_y1 c_x0 f_x0 c_x1 f_x1 hz
   have S:=T
   clear T
   obtain⟨c_y0,c_y1,f_y0,f_y1⟩:=S.cf2 0 rfl
   obtain⟨c_x0,c_x1,f_x0,f_x1⟩:=S.cf2 1 rfl
   have hz:w.heap.size+1<w2.heap.size:=S.lt 0 rfl
   replace S:=Lib.hid S
   go_wp2_with fail
   refine (hV.out _).mono ?_
   rintro e w3 ⟨rfl,bb⟩
   have T:=(S.out.call bb)
   clear bb S c_y0 f_y0 c_y1 f_y1 c_x0 f_x0 c_x1 f_x1 hz
   have S:=T
   clear T
   obtain⟨c_y0,c_y1,f_y0,f_y1⟩:=S.cf2 0 rfl
   obtain⟨c_x0,c_x1,f_x0,f_x1⟩:=S.cf2 1 rfl
   have hz:w.heap.size+1<w3.heap.size:=S.lt 0 rfl
   replace S:=Lib.hid S
   go_wp2
   go_ret
   exact⟨congrArg (fun q=>Ending.returned (.bool q)) hE.out,S.out.bel⟩
theorem vldR_nil (b:Bool) (xs:List Nat):vldR b xs []=vldI b xs:=by unfold vldR vldD;simp
theorem vldR_row {b:Bool} {xs ds:List Nat} (h:ds≠[]):vldR b xs ds=(vldI b xs&&(vldB ds && !(is1 ds)&&Nat.gcd (val xs) (val ds)==1)):=by
 unfold vldR vldD
 cases ds
 ·exact absurd rfl h
 ·simp
theorem is1_val {ds:List Nat} (hs:Sm ds) (h:vldB ds=true):is1 ds=decide ((val ds:Int)=1):=by
 unfold is1
 rw[Bool.eq_iff_iff,beq_iff_eq,decide_eq_true_iff]
 constructor
 ·intro e;rw[e];simp[val]
 ·intro e
  have:val ds=1:=by omega
  have h2:=limbs_val hs h
  rw[this,limbs_is1] at h2
  exact h2.symm
theorem vldI_false (ds:List Nat):vldI false ds=vldB ds:=by unfold vldI;simp
set_option maxHeartbeats 2000000 in
theorem validR_any (b:Bool) (A:Option Addr) (n c:Nat) (xs:List Nat) (D:Option Addr) (m d:Nat) (ds:List Nat) (w:World) (R1:Rd w A n c xs) (R2:Rd w D m d ds) (hn:n≤500) (hm:m≤500) :
  Calls Tryz.prog 119 #[.agg #[.bool b,.slice A n c,.slice D m d]] w fun e w'=>e=.returned (.bool (vldR b xs ds))∧Below w.heap.size w w':=by
 have hl:=R2.len
 have s1:=R1.sm
 have s2:=R2.sm
 have S:=((((St.new w).read R1).read R2).allocAt (w.heap.size) #[.bool b,.slice A n c,.slice D m d] 46 (noL3 _ _ _ _ _ _ _) (by simp))
 replace S:=Lib.hid S
 clear R1 R2
 have hV:Hid (∀ W,Rd W A n c xs→Calls Tryz.prog 153 #[.agg #[.bool b,.slice A n c]] W fun e w'=>e=.returned (.bool (vldI b xs))∧Below W.heap.size W w'):=Lib.hid fun W h=>validI_any b A n c xs W h (by omega)
 have hU:Hid (∀ W,Rd W D m d ds→Calls Tryz.prog 153 #[.agg #[.bool false,.slice D m d]] W fun e w'=>e=.returned (.bool (vldB ds))∧Below W.heap.size W w'):=Lib.hid fun W h=>by have:=validI_any false D m d ds W h (by omega);rwa [vldI_false] at this
 by_cases h0:m=0
 ·have hd0:ds=[]:=List.eq_nil_of_length_eq_zero (by omega)
  rw[show vldR b xs ds=vldI b xs by rw[hd0,vldR_nil]]
  have h2:((m:Int)==0)=true:=by rw[beq_iff_eq];omega
  clear hU s1 s2 hl hn hm hd0 h0
  go_enter Tryz.func119,Tryz.ntmps119
  go_wp2_with fail
  refine (hV.out _ (S.out.r 1 rfl)).mono ?_
  rintro e w1 ⟨rfl,bb⟩
  have T:=(S.out.call bb)
  clear bb S
  have S:=T
  clear T
  obtain⟨c_x0,c_x1,c_x2,f_x0,f_x1,f_x2⟩:=S.cf3 0 rfl
  have hz:w.heap.size<w1.heap.size:=S.lt 0 rfl
  replace S:=Lib.hid S
  go_wp2
  go_ret
  exact⟨rfl,S.out.bel⟩
 have hne:ds≠[]:=by rintro rfl;exact h0 hl.symm
 rw[vldR_row hne]
 have h2:((m:Int)==0)=false:=by rw[beq_eq_false_iff_ne];omega
 replace h0:=Lib.hid h0
 clear hne hl
 cases hb:vldI b xs
 ·rw[hb] at hV
  clear hU s1 s2 hn hm hb
  go_enter Tryz.func119,Tryz.ntmps119
  go_wp2_with fail
  refine (hV.out _ ((S.out.allocAt (w.heap.size+1) #[.bool false,.slice D m d] 44 (noL2 _ _ _ _) (by simp)).r 1 rfl)).mono ?_
  rintro e w1 ⟨rfl,bb⟩
  have T:=((S.out.allocAt (w.heap.size+1) #[.bool false,.slice D m d] 44 (noL2 _ _ _ _) (by simp)).call bb)
  clear bb S
  have S:=T
  clear T
  obtain⟨c_y0,c_y1,f_y0,f_y1⟩:=S.cf2 0 rfl
  obtain⟨c_x0,c_x1,c_x2,f_x0,f_x1,f_x2⟩:=S.cf3 1 rfl
  have hz:w.heap.size+1<w1.heap.size:=S.lt 0 rfl
  replace S:=Lib.hid S
  go_wp2
  go_ret
  exact⟨rfl,S.out.bel⟩
 ·rw[hb] at hV
  obtain⟨eb,ex⟩:=canon s1 hb
  rw[iv_yes hb] at eb ex
  cases hd:vldB ds
  ·rw[hd] at hU
   clear s1 s2 hn hm hb hd eb ex
   go_enter Tryz.func119,Tryz.ntmps119
   go_wp2_with fail
   refine (hV.out _ ((S.out.allocAt (w.heap.size+1) #[.bool false,.slice D m d] 44 (noL2 _ _ _ _) (by simp)).r 1 rfl)).mono ?_
   rintro e w1 ⟨rfl,bb⟩
   have T:=((S.out.allocAt (w.heap.size+1) #[.bool false,.slice D m d] 44 (noL2 _ _ _ _) (by simp)).call bb)
   clear bb S
   have S:=T
   clear T
   obtain⟨c_y0,c_y1,f_y0,f_y1⟩:=S.cf2 0 rfl
   obtain⟨c_x0,c_x1,c_x2,f_x0,f_x1,f_x2⟩:=S.cf3 1 rfl
   have hz:w.heap.size+1<w1.heap.size:=S.lt 0 rfl
   replace S:=Lib.hid S
   go_wp2_with fail
   refine (hU.out _ (S.out.r 0 rfl)).mono ?_
   rintro e w2 ⟨rfl,bb⟩
   have T:=(S.out.call bb)
   clear bb S c_y0 f_y0 c_y1 f_y1 c_x0 f_x0 c_x1 f_x1 c_x2 f_x2 hz
   have S:=T
   clear T
   obtain⟨c_y0,c_y1,f_y0,f_y1⟩:=S.cf2 0 rfl
   obtain⟨c_x0,c_x1,c_x2,f_x0,f_x1,f_x2⟩:=S.cf3 1 rfl
   have hz:w.heap.size+1<w2.heap.size:=S.lt 0 rfl
   replace S:=Lib.hid S
   go_wp2
   go_ret
   exact⟨rfl,S.out.bel⟩
  ·rw[hd] at hU
   have hO:Hid (∀ W,Rd W D m d ds→Calls Tryz.prog 154 #[.agg #[.bool false,.slice D m d]] W fun e W'=>e=.returned (.bool (is1 ds))∧Below W.heap.size W W'):=Lib.hid fun W h=>by
    have:=isOne_any (val ds:Int) D m d W (by rw[Int.natAbs_natCast,limbs_val s2 hd];exact h)
    rwa [show ng (val ds:Int)=false from decide_eq_false (by omega),←is1_val s2 hd] at this
   have hR:Hid (∀ W,Rd W A n c xs→Rd W D m d ds→Calls Tryz.prog 155 #[.agg #[.bool b,.slice A n c],.agg #[.bool false,.slice D m d]] W fun e W'=>e=.returned (.bool (Nat.gcd (val xs) (val ds)==1))∧Below W.heap.size W W'):=Lib.hid fun W q1 q2=>by
    have:=isReduced_any (sg b (val xs)) A n c (val ds) D m d W (by rw[←ex];exact q1) (by rw[limbs_val s2 hd];exact q2) hn hm
    rwa [←eb,abs_sg] at this
   clear s1 s2 hn hm hb hd eb ex
   cases h1:is1 ds
   ·rw[h1] at hO
    clear h1
    go_enter Tryz.func119,Tryz.ntmps119
    go_wp2_with fail
    refine (hV.out _ ((S.out.allocAt (w.heap.size+1) #[.bool false,.slice D m d] 44 (noL2 _ _ _ _) (by simp)).r 1 rfl)).mono ?_
    rintro e w1 ⟨rfl,bb⟩
    have T:=((S.out.allocAt (w.heap.size+1) #[.bool false,.slice D m d] 44 (noL2 _ _ _ _) (by simp)).call bb)
    clear bb S
    have S:=T
    clear T
    obtain⟨c_y0,c_y1,f_y0,f_y1⟩:=S.cf2 0 rfl
    obtain⟨c_x0,c_x1,c_x2,f_x0,f_x1,f_x2⟩:=S.cf3 1 rfl
    have hz:w.heap.size+1<w1.heap.size:=S.lt 0 rfl
    replace S:=Lib.hid S
    go_wp2_with fail
    refine (hU.out _ (S.out.r 0 rfl)).mono ?_
    rintro e w2 ⟨rfl,bb⟩
    have T:=(S.out.call bb)
    clear bb S c_y0 f_y0 c_y1 f_y1 c_x0 f_x0 c_x1 f_x1 c_x2 f_x2 hz
    have S:=T
    clear T
    obtain⟨c_y0,c_y1,f_y0,f_y1⟩:=S.cf2 0 rfl
    obtain⟨c_x0,c_x1,c_x2,f_x0,f_x1,f_x2⟩:=S.cf3 1 rfl
    have hz:w.heap.size+1<w2.heap.size:=S.lt 0 rfl
    replace S:=Lib.hid S
    go_wp2_with fail
    refine (hO.out _ (S.out.r 0 rfl)).mono ?_
    rintro e w3 ⟨rfl,bb⟩
    have T:=(S.out.call bb)
    clear bb S c_y0 f_y0 c_y1 f_y1 c_x0 f_x0 c_x1 f_x1 c_x2 f_x2 hz
    have S:=T
    clear T
    obtain⟨c_y0,c_y1,f_y0,f_y1⟩:=S.cf2 0 rfl
    obtain⟨c_x0,c_x1,c_x2,f_x0,f_x1,f_x2⟩:=S.cf3 1 rfl
    have hz:w.heap.size+1<w3.heap.size:=S.lt 0 rfl
    replace S:=Lib.hid S
    go_wp2_with fail
    refine (hR.out _ (S.out.r 1 rfl) (S.out.r 0 rfl)).mono ?_
    rintro e w4 ⟨rfl,bb⟩
    have T:=(S.out.call bb)
    clear bb S c_y0 f_y0 c_y1 f_y1 c_x0 f_x0 c_x1 f_x1 c_x2 f_x2 hz
    have S:=T
    clear T
    obtain⟨c_y0,c_y1,f_y0,f_y1⟩:=S.cf2 0 rfl
    obtain⟨c_x0,c_x1,c_x2,f_x0,f_x1,f_x2⟩:=S.cf3 1 rfl
    have hz:w.heap.size+1<w4.heap.size:=S.lt 0 rfl
    replace S:=Lib.hid S
    go_wp2
    go_ret
    exact⟨by simp,S.out.bel⟩
   ·rw[h1] at hO
    clear h1 hR
    go_enter Tryz.func119,Tryz.ntmps119
    go_wp2_with fail
    refine (hV.out _ ((S.out.allocAt (w.heap.size+1) #[.bool false,.slice D m d] 44 (noL2 _ _ _ _) (by simp)).r 1 rfl)).mono ?_
    rintro e w1 ⟨rfl,bb⟩
    have T:=((S.out.allocAt (w.heap.size+1) #[.bool false,.slice D m d] 44 (noL2 _ _ _ _) (by simp)).call bb)
    clear bb S
    have S:=T
    clear T
    obtain⟨c_y0,c_y1,f_y0,f_y1⟩:=S.cf2 0 rfl
    obtain⟨c_x0,c_x1,c_x2,f_x0,f_x1,f_x2⟩:=S.cf3 1 rfl
    have hz:w.heap.size+1<w1.heap.size:=S.lt 0 rfl
    replace S:=Lib.hid S
    go_wp2_with fail
    refine (hU.out _ (S.out.r 0 rfl)).mono ?_
    rintro e w2 ⟨rfl,bb⟩
    have T:=(S.out.call bb)
    clear bb S c_y0 f_y0 c_y1 f_y1 c_x0 f_x0 c_x1 f_x1 c_x2 f_x2 hz
    have S:=T
    clear T
    obtain⟨c_y0,c_y1,f_y0,f_y1⟩:=S.cf2 0 rfl
    obtain⟨c_x0,c_x1,c_x2,f_x0,f_x1,f_x2⟩:=S.cf3 1 rfl
    have hz:w.heap.size+1<w2.heap.size:=S.lt 0 rfl
    replace S:=Lib.hid S
    go_wp2_with fail
    refine (hO.out _ (S.out.r 0 rfl)).mono ?_
    rintro e w3 ⟨rfl,bb⟩
    have T:=(S.out.call bb)
    clear bb S c_y0 f_y0 c_y1 f_y1 c_x0 f_x0 c_x1 f_x1 c_x2 f_x2 hz
    have S:=T
    clear T
    obtain⟨c_y0,c_y1,f_y0,f_y1⟩:=S.cf2 0 rfl
    obtain⟨c_x0,c_x1,c_x2,f_x0,f_x1,f_x2⟩:=S.cf3 1 rfl
    have hz:w.heap.size+1<w3.heap.size:=S.lt 0 rfl
    replace S:=Lib.hid S
    go_wp2
    go_ret
    exact⟨by simp,S.out.bel⟩
theorem res_knownR (W:World) (tmps:Array Value) (g t:Nat) {v0 v1 v2:Value} (ht:tmps.getD 2 undef=.pointer (some ⟨g,0,none⟩)) (h:Cb W g #[v0,v1,v2] t) :
  (results Tryz.f173 tmps).run Tryz.prog W=.ok (.agg #[v0,v1,v2]) W:=by
 have c0:W.cell? ⟨g,0,none⟩=some v0:=h.cell rfl
 have c1:W.cell? ⟨g,1,none⟩=some v1:=h.cell rfl
 have c2:W.cell? ⟨g,2,none⟩=some v2:=h.cell rfl
 have ht':tmps[2]?.getD undef=.pointer (some ⟨g,0,none⟩):=by rw[←ht];simp[Array.getD_eq_getD_getElem?]
 simp[results,Tryz.results173,go_sem,ht',c0,c1,c2]
set_option maxHeartbeats 1000000 in
theorem knownR_any (b:Bool) (A:Option Addr) (n c:Nat) (xs:List Nat) (D:Option Addr) (m d:Nat) (ds:List Nat) (w:World) (R1:Rd w A n c xs) (R2:Rd w D m d ds) (hn:n≤500) (hm:m≤500) :
  Calls Tryz.prog 173 #[.agg #[.bool b,.slice A n c,.slice D m d]] w (RetR (rv b xs ds) w):=by
 have S:=(((((St.new w).read R1).read R2).allocAt (w.heap.size) #[.bool b,.slice A n c,.slice D m d] 46 (noL3 _ _ _ _ _ _ _) (by simp)).allocAt (w.heap.size+1) #[.bool false,.slice none 0 0,.slice none 0 0] 46 (noL3 _ _ _ _ _ _ _) (by simp))
 replace S:=Lib.hid S
 have hV:=fun W h h'=>validR_any b A n c xs D m d ds W h h' hn hm
 cases hv:vldR b xs ds
 ·rw[hv] at hV
  replace hV:=Lib.hid hV
  rw[rv_no hv]
  clear hv R1 R2
  go_enter Tryz.func173,Tryz.ntmps173
  go_wp2_with fail
  refine (hV.out _ (S.out.r 1 rfl) (S.out.r 0 rfl)).mono ?_
  rintro e w1 ⟨rfl,bb⟩
  have T:=(S.out.call bb)
  clear bb S
  have S:=T
  clear T
  obtain⟨c_r0,c_r1,c_r2,f_r0,f_r1,f_r2⟩:=S.cf3 0 rfl
  obtain⟨c_x0,c_x1,c_x2,f_x0,f_x1,f_x2⟩:=S.cf3 1 rfl
  have hz:w.heap.size+1<w1.heap.size:=S.lt 0 rfl
  replace S:=Lib.hid S
  have S:St w _ [(w.heap.size+1,#[.bool false,.slice none 0 0,.slice none 0 0],46),(w.heap.size,#[.bool b,.slice A n c,.slice D m d],46)] [(D,m,d,ds),(A,n,c,xs)]:=(((S.out.set 0 0 (.bool false) rfl (by nofun)).set 0 1 (.slice none 0 0) rfl (by nofun)).set 0 2 (.slice none 0 0) rfl (by nofun))
  replace S:=Lib.hid S
  go_wp2
  refine bodyPost_ret (res_knownR _ _ (w.heap.size+1) 46 rfl (S.out.bk _ (List.mem_of_getElem? (i:=0) rfl)).1) rfl ?_
  exact⟨_,_,_,_,_,_,rfl,zero_RR _ _ _ _ _,S.out.bel⟩
 ·rw[hv] at hV
  replace hV:=Lib.hid hV
  have hc:=Lib.hid (canonR R1.sm R2.sm hv)
  clear hv R1 R2
  go_enter Tryz.func173,Tryz.ntmps173
  go_wp2_with fail
  refine (hV.out _ (S.out.r 1 rfl) (S.out.r 0 rfl)).mono ?_
  rintro e w1 ⟨rfl,bb⟩
  have T:=(S.out.call bb)
  clear bb S
  have S:=T
  clear T
  obtain⟨c_r0,c_r1,c_r2,f_r0,f_r1,f_r2⟩:=S.cf3 0 rfl
  obtain⟨c_x0,c_x1,c_x2,f_x0,f_x1,f_x2⟩:=S.cf3 1 rfl
  have hz:w.heap.size+1<w1.heap.size:=S.lt 0 rfl
  replace S:=Lib.hid S
  have S:St w _ [(w.heap.size+1,#[.bool b,.slice A n c,.slice D m d],46),(w.heap.size,#[.bool b,.slice A n c,.slice D m d],46)] [(D,m,d,ds),(A,n,c,xs)]:=(((S.out.set 0 0 (.bool b) rfl (by nofun)).set 0 1 (.slice A n c) rfl (by nofun)).set 0 2 (.slice D m d) rfl (by nofun))
  replace S:=Lib.hid S
  go_wp2
  refine bodyPost_ret (res_knownR _ _ (w.heap.size+1) 46 rfl (S.out.bk _ (List.mem_of_getElem? (i:=0) rfl)).1) rfl ?_
  obtain⟨e1,e2,e3⟩:=hc.out
  exact⟨A,n,c,D,m,d,by rw[←e1],⟨e2 ▸ S.out.r 1 rfl,e3 ▸ S.out.r 0 rfl⟩,S.out.bel⟩
end Go.Proofs.YtdeedofmflelfaaGreatDoor

namespace Go.Proofs.YtdeedofmflelfaaGreatDoor
open Go.RowKit RQ
theorem res_fromIntR (W:World) (tmps:Array Value) (g t:Nat) {v0 v1 v2:Value} (ht:tmps.getD 2 undef=.pointer (some ⟨g,0,none⟩)) (h:Cb W g #[v0,v1,v2] t) :
  (results Tryz.f48 tmps).run Tryz.prog W=.ok (.agg #[v0,v1,v2]) W:=by
 have c0:W.cell? ⟨g,0,none⟩=some v0:=h.cell rfl
 have c1:W.cell? ⟨g,1,none⟩=some v1:=h.cell rfl
 have c2:W.cell? ⟨g,2,none⟩=some v2:=h.cell rfl
 have ht':tmps[2]?.getD undef=.pointer (some ⟨g,0,none⟩):=by rw[←ht];simp[Array.getD_eq_getD_getElem?]
 simp[results,Tryz.results48,go_sem,ht',c0,c1,c2]
theorem int_RR {w:World} {A:Option Addr} {n c:Nat} {D:Option Addr} {d:Nat} {z:Int} (h:Rd w A n c (limbs z.natAbs)):RR w A n c D 0 d (z:Rat):=⟨h,by rw[show dn (z:Rat)=[] from rfl];exact Rd.nil_ _ _ _⟩
set_option maxHeartbeats 1000000 in
theorem fromIntR_any (v:Int) (w:World) (h0 : -9223372036854775808≤v) (h1:v≤9223372036854775807) :
  Calls Tryz.prog 48 #[.int .i64 v] w (RetR (v:Rat) w):=by
 have hF:=Lib.hid (fun W=>fromInt_any v W h0 h1)
 clear h0 h1
 have S:=((St.new w).allocAt (w.heap.size) #[.bool false,.slice none 0 0,.slice none 0 0] 46 (noL3 _ _ _ _ _ _ _) (by simp))
 replace S:=Lib.hid S
 go_enter Tryz.func48,Tryz.ntmps48
 go_wp2_with fail
 refine (hF.out _).mono ?_
 rintro e w1 ⟨A1,n1,c1,rfl,Q,bb⟩
 have T:=((S.out.call bb).read Q)
 clear bb S
 have S:=T
 clear T
 obtain⟨c_r0,c_r1,c_r2,f_r0,f_r1,f_r2⟩:=S.cf3 0 rfl
 have hz:w.heap.size<w1.heap.size:=S.lt 0 rfl
 replace S:=Lib.hid S
 clear Q
 have S:St w _ [(w.heap.size,#[.bool (ng v),.slice A1 n1 c1,.slice none 0 0],46)] [(A1,n1,c1,limbs v.natAbs)]:=(((S.out.set 0 0 (.bool (ng v)) rfl (by nofun)).set 0 1 (.slice A1 n1 c1) rfl (by nofun)).set 0 2 (.slice none 0 0) rfl (by nofun))
 replace S:=Lib.hid S
 go_wp2
 refine bodyPost_ret (res_fromIntR _ _ (w.heap.size) 46 rfl (S.out.bk _ (List.mem_of_getElem? (i:=0) rfl)).1) rfl ?_
 exact⟨_,_,_,_,_,_,rfl,int_RR (S.out.r 0 rfl),S.out.bel⟩
theorem field_num (b:Bool) (A:Option Addr) (n c:Nat) (D:Option Addr) (m d:Nat) (w:World):(Instr.field 46 (.agg #[.bool b,.slice A n c,.slice D m d]) 0).run Tryz.prog w=.ok (.agg #[.bool b,.slice A n c]) w:=by kernel_rfl
set_option maxHeartbeats 1000000 in
theorem signR_any (b:Bool) (A:Option Addr) (n c:Nat) (xs:List Nat) (D:Option Addr) (m d:Nat) (ds:List Nat) (w:World) (R1:Rd w A n c xs) (R2:Rd w D m d ds) (hn:n≤500) (hm:m≤500) :
  Calls Tryz.prog 140 #[.agg #[.bool b,.slice A n c,.slice D m d]] w fun e w'=>e=.returned (.int .i64 (rv b xs ds).num.sign)∧Below w.heap.size w w':=by
 have S:=((((St.new w).read R1).read R2).allocAt (w.heap.size) #[.bool b,.slice A n c,.slice D m d] 46 (noL3 _ _ _ _ _ _ _) (by simp))
 replace S:=Lib.hid S
 have hs:=Lib.hid (Rs.of (b:=b) R1.sm R2.sm (Nat.le_trans (Nat.le_of_eq R1.len) hn) (Nat.le_trans (Nat.le_of_eq R2.len) hm) (by decide))
 have hK:=fun W h h'=>knownR_any b A n c xs D m d ds W h h' hn hm
 generalize rv b xs ds=q at hK hs ⊢
 replace hK:=Lib.hid hK
 clear R1 R2 hn hm
 go_enter Tryz.func140,Tryz.ntmps140
 go_wp2_with fail
 refine (hK.out _ (S.out.r 1 rfl) (S.out.r 0 rfl)).mono ?_
 rintro e w1 ⟨A1,n1,c1,D1,m1,d1,rfl,Q,bb⟩
 have T:=(((S.out.call bb).read Q.n).read Q.d)
 clear bb S
 have S:=T
 clear T
 obtain⟨c_x0,c_x1,c_x2,f_x0,f_x1,f_x2⟩:=S.cf3 0 rfl
 have hz:w.heap.size<w1.heap.size:=S.lt 0 rfl
 replace S:=Lib.hid S
 have hl:=limbs_len_le.2 hs.out.n
 have hl2:=Q.n.len
 have hG:=signI_any (ng q.num) A1 n1 c1 (limbs q.num.natAbs) _ Q.n (by omega)
 rw[iv_z] at hG
 replace hG:=Lib.hid hG
 clear Q hK hl hl2
 have hfd:=fun w=>field_num (ng q.num) A1 n1 c1 D1 m1 d1 w
 go_wp2_with fail
 refine (hG.out).mono ?_
 rintro e w2 ⟨rfl,bb⟩
 have T:=(S.out.call bb)
 clear bb S c_x0 f_x0 c_x1 f_x1 c_x2 f_x2 hz
 have S:=T
 clear T
 obtain⟨c_x0,c_x1,c_x2,f_x0,f_x1,f_x2⟩:=S.cf3 0 rfl
 have hz:w.heap.size<w2.heap.size:=S.lt 0 rfl
 replace S:=Lib.hid S
 have S:=S.out
 replace S:=Lib.hid S
 go_wp2
 go_ret
 exact⟨rfl,S.out.bel⟩
theorem neg_RR {w:World} {A:Option Addr} {n c:Nat} {D:Option Addr} {m d:Nat} {q:Rat} (h1:Rd w A n c (limbs (-q.num).natAbs)) (h2:Rd w D m d (dn q)):RR w A n c D m d (-q):=⟨h1,h2⟩
end Go.Proofs.YtdeedofmflelfaaGreatDoor
