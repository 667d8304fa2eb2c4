/- Contract of ToInt. Contract of the reference's ToInt. -/
import Derived.Test.YtdeedofmflelfaaGreatDoorQIaz
import Derived.Test.YtdeedofmflelfaaGreatDoorQWqz
namespace Go.Proofs.YtdeedofmflelfaaGreatDoor
open Go.RowKit
/-- What ToInt gives. -/
def tk (z:Int):Bool:=decide (-9223372036854775808≤z∧z≤9223372036854775807)
def ti (z:Int):Int:=if tk z then z else 0
theorem tk_yes {z:Int} (h0 : -9223372036854775808≤z) (h1:z≤9223372036854775807):tk z=true∧ti z=z:=by
 have h:tk z=true:=decide_eq_true ⟨h0,h1⟩
 exact⟨h,by unfold ti;rw[h];rfl⟩
theorem tk_no {z:Int} (h:z < -9223372036854775808∨9223372036854775807<z):tk z=false∧ti z=0:=by
 have h:tk z=false:=decide_eq_false (by omega)
 exact⟨h,by unfold ti;rw[h];rfl⟩
set_option maxHeartbeats 4000000 in
theorem toInt_any (b:Bool) (A:Option Addr) (n c:Nat) (xs:List Nat) (w:World) (h:Rd w A n c xs) (hn:n≤1000) :
  Calls Tryz.prog 179 #[.agg #[.bool b,.slice A n c]] w fun e w'=>e=.returned (.tuple #[.int .i64 (ti (iv b xs)),.bool (tk (iv b xs))])∧Below w.heap.size w w':=by
 have X:=Bx.new w b A n c
 have Bw:=(Below.refl w.heap.size w).alloc (Nat.le_refl _) (.cells #[.bool b,.slice A n c] 44)
 have hk:=knownI_any b A n c xs _ (h.below Bw) (by omega)
 have l1:=iv_abs (b:=b) h.sm (Nat.le_of_eq h.len)
 generalize iv b xs=z at hk l1 ⊢
 obtain⟨a,ha⟩:∃ a:Int,a=((z.natAbs:Nat):Int):=⟨_,rfl⟩
 have hu:=fun W A1 n1 c1 (h:Rd W A1 n1 c1 (limbs z.natAbs)) (hn:n1≤10000)=>uint_any A1 n1 c1 (limbs z.natAbs) W h hn
 rw[num_limbs] at hu
 replace hk:=Lib.hid hk
 replace l1:=Lib.hid l1
 replace X:=Lib.hid X
 replace Bw:=Lib.hid Bw
 clear h
 obtain⟨q,hq⟩:∃ q,ng z=q:=⟨_,rfl⟩
 have hz:(q=true∧z = -a∧0≤a)∨(q=false∧z=a∧0≤a):=by
  unfold ng at hq
  by_cases h:z<0
  ·rw[decide_eq_true h] at hq;exact .inl ⟨hq.symm,by omega,by omega⟩
  ·rw[decide_eq_false h] at hq;exact .inr ⟨hq.symm,by omega,by omega⟩
 by_cases hbig:z.natAbs<18446744073709551616
 ·have hu2:Hid (∀ W A1 n1 c1,Rd W A1 n1 c1 (limbs z.natAbs)→n1≤10000→Calls Tryz.prog 201 #[.slice A1 n1 c1] W fun e w'=>e=.returned (.tuple #[.int .u64 a,.bool true])∧Below W.heap.size W w'):=by
   refine Lib.hid (fun W A1 n1 c1 h hn=>(hu W A1 n1 c1 h hn).mono ?_)
   rw[uval,if_pos hbig,uok,decide_eq_true hbig,←ha]
   rintro e w' ⟨rfl,rfl⟩;exact⟨rfl,Below.refl _ _⟩
  clear hu
  have cases:(q=true∧a≤9223372036854775807∧0≤a∧tk z=true∧ti z = -a)∨(q=true∧a=9223372036854775808∧tk z=true∧ti z = -a)∨(q=true∧9223372036854775808<a∧a≤18446744073709551615∧tk z=false∧ti z=0) ∨
    (q=false∧a≤9223372036854775807∧0≤a∧tk z=true∧ti z=a)∨(q=false∧a=9223372036854775808∧tk z=false∧ti z=0)∨(q=false∧9223372036854775808<a∧a≤18446744073709551615∧tk z=false∧ti z=0):=by
   rcases hz with ⟨h1,h2,h3⟩ | ⟨h1,h2,h3⟩
   ·rcases Int.lt_trichotomy a 9223372036854775808 with h4 | h4 | h4
    ·obtain⟨h5,h6⟩:=@tk_yes z (by omega) (by omega)
     exact .inl ⟨h1,by omega,h3,h5,by rw[h6,h2]⟩
    ·obtain⟨h5,h6⟩:=@tk_yes z (by omega) (by omega)
     exact .inr (.inl ⟨h1,h4,h5,by rw[h6,h2]⟩)
    ·obtain⟨h5,h6⟩:=@tk_no z (by omega)
     exact .inr (.inr (.inl ⟨h1,h4,by omega,h5,h6⟩))
   ·rcases Int.lt_trichotomy a 9223372036854775808 with h4 | h4 | h4
    ·obtain⟨h5,h6⟩:=@tk_yes z (by omega) (by omega)
     exact .inr (.inr (.inr (.inl ⟨h1,by omega,h3,h5,by rw[h6,h2]⟩)))
    ·obtain⟨h5,h6⟩:=@tk_no z (by omega)
     exact .inr (.inr (.inr (.inr (.inl ⟨h1,h4,h5,h6⟩))))
    ·obtain⟨h5,h6⟩:=@tk_no z (by omega)
     exact .inr (.inr (.inr (.inr (.inr ⟨h1,h4,by omega,h5,h6⟩))))
  clear hz hbig ha
  replace hq:=Lib.hid hq
  rcases cases with ⟨rfl,g1,g0,ht,hi⟩ | ⟨rfl,rfl,ht,hi⟩ | ⟨rfl,g1,g0,ht,hi⟩ | ⟨rfl,g1,g0,ht,hi⟩ | ⟨rfl,rfl,ht,hi⟩ | ⟨rfl,g1,g0,ht,hi⟩
  ·have e1:decide (a≤9223372036854775808)=true:=decide_eq_true (by omega)
   have e2:decide (9223372036854775808<a)=false:=decide_eq_false (by omega)
   have e3:(a==9223372036854775808)=false:=by rw[beq_eq_false_iff_ne];omega
   have hw1:wrap64 (IntKind.u64.wrap (-a)) = -a:=by rw[IntKind.wrap_u64];unfold wrap64;omega
   replace hw1:=Lib.hid hw1
   have hw3:wrap64 (-(wrap64 a)) = -a:=by unfold wrap64;omega
   replace hw3:=Lib.hid hw3
   have hw2:wrap64 a=a:=by unfold wrap64;omega
   replace hw2:=Lib.hid hw2
   rw[ht,hi]
   clear ht hi
   go_enter Tryz.func179,Tryz.ntmps179
   go_wp2_with (go_at_call 196;refine hk.out.mono ?_;rintro e w1 ⟨A1,n1,c1,rfl,Q1,B1⟩;rw[hq.out];refine Hid.out ?_)
   refine Lib.hid ?_
   have hn1:n1≤1000:=by have:=l1.out;have:=Q1.len;omega
   have X1:=X.out.bel B1
   have Bz:=Lib.hid (put_below (.bool true) (.slice A1 n1 c1) (Bw.out.trans (B1.mono Bw.out.size)) (Nat.le_refl w.heap.size))
   obtain⟨a0,a1,a2,a3⟩:=X1.at_
   have X2:=X1.put true A1 n1 c1
   obtain⟨d0,d1,d2,d3⟩:=X2.at_
   have Q2:=Lib.hid (Q1.put X1 (.bool true) (.slice A1 n1 c1))
   have X3:=Lib.hid X2
   clear X1 Q1 B1 X2
   go_wp2_with (go_at_call 201;refine (hu2.out _ _ _ _ Q2.out (by omega)).mono ?_;rintro e w2 ⟨rfl,B2'⟩;refine Hid.out ?_)
   refine Lib.hid ?_
   have X4:=X3.out.bel B2'
   have By:=Lib.hid (Bz.out.trans (B2'.mono Bz.out.size))
   clear d0 d1 d2 d3 a0 a1 a2 a3 B2' Q2
   obtain⟨d0,d1,d2,d3⟩:=X4.at_
   clear X4
   go_wp2
   go_ret2
   exact⟨by first | rfl | exact congrArg (fun x=>Ending.returned (Value.tuple #[.int .i64 x,.bool true])) hw1.out | exact congrArg (fun x=>Ending.returned (Value.tuple #[.int .i64 x,.bool true])) hw2.out | exact congrArg (fun x=>Ending.returned (Value.tuple #[.int .i64 x,.bool true])) hw3.out | exact congrArg (fun x=>Ending.returned (Value.tuple #[.int .i64 x,.bool true])) (show wrap64 (IntKind.u64.wrap (-9223372036854775808)) = -9223372036854775808 by rw[IntKind.wrap_u64];unfold wrap64;omega),By.out⟩
  ·rw[ht,hi]
   clear ht hi
   go_enter Tryz.func179,Tryz.ntmps179
   go_wp2_with (go_at_call 196;refine hk.out.mono ?_;rintro e w1 ⟨A1,n1,c1,rfl,Q1,B1⟩;rw[hq.out];refine Hid.out ?_)
   refine Lib.hid ?_
   have hn1:n1≤1000:=by have:=l1.out;have:=Q1.len;omega
   have X1:=X.out.bel B1
   have Bz:=Lib.hid (put_below (.bool true) (.slice A1 n1 c1) (Bw.out.trans (B1.mono Bw.out.size)) (Nat.le_refl w.heap.size))
   obtain⟨a0,a1,a2,a3⟩:=X1.at_
   have X2:=X1.put true A1 n1 c1
   obtain⟨d0,d1,d2,d3⟩:=X2.at_
   have Q2:=Lib.hid (Q1.put X1 (.bool true) (.slice A1 n1 c1))
   have X3:=Lib.hid X2
   clear X1 Q1 B1 X2
   go_wp2_with (go_at_call 201;refine (hu2.out _ _ _ _ Q2.out (by omega)).mono ?_;rintro e w2 ⟨rfl,B2'⟩;refine Hid.out ?_)
   refine Lib.hid ?_
   have X4:=X3.out.bel B2'
   have By:=Lib.hid (Bz.out.trans (B2'.mono Bz.out.size))
   clear d0 d1 d2 d3 a0 a1 a2 a3 B2' Q2
   obtain⟨d0,d1,d2,d3⟩:=X4.at_
   clear X4
   go_wp2
   go_ret2
   exact⟨by first | rfl | exact congrArg (fun x=>Ending.returned (Value.tuple #[.int .i64 x,.bool true])) hw1.out | exact congrArg (fun x=>Ending.returned (Value.tuple #[.int .i64 x,.bool true])) hw2.out | exact congrArg (fun x=>Ending.returned (Value.tuple #[.int .i64 x,.bool true])) hw3.out | exact congrArg (fun x=>Ending.returned (Value.tuple #[.int .i64 x,.bool true])) (show wrap64 (IntKind.u64.wrap (-9223372036854775808)) = -9223372036854775808 by rw[IntKind.wrap_u64];unfold wrap64;omega),By.out⟩
  ·have e1:decide (a≤9223372036854775808)=false:=decide_eq_false (by omega)
   have e2:decide (9223372036854775808<a)=true:=decide_eq_true (by omega)
   have e3:(a==9223372036854775808)=false:=by rw[beq_eq_false_iff_ne];omega
   rw[ht,hi]
   clear ht hi
   go_enter Tryz.func179,Tryz.ntmps179
   go_wp2_with (go_at_call 196;refine hk.out.mono ?_;rintro e w1 ⟨A1,n1,c1,rfl,Q1,B1⟩;rw[hq.out];refine Hid.out ?_)
   refine Lib.hid ?_
   have hn1:n1≤1000:=by have:=l1.out;have:=Q1.len;omega
   have X1:=X.out.bel B1
   have Bz:=Lib.hid (put_below (.bool true) (.slice A1 n1 c1) (Bw.out.trans (B1.mono Bw.out.size)) (Nat.le_refl w.heap.size))
   obtain⟨a0,a1,a2,a3⟩:=X1.at_
   have X2:=X1.put true A1 n1 c1
   obtain⟨d0,d1,d2,d3⟩:=X2.at_
   have Q2:=Lib.hid (Q1.put X1 (.bool true) (.slice A1 n1 c1))
   have X3:=Lib.hid X2
   clear X1 Q1 B1 X2
   go_wp2_with (go_at_call 201;refine (hu2.out _ _ _ _ Q2.out (by omega)).mono ?_;rintro e w2 ⟨rfl,B2'⟩;refine Hid.out ?_)
   refine Lib.hid ?_
   have X4:=X3.out.bel B2'
   have By:=Lib.hid (Bz.out.trans (B2'.mono Bz.out.size))
   clear d0 d1 d2 d3 a0 a1 a2 a3 B2' Q2
   obtain⟨d0,d1,d2,d3⟩:=X4.at_
   clear X4
   go_wp2
   go_ret2
   exact⟨by first | rfl | exact congrArg (fun x=>Ending.returned (Value.tuple #[.int .i64 x,.bool true])) hw1.out | exact congrArg (fun x=>Ending.returned (Value.tuple #[.int .i64 x,.bool true])) hw2.out | exact congrArg (fun x=>Ending.returned (Value.tuple #[.int .i64 x,.bool true])) hw3.out | exact congrArg (fun x=>Ending.returned (Value.tuple #[.int .i64 x,.bool true])) (show wrap64 (IntKind.u64.wrap (-9223372036854775808)) = -9223372036854775808 by rw[IntKind.wrap_u64];unfold wrap64;omega),By.out⟩
  ·have e1:decide (a≤9223372036854775807)=true:=decide_eq_true (by omega)
   have e2:decide (9223372036854775808<a)=false:=decide_eq_false (by omega)
   have e3:(a==9223372036854775808)=false:=by rw[beq_eq_false_iff_ne];omega
   have hw2:wrap64 a=a:=by unfold wrap64;omega
   replace hw2:=Lib.hid hw2
   rw[ht,hi]
   clear ht hi
   go_enter Tryz.func179,Tryz.ntmps179
   go_wp2_with (go_at_call 196;refine hk.out.mono ?_;rintro e w1 ⟨A1,n1,c1,rfl,Q1,B1⟩;rw[hq.out];refine Hid.out ?_)
   refine Lib.hid ?_
   have hn1:n1≤1000:=by have:=l1.out;have:=Q1.len;omega
   have X1:=X.out.bel B1
   have Bz:=Lib.hid (put_below (.bool false) (.slice A1 n1 c1) (Bw.out.trans (B1.mono Bw.out.size)) (Nat.le_refl w.heap.size))
   obtain⟨a0,a1,a2,a3⟩:=X1.at_
   have X2:=X1.put false A1 n1 c1
   obtain⟨d0,d1,d2,d3⟩:=X2.at_
   have Q2:=Lib.hid (Q1.put X1 (.bool false) (.slice A1 n1 c1))
   have X3:=Lib.hid X2
   clear X1 Q1 B1 X2
   go_wp2_with (go_at_call 201;refine (hu2.out _ _ _ _ Q2.out (by omega)).mono ?_;rintro e w2 ⟨rfl,B2'⟩;refine Hid.out ?_)
   refine Lib.hid ?_
   have X4:=X3.out.bel B2'
   have By:=Lib.hid (Bz.out.trans (B2'.mono Bz.out.size))
   clear d0 d1 d2 d3 a0 a1 a2 a3 B2' Q2
   obtain⟨d0,d1,d2,d3⟩:=X4.at_
   clear X4
   go_wp2
   go_ret2
   exact⟨by first | rfl | exact congrArg (fun x=>Ending.returned (Value.tuple #[.int .i64 x,.bool true])) hw1.out | exact congrArg (fun x=>Ending.returned (Value.tuple #[.int .i64 x,.bool true])) hw2.out | exact congrArg (fun x=>Ending.returned (Value.tuple #[.int .i64 x,.bool true])) hw3.out | exact congrArg (fun x=>Ending.returned (Value.tuple #[.int .i64 x,.bool true])) (show wrap64 (IntKind.u64.wrap (-9223372036854775808)) = -9223372036854775808 by rw[IntKind.wrap_u64];unfold wrap64;omega),By.out⟩
  ·rw[ht,hi]
   clear ht hi
   go_enter Tryz.func179,Tryz.ntmps179
   go_wp2_with (go_at_call 196;refine hk.out.mono ?_;rintro e w1 ⟨A1,n1,c1,rfl,Q1,B1⟩;rw[hq.out];refine Hid.out ?_)
   refine Lib.hid ?_
   have hn1:n1≤1000:=by have:=l1.out;have:=Q1.len;omega
   have X1:=X.out.bel B1
   have Bz:=Lib.hid (put_below (.bool false) (.slice A1 n1 c1) (Bw.out.trans (B1.mono Bw.out.size)) (Nat.le_refl w.heap.size))
   obtain⟨a0,a1,a2,a3⟩:=X1.at_
   have X2:=X1.put false A1 n1 c1
   obtain⟨d0,d1,d2,d3⟩:=X2.at_
   have Q2:=Lib.hid (Q1.put X1 (.bool false) (.slice A1 n1 c1))
   have X3:=Lib.hid X2
   clear X1 Q1 B1 X2
   go_wp2_with (go_at_call 201;refine (hu2.out _ _ _ _ Q2.out (by omega)).mono ?_;rintro e w2 ⟨rfl,B2'⟩;refine Hid.out ?_)
   refine Lib.hid ?_
   have X4:=X3.out.bel B2'
   have By:=Lib.hid (Bz.out.trans (B2'.mono Bz.out.size))
   clear d0 d1 d2 d3 a0 a1 a2 a3 B2' Q2
   obtain⟨d0,d1,d2,d3⟩:=X4.at_
   clear X4
   go_wp2
   go_ret2
   exact⟨by first | rfl | exact congrArg (fun x=>Ending.returned (Value.tuple #[.int .i64 x,.bool true])) hw1.out | exact congrArg (fun x=>Ending.returned (Value.tuple #[.int .i64 x,.bool true])) hw2.out | exact congrArg (fun x=>Ending.returned (Value.tuple #[.int .i64 x,.bool true])) hw3.out | exact congrArg (fun x=>Ending.returned (Value.tuple #[.int .i64 x,.bool true])) (show wrap64 (IntKind.u64.wrap (-9223372036854775808)) = -9223372036854775808 by rw[IntKind.wrap_u64];unfold wrap64;omega),By.out⟩
  ·have e1:decide (a≤9223372036854775807)=false:=decide_eq_false (by omega)
   have e2:decide (9223372036854775808<a)=true:=decide_eq_true (by omega)
   have e3:(a==9223372036854775808)=false:=by rw[beq_eq_false_iff_ne];omega
   rw[ht,hi]
   clear ht hi
   go_enter Tryz.func179,Tryz.ntmps179
   go_wp2_with (go_at_call 196;refine hk.out.mono ?_;rintro e w1 ⟨A1,n1,c1,rfl,Q1,B1⟩;rw[hq.out];refine Hid.out ?_)
   refine Lib.hid ?_
   have hn1:n1≤1000:=by have:=l1.out;have:=Q1.len;omega
   have X1:=X.out.bel B1
   have Bz:=Lib.hid (put_below (.bool false) (.slice A1 n1 c1) (Bw.out.trans (B1.mono Bw.out.size)) (Nat.le_refl w.heap.size))
   obtain⟨a0,a1,a2,a3⟩:=X1.at_
   have X2:=X1.put false A1 n1 c1
   obtain⟨d0,d1,d2,d3⟩:=X2.at_
   have Q2:=Lib.hid (Q1.put X1 (.bool false) (.slice A1 n1 c1))
   have X3:=Lib.hid X2
   clear X1 Q1 B1 X2
   go_wp2_with (go_at_call 201;refine (hu2.out _ _ _ _ Q2.out (by omega)).mono ?_;rintro e w2 ⟨rfl,B2'⟩;refine Hid.out ?_)
   refine Lib.hid ?_
   have X4:=X3.out.bel B2'
   have By:=Lib.hid (Bz.out.trans (B2'.mono Bz.out.size))
   clear d0 d1 d2 d3 a0 a1 a2 a3 B2' Q2
   obtain⟨d0,d1,d2,d3⟩:=X4.at_
   clear X4
   go_wp2
   go_ret2
   exact⟨by first | rfl | exact congrArg (fun x=>Ending.returned (Value.tuple #[.int .i64 x,.bool true])) hw1.out | exact congrArg (fun x=>Ending.returned (Value.tuple #[.int .i64 x,.bool true])) hw2.out | exact congrArg (fun x=>Ending.returned (Value.tuple #[.int .i64 x,.bool true])) hw3.out | exact congrArg (fun x=>Ending.returned (Value.tuple #[.int .i64 x,.bool true])) (show wrap64 (IntKind.u64.wrap (-9223372036854775808)) = -9223372036854775808 by rw[IntKind.wrap_u64];unfold wrap64;omega),By.out⟩
 ·have hu2:Hid (∀ W A1 n1 c1,Rd W A1 n1 c1 (limbs z.natAbs)→n1≤10000→Calls Tryz.prog 201 #[.slice A1 n1 c1] W fun e w'=>e=.returned (.tuple #[.int .u64 0,.bool false])∧Below W.heap.size W w'):=by
   refine Lib.hid (fun W A1 n1 c1 h hn=>(hu W A1 n1 c1 h hn).mono ?_)
   rw[uval,if_neg hbig,uok,decide_eq_false hbig]
   rintro e w' ⟨rfl,rfl⟩;exact⟨rfl,Below.refl _ _⟩
  clear hu
  obtain⟨ht,hi⟩:=@tk_no z (by omega)
  clear hz hbig ha
  replace hq:=Lib.hid hq
  cases q
  ·rw[ht,hi]
   clear ht hi
   go_enter Tryz.func179,Tryz.ntmps179
   go_wp2_with (go_at_call 196;refine hk.out.mono ?_;rintro e w1 ⟨A1,n1,c1,rfl,Q1,B1⟩;rw[hq.out];refine Hid.out ?_)
   refine Lib.hid ?_
   have hn1:n1≤1000:=by have:=l1.out;have:=Q1.len;omega
   have X1:=X.out.bel B1
   have Bz:=Lib.hid (put_below (.bool false) (.slice A1 n1 c1) (Bw.out.trans (B1.mono Bw.out.size)) (Nat.le_refl w.heap.size))
   obtain⟨a0,a1,a2,a3⟩:=X1.at_
   have X2:=X1.put false A1 n1 c1
   obtain⟨d0,d1,d2,d3⟩:=X2.at_
   have Q2:=Lib.hid (Q1.put X1 (.bool false) (.slice A1 n1 c1))
   have X3:=Lib.hid X2
   clear X1 Q1 B1 X2
   go_wp2_with (go_at_call 201;refine (hu2.out _ _ _ _ Q2.out (by omega)).mono ?_;rintro e w2 ⟨rfl,B2'⟩;refine Hid.out ?_)
   refine Lib.hid ?_
   have X4:=X3.out.bel B2'
   have By:=Lib.hid (Bz.out.trans (B2'.mono Bz.out.size))
   clear d0 d1 d2 d3 a0 a1 a2 a3 B2' Q2
   obtain⟨d0,d1,d2,d3⟩:=X4.at_
   clear X4
   go_wp2
   go_ret2
   exact⟨rfl,By.out⟩
  ·rw[ht,hi]
   clear ht hi
   go_enter Tryz.func179,Tryz.ntmps179
   go_wp2_with (go_at_call 196;refine hk.out.mono ?_;rintro e w1 ⟨A1,n1,c1,rfl,Q1,B1⟩;rw[hq.out];refine Hid.out ?_)
   refine Lib.hid ?_
   have hn1:n1≤1000:=by have:=l1.out;have:=Q1.len;omega
   have X1:=X.out.bel B1
   have Bz:=Lib.hid (put_below (.bool true) (.slice A1 n1 c1) (Bw.out.trans (B1.mono Bw.out.size)) (Nat.le_refl w.heap.size))
   obtain⟨a0,a1,a2,a3⟩:=X1.at_
   have X2:=X1.put true A1 n1 c1
   obtain⟨d0,d1,d2,d3⟩:=X2.at_
   have Q2:=Lib.hid (Q1.put X1 (.bool true) (.slice A1 n1 c1))
   have X3:=Lib.hid X2
   clear X1 Q1 B1 X2
   go_wp2_with (go_at_call 201;refine (hu2.out _ _ _ _ Q2.out (by omega)).mono ?_;rintro e w2 ⟨rfl,B2'⟩;refine Hid.out ?_)
   refine Lib.hid ?_
   have X4:=X3.out.bel B2'
   have By:=Lib.hid (Bz.out.trans (B2'.mono Bz.out.size))
   clear d0 d1 d2 d3 a0 a1 a2 a3 B2' Q2
   obtain⟨d0,d1,d2,d3⟩:=X4.at_
   clear X4
   go_wp2
   go_ret2
   exact⟨rfl,By.out⟩
end Go.Proofs.YtdeedofmflelfaaGreatDoor

namespace Go.Proofs.YtdeedofmflelfaaGreatDoor
open Go.RowKit
end Go.Proofs.YtdeedofmflelfaaGreatDoor
