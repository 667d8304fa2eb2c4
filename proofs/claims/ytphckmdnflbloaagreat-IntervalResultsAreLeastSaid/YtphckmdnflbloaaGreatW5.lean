/- The law IntervalResultsAreLeast. -/
import Derived.Test.YtphckmdnflbloaaGreatAq
import Derived.Test.YtphckmdnflbloaaGreatVt
import Derived.Test.YtphckmdnflbloaaGreatQVfz
import Derived.Test.YtphckmdnflbloaaGreatQVpz
namespace Go.Proofs.YtphckmdnflbloaaGreat
open Go.RowKit RQ
theorem lst1 {α:Type} {L:List α} (h:L.length=1):∃ a,L=[a]:=by match L,h with | [a],_=>exact⟨a,rfl⟩
theorem lst2 {α:Type} {L:List α} (h:L.length=2):∃ a b,L=[a,b]:=by match L,h with | [a,b],_=>exact⟨a,b,rfl⟩
theorem lst3 {α:Type} {L:List α} (h:L.length=3):∃ a b c,L=[a,b,c]:=by match L,h with | [a,b,c],_=>exact⟨a,b,c,rfl⟩
theorem lst4 {α:Type} {L:List α} (h:L.length=4):∃ a b c d,L=[a,b,c,d]:=by match L,h with | [a,b,c,d],_=>exact⟨a,b,c,d,rfl⟩
theorem atn {W:World}:∀ r∈([]:List Rq),r.at W:=fun r hr=>by cases hr
theorem atc {W:World} {r:Rq} {l:List Rq} (h:r.at W) (h':∀ s∈l,s.at W):∀ s∈r::l,s.at W:=fun s hs=>by
 rcases List.mem_cons.1 hs with rfl | hs
 ·exact h
 ·exact h' s hs
theorem ml_mem (a b c d:Rat):(minL (mulL a b c d)=a*c∨minL (mulL a b c d)=b*c∨minL (mulL a b c d)=a*d∨minL (mulL a b c d)=b*d)∧(maxL (mulL a b c d)=a*c∨maxL (mulL a b c d)=b*c∨maxL (mulL a b c d)=a*d∨maxL (mulL a b c d)=b*d):=by
 have h1:=minL_mem (l:=mulL a b c d) (by simp[mulL])
 have h2:=maxL_mem (l:=mulL a b c d) (by simp[mulL])
 unfold mulL at h1 h2 ⊢
 simp only[List.mem_cons,List.not_mem_nil,or_false] at h1 h2
 constructor
 ·rcases h1 with h | h | h | h<;>simp only[h,true_or,or_true]
 ·rcases h2 with h | h | h | h<;>simp only[h,true_or,or_true]
theorem sq_ends' (a b:Rat):a*a∈sqL a b∧b*b∈sqL a b:=by unfold sqL;split<;>simp
theorem sq_max (a b:Rat):maxL (sqL a b)=a*a∨maxL (sqL a b)=b*b:=by
 have h:=maxL_mem (sqL_ne a b)
 have h1:=le_maxL (sq_ends' a b).1
 by_cases c:a≤0∧0≤b
 ·rw[show sqL a b=[0,a*a,b*b] from if_pos c] at h h1 ⊢
  simp only[List.mem_cons,List.not_mem_nil,or_false] at h
  rcases h with h | h | h
  ·left;rw[h] at h1 ⊢;exact Rat.le_antisymm (sq_nonneg a) h1
  ·exact Or.inl h
  ·exact Or.inr h
 ·rw[show sqL a b=[a*a,b*b] from if_neg c] at h h1 ⊢
  simp only[List.mem_cons,List.not_mem_nil,or_false] at h
  exact h
theorem sq_zero {a b:Rat} (hab:a≤b):(minL (sqL a b)=0)↔(a≤0∧0≤b):=by
 have hm:=minL_mem (sqL_ne a b)
 constructor
 ·intro h
  rw[h] at hm
  unfold sqL at hm
  split at hm
  ·assumption
  ·simp only[List.mem_cons,List.not_mem_nil,or_false] at hm
   have key:∀ x:Rat,0=x*x→x=0:=fun x e=>by rcases Rat.mul_eq_zero.1 e.symm with h | h<;>exact h
   rcases hm with h | h
   ·have:=key _ h;subst this;exact⟨Rat.le_refl,hab⟩
   ·have:=key _ h;subst this;exact⟨hab,Rat.le_refl⟩
 ·intro h
  have h0:(0:Rat)∈sqL a b:=by unfold sqL;rw[if_pos h];simp
  refine Rat.le_antisymm (minL_le h0) ?_
  unfold sqL at hm ⊢
  rw[if_pos h] at hm ⊢
  simp only[List.mem_cons,List.not_mem_nil,or_false] at hm
  rcases hm with e | e | e
  ·rw[e];exact Rat.le_refl
  ·rw[e];exact sq_nonneg a
  ·rw[e];exact sq_nonneg b
set_option maxRecDepth 100000 in
set_option maxHeartbeats 32000000 in
theorem law_rl (b1:Bool) (A1:Option Addr) (n1 c1:Nat) (x1:List Nat) (D1:Option Addr) (m1 d1:Nat) (y1:List Nat) (b2:Bool) (A2:Option Addr) (n2 c2:Nat) (x2:List Nat) (D2:Option Addr) (m2 d2:Nat) (y2:List Nat) (b3:Bool) (A3:Option Addr) (n3 c3:Nat) (x3:List Nat) (D3:Option Addr) (m3 d3:Nat) (y3:List Nat) (b4:Bool) (A4:Option Addr) (n4 c4:Nat) (x4:List Nat) (D4:Option Addr) (m4 d4:Nat) (y4:List Nat) (w:World) (R1:Rd w A1 n1 c1 x1) (M1:n1≤9223372036854775807) (D1':Rd w D1 m1 d1 y1) (N1:m1≤9223372036854775807) (R2:Rd w A2 n2 c2 x2) (M2:n2≤9223372036854775807) (D2':Rd w D2 m2 d2 y2) (N2:m2≤9223372036854775807) (R3:Rd w A3 n3 c3 x3) (M3:n3≤9223372036854775807) (D3':Rd w D3 m3 d3 y3) (N3:m3≤9223372036854775807) (R4:Rd w A4 n4 c4 x4) (M4:n4≤9223372036854775807) (D4':Rd w D4 m4 d4 y4) (N4:m4≤9223372036854775807):Calls Tryz.prog 5 #[.agg #[.bool b1,.slice A1 n1 c1,.slice D1 m1 d1,.bool b2,.slice A2 n2 c2,.slice D2 m2 d2],.agg #[.bool b3,.slice A3 n3 c3,.slice D3 m3 d3,.bool b4,.slice A4 n4 c4,.slice D4 m4 d4]] w fun e w'=>e=.returned (.bool true)∧Below w.heap.size w w':=by
 have hA:=Lib.hid (fun W=>awakeV_any W)
 have hL0:=fun W=>light4_any b1 A1 n1 c1 D1 m1 d1 b2 A2 n2 c2 D2 m2 d2 W M1 N1 M2 N2
 have hL1:=fun W=>light4_any b3 A3 n3 c3 D3 m3 d3 b4 A4 n4 c4 D4 m4 d4 W M3 N3 M4 N4
 cases l0:(lightB n1 m1&&lightB n2 m2)
 ·rw[l0] at hL0
  replace hL0:=Lib.hid hL0
  clear hL1
  clear l0
  have S:=(((((((((((St.new w).read R1).read D1').read R2).read D2').read R3).read D3').read R4).read D4').allocAt (w.heap.size) #[.bool b1,.slice A1 n1 c1,.slice D1 m1 d1,.bool b2,.slice A2 n2 c2,.slice D2 m2 d2] 28 (noL6 _ _ _ _ _ _ _ _ _ _ _ _ _ _) (by simp)).allocAt (w.heap.size+1) #[.bool b3,.slice A3 n3 c3,.slice D3 m3 d3,.bool b4,.slice A4 n4 c4,.slice D4 m4 d4] 28 (noL6 _ _ _ _ _ _ _ _ _ _ _ _ _ _) (by simp))
  replace S:=Lib.hid S
  clear R1 M1 D1' N1 R2 M2 D2' N2 R3 M3 D3' N3 R4 M4 D4' N4
  go_enter Tryz.func5,Tryz.ntmps5
  go_wp2_with fail
  refine (hL0.out _).mono ?_
  rintro e w1 ⟨rfl,bb⟩
  have T:=(S.out.call bb)
  clear bb S
  have S:=T
  clear T
  obtain⟨c_b0,c_b1,c_b2,c_b3,c_b4,c_b5⟩:=S.c6 0 rfl
  obtain⟨c_a0,c_a1,c_a2,c_a3,c_a4,c_a5⟩:=S.c6 1 rfl
  have hz:w.heap.size+1<w1.heap.size:=S.lt 0 rfl
  replace S:=Lib.hid S
  clear hL0
  go_wp2_with fail
  refine (hA.out _).mono ?_
  rintro e w2 ⟨rfl,bb⟩
  have T:=(S.out.call bb)
  clear bb S c_b0 c_b1 c_b2 c_b3 c_b4 c_b5 c_a0 c_a1 c_a2 c_a3 c_a4 c_a5 hz
  have S:=T
  clear T
  obtain⟨c_b0,c_b1,c_b2,c_b3,c_b4,c_b5⟩:=S.c6 0 rfl
  obtain⟨c_a0,c_a1,c_a2,c_a3,c_a4,c_a5⟩:=S.c6 1 rfl
  have hz:w.heap.size+1<w2.heap.size:=S.lt 0 rfl
  replace S:=Lib.hid S
  have S:=S.out
  replace S:=Lib.hid S
  go_wp2
  go_ret
  exact⟨rfl,S.out.bel⟩
 rw[l0] at hL0
 cases l1:(lightB n3 m3&&lightB n4 m4)
 ·rw[l1] at hL1
  replace hL0:=Lib.hid hL0
  replace hL1:=Lib.hid hL1
  clear l0 l1
  have S:=(((((((((((St.new w).read R1).read D1').read R2).read D2').read R3).read D3').read R4).read D4').allocAt (w.heap.size) #[.bool b1,.slice A1 n1 c1,.slice D1 m1 d1,.bool b2,.slice A2 n2 c2,.slice D2 m2 d2] 28 (noL6 _ _ _ _ _ _ _ _ _ _ _ _ _ _) (by simp)).allocAt (w.heap.size+1) #[.bool b3,.slice A3 n3 c3,.slice D3 m3 d3,.bool b4,.slice A4 n4 c4,.slice D4 m4 d4] 28 (noL6 _ _ _ _ _ _ _ _ _ _ _ _ _ _) (by simp))
  replace S:=Lib.hid S
  clear R1 M1 D1' N1 R2 M2 D2' N2 R3 M3 D3' N3 R4 M4 D4' N4
  go_enter Tryz.func5,Tryz.ntmps5
  go_wp2_with fail
  refine (hL0.out _).mono ?_
  rintro e w1 ⟨rfl,bb⟩
  have T:=(S.out.call bb)
  clear bb S
  have S:=T
  clear T
  obtain⟨c_b0,c_b1,c_b2,c_b3,c_b4,c_b5⟩:=S.c6 0 rfl
  obtain⟨c_a0,c_a1,c_a2,c_a3,c_a4,c_a5⟩:=S.c6 1 rfl
  have hz:w.heap.size+1<w1.heap.size:=S.lt 0 rfl
  replace S:=Lib.hid S
  clear hL0
  go_wp2_with fail
  refine (hL1.out _).mono ?_
  rintro e w2 ⟨rfl,bb⟩
  have T:=(S.out.call bb)
  clear bb S c_b0 c_b1 c_b2 c_b3 c_b4 c_b5 c_a0 c_a1 c_a2 c_a3 c_a4 c_a5 hz
  have S:=T
  clear T
  obtain⟨c_b0,c_b1,c_b2,c_b3,c_b4,c_b5⟩:=S.c6 0 rfl
  obtain⟨c_a0,c_a1,c_a2,c_a3,c_a4,c_a5⟩:=S.c6 1 rfl
  have hz:w.heap.size+1<w2.heap.size:=S.lt 0 rfl
  replace S:=Lib.hid S
  clear hL1
  go_wp2_with fail
  refine (hA.out _).mono ?_
  rintro e w3 ⟨rfl,bb⟩
  have T:=(S.out.call bb)
  clear bb S c_b0 c_b1 c_b2 c_b3 c_b4 c_b5 c_a0 c_a1 c_a2 c_a3 c_a4 c_a5 hz
  have S:=T
  clear T
  obtain⟨c_b0,c_b1,c_b2,c_b3,c_b4,c_b5⟩:=S.c6 0 rfl
  obtain⟨c_a0,c_a1,c_a2,c_a3,c_a4,c_a5⟩:=S.c6 1 rfl
  have hz:w.heap.size+1<w3.heap.size:=S.lt 0 rfl
  replace S:=Lib.hid S
  have S:=S.out
  replace S:=Lib.hid S
  go_wp2
  go_ret
  exact⟨rfl,S.out.bel⟩
 rw[l1] at hL1
 rw[Bool.and_eq_true] at l0 l1
 obtain⟨g1,g2⟩:=l0
 obtain⟨g3,g4⟩:=l1
 obtain⟨q1,X1,s1⟩:∃ q,Rw w b1 A1 n1 c1 x1 D1 m1 d1 y1 q∧Rs q 8:=⟨rv b1 x1 y1,⟨R1,D1',rfl,by have:=light_8 g1;omega,by have:=light_8 g1;omega⟩,rs_light R1 D1' g1⟩
 obtain⟨q2,X2,s2⟩:∃ q,Rw w b2 A2 n2 c2 x2 D2 m2 d2 y2 q∧Rs q 8:=⟨rv b2 x2 y2,⟨R2,D2',rfl,by have:=light_8 g2;omega,by have:=light_8 g2;omega⟩,rs_light R2 D2' g2⟩
 obtain⟨q3,X3,s3⟩:∃ q,Rw w b3 A3 n3 c3 x3 D3 m3 d3 y3 q∧Rs q 8:=⟨rv b3 x3 y3,⟨R3,D3',rfl,by have:=light_8 g3;omega,by have:=light_8 g3;omega⟩,rs_light R3 D3' g3⟩
 obtain⟨q4,X4,s4⟩:∃ q,Rw w b4 A4 n4 c4 x4 D4 m4 d4 y4 q∧Rs q 8:=⟨rv b4 x4 y4,⟨R4,D4',rfl,by have:=light_8 g4;omega,by have:=light_8 g4;omega⟩,rs_light R4 D4' g4⟩
 clear g1 g2 g3 g4 R1 M1 D1' N1 R2 M2 D2' N2 R3 M3 D3' N3 R4 M4 D4' N4
 replace hL0:=Lib.hid hL0
 replace hL1:=Lib.hid hL1
 have hV1:=fun W h1 h2=>rvalidV_any b1 A1 n1 c1 x1 D1 m1 d1 y1 q1 b2 A2 n2 c2 x2 D2 m2 d2 y2 q2 W h1 h2
 have hV2:=fun W h1 h2=>rvalidV_any b3 A3 n3 c3 x3 D3 m3 d3 y3 q3 b4 A4 n4 c4 x4 D4 m4 d4 y4 q4 W h1 h2
 have k1:=Lib.hid X1.k
 have k2:=Lib.hid X2.k
 have k3:=Lib.hid X3.k
 have k4:=Lib.hid X4.k
 have S:=(((((((((((St.new w).read X1.rn).read X1.rd).read X2.rn).read X2.rd).read X3.rn).read X3.rd).read X4.rn).read X4.rd).allocAt (w.heap.size) #[.bool b1,.slice A1 n1 c1,.slice D1 m1 d1,.bool b2,.slice A2 n2 c2,.slice D2 m2 d2] 28 (noL6 _ _ _ _ _ _ _ _ _ _ _ _ _ _) (by simp)).allocAt (w.heap.size+1) #[.bool b3,.slice A3 n3 c3,.slice D3 m3 d3,.bool b4,.slice A4 n4 c4,.slice D4 m4 d4] 28 (noL6 _ _ _ _ _ _ _ _ _ _ _ _ _ _) (by simp))
 replace S:=Lib.hid S
 cases u0:((vldR b1 x1 y1&&vldR b2 x2 y2)&&decide (q1≤q2))
 ·rw[u0] at hV1
  clear u0
  clear X1 s1 X2 s2 X3 s3 X4 s4
  clear hV2
  replace hV1:=Lib.hid hV1
  go_enter Tryz.func5,Tryz.ntmps5
  go_wp2_with fail
  refine (hL0.out _).mono ?_
  rintro e w1 ⟨rfl,bb⟩
  have T:=(S.out.call bb)
  clear bb S
  have S:=T
  clear T
  obtain⟨c_b0,c_b1,c_b2,c_b3,c_b4,c_b5⟩:=S.c6 0 rfl
  obtain⟨c_a0,c_a1,c_a2,c_a3,c_a4,c_a5⟩:=S.c6 1 rfl
  have hz:w.heap.size+1<w1.heap.size:=S.lt 0 rfl
  replace S:=Lib.hid S
  clear hL0
  go_wp2_with fail
  refine (hL1.out _).mono ?_
  rintro e w2 ⟨rfl,bb⟩
  have T:=(S.out.call bb)
  clear bb S c_b0 c_b1 c_b2 c_b3 c_b4 c_b5 c_a0 c_a1 c_a2 c_a3 c_a4 c_a5 hz
  have S:=T
  clear T
  obtain⟨c_b0,c_b1,c_b2,c_b3,c_b4,c_b5⟩:=S.c6 0 rfl
  obtain⟨c_a0,c_a1,c_a2,c_a3,c_a4,c_a5⟩:=S.c6 1 rfl
  have hz:w.heap.size+1<w2.heap.size:=S.lt 0 rfl
  replace S:=Lib.hid S
  clear hL1
  go_wp2_with fail
  refine (hV1.out _ (Rw.of (S.out.r 7 rfl) (S.out.r 6 rfl) k1.out) (Rw.of (S.out.r 5 rfl) (S.out.r 4 rfl) k2.out)).mono ?_
  rintro e w3 ⟨rfl,bb⟩
  have T:=(S.out.call bb)
  clear bb S c_b0 c_b1 c_b2 c_b3 c_b4 c_b5 c_a0 c_a1 c_a2 c_a3 c_a4 c_a5 hz
  have S:=T
  clear T
  obtain⟨c_b0,c_b1,c_b2,c_b3,c_b4,c_b5⟩:=S.c6 0 rfl
  obtain⟨c_a0,c_a1,c_a2,c_a3,c_a4,c_a5⟩:=S.c6 1 rfl
  have hz:w.heap.size+1<w3.heap.size:=S.lt 0 rfl
  replace S:=Lib.hid S
  clear hV1
  go_wp2_with fail
  refine (hA.out _).mono ?_
  rintro e w4 ⟨rfl,bb⟩
  have T:=(S.out.call bb)
  clear bb S c_b0 c_b1 c_b2 c_b3 c_b4 c_b5 c_a0 c_a1 c_a2 c_a3 c_a4 c_a5 hz
  have S:=T
  clear T
  obtain⟨c_b0,c_b1,c_b2,c_b3,c_b4,c_b5⟩:=S.c6 0 rfl
  obtain⟨c_a0,c_a1,c_a2,c_a3,c_a4,c_a5⟩:=S.c6 1 rfl
  have hz:w.heap.size+1<w4.heap.size:=S.lt 0 rfl
  replace S:=Lib.hid S
  have S:=S.out
  replace S:=Lib.hid S
  go_wp2
  go_ret
  exact⟨rfl,S.out.bel⟩
 rw[u0] at hV1
 cases u1:((vldR b3 x3 y3&&vldR b4 x4 y4)&&decide (q3≤q4))
 ·rw[u1] at hV2
  clear u0 u1
  clear X1 s1 X2 s2 X3 s3 X4 s4
  replace hV1:=Lib.hid hV1
  replace hV2:=Lib.hid hV2
  go_enter Tryz.func5,Tryz.ntmps5
  go_wp2_with fail
  refine (hL0.out _).mono ?_
  rintro e w1 ⟨rfl,bb⟩
  have T:=(S.out.call bb)
  clear bb S
  have S:=T
  clear T
  obtain⟨c_b0,c_b1,c_b2,c_b3,c_b4,c_b5⟩:=S.c6 0 rfl
  obtain⟨c_a0,c_a1,c_a2,c_a3,c_a4,c_a5⟩:=S.c6 1 rfl
  have hz:w.heap.size+1<w1.heap.size:=S.lt 0 rfl
  replace S:=Lib.hid S
  clear hL0
  go_wp2_with fail
  refine (hL1.out _).mono ?_
  rintro e w2 ⟨rfl,bb⟩
  have T:=(S.out.call bb)
  clear bb S c_b0 c_b1 c_b2 c_b3 c_b4 c_b5 c_a0 c_a1 c_a2 c_a3 c_a4 c_a5 hz
  have S:=T
  clear T
  obtain⟨c_b0,c_b1,c_b2,c_b3,c_b4,c_b5⟩:=S.c6 0 rfl
  obtain⟨c_a0,c_a1,c_a2,c_a3,c_a4,c_a5⟩:=S.c6 1 rfl
  have hz:w.heap.size+1<w2.heap.size:=S.lt 0 rfl
  replace S:=Lib.hid S
  clear hL1
  go_wp2_with fail
  refine (hV1.out _ (Rw.of (S.out.r 7 rfl) (S.out.r 6 rfl) k1.out) (Rw.of (S.out.r 5 rfl) (S.out.r 4 rfl) k2.out)).mono ?_
  rintro e w3 ⟨rfl,bb⟩
  have T:=(S.out.call bb)
  clear bb S c_b0 c_b1 c_b2 c_b3 c_b4 c_b5 c_a0 c_a1 c_a2 c_a3 c_a4 c_a5 hz
  have S:=T
  clear T
  obtain⟨c_b0,c_b1,c_b2,c_b3,c_b4,c_b5⟩:=S.c6 0 rfl
  obtain⟨c_a0,c_a1,c_a2,c_a3,c_a4,c_a5⟩:=S.c6 1 rfl
  have hz:w.heap.size+1<w3.heap.size:=S.lt 0 rfl
  replace S:=Lib.hid S
  clear hV1
  go_wp2_with fail
  refine (hV2.out _ (Rw.of (S.out.r 3 rfl) (S.out.r 2 rfl) k3.out) (Rw.of (S.out.r 1 rfl) (S.out.r 0 rfl) k4.out)).mono ?_
  rintro e w4 ⟨rfl,bb⟩
  have T:=(S.out.call bb)
  clear bb S c_b0 c_b1 c_b2 c_b3 c_b4 c_b5 c_a0 c_a1 c_a2 c_a3 c_a4 c_a5 hz
  have S:=T
  clear T
  obtain⟨c_b0,c_b1,c_b2,c_b3,c_b4,c_b5⟩:=S.c6 0 rfl
  obtain⟨c_a0,c_a1,c_a2,c_a3,c_a4,c_a5⟩:=S.c6 1 rfl
  have hz:w.heap.size+1<w4.heap.size:=S.lt 0 rfl
  replace S:=Lib.hid S
  clear hV2
  go_wp2_with fail
  refine (hA.out _).mono ?_
  rintro e w5 ⟨rfl,bb⟩
  have T:=(S.out.call bb)
  clear bb S c_b0 c_b1 c_b2 c_b3 c_b4 c_b5 c_a0 c_a1 c_a2 c_a3 c_a4 c_a5 hz
  have S:=T
  clear T
  obtain⟨c_b0,c_b1,c_b2,c_b3,c_b4,c_b5⟩:=S.c6 0 rfl
  obtain⟨c_a0,c_a1,c_a2,c_a3,c_a4,c_a5⟩:=S.c6 1 rfl
  have hz:w.heap.size+1<w5.heap.size:=S.lt 0 rfl
  replace S:=Lib.hid S
  have S:=S.out
  replace S:=Lib.hid S
  go_wp2
  go_ret
  exact⟨rfl,S.out.bel⟩
 rw[u1] at hV2
 replace hV1:=Lib.hid hV1
 replace hV2:=Lib.hid hV2
 rw[Bool.and_eq_true,decide_eq_true_iff] at u0 u1
 have fa:=u0.2
 have fb:=u1.2
 clear u0 u1
 have ka:klo q1 q2=q1:=if_neg (Rat.not_lt.2 fa)
 have kb:khi q1 q2=q2:=if_neg (Rat.not_lt.2 fa)
 have kc:klo q3 q4=q3:=if_neg (Rat.not_lt.2 fb)
 have kd:khi q3 q4=q4:=if_neg (Rat.not_lt.2 fb)
 have hMu:∀ W,Rw W b1 A1 n1 c1 x1 D1 m1 d1 y1 q1→Rw W b2 A2 n2 c2 x2 D2 m2 d2 y2 q2→Rw W b3 A3 n3 c3 x3 D3 m3 d3 y3 q3→Rw W b4 A4 n4 c4 x4 D4 m4 d4 y4 q4→Calls Tryz.prog 23 #[.agg #[.bool b1,.slice A1 n1 c1,.slice D1 m1 d1,.bool b2,.slice A2 n2 c2,.slice D2 m2 d2],.agg #[.bool b3,.slice A3 n3 c3,.slice D3 m3 d3,.bool b4,.slice A4 n4 c4,.slice D4 m4 d4]] W (RetV (minL (mulL q1 q2 q3 q4)) (maxL (mulL q1 q2 q3 q4)) W):=fun W h1 h2 h3 h4=>by
  have:=imul_any _ _ _ _ _ _ _ _ _ _ _ _ _ _ _ _ _ _ _ _ _ _ _ _ _ _ _ _ _ _ _ _ _ _ _ _ _ _ _ _ (s1.mono (by decide)) (s2.mono (by decide)) (s3.mono (by decide)) (s4.mono (by decide)) W h1 h2 h3 h4
  rwa [ka,kb,kc,kd] at this
 have hSq:∀ W,Rw W b1 A1 n1 c1 x1 D1 m1 d1 y1 q1→Rw W b2 A2 n2 c2 x2 D2 m2 d2 y2 q2→Calls Tryz.prog 25 #[.agg #[.bool b1,.slice A1 n1 c1,.slice D1 m1 d1,.bool b2,.slice A2 n2 c2,.slice D2 m2 d2]] W (RetV (minL (sqL q1 q2)) (maxL (sqL q1 q2)) W):=fun W h1 h2=>by
  have:=isquare_any _ _ _ _ _ _ _ _ _ _ _ _ _ _ _ _ _ _ _ _ (s1.mono (by decide)) (s2.mono (by decide)) W h1 h2
  rwa [ka,kb] at this
 have hCo:∀ W,Rw W b1 A1 n1 c1 x1 D1 m1 d1 y1 q1→Rw W b2 A2 n2 c2 x2 D2 m2 d2 y2 q2→Calls Tryz.prog 38 #[.agg #[.bool b1,.slice A1 n1 c1,.slice D1 m1 d1,.bool b2,.slice A2 n2 c2,.slice D2 m2 d2],.agg #[.bool false,.slice none 0 0,.slice none 0 0]] W fun e w'=>e=.returned (.bool (decide (q1≤0)&&decide (0≤q2)))∧Below W.heap.size W w':=fun W h1 h2=>by
  have:=rcontains_any b1 A1 n1 c1 x1 D1 m1 d1 y1 q1 b2 A2 n2 c2 x2 D2 m2 d2 y2 q2 false none 0 0 [] none 0 0 [] 0 W h1 h2 (Rw.zero W)
  rwa [ka,kb] at this
 have hP0:Hid (∀ W,Rw W b1 A1 n1 c1 x1 D1 m1 d1 y1 q1→Rw W b3 A3 n3 c3 x3 D3 m3 d3 y3 q3→Calls Tryz.prog 35 #[.agg #[.bool b1,.slice A1 n1 c1,.slice D1 m1 d1],.agg #[.bool b3,.slice A3 n3 c3,.slice D3 m3 d3]] W (RetR (q1*q3) W)):=Lib.hid fun W h1 h2=>by
  have:=Fmul_any b1 A1 n1 c1 x1 D1 m1 d1 y1 b3 A3 n3 c3 x3 D3 m3 d3 y3 W h1.rn h1.rd h2.rn h2.rd (by have:=h1.k.2.1;omega) (by have:=h1.k.2.2;omega) (by have:=h2.k.2.1;omega) (by have:=h2.k.2.2;omega)
  rwa [h1.k.1,h2.k.1] at this
 have hP1:Hid (∀ W,Rw W b2 A2 n2 c2 x2 D2 m2 d2 y2 q2→Rw W b3 A3 n3 c3 x3 D3 m3 d3 y3 q3→Calls Tryz.prog 35 #[.agg #[.bool b2,.slice A2 n2 c2,.slice D2 m2 d2],.agg #[.bool b3,.slice A3 n3 c3,.slice D3 m3 d3]] W (RetR (q2*q3) W)):=Lib.hid fun W h1 h2=>by
  have:=Fmul_any b2 A2 n2 c2 x2 D2 m2 d2 y2 b3 A3 n3 c3 x3 D3 m3 d3 y3 W h1.rn h1.rd h2.rn h2.rd (by have:=h1.k.2.1;omega) (by have:=h1.k.2.2;omega) (by have:=h2.k.2.1;omega) (by have:=h2.k.2.2;omega)
  rwa [h1.k.1,h2.k.1] at this
 have hP2:Hid (∀ W,Rw W b1 A1 n1 c1 x1 D1 m1 d1 y1 q1→Rw W b4 A4 n4 c4 x4 D4 m4 d4 y4 q4→Calls Tryz.prog 35 #[.agg #[.bool b1,.slice A1 n1 c1,.slice D1 m1 d1],.agg #[.bool b4,.slice A4 n4 c4,.slice D4 m4 d4]] W (RetR (q1*q4) W)):=Lib.hid fun W h1 h2=>by
  have:=Fmul_any b1 A1 n1 c1 x1 D1 m1 d1 y1 b4 A4 n4 c4 x4 D4 m4 d4 y4 W h1.rn h1.rd h2.rn h2.rd (by have:=h1.k.2.1;omega) (by have:=h1.k.2.2;omega) (by have:=h2.k.2.1;omega) (by have:=h2.k.2.2;omega)
  rwa [h1.k.1,h2.k.1] at this
 have hP3:Hid (∀ W,Rw W b2 A2 n2 c2 x2 D2 m2 d2 y2 q2→Rw W b4 A4 n4 c4 x4 D4 m4 d4 y4 q4→Calls Tryz.prog 35 #[.agg #[.bool b2,.slice A2 n2 c2,.slice D2 m2 d2],.agg #[.bool b4,.slice A4 n4 c4,.slice D4 m4 d4]] W (RetR (q2*q4) W)):=Lib.hid fun W h1 h2=>by
  have:=Fmul_any b2 A2 n2 c2 x2 D2 m2 d2 y2 b4 A4 n4 c4 x4 D4 m4 d4 y4 W h1.rn h1.rd h2.rn h2.rd (by have:=h1.k.2.1;omega) (by have:=h1.k.2.2;omega) (by have:=h2.k.2.1;omega) (by have:=h2.k.2.2;omega)
  rwa [h1.k.1,h2.k.1] at this
 have hT0:Hid (∀ W,Rw W b1 A1 n1 c1 x1 D1 m1 d1 y1 q1→Rw W b1 A1 n1 c1 x1 D1 m1 d1 y1 q1→Calls Tryz.prog 35 #[.agg #[.bool b1,.slice A1 n1 c1,.slice D1 m1 d1],.agg #[.bool b1,.slice A1 n1 c1,.slice D1 m1 d1]] W (RetR (q1*q1) W)):=Lib.hid fun W h1 h2=>by
  have:=Fmul_any b1 A1 n1 c1 x1 D1 m1 d1 y1 b1 A1 n1 c1 x1 D1 m1 d1 y1 W h1.rn h1.rd h2.rn h2.rd (by have:=h1.k.2.1;omega) (by have:=h1.k.2.2;omega) (by have:=h2.k.2.1;omega) (by have:=h2.k.2.2;omega)
  rwa [h1.k.1] at this
 have hT1:Hid (∀ W,Rw W b2 A2 n2 c2 x2 D2 m2 d2 y2 q2→Rw W b2 A2 n2 c2 x2 D2 m2 d2 y2 q2→Calls Tryz.prog 35 #[.agg #[.bool b2,.slice A2 n2 c2,.slice D2 m2 d2],.agg #[.bool b2,.slice A2 n2 c2,.slice D2 m2 d2]] W (RetR (q2*q2) W)):=Lib.hid fun W h1 h2=>by
  have:=Fmul_any b2 A2 n2 c2 x2 D2 m2 d2 y2 b2 A2 n2 c2 x2 D2 m2 d2 y2 W h1.rn h1.rd h2.rn h2.rd (by have:=h1.k.2.1;omega) (by have:=h1.k.2.2;omega) (by have:=h2.k.2.1;omega) (by have:=h2.k.2.2;omega)
  rwa [h1.k.1] at this
 obtain⟨hm0,hm1⟩:=ml_mem q1 q2 q3 q4
 have hs1:=sq_max q1 q2
 obtain⟨rm0,rm1⟩:=mulL_rs s1 s2 s3 s4
 obtain⟨rs0,rs1⟩:=sqL_rs s1 s2 (by decide)
 have rp:∀ y∈[q1*q3,q2*q3,q1*q4,q2*q4],Rs y 200:=fun y hy=>by
  simp only[List.mem_cons,List.not_mem_nil,or_false] at hy
  rcases hy with rfl | rfl | rfl | rfl
  ·exact (s1.mul s3).mono (by decide)
  ·exact (s2.mul s3).mono (by decide)
  ·exact (s1.mul s4).mono (by decide)
  ·exact (s2.mul s4).mono (by decide)
 have rt0:Rs (q1*q1) 200:=(s1.mul s1).mono (by decide)
 have rt1:Rs (q2*q2) 200:=(s2.mul s2).mono (by decide)
 have rm0:Rs (minL (mulL q1 q2 q3 q4)) 200:=rm0.mono (by decide)
 have rm1:Rs (maxL (mulL q1 q2 q3 q4)) 200:=rm1.mono (by decide)
 have rs0:Rs (minL (sqL q1 q2)) 200:=rs0.mono (by decide)
 have rs1:Rs (maxL (sqL q1 q2)) 200:=rs1.mono (by decide)
 have hzc:((minL (sqL q1 q2)).num.sign==0)=(decide (q1≤0)&&decide (0≤q2)):=by
  rw[Bool.eq_iff_iff,beq_iff_eq,Bool.and_eq_true,decide_eq_true_iff,decide_eq_true_iff,←sq_zero fa,Int.sign_eq_zero_iff_zero,Rat.num_eq_zero]
 generalize (decide (q1≤0)&&decide (0≤q2))=cv at *
 generalize minL (mulL q1 q2 q3 q4)=vma at *
 generalize maxL (mulL q1 q2 q3 q4)=vmb at *
 generalize minL (sqL q1 q2)=vsa at *
 generalize maxL (sqL q1 q2)=vsb at *
 generalize q1*q3=p0 at *
 generalize q2*q3=p1 at *
 generalize q1*q4=p2 at *
 generalize q2*q4=p3 at *
 generalize q1*q1=vta at *
 generalize q2*q2=vtb at *
 have hSg:∀ W A n c D m d,RR W A n c D m d vsa→Calls Tryz.prog 37 #[.agg #[.bool (ng vsa.num),.slice A n c,.slice D m d]] W fun e w'=>e=.returned (.int .i64 vsa.num.sign)∧Below W.heap.size W w':=fun W A n c D m d h=>rsignQ vsa A n c D m d W h rs0
 generalize vsa.num.sign=sg at *
 replace hMu:=Lib.hid hMu
 replace hSq:=Lib.hid hSq
 replace hCo:=Lib.hid hCo
 replace hm0:=Lib.hid hm0
 replace hm1:=Lib.hid hm1
 replace hs1:=Lib.hid hs1
 replace rp:=Lib.hid rp
 replace rt0:=Lib.hid rt0
 replace rt1:=Lib.hid rt1
 replace rm0:=Lib.hid rm0
 replace rm1:=Lib.hid rm1
 replace rs0:=Lib.hid rs0
 replace rs1:=Lib.hid rs1
 replace hSg:=Lib.hid hSg
 clear fa fb ka kb kc kd
 clear X1 s1 X2 s2 X3 s3 X4 s4
 go_enter Tryz.func5,Tryz.ntmps5
 go_wp2_with fail
 refine (hL0.out _).mono ?_
 rintro e w1 ⟨rfl,bb⟩
 have T:=(S.out.call bb)
 clear bb S
 have S:=T
 clear T
 obtain⟨c_b0,c_b1,c_b2,c_b3,c_b4,c_b5,f_b0,f_b1,f_b2,f_b3,f_b4,f_b5⟩:=S.cf6 0 rfl
 obtain⟨c_a0,c_a1,c_a2,c_a3,c_a4,c_a5,f_a0,f_a1,f_a2,f_a3,f_a4,f_a5⟩:=S.cf6 1 rfl
 have hz:w.heap.size+1<w1.heap.size:=S.lt 0 rfl
 replace S:=Lib.hid S
 clear hL0
 go_wp2_with fail
 refine (hL1.out _).mono ?_
 rintro e w2 ⟨rfl,bb⟩
 have T:=(S.out.call bb)
 clear bb S c_b0 f_b0 c_b1 f_b1 c_b2 f_b2 c_b3 f_b3 c_b4 f_b4 c_b5 f_b5 c_a0 f_a0 c_a1 f_a1 c_a2 f_a2 c_a3 f_a3 c_a4 f_a4 c_a5 f_a5 hz
 have S:=T
 clear T
 obtain⟨c_b0,c_b1,c_b2,c_b3,c_b4,c_b5,f_b0,f_b1,f_b2,f_b3,f_b4,f_b5⟩:=S.cf6 0 rfl
 obtain⟨c_a0,c_a1,c_a2,c_a3,c_a4,c_a5,f_a0,f_a1,f_a2,f_a3,f_a4,f_a5⟩:=S.cf6 1 rfl
 have hz:w.heap.size+1<w2.heap.size:=S.lt 0 rfl
 replace S:=Lib.hid S
 clear hL1
 go_wp2_with fail
 refine (hV1.out _ (Rw.of (S.out.r 7 rfl) (S.out.r 6 rfl) k1.out) (Rw.of (S.out.r 5 rfl) (S.out.r 4 rfl) k2.out)).mono ?_
 rintro e w3 ⟨rfl,bb⟩
 have T:=(S.out.call bb)
 clear bb S c_b0 f_b0 c_b1 f_b1 c_b2 f_b2 c_b3 f_b3 c_b4 f_b4 c_b5 f_b5 c_a0 f_a0 c_a1 f_a1 c_a2 f_a2 c_a3 f_a3 c_a4 f_a4 c_a5 f_a5 hz
 have S:=T
 clear T
 obtain⟨c_b0,c_b1,c_b2,c_b3,c_b4,c_b5,f_b0,f_b1,f_b2,f_b3,f_b4,f_b5⟩:=S.cf6 0 rfl
 obtain⟨c_a0,c_a1,c_a2,c_a3,c_a4,c_a5,f_a0,f_a1,f_a2,f_a3,f_a4,f_a5⟩:=S.cf6 1 rfl
 have hz:w.heap.size+1<w3.heap.size:=S.lt 0 rfl
 replace S:=Lib.hid S
 clear hV1
 go_wp2_with fail
 refine (hV2.out _ (Rw.of (S.out.r 3 rfl) (S.out.r 2 rfl) k3.out) (Rw.of (S.out.r 1 rfl) (S.out.r 0 rfl) k4.out)).mono ?_
 rintro e w4 ⟨rfl,bb⟩
 have T:=(S.out.call bb)
 clear bb S c_b0 f_b0 c_b1 f_b1 c_b2 f_b2 c_b3 f_b3 c_b4 f_b4 c_b5 f_b5 c_a0 f_a0 c_a1 f_a1 c_a2 f_a2 c_a3 f_a3 c_a4 f_a4 c_a5 f_a5 hz
 have S:=T
 clear T
 obtain⟨c_b0,c_b1,c_b2,c_b3,c_b4,c_b5,f_b0,f_b1,f_b2,f_b3,f_b4,f_b5⟩:=S.cf6 0 rfl
 obtain⟨c_a0,c_a1,c_a2,c_a3,c_a4,c_a5,f_a0,f_a1,f_a2,f_a3,f_a4,f_a5⟩:=S.cf6 1 rfl
 have hz:w.heap.size+1<w4.heap.size:=S.lt 0 rfl
 replace S:=Lib.hid S
 clear hV2
 go_upto_region 3 with fail
 clear c_b0 f_b0 c_b1 f_b1 c_b2 f_b2 c_b3 f_b3 c_b4 f_b4 c_b5 f_b5 c_a0 f_a0 c_a1 f_a1 c_a2 f_a2 c_a3 f_a3 c_a4 f_a4 c_a5 f_a5 hz
 refine RW.begin (Z:=[⟨5,5,#[.bool false,.slice none 0 0,.slice none 0 0,.bool false,.slice none 0 0,.slice none 0 0],28⟩,⟨6,6,#[.bool false,.slice none 0 0,.slice none 0 0,.bool false,.slice none 0 0,.slice none 0 0],28⟩]) (S:=(fun W=>Cb W (w.heap.size) #[.bool b1,.slice A1 n1 c1,.slice D1 m1 d1,.bool b2,.slice A2 n2 c2,.slice D2 m2 d2] 28∧Cb W (w.heap.size+1) #[.bool b3,.slice A3 n3 c3,.slice D3 m3 d3,.bool b4,.slice A4 n4 c4,.slice D4 m4 d4] 28)) (by kernel_rfl) ?_ S.out ?_
 ·exact⟨by kernel_rfl,(zis_cons at5 (fun _ _=>by kernel_rfl) (zis_cons at6 (fun _ _=>by kernel_rfl) zis_nil)),by decide,by decide,(nol_cons (noL6 _ _ _ _ _ _ _ _ _ _ _ _ _ _) (nol_cons (noL6 _ _ _ _ _ _ _ _ _ _ _ _ _ _) nol_nil)),(fun _ _ h=>⟨h.kb 1 rfl,h.kb 0 rfl⟩)⟩
 intro hzk
 clear S
 refine RW.t (i:=0) (v:=.agg #[.bool b1,.slice A1 n1 c1,.slice D1 m1 d1,.bool b2,.slice A2 n2 c2,.slice D2 m2 d2]) (some 30) at0 (hy:=fun W hS=>by (obtain⟨k0,k1,k2,k3,k4,k5⟩:=Cb.c6 hS.1;clear hS;go_simp)) (h:=?_)
 refine RW.t (i:=1) (v:=.agg #[.bool b3,.slice A3 n3 c3,.slice D3 m3 d3,.bool b4,.slice A4 n4 c4,.slice D4 m4 d4]) (some 31) at1 (hy:=fun W hS=>by (obtain⟨k0,k1,k2,k3,k4,k5⟩:=Cb.c6 hS.2;clear hS;go_simp)) (h:=?_)
 refine RW.t (i:=3) (v:=.agg #[.bool b1,.slice A1 n1 c1,.slice D1 m1 d1,.bool b2,.slice A2 n2 c2,.slice D2 m2 d2]) (some 33) at3 (hy:=fun W hS=>by (obtain⟨k0,k1,k2,k3,k4,k5⟩:=Cb.c6 hS.1;clear hS;go_simp)) (h:=?_)
 refine RW.c (i:=2) (args:=#[.agg #[.bool b1,.slice A1 n1 c1,.slice D1 m1 d1,.bool b2,.slice A2 n2 c2,.slice D2 m2 d2],.agg #[.bool b3,.slice A3 n3 c3,.slice D3 m3 d3,.bool b4,.slice A4 n4 c4,.slice D4 m4 d4]]) (some 32) hzk.out at2 (hx:=fun _=>by kernel_rfl) (h:=fun _ S=>(hMu.out _ (Rw.of (S.r 7 rfl) (S.r 6 rfl) k1.out) (Rw.of (S.r 5 rfl) (S.r 4 rfl) k2.out) (Rw.of (S.r 3 rfl) (S.r 2 rfl) k3.out) (Rw.of (S.r 1 rfl) (S.r 0 rfl) k4.out)).mono ?_)
 rintro e w5 ⟨A31,n31,c31,D31,m31,d31,A32,n32,c32,D32,m32,d32,rfl,Q31,Q32,bb⟩
 refine⟨bb,_,[(D32,m32,d32,dn vmb),(A32,n32,c32,limbs vmb.num.natAbs),(D31,m31,d31,dn vma),(A31,n31,c31,limbs vma.num.natAbs)],rfl,(rd_cons Q32.d (rd_cons Q32.n (rd_cons Q31.d (rd_cons Q31.n rd_nil)))),?_⟩
 clear bb S Q31 Q32
 refine RW.c (i:=4) (args:=#[.agg #[.bool b1,.slice A1 n1 c1,.slice D1 m1 d1,.bool b2,.slice A2 n2 c2,.slice D2 m2 d2]]) (some 34) hzk.out at4 (hx:=fun _=>by kernel_rfl) (h:=fun _ S=>(hSq.out _ (Rw.of (S.r 11 rfl) (S.r 10 rfl) k1.out) (Rw.of (S.r 9 rfl) (S.r 8 rfl) k2.out)).mono ?_)
 rintro e w6 ⟨A33,n33,c33,D33,m33,d33,A34,n34,c34,D34,m34,d34,rfl,Q33,Q34,bb⟩
 refine⟨bb,_,[(D34,m34,d34,dn vsb),(A34,n34,c34,limbs vsb.num.natAbs),(D33,m33,d33,dn vsa),(A33,n33,c33,limbs vsa.num.natAbs)],rfl,(rd_cons Q34.d (rd_cons Q34.n (rd_cons Q33.d (rd_cons Q33.n rd_nil)))),?_⟩
 clear bb S Q33 Q34
 refine RW.tail hzk.out (by kernel_rfl) ?_
 intro gs w7 hgs hS S
 obtain⟨g_m,g_s,rfl⟩:=len2 hgs
 clear hS hgs hzk
 simp only[mark,fill,List.map,Act.put,List.setIfInBounds_toArray,List.set_cons_zero,List.set_cons_succ]
 replace S:=Lib.hid S
 refine Wk.o (i:=7) at7 (by kernel_rfl) fun K' hK=>?_
 have q7_m0:=St.cl (S.out) 0 0 rfl rfl
 have q7_m1:=St.cl (S.out) 0 1 rfl rfl
 have q7_m2:=St.cl (S.out) 0 2 rfl rfl
 have q7_m3:=St.cl (S.out) 0 3 rfl rfl
 have q7_m4:=St.cl (S.out) 0 4 rfl rfl
 have q7_m5:=St.cl (S.out) 0 5 rfl rfl
 have q7z_m0:=St.f (S.out) 0 0 rfl
 have q7z_m1:=St.f (S.out) 0 1 rfl
 have q7z_m2:=St.f (S.out) 0 2 rfl
 have q7z_m3:=St.f (S.out) 0 3 rfl
 have q7z_m4:=St.f (S.out) 0 4 rfl
 have q7z_m5:=St.f (S.out) 0 5 rfl
 go_simp
 have SN:=((((((S.out.set 0 0 (.bool (ng vma.num)) rfl (by nofun)).set 0 1 (.slice A31 n31 c31) rfl (by nofun)).set 0 2 (.slice D31 m31 d31) rfl (by nofun)).set 0 3 (.bool (ng vmb.num)) rfl (by nofun)).set 0 4 (.slice A32 n32 c32) rfl (by nofun)).set 0 5 (.slice D32 m32 d32) rfl (by nofun))
 clear S q7_m0 q7_m1 q7_m2 q7_m3 q7_m4 q7_m5 q7z_m0 q7z_m1 q7z_m2 q7z_m3 q7z_m4 q7z_m5
 have S:=SN
 clear SN
 refine hK.out _ _ ⟨(S.cb 3 rfl),(S.cb 2 rfl)⟩ ?_
 clear hK K'
 replace S:=Lib.hid S
 try simp only[Act.put,List.setIfInBounds_toArray,List.set_cons_zero,List.set_cons_succ]
 refine Wk.o (i:=8) at8 (by kernel_rfl) fun K' hK=>?_
 have q8_s0:=St.cl (S.out) 1 0 rfl rfl
 have q8_s1:=St.cl (S.out) 1 1 rfl rfl
 have q8_s2:=St.cl (S.out) 1 2 rfl rfl
 have q8_s3:=St.cl (S.out) 1 3 rfl rfl
 have q8_s4:=St.cl (S.out) 1 4 rfl rfl
 have q8_s5:=St.cl (S.out) 1 5 rfl rfl
 have q8z_s0:=St.f (S.out) 1 0 rfl
 have q8z_s1:=St.f (S.out) 1 1 rfl
 have q8z_s2:=St.f (S.out) 1 2 rfl
 have q8z_s3:=St.f (S.out) 1 3 rfl
 have q8z_s4:=St.f (S.out) 1 4 rfl
 have q8z_s5:=St.f (S.out) 1 5 rfl
 go_simp
 have SN:=((((((S.out.set 1 0 (.bool (ng vsa.num)) rfl (by nofun)).set 1 1 (.slice A33 n33 c33) rfl (by nofun)).set 1 2 (.slice D33 m33 d33) rfl (by nofun)).set 1 3 (.bool (ng vsb.num)) rfl (by nofun)).set 1 4 (.slice A34 n34 c34) rfl (by nofun)).set 1 5 (.slice D34 m34 d34) rfl (by nofun))
 clear S q8_s0 q8_s1 q8_s2 q8_s3 q8_s4 q8_s5 q8z_s0 q8z_s1 q8z_s2 q8z_s3 q8z_s4 q8z_s5
 have S:=SN
 clear SN
 refine hK.out _ _ ⟨(S.cb 3 rfl),(S.cb 2 rfl)⟩ ?_
 clear hK K'
 replace S:=Lib.hid S
 try simp only[Act.put,List.setIfInBounds_toArray,List.set_cons_zero,List.set_cons_succ]
 refine Wk.done (by kernel_rfl) ?_
 go_simp
 replace S:=S.out
 have S:St w _ [(g_m,#[.bool (ng vma.num),.slice A31 n31 c31,.slice D31 m31 d31,.bool (ng vmb.num),.slice A32 n32 c32,.slice D32 m32 d32],28),(g_s,#[.bool (ng vsa.num),.slice A33 n33 c33,.slice D33 m33 d33,.bool (ng vsb.num),.slice A34 n34 c34,.slice D34 m34 d34],28),(w.heap.size+1,#[.bool b3,.slice A3 n3 c3,.slice D3 m3 d3,.bool b4,.slice A4 n4 c4,.slice D4 m4 d4],28),(w.heap.size,#[.bool b1,.slice A1 n1 c1,.slice D1 m1 d1,.bool b2,.slice A2 n2 c2,.slice D2 m2 d2],28)] [(D34,m34,d34,dn vsb),(A34,n34,c34,limbs vsb.num.natAbs),(D33,m33,d33,dn vsa),(A33,n33,c33,limbs vsa.num.natAbs),(D32,m32,d32,dn vmb),(A32,n32,c32,limbs vmb.num.natAbs),(D31,m31,d31,dn vma),(A31,n31,c31,limbs vma.num.natAbs),(D4,m4,d4,y4),(A4,n4,c4,x4),(D3,m3,d3,y3),(A3,n3,c3,x3),(D2,m2,d2,y2),(A2,n2,c2,x2),(D1,m1,d1,y1),(A1,n1,c1,x1)]:=S
 generalize hW8:(World.setCell (World.setCell (World.setCell (World.setCell (World.setCell (World.setCell (World.setCell (World.setCell (World.setCell (World.setCell (World.setCell (World.setCell w7 ⟨g_m,0,none⟩ (.bool (ng vma.num))) ⟨g_m,1,none⟩ (.slice A31 n31 c31)) ⟨g_m,2,none⟩ (.slice D31 m31 d31)) ⟨g_m,3,none⟩ (.bool (ng vmb.num))) ⟨g_m,4,none⟩ (.slice A32 n32 c32)) ⟨g_m,5,none⟩ (.slice D32 m32 d32)) ⟨g_s,0,none⟩ (.bool (ng vsa.num))) ⟨g_s,1,none⟩ (.slice A33 n33 c33)) ⟨g_s,2,none⟩ (.slice D33 m33 d33)) ⟨g_s,3,none⟩ (.bool (ng vsb.num))) ⟨g_s,4,none⟩ (.slice A34 n34 c34)) ⟨g_s,5,none⟩ (.slice D34 m34 d34))=w8 at S ⊢
 clear hW8
 replace S:=Lib.hid S
 replace S:=S.out
 obtain⟨c_m0,c_m1,c_m2,c_m3,c_m4,c_m5,f_m0,f_m1,f_m2,f_m3,f_m4,f_m5⟩:=S.cf6 0 rfl
 obtain⟨c_s0,c_s1,c_s2,c_s3,c_s4,c_s5,f_s0,f_s1,f_s2,f_s3,f_s4,f_s5⟩:=S.cf6 1 rfl
 obtain⟨c_b0,c_b1,c_b2,c_b3,c_b4,c_b5,f_b0,f_b1,f_b2,f_b3,f_b4,f_b5⟩:=S.cf6 2 rfl
 obtain⟨c_a0,c_a1,c_a2,c_a3,c_a4,c_a5,f_a0,f_a1,f_a2,f_a3,f_a4,f_a5⟩:=S.cf6 3 rfl
 have hz:g_m<w8.heap.size:=S.lt 0 rfl
 replace S:=Lib.hid S
 clear hMu hSq
 clear c_m0 f_m0 c_m1 f_m1 c_m2 f_m2 c_m3 f_m3 c_m4 f_m4 c_m5 f_m5 c_s0 f_s0 c_s1 f_s1 c_s2 f_s2 c_s3 f_s3 c_s4 f_s4 c_s5 f_s5 c_b0 f_b0 c_b1 f_b1 c_b2 f_b2 c_b3 f_b3 c_b4 f_b4 c_b5 f_b5 c_a0 f_a0 c_a1 f_a1 c_a2 f_a2 c_a3 f_a3 c_a4 f_a4 c_a5 f_a5 hz
 go_wp2
 go_loopw [7,8] (fun lv iv wr=>∃ (i:Nat) (L:List Rq),i≤4∧iv=.int .i64 i∧L.length=i∧L.map (·.q)=[p0,p1,p2,p3].take i∧Apd w wr [(g_m,#[.bool (ng vma.num),.slice A31 n31 c31,.slice D31 m31 d31,.bool (ng vmb.num),.slice A32 n32 c32,.slice D32 m32 d32],28),(g_s,#[.bool (ng vsa.num),.slice A33 n33 c33,.slice D33 m33 d33,.bool (ng vsb.num),.slice A34 n34 c34,.slice D34 m34 d34],28),(w.heap.size+1,#[.bool b3,.slice A3 n3 c3,.slice D3 m3 d3,.bool b4,.slice A4 n4 c4,.slice D4 m4 d4],28),(w.heap.size,#[.bool b1,.slice A1 n1 c1,.slice D1 m1 d1,.bool b2,.slice A2 n2 c2,.slice D2 m2 d2],28)] (rdL L++[(D34,m34,d34,dn vsb),(A34,n34,c34,limbs vsb.num.natAbs),(D33,m33,d33,dn vsa),(A33,n33,c33,limbs vsa.num.natAbs),(D32,m32,d32,dn vmb),(A32,n32,c32,limbs vmb.num.natAbs),(D31,m31,d31,dn vma),(A31,n31,c31,limbs vma.num.natAbs),(D4,m4,d4,y4),(A4,n4,c4,x4),(D3,m3,d3,y3),(A3,n3,c3,x3),(D2,m2,d2,y2),(A2,n2,c2,x2),(D1,m1,d1,y1),(A1,n1,c1,x1)]) 26 3 lv i (csL L)) (fun _ iv _=>4-(intOf iv).toNat)
 case atStart=>exact⟨0,[],by decide,rfl,rfl,rfl,Apd.nil_ S.out _ _⟩
 case round=>
  clear S
  obtain⟨i,L,hi4,rfl,hL,hP,AP⟩:=hrel
  by_cases h4:i<4
  ·obtain rfl | rfl | rfl | rfl:i=0∨i=1∨i=2∨i=3:=by omega
   ·obtain rfl:=List.length_eq_zero_iff.1 hL
    clear hP
    obtain⟨ob,hob,S⟩:=AP.open_
    clear hL AP
    have S:St w wr ((g_m,#[.bool (ng vma.num),.slice A31 n31 c31,.slice D31 m31 d31,.bool (ng vmb.num),.slice A32 n32 c32,.slice D32 m32 d32],28)::(g_s,#[.bool (ng vsa.num),.slice A33 n33 c33,.slice D33 m33 d33,.bool (ng vsb.num),.slice A34 n34 c34,.slice D34 m34 d34],28)::(w.heap.size+1,#[.bool b3,.slice A3 n3 c3,.slice D3 m3 d3,.bool b4,.slice A4 n4 c4,.slice D4 m4 d4],28)::(w.heap.size,#[.bool b1,.slice A1 n1 c1,.slice D1 m1 d1,.bool b2,.slice A2 n2 c2,.slice D2 m2 d2],28)::ob) [(D34,m34,d34,dn vsb),(A34,n34,c34,limbs vsb.num.natAbs),(D33,m33,d33,dn vsa),(A33,n33,c33,limbs vsa.num.natAbs),(D32,m32,d32,dn vmb),(A32,n32,c32,limbs vmb.num.natAbs),(D31,m31,d31,dn vma),(A31,n31,c31,limbs vma.num.natAbs),(D4,m4,d4,y4),(A4,n4,c4,x4),(D3,m3,d3,y3),(A3,n3,c3,x3),(D2,m2,d2,y2),(A2,n2,c2,x2),(D1,m1,d1,y1),(A1,n1,c1,x1)]:=S
    replace hob:=Lib.hid hob
    obtain⟨c_m0,c_m1,c_m2,c_m3,c_m4,c_m5,f_m0,f_m1,f_m2,f_m3,f_m4,f_m5⟩:=S.cf6 0 rfl
    obtain⟨c_s0,c_s1,c_s2,c_s3,c_s4,c_s5,f_s0,f_s1,f_s2,f_s3,f_s4,f_s5⟩:=S.cf6 1 rfl
    obtain⟨c_b0,c_b1,c_b2,c_b3,c_b4,c_b5,f_b0,f_b1,f_b2,f_b3,f_b4,f_b5⟩:=S.cf6 2 rfl
    obtain⟨c_a0,c_a1,c_a2,c_a3,c_a4,c_a5,f_a0,f_a1,f_a2,f_a3,f_a4,f_a5⟩:=S.cf6 3 rfl
    have hz:g_m<wr.heap.size:=S.lt 0 rfl
    replace S:=Lib.hid S
    go_upto_region 8 with fail
    clear c_m0 f_m0 c_m1 f_m1 c_m2 f_m2 c_m3 f_m3 c_m4 f_m4 c_m5 f_m5 c_s0 f_s0 c_s1 f_s1 c_s2 f_s2 c_s3 f_s3 c_s4 f_s4 c_s5 f_s5 c_b0 f_b0 c_b1 f_b1 c_b2 f_b2 c_b3 f_b3 c_b4 f_b4 c_b5 f_b5 c_a0 f_a0 c_a1 f_a1 c_a2 f_a2 c_a3 f_a3 c_a4 f_a4 c_a5 f_a5 hz
    refine RW.begin (Z:=[⟨4,9,#[.bool false,.slice none 0 0,.slice none 0 0],26⟩,⟨5,10,#[.bool false,.slice none 0 0,.slice none 0 0],26⟩]) (S:=(fun W=>Cb W (w.heap.size) #[.bool b1,.slice A1 n1 c1,.slice D1 m1 d1,.bool b2,.slice A2 n2 c2,.slice D2 m2 d2] 28∧Cb W (w.heap.size+1) #[.bool b3,.slice A3 n3 c3,.slice D3 m3 d3,.bool b4,.slice A4 n4 c4,.slice D4 m4 d4] 28)) (by kernel_rfl) ?_ S.out ?_
    ·exact⟨by kernel_rfl,(zis_cons at4 (fun _ _=>by kernel_rfl) (zis_cons at5 (fun _ _=>by kernel_rfl) zis_nil)),by decide,by decide,(nol_cons (noL3 _ _ _ _ _ _ _) (nol_cons (noL3 _ _ _ _ _ _ _) nol_nil)),(fun _ _ h=>⟨h.kb 3 rfl,h.kb 2 rfl⟩)⟩
    intro hzk
    clear S
    refine RW.t (i:=0) (v:=.pointer (some ⟨w.heap.size,0,none⟩)) (some 39) at0 (hy:=fun _ _=>by kernel_rfl) (h:=?_)
    refine RW.t (i:=1) (v:=.agg #[.bool b1,.slice A1 n1 c1,.slice D1 m1 d1]) (some 40) at1 (hy:=fun W hS=>by (have k0:=Cb.cell (i:=0) hS.1 rfl;have k1:=Cb.cell (i:=1) hS.1 rfl;have k2:=Cb.cell (i:=2) hS.1 rfl;clear hS;go_simp)) (h:=?_)
    refine RW.t (i:=2) (v:=.pointer (some ⟨w.heap.size+1,0,none⟩)) (some 41) at2 (hy:=fun _ _=>by kernel_rfl) (h:=?_)
    refine RW.t (i:=3) (v:=.agg #[.bool b3,.slice A3 n3 c3,.slice D3 m3 d3]) (some 42) at3 (hy:=fun W hS=>by (have k0:=Cb.cell (i:=0) hS.2 rfl;have k1:=Cb.cell (i:=1) hS.2 rfl;have k2:=Cb.cell (i:=2) hS.2 rfl;clear hS;go_simp)) (h:=?_)
    refine RW.tail hzk.out (by kernel_rfl) ?_
    intro gs w39 hgs hS S
    obtain⟨g_x,g_y,rfl⟩:=len2 hgs
    clear hS hgs hzk
    simp only[mark,fill,List.map,Act.put,List.setIfInBounds_toArray,List.set_cons_zero,List.set_cons_succ]
    replace S:=Lib.hid S
    refine Wk.o (i:=6) at6 (by kernel_rfl) fun K' hK=>?_
    have q6_x0:=St.cl (S.out) 0 0 rfl rfl
    have q6_x1:=St.cl (S.out) 0 1 rfl rfl
    have q6_x2:=St.cl (S.out) 0 2 rfl rfl
    have q6z_x0:=St.f (S.out) 0 0 rfl
    have q6z_x1:=St.f (S.out) 0 1 rfl
    have q6z_x2:=St.f (S.out) 0 2 rfl
    go_simp
    have SN:=(((S.out.set 0 0 (.bool b1) rfl (by nofun)).set 0 1 (.slice A1 n1 c1) rfl (by nofun)).set 0 2 (.slice D1 m1 d1) rfl (by nofun))
    clear S q6_x0 q6_x1 q6_x2 q6z_x0 q6z_x1 q6z_x2
    have S:=SN
    clear SN
    refine hK.out _ _ ⟨(S.cb 5 rfl),(S.cb 4 rfl)⟩ ?_
    clear hK K'
    replace S:=Lib.hid S
    try simp only[Act.put,List.setIfInBounds_toArray,List.set_cons_zero,List.set_cons_succ]
    refine Wk.o (i:=7) at7 (by kernel_rfl) fun K' hK=>?_
    have q7_y0:=St.cl (S.out) 1 0 rfl rfl
    have q7_y1:=St.cl (S.out) 1 1 rfl rfl
    have q7_y2:=St.cl (S.out) 1 2 rfl rfl
    have q7z_y0:=St.f (S.out) 1 0 rfl
    have q7z_y1:=St.f (S.out) 1 1 rfl
    have q7z_y2:=St.f (S.out) 1 2 rfl
    go_simp
    have SN:=(((S.out.set 1 0 (.bool b3) rfl (by nofun)).set 1 1 (.slice A3 n3 c3) rfl (by nofun)).set 1 2 (.slice D3 m3 d3) rfl (by nofun))
    clear S q7_y0 q7_y1 q7_y2 q7z_y0 q7z_y1 q7z_y2
    have S:=SN
    clear SN
    refine hK.out _ _ ⟨(S.cb 5 rfl),(S.cb 4 rfl)⟩ ?_
    clear hK K'
    replace S:=Lib.hid S
    try simp only[Act.put,List.setIfInBounds_toArray,List.set_cons_zero,List.set_cons_succ]
    refine Wk.done (by kernel_rfl) ?_
    go_simp
    replace S:=S.out
    have S:St w _ ((g_x,#[.bool b1,.slice A1 n1 c1,.slice D1 m1 d1],26)::(g_y,#[.bool b3,.slice A3 n3 c3,.slice D3 m3 d3],26)::(g_m,#[.bool (ng vma.num),.slice A31 n31 c31,.slice D31 m31 d31,.bool (ng vmb.num),.slice A32 n32 c32,.slice D32 m32 d32],28)::(g_s,#[.bool (ng vsa.num),.slice A33 n33 c33,.slice D33 m33 d33,.bool (ng vsb.num),.slice A34 n34 c34,.slice D34 m34 d34],28)::(w.heap.size+1,#[.bool b3,.slice A3 n3 c3,.slice D3 m3 d3,.bool b4,.slice A4 n4 c4,.slice D4 m4 d4],28)::(w.heap.size,#[.bool b1,.slice A1 n1 c1,.slice D1 m1 d1,.bool b2,.slice A2 n2 c2,.slice D2 m2 d2],28)::ob) [(D34,m34,d34,dn vsb),(A34,n34,c34,limbs vsb.num.natAbs),(D33,m33,d33,dn vsa),(A33,n33,c33,limbs vsa.num.natAbs),(D32,m32,d32,dn vmb),(A32,n32,c32,limbs vmb.num.natAbs),(D31,m31,d31,dn vma),(A31,n31,c31,limbs vma.num.natAbs),(D4,m4,d4,y4),(A4,n4,c4,x4),(D3,m3,d3,y3),(A3,n3,c3,x3),(D2,m2,d2,y2),(A2,n2,c2,x2),(D1,m1,d1,y1),(A1,n1,c1,x1)]:=S
    generalize hW40:(World.setCell (World.setCell (World.setCell (World.setCell (World.setCell (World.setCell w39 ⟨g_x,0,none⟩ (.bool b1)) ⟨g_x,1,none⟩ (.slice A1 n1 c1)) ⟨g_x,2,none⟩ (.slice D1 m1 d1)) ⟨g_y,0,none⟩ (.bool b3)) ⟨g_y,1,none⟩ (.slice A3 n3 c3)) ⟨g_y,2,none⟩ (.slice D3 m3 d3))=w40 at S ⊢
    clear hW40
    replace S:=Lib.hid S
    replace S:=S.out
    obtain⟨c_x0,c_x1,c_x2,f_x0,f_x1,f_x2⟩:=S.cf3 0 rfl
    obtain⟨c_y0,c_y1,c_y2,f_y0,f_y1,f_y2⟩:=S.cf3 1 rfl
    obtain⟨c_m0,c_m1,c_m2,c_m3,c_m4,c_m5,f_m0,f_m1,f_m2,f_m3,f_m4,f_m5⟩:=S.cf6 2 rfl
    obtain⟨c_s0,c_s1,c_s2,c_s3,c_s4,c_s5,f_s0,f_s1,f_s2,f_s3,f_s4,f_s5⟩:=S.cf6 3 rfl
    obtain⟨c_b0,c_b1,c_b2,c_b3,c_b4,c_b5,f_b0,f_b1,f_b2,f_b3,f_b4,f_b5⟩:=S.cf6 4 rfl
    obtain⟨c_a0,c_a1,c_a2,c_a3,c_a4,c_a5,f_a0,f_a1,f_a2,f_a3,f_a4,f_a5⟩:=S.cf6 5 rfl
    have hz:g_x<w40.heap.size:=S.lt 0 rfl
    replace S:=Lib.hid S
    go_wp2_with fail
    refine (hP0.out _ (Rw.of (S.out.r 15 rfl) (S.out.r 14 rfl) k1.out) (Rw.of (S.out.r 11 rfl) (S.out.r 10 rfl) k3.out)).mono ?_
    rintro e w41 ⟨A40,n40,c40,D40,m40,d40,rfl,Q40,bb⟩
    have T:=(((S.out.call bb).read Q40.n).read Q40.d)
    clear bb S c_x0 f_x0 c_x1 f_x1 c_x2 f_x2 c_y0 f_y0 c_y1 f_y1 c_y2 f_y2 c_m0 f_m0 c_m1 f_m1 c_m2 f_m2 c_m3 f_m3 c_m4 f_m4 c_m5 f_m5 c_s0 f_s0 c_s1 f_s1 c_s2 f_s2 c_s3 f_s3 c_s4 f_s4 c_s5 f_s5 c_b0 f_b0 c_b1 f_b1 c_b2 f_b2 c_b3 f_b3 c_b4 f_b4 c_b5 f_b5 c_a0 f_a0 c_a1 f_a1 c_a2 f_a2 c_a3 f_a3 c_a4 f_a4 c_a5 f_a5 hz
    have S:=T
    clear T
    obtain⟨c_x0,c_x1,c_x2,f_x0,f_x1,f_x2⟩:=S.cf3 0 rfl
    obtain⟨c_y0,c_y1,c_y2,f_y0,f_y1,f_y2⟩:=S.cf3 1 rfl
    obtain⟨c_m0,c_m1,c_m2,c_m3,c_m4,c_m5,f_m0,f_m1,f_m2,f_m3,f_m4,f_m5⟩:=S.cf6 2 rfl
    obtain⟨c_s0,c_s1,c_s2,c_s3,c_s4,c_s5,f_s0,f_s1,f_s2,f_s3,f_s4,f_s5⟩:=S.cf6 3 rfl
    obtain⟨c_b0,c_b1,c_b2,c_b3,c_b4,c_b5,f_b0,f_b1,f_b2,f_b3,f_b4,f_b5⟩:=S.cf6 4 rfl
    obtain⟨c_a0,c_a1,c_a2,c_a3,c_a4,c_a5,f_a0,f_a1,f_a2,f_a3,f_a4,f_a5⟩:=S.cf6 5 rfl
    have hz:g_x<w41.heap.size:=S.lt 0 rfl
    replace S:=Lib.hid S
    clear Q40 hP0 hP1 hP2 hP3
    have S:St w _ ((w41.heap.size,#[.bool (ng p0.num),.slice A40 n40 c40,.slice D40 m40 d40],26)::(g_x,#[.bool b1,.slice A1 n1 c1,.slice D1 m1 d1],26)::(g_y,#[.bool b3,.slice A3 n3 c3,.slice D3 m3 d3],26)::(g_m,#[.bool (ng vma.num),.slice A31 n31 c31,.slice D31 m31 d31,.bool (ng vmb.num),.slice A32 n32 c32,.slice D32 m32 d32],28)::(g_s,#[.bool (ng vsa.num),.slice A33 n33 c33,.slice D33 m33 d33,.bool (ng vsb.num),.slice A34 n34 c34,.slice D34 m34 d34],28)::(w.heap.size+1,#[.bool b3,.slice A3 n3 c3,.slice D3 m3 d3,.bool b4,.slice A4 n4 c4,.slice D4 m4 d4],28)::(w.heap.size,#[.bool b1,.slice A1 n1 c1,.slice D1 m1 d1,.bool b2,.slice A2 n2 c2,.slice D2 m2 d2],28)::ob) [(D40,m40,d40,dn p0),(A40,n40,c40,limbs p0.num.natAbs),(D34,m34,d34,dn vsb),(A34,n34,c34,limbs vsb.num.natAbs),(D33,m33,d33,dn vsa),(A33,n33,c33,limbs vsa.num.natAbs),(D32,m32,d32,dn vmb),(A32,n32,c32,limbs vmb.num.natAbs),(D31,m31,d31,dn vma),(A31,n31,c31,limbs vma.num.natAbs),(D4,m4,d4,y4),(A4,n4,c4,x4),(D3,m3,d3,y3),(A3,n3,c3,x3),(D2,m2,d2,y2),(A2,n2,c2,x2),(D1,m1,d1,y1),(A1,n1,c1,x1)]:=(S.out.allocAt (w41.heap.size) #[.bool (ng p0.num),.slice A40 n40 c40,.slice D40 m40 d40] 26 (noL3 _ _ _ _ _ _ _) (by simp))
    replace S:=Lib.hid S
    have AP:Apd w _ [(w41.heap.size,#[.bool (ng p0.num),.slice A40 n40 c40,.slice D40 m40 d40],26),(g_x,#[.bool b1,.slice A1 n1 c1,.slice D1 m1 d1],26),(g_y,#[.bool b3,.slice A3 n3 c3,.slice D3 m3 d3],26),(g_m,#[.bool (ng vma.num),.slice A31 n31 c31,.slice D31 m31 d31,.bool (ng vmb.num),.slice A32 n32 c32,.slice D32 m32 d32],28),(g_s,#[.bool (ng vsa.num),.slice A33 n33 c33,.slice D33 m33 d33,.bool (ng vsb.num),.slice A34 n34 c34,.slice D34 m34 d34],28),(w.heap.size+1,#[.bool b3,.slice A3 n3 c3,.slice D3 m3 d3,.bool b4,.slice A4 n4 c4,.slice D4 m4 d4],28),(w.heap.size,#[.bool b1,.slice A1 n1 c1,.slice D1 m1 d1,.bool b2,.slice A2 n2 c2,.slice D2 m2 d2],28)] [(D40,m40,d40,dn p0),(A40,n40,c40,limbs p0.num.natAbs),(D34,m34,d34,dn vsb),(A34,n34,c34,limbs vsb.num.natAbs),(D33,m33,d33,dn vsa),(A33,n33,c33,limbs vsa.num.natAbs),(D32,m32,d32,dn vmb),(A32,n32,c32,limbs vmb.num.natAbs),(D31,m31,d31,dn vma),(A31,n31,c31,limbs vma.num.natAbs),(D4,m4,d4,y4),(A4,n4,c4,x4),(D3,m3,d3,y3),(A3,n3,c3,x3),(D2,m2,d2,y2),(A2,n2,c2,x2),(D1,m1,d1,y1),(A1,n1,c1,x1)] 26 3 _ 0 _:=Apd.close hob.out S.out
    have hcb:=S.out.cb 0 rfl
    clear S
    go_wp2_with (at_builtin;refine app_rat rfl (.tmp 52) (.tmp 56) rfl rfl AP _ rfl hcb (by decide) ?_)
    clear AP hcb
    intro v' W' AP
    replace AP:=Lib.hid (AP.sub.sub.sub)
    clear c_x0 f_x0 c_x1 f_x1 c_x2 f_x2 c_y0 f_y0 c_y1 f_y1 c_y2 f_y2 c_m0 f_m0 c_m1 f_m1 c_m2 f_m2 c_m3 f_m3 c_m4 f_m4 c_m5 f_m5 c_s0 f_s0 c_s1 f_s1 c_s2 f_s2 c_s3 f_s3 c_s4 f_s4 c_s5 f_s5 c_b0 f_b0 c_b1 f_b1 c_b2 f_b2 c_b3 f_b3 c_b4 f_b4 c_b5 f_b5 c_a0 f_a0 c_a1 f_a1 c_a2 f_a2 c_a3 f_a3 c_a4 f_a4 c_a5 f_a5 hz
    go_wp2
    go_roundw
    case rel=>exact⟨1,[⟨A40,n40,c40,D40,m40,d40,_⟩],by decide,by go_num,rfl,rfl,AP.out.mp fun _ S=>S.pickr [1,0,2,3,4,5,6,7,8,9,10,11,12,13,14,15,16,17] rfl⟩
    case measure=>simp[intOf]
   ·obtain⟨y1,rfl⟩:=lst1 hL
    obtain⟨A50,n50,c50,D50,m50,d50,z50⟩:=y1
    have hP':[z50]=[p0]:=hP
    clear hP
    simp only[List.cons.injEq,and_true] at hP'
    obtain rfl:=hP'
    obtain⟨ob,hob,S⟩:=AP.open_
    clear hL AP
    have S:St w wr ((g_m,#[.bool (ng vma.num),.slice A31 n31 c31,.slice D31 m31 d31,.bool (ng vmb.num),.slice A32 n32 c32,.slice D32 m32 d32],28)::(g_s,#[.bool (ng vsa.num),.slice A33 n33 c33,.slice D33 m33 d33,.bool (ng vsb.num),.slice A34 n34 c34,.slice D34 m34 d34],28)::(w.heap.size+1,#[.bool b3,.slice A3 n3 c3,.slice D3 m3 d3,.bool b4,.slice A4 n4 c4,.slice D4 m4 d4],28)::(w.heap.size,#[.bool b1,.slice A1 n1 c1,.slice D1 m1 d1,.bool b2,.slice A2 n2 c2,.slice D2 m2 d2],28)::ob) [(A50,n50,c50,limbs z50.num.natAbs),(D50,m50,d50,dn z50),(D34,m34,d34,dn vsb),(A34,n34,c34,limbs vsb.num.natAbs),(D33,m33,d33,dn vsa),(A33,n33,c33,limbs vsa.num.natAbs),(D32,m32,d32,dn vmb),(A32,n32,c32,limbs vmb.num.natAbs),(D31,m31,d31,dn vma),(A31,n31,c31,limbs vma.num.natAbs),(D4,m4,d4,y4),(A4,n4,c4,x4),(D3,m3,d3,y3),(A3,n3,c3,x3),(D2,m2,d2,y2),(A2,n2,c2,x2),(D1,m1,d1,y1),(A1,n1,c1,x1)]:=S
    replace hob:=Lib.hid hob
    obtain⟨c_m0,c_m1,c_m2,c_m3,c_m4,c_m5,f_m0,f_m1,f_m2,f_m3,f_m4,f_m5⟩:=S.cf6 0 rfl
    obtain⟨c_s0,c_s1,c_s2,c_s3,c_s4,c_s5,f_s0,f_s1,f_s2,f_s3,f_s4,f_s5⟩:=S.cf6 1 rfl
    obtain⟨c_b0,c_b1,c_b2,c_b3,c_b4,c_b5,f_b0,f_b1,f_b2,f_b3,f_b4,f_b5⟩:=S.cf6 2 rfl
    obtain⟨c_a0,c_a1,c_a2,c_a3,c_a4,c_a5,f_a0,f_a1,f_a2,f_a3,f_a4,f_a5⟩:=S.cf6 3 rfl
    have hz:g_m<wr.heap.size:=S.lt 0 rfl
    replace S:=Lib.hid S
    go_upto_region 8 with fail
    clear c_m0 f_m0 c_m1 f_m1 c_m2 f_m2 c_m3 f_m3 c_m4 f_m4 c_m5 f_m5 c_s0 f_s0 c_s1 f_s1 c_s2 f_s2 c_s3 f_s3 c_s4 f_s4 c_s5 f_s5 c_b0 f_b0 c_b1 f_b1 c_b2 f_b2 c_b3 f_b3 c_b4 f_b4 c_b5 f_b5 c_a0 f_a0 c_a1 f_a1 c_a2 f_a2 c_a3 f_a3 c_a4 f_a4 c_a5 f_a5 hz
    refine RW.begin (Z:=[⟨4,9,#[.bool false,.slice none 0 0,.slice none 0 0],26⟩,⟨5,10,#[.bool false,.slice none 0 0,.slice none 0 0],26⟩]) (S:=(fun W=>Cb W (w.heap.size) #[.bool b1,.slice A1 n1 c1,.slice D1 m1 d1,.bool b2,.slice A2 n2 c2,.slice D2 m2 d2] 28∧Cb W (w.heap.size+1) #[.bool b3,.slice A3 n3 c3,.slice D3 m3 d3,.bool b4,.slice A4 n4 c4,.slice D4 m4 d4] 28)) (by kernel_rfl) ?_ S.out ?_
    ·exact⟨by kernel_rfl,(zis_cons at4 (fun _ _=>by kernel_rfl) (zis_cons at5 (fun _ _=>by kernel_rfl) zis_nil)),by decide,by decide,(nol_cons (noL3 _ _ _ _ _ _ _) (nol_cons (noL3 _ _ _ _ _ _ _) nol_nil)),(fun _ _ h=>⟨h.kb 3 rfl,h.kb 2 rfl⟩)⟩
    intro hzk
    clear S
    refine RW.t (i:=0) (v:=.pointer (some ⟨w.heap.size,0,none⟩)) (some 39) at0 (hy:=fun _ _=>by kernel_rfl) (h:=?_)
    refine RW.t (i:=1) (v:=.agg #[.bool b1,.slice A1 n1 c1,.slice D1 m1 d1]) (some 40) at1 (hy:=fun W hS=>by (have k0:=Cb.cell (i:=0) hS.1 rfl;have k1:=Cb.cell (i:=1) hS.1 rfl;have k2:=Cb.cell (i:=2) hS.1 rfl;clear hS;go_simp)) (h:=?_)
    refine RW.t (i:=2) (v:=.pointer (some ⟨w.heap.size+1,0,none⟩)) (some 41) at2 (hy:=fun _ _=>by kernel_rfl) (h:=?_)
    refine RW.t (i:=3) (v:=.agg #[.bool b3,.slice A3 n3 c3,.slice D3 m3 d3]) (some 42) at3 (hy:=fun W hS=>by (have k0:=Cb.cell (i:=0) hS.2 rfl;have k1:=Cb.cell (i:=1) hS.2 rfl;have k2:=Cb.cell (i:=2) hS.2 rfl;clear hS;go_simp)) (h:=?_)
    refine RW.tail hzk.out (by kernel_rfl) ?_
    intro gs w39 hgs hS S
    obtain⟨g_x,g_y,rfl⟩:=len2 hgs
    clear hS hgs hzk
    simp only[mark,fill,List.map,Act.put,List.setIfInBounds_toArray,List.set_cons_zero,List.set_cons_succ]
    replace S:=Lib.hid S
    refine Wk.o (i:=6) at6 (by kernel_rfl) fun K' hK=>?_
    have q6_x0:=St.cl (S.out) 0 0 rfl rfl
    have q6_x1:=St.cl (S.out) 0 1 rfl rfl
    have q6_x2:=St.cl (S.out) 0 2 rfl rfl
    have q6z_x0:=St.f (S.out) 0 0 rfl
    have q6z_x1:=St.f (S.out) 0 1 rfl
    have q6z_x2:=St.f (S.out) 0 2 rfl
    go_simp
    have SN:=(((S.out.set 0 0 (.bool b1) rfl (by nofun)).set 0 1 (.slice A1 n1 c1) rfl (by nofun)).set 0 2 (.slice D1 m1 d1) rfl (by nofun))
    clear S q6_x0 q6_x1 q6_x2 q6z_x0 q6z_x1 q6z_x2
    have S:=SN
    clear SN
    refine hK.out _ _ ⟨(S.cb 5 rfl),(S.cb 4 rfl)⟩ ?_
    clear hK K'
    replace S:=Lib.hid S
    try simp only[Act.put,List.setIfInBounds_toArray,List.set_cons_zero,List.set_cons_succ]
    refine Wk.o (i:=7) at7 (by kernel_rfl) fun K' hK=>?_
    have q7_y0:=St.cl (S.out) 1 0 rfl rfl
    have q7_y1:=St.cl (S.out) 1 1 rfl rfl
    have q7_y2:=St.cl (S.out) 1 2 rfl rfl
    have q7z_y0:=St.f (S.out) 1 0 rfl
    have q7z_y1:=St.f (S.out) 1 1 rfl
    have q7z_y2:=St.f (S.out) 1 2 rfl
    go_simp
    have SN:=(((S.out.set 1 0 (.bool b3) rfl (by nofun)).set 1 1 (.slice A3 n3 c3) rfl (by nofun)).set 1 2 (.slice D3 m3 d3) rfl (by nofun))
    clear S q7_y0 q7_y1 q7_y2 q7z_y0 q7z_y1 q7z_y2
    have S:=SN
    clear SN
    refine hK.out _ _ ⟨(S.cb 5 rfl),(S.cb 4 rfl)⟩ ?_
    clear hK K'
    replace S:=Lib.hid S
    try simp only[Act.put,List.setIfInBounds_toArray,List.set_cons_zero,List.set_cons_succ]
    refine Wk.done (by kernel_rfl) ?_
    go_simp
    replace S:=S.out
    have S:St w _ ((g_x,#[.bool b1,.slice A1 n1 c1,.slice D1 m1 d1],26)::(g_y,#[.bool b3,.slice A3 n3 c3,.slice D3 m3 d3],26)::(g_m,#[.bool (ng vma.num),.slice A31 n31 c31,.slice D31 m31 d31,.bool (ng vmb.num),.slice A32 n32 c32,.slice D32 m32 d32],28)::(g_s,#[.bool (ng vsa.num),.slice A33 n33 c33,.slice D33 m33 d33,.bool (ng vsb.num),.slice A34 n34 c34,.slice D34 m34 d34],28)::(w.heap.size+1,#[.bool b3,.slice A3 n3 c3,.slice D3 m3 d3,.bool b4,.slice A4 n4 c4,.slice D4 m4 d4],28)::(w.heap.size,#[.bool b1,.slice A1 n1 c1,.slice D1 m1 d1,.bool b2,.slice A2 n2 c2,.slice D2 m2 d2],28)::ob) [(A50,n50,c50,limbs z50.num.natAbs),(D50,m50,d50,dn z50),(D34,m34,d34,dn vsb),(A34,n34,c34,limbs vsb.num.natAbs),(D33,m33,d33,dn vsa),(A33,n33,c33,limbs vsa.num.natAbs),(D32,m32,d32,dn vmb),(A32,n32,c32,limbs vmb.num.natAbs),(D31,m31,d31,dn vma),(A31,n31,c31,limbs vma.num.natAbs),(D4,m4,d4,y4),(A4,n4,c4,x4),(D3,m3,d3,y3),(A3,n3,c3,x3),(D2,m2,d2,y2),(A2,n2,c2,x2),(D1,m1,d1,y1),(A1,n1,c1,x1)]:=S
    generalize hW40:(World.setCell (World.setCell (World.setCell (World.setCell (World.setCell (World.setCell w39 ⟨g_x,0,none⟩ (.bool b1)) ⟨g_x,1,none⟩ (.slice A1 n1 c1)) ⟨g_x,2,none⟩ (.slice D1 m1 d1)) ⟨g_y,0,none⟩ (.bool b3)) ⟨g_y,1,none⟩ (.slice A3 n3 c3)) ⟨g_y,2,none⟩ (.slice D3 m3 d3))=w40 at S ⊢
    clear hW40
    replace S:=Lib.hid S
    replace S:=S.out
    obtain⟨c_x0,c_x1,c_x2,f_x0,f_x1,f_x2⟩:=S.cf3 0 rfl
    obtain⟨c_y0,c_y1,c_y2,f_y0,f_y1,f_y2⟩:=S.cf3 1 rfl
    obtain⟨c_m0,c_m1,c_m2,c_m3,c_m4,c_m5,f_m0,f_m1,f_m2,f_m3,f_m4,f_m5⟩:=S.cf6 2 rfl
    obtain⟨c_s0,c_s1,c_s2,c_s3,c_s4,c_s5,f_s0,f_s1,f_s2,f_s3,f_s4,f_s5⟩:=S.cf6 3 rfl
    obtain⟨c_b0,c_b1,c_b2,c_b3,c_b4,c_b5,f_b0,f_b1,f_b2,f_b3,f_b4,f_b5⟩:=S.cf6 4 rfl
    obtain⟨c_a0,c_a1,c_a2,c_a3,c_a4,c_a5,f_a0,f_a1,f_a2,f_a3,f_a4,f_a5⟩:=S.cf6 5 rfl
    have hz:g_x<w40.heap.size:=S.lt 0 rfl
    replace S:=Lib.hid S
    have S:St w _ ((g_x,#[.bool b2,.slice A2 n2 c2,.slice D2 m2 d2],26)::(g_y,#[.bool b3,.slice A3 n3 c3,.slice D3 m3 d3],26)::(g_m,#[.bool (ng vma.num),.slice A31 n31 c31,.slice D31 m31 d31,.bool (ng vmb.num),.slice A32 n32 c32,.slice D32 m32 d32],28)::(g_s,#[.bool (ng vsa.num),.slice A33 n33 c33,.slice D33 m33 d33,.bool (ng vsb.num),.slice A34 n34 c34,.slice D34 m34 d34],28)::(w.heap.size+1,#[.bool b3,.slice A3 n3 c3,.slice D3 m3 d3,.bool b4,.slice A4 n4 c4,.slice D4 m4 d4],28)::(w.heap.size,#[.bool b1,.slice A1 n1 c1,.slice D1 m1 d1,.bool b2,.slice A2 n2 c2,.slice D2 m2 d2],28)::ob) [(A50,n50,c50,limbs z50.num.natAbs),(D50,m50,d50,dn z50),(D34,m34,d34,dn vsb),(A34,n34,c34,limbs vsb.num.natAbs),(D33,m33,d33,dn vsa),(A33,n33,c33,limbs vsa.num.natAbs),(D32,m32,d32,dn vmb),(A32,n32,c32,limbs vmb.num.natAbs),(D31,m31,d31,dn vma),(A31,n31,c31,limbs vma.num.natAbs),(D4,m4,d4,y4),(A4,n4,c4,x4),(D3,m3,d3,y3),(A3,n3,c3,x3),(D2,m2,d2,y2),(A2,n2,c2,x2),(D1,m1,d1,y1),(A1,n1,c1,x1)]:=(((S.out.set 0 0 (.bool b2) rfl (by nofun)).set 0 1 (.slice A2 n2 c2) rfl (by nofun)).set 0 2 (.slice D2 m2 d2) rfl (by nofun))
    obtain⟨a_x0,a_x1,a_x2,b_x0,b_x1,b_x2⟩:=S.cf3 0 rfl
    obtain⟨a_y0,a_y1,a_y2,b_y0,b_y1,b_y2⟩:=S.cf3 1 rfl
    replace S:=Lib.hid S
    go_wp2_with fail
    refine (hP1.out _ (Rw.of (S.out.r 15 rfl) (S.out.r 14 rfl) k2.out) (Rw.of (S.out.r 13 rfl) (S.out.r 12 rfl) k3.out)).mono ?_
    rintro e w41 ⟨A40,n40,c40,D40,m40,d40,rfl,Q40,bb⟩
    have T:=(((S.out.call bb).read Q40.n).read Q40.d)
    clear bb S c_x0 f_x0 c_x1 f_x1 c_x2 f_x2 c_y0 f_y0 c_y1 f_y1 c_y2 f_y2 c_m0 f_m0 c_m1 f_m1 c_m2 f_m2 c_m3 f_m3 c_m4 f_m4 c_m5 f_m5 c_s0 f_s0 c_s1 f_s1 c_s2 f_s2 c_s3 f_s3 c_s4 f_s4 c_s5 f_s5 c_b0 f_b0 c_b1 f_b1 c_b2 f_b2 c_b3 f_b3 c_b4 f_b4 c_b5 f_b5 c_a0 f_a0 c_a1 f_a1 c_a2 f_a2 c_a3 f_a3 c_a4 f_a4 c_a5 f_a5 hz a_x0 b_x0 a_x1 b_x1 a_x2 b_x2 a_y0 b_y0 a_y1 b_y1 a_y2 b_y2
    have S:=T
    clear T
    obtain⟨c_x0,c_x1,c_x2,f_x0,f_x1,f_x2⟩:=S.cf3 0 rfl
    obtain⟨c_y0,c_y1,c_y2,f_y0,f_y1,f_y2⟩:=S.cf3 1 rfl
    obtain⟨c_m0,c_m1,c_m2,c_m3,c_m4,c_m5,f_m0,f_m1,f_m2,f_m3,f_m4,f_m5⟩:=S.cf6 2 rfl
    obtain⟨c_s0,c_s1,c_s2,c_s3,c_s4,c_s5,f_s0,f_s1,f_s2,f_s3,f_s4,f_s5⟩:=S.cf6 3 rfl
    obtain⟨c_b0,c_b1,c_b2,c_b3,c_b4,c_b5,f_b0,f_b1,f_b2,f_b3,f_b4,f_b5⟩:=S.cf6 4 rfl
    obtain⟨c_a0,c_a1,c_a2,c_a3,c_a4,c_a5,f_a0,f_a1,f_a2,f_a3,f_a4,f_a5⟩:=S.cf6 5 rfl
    have hz:g_x<w41.heap.size:=S.lt 0 rfl
    replace S:=Lib.hid S
    clear Q40 hP0 hP1 hP2 hP3
    have S:St w _ ((w41.heap.size,#[.bool (ng p1.num),.slice A40 n40 c40,.slice D40 m40 d40],26)::(g_x,#[.bool b2,.slice A2 n2 c2,.slice D2 m2 d2],26)::(g_y,#[.bool b3,.slice A3 n3 c3,.slice D3 m3 d3],26)::(g_m,#[.bool (ng vma.num),.slice A31 n31 c31,.slice D31 m31 d31,.bool (ng vmb.num),.slice A32 n32 c32,.slice D32 m32 d32],28)::(g_s,#[.bool (ng vsa.num),.slice A33 n33 c33,.slice D33 m33 d33,.bool (ng vsb.num),.slice A34 n34 c34,.slice D34 m34 d34],28)::(w.heap.size+1,#[.bool b3,.slice A3 n3 c3,.slice D3 m3 d3,.bool b4,.slice A4 n4 c4,.slice D4 m4 d4],28)::(w.heap.size,#[.bool b1,.slice A1 n1 c1,.slice D1 m1 d1,.bool b2,.slice A2 n2 c2,.slice D2 m2 d2],28)::ob) [(D40,m40,d40,dn p1),(A40,n40,c40,limbs p1.num.natAbs),(A50,n50,c50,limbs z50.num.natAbs),(D50,m50,d50,dn z50),(D34,m34,d34,dn vsb),(A34,n34,c34,limbs vsb.num.natAbs),(D33,m33,d33,dn vsa),(A33,n33,c33,limbs vsa.num.natAbs),(D32,m32,d32,dn vmb),(A32,n32,c32,limbs vmb.num.natAbs),(D31,m31,d31,dn vma),(A31,n31,c31,limbs vma.num.natAbs),(D4,m4,d4,y4),(A4,n4,c4,x4),(D3,m3,d3,y3),(A3,n3,c3,x3),(D2,m2,d2,y2),(A2,n2,c2,x2),(D1,m1,d1,y1),(A1,n1,c1,x1)]:=(S.out.allocAt (w41.heap.size) #[.bool (ng p1.num),.slice A40 n40 c40,.slice D40 m40 d40] 26 (noL3 _ _ _ _ _ _ _) (by simp))
    replace S:=Lib.hid S
    have AP:Apd w _ [(w41.heap.size,#[.bool (ng p1.num),.slice A40 n40 c40,.slice D40 m40 d40],26),(g_x,#[.bool b2,.slice A2 n2 c2,.slice D2 m2 d2],26),(g_y,#[.bool b3,.slice A3 n3 c3,.slice D3 m3 d3],26),(g_m,#[.bool (ng vma.num),.slice A31 n31 c31,.slice D31 m31 d31,.bool (ng vmb.num),.slice A32 n32 c32,.slice D32 m32 d32],28),(g_s,#[.bool (ng vsa.num),.slice A33 n33 c33,.slice D33 m33 d33,.bool (ng vsb.num),.slice A34 n34 c34,.slice D34 m34 d34],28),(w.heap.size+1,#[.bool b3,.slice A3 n3 c3,.slice D3 m3 d3,.bool b4,.slice A4 n4 c4,.slice D4 m4 d4],28),(w.heap.size,#[.bool b1,.slice A1 n1 c1,.slice D1 m1 d1,.bool b2,.slice A2 n2 c2,.slice D2 m2 d2],28)] [(D40,m40,d40,dn p1),(A40,n40,c40,limbs p1.num.natAbs),(A50,n50,c50,limbs z50.num.natAbs),(D50,m50,d50,dn z50),(D34,m34,d34,dn vsb),(A34,n34,c34,limbs vsb.num.natAbs),(D33,m33,d33,dn vsa),(A33,n33,c33,limbs vsa.num.natAbs),(D32,m32,d32,dn vmb),(A32,n32,c32,limbs vmb.num.natAbs),(D31,m31,d31,dn vma),(A31,n31,c31,limbs vma.num.natAbs),(D4,m4,d4,y4),(A4,n4,c4,x4),(D3,m3,d3,y3),(A3,n3,c3,x3),(D2,m2,d2,y2),(A2,n2,c2,x2),(D1,m1,d1,y1),(A1,n1,c1,x1)] 26 3 _ 1 _:=Apd.close hob.out S.out
    have hcb:=S.out.cb 0 rfl
    clear S
    go_wp2_with (at_builtin;refine app_rat rfl (.tmp 52) (.tmp 56) rfl rfl AP _ rfl hcb (by decide) ?_)
    clear AP hcb
    intro v' W' AP
    replace AP:=Lib.hid (AP.sub.sub.sub)
    clear c_x0 f_x0 c_x1 f_x1 c_x2 f_x2 c_y0 f_y0 c_y1 f_y1 c_y2 f_y2 c_m0 f_m0 c_m1 f_m1 c_m2 f_m2 c_m3 f_m3 c_m4 f_m4 c_m5 f_m5 c_s0 f_s0 c_s1 f_s1 c_s2 f_s2 c_s3 f_s3 c_s4 f_s4 c_s5 f_s5 c_b0 f_b0 c_b1 f_b1 c_b2 f_b2 c_b3 f_b3 c_b4 f_b4 c_b5 f_b5 c_a0 f_a0 c_a1 f_a1 c_a2 f_a2 c_a3 f_a3 c_a4 f_a4 c_a5 f_a5 hz
    go_wp2
    go_roundw
    case rel=>exact⟨2,[⟨A50,n50,c50,D50,m50,d50,_⟩,⟨A40,n40,c40,D40,m40,d40,_⟩],by decide,by go_num,rfl,rfl,AP.out.mp fun _ S=>S.pickr [2,3,1,0,4,5,6,7,8,9,10,11,12,13,14,15,16,17,18,19] rfl⟩
    case measure=>simp[intOf]
   ·obtain⟨y1,y2,rfl⟩:=lst2 hL
    obtain⟨A50,n50,c50,D50,m50,d50,z50⟩:=y1
    obtain⟨A51,n51,c51,D51,m51,d51,z51⟩:=y2
    have hP':[z50,z51]=[p0,p1]:=hP
    clear hP
    simp only[List.cons.injEq,and_true] at hP'
    obtain⟨rfl,rfl⟩:=hP'
    obtain⟨ob,hob,S⟩:=AP.open_
    clear hL AP
    have S:St w wr ((g_m,#[.bool (ng vma.num),.slice A31 n31 c31,.slice D31 m31 d31,.bool (ng vmb.num),.slice A32 n32 c32,.slice D32 m32 d32],28)::(g_s,#[.bool (ng vsa.num),.slice A33 n33 c33,.slice D33 m33 d33,.bool (ng vsb.num),.slice A34 n34 c34,.slice D34 m34 d34],28)::(w.heap.size+1,#[.bool b3,.slice A3 n3 c3,.slice D3 m3 d3,.bool b4,.slice A4 n4 c4,.slice D4 m4 d4],28)::(w.heap.size,#[.bool b1,.slice A1 n1 c1,.slice D1 m1 d1,.bool b2,.slice A2 n2 c2,.slice D2 m2 d2],28)::ob) [(A50,n50,c50,limbs z50.num.natAbs),(D50,m50,d50,dn z50),(A51,n51,c51,limbs z51.num.natAbs),(D51,m51,d51,dn z51),(D34,m34,d34,dn vsb),(A34,n34,c34,limbs vsb.num.natAbs),(D33,m33,d33,dn vsa),(A33,n33,c33,limbs vsa.num.natAbs),(D32,m32,d32,dn vmb),(A32,n32,c32,limbs vmb.num.natAbs),(D31,m31,d31,dn vma),(A31,n31,c31,limbs vma.num.natAbs),(D4,m4,d4,y4),(A4,n4,c4,x4),(D3,m3,d3,y3),(A3,n3,c3,x3),(D2,m2,d2,y2),(A2,n2,c2,x2),(D1,m1,d1,y1),(A1,n1,c1,x1)]:=S
    replace hob:=Lib.hid hob
    obtain⟨c_m0,c_m1,c_m2,c_m3,c_m4,c_m5,f_m0,f_m1,f_m2,f_m3,f_m4,f_m5⟩:=S.cf6 0 rfl
    obtain⟨c_s0,c_s1,c_s2,c_s3,c_s4,c_s5,f_s0,f_s1,f_s2,f_s3,f_s4,f_s5⟩:=S.cf6 1 rfl
    obtain⟨c_b0,c_b1,c_b2,c_b3,c_b4,c_b5,f_b0,f_b1,f_b2,f_b3,f_b4,f_b5⟩:=S.cf6 2 rfl
    obtain⟨c_a0,c_a1,c_a2,c_a3,c_a4,c_a5,f_a0,f_a1,f_a2,f_a3,f_a4,f_a5⟩:=S.cf6 3 rfl
    have hz:g_m<wr.heap.size:=S.lt 0 rfl
    replace S:=Lib.hid S
    go_upto_region 8 with fail
    clear c_m0 f_m0 c_m1 f_m1 c_m2 f_m2 c_m3 f_m3 c_m4 f_m4 c_m5 f_m5 c_s0 f_s0 c_s1 f_s1 c_s2 f_s2 c_s3 f_s3 c_s4 f_s4 c_s5 f_s5 c_b0 f_b0 c_b1 f_b1 c_b2 f_b2 c_b3 f_b3 c_b4 f_b4 c_b5 f_b5 c_a0 f_a0 c_a1 f_a1 c_a2 f_a2 c_a3 f_a3 c_a4 f_a4 c_a5 f_a5 hz
    refine RW.begin (Z:=[⟨4,9,#[.bool false,.slice none 0 0,.slice none 0 0],26⟩,⟨5,10,#[.bool false,.slice none 0 0,.slice none 0 0],26⟩]) (S:=(fun W=>Cb W (w.heap.size) #[.bool b1,.slice A1 n1 c1,.slice D1 m1 d1,.bool b2,.slice A2 n2 c2,.slice D2 m2 d2] 28∧Cb W (w.heap.size+1) #[.bool b3,.slice A3 n3 c3,.slice D3 m3 d3,.bool b4,.slice A4 n4 c4,.slice D4 m4 d4] 28)) (by kernel_rfl) ?_ S.out ?_
    ·exact⟨by kernel_rfl,(zis_cons at4 (fun _ _=>by kernel_rfl) (zis_cons at5 (fun _ _=>by kernel_rfl) zis_nil)),by decide,by decide,(nol_cons (noL3 _ _ _ _ _ _ _) (nol_cons (noL3 _ _ _ _ _ _ _) nol_nil)),(fun _ _ h=>⟨h.kb 3 rfl,h.kb 2 rfl⟩)⟩
    intro hzk
    clear S
    refine RW.t (i:=0) (v:=.pointer (some ⟨w.heap.size,0,none⟩)) (some 39) at0 (hy:=fun _ _=>by kernel_rfl) (h:=?_)
    refine RW.t (i:=1) (v:=.agg #[.bool b1,.slice A1 n1 c1,.slice D1 m1 d1]) (some 40) at1 (hy:=fun W hS=>by (have k0:=Cb.cell (i:=0) hS.1 rfl;have k1:=Cb.cell (i:=1) hS.1 rfl;have k2:=Cb.cell (i:=2) hS.1 rfl;clear hS;go_simp)) (h:=?_)
    refine RW.t (i:=2) (v:=.pointer (some ⟨w.heap.size+1,0,none⟩)) (some 41) at2 (hy:=fun _ _=>by kernel_rfl) (h:=?_)
    refine RW.t (i:=3) (v:=.agg #[.bool b3,.slice A3 n3 c3,.slice D3 m3 d3]) (some 42) at3 (hy:=fun W hS=>by (have k0:=Cb.cell (i:=0) hS.2 rfl;have k1:=Cb.cell (i:=1) hS.2 rfl;have k2:=Cb.cell (i:=2) hS.2 rfl;clear hS;go_simp)) (h:=?_)
    refine RW.tail hzk.out (by kernel_rfl) ?_
    intro gs w39 hgs hS S
    obtain⟨g_x,g_y,rfl⟩:=len2 hgs
    clear hS hgs hzk
    simp only[mark,fill,List.map,Act.put,List.setIfInBounds_toArray,List.set_cons_zero,List.set_cons_succ]
    replace S:=Lib.hid S
    refine Wk.o (i:=6) at6 (by kernel_rfl) fun K' hK=>?_
    have q6_x0:=St.cl (S.out) 0 0 rfl rfl
    have q6_x1:=St.cl (S.out) 0 1 rfl rfl
    have q6_x2:=St.cl (S.out) 0 2 rfl rfl
    have q6z_x0:=St.f (S.out) 0 0 rfl
    have q6z_x1:=St.f (S.out) 0 1 rfl
    have q6z_x2:=St.f (S.out) 0 2 rfl
    go_simp
    have SN:=(((S.out.set 0 0 (.bool b1) rfl (by nofun)).set 0 1 (.slice A1 n1 c1) rfl (by nofun)).set 0 2 (.slice D1 m1 d1) rfl (by nofun))
    clear S q6_x0 q6_x1 q6_x2 q6z_x0 q6z_x1 q6z_x2
    have S:=SN
    clear SN
    refine hK.out _ _ ⟨(S.cb 5 rfl),(S.cb 4 rfl)⟩ ?_
    clear hK K'
    replace S:=Lib.hid S
    try simp only[Act.put,List.setIfInBounds_toArray,List.set_cons_zero,List.set_cons_succ]
    refine Wk.o (i:=7) at7 (by kernel_rfl) fun K' hK=>?_
    have q7_y0:=St.cl (S.out) 1 0 rfl rfl
    have q7_y1:=St.cl (S.out) 1 1 rfl rfl
    have q7_y2:=St.cl (S.out) 1 2 rfl rfl
    have q7z_y0:=St.f (S.out) 1 0 rfl
    have q7z_y1:=St.f (S.out) 1 1 rfl
    have q7z_y2:=St.f (S.out) 1 2 rfl
    go_simp
    have SN:=(((S.out.set 1 0 (.bool b3) rfl (by nofun)).set 1 1 (.slice A3 n3 c3) rfl (by nofun)).set 1 2 (.slice D3 m3 d3) rfl (by nofun))
    clear S q7_y0 q7_y1 q7_y2 q7z_y0 q7z_y1 q7z_y2
    have S:=SN
    clear SN
    refine hK.out _ _ ⟨(S.cb 5 rfl),(S.cb 4 rfl)⟩ ?_
    clear hK K'
    replace S:=Lib.hid S
    try simp only[Act.put,List.setIfInBounds_toArray,List.set_cons_zero,List.set_cons_succ]
    refine Wk.done (by kernel_rfl) ?_
    go_simp
    replace S:=S.out
    have S:St w _ ((g_x,#[.bool b1,.slice A1 n1 c1,.slice D1 m1 d1],26)::(g_y,#[.bool b3,.slice A3 n3 c3,.slice D3 m3 d3],26)::(g_m,#[.bool (ng vma.num),.slice A31 n31 c31,.slice D31 m31 d31,.bool (ng vmb.num),.slice A32 n32 c32,.slice D32 m32 d32],28)::(g_s,#[.bool (ng vsa.num),.slice A33 n33 c33,.slice D33 m33 d33,.bool (ng vsb.num),.slice A34 n34 c34,.slice D34 m34 d34],28)::(w.heap.size+1,#[.bool b3,.slice A3 n3 c3,.slice D3 m3 d3,.bool b4,.slice A4 n4 c4,.slice D4 m4 d4],28)::(w.heap.size,#[.bool b1,.slice A1 n1 c1,.slice D1 m1 d1,.bool b2,.slice A2 n2 c2,.slice D2 m2 d2],28)::ob) [(A50,n50,c50,limbs z50.num.natAbs),(D50,m50,d50,dn z50),(A51,n51,c51,limbs z51.num.natAbs),(D51,m51,d51,dn z51),(D34,m34,d34,dn vsb),(A34,n34,c34,limbs vsb.num.natAbs),(D33,m33,d33,dn vsa),(A33,n33,c33,limbs vsa.num.natAbs),(D32,m32,d32,dn vmb),(A32,n32,c32,limbs vmb.num.natAbs),(D31,m31,d31,dn vma),(A31,n31,c31,limbs vma.num.natAbs),(D4,m4,d4,y4),(A4,n4,c4,x4),(D3,m3,d3,y3),(A3,n3,c3,x3),(D2,m2,d2,y2),(A2,n2,c2,x2),(D1,m1,d1,y1),(A1,n1,c1,x1)]:=S
    generalize hW40:(World.setCell (World.setCell (World.setCell (World.setCell (World.setCell (World.setCell w39 ⟨g_x,0,none⟩ (.bool b1)) ⟨g_x,1,none⟩ (.slice A1 n1 c1)) ⟨g_x,2,none⟩ (.slice D1 m1 d1)) ⟨g_y,0,none⟩ (.bool b3)) ⟨g_y,1,none⟩ (.slice A3 n3 c3)) ⟨g_y,2,none⟩ (.slice D3 m3 d3))=w40 at S ⊢
    clear hW40
    replace S:=Lib.hid S
    replace S:=S.out
    obtain⟨c_x0,c_x1,c_x2,f_x0,f_x1,f_x2⟩:=S.cf3 0 rfl
    obtain⟨c_y0,c_y1,c_y2,f_y0,f_y1,f_y2⟩:=S.cf3 1 rfl
    obtain⟨c_m0,c_m1,c_m2,c_m3,c_m4,c_m5,f_m0,f_m1,f_m2,f_m3,f_m4,f_m5⟩:=S.cf6 2 rfl
    obtain⟨c_s0,c_s1,c_s2,c_s3,c_s4,c_s5,f_s0,f_s1,f_s2,f_s3,f_s4,f_s5⟩:=S.cf6 3 rfl
    obtain⟨c_b0,c_b1,c_b2,c_b3,c_b4,c_b5,f_b0,f_b1,f_b2,f_b3,f_b4,f_b5⟩:=S.cf6 4 rfl
    obtain⟨c_a0,c_a1,c_a2,c_a3,c_a4,c_a5,f_a0,f_a1,f_a2,f_a3,f_a4,f_a5⟩:=S.cf6 5 rfl
    have hz:g_x<w40.heap.size:=S.lt 0 rfl
    replace S:=Lib.hid S
    have S:St w _ ((g_x,#[.bool b1,.slice A1 n1 c1,.slice D1 m1 d1],26)::(g_y,#[.bool b4,.slice A4 n4 c4,.slice D4 m4 d4],26)::(g_m,#[.bool (ng vma.num),.slice A31 n31 c31,.slice D31 m31 d31,.bool (ng vmb.num),.slice A32 n32 c32,.slice D32 m32 d32],28)::(g_s,#[.bool (ng vsa.num),.slice A33 n33 c33,.slice D33 m33 d33,.bool (ng vsb.num),.slice A34 n34 c34,.slice D34 m34 d34],28)::(w.heap.size+1,#[.bool b3,.slice A3 n3 c3,.slice D3 m3 d3,.bool b4,.slice A4 n4 c4,.slice D4 m4 d4],28)::(w.heap.size,#[.bool b1,.slice A1 n1 c1,.slice D1 m1 d1,.bool b2,.slice A2 n2 c2,.slice D2 m2 d2],28)::ob) [(A50,n50,c50,limbs z50.num.natAbs),(D50,m50,d50,dn z50),(A51,n51,c51,limbs z51.num.natAbs),(D51,m51,d51,dn z51),(D34,m34,d34,dn vsb),(A34,n34,c34,limbs vsb.num.natAbs),(D33,m33,d33,dn vsa),(A33,n33,c33,limbs vsa.num.natAbs),(D32,m32,d32,dn vmb),(A32,n32,c32,limbs vmb.num.natAbs),(D31,m31,d31,dn vma),(A31,n31,c31,limbs vma.num.natAbs),(D4,m4,d4,y4),(A4,n4,c4,x4),(D3,m3,d3,y3),(A3,n3,c3,x3),(D2,m2,d2,y2),(A2,n2,c2,x2),(D1,m1,d1,y1),(A1,n1,c1,x1)]:=(((S.out.set 1 0 (.bool b4) rfl (by nofun)).set 1 1 (.slice A4 n4 c4) rfl (by nofun)).set 1 2 (.slice D4 m4 d4) rfl (by nofun))
    obtain⟨a_x0,a_x1,a_x2,b_x0,b_x1,b_x2⟩:=S.cf3 0 rfl
    obtain⟨a_y0,a_y1,a_y2,b_y0,b_y1,b_y2⟩:=S.cf3 1 rfl
    replace S:=Lib.hid S
    go_wp2_with fail
    refine (hP2.out _ (Rw.of (S.out.r 19 rfl) (S.out.r 18 rfl) k1.out) (Rw.of (S.out.r 13 rfl) (S.out.r 12 rfl) k4.out)).mono ?_
    rintro e w41 ⟨A40,n40,c40,D40,m40,d40,rfl,Q40,bb⟩
    have T:=(((S.out.call bb).read Q40.n).read Q40.d)
    clear bb S c_x0 f_x0 c_x1 f_x1 c_x2 f_x2 c_y0 f_y0 c_y1 f_y1 c_y2 f_y2 c_m0 f_m0 c_m1 f_m1 c_m2 f_m2 c_m3 f_m3 c_m4 f_m4 c_m5 f_m5 c_s0 f_s0 c_s1 f_s1 c_s2 f_s2 c_s3 f_s3 c_s4 f_s4 c_s5 f_s5 c_b0 f_b0 c_b1 f_b1 c_b2 f_b2 c_b3 f_b3 c_b4 f_b4 c_b5 f_b5 c_a0 f_a0 c_a1 f_a1 c_a2 f_a2 c_a3 f_a3 c_a4 f_a4 c_a5 f_a5 hz a_x0 b_x0 a_x1 b_x1 a_x2 b_x2 a_y0 b_y0 a_y1 b_y1 a_y2 b_y2
    have S:=T
    clear T
    obtain⟨c_x0,c_x1,c_x2,f_x0,f_x1,f_x2⟩:=S.cf3 0 rfl
    obtain⟨c_y0,c_y1,c_y2,f_y0,f_y1,f_y2⟩:=S.cf3 1 rfl
    obtain⟨c_m0,c_m1,c_m2,c_m3,c_m4,c_m5,f_m0,f_m1,f_m2,f_m3,f_m4,f_m5⟩:=S.cf6 2 rfl
    obtain⟨c_s0,c_s1,c_s2,c_s3,c_s4,c_s5,f_s0,f_s1,f_s2,f_s3,f_s4,f_s5⟩:=S.cf6 3 rfl
    obtain⟨c_b0,c_b1,c_b2,c_b3,c_b4,c_b5,f_b0,f_b1,f_b2,f_b3,f_b4,f_b5⟩:=S.cf6 4 rfl
    obtain⟨c_a0,c_a1,c_a2,c_a3,c_a4,c_a5,f_a0,f_a1,f_a2,f_a3,f_a4,f_a5⟩:=S.cf6 5 rfl
    have hz:g_x<w41.heap.size:=S.lt 0 rfl
    replace S:=Lib.hid S
    clear Q40 hP0 hP1 hP2 hP3
    have S:St w _ ((w41.heap.size,#[.bool (ng p2.num),.slice A40 n40 c40,.slice D40 m40 d40],26)::(g_x,#[.bool b1,.slice A1 n1 c1,.slice D1 m1 d1],26)::(g_y,#[.bool b4,.slice A4 n4 c4,.slice D4 m4 d4],26)::(g_m,#[.bool (ng vma.num),.slice A31 n31 c31,.slice D31 m31 d31,.bool (ng vmb.num),.slice A32 n32 c32,.slice D32 m32 d32],28)::(g_s,#[.bool (ng vsa.num),.slice A33 n33 c33,.slice D33 m33 d33,.bool (ng vsb.num),.slice A34 n34 c34,.slice D34 m34 d34],28)::(w.heap.size+1,#[.bool b3,.slice A3 n3 c3,.slice D3 m3 d3,.bool b4,.slice A4 n4 c4,.slice D4 m4 d4],28)::(w.heap.size,#[.bool b1,.slice A1 n1 c1,.slice D1 m1 d1,.bool b2,.slice A2 n2 c2,.slice D2 m2 d2],28)::ob) [(D40,m40,d40,dn p2),(A40,n40,c40,limbs p2.num.natAbs),(A50,n50,c50,limbs z50.num.natAbs),(D50,m50,d50,dn z50),(A51,n51,c51,limbs z51.num.natAbs),(D51,m51,d51,dn z51),(D34,m34,d34,dn vsb),(A34,n34,c34,limbs vsb.num.natAbs),(D33,m33,d33,dn vsa),(A33,n33,c33,limbs vsa.num.natAbs),(D32,m32,d32,dn vmb),(A32,n32,c32,limbs vmb.num.natAbs),(D31,m31,d31,dn vma),(A31,n31,c31,limbs vma.num.natAbs),(D4,m4,d4,y4),(A4,n4,c4,x4),(D3,m3,d3,y3),(A3,n3,c3,x3),(D2,m2,d2,y2),(A2,n2,c2,x2),(D1,m1,d1,y1),(A1,n1,c1,x1)]:=(S.out.allocAt (w41.heap.size) #[.bool (ng p2.num),.slice A40 n40 c40,.slice D40 m40 d40] 26 (noL3 _ _ _ _ _ _ _) (by simp))
    replace S:=Lib.hid S
    have AP:Apd w _ [(w41.heap.size,#[.bool (ng p2.num),.slice A40 n40 c40,.slice D40 m40 d40],26),(g_x,#[.bool b1,.slice A1 n1 c1,.slice D1 m1 d1],26),(g_y,#[.bool b4,.slice A4 n4 c4,.slice D4 m4 d4],26),(g_m,#[.bool (ng vma.num),.slice A31 n31 c31,.slice D31 m31 d31,.bool (ng vmb.num),.slice A32 n32 c32,.slice D32 m32 d32],28),(g_s,#[.bool (ng vsa.num),.slice A33 n33 c33,.slice D33 m33 d33,.bool (ng vsb.num),.slice A34 n34 c34,.slice D34 m34 d34],28),(w.heap.size+1,#[.bool b3,.slice A3 n3 c3,.slice D3 m3 d3,.bool b4,.slice A4 n4 c4,.slice D4 m4 d4],28),(w.heap.size,#[.bool b1,.slice A1 n1 c1,.slice D1 m1 d1,.bool b2,.slice A2 n2 c2,.slice D2 m2 d2],28)] [(D40,m40,d40,dn p2),(A40,n40,c40,limbs p2.num.natAbs),(A50,n50,c50,limbs z50.num.natAbs),(D50,m50,d50,dn z50),(A51,n51,c51,limbs z51.num.natAbs),(D51,m51,d51,dn z51),(D34,m34,d34,dn vsb),(A34,n34,c34,limbs vsb.num.natAbs),(D33,m33,d33,dn vsa),(A33,n33,c33,limbs vsa.num.natAbs),(D32,m32,d32,dn vmb),(A32,n32,c32,limbs vmb.num.natAbs),(D31,m31,d31,dn vma),(A31,n31,c31,limbs vma.num.natAbs),(D4,m4,d4,y4),(A4,n4,c4,x4),(D3,m3,d3,y3),(A3,n3,c3,x3),(D2,m2,d2,y2),(A2,n2,c2,x2),(D1,m1,d1,y1),(A1,n1,c1,x1)] 26 3 _ 2 _:=Apd.close hob.out S.out
    have hcb:=S.out.cb 0 rfl
    clear S
    go_wp2_with (at_builtin;refine app_rat rfl (.tmp 52) (.tmp 56) rfl rfl AP _ rfl hcb (by decide) ?_)
    clear AP hcb
    intro v' W' AP
    replace AP:=Lib.hid (AP.sub.sub.sub)
    clear c_x0 f_x0 c_x1 f_x1 c_x2 f_x2 c_y0 f_y0 c_y1 f_y1 c_y2 f_y2 c_m0 f_m0 c_m1 f_m1 c_m2 f_m2 c_m3 f_m3 c_m4 f_m4 c_m5 f_m5 c_s0 f_s0 c_s1 f_s1 c_s2 f_s2 c_s3 f_s3 c_s4 f_s4 c_s5 f_s5 c_b0 f_b0 c_b1 f_b1 c_b2 f_b2 c_b3 f_b3 c_b4 f_b4 c_b5 f_b5 c_a0 f_a0 c_a1 f_a1 c_a2 f_a2 c_a3 f_a3 c_a4 f_a4 c_a5 f_a5 hz
    go_wp2
    go_roundw
    case rel=>exact⟨3,[⟨A50,n50,c50,D50,m50,d50,_⟩,⟨A51,n51,c51,D51,m51,d51,_⟩,⟨A40,n40,c40,D40,m40,d40,_⟩],by decide,by go_num,rfl,rfl,AP.out.mp fun _ S=>S.pickr [2,3,4,5,1,0,6,7,8,9,10,11,12,13,14,15,16,17,18,19,20,21] rfl⟩
    case measure=>simp[intOf]
   ·obtain⟨y1,y2,y3,rfl⟩:=lst3 hL
    obtain⟨A50,n50,c50,D50,m50,d50,z50⟩:=y1
    obtain⟨A51,n51,c51,D51,m51,d51,z51⟩:=y2
    obtain⟨A52,n52,c52,D52,m52,d52,z52⟩:=y3
    have hP':[z50,z51,z52]=[p0,p1,p2]:=hP
    clear hP
    simp only[List.cons.injEq,and_true] at hP'
    obtain⟨rfl,rfl,rfl⟩:=hP'
    obtain⟨ob,hob,S⟩:=AP.open_
    clear hL AP
    have S:St w wr ((g_m,#[.bool (ng vma.num),.slice A31 n31 c31,.slice D31 m31 d31,.bool (ng vmb.num),.slice A32 n32 c32,.slice D32 m32 d32],28)::(g_s,#[.bool (ng vsa.num),.slice A33 n33 c33,.slice D33 m33 d33,.bool (ng vsb.num),.slice A34 n34 c34,.slice D34 m34 d34],28)::(w.heap.size+1,#[.bool b3,.slice A3 n3 c3,.slice D3 m3 d3,.bool b4,.slice A4 n4 c4,.slice D4 m4 d4],28)::(w.heap.size,#[.bool b1,.slice A1 n1 c1,.slice D1 m1 d1,.bool b2,.slice A2 n2 c2,.slice D2 m2 d2],28)::ob) [(A50,n50,c50,limbs z50.num.natAbs),(D50,m50,d50,dn z50),(A51,n51,c51,limbs z51.num.natAbs),(D51,m51,d51,dn z51),(A52,n52,c52,limbs z52.num.natAbs),(D52,m52,d52,dn z52),(D34,m34,d34,dn vsb),(A34,n34,c34,limbs vsb.num.natAbs),(D33,m33,d33,dn vsa),(A33,n33,c33,limbs vsa.num.natAbs),(D32,m32,d32,dn vmb),(A32,n32,c32,limbs vmb.num.natAbs),(D31,m31,d31,dn vma),(A31,n31,c31,limbs vma.num.natAbs),(D4,m4,d4,y4),(A4,n4,c4,x4),(D3,m3,d3,y3),(A3,n3,c3,x3),(D2,m2,d2,y2),(A2,n2,c2,x2),(D1,m1,d1,y1),(A1,n1,c1,x1)]:=S
    replace hob:=Lib.hid hob
    obtain⟨c_m0,c_m1,c_m2,c_m3,c_m4,c_m5,f_m0,f_m1,f_m2,f_m3,f_m4,f_m5⟩:=S.cf6 0 rfl
    obtain⟨c_s0,c_s1,c_s2,c_s3,c_s4,c_s5,f_s0,f_s1,f_s2,f_s3,f_s4,f_s5⟩:=S.cf6 1 rfl
    obtain⟨c_b0,c_b1,c_b2,c_b3,c_b4,c_b5,f_b0,f_b1,f_b2,f_b3,f_b4,f_b5⟩:=S.cf6 2 rfl
    obtain⟨c_a0,c_a1,c_a2,c_a3,c_a4,c_a5,f_a0,f_a1,f_a2,f_a3,f_a4,f_a5⟩:=S.cf6 3 rfl
    have hz:g_m<wr.heap.size:=S.lt 0 rfl
    replace S:=Lib.hid S
    go_upto_region 8 with fail
    clear c_m0 f_m0 c_m1 f_m1 c_m2 f_m2 c_m3 f_m3 c_m4 f_m4 c_m5 f_m5 c_s0 f_s0 c_s1 f_s1 c_s2 f_s2 c_s3 f_s3 c_s4 f_s4 c_s5 f_s5 c_b0 f_b0 c_b1 f_b1 c_b2 f_b2 c_b3 f_b3 c_b4 f_b4 c_b5 f_b5 c_a0 f_a0 c_a1 f_a1 c_a2 f_a2 c_a3 f_a3 c_a4 f_a4 c_a5 f_a5 hz
    refine RW.begin (Z:=[⟨4,9,#[.bool false,.slice none 0 0,.slice none 0 0],26⟩,⟨5,10,#[.bool false,.slice none 0 0,.slice none 0 0],26⟩]) (S:=(fun W=>Cb W (w.heap.size) #[.bool b1,.slice A1 n1 c1,.slice D1 m1 d1,.bool b2,.slice A2 n2 c2,.slice D2 m2 d2] 28∧Cb W (w.heap.size+1) #[.bool b3,.slice A3 n3 c3,.slice D3 m3 d3,.bool b4,.slice A4 n4 c4,.slice D4 m4 d4] 28)) (by kernel_rfl) ?_ S.out ?_
    ·exact⟨by kernel_rfl,(zis_cons at4 (fun _ _=>by kernel_rfl) (zis_cons at5 (fun _ _=>by kernel_rfl) zis_nil)),by decide,by decide,(nol_cons (noL3 _ _ _ _ _ _ _) (nol_cons (noL3 _ _ _ _ _ _ _) nol_nil)),(fun _ _ h=>⟨h.kb 3 rfl,h.kb 2 rfl⟩)⟩
    intro hzk
    clear S
    refine RW.t (i:=0) (v:=.pointer (some ⟨w.heap.size,0,none⟩)) (some 39) at0 (hy:=fun _ _=>by kernel_rfl) (h:=?_)
    refine RW.t (i:=1) (v:=.agg #[.bool b1,.slice A1 n1 c1,.slice D1 m1 d1]) (some 40) at1 (hy:=fun W hS=>by (have k0:=Cb.cell (i:=0) hS.1 rfl;have k1:=Cb.cell (i:=1) hS.1 rfl;have k2:=Cb.cell (i:=2) hS.1 rfl;clear hS;go_simp)) (h:=?_)
    refine RW.t (i:=2) (v:=.pointer (some ⟨w.heap.size+1,0,none⟩)) (some 41) at2 (hy:=fun _ _=>by kernel_rfl) (h:=?_)
    refine RW.t (i:=3) (v:=.agg #[.bool b3,.slice A3 n3 c3,.slice D3 m3 d3]) (some 42) at3 (hy:=fun W hS=>by (have k0:=Cb.cell (i:=0) hS.2 rfl;have k1:=Cb.cell (i:=1) hS.2 rfl;have k2:=Cb.cell (i:=2) hS.2 rfl;clear hS;go_simp)) (h:=?_)
    refine RW.tail hzk.out (by kernel_rfl) ?_
    intro gs w39 hgs hS S
    obtain⟨g_x,g_y,rfl⟩:=len2 hgs
    clear hS hgs hzk
    simp only[mark,fill,List.map,Act.put,List.setIfInBounds_toArray,List.set_cons_zero,List.set_cons_succ]
    replace S:=Lib.hid S
    refine Wk.o (i:=6) at6 (by kernel_rfl) fun K' hK=>?_
    have q6_x0:=St.cl (S.out) 0 0 rfl rfl
    have q6_x1:=St.cl (S.out) 0 1 rfl rfl
    have q6_x2:=St.cl (S.out) 0 2 rfl rfl
    have q6z_x0:=St.f (S.out) 0 0 rfl
    have q6z_x1:=St.f (S.out) 0 1 rfl
    have q6z_x2:=St.f (S.out) 0 2 rfl
    go_simp
    have SN:=(((S.out.set 0 0 (.bool b1) rfl (by nofun)).set 0 1 (.slice A1 n1 c1) rfl (by nofun)).set 0 2 (.slice D1 m1 d1) rfl (by nofun))
    clear S q6_x0 q6_x1 q6_x2 q6z_x0 q6z_x1 q6z_x2
    have S:=SN
    clear SN
    refine hK.out _ _ ⟨(S.cb 5 rfl),(S.cb 4 rfl)⟩ ?_
    clear hK K'
    replace S:=Lib.hid S
    try simp only[Act.put,List.setIfInBounds_toArray,List.set_cons_zero,List.set_cons_succ]
    refine Wk.o (i:=7) at7 (by kernel_rfl) fun K' hK=>?_
    have q7_y0:=St.cl (S.out) 1 0 rfl rfl
    have q7_y1:=St.cl (S.out) 1 1 rfl rfl
    have q7_y2:=St.cl (S.out) 1 2 rfl rfl
    have q7z_y0:=St.f (S.out) 1 0 rfl
    have q7z_y1:=St.f (S.out) 1 1 rfl
    have q7z_y2:=St.f (S.out) 1 2 rfl
    go_simp
    have SN:=(((S.out.set 1 0 (.bool b3) rfl (by nofun)).set 1 1 (.slice A3 n3 c3) rfl (by nofun)).set 1 2 (.slice D3 m3 d3) rfl (by nofun))
    clear S q7_y0 q7_y1 q7_y2 q7z_y0 q7z_y1 q7z_y2
    have S:=SN
    clear SN
    refine hK.out _ _ ⟨(S.cb 5 rfl),(S.cb 4 rfl)⟩ ?_
    clear hK K'
    replace S:=Lib.hid S
    try simp only[Act.put,List.setIfInBounds_toArray,List.set_cons_zero,List.set_cons_succ]
    refine Wk.done (by kernel_rfl) ?_
    go_simp
    replace S:=S.out
    have S:St w _ ((g_x,#[.bool b1,.slice A1 n1 c1,.slice D1 m1 d1],26)::(g_y,#[.bool b3,.slice A3 n3 c3,.slice D3 m3 d3],26)::(g_m,#[.bool (ng vma.num),.slice A31 n31 c31,.slice D31 m31 d31,.bool (ng vmb.num),.slice A32 n32 c32,.slice D32 m32 d32],28)::(g_s,#[.bool (ng vsa.num),.slice A33 n33 c33,.slice D33 m33 d33,.bool (ng vsb.num),.slice A34 n34 c34,.slice D34 m34 d34],28)::(w.heap.size+1,#[.bool b3,.slice A3 n3 c3,.slice D3 m3 d3,.bool b4,.slice A4 n4 c4,.slice D4 m4 d4],28)::(w.heap.size,#[.bool b1,.slice A1 n1 c1,.slice D1 m1 d1,.bool b2,.slice A2 n2 c2,.slice D2 m2 d2],28)::ob) [(A50,n50,c50,limbs z50.num.natAbs),(D50,m50,d50,dn z50),(A51,n51,c51,limbs z51.num.natAbs),(D51,m51,d51,dn z51),(A52,n52,c52,limbs z52.num.natAbs),(D52,m52,d52,dn z52),(D34,m34,d34,dn vsb),(A34,n34,c34,limbs vsb.num.natAbs),(D33,m33,d33,dn vsa),(A33,n33,c33,limbs vsa.num.natAbs),(D32,m32,d32,dn vmb),(A32,n32,c32,limbs vmb.num.natAbs),(D31,m31,d31,dn vma),(A31,n31,c31,limbs vma.num.natAbs),(D4,m4,d4,y4),(A4,n4,c4,x4),(D3,m3,d3,y3),(A3,n3,c3,x3),(D2,m2,d2,y2),(A2,n2,c2,x2),(D1,m1,d1,y1),(A1,n1,c1,x1)]:=S
    generalize hW40:(World.setCell (World.setCell (World.setCell (World.setCell (World.setCell (World.setCell w39 ⟨g_x,0,none⟩ (.bool b1)) ⟨g_x,1,none⟩ (.slice A1 n1 c1)) ⟨g_x,2,none⟩ (.slice D1 m1 d1)) ⟨g_y,0,none⟩ (.bool b3)) ⟨g_y,1,none⟩ (.slice A3 n3 c3)) ⟨g_y,2,none⟩ (.slice D3 m3 d3))=w40 at S ⊢
    clear hW40
    replace S:=Lib.hid S
    replace S:=S.out
    obtain⟨c_x0,c_x1,c_x2,f_x0,f_x1,f_x2⟩:=S.cf3 0 rfl
    obtain⟨c_y0,c_y1,c_y2,f_y0,f_y1,f_y2⟩:=S.cf3 1 rfl
    obtain⟨c_m0,c_m1,c_m2,c_m3,c_m4,c_m5,f_m0,f_m1,f_m2,f_m3,f_m4,f_m5⟩:=S.cf6 2 rfl
    obtain⟨c_s0,c_s1,c_s2,c_s3,c_s4,c_s5,f_s0,f_s1,f_s2,f_s3,f_s4,f_s5⟩:=S.cf6 3 rfl
    obtain⟨c_b0,c_b1,c_b2,c_b3,c_b4,c_b5,f_b0,f_b1,f_b2,f_b3,f_b4,f_b5⟩:=S.cf6 4 rfl
    obtain⟨c_a0,c_a1,c_a2,c_a3,c_a4,c_a5,f_a0,f_a1,f_a2,f_a3,f_a4,f_a5⟩:=S.cf6 5 rfl
    have hz:g_x<w40.heap.size:=S.lt 0 rfl
    replace S:=Lib.hid S
    have S:St w _ ((g_x,#[.bool b2,.slice A2 n2 c2,.slice D2 m2 d2],26)::(g_y,#[.bool b3,.slice A3 n3 c3,.slice D3 m3 d3],26)::(g_m,#[.bool (ng vma.num),.slice A31 n31 c31,.slice D31 m31 d31,.bool (ng vmb.num),.slice A32 n32 c32,.slice D32 m32 d32],28)::(g_s,#[.bool (ng vsa.num),.slice A33 n33 c33,.slice D33 m33 d33,.bool (ng vsb.num),.slice A34 n34 c34,.slice D34 m34 d34],28)::(w.heap.size+1,#[.bool b3,.slice A3 n3 c3,.slice D3 m3 d3,.bool b4,.slice A4 n4 c4,.slice D4 m4 d4],28)::(w.heap.size,#[.bool b1,.slice A1 n1 c1,.slice D1 m1 d1,.bool b2,.slice A2 n2 c2,.slice D2 m2 d2],28)::ob) [(A50,n50,c50,limbs z50.num.natAbs),(D50,m50,d50,dn z50),(A51,n51,c51,limbs z51.num.natAbs),(D51,m51,d51,dn z51),(A52,n52,c52,limbs z52.num.natAbs),(D52,m52,d52,dn z52),(D34,m34,d34,dn vsb),(A34,n34,c34,limbs vsb.num.natAbs),(D33,m33,d33,dn vsa),(A33,n33,c33,limbs vsa.num.natAbs),(D32,m32,d32,dn vmb),(A32,n32,c32,limbs vmb.num.natAbs),(D31,m31,d31,dn vma),(A31,n31,c31,limbs vma.num.natAbs),(D4,m4,d4,y4),(A4,n4,c4,x4),(D3,m3,d3,y3),(A3,n3,c3,x3),(D2,m2,d2,y2),(A2,n2,c2,x2),(D1,m1,d1,y1),(A1,n1,c1,x1)]:=(((S.out.set 0 0 (.bool b2) rfl (by nofun)).set 0 1 (.slice A2 n2 c2) rfl (by nofun)).set 0 2 (.slice D2 m2 d2) rfl (by nofun))
    obtain⟨a_b0,a_b1,a_b2,a_b3,a_b4,a_b5,b_b0,b_b1,b_b2,b_b3,b_b4,b_b5⟩:=S.cf6 4 rfl
    obtain⟨a_y0,a_y1,a_y2,b_y0,b_y1,b_y2⟩:=S.cf3 1 rfl
    replace S:=Lib.hid S
    have S:St w _ ((g_x,#[.bool b2,.slice A2 n2 c2,.slice D2 m2 d2],26)::(g_y,#[.bool b4,.slice A4 n4 c4,.slice D4 m4 d4],26)::(g_m,#[.bool (ng vma.num),.slice A31 n31 c31,.slice D31 m31 d31,.bool (ng vmb.num),.slice A32 n32 c32,.slice D32 m32 d32],28)::(g_s,#[.bool (ng vsa.num),.slice A33 n33 c33,.slice D33 m33 d33,.bool (ng vsb.num),.slice A34 n34 c34,.slice D34 m34 d34],28)::(w.heap.size+1,#[.bool b3,.slice A3 n3 c3,.slice D3 m3 d3,.bool b4,.slice A4 n4 c4,.slice D4 m4 d4],28)::(w.heap.size,#[.bool b1,.slice A1 n1 c1,.slice D1 m1 d1,.bool b2,.slice A2 n2 c2,.slice D2 m2 d2],28)::ob) [(A50,n50,c50,limbs z50.num.natAbs),(D50,m50,d50,dn z50),(A51,n51,c51,limbs z51.num.natAbs),(D51,m51,d51,dn z51),(A52,n52,c52,limbs z52.num.natAbs),(D52,m52,d52,dn z52),(D34,m34,d34,dn vsb),(A34,n34,c34,limbs vsb.num.natAbs),(D33,m33,d33,dn vsa),(A33,n33,c33,limbs vsa.num.natAbs),(D32,m32,d32,dn vmb),(A32,n32,c32,limbs vmb.num.natAbs),(D31,m31,d31,dn vma),(A31,n31,c31,limbs vma.num.natAbs),(D4,m4,d4,y4),(A4,n4,c4,x4),(D3,m3,d3,y3),(A3,n3,c3,x3),(D2,m2,d2,y2),(A2,n2,c2,x2),(D1,m1,d1,y1),(A1,n1,c1,x1)]:=(((S.out.set 1 0 (.bool b4) rfl (by nofun)).set 1 1 (.slice A4 n4 c4) rfl (by nofun)).set 1 2 (.slice D4 m4 d4) rfl (by nofun))
    obtain⟨a_x0,a_x1,a_x2,b_x0,b_x1,b_x2⟩:=S.cf3 0 rfl
    obtain⟨a_y0,a_y1,a_y2,b_y0,b_y1,b_y2⟩:=S.cf3 1 rfl
    replace S:=Lib.hid S
    go_wp2_with fail
    refine (hP3.out _ (Rw.of (S.out.r 19 rfl) (S.out.r 18 rfl) k2.out) (Rw.of (S.out.r 15 rfl) (S.out.r 14 rfl) k4.out)).mono ?_
    rintro e w41 ⟨A40,n40,c40,D40,m40,d40,rfl,Q40,bb⟩
    have T:=(((S.out.call bb).read Q40.n).read Q40.d)
    clear bb S c_x0 f_x0 c_x1 f_x1 c_x2 f_x2 c_y0 f_y0 c_y1 f_y1 c_y2 f_y2 c_m0 f_m0 c_m1 f_m1 c_m2 f_m2 c_m3 f_m3 c_m4 f_m4 c_m5 f_m5 c_s0 f_s0 c_s1 f_s1 c_s2 f_s2 c_s3 f_s3 c_s4 f_s4 c_s5 f_s5 c_b0 f_b0 c_b1 f_b1 c_b2 f_b2 c_b3 f_b3 c_b4 f_b4 c_b5 f_b5 c_a0 f_a0 c_a1 f_a1 c_a2 f_a2 c_a3 f_a3 c_a4 f_a4 c_a5 f_a5 hz a_b0 b_b0 a_b1 b_b1 a_b2 b_b2 a_b3 b_b3 a_b4 b_b4 a_b5 b_b5 a_y0 b_y0 a_y1 b_y1 a_y2 b_y2 a_x0 b_x0 a_x1 b_x1 a_x2 b_x2
    have S:=T
    clear T
    obtain⟨c_x0,c_x1,c_x2,f_x0,f_x1,f_x2⟩:=S.cf3 0 rfl
    obtain⟨c_y0,c_y1,c_y2,f_y0,f_y1,f_y2⟩:=S.cf3 1 rfl
    obtain⟨c_m0,c_m1,c_m2,c_m3,c_m4,c_m5,f_m0,f_m1,f_m2,f_m3,f_m4,f_m5⟩:=S.cf6 2 rfl
    obtain⟨c_s0,c_s1,c_s2,c_s3,c_s4,c_s5,f_s0,f_s1,f_s2,f_s3,f_s4,f_s5⟩:=S.cf6 3 rfl
    obtain⟨c_b0,c_b1,c_b2,c_b3,c_b4,c_b5,f_b0,f_b1,f_b2,f_b3,f_b4,f_b5⟩:=S.cf6 4 rfl
    obtain⟨c_a0,c_a1,c_a2,c_a3,c_a4,c_a5,f_a0,f_a1,f_a2,f_a3,f_a4,f_a5⟩:=S.cf6 5 rfl
    have hz:g_x<w41.heap.size:=S.lt 0 rfl
    replace S:=Lib.hid S
    clear Q40 hP0 hP1 hP2 hP3
    have S:St w _ ((w41.heap.size,#[.bool (ng p3.num),.slice A40 n40 c40,.slice D40 m40 d40],26)::(g_x,#[.bool b2,.slice A2 n2 c2,.slice D2 m2 d2],26)::(g_y,#[.bool b4,.slice A4 n4 c4,.slice D4 m4 d4],26)::(g_m,#[.bool (ng vma.num),.slice A31 n31 c31,.slice D31 m31 d31,.bool (ng vmb.num),.slice A32 n32 c32,.slice D32 m32 d32],28)::(g_s,#[.bool (ng vsa.num),.slice A33 n33 c33,.slice D33 m33 d33,.bool (ng vsb.num),.slice A34 n34 c34,.slice D34 m34 d34],28)::(w.heap.size+1,#[.bool b3,.slice A3 n3 c3,.slice D3 m3 d3,.bool b4,.slice A4 n4 c4,.slice D4 m4 d4],28)::(w.heap.size,#[.bool b1,.slice A1 n1 c1,.slice D1 m1 d1,.bool b2,.slice A2 n2 c2,.slice D2 m2 d2],28)::ob) [(D40,m40,d40,dn p3),(A40,n40,c40,limbs p3.num.natAbs),(A50,n50,c50,limbs z50.num.natAbs),(D50,m50,d50,dn z50),(A51,n51,c51,limbs z51.num.natAbs),(D51,m51,d51,dn z51),(A52,n52,c52,limbs z52.num.natAbs),(D52,m52,d52,dn z52),(D34,m34,d34,dn vsb),(A34,n34,c34,limbs vsb.num.natAbs),(D33,m33,d33,dn vsa),(A33,n33,c33,limbs vsa.num.natAbs),(D32,m32,d32,dn vmb),(A32,n32,c32,limbs vmb.num.natAbs),(D31,m31,d31,dn vma),(A31,n31,c31,limbs vma.num.natAbs),(D4,m4,d4,y4),(A4,n4,c4,x4),(D3,m3,d3,y3),(A3,n3,c3,x3),(D2,m2,d2,y2),(A2,n2,c2,x2),(D1,m1,d1,y1),(A1,n1,c1,x1)]:=(S.out.allocAt (w41.heap.size) #[.bool (ng p3.num),.slice A40 n40 c40,.slice D40 m40 d40] 26 (noL3 _ _ _ _ _ _ _) (by simp))
    replace S:=Lib.hid S
    have AP:Apd w _ [(w41.heap.size,#[.bool (ng p3.num),.slice A40 n40 c40,.slice D40 m40 d40],26),(g_x,#[.bool b2,.slice A2 n2 c2,.slice D2 m2 d2],26),(g_y,#[.bool b4,.slice A4 n4 c4,.slice D4 m4 d4],26),(g_m,#[.bool (ng vma.num),.slice A31 n31 c31,.slice D31 m31 d31,.bool (ng vmb.num),.slice A32 n32 c32,.slice D32 m32 d32],28),(g_s,#[.bool (ng vsa.num),.slice A33 n33 c33,.slice D33 m33 d33,.bool (ng vsb.num),.slice A34 n34 c34,.slice D34 m34 d34],28),(w.heap.size+1,#[.bool b3,.slice A3 n3 c3,.slice D3 m3 d3,.bool b4,.slice A4 n4 c4,.slice D4 m4 d4],28),(w.heap.size,#[.bool b1,.slice A1 n1 c1,.slice D1 m1 d1,.bool b2,.slice A2 n2 c2,.slice D2 m2 d2],28)] [(D40,m40,d40,dn p3),(A40,n40,c40,limbs p3.num.natAbs),(A50,n50,c50,limbs z50.num.natAbs),(D50,m50,d50,dn z50),(A51,n51,c51,limbs z51.num.natAbs),(D51,m51,d51,dn z51),(A52,n52,c52,limbs z52.num.natAbs),(D52,m52,d52,dn z52),(D34,m34,d34,dn vsb),(A34,n34,c34,limbs vsb.num.natAbs),(D33,m33,d33,dn vsa),(A33,n33,c33,limbs vsa.num.natAbs),(D32,m32,d32,dn vmb),(A32,n32,c32,limbs vmb.num.natAbs),(D31,m31,d31,dn vma),(A31,n31,c31,limbs vma.num.natAbs),(D4,m4,d4,y4),(A4,n4,c4,x4),(D3,m3,d3,y3),(A3,n3,c3,x3),(D2,m2,d2,y2),(A2,n2,c2,x2),(D1,m1,d1,y1),(A1,n1,c1,x1)] 26 3 _ 3 _:=Apd.close hob.out S.out
    have hcb:=S.out.cb 0 rfl
    clear S
    go_wp2_with (at_builtin;refine app_rat rfl (.tmp 52) (.tmp 56) rfl rfl AP _ rfl hcb (by decide) ?_)
    clear AP hcb
    intro v' W' AP
    replace AP:=Lib.hid (AP.sub.sub.sub)
    clear c_x0 f_x0 c_x1 f_x1 c_x2 f_x2 c_y0 f_y0 c_y1 f_y1 c_y2 f_y2 c_m0 f_m0 c_m1 f_m1 c_m2 f_m2 c_m3 f_m3 c_m4 f_m4 c_m5 f_m5 c_s0 f_s0 c_s1 f_s1 c_s2 f_s2 c_s3 f_s3 c_s4 f_s4 c_s5 f_s5 c_b0 f_b0 c_b1 f_b1 c_b2 f_b2 c_b3 f_b3 c_b4 f_b4 c_b5 f_b5 c_a0 f_a0 c_a1 f_a1 c_a2 f_a2 c_a3 f_a3 c_a4 f_a4 c_a5 f_a5 hz
    go_wp2
    go_roundw
    case rel=>exact⟨4,[⟨A50,n50,c50,D50,m50,d50,_⟩,⟨A51,n51,c51,D51,m51,d51,_⟩,⟨A52,n52,c52,D52,m52,d52,_⟩,⟨A40,n40,c40,D40,m40,d40,_⟩],by decide,by go_num,rfl,rfl,AP.out.mp fun _ S=>S.pickr [2,3,4,5,6,7,1,0,8,9,10,11,12,13,14,15,16,17,18,19,20,21,22,23] rfl⟩
    case measure=>simp[intOf]
  ·obtain rfl:i=4:=by omega
   obtain⟨y1,y2,y3,y4,rfl⟩:=lst4 hL
   obtain⟨A50,n50,c50,D50,m50,d50,z50⟩:=y1
   obtain⟨A51,n51,c51,D51,m51,d51,z51⟩:=y2
   obtain⟨A52,n52,c52,D52,m52,d52,z52⟩:=y3
   obtain⟨A53,n53,c53,D53,m53,d53,z53⟩:=y4
   have hP':[z50,z51,z52,z53]=[p0,p1,p2,p3]:=hP
   clear hP
   simp only[List.cons.injEq,and_true] at hP'
   obtain⟨rfl,rfl,rfl,rfl⟩:=hP'
   obtain⟨ob,hob,S⟩:=AP.open_
   clear hL AP
   have S:St w wr ((g_m,#[.bool (ng vma.num),.slice A31 n31 c31,.slice D31 m31 d31,.bool (ng vmb.num),.slice A32 n32 c32,.slice D32 m32 d32],28)::(g_s,#[.bool (ng vsa.num),.slice A33 n33 c33,.slice D33 m33 d33,.bool (ng vsb.num),.slice A34 n34 c34,.slice D34 m34 d34],28)::(w.heap.size+1,#[.bool b3,.slice A3 n3 c3,.slice D3 m3 d3,.bool b4,.slice A4 n4 c4,.slice D4 m4 d4],28)::(w.heap.size,#[.bool b1,.slice A1 n1 c1,.slice D1 m1 d1,.bool b2,.slice A2 n2 c2,.slice D2 m2 d2],28)::ob) [(A50,n50,c50,limbs z50.num.natAbs),(D50,m50,d50,dn z50),(A51,n51,c51,limbs z51.num.natAbs),(D51,m51,d51,dn z51),(A52,n52,c52,limbs z52.num.natAbs),(D52,m52,d52,dn z52),(A53,n53,c53,limbs z53.num.natAbs),(D53,m53,d53,dn z53),(D34,m34,d34,dn vsb),(A34,n34,c34,limbs vsb.num.natAbs),(D33,m33,d33,dn vsa),(A33,n33,c33,limbs vsa.num.natAbs),(D32,m32,d32,dn vmb),(A32,n32,c32,limbs vmb.num.natAbs),(D31,m31,d31,dn vma),(A31,n31,c31,limbs vma.num.natAbs),(D4,m4,d4,y4),(A4,n4,c4,x4),(D3,m3,d3,y3),(A3,n3,c3,x3),(D2,m2,d2,y2),(A2,n2,c2,x2),(D1,m1,d1,y1),(A1,n1,c1,x1)]:=S
   obtain⟨_,_,⟨_,h0,_⟩ | ⟨gl,cap,cur,rfl,_,_,_,htk,rfl⟩⟩:=hob
   ·exact absurd h0 (by decide)
   have S:St w wr [(g_m,#[.bool (ng vma.num),.slice A31 n31 c31,.slice D31 m31 d31,.bool (ng vmb.num),.slice A32 n32 c32,.slice D32 m32 d32],28),(g_s,#[.bool (ng vsa.num),.slice A33 n33 c33,.slice D33 m33 d33,.bool (ng vsb.num),.slice A34 n34 c34,.slice D34 m34 d34],28),(w.heap.size+1,#[.bool b3,.slice A3 n3 c3,.slice D3 m3 d3,.bool b4,.slice A4 n4 c4,.slice D4 m4 d4],28),(w.heap.size,#[.bool b1,.slice A1 n1 c1,.slice D1 m1 d1,.bool b2,.slice A2 n2 c2,.slice D2 m2 d2],28),(gl,cur,26)] [(A50,n50,c50,limbs z50.num.natAbs),(D50,m50,d50,dn z50),(A51,n51,c51,limbs z51.num.natAbs),(D51,m51,d51,dn z51),(A52,n52,c52,limbs z52.num.natAbs),(D52,m52,d52,dn z52),(A53,n53,c53,limbs z53.num.natAbs),(D53,m53,d53,dn z53),(D34,m34,d34,dn vsb),(A34,n34,c34,limbs vsb.num.natAbs),(D33,m33,d33,dn vsa),(A33,n33,c33,limbs vsa.num.natAbs),(D32,m32,d32,dn vmb),(A32,n32,c32,limbs vmb.num.natAbs),(D31,m31,d31,dn vma),(A31,n31,c31,limbs vma.num.natAbs),(D4,m4,d4,y4),(A4,n4,c4,x4),(D3,m3,d3,y3),(A3,n3,c3,x3),(D2,m2,d2,y2),(A2,n2,c2,x2),(D1,m1,d1,y1),(A1,n1,c1,x1)]:=S
   replace htk:=Lib.hid htk
   clear h4 hi4 hP0 hP1 hP2 hP3
   have hA0:Hid (∀ W A n c D m d,Lq W gl [⟨A50,n50,c50,D50,m50,d50,z50⟩,⟨A51,n51,c51,D51,m51,d51,z51⟩,⟨A52,n52,c52,D52,m52,d52,z52⟩,⟨A53,n53,c53,D53,m53,d53,z53⟩]→RR W A n c D m d vma→Calls Tryz.prog 36 #[.agg #[.bool (ng vma.num),.slice A n c,.slice D m d],.slice (some ⟨gl,0,none⟩) 4 cap] W fun e w'=>e=.returned (.bool true)∧Below W.heap.size W w'):=Lib.hid fun W A n c D m d h h'=>among_any [⟨A50,n50,c50,D50,m50,d50,z50⟩,⟨A51,n51,c51,D51,m51,d51,z51⟩,⟨A52,n52,c52,D52,m52,d52,z52⟩,⟨A53,n53,c53,D53,m53,d53,z53⟩] gl cap vma A n c D m d W h (by simp) (fun r hr=>rp.out _ (List.mem_map_of_mem (f:=(·.q)) hr)) (by have:=hm0.out;simp only[List.mem_cons,List.not_mem_nil,or_false,exists_eq_or_imp,exists_eq_left];rcases this with h | h | h | h<;>simp only[h,true_or,or_true]) rm0.out h'
   have hA1:Hid (∀ W A n c D m d,Lq W gl [⟨A50,n50,c50,D50,m50,d50,z50⟩,⟨A51,n51,c51,D51,m51,d51,z51⟩,⟨A52,n52,c52,D52,m52,d52,z52⟩,⟨A53,n53,c53,D53,m53,d53,z53⟩]→RR W A n c D m d vmb→Calls Tryz.prog 36 #[.agg #[.bool (ng vmb.num),.slice A n c,.slice D m d],.slice (some ⟨gl,0,none⟩) 4 cap] W fun e w'=>e=.returned (.bool true)∧Below W.heap.size W w'):=Lib.hid fun W A n c D m d h h'=>among_any [⟨A50,n50,c50,D50,m50,d50,z50⟩,⟨A51,n51,c51,D51,m51,d51,z51⟩,⟨A52,n52,c52,D52,m52,d52,z52⟩,⟨A53,n53,c53,D53,m53,d53,z53⟩] gl cap vmb A n c D m d W h (by simp) (fun r hr=>rp.out _ (List.mem_map_of_mem (f:=(·.q)) hr)) (by have:=hm1.out;simp only[List.mem_cons,List.not_mem_nil,or_false,exists_eq_or_imp,exists_eq_left];rcases this with h | h | h | h<;>simp only[h,true_or,or_true]) rm1.out h'
   have hA2:Hid (∀ W g A n c D m d A60 n60 c60 D60 m60 d60 A61 n61 c61 D61 m61 d61,Lq W g [⟨A60,n60,c60,D60,m60,d60,vta⟩,⟨A61,n61,c61,D61,m61,d61,vtb⟩]→RR W A n c D m d vsb→Calls Tryz.prog 36 #[.agg #[.bool (ng vsb.num),.slice A n c,.slice D m d],.slice (some ⟨g,0,none⟩) 2 2] W fun e w'=>e=.returned (.bool true)∧Below W.heap.size W w'):=Lib.hid fun W g A n c D m d A60 n60 c60 D60 m60 d60 A61 n61 c61 D61 m61 d61 h h'=>among_any [⟨A60,n60,c60,D60,m60,d60,vta⟩,⟨A61,n61,c61,D61,m61,d61,vtb⟩] g 2 vsb A n c D m d W h (by simp) (fun r hr=>by simp only[List.mem_cons,List.not_mem_nil,or_false] at hr;rcases hr with rfl | rfl;exact rt0.out;exact rt1.out) (by have:=hs1.out;simp only[List.mem_cons,List.not_mem_nil,or_false,exists_eq_or_imp,exists_eq_left];rcases this with h | h<;>simp only[h,true_or,or_true]) rs1.out h'
   clear hm0 hm1 hs1 rp rt0 rt1 rm0 rm1 rs0 rs1
   obtain⟨c_m0,c_m1,c_m2,c_m3,c_m4,c_m5,f_m0,f_m1,f_m2,f_m3,f_m4,f_m5⟩:=S.cf6 0 rfl
   obtain⟨c_s0,c_s1,c_s2,c_s3,c_s4,c_s5,f_s0,f_s1,f_s2,f_s3,f_s4,f_s5⟩:=S.cf6 1 rfl
   obtain⟨c_b0,c_b1,c_b2,c_b3,c_b4,c_b5,f_b0,f_b1,f_b2,f_b3,f_b4,f_b5⟩:=S.cf6 2 rfl
   obtain⟨c_a0,c_a1,c_a2,c_a3,c_a4,c_a5,f_a0,f_a1,f_a2,f_a3,f_a4,f_a5⟩:=S.cf6 3 rfl
   have hz:g_m<wr.heap.size:=S.lt 0 rfl
   replace S:=Lib.hid S
   go_upto_region 14 with fail
   clear c_m0 f_m0 c_m1 f_m1 c_m2 f_m2 c_m3 f_m3 c_m4 f_m4 c_m5 f_m5 c_s0 f_s0 c_s1 f_s1 c_s2 f_s2 c_s3 f_s3 c_s4 f_s4 c_s5 f_s5 c_b0 f_b0 c_b1 f_b1 c_b2 f_b2 c_b3 f_b3 c_b4 f_b4 c_b5 f_b5 c_a0 f_a0 c_a1 f_a1 c_a2 f_a2 c_a3 f_a3 c_a4 f_a4 c_a5 f_a5 hz
   refine RW.begin (Z:=[]) (S:=(fun W=>Cb W (g_m) #[.bool (ng vma.num),.slice A31 n31 c31,.slice D31 m31 d31,.bool (ng vmb.num),.slice A32 n32 c32,.slice D32 m32 d32] 28∧Cb W (g_s) #[.bool (ng vsa.num),.slice A33 n33 c33,.slice D33 m33 d33,.bool (ng vsb.num),.slice A34 n34 c34,.slice D34 m34 d34] 28∧Cb W (w.heap.size) #[.bool b1,.slice A1 n1 c1,.slice D1 m1 d1,.bool b2,.slice A2 n2 c2,.slice D2 m2 d2] 28)) (by kernel_rfl) ?_ S.out ?_
   ·exact⟨by kernel_rfl,zis_nil,by decide,by decide,nol_nil,(fun _ _ h=>⟨h.kb 0 rfl,h.kb 1 rfl,h.kb 3 rfl⟩)⟩
   intro hzk
   clear S
   refine RW.c (i:=0) (args:=#[]) (some 58) hzk.out at0 (hx:=fun _=>by kernel_rfl) (h:=fun _ S=>(hA.out _).mono ?_)
   rintro e w39 ⟨rfl,bb⟩
   refine⟨bb,_,[],rfl,rd_nil,?_⟩
   clear bb S
   refine RW.t (i:=1) (v:=.bool true) (some 59) at1 (hy:=fun _ _=>by kernel_rfl) (h:=?_)
   refine RW.t (i:=2) (v:=.pointer (some ⟨g_m,0,none⟩)) (some 60) at2 (hy:=fun _ _=>by kernel_rfl) (h:=?_)
   refine RW.t (i:=3) (v:=.agg #[.bool (ng vma.num),.slice A31 n31 c31,.slice D31 m31 d31]) (some 61) at3 (hy:=fun W hS=>by (have k0:=Cb.cell (i:=0) hS.1 rfl;have k1:=Cb.cell (i:=1) hS.1 rfl;have k2:=Cb.cell (i:=2) hS.1 rfl;clear hS;go_simp)) (h:=?_)
   refine RW.t (i:=4) (v:=.slice (some ⟨gl,0,none⟩) 4 cap) (some 62) at4 (hy:=fun _ _=>by kernel_rfl) (h:=?_)
   refine RW.c (i:=5) (args:=#[.agg #[.bool (ng vma.num),.slice A31 n31 c31,.slice D31 m31 d31],.slice (some ⟨gl,0,none⟩) 4 cap]) (some 63) hzk.out at5 (hx:=fun _=>by kernel_rfl) (h:=fun _ S=>(hA0.out _ _ _ _ _ _ _ (Lq.of (S.cb 4 rfl) htk.out (atc ⟨S.r 0 rfl,S.r 1 rfl⟩ (atc ⟨S.r 2 rfl,S.r 3 rfl⟩ (atc ⟨S.r 4 rfl,S.r 5 rfl⟩ (atc ⟨S.r 6 rfl,S.r 7 rfl⟩ atn))))) ⟨S.r 15 rfl,S.r 14 rfl⟩).mono ?_)
   rintro e w40 ⟨rfl,bb⟩
   refine⟨bb,_,[],rfl,rd_nil,?_⟩
   clear bb S
   refine RW.t (i:=6) (v:=.bool true) (some 64) at6 (hy:=fun _ _=>by kernel_rfl) (h:=?_)
   refine RW.t (i:=7) (v:=.bool true) (some 65) at7 (hy:=fun _ _=>by kernel_rfl) (h:=?_)
   refine RW.t (i:=8) (v:=.pointer (some ⟨g_m,3,none⟩)) (some 66) at8 (hy:=fun _ _=>by kernel_rfl) (h:=?_)
   refine RW.t (i:=9) (v:=.agg #[.bool (ng vmb.num),.slice A32 n32 c32,.slice D32 m32 d32]) (some 67) at9 (hy:=fun W hS=>by (have k3:=Cb.cell (i:=3) hS.1 rfl;have k4:=Cb.cell (i:=4) hS.1 rfl;have k5:=Cb.cell (i:=5) hS.1 rfl;clear hS;go_simp)) (h:=?_)
   refine RW.t (i:=10) (v:=.slice (some ⟨gl,0,none⟩) 4 cap) (some 68) at10 (hy:=fun _ _=>by kernel_rfl) (h:=?_)
   refine RW.c (i:=11) (args:=#[.agg #[.bool (ng vmb.num),.slice A32 n32 c32,.slice D32 m32 d32],.slice (some ⟨gl,0,none⟩) 4 cap]) (some 69) hzk.out at11 (hx:=fun _=>by kernel_rfl) (h:=fun _ S=>(hA1.out _ _ _ _ _ _ _ (Lq.of (S.cb 4 rfl) htk.out (atc ⟨S.r 0 rfl,S.r 1 rfl⟩ (atc ⟨S.r 2 rfl,S.r 3 rfl⟩ (atc ⟨S.r 4 rfl,S.r 5 rfl⟩ (atc ⟨S.r 6 rfl,S.r 7 rfl⟩ atn))))) ⟨S.r 13 rfl,S.r 12 rfl⟩).mono ?_)
   rintro e w41 ⟨rfl,bb⟩
   refine⟨bb,_,[],rfl,rd_nil,?_⟩
   clear bb S
   refine RW.t (i:=12) (v:=.bool true) (some 70) at12 (hy:=fun _ _=>by kernel_rfl) (h:=?_)
   refine RW.t (i:=13) (v:=.bool true) (some 71) at13 (hy:=fun _ _=>by kernel_rfl) (h:=?_)
   refine RW.t (i:=14) (v:=.pointer (some ⟨g_s,3,none⟩)) (some 72) at14 (hy:=fun _ _=>by kernel_rfl) (h:=?_)
   refine RW.t (i:=15) (v:=.agg #[.bool (ng vsb.num),.slice A34 n34 c34,.slice D34 m34 d34]) (some 73) at15 (hy:=fun W hS=>by (have k3:=Cb.cell (i:=3) hS.2.1 rfl;have k4:=Cb.cell (i:=4) hS.2.1 rfl;have k5:=Cb.cell (i:=5) hS.2.1 rfl;clear hS;go_simp)) (h:=?_)
   refine RW.t (i:=16) (v:=.pointer (some ⟨w.heap.size,0,none⟩)) (some 74) at16 (hy:=fun _ _=>by kernel_rfl) (h:=?_)
   refine RW.t (i:=17) (v:=.agg #[.bool b1,.slice A1 n1 c1,.slice D1 m1 d1]) (some 75) at17 (hy:=fun W hS=>by (have k0:=Cb.cell (i:=0) hS.2.2 rfl;have k1:=Cb.cell (i:=1) hS.2.2 rfl;have k2:=Cb.cell (i:=2) hS.2.2 rfl;clear hS;go_simp)) (h:=?_)
   refine RW.t (i:=18) (v:=.pointer (some ⟨w.heap.size,0,none⟩)) (some 76) at18 (hy:=fun _ _=>by kernel_rfl) (h:=?_)
   refine RW.t (i:=19) (v:=.agg #[.bool b1,.slice A1 n1 c1,.slice D1 m1 d1]) (some 77) at19 (hy:=fun W hS=>by (have k0:=Cb.cell (i:=0) hS.2.2 rfl;have k1:=Cb.cell (i:=1) hS.2.2 rfl;have k2:=Cb.cell (i:=2) hS.2.2 rfl;clear hS;go_simp)) (h:=?_)
   refine RW.t (i:=21) (v:=.pointer (some ⟨w.heap.size,3,none⟩)) (some 79) at21 (hy:=fun _ _=>by kernel_rfl) (h:=?_)
   refine RW.t (i:=22) (v:=.agg #[.bool b2,.slice A2 n2 c2,.slice D2 m2 d2]) (some 80) at22 (hy:=fun W hS=>by (have k3:=Cb.cell (i:=3) hS.2.2 rfl;have k4:=Cb.cell (i:=4) hS.2.2 rfl;have k5:=Cb.cell (i:=5) hS.2.2 rfl;clear hS;go_simp)) (h:=?_)
   refine RW.t (i:=23) (v:=.pointer (some ⟨w.heap.size,3,none⟩)) (some 81) at23 (hy:=fun _ _=>by kernel_rfl) (h:=?_)
   refine RW.t (i:=24) (v:=.agg #[.bool b2,.slice A2 n2 c2,.slice D2 m2 d2]) (some 82) at24 (hy:=fun W hS=>by (have k3:=Cb.cell (i:=3) hS.2.2 rfl;have k4:=Cb.cell (i:=4) hS.2.2 rfl;have k5:=Cb.cell (i:=5) hS.2.2 rfl;clear hS;go_simp)) (h:=?_)
   refine RW.c (i:=20) (args:=#[.agg #[.bool b1,.slice A1 n1 c1,.slice D1 m1 d1],.agg #[.bool b1,.slice A1 n1 c1,.slice D1 m1 d1]]) (some 78) hzk.out at20 (hx:=fun _=>by kernel_rfl) (h:=fun _ S=>(hT0.out _ (Rw.of (S.r 23 rfl) (S.r 22 rfl) k1.out) (Rw.of (S.r 23 rfl) (S.r 22 rfl) k1.out)).mono ?_)
   rintro e w42 ⟨A60,n60,c60,D60,m60,d60,rfl,Q60,bb⟩
   refine⟨bb,_,[(D60,m60,d60,dn vta),(A60,n60,c60,limbs vta.num.natAbs)],rfl,(rd_cons Q60.d (rd_cons Q60.n rd_nil)),?_⟩
   clear bb S Q60
   refine RW.c (i:=25) (args:=#[.agg #[.bool b2,.slice A2 n2 c2,.slice D2 m2 d2],.agg #[.bool b2,.slice A2 n2 c2,.slice D2 m2 d2]]) (some 83) hzk.out at25 (hx:=fun _=>by kernel_rfl) (h:=fun _ S=>(hT1.out _ (Rw.of (S.r 23 rfl) (S.r 22 rfl) k2.out) (Rw.of (S.r 23 rfl) (S.r 22 rfl) k2.out)).mono ?_)
   rintro e w43 ⟨A61,n61,c61,D61,m61,d61,rfl,Q61,bb⟩
   refine⟨bb,_,[(D61,m61,d61,dn vtb),(A61,n61,c61,limbs vtb.num.natAbs)],rfl,(rd_cons Q61.d (rd_cons Q61.n rd_nil)),?_⟩
   clear bb S Q61
   refine RW.blk (i:=26) (cs:=#[.bool (ng vta.num),.slice A60 n60 c60,.slice D60 m60 d60,.bool (ng vtb.num),.slice A61 n61 c61,.slice D61 m61 d61]) (t:=26) (k:=2) (some 84) hzk.out at26 rfl (by kernel_rfl) (by kernel_rfl) (fun _=>by kernel_rfl) (noL6 _ _ _ _ _ _ _ _ _ _ _ _ _ _) ?_
   clear hzk
   intro g_L26 hzk
   refine RW.c (i:=27) (args:=#[.agg #[.bool (ng vsb.num),.slice A34 n34 c34,.slice D34 m34 d34],.slice (some ⟨g_L26,0,none⟩) 2 2]) (some 85) hzk.out at27 (hx:=fun _=>by kernel_rfl) (h:=fun _ S=>(hA2.out _ _ _ _ _ _ _ _ _ _ _ _ _ _ _ _ _ _ _ _ (Lq.of (S.cb 0 rfl) rfl (atc ⟨S.r 3 rfl,S.r 2 rfl⟩ (atc ⟨S.r 1 rfl,S.r 0 rfl⟩ atn))) ⟨S.r 13 rfl,S.r 12 rfl⟩).mono ?_)
   rintro e w44 ⟨rfl,bb⟩
   refine⟨bb,_,[],rfl,rd_nil,?_⟩
   clear bb S
   refine RW.t (i:=28) (v:=.bool true) (some 86) at28 (hy:=fun _ _=>by kernel_rfl) (h:=?_)
   refine RW.t (i:=29) (v:=.bool true) (some 87) at29 (hy:=fun _ _=>by kernel_rfl) (h:=?_)
   refine RW.t (i:=30) (v:=.pointer (some ⟨g_s,0,none⟩)) (some 88) at30 (hy:=fun _ _=>by kernel_rfl) (h:=?_)
   refine RW.t (i:=31) (v:=.agg #[.bool (ng vsa.num),.slice A33 n33 c33,.slice D33 m33 d33]) (some 89) at31 (hy:=fun W hS=>by (have k0:=Cb.cell (i:=0) hS.2.1 rfl;have k1:=Cb.cell (i:=1) hS.2.1 rfl;have k2:=Cb.cell (i:=2) hS.2.1 rfl;clear hS;go_simp)) (h:=?_)
   refine RW.t (i:=34) (v:=.agg #[.bool b1,.slice A1 n1 c1,.slice D1 m1 d1,.bool b2,.slice A2 n2 c2,.slice D2 m2 d2]) (some 92) at34 (hy:=fun W hS=>by (obtain⟨k0,k1,k2,k3,k4,k5⟩:=Cb.c6 hS.2.2;clear hS;go_simp)) (h:=?_)
   refine RW.t (i:=35) (v:=.agg #[.bool false,.slice none 0 0,.slice none 0 0]) (some 93) at35 (hy:=fun _ _=>by kernel_rfl) (h:=?_)
   refine RW.c (i:=32) (args:=#[.agg #[.bool (ng vsa.num),.slice A33 n33 c33,.slice D33 m33 d33]]) (some 90) hzk.out at32 (hx:=fun _=>by kernel_rfl) (h:=fun _ S=>(hSg.out _ _ _ _ _ _ _ ⟨S.r 15 rfl,S.r 14 rfl⟩).mono ?_)
   rintro e w45 ⟨rfl,bb⟩
   refine⟨bb,_,[],rfl,rd_nil,?_⟩
   clear bb S
   refine RW.t (i:=33) (v:=.bool cv) (some 91) at33 (hy:=fun _ _=>by go_simp) (h:=?_)
   refine RW.c (i:=36) (args:=#[.agg #[.bool b1,.slice A1 n1 c1,.slice D1 m1 d1,.bool b2,.slice A2 n2 c2,.slice D2 m2 d2],.agg #[.bool false,.slice none 0 0,.slice none 0 0]]) (some 94) hzk.out at36 (hx:=fun _=>by kernel_rfl) (h:=fun _ S=>(hCo.out _ (Rw.of (S.r 27 rfl) (S.r 26 rfl) k1.out) (Rw.of (S.r 25 rfl) (S.r 24 rfl) k2.out)).mono ?_)
   rintro e w46 ⟨rfl,bb⟩
   refine⟨bb,_,[],rfl,rd_nil,?_⟩
   clear bb S
   refine RW.t (i:=37) (v:=.bool true) (some 95) at37 (hy:=fun _ _=>by go_simp) (h:=?_)
   refine RW.t (i:=38) (v:=.bool true) (some 96) at38 (hy:=fun _ _=>by kernel_rfl) (h:=?_)
   refine RW.tail hzk.out (by kernel_rfl) ?_
   intro gs w47 hgs hS S
   obtain rfl:=len0 hgs
   clear hS hgs hzk
   simp only[mark,fill,Act.put,List.setIfInBounds_toArray,List.set_cons_zero,List.set_cons_succ]
   replace S:=Lib.hid S
   refine Wk.o (i:=39) at39 (by kernel_rfl) fun K' hK=>?_
   go_simp
   have SN:=S.out
   clear S
   have S:=SN
   clear SN
   refine hK.out _ _ ⟨(S.cb 1 rfl),(S.cb 2 rfl),(S.cb 4 rfl)⟩ ?_
   clear hK K'
   replace S:=Lib.hid S
   try simp only[Act.put,List.setIfInBounds_toArray,List.set_cons_zero,List.set_cons_succ]
   refine Wk.done (by kernel_rfl) ?_
   go_simp
   replace S:=S.out
   have S:St w _ [(g_L26,#[.bool (ng vta.num),.slice A60 n60 c60,.slice D60 m60 d60,.bool (ng vtb.num),.slice A61 n61 c61,.slice D61 m61 d61],26),(g_m,#[.bool (ng vma.num),.slice A31 n31 c31,.slice D31 m31 d31,.bool (ng vmb.num),.slice A32 n32 c32,.slice D32 m32 d32],28),(g_s,#[.bool (ng vsa.num),.slice A33 n33 c33,.slice D33 m33 d33,.bool (ng vsb.num),.slice A34 n34 c34,.slice D34 m34 d34],28),(w.heap.size+1,#[.bool b3,.slice A3 n3 c3,.slice D3 m3 d3,.bool b4,.slice A4 n4 c4,.slice D4 m4 d4],28),(w.heap.size,#[.bool b1,.slice A1 n1 c1,.slice D1 m1 d1,.bool b2,.slice A2 n2 c2,.slice D2 m2 d2],28),(gl,cur,26)] [(D61,m61,d61,dn vtb),(A61,n61,c61,limbs vtb.num.natAbs),(D60,m60,d60,dn vta),(A60,n60,c60,limbs vta.num.natAbs),(A50,n50,c50,limbs z50.num.natAbs),(D50,m50,d50,dn z50),(A51,n51,c51,limbs z51.num.natAbs),(D51,m51,d51,dn z51),(A52,n52,c52,limbs z52.num.natAbs),(D52,m52,d52,dn z52),(A53,n53,c53,limbs z53.num.natAbs),(D53,m53,d53,dn z53),(D34,m34,d34,dn vsb),(A34,n34,c34,limbs vsb.num.natAbs),(D33,m33,d33,dn vsa),(A33,n33,c33,limbs vsa.num.natAbs),(D32,m32,d32,dn vmb),(A32,n32,c32,limbs vmb.num.natAbs),(D31,m31,d31,dn vma),(A31,n31,c31,limbs vma.num.natAbs),(D4,m4,d4,y4),(A4,n4,c4,x4),(D3,m3,d3,y3),(A3,n3,c3,x3),(D2,m2,d2,y2),(A2,n2,c2,x2),(D1,m1,d1,y1),(A1,n1,c1,x1)]:=S
   replace S:=Lib.hid S
   replace S:=S.out
   replace S:=Lib.hid S
   have S:=S.out
   replace S:=Lib.hid S
   go_wp2
   go_ret
   exact⟨rfl,S.out.bel⟩
end Go.Proofs.YtphckmdnflbloaaGreat
