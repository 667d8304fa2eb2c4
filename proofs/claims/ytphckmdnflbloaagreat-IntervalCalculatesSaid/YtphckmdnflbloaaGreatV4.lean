/- The law IntervalCalculates. -/
import Derived.Test.YtphckmdnflbloaaGreatV2
import Derived.Test.YtphckmdnflbloaaGreatV3
import Derived.Test.YtphckmdnflbloaaGreatVi
namespace Go.Proofs.YtphckmdnflbloaaGreat
open Go.RowKit RQ
theorem minL_congr {l l':List Rat} (h:l≠[]) (h':l'≠[]) (e:∀ y,y∈l↔y∈l'):minL l=minL l'∧maxL l=maxL l':=
 ⟨Rat.le_antisymm (minL_le ((e _).2 (minL_mem h'))) (minL_le ((e _).1 (minL_mem h))),Rat.le_antisymm (le_maxL ((e _).1 (maxL_mem h))) (le_maxL ((e _).2 (maxL_mem h')))⟩
theorem div_lists (a b c d:Rat):minL [a / c,a / d,b / c,b / d]=minL (mulL a b d⁻¹ c⁻¹)∧maxL [a / c,a / d,b / c,b / d]=maxL (mulL a b d⁻¹ c⁻¹):=by
 simp only[Rat.div_def,mulL]
 refine minL_congr (by simp) (by simp) fun y=>?_
 simp only[List.mem_cons,List.not_mem_nil,or_false]
 constructor
 ·rintro (h | h | h | h)<;>simp[h]
 ·rintro (h | h | h | h)<;>simp[h]
def dvLo (a b c d:Rat):Rat:=if klo c d≤0∧0≤khi c d then 0 else minL (mulL (klo a b) (khi a b) d⁻¹ c⁻¹)
def dvHi (a b c d:Rat):Rat:=if klo c d≤0∧0≤khi c d then 0 else maxL (mulL (klo a b) (khi a b) d⁻¹ c⁻¹)
def dvErr (c d:Rat):Int:=if klo c d≤0∧0≤khi c d then 5 else 0
theorem idiv_any (b1:Bool) (A1:Option Addr) (n1 c1:Nat) (x1:List Nat) (D1:Option Addr) (m1 d1:Nat) (y1:List Nat) (q1:Rat) (b2:Bool) (A2:Option Addr) (n2 c2:Nat) (x2:List Nat) (D2:Option Addr) (m2 d2:Nat) (y2:List Nat) (q2:Rat) (b3:Bool) (A3:Option Addr) (n3 c3:Nat) (x3:List Nat) (D3:Option Addr) (m3 d3:Nat) (y3:List Nat) (q3:Rat) (b4:Bool) (A4:Option Addr) (n4 c4:Nat) (x4:List Nat) (D4:Option Addr) (m4 d4:Nat) (y4:List Nat) (q4:Rat) (s1:Rs q1 19) (s2:Rs q2 19) (s3:Rs q3 19) (s4:Rs q4 19) (w:World) (X1:Rw w b1 A1 n1 c1 x1 D1 m1 d1 y1 q1) (X2:Rw w b2 A2 n2 c2 x2 D2 m2 d2 y2 q2) (X3:Rw w b3 A3 n3 c3 x3 D3 m3 d3 y3 q3) (X4:Rw w b4 A4 n4 c4 x4 D4 m4 d4 y4 q4):Calls Tryz.prog 16 #[.agg #[.bool b1,.slice A1 n1 c1,.slice D1 m1 d1,.bool b2,.slice A2 n2 c2,.slice D2 m2 d2],.agg #[.bool b3,.slice A3 n3 c3,.slice D3 m3 d3,.bool b4,.slice A4 n4 c4,.slice D4 m4 d4]] w (RetVE (dvLo q1 q2 q3 q4) (dvHi q1 q2 q3 q4) (.int .i64 (dvErr q3 q4)) w):=by
 unfold dvLo dvHi dvErr
 by_cases hz:klo q3 q4≤0∧0≤khi q3 q4
 ·rw[if_pos hz,if_pos hz,if_pos hz];exact idiv_no b1 A1 n1 c1 x1 D1 m1 d1 y1 q1 b2 A2 n2 c2 x2 D2 m2 d2 y2 q2 b3 A3 n3 c3 x3 D3 m3 d3 y3 q3 b4 A4 n4 c4 x4 D4 m4 d4 y4 q4 hz w X1 X2 X3 X4
 ·rw[if_neg hz,if_neg hz,if_neg hz]
  exact idiv_yes b1 A1 n1 c1 x1 D1 m1 d1 y1 q1 b2 A2 n2 c2 x2 D2 m2 d2 y2 q2 b3 A3 n3 c3 x3 D3 m3 d3 y3 q3 b4 A4 n4 c4 x4 D4 m4 d4 y4 q4 hz s1 s2 s3 s4 w X1 X2 X3 X4
theorem rdivV_any (b1:Bool) (A1:Option Addr) (n1 c1:Nat) (x1:List Nat) (D1:Option Addr) (m1 d1:Nat) (y1:List Nat) (q1:Rat) (b2:Bool) (A2:Option Addr) (n2 c2:Nat) (x2:List Nat) (D2:Option Addr) (m2 d2:Nat) (y2:List Nat) (q2:Rat) (b3:Bool) (A3:Option Addr) (n3 c3:Nat) (x3:List Nat) (D3:Option Addr) (m3 d3:Nat) (y3:List Nat) (q3:Rat) (b4:Bool) (A4:Option Addr) (n4 c4:Nat) (x4:List Nat) (D4:Option Addr) (m4 d4:Nat) (y4:List Nat) (q4:Rat) (s1:Rs q1 19) (s2:Rs q2 19) (s3:Rs q3 19) (s4:Rs q4 19) (w:World) (X1:Rw w b1 A1 n1 c1 x1 D1 m1 d1 y1 q1) (X2:Rw w b2 A2 n2 c2 x2 D2 m2 d2 y2 q2) (X3:Rw w b3 A3 n3 c3 x3 D3 m3 d3 y3 q3) (X4:Rw w b4 A4 n4 c4 x4 D4 m4 d4 y4 q4):Calls Tryz.prog 17 #[.agg #[.bool b1,.slice A1 n1 c1,.slice D1 m1 d1,.bool b2,.slice A2 n2 c2,.slice D2 m2 d2],.agg #[.bool b3,.slice A3 n3 c3,.slice D3 m3 d3,.bool b4,.slice A4 n4 c4,.slice D4 m4 d4]] w (RetVE (dvLo q1 q2 q3 q4) (dvHi q1 q2 q3 q4) (.int .i64 (dvErr q3 q4)) w):=by
 unfold dvLo dvHi dvErr
 by_cases hz:klo q3 q4≤0∧0≤khi q3 q4
 ·rw[if_pos hz,if_pos hz,if_pos hz];exact rdivV_no b1 A1 n1 c1 x1 D1 m1 d1 y1 q1 b2 A2 n2 c2 x2 D2 m2 d2 y2 q2 b3 A3 n3 c3 x3 D3 m3 d3 y3 q3 b4 A4 n4 c4 x4 D4 m4 d4 y4 q4 hz s1 s2 s3 s4 w X1 X2 X3 X4
 ·rw[if_neg hz,if_neg hz,if_neg hz]
  obtain⟨ho,_⟩:=div_ok hz
  have:=rdivV_yes b1 A1 n1 c1 x1 D1 m1 d1 y1 q1 b2 A2 n2 c2 x2 D2 m2 d2 y2 q2 b3 A3 n3 c3 x3 D3 m3 d3 y3 q3 b4 A4 n4 c4 x4 D4 m4 d4 y4 q4 hz s1 s2 s3 s4 w X1 X2 X3 X4
  rw[(div_lists _ _ _ _).1,(div_lists _ _ _ _).2,show klo q3 q4=q3 from if_neg (Rat.not_lt.2 ho),show khi q3 q4=q4 from if_neg (Rat.not_lt.2 ho)] at this
  exact this
set_option maxRecDepth 100000 in
set_option maxHeartbeats 16000000 in
theorem law_ca (b1:Bool) (A1:Option Addr) (n1 c1:Nat) (x1:List Nat) (D1:Option Addr) (m1 d1:Nat) (y1:List Nat) (b2:Bool) (A2:Option Addr) (n2 c2:Nat) (x2:List Nat) (D2:Option Addr) (m2 d2:Nat) (y2:List Nat) (b3:Bool) (A3:Option Addr) (n3 c3:Nat) (x3:List Nat) (D3:Option Addr) (m3 d3:Nat) (y3:List Nat) (b4:Bool) (A4:Option Addr) (n4 c4:Nat) (x4:List Nat) (D4:Option Addr) (m4 d4:Nat) (y4:List Nat) (w:World) (R1:Rd w A1 n1 c1 x1) (M1:n1≤9223372036854775807) (D1':Rd w D1 m1 d1 y1) (N1:m1≤9223372036854775807) (R2:Rd w A2 n2 c2 x2) (M2:n2≤9223372036854775807) (D2':Rd w D2 m2 d2 y2) (N2:m2≤9223372036854775807) (R3:Rd w A3 n3 c3 x3) (M3:n3≤9223372036854775807) (D3':Rd w D3 m3 d3 y3) (N3:m3≤9223372036854775807) (R4:Rd w A4 n4 c4 x4) (M4:n4≤9223372036854775807) (D4':Rd w D4 m4 d4 y4) (N4:m4≤9223372036854775807):Calls Tryz.prog 3 #[.agg #[.bool b1,.slice A1 n1 c1,.slice D1 m1 d1,.bool b2,.slice A2 n2 c2,.slice D2 m2 d2],.agg #[.bool b3,.slice A3 n3 c3,.slice D3 m3 d3,.bool b4,.slice A4 n4 c4,.slice D4 m4 d4]] w fun e w'=>e=.returned (.bool true)∧Below w.heap.size w w':=by
 have hA:=Lib.hid (fun W=>awakeV_any W)
 have hL0:=fun W=>light4_any b1 A1 n1 c1 D1 m1 d1 b2 A2 n2 c2 D2 m2 d2 W M1 N1 M2 N2
 have hL1:=fun W=>light4_any b3 A3 n3 c3 D3 m3 d3 b4 A4 n4 c4 D4 m4 d4 W M3 N3 M4 N4
 cases l0:(lightB n1 m1&&lightB n2 m2)
 ·rw[l0] at hL0
  replace hL0:=Lib.hid hL0
  clear hL1
  clear l0
  have S:=(((((((((((St.new w).read R1).read D1').read R2).read D2').read R3).read D3').read R4).read D4').allocAt (w.heap.size) #[.bool b1,.slice A1 n1 c1,.slice D1 m1 d1,.bool b2,.slice A2 n2 c2,.slice D2 m2 d2] 28 (noL6 _ _ _ _ _ _ _ _ _ _ _ _ _ _) (by simp)).allocAt (w.heap.size+1) #[.bool b3,.slice A3 n3 c3,.slice D3 m3 d3,.bool b4,.slice A4 n4 c4,.slice D4 m4 d4] 28 (noL6 _ _ _ _ _ _ _ _ _ _ _ _ _ _) (by simp))
  replace S:=Lib.hid S
  clear R1 M1 D1' N1 R2 M2 D2' N2 R3 M3 D3' N3 R4 M4 D4' N4
  go_enter Tryz.func3,Tryz.ntmps3
  go_wp2_with fail
  refine (hL0.out _).mono ?_
  rintro e w1 ⟨rfl,bb⟩
  have T:=(S.out.call bb)
  clear bb S
  have S:=T
  clear T
  obtain⟨c_b0,c_b1,c_b2,c_b3,c_b4,c_b5⟩:=S.c6 0 rfl
  obtain⟨c_a0,c_a1,c_a2,c_a3,c_a4,c_a5⟩:=S.c6 1 rfl
  have hz:w.heap.size+1<w1.heap.size:=S.lt 0 rfl
  replace S:=Lib.hid S
  clear hL0
  go_wp2_with fail
  refine (hA.out _).mono ?_
  rintro e w2 ⟨rfl,bb⟩
  have T:=(S.out.call bb)
  clear bb S c_b0 c_b1 c_b2 c_b3 c_b4 c_b5 c_a0 c_a1 c_a2 c_a3 c_a4 c_a5 hz
  have S:=T
  clear T
  obtain⟨c_b0,c_b1,c_b2,c_b3,c_b4,c_b5⟩:=S.c6 0 rfl
  obtain⟨c_a0,c_a1,c_a2,c_a3,c_a4,c_a5⟩:=S.c6 1 rfl
  have hz:w.heap.size+1<w2.heap.size:=S.lt 0 rfl
  replace S:=Lib.hid S
  have S:=S.out
  replace S:=Lib.hid S
  go_wp2
  go_ret
  exact⟨rfl,S.out.bel⟩
 rw[l0] at hL0
 cases l1:(lightB n3 m3&&lightB n4 m4)
 ·rw[l1] at hL1
  replace hL0:=Lib.hid hL0
  replace hL1:=Lib.hid hL1
  clear l0 l1
  have S:=(((((((((((St.new w).read R1).read D1').read R2).read D2').read R3).read D3').read R4).read D4').allocAt (w.heap.size) #[.bool b1,.slice A1 n1 c1,.slice D1 m1 d1,.bool b2,.slice A2 n2 c2,.slice D2 m2 d2] 28 (noL6 _ _ _ _ _ _ _ _ _ _ _ _ _ _) (by simp)).allocAt (w.heap.size+1) #[.bool b3,.slice A3 n3 c3,.slice D3 m3 d3,.bool b4,.slice A4 n4 c4,.slice D4 m4 d4] 28 (noL6 _ _ _ _ _ _ _ _ _ _ _ _ _ _) (by simp))
  replace S:=Lib.hid S
  clear R1 M1 D1' N1 R2 M2 D2' N2 R3 M3 D3' N3 R4 M4 D4' N4
  go_enter Tryz.func3,Tryz.ntmps3
  go_wp2_with fail
  refine (hL0.out _).mono ?_
  rintro e w1 ⟨rfl,bb⟩
  have T:=(S.out.call bb)
  clear bb S
  have S:=T
  clear T
  obtain⟨c_b0,c_b1,c_b2,c_b3,c_b4,c_b5⟩:=S.c6 0 rfl
  obtain⟨c_a0,c_a1,c_a2,c_a3,c_a4,c_a5⟩:=S.c6 1 rfl
  have hz:w.heap.size+1<w1.heap.size:=S.lt 0 rfl
  replace S:=Lib.hid S
  clear hL0
  go_wp2_with fail
  refine (hL1.out _).mono ?_
  rintro e w2 ⟨rfl,bb⟩
  have T:=(S.out.call bb)
  clear bb S c_b0 c_b1 c_b2 c_b3 c_b4 c_b5 c_a0 c_a1 c_a2 c_a3 c_a4 c_a5 hz
  have S:=T
  clear T
  obtain⟨c_b0,c_b1,c_b2,c_b3,c_b4,c_b5⟩:=S.c6 0 rfl
  obtain⟨c_a0,c_a1,c_a2,c_a3,c_a4,c_a5⟩:=S.c6 1 rfl
  have hz:w.heap.size+1<w2.heap.size:=S.lt 0 rfl
  replace S:=Lib.hid S
  clear hL1
  go_wp2_with fail
  refine (hA.out _).mono ?_
  rintro e w3 ⟨rfl,bb⟩
  have T:=(S.out.call bb)
  clear bb S c_b0 c_b1 c_b2 c_b3 c_b4 c_b5 c_a0 c_a1 c_a2 c_a3 c_a4 c_a5 hz
  have S:=T
  clear T
  obtain⟨c_b0,c_b1,c_b2,c_b3,c_b4,c_b5⟩:=S.c6 0 rfl
  obtain⟨c_a0,c_a1,c_a2,c_a3,c_a4,c_a5⟩:=S.c6 1 rfl
  have hz:w.heap.size+1<w3.heap.size:=S.lt 0 rfl
  replace S:=Lib.hid S
  have S:=S.out
  replace S:=Lib.hid S
  go_wp2
  go_ret
  exact⟨rfl,S.out.bel⟩
 rw[l1] at hL1
 rw[Bool.and_eq_true] at l0 l1
 obtain⟨g1,g2⟩:=l0
 obtain⟨g3,g4⟩:=l1
 obtain⟨q1,X1,s1⟩:∃ q,Rw w b1 A1 n1 c1 x1 D1 m1 d1 y1 q∧Rs q 8:=⟨rv b1 x1 y1,⟨R1,D1',rfl,by have:=light_8 g1;omega,by have:=light_8 g1;omega⟩,rs_light R1 D1' g1⟩
 obtain⟨q2,X2,s2⟩:∃ q,Rw w b2 A2 n2 c2 x2 D2 m2 d2 y2 q∧Rs q 8:=⟨rv b2 x2 y2,⟨R2,D2',rfl,by have:=light_8 g2;omega,by have:=light_8 g2;omega⟩,rs_light R2 D2' g2⟩
 obtain⟨q3,X3,s3⟩:∃ q,Rw w b3 A3 n3 c3 x3 D3 m3 d3 y3 q∧Rs q 8:=⟨rv b3 x3 y3,⟨R3,D3',rfl,by have:=light_8 g3;omega,by have:=light_8 g3;omega⟩,rs_light R3 D3' g3⟩
 obtain⟨q4,X4,s4⟩:∃ q,Rw w b4 A4 n4 c4 x4 D4 m4 d4 y4 q∧Rs q 8:=⟨rv b4 x4 y4,⟨R4,D4',rfl,by have:=light_8 g4;omega,by have:=light_8 g4;omega⟩,rs_light R4 D4' g4⟩
 clear g1 g2 g3 g4 R1 M1 D1' N1 R2 M2 D2' N2 R3 M3 D3' N3 R4 M4 D4' N4
 replace hL0:=Lib.hid hL0
 replace hL1:=Lib.hid hL1
 have hD1:=fun W h0 h1 h2 h3=>idiv_any b1 A1 n1 c1 x1 D1 m1 d1 y1 q1 b2 A2 n2 c2 x2 D2 m2 d2 y2 q2 b3 A3 n3 c3 x3 D3 m3 d3 y3 q3 b4 A4 n4 c4 x4 D4 m4 d4 y4 q4 (s1.mono (by decide)) (s2.mono (by decide)) (s3.mono (by decide)) (s4.mono (by decide)) W h0 h1 h2 h3
 have hD2:=fun W h0 h1 h2 h3=>rdivV_any b1 A1 n1 c1 x1 D1 m1 d1 y1 q1 b2 A2 n2 c2 x2 D2 m2 d2 y2 q2 b3 A3 n3 c3 x3 D3 m3 d3 y3 q3 b4 A4 n4 c4 x4 D4 m4 d4 y4 q4 (s1.mono (by decide)) (s2.mono (by decide)) (s3.mono (by decide)) (s4.mono (by decide)) W h0 h1 h2 h3
 have hA1:=fun W h0 h1 h2 h3=>iadd_any b1 A1 n1 c1 x1 D1 m1 d1 y1 q1 b2 A2 n2 c2 x2 D2 m2 d2 y2 q2 b3 A3 n3 c3 x3 D3 m3 d3 y3 q3 b4 A4 n4 c4 x4 D4 m4 d4 y4 q4  W h0 h1 h2 h3
 have hA2:=fun W h0 h1 h2 h3=>raddV_any b1 A1 n1 c1 x1 D1 m1 d1 y1 q1 b2 A2 n2 c2 x2 D2 m2 d2 y2 q2 b3 A3 n3 c3 x3 D3 m3 d3 y3 q3 b4 A4 n4 c4 x4 D4 m4 d4 y4 q4 (s1.mono (by decide)) (s2.mono (by decide)) (s3.mono (by decide)) (s4.mono (by decide)) W h0 h1 h2 h3
 have hS1:=fun W h0 h1 h2 h3=>isub_any b1 A1 n1 c1 x1 D1 m1 d1 y1 q1 b2 A2 n2 c2 x2 D2 m2 d2 y2 q2 b3 A3 n3 c3 x3 D3 m3 d3 y3 q3 b4 A4 n4 c4 x4 D4 m4 d4 y4 q4  W h0 h1 h2 h3
 have hS2:=fun W h0 h1 h2 h3=>rsubV_any b1 A1 n1 c1 x1 D1 m1 d1 y1 q1 b2 A2 n2 c2 x2 D2 m2 d2 y2 q2 b3 A3 n3 c3 x3 D3 m3 d3 y3 q3 b4 A4 n4 c4 x4 D4 m4 d4 y4 q4 (s1.mono (by decide)) (s2.mono (by decide)) (s3.mono (by decide)) (s4.mono (by decide)) W h0 h1 h2 h3
 have hM1:=fun W h0 h1 h2 h3=>imul_any b1 A1 n1 c1 x1 D1 m1 d1 y1 q1 b2 A2 n2 c2 x2 D2 m2 d2 y2 q2 b3 A3 n3 c3 x3 D3 m3 d3 y3 q3 b4 A4 n4 c4 x4 D4 m4 d4 y4 q4 (s1.mono (by decide)) (s2.mono (by decide)) (s3.mono (by decide)) (s4.mono (by decide)) W h0 h1 h2 h3
 have hM2:=fun W h0 h1 h2 h3=>rmulV_any b1 A1 n1 c1 x1 D1 m1 d1 y1 q1 b2 A2 n2 c2 x2 D2 m2 d2 y2 q2 b3 A3 n3 c3 x3 D3 m3 d3 y3 q3 b4 A4 n4 c4 x4 D4 m4 d4 y4 q4 (s1.mono (by decide)) (s2.mono (by decide)) (s3.mono (by decide)) (s4.mono (by decide)) W h0 h1 h2 h3
 have hQ1:=fun W h0 h1=>isquare_any b1 A1 n1 c1 x1 D1 m1 d1 y1 q1 b2 A2 n2 c2 x2 D2 m2 d2 y2 q2 (s1.mono (by decide)) (s2.mono (by decide)) W h0 h1
 have hQ2:=fun W h0 h1=>rsquareV_any b1 A1 n1 c1 x1 D1 m1 d1 y1 q1 b2 A2 n2 c2 x2 D2 m2 d2 y2 q2 (s1.mono (by decide)) (s2.mono (by decide)) W h0 h1
 obtain⟨ka,kb⟩:=k_rsp s1 s2 (by decide)
 obtain⟨kc,kd⟩:=k_rsp s3 s4 (by decide)
 have z16:Rs (0:Rat) 16:=⟨by decide,by decide⟩
 have dl:=mulL_rs ka kb (s4.inv (by decide)) (s3.inv (by decide))
 have rd0:Hid (Rs (dvLo q1 q2 q3 q4) 200):=Lib.hid (by unfold dvLo;split;exact z16.mono (by decide);exact dl.1.mono (by decide))
 have rd1:Hid (Rs (dvHi q1 q2 q3 q4) 200):=Lib.hid (by unfold dvHi;split;exact z16.mono (by decide);exact dl.2.mono (by decide))
 have ra0:=Lib.hid ((ka.add kc).mono (show 8+8+1≤200 by decide))
 have ra1:=Lib.hid ((kb.add kd).mono (show 8+8+1≤200 by decide))
 have rs0:=Lib.hid ((ka.sub kd).mono (show 8+8+1≤200 by decide))
 have rs1:=Lib.hid ((kb.sub kc).mono (show 8+8+1≤200 by decide))
 have rm0:=Lib.hid ((mulL_rs ka kb kc kd).1.mono (show 8+8≤200 by decide))
 have rm1:=Lib.hid ((mulL_rs ka kb kc kd).2.mono (show 8+8≤200 by decide))
 have rq0:=Lib.hid ((sqL_rs ka kb (by decide)).1.mono (show 8+8≤200 by decide))
 have rq1:=Lib.hid ((sqL_rs ka kb (by decide)).2.mono (show 8+8≤200 by decide))
 clear dl ka kb kc kd z16
 generalize dvLo q1 q2 q3 q4=dlo at *
 generalize dvHi q1 q2 q3 q4=dhi at *
 generalize dvErr q3 q4=er at *
 generalize klo q1 q2+klo q3 q4=alo at *
 generalize khi q1 q2+khi q3 q4=ahi at *
 generalize klo q1 q2-khi q3 q4=slo at *
 generalize khi q1 q2-klo q3 q4=shi at *
 generalize minL (mulL (klo q1 q2) (khi q1 q2) (klo q3 q4) (khi q3 q4))=mlo at *
 generalize maxL (mulL (klo q1 q2) (khi q1 q2) (klo q3 q4) (khi q3 q4))=mhi at *
 generalize minL (sqL (klo q1 q2) (khi q1 q2))=qlo at *
 generalize maxL (sqL (klo q1 q2) (khi q1 q2))=qhi at *
 replace hD1:=Lib.hid hD1
 replace hD2:=Lib.hid hD2
 replace hA1:=Lib.hid hA1
 replace hA2:=Lib.hid hA2
 replace hS1:=Lib.hid hS1
 replace hS2:=Lib.hid hS2
 replace hM1:=Lib.hid hM1
 replace hM2:=Lib.hid hM2
 replace hQ1:=Lib.hid hQ1
 replace hQ2:=Lib.hid hQ2
 have k1:=Lib.hid X1.k
 have k2:=Lib.hid X2.k
 have k3:=Lib.hid X3.k
 have k4:=Lib.hid X4.k
 have S:=(((((((((((St.new w).read X1.rn).read X1.rd).read X2.rn).read X2.rd).read X3.rn).read X3.rd).read X4.rn).read X4.rd).allocAt (w.heap.size) #[.bool b1,.slice A1 n1 c1,.slice D1 m1 d1,.bool b2,.slice A2 n2 c2,.slice D2 m2 d2] 28 (noL6 _ _ _ _ _ _ _ _ _ _ _ _ _ _) (by simp)).allocAt (w.heap.size+1) #[.bool b3,.slice A3 n3 c3,.slice D3 m3 d3,.bool b4,.slice A4 n4 c4,.slice D4 m4 d4] 28 (noL6 _ _ _ _ _ _ _ _ _ _ _ _ _ _) (by simp))
 replace S:=Lib.hid S
 clear X1 s1 X2 s2 X3 s3 X4 s4
 go_enter Tryz.func3,Tryz.ntmps3
 go_wp2_with fail
 refine (hL0.out _).mono ?_
 rintro e w1 ⟨rfl,bb⟩
 have T:=(S.out.call bb)
 clear bb S
 have S:=T
 clear T
 obtain⟨c_b0,c_b1,c_b2,c_b3,c_b4,c_b5⟩:=S.c6 0 rfl
 obtain⟨c_a0,c_a1,c_a2,c_a3,c_a4,c_a5⟩:=S.c6 1 rfl
 have hz:w.heap.size+1<w1.heap.size:=S.lt 0 rfl
 replace S:=Lib.hid S
 clear hL0
 go_wp2_with fail
 refine (hL1.out _).mono ?_
 rintro e w2 ⟨rfl,bb⟩
 have T:=(S.out.call bb)
 clear bb S c_b0 c_b1 c_b2 c_b3 c_b4 c_b5 c_a0 c_a1 c_a2 c_a3 c_a4 c_a5 hz
 have S:=T
 clear T
 obtain⟨c_b0,c_b1,c_b2,c_b3,c_b4,c_b5⟩:=S.c6 0 rfl
 obtain⟨c_a0,c_a1,c_a2,c_a3,c_a4,c_a5⟩:=S.c6 1 rfl
 have hz:w.heap.size+1<w2.heap.size:=S.lt 0 rfl
 replace S:=Lib.hid S
 clear hL1
 go_wp2_with fail
 refine (hD1.out _ (Rw.of (S.out.r 7 rfl) (S.out.r 6 rfl) k1.out) (Rw.of (S.out.r 5 rfl) (S.out.r 4 rfl) k2.out) (Rw.of (S.out.r 3 rfl) (S.out.r 2 rfl) k3.out) (Rw.of (S.out.r 1 rfl) (S.out.r 0 rfl) k4.out)).mono ?_
 rintro e w3 ⟨A31,n31,c31,D31,m31,d31,A32,n32,c32,D32,m32,d32,rfl,Q31,Q32,bb⟩
 have T:=(((((S.out.call bb).read Q31.n).read Q31.d).read Q32.n).read Q32.d)
 clear bb S c_b0 c_b1 c_b2 c_b3 c_b4 c_b5 c_a0 c_a1 c_a2 c_a3 c_a4 c_a5 hz
 have S:=T
 clear T
 obtain⟨c_b0,c_b1,c_b2,c_b3,c_b4,c_b5⟩:=S.c6 0 rfl
 obtain⟨c_a0,c_a1,c_a2,c_a3,c_a4,c_a5⟩:=S.c6 1 rfl
 have hz:w.heap.size+1<w3.heap.size:=S.lt 0 rfl
 replace S:=Lib.hid S
 clear Q31 Q32 hD1
 have S:=(S.out.allocAt (w3.heap.size) #[.bool (ng dlo.num),.slice A31 n31 c31,.slice D31 m31 d31,.bool (ng dhi.num),.slice A32 n32 c32,.slice D32 m32 d32] 28 (noL6 _ _ _ _ _ _ _ _ _ _ _ _ _ _) (by simp))
 obtain⟨a_a0,a_a1,a_a2,a_a3,a_a4,a_a5,b_a0,b_a1,b_a2,b_a3,b_a4,b_a5⟩:=S.cf6 2 rfl
 obtain⟨a_b0,a_b1,a_b2,a_b3,a_b4,a_b5,b_b0,b_b1,b_b2,b_b3,b_b4,b_b5⟩:=S.cf6 1 rfl
 replace S:=Lib.hid S
 go_wp2_with fail
 refine (hD2.out _ (Rw.of (S.out.r 11 rfl) (S.out.r 10 rfl) k1.out) (Rw.of (S.out.r 9 rfl) (S.out.r 8 rfl) k2.out) (Rw.of (S.out.r 7 rfl) (S.out.r 6 rfl) k3.out) (Rw.of (S.out.r 5 rfl) (S.out.r 4 rfl) k4.out)).mono ?_
 rintro e w4 ⟨A33,n33,c33,D33,m33,d33,A34,n34,c34,D34,m34,d34,rfl,Q33,Q34,bb⟩
 have T:=(((((S.out.call bb).read Q33.n).read Q33.d).read Q34.n).read Q34.d)
 clear bb S c_b0 c_b1 c_b2 c_b3 c_b4 c_b5 c_a0 c_a1 c_a2 c_a3 c_a4 c_a5 hz a_a0 b_a0 a_a1 b_a1 a_a2 b_a2 a_a3 b_a3 a_a4 b_a4 a_a5 b_a5 a_b0 b_b0 a_b1 b_b1 a_b2 b_b2 a_b3 b_b3 a_b4 b_b4 a_b5 b_b5
 have S:=T
 clear T
 obtain⟨c_x0,c_x1,c_x2,c_x3,c_x4,c_x5⟩:=S.c6 0 rfl
 obtain⟨c_b0,c_b1,c_b2,c_b3,c_b4,c_b5⟩:=S.c6 1 rfl
 obtain⟨c_a0,c_a1,c_a2,c_a3,c_a4,c_a5⟩:=S.c6 2 rfl
 have hz:w3.heap.size<w4.heap.size:=S.lt 0 rfl
 replace S:=Lib.hid S
 clear Q33 Q34 hD2
 go_upto_region 5 with fail
 clear c_x0 c_x1 c_x2 c_x3 c_x4 c_x5 c_b0 c_b1 c_b2 c_b3 c_b4 c_b5 c_a0 c_a1 c_a2 c_a3 c_a4 c_a5 hz
 have S:=(S.out.allocAt (w4.heap.size) #[.bool (ng dlo.num),.slice A33 n33 c33,.slice D33 m33 d33,.bool (ng dhi.num),.slice A34 n34 c34,.slice D34 m34 d34] 28 (noL6 _ _ _ _ _ _ _ _ _ _ _ _ _ _) (by simp))
 generalize hW5:(World.alloc w4 (.cells #[.bool (ng dlo.num),.slice A33 n33 c33,.slice D33 m33 d33,.bool (ng dhi.num),.slice A34 n34 c34,.slice D34 m34 d34] 28))=w5 at S ⊢
 clear hW5
 replace S:=Lib.hid S
 refine RW.begin (Z:=[]) (S:=(fun W=>Cb W (w.heap.size) #[.bool b1,.slice A1 n1 c1,.slice D1 m1 d1,.bool b2,.slice A2 n2 c2,.slice D2 m2 d2] 28∧Cb W (w.heap.size+1) #[.bool b3,.slice A3 n3 c3,.slice D3 m3 d3,.bool b4,.slice A4 n4 c4,.slice D4 m4 d4] 28∧Cb W (w3.heap.size) #[.bool (ng dlo.num),.slice A31 n31 c31,.slice D31 m31 d31,.bool (ng dhi.num),.slice A32 n32 c32,.slice D32 m32 d32] 28∧Cb W (w4.heap.size) #[.bool (ng dlo.num),.slice A33 n33 c33,.slice D33 m33 d33,.bool (ng dhi.num),.slice A34 n34 c34,.slice D34 m34 d34] 28)) (by kernel_rfl) ?_ S.out ?_
 ·exact⟨by kernel_rfl,zis_nil,by decide,by decide,nol_nil,(fun _ _ h=>⟨h.kb 3 rfl,h.kb 2 rfl,h.kb 1 rfl,h.kb 0 rfl⟩)⟩
 intro hzk
 clear S
 refine RW.c (i:=0) (args:=#[]) (some 30) hzk.out at0 (hx:=fun _=>by kernel_rfl) (h:=fun _ S=>(hA.out _).mono ?_)
 rintro e w6 ⟨rfl,bb⟩
 refine⟨bb,_,[],rfl,rd_nil,?_⟩
 clear bb S
 refine RW.t (i:=1) (v:=.bool true) (some 31) at1 (hy:=fun _ _=>by kernel_rfl) (h:=?_)
 refine RW.t (i:=2) (v:=.agg #[.bool b1,.slice A1 n1 c1,.slice D1 m1 d1,.bool b2,.slice A2 n2 c2,.slice D2 m2 d2]) (some 32) at2 (hy:=fun W hS=>by (obtain⟨k0,k1,k2,k3,k4,k5⟩:=Cb.c6 hS.1;clear hS;go_simp)) (h:=?_)
 refine RW.t (i:=3) (v:=.agg #[.bool b3,.slice A3 n3 c3,.slice D3 m3 d3,.bool b4,.slice A4 n4 c4,.slice D4 m4 d4]) (some 33) at3 (hy:=fun W hS=>by (obtain⟨k0,k1,k2,k3,k4,k5⟩:=Cb.c6 hS.2.1;clear hS;go_simp)) (h:=?_)
 refine RW.t (i:=5) (v:=.agg #[.bool b1,.slice A1 n1 c1,.slice D1 m1 d1,.bool b2,.slice A2 n2 c2,.slice D2 m2 d2]) (some 35) at5 (hy:=fun W hS=>by (obtain⟨k0,k1,k2,k3,k4,k5⟩:=Cb.c6 hS.1;clear hS;go_simp)) (h:=?_)
 refine RW.t (i:=6) (v:=.agg #[.bool b3,.slice A3 n3 c3,.slice D3 m3 d3,.bool b4,.slice A4 n4 c4,.slice D4 m4 d4]) (some 36) at6 (hy:=fun W hS=>by (obtain⟨k0,k1,k2,k3,k4,k5⟩:=Cb.c6 hS.2.1;clear hS;go_simp)) (h:=?_)
 refine RW.c (i:=4) (args:=#[.agg #[.bool b1,.slice A1 n1 c1,.slice D1 m1 d1,.bool b2,.slice A2 n2 c2,.slice D2 m2 d2],.agg #[.bool b3,.slice A3 n3 c3,.slice D3 m3 d3,.bool b4,.slice A4 n4 c4,.slice D4 m4 d4]]) (some 34) hzk.out at4 (hx:=fun _=>by kernel_rfl) (h:=fun _ S=>(hA1.out _ (Rw.of (S.r 15 rfl) (S.r 14 rfl) k1.out) (Rw.of (S.r 13 rfl) (S.r 12 rfl) k2.out) (Rw.of (S.r 11 rfl) (S.r 10 rfl) k3.out) (Rw.of (S.r 9 rfl) (S.r 8 rfl) k4.out)).mono ?_)
 rintro e w7 ⟨A41,n41,c41,D41,m41,d41,A42,n42,c42,D42,m42,d42,rfl,Q41,Q42,bb⟩
 refine⟨bb,_,[(D42,m42,d42,dn ahi),(A42,n42,c42,limbs ahi.num.natAbs),(D41,m41,d41,dn alo),(A41,n41,c41,limbs alo.num.natAbs)],rfl,(rd_cons Q42.d (rd_cons Q42.n (rd_cons Q41.d (rd_cons Q41.n rd_nil)))),?_⟩
 clear bb S Q41 Q42
 refine RW.c (i:=7) (args:=#[.agg #[.bool b1,.slice A1 n1 c1,.slice D1 m1 d1,.bool b2,.slice A2 n2 c2,.slice D2 m2 d2],.agg #[.bool b3,.slice A3 n3 c3,.slice D3 m3 d3,.bool b4,.slice A4 n4 c4,.slice D4 m4 d4]]) (some 37) hzk.out at7 (hx:=fun _=>by kernel_rfl) (h:=fun _ S=>(hA2.out _ (Rw.of (S.r 19 rfl) (S.r 18 rfl) k1.out) (Rw.of (S.r 17 rfl) (S.r 16 rfl) k2.out) (Rw.of (S.r 15 rfl) (S.r 14 rfl) k3.out) (Rw.of (S.r 13 rfl) (S.r 12 rfl) k4.out)).mono ?_)
 rintro e w8 ⟨A43,n43,c43,D43,m43,d43,A44,n44,c44,D44,m44,d44,rfl,Q43,Q44,bb⟩
 refine⟨bb,_,[(D44,m44,d44,dn ahi),(A44,n44,c44,limbs ahi.num.natAbs),(D43,m43,d43,dn alo),(A43,n43,c43,limbs alo.num.natAbs)],rfl,(rd_cons Q44.d (rd_cons Q44.n (rd_cons Q43.d (rd_cons Q43.n rd_nil)))),?_⟩
 clear bb S Q43 Q44
 refine RW.c (i:=8) (args:=#[.agg #[.bool (ng alo.num),.slice A41 n41 c41,.slice D41 m41 d41,.bool (ng ahi.num),.slice A42 n42 c42,.slice D42 m42 d42],.agg #[.bool (ng alo.num),.slice A43 n43 c43,.slice D43 m43 d43,.bool (ng ahi.num),.slice A44 n44 c44,.slice D44 m44 d44]]) (some 38) hzk.out at8 (hx:=fun _=>by kernel_rfl) (h:=fun _ S=>(sameV alo ahi ra0.out ra1.out _ _ _ _ _ _ _ _ _ _ _ _ _ _ _ _ _ _ _ _ _ _ _ _ _ ⟨S.r 7 rfl,S.r 6 rfl⟩ ⟨S.r 5 rfl,S.r 4 rfl⟩ ⟨S.r 3 rfl,S.r 2 rfl⟩ ⟨S.r 1 rfl,S.r 0 rfl⟩).mono ?_)
 rintro e w9 ⟨rfl,bb⟩
 refine⟨bb,_,[],rfl,rd_nil,?_⟩
 clear bb S
 refine RW.t (i:=9) (v:=.bool true) (some 39) at9 (hy:=fun _ _=>by kernel_rfl) (h:=?_)
 refine RW.t (i:=10) (v:=.bool true) (some 40) at10 (hy:=fun _ _=>by kernel_rfl) (h:=?_)
 refine RW.t (i:=11) (v:=.agg #[.bool b1,.slice A1 n1 c1,.slice D1 m1 d1,.bool b2,.slice A2 n2 c2,.slice D2 m2 d2]) (some 41) at11 (hy:=fun W hS=>by (obtain⟨k0,k1,k2,k3,k4,k5⟩:=Cb.c6 hS.1;clear hS;go_simp)) (h:=?_)
 refine RW.t (i:=12) (v:=.agg #[.bool b3,.slice A3 n3 c3,.slice D3 m3 d3,.bool b4,.slice A4 n4 c4,.slice D4 m4 d4]) (some 42) at12 (hy:=fun W hS=>by (obtain⟨k0,k1,k2,k3,k4,k5⟩:=Cb.c6 hS.2.1;clear hS;go_simp)) (h:=?_)
 refine RW.t (i:=14) (v:=.agg #[.bool b1,.slice A1 n1 c1,.slice D1 m1 d1,.bool b2,.slice A2 n2 c2,.slice D2 m2 d2]) (some 44) at14 (hy:=fun W hS=>by (obtain⟨k0,k1,k2,k3,k4,k5⟩:=Cb.c6 hS.1;clear hS;go_simp)) (h:=?_)
 refine RW.t (i:=15) (v:=.agg #[.bool b3,.slice A3 n3 c3,.slice D3 m3 d3,.bool b4,.slice A4 n4 c4,.slice D4 m4 d4]) (some 45) at15 (hy:=fun W hS=>by (obtain⟨k0,k1,k2,k3,k4,k5⟩:=Cb.c6 hS.2.1;clear hS;go_simp)) (h:=?_)
 refine RW.c (i:=13) (args:=#[.agg #[.bool b1,.slice A1 n1 c1,.slice D1 m1 d1,.bool b2,.slice A2 n2 c2,.slice D2 m2 d2],.agg #[.bool b3,.slice A3 n3 c3,.slice D3 m3 d3,.bool b4,.slice A4 n4 c4,.slice D4 m4 d4]]) (some 43) hzk.out at13 (hx:=fun _=>by kernel_rfl) (h:=fun _ S=>(hS1.out _ (Rw.of (S.r 23 rfl) (S.r 22 rfl) k1.out) (Rw.of (S.r 21 rfl) (S.r 20 rfl) k2.out) (Rw.of (S.r 19 rfl) (S.r 18 rfl) k3.out) (Rw.of (S.r 17 rfl) (S.r 16 rfl) k4.out)).mono ?_)
 rintro e w10 ⟨A45,n45,c45,D45,m45,d45,A46,n46,c46,D46,m46,d46,rfl,Q45,Q46,bb⟩
 refine⟨bb,_,[(D46,m46,d46,dn shi),(A46,n46,c46,limbs shi.num.natAbs),(D45,m45,d45,dn slo),(A45,n45,c45,limbs slo.num.natAbs)],rfl,(rd_cons Q46.d (rd_cons Q46.n (rd_cons Q45.d (rd_cons Q45.n rd_nil)))),?_⟩
 clear bb S Q45 Q46
 refine RW.c (i:=16) (args:=#[.agg #[.bool b1,.slice A1 n1 c1,.slice D1 m1 d1,.bool b2,.slice A2 n2 c2,.slice D2 m2 d2],.agg #[.bool b3,.slice A3 n3 c3,.slice D3 m3 d3,.bool b4,.slice A4 n4 c4,.slice D4 m4 d4]]) (some 46) hzk.out at16 (hx:=fun _=>by kernel_rfl) (h:=fun _ S=>(hS2.out _ (Rw.of (S.r 27 rfl) (S.r 26 rfl) k1.out) (Rw.of (S.r 25 rfl) (S.r 24 rfl) k2.out) (Rw.of (S.r 23 rfl) (S.r 22 rfl) k3.out) (Rw.of (S.r 21 rfl) (S.r 20 rfl) k4.out)).mono ?_)
 rintro e w11 ⟨A47,n47,c47,D47,m47,d47,A48,n48,c48,D48,m48,d48,rfl,Q47,Q48,bb⟩
 refine⟨bb,_,[(D48,m48,d48,dn shi),(A48,n48,c48,limbs shi.num.natAbs),(D47,m47,d47,dn slo),(A47,n47,c47,limbs slo.num.natAbs)],rfl,(rd_cons Q48.d (rd_cons Q48.n (rd_cons Q47.d (rd_cons Q47.n rd_nil)))),?_⟩
 clear bb S Q47 Q48
 refine RW.c (i:=17) (args:=#[.agg #[.bool (ng slo.num),.slice A45 n45 c45,.slice D45 m45 d45,.bool (ng shi.num),.slice A46 n46 c46,.slice D46 m46 d46],.agg #[.bool (ng slo.num),.slice A47 n47 c47,.slice D47 m47 d47,.bool (ng shi.num),.slice A48 n48 c48,.slice D48 m48 d48]]) (some 47) hzk.out at17 (hx:=fun _=>by kernel_rfl) (h:=fun _ S=>(sameV slo shi rs0.out rs1.out _ _ _ _ _ _ _ _ _ _ _ _ _ _ _ _ _ _ _ _ _ _ _ _ _ ⟨S.r 7 rfl,S.r 6 rfl⟩ ⟨S.r 5 rfl,S.r 4 rfl⟩ ⟨S.r 3 rfl,S.r 2 rfl⟩ ⟨S.r 1 rfl,S.r 0 rfl⟩).mono ?_)
 rintro e w12 ⟨rfl,bb⟩
 refine⟨bb,_,[],rfl,rd_nil,?_⟩
 clear bb S
 refine RW.t (i:=18) (v:=.bool true) (some 48) at18 (hy:=fun _ _=>by kernel_rfl) (h:=?_)
 refine RW.t (i:=19) (v:=.bool true) (some 49) at19 (hy:=fun _ _=>by kernel_rfl) (h:=?_)
 refine RW.t (i:=20) (v:=.agg #[.bool b1,.slice A1 n1 c1,.slice D1 m1 d1,.bool b2,.slice A2 n2 c2,.slice D2 m2 d2]) (some 50) at20 (hy:=fun W hS=>by (obtain⟨k0,k1,k2,k3,k4,k5⟩:=Cb.c6 hS.1;clear hS;go_simp)) (h:=?_)
 refine RW.t (i:=21) (v:=.agg #[.bool b3,.slice A3 n3 c3,.slice D3 m3 d3,.bool b4,.slice A4 n4 c4,.slice D4 m4 d4]) (some 51) at21 (hy:=fun W hS=>by (obtain⟨k0,k1,k2,k3,k4,k5⟩:=Cb.c6 hS.2.1;clear hS;go_simp)) (h:=?_)
 refine RW.t (i:=23) (v:=.agg #[.bool b1,.slice A1 n1 c1,.slice D1 m1 d1,.bool b2,.slice A2 n2 c2,.slice D2 m2 d2]) (some 53) at23 (hy:=fun W hS=>by (obtain⟨k0,k1,k2,k3,k4,k5⟩:=Cb.c6 hS.1;clear hS;go_simp)) (h:=?_)
 refine RW.t (i:=24) (v:=.agg #[.bool b3,.slice A3 n3 c3,.slice D3 m3 d3,.bool b4,.slice A4 n4 c4,.slice D4 m4 d4]) (some 54) at24 (hy:=fun W hS=>by (obtain⟨k0,k1,k2,k3,k4,k5⟩:=Cb.c6 hS.2.1;clear hS;go_simp)) (h:=?_)
 refine RW.c (i:=22) (args:=#[.agg #[.bool b1,.slice A1 n1 c1,.slice D1 m1 d1,.bool b2,.slice A2 n2 c2,.slice D2 m2 d2],.agg #[.bool b3,.slice A3 n3 c3,.slice D3 m3 d3,.bool b4,.slice A4 n4 c4,.slice D4 m4 d4]]) (some 52) hzk.out at22 (hx:=fun _=>by kernel_rfl) (h:=fun _ S=>(hM1.out _ (Rw.of (S.r 31 rfl) (S.r 30 rfl) k1.out) (Rw.of (S.r 29 rfl) (S.r 28 rfl) k2.out) (Rw.of (S.r 27 rfl) (S.r 26 rfl) k3.out) (Rw.of (S.r 25 rfl) (S.r 24 rfl) k4.out)).mono ?_)
 rintro e w13 ⟨A49,n49,c49,D49,m49,d49,A50,n50,c50,D50,m50,d50,rfl,Q49,Q50,bb⟩
 refine⟨bb,_,[(D50,m50,d50,dn mhi),(A50,n50,c50,limbs mhi.num.natAbs),(D49,m49,d49,dn mlo),(A49,n49,c49,limbs mlo.num.natAbs)],rfl,(rd_cons Q50.d (rd_cons Q50.n (rd_cons Q49.d (rd_cons Q49.n rd_nil)))),?_⟩
 clear bb S Q49 Q50
 refine RW.c (i:=25) (args:=#[.agg #[.bool b1,.slice A1 n1 c1,.slice D1 m1 d1,.bool b2,.slice A2 n2 c2,.slice D2 m2 d2],.agg #[.bool b3,.slice A3 n3 c3,.slice D3 m3 d3,.bool b4,.slice A4 n4 c4,.slice D4 m4 d4]]) (some 55) hzk.out at25 (hx:=fun _=>by kernel_rfl) (h:=fun _ S=>(hM2.out _ (Rw.of (S.r 35 rfl) (S.r 34 rfl) k1.out) (Rw.of (S.r 33 rfl) (S.r 32 rfl) k2.out) (Rw.of (S.r 31 rfl) (S.r 30 rfl) k3.out) (Rw.of (S.r 29 rfl) (S.r 28 rfl) k4.out)).mono ?_)
 rintro e w14 ⟨A51,n51,c51,D51,m51,d51,A52,n52,c52,D52,m52,d52,rfl,Q51,Q52,bb⟩
 refine⟨bb,_,[(D52,m52,d52,dn mhi),(A52,n52,c52,limbs mhi.num.natAbs),(D51,m51,d51,dn mlo),(A51,n51,c51,limbs mlo.num.natAbs)],rfl,(rd_cons Q52.d (rd_cons Q52.n (rd_cons Q51.d (rd_cons Q51.n rd_nil)))),?_⟩
 clear bb S Q51 Q52
 refine RW.c (i:=26) (args:=#[.agg #[.bool (ng mlo.num),.slice A49 n49 c49,.slice D49 m49 d49,.bool (ng mhi.num),.slice A50 n50 c50,.slice D50 m50 d50],.agg #[.bool (ng mlo.num),.slice A51 n51 c51,.slice D51 m51 d51,.bool (ng mhi.num),.slice A52 n52 c52,.slice D52 m52 d52]]) (some 56) hzk.out at26 (hx:=fun _=>by kernel_rfl) (h:=fun _ S=>(sameV mlo mhi rm0.out rm1.out _ _ _ _ _ _ _ _ _ _ _ _ _ _ _ _ _ _ _ _ _ _ _ _ _ ⟨S.r 7 rfl,S.r 6 rfl⟩ ⟨S.r 5 rfl,S.r 4 rfl⟩ ⟨S.r 3 rfl,S.r 2 rfl⟩ ⟨S.r 1 rfl,S.r 0 rfl⟩).mono ?_)
 rintro e w15 ⟨rfl,bb⟩
 refine⟨bb,_,[],rfl,rd_nil,?_⟩
 clear bb S
 refine RW.t (i:=27) (v:=.bool true) (some 57) at27 (hy:=fun _ _=>by kernel_rfl) (h:=?_)
 refine RW.t (i:=28) (v:=.bool true) (some 58) at28 (hy:=fun _ _=>by kernel_rfl) (h:=?_)
 refine RW.t (i:=29) (v:=.agg #[.bool (ng dlo.num),.slice A31 n31 c31,.slice D31 m31 d31,.bool (ng dhi.num),.slice A32 n32 c32,.slice D32 m32 d32]) (some 59) at29 (hy:=fun W hS=>by (obtain⟨k0,k1,k2,k3,k4,k5⟩:=Cb.c6 hS.2.2.1;clear hS;go_simp)) (h:=?_)
 refine RW.t (i:=30) (v:=.agg #[.bool (ng dlo.num),.slice A33 n33 c33,.slice D33 m33 d33,.bool (ng dhi.num),.slice A34 n34 c34,.slice D34 m34 d34]) (some 60) at30 (hy:=fun W hS=>by (obtain⟨k0,k1,k2,k3,k4,k5⟩:=Cb.c6 hS.2.2.2;clear hS;go_simp)) (h:=?_)
 refine RW.c (i:=31) (args:=#[.agg #[.bool (ng dlo.num),.slice A31 n31 c31,.slice D31 m31 d31,.bool (ng dhi.num),.slice A32 n32 c32,.slice D32 m32 d32],.agg #[.bool (ng dlo.num),.slice A33 n33 c33,.slice D33 m33 d33,.bool (ng dhi.num),.slice A34 n34 c34,.slice D34 m34 d34]]) (some 61) hzk.out at31 (hx:=fun _=>by kernel_rfl) (h:=fun _ S=>(sameV dlo dhi rd0.out rd1.out _ _ _ _ _ _ _ _ _ _ _ _ _ _ _ _ _ _ _ _ _ _ _ _ _ ⟨S.r 31 rfl,S.r 30 rfl⟩ ⟨S.r 29 rfl,S.r 28 rfl⟩ ⟨S.r 27 rfl,S.r 26 rfl⟩ ⟨S.r 25 rfl,S.r 24 rfl⟩).mono ?_)
 rintro e w16 ⟨rfl,bb⟩
 refine⟨bb,_,[],rfl,rd_nil,?_⟩
 clear bb S
 refine RW.t (i:=32) (v:=.bool true) (some 62) at32 (hy:=fun _ _=>by kernel_rfl) (h:=?_)
 refine RW.t (i:=33) (v:=.bool true) (some 63) at33 (hy:=fun _ _=>by kernel_rfl) (h:=?_)
 refine RW.t (i:=34) (v:=.int .i64 er) (some 64) at34 (hy:=fun _ _=>by kernel_rfl) (h:=?_)
 refine RW.t (i:=35) (v:=.int .i64 er) (some 65) at35 (hy:=fun _ _=>by kernel_rfl) (h:=?_)
 refine RW.t (i:=36) (v:=.bool true) (some 66) at36 (hy:=fun _ _=>by go_simp) (h:=?_)
 refine RW.t (i:=37) (v:=.bool true) (some 67) at37 (hy:=fun _ _=>by kernel_rfl) (h:=?_)
 refine RW.t (i:=38) (v:=.bool true) (some 68) at38 (hy:=fun _ _=>by kernel_rfl) (h:=?_)
 refine RW.t (i:=39) (v:=.agg #[.bool b1,.slice A1 n1 c1,.slice D1 m1 d1,.bool b2,.slice A2 n2 c2,.slice D2 m2 d2]) (some 69) at39 (hy:=fun W hS=>by (obtain⟨k0,k1,k2,k3,k4,k5⟩:=Cb.c6 hS.1;clear hS;go_simp)) (h:=?_)
 refine RW.t (i:=41) (v:=.agg #[.bool b1,.slice A1 n1 c1,.slice D1 m1 d1,.bool b2,.slice A2 n2 c2,.slice D2 m2 d2]) (some 71) at41 (hy:=fun W hS=>by (obtain⟨k0,k1,k2,k3,k4,k5⟩:=Cb.c6 hS.1;clear hS;go_simp)) (h:=?_)
 refine RW.c (i:=40) (args:=#[.agg #[.bool b1,.slice A1 n1 c1,.slice D1 m1 d1,.bool b2,.slice A2 n2 c2,.slice D2 m2 d2]]) (some 70) hzk.out at40 (hx:=fun _=>by kernel_rfl) (h:=fun _ S=>(hQ1.out _ (Rw.of (S.r 39 rfl) (S.r 38 rfl) k1.out) (Rw.of (S.r 37 rfl) (S.r 36 rfl) k2.out)).mono ?_)
 rintro e w17 ⟨A53,n53,c53,D53,m53,d53,A54,n54,c54,D54,m54,d54,rfl,Q53,Q54,bb⟩
 refine⟨bb,_,[(D54,m54,d54,dn qhi),(A54,n54,c54,limbs qhi.num.natAbs),(D53,m53,d53,dn qlo),(A53,n53,c53,limbs qlo.num.natAbs)],rfl,(rd_cons Q54.d (rd_cons Q54.n (rd_cons Q53.d (rd_cons Q53.n rd_nil)))),?_⟩
 clear bb S Q53 Q54
 refine RW.c (i:=42) (args:=#[.agg #[.bool b1,.slice A1 n1 c1,.slice D1 m1 d1,.bool b2,.slice A2 n2 c2,.slice D2 m2 d2]]) (some 72) hzk.out at42 (hx:=fun _=>by kernel_rfl) (h:=fun _ S=>(hQ2.out _ (Rw.of (S.r 43 rfl) (S.r 42 rfl) k1.out) (Rw.of (S.r 41 rfl) (S.r 40 rfl) k2.out)).mono ?_)
 rintro e w18 ⟨A55,n55,c55,D55,m55,d55,A56,n56,c56,D56,m56,d56,rfl,Q55,Q56,bb⟩
 refine⟨bb,_,[(D56,m56,d56,dn qhi),(A56,n56,c56,limbs qhi.num.natAbs),(D55,m55,d55,dn qlo),(A55,n55,c55,limbs qlo.num.natAbs)],rfl,(rd_cons Q56.d (rd_cons Q56.n (rd_cons Q55.d (rd_cons Q55.n rd_nil)))),?_⟩
 clear bb S Q55 Q56
 refine RW.c (i:=43) (args:=#[.agg #[.bool (ng qlo.num),.slice A53 n53 c53,.slice D53 m53 d53,.bool (ng qhi.num),.slice A54 n54 c54,.slice D54 m54 d54],.agg #[.bool (ng qlo.num),.slice A55 n55 c55,.slice D55 m55 d55,.bool (ng qhi.num),.slice A56 n56 c56,.slice D56 m56 d56]]) (some 73) hzk.out at43 (hx:=fun _=>by kernel_rfl) (h:=fun _ S=>(sameV qlo qhi rq0.out rq1.out _ _ _ _ _ _ _ _ _ _ _ _ _ _ _ _ _ _ _ _ _ _ _ _ _ ⟨S.r 7 rfl,S.r 6 rfl⟩ ⟨S.r 5 rfl,S.r 4 rfl⟩ ⟨S.r 3 rfl,S.r 2 rfl⟩ ⟨S.r 1 rfl,S.r 0 rfl⟩).mono ?_)
 rintro e w19 ⟨rfl,bb⟩
 refine⟨bb,_,[],rfl,rd_nil,?_⟩
 clear bb S
 refine RW.t (i:=44) (v:=.bool true) (some 74) at44 (hy:=fun _ _=>by kernel_rfl) (h:=?_)
 refine RW.tail hzk.out (by kernel_rfl) ?_
 intro gs w20 hgs hS S
 obtain rfl:=len0 hgs
 clear hS hgs hzk
 simp only[mark,fill,Act.put,List.setIfInBounds_toArray,List.set_cons_zero,List.set_cons_succ]
 replace S:=Lib.hid S
 refine Wk.o (i:=45) at45 (by kernel_rfl) fun K' hK=>?_
 go_simp
 have SN:=S.out
 clear S
 have S:=SN
 clear SN
 refine hK.out _ _ ⟨(S.cb 3 rfl),(S.cb 2 rfl),(S.cb 1 rfl),(S.cb 0 rfl)⟩ ?_
 clear hK K'
 replace S:=Lib.hid S
 try simp only[Act.put,List.setIfInBounds_toArray,List.set_cons_zero,List.set_cons_succ]
 refine Wk.done (by kernel_rfl) ?_
 go_simp
 replace S:=S.out
 have S:St w _ [(w4.heap.size,#[.bool (ng dlo.num),.slice A33 n33 c33,.slice D33 m33 d33,.bool (ng dhi.num),.slice A34 n34 c34,.slice D34 m34 d34],28),(w3.heap.size,#[.bool (ng dlo.num),.slice A31 n31 c31,.slice D31 m31 d31,.bool (ng dhi.num),.slice A32 n32 c32,.slice D32 m32 d32],28),(w.heap.size+1,#[.bool b3,.slice A3 n3 c3,.slice D3 m3 d3,.bool b4,.slice A4 n4 c4,.slice D4 m4 d4],28),(w.heap.size,#[.bool b1,.slice A1 n1 c1,.slice D1 m1 d1,.bool b2,.slice A2 n2 c2,.slice D2 m2 d2],28)] [(D56,m56,d56,dn qhi),(A56,n56,c56,limbs qhi.num.natAbs),(D55,m55,d55,dn qlo),(A55,n55,c55,limbs qlo.num.natAbs),(D54,m54,d54,dn qhi),(A54,n54,c54,limbs qhi.num.natAbs),(D53,m53,d53,dn qlo),(A53,n53,c53,limbs qlo.num.natAbs),(D52,m52,d52,dn mhi),(A52,n52,c52,limbs mhi.num.natAbs),(D51,m51,d51,dn mlo),(A51,n51,c51,limbs mlo.num.natAbs),(D50,m50,d50,dn mhi),(A50,n50,c50,limbs mhi.num.natAbs),(D49,m49,d49,dn mlo),(A49,n49,c49,limbs mlo.num.natAbs),(D48,m48,d48,dn shi),(A48,n48,c48,limbs shi.num.natAbs),(D47,m47,d47,dn slo),(A47,n47,c47,limbs slo.num.natAbs),(D46,m46,d46,dn shi),(A46,n46,c46,limbs shi.num.natAbs),(D45,m45,d45,dn slo),(A45,n45,c45,limbs slo.num.natAbs),(D44,m44,d44,dn ahi),(A44,n44,c44,limbs ahi.num.natAbs),(D43,m43,d43,dn alo),(A43,n43,c43,limbs alo.num.natAbs),(D42,m42,d42,dn ahi),(A42,n42,c42,limbs ahi.num.natAbs),(D41,m41,d41,dn alo),(A41,n41,c41,limbs alo.num.natAbs),(D34,m34,d34,dn dhi),(A34,n34,c34,limbs dhi.num.natAbs),(D33,m33,d33,dn dlo),(A33,n33,c33,limbs dlo.num.natAbs),(D32,m32,d32,dn dhi),(A32,n32,c32,limbs dhi.num.natAbs),(D31,m31,d31,dn dlo),(A31,n31,c31,limbs dlo.num.natAbs),(D4,m4,d4,y4),(A4,n4,c4,x4),(D3,m3,d3,y3),(A3,n3,c3,x3),(D2,m2,d2,y2),(A2,n2,c2,x2),(D1,m1,d1,y1),(A1,n1,c1,x1)]:=S
 replace S:=Lib.hid S
 replace S:=S.out
 replace S:=Lib.hid S
 have S:=S.out
 replace S:=Lib.hid S
 go_wp2
 go_ret
 exact⟨rfl,S.out.bel⟩
end Go.Proofs.YtphckmdnflbloaaGreat
