/- The law IntervalJoins. -/
import Derived.Test.YtphckmdnflbloaaGreatQW1z
import Derived.Test.YtphckmdnflbloaaGreatQMbz
import Derived.Test.YtphckmdnflbloaaGreatQVfz
import Derived.Test.YtphckmdnflbloaaGreatQVpz
namespace Go.Proofs.YtphckmdnflbloaaGreat
open Go.RowKit RQ
/-- The ends of Meet, and whether there is one; the ends and the error of Root. -/
def mtLo (a b c d:Rat):Rat:=if minL [khi a b,khi c d]<maxL [klo a b,klo c d] then 0 else maxL [klo a b,klo c d]
def mtHi (a b c d:Rat):Rat:=if minL [khi a b,khi c d]<maxL [klo a b,klo c d] then 0 else minL [khi a b,khi c d]
def mtOk (a b c d:Rat):Bool:=if minL [khi a b,khi c d]<maxL [klo a b,klo c d] then false else true
def rjLo (q:Rat) (s:Int):Rat:=if q<0∨s<0∨128<s then 0 else rtLo q s.toNat
def rjHi (q:Rat) (s:Int):Rat:=if q<0∨s<0∨128<s then 0 else if rtLo q s.toNat*rtLo q s.toNat=q then rtLo q s.toNat else rtLo q s.toNat+rtU s.toNat
def rjE (q:Rat) (s:Int):Int:=if q<0∨s<0∨128<s then 1 else 0
theorem imeet_all (b1:Bool) (A1:Option Addr) (n1 c1:Nat) (x1:List Nat) (D1:Option Addr) (m1 d1:Nat) (y1:List Nat) (q1:Rat) (b2:Bool) (A2:Option Addr) (n2 c2:Nat) (x2:List Nat) (D2:Option Addr) (m2 d2:Nat) (y2:List Nat) (q2:Rat) (b3:Bool) (A3:Option Addr) (n3 c3:Nat) (x3:List Nat) (D3:Option Addr) (m3 d3:Nat) (y3:List Nat) (q3:Rat) (b4:Bool) (A4:Option Addr) (n4 c4:Nat) (x4:List Nat) (D4:Option Addr) (m4 d4:Nat) (y4:List Nat) (q4:Rat) (w:World) (X1:Rw w b1 A1 n1 c1 x1 D1 m1 d1 y1 q1) (X2:Rw w b2 A2 n2 c2 x2 D2 m2 d2 y2 q2) (X3:Rw w b3 A3 n3 c3 x3 D3 m3 d3 y3 q3) (X4:Rw w b4 A4 n4 c4 x4 D4 m4 d4 y4 q4):Calls Tryz.prog 28 #[.agg #[.bool b1,.slice A1 n1 c1,.slice D1 m1 d1,.bool b2,.slice A2 n2 c2,.slice D2 m2 d2],.agg #[.bool b3,.slice A3 n3 c3,.slice D3 m3 d3,.bool b4,.slice A4 n4 c4,.slice D4 m4 d4]] w (RetVE (mtLo q1 q2 q3 q4) (mtHi q1 q2 q3 q4) (.bool (mtOk q1 q2 q3 q4)) w):=by
 unfold mtLo mtHi mtOk
 by_cases h:minL [khi q1 q2,khi q3 q4]<maxL [klo q1 q2,klo q3 q4]
 ·rw[if_pos h,if_pos h,if_pos h];exact meet_no b1 A1 n1 c1 x1 D1 m1 d1 y1 q1 b2 A2 n2 c2 x2 D2 m2 d2 y2 q2 b3 A3 n3 c3 x3 D3 m3 d3 y3 q3 b4 A4 n4 c4 x4 D4 m4 d4 y4 q4 h w X1 X2 X3 X4
 ·rw[if_neg h,if_neg h,if_neg h];exact meet_yes b1 A1 n1 c1 x1 D1 m1 d1 y1 q1 b2 A2 n2 c2 x2 D2 m2 d2 y2 q2 b3 A3 n3 c3 x3 D3 m3 d3 y3 q3 b4 A4 n4 c4 x4 D4 m4 d4 y4 q4 h w X1 X2 X3 X4
theorem rmeet_all (b1:Bool) (A1:Option Addr) (n1 c1:Nat) (x1:List Nat) (D1:Option Addr) (m1 d1:Nat) (y1:List Nat) (q1:Rat) (b2:Bool) (A2:Option Addr) (n2 c2:Nat) (x2:List Nat) (D2:Option Addr) (m2 d2:Nat) (y2:List Nat) (q2:Rat) (b3:Bool) (A3:Option Addr) (n3 c3:Nat) (x3:List Nat) (D3:Option Addr) (m3 d3:Nat) (y3:List Nat) (q3:Rat) (b4:Bool) (A4:Option Addr) (n4 c4:Nat) (x4:List Nat) (D4:Option Addr) (m4 d4:Nat) (y4:List Nat) (q4:Rat) (s1:Rs q1 19) (s2:Rs q2 19) (s3:Rs q3 19) (s4:Rs q4 19) (w:World) (X1:Rw w b1 A1 n1 c1 x1 D1 m1 d1 y1 q1) (X2:Rw w b2 A2 n2 c2 x2 D2 m2 d2 y2 q2) (X3:Rw w b3 A3 n3 c3 x3 D3 m3 d3 y3 q3) (X4:Rw w b4 A4 n4 c4 x4 D4 m4 d4 y4 q4):Calls Tryz.prog 29 #[.agg #[.bool b1,.slice A1 n1 c1,.slice D1 m1 d1,.bool b2,.slice A2 n2 c2,.slice D2 m2 d2],.agg #[.bool b3,.slice A3 n3 c3,.slice D3 m3 d3,.bool b4,.slice A4 n4 c4,.slice D4 m4 d4]] w (RetVE (mtLo q1 q2 q3 q4) (mtHi q1 q2 q3 q4) (.bool (mtOk q1 q2 q3 q4)) w):=by
 unfold mtLo mtHi mtOk
 by_cases h:minL [khi q1 q2,khi q3 q4]<maxL [klo q1 q2,klo q3 q4]
 ·rw[if_pos h,if_pos h,if_pos h];exact rmeet_no b1 A1 n1 c1 x1 D1 m1 d1 y1 q1 b2 A2 n2 c2 x2 D2 m2 d2 y2 q2 b3 A3 n3 c3 x3 D3 m3 d3 y3 q3 b4 A4 n4 c4 x4 D4 m4 d4 y4 q4 h s1 s2 s3 s4 w X1 X2 X3 X4
 ·rw[if_neg h,if_neg h,if_neg h];exact rmeet_yes b1 A1 n1 c1 x1 D1 m1 d1 y1 q1 b2 A2 n2 c2 x2 D2 m2 d2 y2 q2 b3 A3 n3 c3 x3 D3 m3 d3 y3 q3 b4 A4 n4 c4 x4 D4 m4 d4 y4 q4 h s1 s2 s3 s4 w X1 X2 X3 X4
theorem iroot_all (b1:Bool) (A1:Option Addr) (n1 c1:Nat) (x1:List Nat) (D1:Option Addr) (m1 d1:Nat) (y1:List Nat) (q1:Rat) (s:Int) (hs:Rs q1 10) (w:World) (X1:Rw w b1 A1 n1 c1 x1 D1 m1 d1 y1 q1):Calls Tryz.prog 30 #[.agg #[.bool b1,.slice A1 n1 c1,.slice D1 m1 d1],.int .i64 s] w (RetVE (rjLo q1 s) (rjHi q1 s) (.int .i64 (rjE q1 s)) w):=by
 unfold rjLo rjHi rjE
 by_cases h:q1<0∨s<0∨128<s
 ·rw[if_pos h,if_pos h,if_pos h]
  by_cases h1:q1<0
  ·exact root_no1 b1 A1 n1 c1 x1 D1 m1 d1 y1 q1 s h1 w X1
  ·by_cases h2:s<0
   ·exact root_no2 b1 A1 n1 c1 x1 D1 m1 d1 y1 q1 s h1 h2 w X1
   ·exact root_no3 b1 A1 n1 c1 x1 D1 m1 d1 y1 q1 s h1 h2 (by rcases h with h | h | h;exact absurd h h1;exact absurd h h2;exact h) w X1
 ·rw[if_neg h,if_neg h,if_neg h]
  rw[not_or,not_or] at h
  obtain⟨h1,h2,h3⟩:=h
  obtain⟨k,rfl⟩:∃ k:Nat,s=k:=⟨s.toNat,by omega⟩
  rw[Int.toNat_natCast]
  by_cases hx:rtLo q1 k*rtLo q1 k=q1
  ·rw[if_pos hx];exact root_yes b1 A1 n1 c1 x1 D1 m1 d1 y1 q1 k (by omega) (Rat.not_lt.1 h1) hs hx w X1
  ·rw[if_neg hx];exact root_yes2 b1 A1 n1 c1 x1 D1 m1 d1 y1 q1 k (by omega) (Rat.not_lt.1 h1) hs hx w X1
theorem rroot_all (b1:Bool) (A1:Option Addr) (n1 c1:Nat) (x1:List Nat) (D1:Option Addr) (m1 d1:Nat) (y1:List Nat) (q1:Rat) (s:Int) (hs:Rs q1 10) (w:World) (X1:Rw w b1 A1 n1 c1 x1 D1 m1 d1 y1 q1):Calls Tryz.prog 31 #[.agg #[.bool b1,.slice A1 n1 c1,.slice D1 m1 d1],.int .i64 s] w (RetVE (rjLo q1 s) (rjHi q1 s) (.int .i64 (rjE q1 s)) w):=by
 unfold rjLo rjHi rjE
 by_cases h:q1<0∨s<0∨128<s
 ·rw[if_pos h,if_pos h,if_pos h]
  by_cases h1:q1<0
  ·exact rroot_no1 b1 A1 n1 c1 x1 D1 m1 d1 y1 q1 s h1 w X1
  ·by_cases h2:s<0
   ·exact rroot_no2 b1 A1 n1 c1 x1 D1 m1 d1 y1 q1 s h1 h2 w X1
   ·exact rroot_no3 b1 A1 n1 c1 x1 D1 m1 d1 y1 q1 s h1 h2 (by rcases h with h | h | h;exact absurd h h1;exact absurd h h2;exact h) w X1
 ·rw[if_neg h,if_neg h,if_neg h]
  rw[not_or,not_or] at h
  obtain⟨h1,h2,h3⟩:=h
  obtain⟨k,rfl⟩:∃ k:Nat,s=k:=⟨s.toNat,by omega⟩
  rw[Int.toNat_natCast]
  by_cases hx:rtLo q1 k*rtLo q1 k=q1
  ·rw[if_pos hx];exact rroot_yes b1 A1 n1 c1 x1 D1 m1 d1 y1 q1 k (by omega) (Rat.not_lt.1 h1) hs hx w X1
  ·rw[if_neg hx];exact rroot_yes2 b1 A1 n1 c1 x1 D1 m1 d1 y1 q1 k (by omega) (Rat.not_lt.1 h1) hs hx w X1
theorem rj_rs {q:Rat} {s:Int} (hs:Rs q 10):Rs (rjLo q s) 200∧Rs (rjHi q s) 200:=by
 have z:Rs (0:Rat) 200:=⟨by decide +kernel,by decide +kernel⟩
 unfold rjLo rjHi
 by_cases h:q<0∨s<0∨128<s
 ·rw[if_pos h,if_pos h];exact⟨z,z⟩
 ·rw[if_neg h,if_neg h]
  rw[not_or,not_or] at h
  have h1:=rtLo_rs (k:=s.toNat) hs (by omega)
  have h2:=rtU_rs (k:=s.toNat) (by omega)
  refine⟨h1.mono (by decide),?_⟩
  split
  ·exact h1.mono (by decide)
  ·exact (h1.add h2).mono (by decide)
theorem mt_rs {a b c d:Rat} (ha:Rs (klo a b) 8) (hb:Rs (khi a b) 8) (hc:Rs (klo c d) 8) (hd:Rs (khi c d) 8):Rs (mtLo a b c d) 200∧Rs (mtHi a b c d) 200:=by
 have z:Rs (0:Rat) 200:=⟨by decide +kernel,by decide +kernel⟩
 have h1:=(minL_rs (l:=[klo a b,klo c d]) (by simp) (fun y hy=>by simp at hy;rcases hy with rfl | rfl;exact ha;exact hc)).2
 have h2:=(minL_rs (l:=[khi a b,khi c d]) (by simp) (fun y hy=>by simp at hy;rcases hy with rfl | rfl;exact hb;exact hd)).1
 unfold mtLo mtHi
 split
 ·exact⟨z,z⟩
 ·exact⟨h1.mono (by decide),h2.mono (by decide)⟩
set_option maxRecDepth 100000 in
set_option maxHeartbeats 16000000 in
theorem law_jo (b1:Bool) (A1:Option Addr) (n1 c1:Nat) (x1:List Nat) (D1:Option Addr) (m1 d1:Nat) (y1:List Nat) (b2:Bool) (A2:Option Addr) (n2 c2:Nat) (x2:List Nat) (D2:Option Addr) (m2 d2:Nat) (y2:List Nat) (b3:Bool) (A3:Option Addr) (n3 c3:Nat) (x3:List Nat) (D3:Option Addr) (m3 d3:Nat) (y3:List Nat) (b4:Bool) (A4:Option Addr) (n4 c4:Nat) (x4:List Nat) (D4:Option Addr) (m4 d4:Nat) (y4:List Nat) (b5:Bool) (A5:Option Addr) (n5 c5:Nat) (x5:List Nat) (D5:Option Addr) (m5 d5:Nat) (y5:List Nat) (s:Int) (w:World) (R1:Rd w A1 n1 c1 x1) (M1:n1≤9223372036854775807) (D1':Rd w D1 m1 d1 y1) (N1:m1≤9223372036854775807) (R2:Rd w A2 n2 c2 x2) (M2:n2≤9223372036854775807) (D2':Rd w D2 m2 d2 y2) (N2:m2≤9223372036854775807) (R3:Rd w A3 n3 c3 x3) (M3:n3≤9223372036854775807) (D3':Rd w D3 m3 d3 y3) (N3:m3≤9223372036854775807) (R4:Rd w A4 n4 c4 x4) (M4:n4≤9223372036854775807) (D4':Rd w D4 m4 d4 y4) (N4:m4≤9223372036854775807) (R5:Rd w A5 n5 c5 x5) (M5:n5≤9223372036854775807) (D5':Rd w D5 m5 d5 y5) (N5:m5≤9223372036854775807) (h0 : -9223372036854775808≤s) (h1:s≤9223372036854775807):Calls Tryz.prog 4 #[.agg #[.bool b1,.slice A1 n1 c1,.slice D1 m1 d1,.bool b2,.slice A2 n2 c2,.slice D2 m2 d2],.agg #[.bool b3,.slice A3 n3 c3,.slice D3 m3 d3,.bool b4,.slice A4 n4 c4,.slice D4 m4 d4],.agg #[.bool b5,.slice A5 n5 c5,.slice D5 m5 d5],.int .i64 s] w fun e w'=>e=.returned (.bool true)∧Below w.heap.size w w':=by
 have hA:=Lib.hid (fun W=>awakeV_any W)
 clear h0 h1
 have hL0:=fun W=>light4_any b1 A1 n1 c1 D1 m1 d1 b2 A2 n2 c2 D2 m2 d2 W M1 N1 M2 N2
 have hL1:=fun W=>light4_any b3 A3 n3 c3 D3 m3 d3 b4 A4 n4 c4 D4 m4 d4 W M3 N3 M4 N4
 have hL2:=fun W=>lightR_any b5 A5 n5 c5 D5 m5 d5 W M5 N5
 cases l0:(lightB n1 m1&&lightB n2 m2)
 ·rw[l0] at hL0
  replace hL0:=Lib.hid hL0
  clear hL1
  clear hL2
  clear l0
  have S:=((((((((((((((St.new w).read R1).read D1').read R2).read D2').read R3).read D3').read R4).read D4').read R5).read D5').allocAt (w.heap.size) #[.bool b1,.slice A1 n1 c1,.slice D1 m1 d1,.bool b2,.slice A2 n2 c2,.slice D2 m2 d2] 28 (noL6 _ _ _ _ _ _ _ _ _ _ _ _ _ _) (by simp)).allocAt (w.heap.size+1) #[.bool b3,.slice A3 n3 c3,.slice D3 m3 d3,.bool b4,.slice A4 n4 c4,.slice D4 m4 d4] 28 (noL6 _ _ _ _ _ _ _ _ _ _ _ _ _ _) (by simp)).allocAt (w.heap.size+1+1) #[.bool b5,.slice A5 n5 c5,.slice D5 m5 d5] 26 (noL3 _ _ _ _ _ _ _) (by simp))
  replace S:=Lib.hid S
  clear R1 M1 D1' N1 R2 M2 D2' N2 R3 M3 D3' N3 R4 M4 D4' N4 R5 M5 D5' N5
  go_enter Tryz.func4,Tryz.ntmps4
  go_wp2_with fail
  refine (hL0.out _).mono ?_
  rintro e w1 ⟨rfl,bb⟩
  have T:=(S.out.call bb)
  clear bb S
  have S:=T
  clear T
  obtain⟨c_v0,c_v1,c_v2⟩:=S.c3 0 rfl
  obtain⟨c_b0,c_b1,c_b2,c_b3,c_b4,c_b5⟩:=S.c6 1 rfl
  obtain⟨c_a0,c_a1,c_a2,c_a3,c_a4,c_a5⟩:=S.c6 2 rfl
  have hz:w.heap.size+1+1<w1.heap.size:=S.lt 0 rfl
  replace S:=Lib.hid S
  clear hL0
  go_wp2_with fail
  refine (hA.out _).mono ?_
  rintro e w2 ⟨rfl,bb⟩
  have T:=(S.out.call bb)
  clear bb S c_v0 c_v1 c_v2 c_b0 c_b1 c_b2 c_b3 c_b4 c_b5 c_a0 c_a1 c_a2 c_a3 c_a4 c_a5 hz
  have S:=T
  clear T
  obtain⟨c_v0,c_v1,c_v2⟩:=S.c3 0 rfl
  obtain⟨c_b0,c_b1,c_b2,c_b3,c_b4,c_b5⟩:=S.c6 1 rfl
  obtain⟨c_a0,c_a1,c_a2,c_a3,c_a4,c_a5⟩:=S.c6 2 rfl
  have hz:w.heap.size+1+1<w2.heap.size:=S.lt 0 rfl
  replace S:=Lib.hid S
  have S:=S.out
  replace S:=Lib.hid S
  go_wp2
  go_ret
  exact⟨rfl,S.out.bel⟩
 rw[l0] at hL0
 cases l1:(lightB n3 m3&&lightB n4 m4)
 ·rw[l1] at hL1
  replace hL0:=Lib.hid hL0
  replace hL1:=Lib.hid hL1
  clear hL2
  clear l0 l1
  have S:=((((((((((((((St.new w).read R1).read D1').read R2).read D2').read R3).read D3').read R4).read D4').read R5).read D5').allocAt (w.heap.size) #[.bool b1,.slice A1 n1 c1,.slice D1 m1 d1,.bool b2,.slice A2 n2 c2,.slice D2 m2 d2] 28 (noL6 _ _ _ _ _ _ _ _ _ _ _ _ _ _) (by simp)).allocAt (w.heap.size+1) #[.bool b3,.slice A3 n3 c3,.slice D3 m3 d3,.bool b4,.slice A4 n4 c4,.slice D4 m4 d4] 28 (noL6 _ _ _ _ _ _ _ _ _ _ _ _ _ _) (by simp)).allocAt (w.heap.size+1+1) #[.bool b5,.slice A5 n5 c5,.slice D5 m5 d5] 26 (noL3 _ _ _ _ _ _ _) (by simp))
  replace S:=Lib.hid S
  clear R1 M1 D1' N1 R2 M2 D2' N2 R3 M3 D3' N3 R4 M4 D4' N4 R5 M5 D5' N5
  go_enter Tryz.func4,Tryz.ntmps4
  go_wp2_with fail
  refine (hL0.out _).mono ?_
  rintro e w1 ⟨rfl,bb⟩
  have T:=(S.out.call bb)
  clear bb S
  have S:=T
  clear T
  obtain⟨c_v0,c_v1,c_v2⟩:=S.c3 0 rfl
  obtain⟨c_b0,c_b1,c_b2,c_b3,c_b4,c_b5⟩:=S.c6 1 rfl
  obtain⟨c_a0,c_a1,c_a2,c_a3,c_a4,c_a5⟩:=S.c6 2 rfl
  have hz:w.heap.size+1+1<w1.heap.size:=S.lt 0 rfl
  replace S:=Lib.hid S
  clear hL0
  go_wp2_with fail
  refine (hL1.out _).mono ?_
  rintro e w2 ⟨rfl,bb⟩
  have T:=(S.out.call bb)
  clear bb S c_v0 c_v1 c_v2 c_b0 c_b1 c_b2 c_b3 c_b4 c_b5 c_a0 c_a1 c_a2 c_a3 c_a4 c_a5 hz
  have S:=T
  clear T
  obtain⟨c_v0,c_v1,c_v2⟩:=S.c3 0 rfl
  obtain⟨c_b0,c_b1,c_b2,c_b3,c_b4,c_b5⟩:=S.c6 1 rfl
  obtain⟨c_a0,c_a1,c_a2,c_a3,c_a4,c_a5⟩:=S.c6 2 rfl
  have hz:w.heap.size+1+1<w2.heap.size:=S.lt 0 rfl
  replace S:=Lib.hid S
  clear hL1
  go_wp2_with fail
  refine (hA.out _).mono ?_
  rintro e w3 ⟨rfl,bb⟩
  have T:=(S.out.call bb)
  clear bb S c_v0 c_v1 c_v2 c_b0 c_b1 c_b2 c_b3 c_b4 c_b5 c_a0 c_a1 c_a2 c_a3 c_a4 c_a5 hz
  have S:=T
  clear T
  obtain⟨c_v0,c_v1,c_v2⟩:=S.c3 0 rfl
  obtain⟨c_b0,c_b1,c_b2,c_b3,c_b4,c_b5⟩:=S.c6 1 rfl
  obtain⟨c_a0,c_a1,c_a2,c_a3,c_a4,c_a5⟩:=S.c6 2 rfl
  have hz:w.heap.size+1+1<w3.heap.size:=S.lt 0 rfl
  replace S:=Lib.hid S
  have S:=S.out
  replace S:=Lib.hid S
  go_wp2
  go_ret
  exact⟨rfl,S.out.bel⟩
 rw[l1] at hL1
 cases l2:(lightB n5 m5)
 ·rw[l2] at hL2
  replace hL0:=Lib.hid hL0
  replace hL1:=Lib.hid hL1
  replace hL2:=Lib.hid hL2
  clear l0 l1 l2
  have S:=((((((((((((((St.new w).read R1).read D1').read R2).read D2').read R3).read D3').read R4).read D4').read R5).read D5').allocAt (w.heap.size) #[.bool b1,.slice A1 n1 c1,.slice D1 m1 d1,.bool b2,.slice A2 n2 c2,.slice D2 m2 d2] 28 (noL6 _ _ _ _ _ _ _ _ _ _ _ _ _ _) (by simp)).allocAt (w.heap.size+1) #[.bool b3,.slice A3 n3 c3,.slice D3 m3 d3,.bool b4,.slice A4 n4 c4,.slice D4 m4 d4] 28 (noL6 _ _ _ _ _ _ _ _ _ _ _ _ _ _) (by simp)).allocAt (w.heap.size+1+1) #[.bool b5,.slice A5 n5 c5,.slice D5 m5 d5] 26 (noL3 _ _ _ _ _ _ _) (by simp))
  replace S:=Lib.hid S
  clear R1 M1 D1' N1 R2 M2 D2' N2 R3 M3 D3' N3 R4 M4 D4' N4 R5 M5 D5' N5
  go_enter Tryz.func4,Tryz.ntmps4
  go_wp2_with fail
  refine (hL0.out _).mono ?_
  rintro e w1 ⟨rfl,bb⟩
  have T:=(S.out.call bb)
  clear bb S
  have S:=T
  clear T
  obtain⟨c_v0,c_v1,c_v2⟩:=S.c3 0 rfl
  obtain⟨c_b0,c_b1,c_b2,c_b3,c_b4,c_b5⟩:=S.c6 1 rfl
  obtain⟨c_a0,c_a1,c_a2,c_a3,c_a4,c_a5⟩:=S.c6 2 rfl
  have hz:w.heap.size+1+1<w1.heap.size:=S.lt 0 rfl
  replace S:=Lib.hid S
  clear hL0
  go_wp2_with fail
  refine (hL1.out _).mono ?_
  rintro e w2 ⟨rfl,bb⟩
  have T:=(S.out.call bb)
  clear bb S c_v0 c_v1 c_v2 c_b0 c_b1 c_b2 c_b3 c_b4 c_b5 c_a0 c_a1 c_a2 c_a3 c_a4 c_a5 hz
  have S:=T
  clear T
  obtain⟨c_v0,c_v1,c_v2⟩:=S.c3 0 rfl
  obtain⟨c_b0,c_b1,c_b2,c_b3,c_b4,c_b5⟩:=S.c6 1 rfl
  obtain⟨c_a0,c_a1,c_a2,c_a3,c_a4,c_a5⟩:=S.c6 2 rfl
  have hz:w.heap.size+1+1<w2.heap.size:=S.lt 0 rfl
  replace S:=Lib.hid S
  clear hL1
  go_wp2_with fail
  refine (hL2.out _).mono ?_
  rintro e w3 ⟨rfl,bb⟩
  have T:=(S.out.call bb)
  clear bb S c_v0 c_v1 c_v2 c_b0 c_b1 c_b2 c_b3 c_b4 c_b5 c_a0 c_a1 c_a2 c_a3 c_a4 c_a5 hz
  have S:=T
  clear T
  obtain⟨c_v0,c_v1,c_v2⟩:=S.c3 0 rfl
  obtain⟨c_b0,c_b1,c_b2,c_b3,c_b4,c_b5⟩:=S.c6 1 rfl
  obtain⟨c_a0,c_a1,c_a2,c_a3,c_a4,c_a5⟩:=S.c6 2 rfl
  have hz:w.heap.size+1+1<w3.heap.size:=S.lt 0 rfl
  replace S:=Lib.hid S
  clear hL2
  go_wp2_with fail
  refine (hA.out _).mono ?_
  rintro e w4 ⟨rfl,bb⟩
  have T:=(S.out.call bb)
  clear bb S c_v0 c_v1 c_v2 c_b0 c_b1 c_b2 c_b3 c_b4 c_b5 c_a0 c_a1 c_a2 c_a3 c_a4 c_a5 hz
  have S:=T
  clear T
  obtain⟨c_v0,c_v1,c_v2⟩:=S.c3 0 rfl
  obtain⟨c_b0,c_b1,c_b2,c_b3,c_b4,c_b5⟩:=S.c6 1 rfl
  obtain⟨c_a0,c_a1,c_a2,c_a3,c_a4,c_a5⟩:=S.c6 2 rfl
  have hz:w.heap.size+1+1<w4.heap.size:=S.lt 0 rfl
  replace S:=Lib.hid S
  have S:=S.out
  replace S:=Lib.hid S
  go_wp2
  go_ret
  exact⟨rfl,S.out.bel⟩
 rw[l2] at hL2
 rw[Bool.and_eq_true] at l0 l1
 obtain⟨g1,g2⟩:=l0
 obtain⟨g3,g4⟩:=l1
 have g5:=l2
 obtain⟨q1,X1,s1⟩:∃ q,Rw w b1 A1 n1 c1 x1 D1 m1 d1 y1 q∧Rs q 8:=⟨rv b1 x1 y1,⟨R1,D1',rfl,by have:=light_8 g1;omega,by have:=light_8 g1;omega⟩,rs_light R1 D1' g1⟩
 obtain⟨q2,X2,s2⟩:∃ q,Rw w b2 A2 n2 c2 x2 D2 m2 d2 y2 q∧Rs q 8:=⟨rv b2 x2 y2,⟨R2,D2',rfl,by have:=light_8 g2;omega,by have:=light_8 g2;omega⟩,rs_light R2 D2' g2⟩
 obtain⟨q3,X3,s3⟩:∃ q,Rw w b3 A3 n3 c3 x3 D3 m3 d3 y3 q∧Rs q 8:=⟨rv b3 x3 y3,⟨R3,D3',rfl,by have:=light_8 g3;omega,by have:=light_8 g3;omega⟩,rs_light R3 D3' g3⟩
 obtain⟨q4,X4,s4⟩:∃ q,Rw w b4 A4 n4 c4 x4 D4 m4 d4 y4 q∧Rs q 8:=⟨rv b4 x4 y4,⟨R4,D4',rfl,by have:=light_8 g4;omega,by have:=light_8 g4;omega⟩,rs_light R4 D4' g4⟩
 obtain⟨q5,X5,s5⟩:∃ q,Rw w b5 A5 n5 c5 x5 D5 m5 d5 y5 q∧Rs q 8:=⟨rv b5 x5 y5,⟨R5,D5',rfl,by have:=light_8 g5;omega,by have:=light_8 g5;omega⟩,rs_light R5 D5' g5⟩
 clear g1 g2 g3 g4 g5 l2 R1 M1 D1' N1 R2 M2 D2' N2 R3 M3 D3' N3 R4 M4 D4' N4 R5 M5 D5' N5
 replace hL0:=Lib.hid hL0
 replace hL1:=Lib.hid hL1
 replace hL2:=Lib.hid hL2
 have hMe1:=fun W h1 h2 h3 h4=>imeet_all b1 A1 n1 c1 x1 D1 m1 d1 y1 q1 b2 A2 n2 c2 x2 D2 m2 d2 y2 q2 b3 A3 n3 c3 x3 D3 m3 d3 y3 q3 b4 A4 n4 c4 x4 D4 m4 d4 y4 q4  W h1 h2 h3 h4
 have hMe2:=fun W h1 h2 h3 h4=>rmeet_all b1 A1 n1 c1 x1 D1 m1 d1 y1 q1 b2 A2 n2 c2 x2 D2 m2 d2 y2 q2 b3 A3 n3 c3 x3 D3 m3 d3 y3 q3 b4 A4 n4 c4 x4 D4 m4 d4 y4 q4 (s1.mono (by decide)) (s2.mono (by decide)) (s3.mono (by decide)) (s4.mono (by decide)) W h1 h2 h3 h4
 have hH1:=fun W h1 h2 h3 h4=>hull_any b1 A1 n1 c1 x1 D1 m1 d1 y1 q1 b2 A2 n2 c2 x2 D2 m2 d2 y2 q2 b3 A3 n3 c3 x3 D3 m3 d3 y3 q3 b4 A4 n4 c4 x4 D4 m4 d4 y4 q4  W h1 h2 h3 h4
 have hH2:=fun W h1 h2 h3 h4=>rhullV_any b1 A1 n1 c1 x1 D1 m1 d1 y1 q1 b2 A2 n2 c2 x2 D2 m2 d2 y2 q2 b3 A3 n3 c3 x3 D3 m3 d3 y3 q3 b4 A4 n4 c4 x4 D4 m4 d4 y4 q4 (s1.mono (by decide)) (s2.mono (by decide)) (s3.mono (by decide)) (s4.mono (by decide)) W h1 h2 h3 h4
 have hR1:=fun W h1=>iroot_all b5 A5 n5 c5 x5 D5 m5 d5 y5 q5 s (s5.mono (by decide)) W h1
 have hR2:=fun W h1=>rroot_all b5 A5 n5 c5 x5 D5 m5 d5 y5 q5 s (s5.mono (by decide)) W h1
 obtain⟨ka,kb⟩:=k_rsp s1 s2 (by decide)
 obtain⟨kc,kd⟩:=k_rsp s3 s4 (by decide)
 have rh:=minL_rs (l:=[klo q1 q2,khi q1 q2,klo q3 q4,khi q3 q4]) (p:=8) (by simp) (fun y hy=>by simp at hy;rcases hy with rfl | rfl | rfl | rfl;exact ka;exact kb;exact kc;exact kd)
 have rh0:=Lib.hid (rh.1.mono (show 8≤200 by decide))
 have rh1:=Lib.hid (rh.2.mono (show 8≤200 by decide))
 have rm:=mt_rs ka kb kc kd
 have rm0:=Lib.hid rm.1
 have rm1:=Lib.hid rm.2
 have rr:=rj_rs (s:=s) (s5.mono (show 8≤10 by decide))
 have rr0:=Lib.hid rr.1
 have rr1:=Lib.hid rr.2
 clear rh rm rr ka kb kc kd
 generalize mtLo q1 q2 q3 q4=mlo at *
 generalize mtHi q1 q2 q3 q4=mhi at *
 generalize mtOk q1 q2 q3 q4=mok at *
 generalize rjLo q5 s=rlo at *
 generalize rjHi q5 s=rhi at *
 generalize rjE q5 s=rer at *
 generalize minL [klo q1 q2,khi q1 q2,klo q3 q4,khi q3 q4]=hlo at *
 generalize maxL [klo q1 q2,khi q1 q2,klo q3 q4,khi q3 q4]=hhi at *
 replace hMe1:=Lib.hid hMe1
 replace hMe2:=Lib.hid hMe2
 replace hH1:=Lib.hid hH1
 replace hH2:=Lib.hid hH2
 replace hR1:=Lib.hid hR1
 replace hR2:=Lib.hid hR2
 have k1:=Lib.hid X1.k
 have k2:=Lib.hid X2.k
 have k3:=Lib.hid X3.k
 have k4:=Lib.hid X4.k
 have k5:=Lib.hid X5.k
 have S:=((((((((((((((St.new w).read X1.rn).read X1.rd).read X2.rn).read X2.rd).read X3.rn).read X3.rd).read X4.rn).read X4.rd).read X5.rn).read X5.rd).allocAt (w.heap.size) #[.bool b1,.slice A1 n1 c1,.slice D1 m1 d1,.bool b2,.slice A2 n2 c2,.slice D2 m2 d2] 28 (noL6 _ _ _ _ _ _ _ _ _ _ _ _ _ _) (by simp)).allocAt (w.heap.size+1) #[.bool b3,.slice A3 n3 c3,.slice D3 m3 d3,.bool b4,.slice A4 n4 c4,.slice D4 m4 d4] 28 (noL6 _ _ _ _ _ _ _ _ _ _ _ _ _ _) (by simp)).allocAt (w.heap.size+1+1) #[.bool b5,.slice A5 n5 c5,.slice D5 m5 d5] 26 (noL3 _ _ _ _ _ _ _) (by simp))
 replace S:=Lib.hid S
 clear X1 s1 X2 s2 X3 s3 X4 s4 X5 s5
 go_enter Tryz.func4,Tryz.ntmps4
 go_wp2_with fail
 refine (hL0.out _).mono ?_
 rintro e w1 ⟨rfl,bb⟩
 have T:=(S.out.call bb)
 clear bb S
 have S:=T
 clear T
 obtain⟨c_v0,c_v1,c_v2⟩:=S.c3 0 rfl
 obtain⟨c_b0,c_b1,c_b2,c_b3,c_b4,c_b5⟩:=S.c6 1 rfl
 obtain⟨c_a0,c_a1,c_a2,c_a3,c_a4,c_a5⟩:=S.c6 2 rfl
 have hz:w.heap.size+1+1<w1.heap.size:=S.lt 0 rfl
 replace S:=Lib.hid S
 clear hL0
 go_wp2_with fail
 refine (hL1.out _).mono ?_
 rintro e w2 ⟨rfl,bb⟩
 have T:=(S.out.call bb)
 clear bb S c_v0 c_v1 c_v2 c_b0 c_b1 c_b2 c_b3 c_b4 c_b5 c_a0 c_a1 c_a2 c_a3 c_a4 c_a5 hz
 have S:=T
 clear T
 obtain⟨c_v0,c_v1,c_v2⟩:=S.c3 0 rfl
 obtain⟨c_b0,c_b1,c_b2,c_b3,c_b4,c_b5⟩:=S.c6 1 rfl
 obtain⟨c_a0,c_a1,c_a2,c_a3,c_a4,c_a5⟩:=S.c6 2 rfl
 have hz:w.heap.size+1+1<w2.heap.size:=S.lt 0 rfl
 replace S:=Lib.hid S
 clear hL1
 go_wp2_with fail
 refine (hL2.out _).mono ?_
 rintro e w3 ⟨rfl,bb⟩
 have T:=(S.out.call bb)
 clear bb S c_v0 c_v1 c_v2 c_b0 c_b1 c_b2 c_b3 c_b4 c_b5 c_a0 c_a1 c_a2 c_a3 c_a4 c_a5 hz
 have S:=T
 clear T
 obtain⟨c_v0,c_v1,c_v2⟩:=S.c3 0 rfl
 obtain⟨c_b0,c_b1,c_b2,c_b3,c_b4,c_b5⟩:=S.c6 1 rfl
 obtain⟨c_a0,c_a1,c_a2,c_a3,c_a4,c_a5⟩:=S.c6 2 rfl
 have hz:w.heap.size+1+1<w3.heap.size:=S.lt 0 rfl
 replace S:=Lib.hid S
 clear hL2
 go_wp2_with fail
 refine (hMe1.out _ (Rw.of (S.out.r 9 rfl) (S.out.r 8 rfl) k1.out) (Rw.of (S.out.r 7 rfl) (S.out.r 6 rfl) k2.out) (Rw.of (S.out.r 5 rfl) (S.out.r 4 rfl) k3.out) (Rw.of (S.out.r 3 rfl) (S.out.r 2 rfl) k4.out)).mono ?_
 rintro e w4 ⟨A31,n31,c31,D31,m31,d31,A32,n32,c32,D32,m32,d32,rfl,Q31,Q32,bb⟩
 have T:=(((((S.out.call bb).read Q31.n).read Q31.d).read Q32.n).read Q32.d)
 clear bb S c_v0 c_v1 c_v2 c_b0 c_b1 c_b2 c_b3 c_b4 c_b5 c_a0 c_a1 c_a2 c_a3 c_a4 c_a5 hz
 have S:=T
 clear T
 obtain⟨c_v0,c_v1,c_v2⟩:=S.c3 0 rfl
 obtain⟨c_b0,c_b1,c_b2,c_b3,c_b4,c_b5⟩:=S.c6 1 rfl
 obtain⟨c_a0,c_a1,c_a2,c_a3,c_a4,c_a5⟩:=S.c6 2 rfl
 have hz:w.heap.size+1+1<w4.heap.size:=S.lt 0 rfl
 replace S:=Lib.hid S
 clear Q31 Q32 hMe1
 have S:=(S.out.allocAt (w4.heap.size) #[.bool (ng mlo.num),.slice A31 n31 c31,.slice D31 m31 d31,.bool (ng mhi.num),.slice A32 n32 c32,.slice D32 m32 d32] 28 (noL6 _ _ _ _ _ _ _ _ _ _ _ _ _ _) (by simp))
 obtain⟨a_a0,a_a1,a_a2,a_a3,a_a4,a_a5,b_a0,b_a1,b_a2,b_a3,b_a4,b_a5⟩:=S.cf6 3 rfl
 obtain⟨a_b0,a_b1,a_b2,a_b3,a_b4,a_b5,b_b0,b_b1,b_b2,b_b3,b_b4,b_b5⟩:=S.cf6 2 rfl
 replace S:=Lib.hid S
 go_wp2_with fail
 refine (hMe2.out _ (Rw.of (S.out.r 13 rfl) (S.out.r 12 rfl) k1.out) (Rw.of (S.out.r 11 rfl) (S.out.r 10 rfl) k2.out) (Rw.of (S.out.r 9 rfl) (S.out.r 8 rfl) k3.out) (Rw.of (S.out.r 7 rfl) (S.out.r 6 rfl) k4.out)).mono ?_
 rintro e w5 ⟨A33,n33,c33,D33,m33,d33,A34,n34,c34,D34,m34,d34,rfl,Q33,Q34,bb⟩
 have T:=(((((S.out.call bb).read Q33.n).read Q33.d).read Q34.n).read Q34.d)
 clear bb S c_v0 c_v1 c_v2 c_b0 c_b1 c_b2 c_b3 c_b4 c_b5 c_a0 c_a1 c_a2 c_a3 c_a4 c_a5 hz a_a0 b_a0 a_a1 b_a1 a_a2 b_a2 a_a3 b_a3 a_a4 b_a4 a_a5 b_a5 a_b0 b_b0 a_b1 b_b1 a_b2 b_b2 a_b3 b_b3 a_b4 b_b4 a_b5 b_b5
 have S:=T
 clear T
 obtain⟨c_x0,c_x1,c_x2,c_x3,c_x4,c_x5⟩:=S.c6 0 rfl
 obtain⟨c_v0,c_v1,c_v2⟩:=S.c3 1 rfl
 obtain⟨c_b0,c_b1,c_b2,c_b3,c_b4,c_b5⟩:=S.c6 2 rfl
 obtain⟨c_a0,c_a1,c_a2,c_a3,c_a4,c_a5⟩:=S.c6 3 rfl
 have hz:w4.heap.size<w5.heap.size:=S.lt 0 rfl
 replace S:=Lib.hid S
 clear Q33 Q34 hMe2
 have S:=(S.out.allocAt (w5.heap.size) #[.bool (ng mlo.num),.slice A33 n33 c33,.slice D33 m33 d33,.bool (ng mhi.num),.slice A34 n34 c34,.slice D34 m34 d34] 28 (noL6 _ _ _ _ _ _ _ _ _ _ _ _ _ _) (by simp))
 obtain⟨a_v0,a_v1,a_v2,b_v0,b_v1,b_v2⟩:=S.cf3 2 rfl
 replace S:=Lib.hid S
 go_wp2_with fail
 refine (hR1.out _ (Rw.of (S.out.r 9 rfl) (S.out.r 8 rfl) k5.out)).mono ?_
 rintro e w6 ⟨A35,n35,c35,D35,m35,d35,A36,n36,c36,D36,m36,d36,rfl,Q35,Q36,bb⟩
 have T:=(((((S.out.call bb).read Q35.n).read Q35.d).read Q36.n).read Q36.d)
 clear bb S c_x0 c_x1 c_x2 c_x3 c_x4 c_x5 c_v0 c_v1 c_v2 c_b0 c_b1 c_b2 c_b3 c_b4 c_b5 c_a0 c_a1 c_a2 c_a3 c_a4 c_a5 hz a_v0 b_v0 a_v1 b_v1 a_v2 b_v2
 have S:=T
 clear T
 obtain⟨c_y0,c_y1,c_y2,c_y3,c_y4,c_y5⟩:=S.c6 0 rfl
 obtain⟨c_x0,c_x1,c_x2,c_x3,c_x4,c_x5⟩:=S.c6 1 rfl
 obtain⟨c_v0,c_v1,c_v2⟩:=S.c3 2 rfl
 obtain⟨c_b0,c_b1,c_b2,c_b3,c_b4,c_b5⟩:=S.c6 3 rfl
 obtain⟨c_a0,c_a1,c_a2,c_a3,c_a4,c_a5⟩:=S.c6 4 rfl
 have hz:w5.heap.size<w6.heap.size:=S.lt 0 rfl
 replace S:=Lib.hid S
 clear Q35 Q36 hR1
 have S:=(S.out.allocAt (w6.heap.size) #[.bool (ng rlo.num),.slice A35 n35 c35,.slice D35 m35 d35,.bool (ng rhi.num),.slice A36 n36 c36,.slice D36 m36 d36] 28 (noL6 _ _ _ _ _ _ _ _ _ _ _ _ _ _) (by simp))
 obtain⟨a_v0,a_v1,a_v2,b_v0,b_v1,b_v2⟩:=S.cf3 3 rfl
 replace S:=Lib.hid S
 go_wp2_with fail
 refine (hR2.out _ (Rw.of (S.out.r 13 rfl) (S.out.r 12 rfl) k5.out)).mono ?_
 rintro e w7 ⟨A37,n37,c37,D37,m37,d37,A38,n38,c38,D38,m38,d38,rfl,Q37,Q38,bb⟩
 have T:=(((((S.out.call bb).read Q37.n).read Q37.d).read Q38.n).read Q38.d)
 clear bb S c_y0 c_y1 c_y2 c_y3 c_y4 c_y5 c_x0 c_x1 c_x2 c_x3 c_x4 c_x5 c_v0 c_v1 c_v2 c_b0 c_b1 c_b2 c_b3 c_b4 c_b5 c_a0 c_a1 c_a2 c_a3 c_a4 c_a5 hz a_v0 b_v0 a_v1 b_v1 a_v2 b_v2
 have S:=T
 clear T
 obtain⟨c_z0,c_z1,c_z2,c_z3,c_z4,c_z5⟩:=S.c6 0 rfl
 obtain⟨c_y0,c_y1,c_y2,c_y3,c_y4,c_y5⟩:=S.c6 1 rfl
 obtain⟨c_x0,c_x1,c_x2,c_x3,c_x4,c_x5⟩:=S.c6 2 rfl
 obtain⟨c_v0,c_v1,c_v2⟩:=S.c3 3 rfl
 obtain⟨c_b0,c_b1,c_b2,c_b3,c_b4,c_b5⟩:=S.c6 4 rfl
 obtain⟨c_a0,c_a1,c_a2,c_a3,c_a4,c_a5⟩:=S.c6 5 rfl
 have hz:w6.heap.size<w7.heap.size:=S.lt 0 rfl
 replace S:=Lib.hid S
 clear Q37 Q38 hR2
 go_upto_region 7 with fail
 clear c_z0 c_z1 c_z2 c_z3 c_z4 c_z5 c_y0 c_y1 c_y2 c_y3 c_y4 c_y5 c_x0 c_x1 c_x2 c_x3 c_x4 c_x5 c_v0 c_v1 c_v2 c_b0 c_b1 c_b2 c_b3 c_b4 c_b5 c_a0 c_a1 c_a2 c_a3 c_a4 c_a5 hz
 have S:=(S.out.allocAt (w7.heap.size) #[.bool (ng rlo.num),.slice A37 n37 c37,.slice D37 m37 d37,.bool (ng rhi.num),.slice A38 n38 c38,.slice D38 m38 d38] 28 (noL6 _ _ _ _ _ _ _ _ _ _ _ _ _ _) (by simp))
 generalize hW8:(World.alloc w7 (.cells #[.bool (ng rlo.num),.slice A37 n37 c37,.slice D37 m37 d37,.bool (ng rhi.num),.slice A38 n38 c38,.slice D38 m38 d38] 28))=w8 at S ⊢
 clear hW8
 replace S:=Lib.hid S
 refine RW.begin (Z:=[]) (S:=(fun W=>Cb W (w.heap.size) #[.bool b1,.slice A1 n1 c1,.slice D1 m1 d1,.bool b2,.slice A2 n2 c2,.slice D2 m2 d2] 28∧Cb W (w.heap.size+1) #[.bool b3,.slice A3 n3 c3,.slice D3 m3 d3,.bool b4,.slice A4 n4 c4,.slice D4 m4 d4] 28∧Cb W (w4.heap.size) #[.bool (ng mlo.num),.slice A31 n31 c31,.slice D31 m31 d31,.bool (ng mhi.num),.slice A32 n32 c32,.slice D32 m32 d32] 28∧Cb W (w5.heap.size) #[.bool (ng mlo.num),.slice A33 n33 c33,.slice D33 m33 d33,.bool (ng mhi.num),.slice A34 n34 c34,.slice D34 m34 d34] 28∧Cb W (w6.heap.size) #[.bool (ng rlo.num),.slice A35 n35 c35,.slice D35 m35 d35,.bool (ng rhi.num),.slice A36 n36 c36,.slice D36 m36 d36] 28∧Cb W (w7.heap.size) #[.bool (ng rlo.num),.slice A37 n37 c37,.slice D37 m37 d37,.bool (ng rhi.num),.slice A38 n38 c38,.slice D38 m38 d38] 28)) (by kernel_rfl) ?_ S.out ?_
 ·exact⟨by kernel_rfl,zis_nil,by decide,by decide,nol_nil,(fun _ _ h=>⟨h.kb 6 rfl,h.kb 5 rfl,h.kb 3 rfl,h.kb 2 rfl,h.kb 1 rfl,h.kb 0 rfl⟩)⟩
 intro hzk
 clear S
 refine RW.c (i:=0) (args:=#[]) (some 55) hzk.out at0 (hx:=fun _=>by kernel_rfl) (h:=fun _ S=>(hA.out _).mono ?_)
 rintro e w9 ⟨rfl,bb⟩
 refine⟨bb,_,[],rfl,rd_nil,?_⟩
 clear bb S
 refine RW.t (i:=1) (v:=.bool true) (some 56) at1 (hy:=fun _ _=>by kernel_rfl) (h:=?_)
 refine RW.t (i:=2) (v:=.agg #[.bool b1,.slice A1 n1 c1,.slice D1 m1 d1,.bool b2,.slice A2 n2 c2,.slice D2 m2 d2]) (some 57) at2 (hy:=fun W hS=>by (obtain⟨k0,k1,k2,k3,k4,k5⟩:=Cb.c6 hS.1;clear hS;go_simp)) (h:=?_)
 refine RW.t (i:=3) (v:=.agg #[.bool b3,.slice A3 n3 c3,.slice D3 m3 d3,.bool b4,.slice A4 n4 c4,.slice D4 m4 d4]) (some 58) at3 (hy:=fun W hS=>by (obtain⟨k0,k1,k2,k3,k4,k5⟩:=Cb.c6 hS.2.1;clear hS;go_simp)) (h:=?_)
 refine RW.t (i:=5) (v:=.agg #[.bool b1,.slice A1 n1 c1,.slice D1 m1 d1,.bool b2,.slice A2 n2 c2,.slice D2 m2 d2]) (some 60) at5 (hy:=fun W hS=>by (obtain⟨k0,k1,k2,k3,k4,k5⟩:=Cb.c6 hS.1;clear hS;go_simp)) (h:=?_)
 refine RW.t (i:=6) (v:=.agg #[.bool b3,.slice A3 n3 c3,.slice D3 m3 d3,.bool b4,.slice A4 n4 c4,.slice D4 m4 d4]) (some 61) at6 (hy:=fun W hS=>by (obtain⟨k0,k1,k2,k3,k4,k5⟩:=Cb.c6 hS.2.1;clear hS;go_simp)) (h:=?_)
 refine RW.c (i:=4) (args:=#[.agg #[.bool b1,.slice A1 n1 c1,.slice D1 m1 d1,.bool b2,.slice A2 n2 c2,.slice D2 m2 d2],.agg #[.bool b3,.slice A3 n3 c3,.slice D3 m3 d3,.bool b4,.slice A4 n4 c4,.slice D4 m4 d4]]) (some 59) hzk.out at4 (hx:=fun _=>by kernel_rfl) (h:=fun _ S=>(hH1.out _ (Rw.of (S.r 25 rfl) (S.r 24 rfl) k1.out) (Rw.of (S.r 23 rfl) (S.r 22 rfl) k2.out) (Rw.of (S.r 21 rfl) (S.r 20 rfl) k3.out) (Rw.of (S.r 19 rfl) (S.r 18 rfl) k4.out)).mono ?_)
 rintro e w10 ⟨A41,n41,c41,D41,m41,d41,A42,n42,c42,D42,m42,d42,rfl,Q41,Q42,bb⟩
 refine⟨bb,_,[(D42,m42,d42,dn hhi),(A42,n42,c42,limbs hhi.num.natAbs),(D41,m41,d41,dn hlo),(A41,n41,c41,limbs hlo.num.natAbs)],rfl,(rd_cons Q42.d (rd_cons Q42.n (rd_cons Q41.d (rd_cons Q41.n rd_nil)))),?_⟩
 clear bb S Q41 Q42
 refine RW.c (i:=7) (args:=#[.agg #[.bool b1,.slice A1 n1 c1,.slice D1 m1 d1,.bool b2,.slice A2 n2 c2,.slice D2 m2 d2],.agg #[.bool b3,.slice A3 n3 c3,.slice D3 m3 d3,.bool b4,.slice A4 n4 c4,.slice D4 m4 d4]]) (some 62) hzk.out at7 (hx:=fun _=>by kernel_rfl) (h:=fun _ S=>(hH2.out _ (Rw.of (S.r 29 rfl) (S.r 28 rfl) k1.out) (Rw.of (S.r 27 rfl) (S.r 26 rfl) k2.out) (Rw.of (S.r 25 rfl) (S.r 24 rfl) k3.out) (Rw.of (S.r 23 rfl) (S.r 22 rfl) k4.out)).mono ?_)
 rintro e w11 ⟨A43,n43,c43,D43,m43,d43,A44,n44,c44,D44,m44,d44,rfl,Q43,Q44,bb⟩
 refine⟨bb,_,[(D44,m44,d44,dn hhi),(A44,n44,c44,limbs hhi.num.natAbs),(D43,m43,d43,dn hlo),(A43,n43,c43,limbs hlo.num.natAbs)],rfl,(rd_cons Q44.d (rd_cons Q44.n (rd_cons Q43.d (rd_cons Q43.n rd_nil)))),?_⟩
 clear bb S Q43 Q44
 refine RW.c (i:=8) (args:=#[.agg #[.bool (ng hlo.num),.slice A41 n41 c41,.slice D41 m41 d41,.bool (ng hhi.num),.slice A42 n42 c42,.slice D42 m42 d42],.agg #[.bool (ng hlo.num),.slice A43 n43 c43,.slice D43 m43 d43,.bool (ng hhi.num),.slice A44 n44 c44,.slice D44 m44 d44]]) (some 63) hzk.out at8 (hx:=fun _=>by kernel_rfl) (h:=fun _ S=>(sameV hlo hhi rh0.out rh1.out _ _ _ _ _ _ _ _ _ _ _ _ _ _ _ _ _ _ _ _ _ _ _ _ _ ⟨S.r 7 rfl,S.r 6 rfl⟩ ⟨S.r 5 rfl,S.r 4 rfl⟩ ⟨S.r 3 rfl,S.r 2 rfl⟩ ⟨S.r 1 rfl,S.r 0 rfl⟩).mono ?_)
 rintro e w12 ⟨rfl,bb⟩
 refine⟨bb,_,[],rfl,rd_nil,?_⟩
 clear bb S
 refine RW.t (i:=9) (v:=.bool true) (some 64) at9 (hy:=fun _ _=>by kernel_rfl) (h:=?_)
 refine RW.t (i:=10) (v:=.bool true) (some 65) at10 (hy:=fun _ _=>by kernel_rfl) (h:=?_)
 refine RW.t (i:=11) (v:=.agg #[.bool (ng mlo.num),.slice A31 n31 c31,.slice D31 m31 d31,.bool (ng mhi.num),.slice A32 n32 c32,.slice D32 m32 d32]) (some 66) at11 (hy:=fun W hS=>by (obtain⟨k0,k1,k2,k3,k4,k5⟩:=Cb.c6 hS.2.2.1;clear hS;go_simp)) (h:=?_)
 refine RW.t (i:=12) (v:=.agg #[.bool (ng mlo.num),.slice A33 n33 c33,.slice D33 m33 d33,.bool (ng mhi.num),.slice A34 n34 c34,.slice D34 m34 d34]) (some 67) at12 (hy:=fun W hS=>by (obtain⟨k0,k1,k2,k3,k4,k5⟩:=Cb.c6 hS.2.2.2.1;clear hS;go_simp)) (h:=?_)
 refine RW.c (i:=13) (args:=#[.agg #[.bool (ng mlo.num),.slice A31 n31 c31,.slice D31 m31 d31,.bool (ng mhi.num),.slice A32 n32 c32,.slice D32 m32 d32],.agg #[.bool (ng mlo.num),.slice A33 n33 c33,.slice D33 m33 d33,.bool (ng mhi.num),.slice A34 n34 c34,.slice D34 m34 d34]]) (some 68) hzk.out at13 (hx:=fun _=>by kernel_rfl) (h:=fun _ S=>(sameV mlo mhi rm0.out rm1.out _ _ _ _ _ _ _ _ _ _ _ _ _ _ _ _ _ _ _ _ _ _ _ _ _ ⟨S.r 23 rfl,S.r 22 rfl⟩ ⟨S.r 21 rfl,S.r 20 rfl⟩ ⟨S.r 19 rfl,S.r 18 rfl⟩ ⟨S.r 17 rfl,S.r 16 rfl⟩).mono ?_)
 rintro e w13 ⟨rfl,bb⟩
 refine⟨bb,_,[],rfl,rd_nil,?_⟩
 clear bb S
 refine RW.t (i:=14) (v:=.bool true) (some 69) at14 (hy:=fun _ _=>by kernel_rfl) (h:=?_)
 refine RW.t (i:=15) (v:=.bool true) (some 70) at15 (hy:=fun _ _=>by kernel_rfl) (h:=?_)
 refine RW.t (i:=16) (v:=.bool mok) (some 71) at16 (hy:=fun _ _=>by kernel_rfl) (h:=?_)
 refine RW.t (i:=17) (v:=.bool mok) (some 72) at17 (hy:=fun _ _=>by kernel_rfl) (h:=?_)
 refine RW.t (i:=18) (v:=.bool true) (some 73) at18 (hy:=fun _ _=>by go_simp) (h:=?_)
 refine RW.t (i:=19) (v:=.bool true) (some 74) at19 (hy:=fun _ _=>by kernel_rfl) (h:=?_)
 refine RW.t (i:=20) (v:=.bool true) (some 75) at20 (hy:=fun _ _=>by kernel_rfl) (h:=?_)
 refine RW.t (i:=21) (v:=.agg #[.bool (ng rlo.num),.slice A35 n35 c35,.slice D35 m35 d35,.bool (ng rhi.num),.slice A36 n36 c36,.slice D36 m36 d36]) (some 76) at21 (hy:=fun W hS=>by (obtain⟨k0,k1,k2,k3,k4,k5⟩:=Cb.c6 hS.2.2.2.2.1;clear hS;go_simp)) (h:=?_)
 refine RW.t (i:=22) (v:=.agg #[.bool (ng rlo.num),.slice A37 n37 c37,.slice D37 m37 d37,.bool (ng rhi.num),.slice A38 n38 c38,.slice D38 m38 d38]) (some 77) at22 (hy:=fun W hS=>by (obtain⟨k0,k1,k2,k3,k4,k5⟩:=Cb.c6 hS.2.2.2.2.2;clear hS;go_simp)) (h:=?_)
 refine RW.c (i:=23) (args:=#[.agg #[.bool (ng rlo.num),.slice A35 n35 c35,.slice D35 m35 d35,.bool (ng rhi.num),.slice A36 n36 c36,.slice D36 m36 d36],.agg #[.bool (ng rlo.num),.slice A37 n37 c37,.slice D37 m37 d37,.bool (ng rhi.num),.slice A38 n38 c38,.slice D38 m38 d38]]) (some 78) hzk.out at23 (hx:=fun _=>by kernel_rfl) (h:=fun _ S=>(sameV rlo rhi rr0.out rr1.out _ _ _ _ _ _ _ _ _ _ _ _ _ _ _ _ _ _ _ _ _ _ _ _ _ ⟨S.r 15 rfl,S.r 14 rfl⟩ ⟨S.r 13 rfl,S.r 12 rfl⟩ ⟨S.r 11 rfl,S.r 10 rfl⟩ ⟨S.r 9 rfl,S.r 8 rfl⟩).mono ?_)
 rintro e w14 ⟨rfl,bb⟩
 refine⟨bb,_,[],rfl,rd_nil,?_⟩
 clear bb S
 refine RW.t (i:=24) (v:=.bool true) (some 79) at24 (hy:=fun _ _=>by kernel_rfl) (h:=?_)
 refine RW.t (i:=25) (v:=.bool true) (some 80) at25 (hy:=fun _ _=>by kernel_rfl) (h:=?_)
 refine RW.t (i:=26) (v:=.int .i64 rer) (some 81) at26 (hy:=fun _ _=>by kernel_rfl) (h:=?_)
 refine RW.t (i:=27) (v:=.int .i64 rer) (some 82) at27 (hy:=fun _ _=>by kernel_rfl) (h:=?_)
 refine RW.t (i:=28) (v:=.bool true) (some 83) at28 (hy:=fun _ _=>by go_simp) (h:=?_)
 refine RW.t (i:=29) (v:=.bool true) (some 84) at29 (hy:=fun _ _=>by kernel_rfl) (h:=?_)
 refine RW.tail hzk.out (by kernel_rfl) ?_
 intro gs w15 hgs hS S
 obtain rfl:=len0 hgs
 clear hS hgs hzk
 simp only[mark,fill,Act.put,List.setIfInBounds_toArray,List.set_cons_zero,List.set_cons_succ]
 replace S:=Lib.hid S
 refine Wk.o (i:=30) at30 (by kernel_rfl) fun K' hK=>?_
 go_simp
 have SN:=S.out
 clear S
 have S:=SN
 clear SN
 refine hK.out _ _ ⟨(S.cb 6 rfl),(S.cb 5 rfl),(S.cb 3 rfl),(S.cb 2 rfl),(S.cb 1 rfl),(S.cb 0 rfl)⟩ ?_
 clear hK K'
 replace S:=Lib.hid S
 try simp only[Act.put,List.setIfInBounds_toArray,List.set_cons_zero,List.set_cons_succ]
 refine Wk.done (by kernel_rfl) ?_
 go_simp
 replace S:=S.out
 have S:St w _ [(w7.heap.size,#[.bool (ng rlo.num),.slice A37 n37 c37,.slice D37 m37 d37,.bool (ng rhi.num),.slice A38 n38 c38,.slice D38 m38 d38],28),(w6.heap.size,#[.bool (ng rlo.num),.slice A35 n35 c35,.slice D35 m35 d35,.bool (ng rhi.num),.slice A36 n36 c36,.slice D36 m36 d36],28),(w5.heap.size,#[.bool (ng mlo.num),.slice A33 n33 c33,.slice D33 m33 d33,.bool (ng mhi.num),.slice A34 n34 c34,.slice D34 m34 d34],28),(w4.heap.size,#[.bool (ng mlo.num),.slice A31 n31 c31,.slice D31 m31 d31,.bool (ng mhi.num),.slice A32 n32 c32,.slice D32 m32 d32],28),(w.heap.size+1+1,#[.bool b5,.slice A5 n5 c5,.slice D5 m5 d5],26),(w.heap.size+1,#[.bool b3,.slice A3 n3 c3,.slice D3 m3 d3,.bool b4,.slice A4 n4 c4,.slice D4 m4 d4],28),(w.heap.size,#[.bool b1,.slice A1 n1 c1,.slice D1 m1 d1,.bool b2,.slice A2 n2 c2,.slice D2 m2 d2],28)] [(D44,m44,d44,dn hhi),(A44,n44,c44,limbs hhi.num.natAbs),(D43,m43,d43,dn hlo),(A43,n43,c43,limbs hlo.num.natAbs),(D42,m42,d42,dn hhi),(A42,n42,c42,limbs hhi.num.natAbs),(D41,m41,d41,dn hlo),(A41,n41,c41,limbs hlo.num.natAbs),(D38,m38,d38,dn rhi),(A38,n38,c38,limbs rhi.num.natAbs),(D37,m37,d37,dn rlo),(A37,n37,c37,limbs rlo.num.natAbs),(D36,m36,d36,dn rhi),(A36,n36,c36,limbs rhi.num.natAbs),(D35,m35,d35,dn rlo),(A35,n35,c35,limbs rlo.num.natAbs),(D34,m34,d34,dn mhi),(A34,n34,c34,limbs mhi.num.natAbs),(D33,m33,d33,dn mlo),(A33,n33,c33,limbs mlo.num.natAbs),(D32,m32,d32,dn mhi),(A32,n32,c32,limbs mhi.num.natAbs),(D31,m31,d31,dn mlo),(A31,n31,c31,limbs mlo.num.natAbs),(D5,m5,d5,y5),(A5,n5,c5,x5),(D4,m4,d4,y4),(A4,n4,c4,x4),(D3,m3,d3,y3),(A3,n3,c3,x3),(D2,m2,d2,y2),(A2,n2,c2,x2),(D1,m1,d1,y1),(A1,n1,c1,x1)]:=S
 replace S:=Lib.hid S
 replace S:=S.out
 replace S:=Lib.hid S
 have S:=S.out
 replace S:=Lib.hid S
 go_wp2
 go_ret
 exact⟨rfl,S.out.bel⟩
end Go.Proofs.YtphckmdnflbloaaGreat
