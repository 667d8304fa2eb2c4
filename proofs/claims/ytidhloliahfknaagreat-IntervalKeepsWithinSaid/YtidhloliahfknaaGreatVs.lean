/- The law IntervalKeepsWithin. -/
import Derived.Test.YtidhloliahfknaaGreatVr
import Derived.Test.YtidhloliahfknaaGreatQVaz
namespace Go.Proofs.YtidhloliahfknaaGreat
open Go.RowKit RQ

set_option maxRecDepth 100000 in
set_option maxHeartbeats 16000000 in
theorem law_kw (b1 : Bool) (A1 : Option Addr) (n1 c1 : Nat) (x1 : List Nat) (D1 : Option Addr) (m1 d1 : Nat) (y1 : List Nat) (b2 : Bool) (A2 : Option Addr) (n2 c2 : Nat) (x2 : List Nat) (D2 : Option Addr) (m2 d2 : Nat) (y2 : List Nat) (b3 : Bool) (A3 : Option Addr) (n3 c3 : Nat) (x3 : List Nat) (D3 : Option Addr) (m3 d3 : Nat) (y3 : List Nat) (b4 : Bool) (A4 : Option Addr) (n4 c4 : Nat) (x4 : List Nat) (D4 : Option Addr) (m4 d4 : Nat) (y4 : List Nat) (b5 : Bool) (A5 : Option Addr) (n5 c5 : Nat) (x5 : List Nat) (D5 : Option Addr) (m5 d5 : Nat) (y5 : List Nat) (b6 : Bool) (A6 : Option Addr) (n6 c6 : Nat) (x6 : List Nat) (D6 : Option Addr) (m6 d6 : Nat) (y6 : List Nat) (w : World) (R1 : Rd w A1 n1 c1 x1) (M1 : n1 ≤ 9223372036854775807) (D1' : Rd w D1 m1 d1 y1) (N1 : m1 ≤ 9223372036854775807) (R2 : Rd w A2 n2 c2 x2) (M2 : n2 ≤ 9223372036854775807) (D2' : Rd w D2 m2 d2 y2) (N2 : m2 ≤ 9223372036854775807) (R3 : Rd w A3 n3 c3 x3) (M3 : n3 ≤ 9223372036854775807) (D3' : Rd w D3 m3 d3 y3) (N3 : m3 ≤ 9223372036854775807) (R4 : Rd w A4 n4 c4 x4) (M4 : n4 ≤ 9223372036854775807) (D4' : Rd w D4 m4 d4 y4) (N4 : m4 ≤ 9223372036854775807) (R5 : Rd w A5 n5 c5 x5) (M5 : n5 ≤ 9223372036854775807) (D5' : Rd w D5 m5 d5 y5) (N5 : m5 ≤ 9223372036854775807) (R6 : Rd w A6 n6 c6 x6) (M6 : n6 ≤ 9223372036854775807) (D6' : Rd w D6 m6 d6 y6) (N6 : m6 ≤ 9223372036854775807) : Calls Tryz.prog 8 #[.agg #[.bool b1, .slice A1 n1 c1, .slice D1 m1 d1, .bool b2, .slice A2 n2 c2, .slice D2 m2 d2], .agg #[.bool b3, .slice A3 n3 c3, .slice D3 m3 d3, .bool b4, .slice A4 n4 c4, .slice D4 m4 d4], .agg #[.bool b5, .slice A5 n5 c5, .slice D5 m5 d5, .bool b6, .slice A6 n6 c6, .slice D6 m6 d6]] w fun e w' => e = .returned (.bool true) ∧ Below w.heap.size w w' := by
  have hA := Lib.hid (fun W => awakeV_any W)
  have hL0 := fun W => light4_any b1 A1 n1 c1 D1 m1 d1 b2 A2 n2 c2 D2 m2 d2 W M1 N1 M2 N2
  have hL1 := fun W => light4_any b3 A3 n3 c3 D3 m3 d3 b4 A4 n4 c4 D4 m4 d4 W M3 N3 M4 N4
  have hL2 := fun W => light4_any b5 A5 n5 c5 D5 m5 d5 b6 A6 n6 c6 D6 m6 d6 W M5 N5 M6 N6
  cases l0 : (lightB n1 m1 && lightB n2 m2)
  · rw [l0] at hL0
    replace hL0 := Lib.hid hL0
    clear hL1
    clear hL2
    clear l0
    have S := ((((((((((((((((St.new w).read R1).read D1').read R2).read D2').read R3).read D3').read R4).read D4').read R5).read D5').read R6).read D6').allocAt (w.heap.size) #[.bool b1, .slice A1 n1 c1, .slice D1 m1 d1, .bool b2, .slice A2 n2 c2, .slice D2 m2 d2] 28 (noL6 _ _ _ _ _ _ _ _ _ _ _ _ _ _) (by simp)).allocAt (w.heap.size + 1) #[.bool b3, .slice A3 n3 c3, .slice D3 m3 d3, .bool b4, .slice A4 n4 c4, .slice D4 m4 d4] 28 (noL6 _ _ _ _ _ _ _ _ _ _ _ _ _ _) (by simp)).allocAt (w.heap.size + 1 + 1) #[.bool b5, .slice A5 n5 c5, .slice D5 m5 d5, .bool b6, .slice A6 n6 c6, .slice D6 m6 d6] 28 (noL6 _ _ _ _ _ _ _ _ _ _ _ _ _ _) (by simp))
    replace S := Lib.hid S
    clear R1 M1 D1' N1 R2 M2 D2' N2 R3 M3 D3' N3 R4 M4 D4' N4 R5 M5 D5' N5 R6 M6 D6' N6
    go_enter Tryz.func8, Tryz.ntmps8
    go_wp2_with fail
    refine (hL0.out _).mono ?_
    rintro e w1 ⟨rfl, bb⟩
    have T := (S.out.call bb)
    clear bb S
    have S := T
    clear T
    obtain ⟨c_c0, c_c1, c_c2, c_c3, c_c4, c_c5⟩ := S.c6 0 rfl
    obtain ⟨c_b0, c_b1, c_b2, c_b3, c_b4, c_b5⟩ := S.c6 1 rfl
    obtain ⟨c_a0, c_a1, c_a2, c_a3, c_a4, c_a5⟩ := S.c6 2 rfl
    have hz : w.heap.size + 1 + 1 < w1.heap.size := S.lt 0 rfl
    replace S := Lib.hid S
    clear hL0
    go_wp2_with fail
    refine (hA.out _).mono ?_
    rintro e w2 ⟨rfl, bb⟩
    have T := (S.out.call bb)
    clear bb S c_c0 c_c1 c_c2 c_c3 c_c4 c_c5 c_b0 c_b1 c_b2 c_b3 c_b4 c_b5 c_a0 c_a1 c_a2 c_a3 c_a4 c_a5 hz
    have S := T
    clear T
    obtain ⟨c_c0, c_c1, c_c2, c_c3, c_c4, c_c5⟩ := S.c6 0 rfl
    obtain ⟨c_b0, c_b1, c_b2, c_b3, c_b4, c_b5⟩ := S.c6 1 rfl
    obtain ⟨c_a0, c_a1, c_a2, c_a3, c_a4, c_a5⟩ := S.c6 2 rfl
    have hz : w.heap.size + 1 + 1 < w2.heap.size := S.lt 0 rfl
    replace S := Lib.hid S
    have S := S.out
    replace S := Lib.hid S
    go_wp2
    go_ret
    exact ⟨rfl, S.out.bel⟩
  rw [l0] at hL0
  cases l1 : (lightB n3 m3 && lightB n4 m4)
  · rw [l1] at hL1
    replace hL0 := Lib.hid hL0
    replace hL1 := Lib.hid hL1
    clear hL2
    clear l0 l1
    have S := ((((((((((((((((St.new w).read R1).read D1').read R2).read D2').read R3).read D3').read R4).read D4').read R5).read D5').read R6).read D6').allocAt (w.heap.size) #[.bool b1, .slice A1 n1 c1, .slice D1 m1 d1, .bool b2, .slice A2 n2 c2, .slice D2 m2 d2] 28 (noL6 _ _ _ _ _ _ _ _ _ _ _ _ _ _) (by simp)).allocAt (w.heap.size + 1) #[.bool b3, .slice A3 n3 c3, .slice D3 m3 d3, .bool b4, .slice A4 n4 c4, .slice D4 m4 d4] 28 (noL6 _ _ _ _ _ _ _ _ _ _ _ _ _ _) (by simp)).allocAt (w.heap.size + 1 + 1) #[.bool b5, .slice A5 n5 c5, .slice D5 m5 d5, .bool b6, .slice A6 n6 c6, .slice D6 m6 d6] 28 (noL6 _ _ _ _ _ _ _ _ _ _ _ _ _ _) (by simp))
    replace S := Lib.hid S
    clear R1 M1 D1' N1 R2 M2 D2' N2 R3 M3 D3' N3 R4 M4 D4' N4 R5 M5 D5' N5 R6 M6 D6' N6
    go_enter Tryz.func8, Tryz.ntmps8
    go_wp2_with fail
    refine (hL0.out _).mono ?_
    rintro e w1 ⟨rfl, bb⟩
    have T := (S.out.call bb)
    clear bb S
    have S := T
    clear T
    obtain ⟨c_c0, c_c1, c_c2, c_c3, c_c4, c_c5⟩ := S.c6 0 rfl
    obtain ⟨c_b0, c_b1, c_b2, c_b3, c_b4, c_b5⟩ := S.c6 1 rfl
    obtain ⟨c_a0, c_a1, c_a2, c_a3, c_a4, c_a5⟩ := S.c6 2 rfl
    have hz : w.heap.size + 1 + 1 < w1.heap.size := S.lt 0 rfl
    replace S := Lib.hid S
    clear hL0
    go_wp2_with fail
    refine (hL1.out _).mono ?_
    rintro e w2 ⟨rfl, bb⟩
    have T := (S.out.call bb)
    clear bb S c_c0 c_c1 c_c2 c_c3 c_c4 c_c5 c_b0 c_b1 c_b2 c_b3 c_b4 c_b5 c_a0 c_a1 c_a2 c_a3 c_a4 c_a5 hz
    have S := T
    clear T
    obtain ⟨c_c0, c_c1, c_c2, c_c3, c_c4, c_c5⟩ := S.c6 0 rfl
    obtain ⟨c_b0, c_b1, c_b2, c_b3, c_b4, c_b5⟩ := S.c6 1 rfl
    obtain ⟨c_a0, c_a1, c_a2, c_a3, c_a4, c_a5⟩ := S.c6 2 rfl
    have hz : w.heap.size + 1 + 1 < w2.heap.size := S.lt 0 rfl
    replace S := Lib.hid S
    clear hL1
    go_wp2_with fail
    refine (hA.out _).mono ?_
    rintro e w3 ⟨rfl, bb⟩
    have T := (S.out.call bb)
    clear bb S c_c0 c_c1 c_c2 c_c3 c_c4 c_c5 c_b0 c_b1 c_b2 c_b3 c_b4 c_b5 c_a0 c_a1 c_a2 c_a3 c_a4 c_a5 hz
    have S := T
    clear T
    obtain ⟨c_c0, c_c1, c_c2, c_c3, c_c4, c_c5⟩ := S.c6 0 rfl
    obtain ⟨c_b0, c_b1, c_b2, c_b3, c_b4, c_b5⟩ := S.c6 1 rfl
    obtain ⟨c_a0, c_a1, c_a2, c_a3, c_a4, c_a5⟩ := S.c6 2 rfl
    have hz : w.heap.size + 1 + 1 < w3.heap.size := S.lt 0 rfl
    replace S := Lib.hid S
    have S := S.out
    replace S := Lib.hid S
    go_wp2
    go_ret
    exact ⟨rfl, S.out.bel⟩
  rw [l1] at hL1
  cases l2 : (lightB n5 m5 && lightB n6 m6)
  · rw [l2] at hL2
    replace hL0 := Lib.hid hL0
    replace hL1 := Lib.hid hL1
    replace hL2 := Lib.hid hL2
    clear l0 l1 l2
    have S := ((((((((((((((((St.new w).read R1).read D1').read R2).read D2').read R3).read D3').read R4).read D4').read R5).read D5').read R6).read D6').allocAt (w.heap.size) #[.bool b1, .slice A1 n1 c1, .slice D1 m1 d1, .bool b2, .slice A2 n2 c2, .slice D2 m2 d2] 28 (noL6 _ _ _ _ _ _ _ _ _ _ _ _ _ _) (by simp)).allocAt (w.heap.size + 1) #[.bool b3, .slice A3 n3 c3, .slice D3 m3 d3, .bool b4, .slice A4 n4 c4, .slice D4 m4 d4] 28 (noL6 _ _ _ _ _ _ _ _ _ _ _ _ _ _) (by simp)).allocAt (w.heap.size + 1 + 1) #[.bool b5, .slice A5 n5 c5, .slice D5 m5 d5, .bool b6, .slice A6 n6 c6, .slice D6 m6 d6] 28 (noL6 _ _ _ _ _ _ _ _ _ _ _ _ _ _) (by simp))
    replace S := Lib.hid S
    clear R1 M1 D1' N1 R2 M2 D2' N2 R3 M3 D3' N3 R4 M4 D4' N4 R5 M5 D5' N5 R6 M6 D6' N6
    go_enter Tryz.func8, Tryz.ntmps8
    go_wp2_with fail
    refine (hL0.out _).mono ?_
    rintro e w1 ⟨rfl, bb⟩
    have T := (S.out.call bb)
    clear bb S
    have S := T
    clear T
    obtain ⟨c_c0, c_c1, c_c2, c_c3, c_c4, c_c5⟩ := S.c6 0 rfl
    obtain ⟨c_b0, c_b1, c_b2, c_b3, c_b4, c_b5⟩ := S.c6 1 rfl
    obtain ⟨c_a0, c_a1, c_a2, c_a3, c_a4, c_a5⟩ := S.c6 2 rfl
    have hz : w.heap.size + 1 + 1 < w1.heap.size := S.lt 0 rfl
    replace S := Lib.hid S
    clear hL0
    go_wp2_with fail
    refine (hL1.out _).mono ?_
    rintro e w2 ⟨rfl, bb⟩
    have T := (S.out.call bb)
    clear bb S c_c0 c_c1 c_c2 c_c3 c_c4 c_c5 c_b0 c_b1 c_b2 c_b3 c_b4 c_b5 c_a0 c_a1 c_a2 c_a3 c_a4 c_a5 hz
    have S := T
    clear T
    obtain ⟨c_c0, c_c1, c_c2, c_c3, c_c4, c_c5⟩ := S.c6 0 rfl
    obtain ⟨c_b0, c_b1, c_b2, c_b3, c_b4, c_b5⟩ := S.c6 1 rfl
    obtain ⟨c_a0, c_a1, c_a2, c_a3, c_a4, c_a5⟩ := S.c6 2 rfl
    have hz : w.heap.size + 1 + 1 < w2.heap.size := S.lt 0 rfl
    replace S := Lib.hid S
    clear hL1
    go_wp2_with fail
    refine (hL2.out _).mono ?_
    rintro e w3 ⟨rfl, bb⟩
    have T := (S.out.call bb)
    clear bb S c_c0 c_c1 c_c2 c_c3 c_c4 c_c5 c_b0 c_b1 c_b2 c_b3 c_b4 c_b5 c_a0 c_a1 c_a2 c_a3 c_a4 c_a5 hz
    have S := T
    clear T
    obtain ⟨c_c0, c_c1, c_c2, c_c3, c_c4, c_c5⟩ := S.c6 0 rfl
    obtain ⟨c_b0, c_b1, c_b2, c_b3, c_b4, c_b5⟩ := S.c6 1 rfl
    obtain ⟨c_a0, c_a1, c_a2, c_a3, c_a4, c_a5⟩ := S.c6 2 rfl
    have hz : w.heap.size + 1 + 1 < w3.heap.size := S.lt 0 rfl
    replace S := Lib.hid S
    clear hL2
    go_wp2_with fail
    refine (hA.out _).mono ?_
    rintro e w4 ⟨rfl, bb⟩
    have T := (S.out.call bb)
    clear bb S c_c0 c_c1 c_c2 c_c3 c_c4 c_c5 c_b0 c_b1 c_b2 c_b3 c_b4 c_b5 c_a0 c_a1 c_a2 c_a3 c_a4 c_a5 hz
    have S := T
    clear T
    obtain ⟨c_c0, c_c1, c_c2, c_c3, c_c4, c_c5⟩ := S.c6 0 rfl
    obtain ⟨c_b0, c_b1, c_b2, c_b3, c_b4, c_b5⟩ := S.c6 1 rfl
    obtain ⟨c_a0, c_a1, c_a2, c_a3, c_a4, c_a5⟩ := S.c6 2 rfl
    have hz : w.heap.size + 1 + 1 < w4.heap.size := S.lt 0 rfl
    replace S := Lib.hid S
    have S := S.out
    replace S := Lib.hid S
    go_wp2
    go_ret
    exact ⟨rfl, S.out.bel⟩
  rw [l2] at hL2
  rw [Bool.and_eq_true] at l0 l1 l2
  obtain ⟨g1, g2⟩ := l0
  obtain ⟨g3, g4⟩ := l1
  obtain ⟨g5, g6⟩ := l2
  obtain ⟨q1, X1, s1⟩ : ∃ q, Rw w b1 A1 n1 c1 x1 D1 m1 d1 y1 q ∧ Rs q 8 := ⟨rv b1 x1 y1, ⟨R1, D1', rfl, by have := light_8 g1; omega, by have := light_8 g1; omega⟩, rs_light R1 D1' g1⟩
  obtain ⟨q2, X2, s2⟩ : ∃ q, Rw w b2 A2 n2 c2 x2 D2 m2 d2 y2 q ∧ Rs q 8 := ⟨rv b2 x2 y2, ⟨R2, D2', rfl, by have := light_8 g2; omega, by have := light_8 g2; omega⟩, rs_light R2 D2' g2⟩
  obtain ⟨q3, X3, s3⟩ : ∃ q, Rw w b3 A3 n3 c3 x3 D3 m3 d3 y3 q ∧ Rs q 8 := ⟨rv b3 x3 y3, ⟨R3, D3', rfl, by have := light_8 g3; omega, by have := light_8 g3; omega⟩, rs_light R3 D3' g3⟩
  obtain ⟨q4, X4, s4⟩ : ∃ q, Rw w b4 A4 n4 c4 x4 D4 m4 d4 y4 q ∧ Rs q 8 := ⟨rv b4 x4 y4, ⟨R4, D4', rfl, by have := light_8 g4; omega, by have := light_8 g4; omega⟩, rs_light R4 D4' g4⟩
  obtain ⟨q5, X5, s5⟩ : ∃ q, Rw w b5 A5 n5 c5 x5 D5 m5 d5 y5 q ∧ Rs q 8 := ⟨rv b5 x5 y5, ⟨R5, D5', rfl, by have := light_8 g5; omega, by have := light_8 g5; omega⟩, rs_light R5 D5' g5⟩
  obtain ⟨q6, X6, s6⟩ : ∃ q, Rw w b6 A6 n6 c6 x6 D6 m6 d6 y6 q ∧ Rs q 8 := ⟨rv b6 x6 y6, ⟨R6, D6', rfl, by have := light_8 g6; omega, by have := light_8 g6; omega⟩, rs_light R6 D6' g6⟩
  clear g1 g2 g3 g4 g5 g6 R1 M1 D1' N1 R2 M2 D2' N2 R3 M3 D3' N3 R4 M4 D4' N4 R5 M5 D5' N5 R6 M6 D6' N6
  replace hL0 := Lib.hid hL0
  replace hL1 := Lib.hid hL1
  replace hL2 := Lib.hid hL2
  have hC1 := fun W h1 h2 h3 h4 => rwithin_any b1 A1 n1 c1 x1 D1 m1 d1 y1 q1 b2 A2 n2 c2 x2 D2 m2 d2 y2 q2 b5 A5 n5 c5 x5 D5 m5 d5 y5 q5 b6 A6 n6 c6 x6 D6 m6 d6 y6 q6 W h1 h2 h3 h4
  have k1 := Lib.hid X1.k
  have k2 := Lib.hid X2.k
  have k3 := Lib.hid X3.k
  have k4 := Lib.hid X4.k
  have k5 := Lib.hid X5.k
  have k6 := Lib.hid X6.k
  have S := ((((((((((((((((St.new w).read X1.rn).read X1.rd).read X2.rn).read X2.rd).read X3.rn).read X3.rd).read X4.rn).read X4.rd).read X5.rn).read X5.rd).read X6.rn).read X6.rd).allocAt (w.heap.size) #[.bool b1, .slice A1 n1 c1, .slice D1 m1 d1, .bool b2, .slice A2 n2 c2, .slice D2 m2 d2] 28 (noL6 _ _ _ _ _ _ _ _ _ _ _ _ _ _) (by simp)).allocAt (w.heap.size + 1) #[.bool b3, .slice A3 n3 c3, .slice D3 m3 d3, .bool b4, .slice A4 n4 c4, .slice D4 m4 d4] 28 (noL6 _ _ _ _ _ _ _ _ _ _ _ _ _ _) (by simp)).allocAt (w.heap.size + 1 + 1) #[.bool b5, .slice A5 n5 c5, .slice D5 m5 d5, .bool b6, .slice A6 n6 c6, .slice D6 m6 d6] 28 (noL6 _ _ _ _ _ _ _ _ _ _ _ _ _ _) (by simp))
  replace S := Lib.hid S
  cases u0 : ((decide (klo q5 q6 ≤ klo q1 q2) && decide (klo q1 q2 ≤ khi q5 q6)) && (decide (klo q5 q6 ≤ khi q1 q2) && decide (khi q1 q2 ≤ khi q5 q6)))
  · rw [u0] at hC1
    clear u0
    clear X1 s1 X2 s2 X3 s3 X4 s4 X5 s5 X6 s6
    replace hC1 := Lib.hid hC1
    go_enter Tryz.func8, Tryz.ntmps8
    go_wp2_with fail
    refine (hL0.out _).mono ?_
    rintro e w1 ⟨rfl, bb⟩
    have T := (S.out.call bb)
    clear bb S
    have S := T
    clear T
    obtain ⟨c_c0, c_c1, c_c2, c_c3, c_c4, c_c5⟩ := S.c6 0 rfl
    obtain ⟨c_b0, c_b1, c_b2, c_b3, c_b4, c_b5⟩ := S.c6 1 rfl
    obtain ⟨c_a0, c_a1, c_a2, c_a3, c_a4, c_a5⟩ := S.c6 2 rfl
    have hz : w.heap.size + 1 + 1 < w1.heap.size := S.lt 0 rfl
    replace S := Lib.hid S
    clear hL0
    go_wp2_with fail
    refine (hL1.out _).mono ?_
    rintro e w2 ⟨rfl, bb⟩
    have T := (S.out.call bb)
    clear bb S c_c0 c_c1 c_c2 c_c3 c_c4 c_c5 c_b0 c_b1 c_b2 c_b3 c_b4 c_b5 c_a0 c_a1 c_a2 c_a3 c_a4 c_a5 hz
    have S := T
    clear T
    obtain ⟨c_c0, c_c1, c_c2, c_c3, c_c4, c_c5⟩ := S.c6 0 rfl
    obtain ⟨c_b0, c_b1, c_b2, c_b3, c_b4, c_b5⟩ := S.c6 1 rfl
    obtain ⟨c_a0, c_a1, c_a2, c_a3, c_a4, c_a5⟩ := S.c6 2 rfl
    have hz : w.heap.size + 1 + 1 < w2.heap.size := S.lt 0 rfl
    replace S := Lib.hid S
    clear hL1
    go_wp2_with fail
    refine (hL2.out _).mono ?_
    rintro e w3 ⟨rfl, bb⟩
    have T := (S.out.call bb)
    clear bb S c_c0 c_c1 c_c2 c_c3 c_c4 c_c5 c_b0 c_b1 c_b2 c_b3 c_b4 c_b5 c_a0 c_a1 c_a2 c_a3 c_a4 c_a5 hz
    have S := T
    clear T
    obtain ⟨c_c0, c_c1, c_c2, c_c3, c_c4, c_c5⟩ := S.c6 0 rfl
    obtain ⟨c_b0, c_b1, c_b2, c_b3, c_b4, c_b5⟩ := S.c6 1 rfl
    obtain ⟨c_a0, c_a1, c_a2, c_a3, c_a4, c_a5⟩ := S.c6 2 rfl
    have hz : w.heap.size + 1 + 1 < w3.heap.size := S.lt 0 rfl
    replace S := Lib.hid S
    clear hL2
    go_wp2_with fail
    refine (hC1.out _ (Rw.of (S.out.r 11 rfl) (S.out.r 10 rfl) k1.out) (Rw.of (S.out.r 9 rfl) (S.out.r 8 rfl) k2.out) (Rw.of (S.out.r 3 rfl) (S.out.r 2 rfl) k5.out) (Rw.of (S.out.r 1 rfl) (S.out.r 0 rfl) k6.out)).mono ?_
    rintro e w4 ⟨rfl, bb⟩
    have T := (S.out.call bb)
    clear bb S c_c0 c_c1 c_c2 c_c3 c_c4 c_c5 c_b0 c_b1 c_b2 c_b3 c_b4 c_b5 c_a0 c_a1 c_a2 c_a3 c_a4 c_a5 hz
    have S := T
    clear T
    obtain ⟨c_c0, c_c1, c_c2, c_c3, c_c4, c_c5⟩ := S.c6 0 rfl
    obtain ⟨c_b0, c_b1, c_b2, c_b3, c_b4, c_b5⟩ := S.c6 1 rfl
    obtain ⟨c_a0, c_a1, c_a2, c_a3, c_a4, c_a5⟩ := S.c6 2 rfl
    have hz : w.heap.size + 1 + 1 < w4.heap.size := S.lt 0 rfl
    replace S := Lib.hid S
    clear hC1
    go_wp2_with fail
    refine (hA.out _).mono ?_
    rintro e w5 ⟨rfl, bb⟩
    have T := (S.out.call bb)
    clear bb S c_c0 c_c1 c_c2 c_c3 c_c4 c_c5 c_b0 c_b1 c_b2 c_b3 c_b4 c_b5 c_a0 c_a1 c_a2 c_a3 c_a4 c_a5 hz
    have S := T
    clear T
    obtain ⟨c_c0, c_c1, c_c2, c_c3, c_c4, c_c5⟩ := S.c6 0 rfl
    obtain ⟨c_b0, c_b1, c_b2, c_b3, c_b4, c_b5⟩ := S.c6 1 rfl
    obtain ⟨c_a0, c_a1, c_a2, c_a3, c_a4, c_a5⟩ := S.c6 2 rfl
    have hz : w.heap.size + 1 + 1 < w5.heap.size := S.lt 0 rfl
    replace S := Lib.hid S
    have S := S.out
    replace S := Lib.hid S
    go_wp2
    go_ret
    exact ⟨rfl, S.out.bel⟩
  rw [u0] at hC1
  replace hC1 := Lib.hid hC1
  simp only [Bool.and_eq_true, decide_eq_true_iff] at u0
  obtain ⟨⟨f1, _⟩, _, f2⟩ := u0
  obtain ⟨ka, kb⟩ := k_rsp s1 s2 (by decide)
  obtain ⟨kc, kd⟩ := k_rsp s3 s4 (by decide)
  obtain ⟨ke, kf⟩ := k_rsp s5 s6 (by decide)
  have f0 := kle q1 q2
  have f3 := kle q3 q4
  have h1 : Hid (∀ W, Rw W b1 A1 n1 c1 x1 D1 m1 d1 y1 q1 → Rw W b2 A2 n2 c2 x2 D2 m2 d2 y2 q2 → Rw W b3 A3 n3 c3 x3 D3 m3 d3 y3 q3 → Rw W b4 A4 n4 c4 x4 D4 m4 d4 y4 q4 → Calls Tryz.prog 30 #[.agg #[.bool b1, .slice A1 n1 c1, .slice D1 m1 d1, .bool b2, .slice A2 n2 c2, .slice D2 m2 d2], .agg #[.bool b3, .slice A3 n3 c3, .slice D3 m3 d3, .bool b4, .slice A4 n4 c4, .slice D4 m4 d4]] W (RetV (klo q1 q2 + klo q3 q4) (khi q1 q2 + khi q3 q4) W)) := Lib.hid fun W h0 h1 h2 h3 => iadd_any _ _ _ _ _ _ _ _ _ _ _ _ _ _ _ _ _ _ _ _ _ _ _ _ _ _ _ _ _ _ _ _ _ _ _ _ _ _ _ _ W h0 h1 h2 h3
  have h2 : Hid (∀ W, Rw W b5 A5 n5 c5 x5 D5 m5 d5 y5 q5 → Rw W b6 A6 n6 c6 x6 D6 m6 d6 y6 q6 → Rw W b3 A3 n3 c3 x3 D3 m3 d3 y3 q3 → Rw W b4 A4 n4 c4 x4 D4 m4 d4 y4 q4 → Calls Tryz.prog 30 #[.agg #[.bool b5, .slice A5 n5 c5, .slice D5 m5 d5, .bool b6, .slice A6 n6 c6, .slice D6 m6 d6], .agg #[.bool b3, .slice A3 n3 c3, .slice D3 m3 d3, .bool b4, .slice A4 n4 c4, .slice D4 m4 d4]] W (RetV (klo q5 q6 + klo q3 q4) (khi q5 q6 + khi q3 q4) W)) := Lib.hid fun W h0 h1 h2 h3 => iadd_any _ _ _ _ _ _ _ _ _ _ _ _ _ _ _ _ _ _ _ _ _ _ _ _ _ _ _ _ _ _ _ _ _ _ _ _ _ _ _ _ W h0 h1 h2 h3
  have h3 : Hid (∀ W, Rw W b1 A1 n1 c1 x1 D1 m1 d1 y1 q1 → Rw W b2 A2 n2 c2 x2 D2 m2 d2 y2 q2 → Rw W b3 A3 n3 c3 x3 D3 m3 d3 y3 q3 → Rw W b4 A4 n4 c4 x4 D4 m4 d4 y4 q4 → Calls Tryz.prog 32 #[.agg #[.bool b1, .slice A1 n1 c1, .slice D1 m1 d1, .bool b2, .slice A2 n2 c2, .slice D2 m2 d2], .agg #[.bool b3, .slice A3 n3 c3, .slice D3 m3 d3, .bool b4, .slice A4 n4 c4, .slice D4 m4 d4]] W (RetV (klo q1 q2 - khi q3 q4) (khi q1 q2 - klo q3 q4) W)) := Lib.hid fun W h0 h1 h2 h3 => isub_any _ _ _ _ _ _ _ _ _ _ _ _ _ _ _ _ _ _ _ _ _ _ _ _ _ _ _ _ _ _ _ _ _ _ _ _ _ _ _ _ W h0 h1 h2 h3
  have h4 : Hid (∀ W, Rw W b5 A5 n5 c5 x5 D5 m5 d5 y5 q5 → Rw W b6 A6 n6 c6 x6 D6 m6 d6 y6 q6 → Rw W b3 A3 n3 c3 x3 D3 m3 d3 y3 q3 → Rw W b4 A4 n4 c4 x4 D4 m4 d4 y4 q4 → Calls Tryz.prog 32 #[.agg #[.bool b5, .slice A5 n5 c5, .slice D5 m5 d5, .bool b6, .slice A6 n6 c6, .slice D6 m6 d6], .agg #[.bool b3, .slice A3 n3 c3, .slice D3 m3 d3, .bool b4, .slice A4 n4 c4, .slice D4 m4 d4]] W (RetV (klo q5 q6 - khi q3 q4) (khi q5 q6 - klo q3 q4) W)) := Lib.hid fun W h0 h1 h2 h3 => isub_any _ _ _ _ _ _ _ _ _ _ _ _ _ _ _ _ _ _ _ _ _ _ _ _ _ _ _ _ _ _ _ _ _ _ _ _ _ _ _ _ W h0 h1 h2 h3
  have h5 : Hid (∀ W, Rw W b1 A1 n1 c1 x1 D1 m1 d1 y1 q1 → Rw W b2 A2 n2 c2 x2 D2 m2 d2 y2 q2 → Rw W b3 A3 n3 c3 x3 D3 m3 d3 y3 q3 → Rw W b4 A4 n4 c4 x4 D4 m4 d4 y4 q4 → Calls Tryz.prog 34 #[.agg #[.bool b1, .slice A1 n1 c1, .slice D1 m1 d1, .bool b2, .slice A2 n2 c2, .slice D2 m2 d2], .agg #[.bool b3, .slice A3 n3 c3, .slice D3 m3 d3, .bool b4, .slice A4 n4 c4, .slice D4 m4 d4]] W (RetV (minL (mulL (klo q1 q2) (khi q1 q2) (klo q3 q4) (khi q3 q4))) (maxL (mulL (klo q1 q2) (khi q1 q2) (klo q3 q4) (khi q3 q4))) W)) := Lib.hid fun W h0 h1 h2 h3 => imul_any _ _ _ _ _ _ _ _ _ _ _ _ _ _ _ _ _ _ _ _ _ _ _ _ _ _ _ _ _ _ _ _ _ _ _ _ _ _ _ _ (s1.mono (by decide)) (s2.mono (by decide)) (s3.mono (by decide)) (s4.mono (by decide)) W h0 h1 h2 h3
  have h6 : Hid (∀ W, Rw W b5 A5 n5 c5 x5 D5 m5 d5 y5 q5 → Rw W b6 A6 n6 c6 x6 D6 m6 d6 y6 q6 → Rw W b3 A3 n3 c3 x3 D3 m3 d3 y3 q3 → Rw W b4 A4 n4 c4 x4 D4 m4 d4 y4 q4 → Calls Tryz.prog 34 #[.agg #[.bool b5, .slice A5 n5 c5, .slice D5 m5 d5, .bool b6, .slice A6 n6 c6, .slice D6 m6 d6], .agg #[.bool b3, .slice A3 n3 c3, .slice D3 m3 d3, .bool b4, .slice A4 n4 c4, .slice D4 m4 d4]] W (RetV (minL (mulL (klo q5 q6) (khi q5 q6) (klo q3 q4) (khi q3 q4))) (maxL (mulL (klo q5 q6) (khi q5 q6) (klo q3 q4) (khi q3 q4))) W)) := Lib.hid fun W h0 h1 h2 h3 => imul_any _ _ _ _ _ _ _ _ _ _ _ _ _ _ _ _ _ _ _ _ _ _ _ _ _ _ _ _ _ _ _ _ _ _ _ _ _ _ _ _ (s5.mono (by decide)) (s6.mono (by decide)) (s3.mono (by decide)) (s4.mono (by decide)) W h0 h1 h2 h3
  have h7 : Hid (∀ W, Rw W b1 A1 n1 c1 x1 D1 m1 d1 y1 q1 → Rw W b2 A2 n2 c2 x2 D2 m2 d2 y2 q2 → Calls Tryz.prog 36 #[.agg #[.bool b1, .slice A1 n1 c1, .slice D1 m1 d1, .bool b2, .slice A2 n2 c2, .slice D2 m2 d2]] W (RetV (minL (sqL (klo q1 q2) (khi q1 q2))) (maxL (sqL (klo q1 q2) (khi q1 q2))) W)) := Lib.hid fun W h0 h1 => isquare_any _ _ _ _ _ _ _ _ _ _ _ _ _ _ _ _ _ _ _ _ (s1.mono (by decide)) (s2.mono (by decide)) W h0 h1
  have h8 : Hid (∀ W, Rw W b5 A5 n5 c5 x5 D5 m5 d5 y5 q5 → Rw W b6 A6 n6 c6 x6 D6 m6 d6 y6 q6 → Calls Tryz.prog 36 #[.agg #[.bool b5, .slice A5 n5 c5, .slice D5 m5 d5, .bool b6, .slice A6 n6 c6, .slice D6 m6 d6]] W (RetV (minL (sqL (klo q5 q6) (khi q5 q6))) (maxL (sqL (klo q5 q6) (khi q5 q6))) W)) := Lib.hid fun W h0 h1 => isquare_any _ _ _ _ _ _ _ _ _ _ _ _ _ _ _ _ _ _ _ _ (s5.mono (by decide)) (s6.mono (by decide)) W h0 h1
  have h9 : Hid (∀ W, Rw W b1 A1 n1 c1 x1 D1 m1 d1 y1 q1 → Rw W b2 A2 n2 c2 x2 D2 m2 d2 y2 q2 → Rw W b1 A1 n1 c1 x1 D1 m1 d1 y1 q1 → Rw W b2 A2 n2 c2 x2 D2 m2 d2 y2 q2 → Calls Tryz.prog 34 #[.agg #[.bool b1, .slice A1 n1 c1, .slice D1 m1 d1, .bool b2, .slice A2 n2 c2, .slice D2 m2 d2], .agg #[.bool b1, .slice A1 n1 c1, .slice D1 m1 d1, .bool b2, .slice A2 n2 c2, .slice D2 m2 d2]] W (RetV (minL (mulL (klo q1 q2) (khi q1 q2) (klo q1 q2) (khi q1 q2))) (maxL (mulL (klo q1 q2) (khi q1 q2) (klo q1 q2) (khi q1 q2))) W)) := Lib.hid fun W h0 h1 h2 h3 => imul_any _ _ _ _ _ _ _ _ _ _ _ _ _ _ _ _ _ _ _ _ _ _ _ _ _ _ _ _ _ _ _ _ _ _ _ _ _ _ _ _ (s1.mono (by decide)) (s2.mono (by decide)) (s1.mono (by decide)) (s2.mono (by decide)) W h0 h1 h2 h3
  have ehT1 : (klo q5 q6 + klo q3 q4) ≤ (klo q1 q2 + klo q3 q4) ∧ (klo q1 q2 + klo q3 q4) ≤ (khi q1 q2 + khi q3 q4) ∧ (khi q1 q2 + khi q3 q4) ≤ (khi q5 q6 + khi q3 q4) := ⟨by grind, by grind, by grind⟩
  have hT1 := Lib.hid (fun A0 n0 c0 D0 m0 d0 A1 n1 c1 D1 m1 d1 A2 n2 c2 D2 m2 d2 A3 n3 c3 D3 m3 d3 W X0 X1 X2 X3 => withT (klo q1 q2 + klo q3 q4) (khi q1 q2 + khi q3 q4) (klo q5 q6 + klo q3 q4) (khi q5 q6 + khi q3 q4) ehT1.1 ehT1.2.1 ehT1.2.2 ((ka.add kc).mono (by decide)) ((kb.add kd).mono (by decide)) ((ke.add kc).mono (by decide)) ((kf.add kd).mono (by decide)) A0 n0 c0 D0 m0 d0 A1 n1 c1 D1 m1 d1 A2 n2 c2 D2 m2 d2 A3 n3 c3 D3 m3 d3 W X0 X1 X2 X3)
  clear ehT1
  have ehT2 : (klo q5 q6 - khi q3 q4) ≤ (klo q1 q2 - khi q3 q4) ∧ (klo q1 q2 - khi q3 q4) ≤ (khi q1 q2 - klo q3 q4) ∧ (khi q1 q2 - klo q3 q4) ≤ (khi q5 q6 - klo q3 q4) := ⟨by grind, by grind, by grind⟩
  have hT2 := Lib.hid (fun A0 n0 c0 D0 m0 d0 A1 n1 c1 D1 m1 d1 A2 n2 c2 D2 m2 d2 A3 n3 c3 D3 m3 d3 W X0 X1 X2 X3 => withT (klo q1 q2 - khi q3 q4) (khi q1 q2 - klo q3 q4) (klo q5 q6 - khi q3 q4) (khi q5 q6 - klo q3 q4) ehT2.1 ehT2.2.1 ehT2.2.2 ((ka.sub kd).mono (by decide)) ((kb.sub kc).mono (by decide)) ((ke.sub kd).mono (by decide)) ((kf.sub kc).mono (by decide)) A0 n0 c0 D0 m0 d0 A1 n1 c1 D1 m1 d1 A2 n2 c2 D2 m2 d2 A3 n3 c3 D3 m3 d3 W X0 X1 X2 X3)
  clear ehT2
  have ehT3 : (minL (mulL (klo q5 q6) (khi q5 q6) (klo q3 q4) (khi q3 q4))) ≤ (minL (mulL (klo q1 q2) (khi q1 q2) (klo q3 q4) (khi q3 q4))) ∧ (minL (mulL (klo q1 q2) (khi q1 q2) (klo q3 q4) (khi q3 q4))) ≤ (maxL (mulL (klo q1 q2) (khi q1 q2) (klo q3 q4) (khi q3 q4))) ∧ (maxL (mulL (klo q1 q2) (khi q1 q2) (klo q3 q4) (khi q3 q4))) ≤ (maxL (mulL (klo q5 q6) (khi q5 q6) (klo q3 q4) (khi q3 q4))) := ⟨(mul_part f1 f0 f2 f3).1, min_max (by simp [mulL]), (mul_part f1 f0 f2 f3).2⟩
  have hT3 := Lib.hid (fun A0 n0 c0 D0 m0 d0 A1 n1 c1 D1 m1 d1 A2 n2 c2 D2 m2 d2 A3 n3 c3 D3 m3 d3 W X0 X1 X2 X3 => withT (minL (mulL (klo q1 q2) (khi q1 q2) (klo q3 q4) (khi q3 q4))) (maxL (mulL (klo q1 q2) (khi q1 q2) (klo q3 q4) (khi q3 q4))) (minL (mulL (klo q5 q6) (khi q5 q6) (klo q3 q4) (khi q3 q4))) (maxL (mulL (klo q5 q6) (khi q5 q6) (klo q3 q4) (khi q3 q4))) ehT3.1 ehT3.2.1 ehT3.2.2 ((mulL_rs ka kb kc kd).1.mono (by decide)) ((mulL_rs ka kb kc kd).2.mono (by decide)) ((mulL_rs ke kf kc kd).1.mono (by decide)) ((mulL_rs ke kf kc kd).2.mono (by decide)) A0 n0 c0 D0 m0 d0 A1 n1 c1 D1 m1 d1 A2 n2 c2 D2 m2 d2 A3 n3 c3 D3 m3 d3 W X0 X1 X2 X3)
  clear ehT3
  have ehT4 : (minL (sqL (klo q5 q6) (khi q5 q6))) ≤ (minL (sqL (klo q1 q2) (khi q1 q2))) ∧ (minL (sqL (klo q1 q2) (khi q1 q2))) ≤ (maxL (sqL (klo q1 q2) (khi q1 q2))) ∧ (maxL (sqL (klo q1 q2) (khi q1 q2))) ≤ (maxL (sqL (klo q5 q6) (khi q5 q6))) := ⟨(sq_part f1 f0 f2).1, min_max (sqL_ne _ _), (sq_part f1 f0 f2).2⟩
  have hT4 := Lib.hid (fun A0 n0 c0 D0 m0 d0 A1 n1 c1 D1 m1 d1 A2 n2 c2 D2 m2 d2 A3 n3 c3 D3 m3 d3 W X0 X1 X2 X3 => withT (minL (sqL (klo q1 q2) (khi q1 q2))) (maxL (sqL (klo q1 q2) (khi q1 q2))) (minL (sqL (klo q5 q6) (khi q5 q6))) (maxL (sqL (klo q5 q6) (khi q5 q6))) ehT4.1 ehT4.2.1 ehT4.2.2 ((sqL_rs ka kb (by decide)).1.mono (by decide)) ((sqL_rs ka kb (by decide)).2.mono (by decide)) ((sqL_rs ke kf (by decide)).1.mono (by decide)) ((sqL_rs ke kf (by decide)).2.mono (by decide)) A0 n0 c0 D0 m0 d0 A1 n1 c1 D1 m1 d1 A2 n2 c2 D2 m2 d2 A3 n3 c3 D3 m3 d3 W X0 X1 X2 X3)
  clear ehT4
  have ehT5 : (minL (mulL (klo q1 q2) (khi q1 q2) (klo q1 q2) (khi q1 q2))) ≤ (minL (sqL (klo q1 q2) (khi q1 q2))) ∧ (minL (sqL (klo q1 q2) (khi q1 q2))) ≤ (maxL (sqL (klo q1 q2) (khi q1 q2))) ∧ (maxL (sqL (klo q1 q2) (khi q1 q2))) ≤ (maxL (mulL (klo q1 q2) (khi q1 q2) (klo q1 q2) (khi q1 q2))) := ⟨(sq_mul f0).1, min_max (sqL_ne _ _), (sq_mul f0).2⟩
  have hT5 := Lib.hid (fun A0 n0 c0 D0 m0 d0 A1 n1 c1 D1 m1 d1 A2 n2 c2 D2 m2 d2 A3 n3 c3 D3 m3 d3 W X0 X1 X2 X3 => withT (minL (sqL (klo q1 q2) (khi q1 q2))) (maxL (sqL (klo q1 q2) (khi q1 q2))) (minL (mulL (klo q1 q2) (khi q1 q2) (klo q1 q2) (khi q1 q2))) (maxL (mulL (klo q1 q2) (khi q1 q2) (klo q1 q2) (khi q1 q2))) ehT5.1 ehT5.2.1 ehT5.2.2 ((sqL_rs ka kb (by decide)).1.mono (by decide)) ((sqL_rs ka kb (by decide)).2.mono (by decide)) ((mulL_rs ka kb ka kb).1.mono (by decide)) ((mulL_rs ka kb ka kb).2.mono (by decide)) A0 n0 c0 D0 m0 d0 A1 n1 c1 D1 m1 d1 A2 n2 c2 D2 m2 d2 A3 n3 c3 D3 m3 d3 W X0 X1 X2 X3)
  clear ehT5
  clear f0 f1 f2 f3 ka kb kc kd ke kf
  generalize klo q1 q2 + klo q3 q4 = l1o at *
  generalize khi q1 q2 + khi q3 q4 = u1o at *
  generalize klo q5 q6 + klo q3 q4 = l2o at *
  generalize khi q5 q6 + khi q3 q4 = u2o at *
  generalize klo q1 q2 - khi q3 q4 = l3o at *
  generalize khi q1 q2 - klo q3 q4 = u3o at *
  generalize klo q5 q6 - khi q3 q4 = l4o at *
  generalize khi q5 q6 - klo q3 q4 = u4o at *
  generalize minL (mulL (klo q1 q2) (khi q1 q2) (klo q3 q4) (khi q3 q4)) = l5o at *
  generalize maxL (mulL (klo q1 q2) (khi q1 q2) (klo q3 q4) (khi q3 q4)) = u5o at *
  generalize minL (mulL (klo q5 q6) (khi q5 q6) (klo q3 q4) (khi q3 q4)) = l6o at *
  generalize maxL (mulL (klo q5 q6) (khi q5 q6) (klo q3 q4) (khi q3 q4)) = u6o at *
  generalize minL (sqL (klo q1 q2) (khi q1 q2)) = l7o at *
  generalize maxL (sqL (klo q1 q2) (khi q1 q2)) = u7o at *
  generalize minL (sqL (klo q5 q6) (khi q5 q6)) = l8o at *
  generalize maxL (sqL (klo q5 q6) (khi q5 q6)) = u8o at *
  generalize minL (mulL (klo q1 q2) (khi q1 q2) (klo q1 q2) (khi q1 q2)) = l9o at *
  generalize maxL (mulL (klo q1 q2) (khi q1 q2) (klo q1 q2) (khi q1 q2)) = u9o at *
  clear X1 s1 X2 s2 X3 s3 X4 s4 X5 s5 X6 s6
  go_enter Tryz.func8, Tryz.ntmps8
  go_wp2_with fail
  refine (hL0.out _).mono ?_
  rintro e w1 ⟨rfl, bb⟩
  have T := (S.out.call bb)
  clear bb S
  have S := T
  clear T
  obtain ⟨c_c0, c_c1, c_c2, c_c3, c_c4, c_c5⟩ := S.c6 0 rfl
  obtain ⟨c_b0, c_b1, c_b2, c_b3, c_b4, c_b5⟩ := S.c6 1 rfl
  obtain ⟨c_a0, c_a1, c_a2, c_a3, c_a4, c_a5⟩ := S.c6 2 rfl
  have hz : w.heap.size + 1 + 1 < w1.heap.size := S.lt 0 rfl
  replace S := Lib.hid S
  clear hL0
  go_wp2_with fail
  refine (hL1.out _).mono ?_
  rintro e w2 ⟨rfl, bb⟩
  have T := (S.out.call bb)
  clear bb S c_c0 c_c1 c_c2 c_c3 c_c4 c_c5 c_b0 c_b1 c_b2 c_b3 c_b4 c_b5 c_a0 c_a1 c_a2 c_a3 c_a4 c_a5 hz
  have S := T
  clear T
  obtain ⟨c_c0, c_c1, c_c2, c_c3, c_c4, c_c5⟩ := S.c6 0 rfl
  obtain ⟨c_b0, c_b1, c_b2, c_b3, c_b4, c_b5⟩ := S.c6 1 rfl
  obtain ⟨c_a0, c_a1, c_a2, c_a3, c_a4, c_a5⟩ := S.c6 2 rfl
  have hz : w.heap.size + 1 + 1 < w2.heap.size := S.lt 0 rfl
  replace S := Lib.hid S
  clear hL1
  go_wp2_with fail
  refine (hL2.out _).mono ?_
  rintro e w3 ⟨rfl, bb⟩
  have T := (S.out.call bb)
  clear bb S c_c0 c_c1 c_c2 c_c3 c_c4 c_c5 c_b0 c_b1 c_b2 c_b3 c_b4 c_b5 c_a0 c_a1 c_a2 c_a3 c_a4 c_a5 hz
  have S := T
  clear T
  obtain ⟨c_c0, c_c1, c_c2, c_c3, c_c4, c_c5⟩ := S.c6 0 rfl
  obtain ⟨c_b0, c_b1, c_b2, c_b3, c_b4, c_b5⟩ := S.c6 1 rfl
  obtain ⟨c_a0, c_a1, c_a2, c_a3, c_a4, c_a5⟩ := S.c6 2 rfl
  have hz : w.heap.size + 1 + 1 < w3.heap.size := S.lt 0 rfl
  replace S := Lib.hid S
  clear hL2
  go_wp2_with fail
  refine (hC1.out _ (Rw.of (S.out.r 11 rfl) (S.out.r 10 rfl) k1.out) (Rw.of (S.out.r 9 rfl) (S.out.r 8 rfl) k2.out) (Rw.of (S.out.r 3 rfl) (S.out.r 2 rfl) k5.out) (Rw.of (S.out.r 1 rfl) (S.out.r 0 rfl) k6.out)).mono ?_
  rintro e w4 ⟨rfl, bb⟩
  have T := (S.out.call bb)
  clear bb S c_c0 c_c1 c_c2 c_c3 c_c4 c_c5 c_b0 c_b1 c_b2 c_b3 c_b4 c_b5 c_a0 c_a1 c_a2 c_a3 c_a4 c_a5 hz
  have S := T
  clear T
  obtain ⟨c_c0, c_c1, c_c2, c_c3, c_c4, c_c5⟩ := S.c6 0 rfl
  obtain ⟨c_b0, c_b1, c_b2, c_b3, c_b4, c_b5⟩ := S.c6 1 rfl
  obtain ⟨c_a0, c_a1, c_a2, c_a3, c_a4, c_a5⟩ := S.c6 2 rfl
  have hz : w.heap.size + 1 + 1 < w4.heap.size := S.lt 0 rfl
  replace S := Lib.hid S
  clear hC1
  go_upto_region 3 with fail
  clear c_c0 c_c1 c_c2 c_c3 c_c4 c_c5 c_b0 c_b1 c_b2 c_b3 c_b4 c_b5 c_a0 c_a1 c_a2 c_a3 c_a4 c_a5 hz
  refine RW.begin (Z := []) (S := (fun W => Cb W (w.heap.size) #[.bool b1, .slice A1 n1 c1, .slice D1 m1 d1, .bool b2, .slice A2 n2 c2, .slice D2 m2 d2] 28 ∧ Cb W (w.heap.size + 1) #[.bool b3, .slice A3 n3 c3, .slice D3 m3 d3, .bool b4, .slice A4 n4 c4, .slice D4 m4 d4] 28 ∧ Cb W (w.heap.size + 1 + 1) #[.bool b5, .slice A5 n5 c5, .slice D5 m5 d5, .bool b6, .slice A6 n6 c6, .slice D6 m6 d6] 28)) (by kernel_rfl) ?_ S.out ?_
  · exact ⟨by kernel_rfl, zis_nil, by decide, by decide, nol_nil, (fun _ _ h => ⟨h.kb 2 rfl, h.kb 1 rfl, h.kb 0 rfl⟩)⟩
  intro hzk
  clear S
  refine RW.c (i := 0) (args := #[]) (some 27) hzk.out at0 (hx := fun _ => by kernel_rfl) (h := fun _ S => (hA.out _).mono ?_)
  rintro e w5 ⟨rfl, bb⟩
  refine ⟨bb, _, [], rfl, rd_nil, ?_⟩
  clear bb S
  refine RW.t (i := 1) (v := .bool true) (some 28) at1 (hy := fun _ _ => by kernel_rfl) (h := ?_)
  refine RW.t (i := 2) (v := .agg #[.bool b1, .slice A1 n1 c1, .slice D1 m1 d1, .bool b2, .slice A2 n2 c2, .slice D2 m2 d2]) (some 29) at2 (hy := fun W hS => by (obtain ⟨k0, k1, k2, k3, k4, k5⟩ := Cb.c6 hS.1; clear hS; go_simp)) (h := ?_)
  refine RW.t (i := 3) (v := .agg #[.bool b3, .slice A3 n3 c3, .slice D3 m3 d3, .bool b4, .slice A4 n4 c4, .slice D4 m4 d4]) (some 30) at3 (hy := fun W hS => by (obtain ⟨k0, k1, k2, k3, k4, k5⟩ := Cb.c6 hS.2.1; clear hS; go_simp)) (h := ?_)
  refine RW.t (i := 5) (v := .agg #[.bool b5, .slice A5 n5 c5, .slice D5 m5 d5, .bool b6, .slice A6 n6 c6, .slice D6 m6 d6]) (some 32) at5 (hy := fun W hS => by (obtain ⟨k0, k1, k2, k3, k4, k5⟩ := Cb.c6 hS.2.2; clear hS; go_simp)) (h := ?_)
  refine RW.t (i := 6) (v := .agg #[.bool b3, .slice A3 n3 c3, .slice D3 m3 d3, .bool b4, .slice A4 n4 c4, .slice D4 m4 d4]) (some 33) at6 (hy := fun W hS => by (obtain ⟨k0, k1, k2, k3, k4, k5⟩ := Cb.c6 hS.2.1; clear hS; go_simp)) (h := ?_)
  refine RW.c (i := 4) (args := #[.agg #[.bool b1, .slice A1 n1 c1, .slice D1 m1 d1, .bool b2, .slice A2 n2 c2, .slice D2 m2 d2], .agg #[.bool b3, .slice A3 n3 c3, .slice D3 m3 d3, .bool b4, .slice A4 n4 c4, .slice D4 m4 d4]]) (some 31) hzk.out at4 (hx := fun _ => by kernel_rfl) (h := fun _ S => (h1.out _ (Rw.of (S.r 11 rfl) (S.r 10 rfl) k1.out) (Rw.of (S.r 9 rfl) (S.r 8 rfl) k2.out) (Rw.of (S.r 7 rfl) (S.r 6 rfl) k3.out) (Rw.of (S.r 5 rfl) (S.r 4 rfl) k4.out)).mono ?_)
  rintro e w6 ⟨A40, n40, c40, D40, m40, d40, A41, n41, c41, D41, m41, d41, rfl, Q40, Q41, bb⟩
  refine ⟨bb, _, [(D41, m41, d41, dn u1o), (A41, n41, c41, limbs u1o.num.natAbs), (D40, m40, d40, dn l1o), (A40, n40, c40, limbs l1o.num.natAbs)], rfl, (rd_cons Q41.d (rd_cons Q41.n (rd_cons Q40.d (rd_cons Q40.n rd_nil)))), ?_⟩
  clear bb S Q40 Q41
  refine RW.c (i := 7) (args := #[.agg #[.bool b5, .slice A5 n5 c5, .slice D5 m5 d5, .bool b6, .slice A6 n6 c6, .slice D6 m6 d6], .agg #[.bool b3, .slice A3 n3 c3, .slice D3 m3 d3, .bool b4, .slice A4 n4 c4, .slice D4 m4 d4]]) (some 34) hzk.out at7 (hx := fun _ => by kernel_rfl) (h := fun _ S => (h2.out _ (Rw.of (S.r 7 rfl) (S.r 6 rfl) k5.out) (Rw.of (S.r 5 rfl) (S.r 4 rfl) k6.out) (Rw.of (S.r 11 rfl) (S.r 10 rfl) k3.out) (Rw.of (S.r 9 rfl) (S.r 8 rfl) k4.out)).mono ?_)
  rintro e w7 ⟨A42, n42, c42, D42, m42, d42, A43, n43, c43, D43, m43, d43, rfl, Q42, Q43, bb⟩
  refine ⟨bb, _, [(D43, m43, d43, dn u2o), (A43, n43, c43, limbs u2o.num.natAbs), (D42, m42, d42, dn l2o), (A42, n42, c42, limbs l2o.num.natAbs)], rfl, (rd_cons Q43.d (rd_cons Q43.n (rd_cons Q42.d (rd_cons Q42.n rd_nil)))), ?_⟩
  clear bb S Q42 Q43
  refine RW.c (i := 8) (args := #[.agg #[.bool (ng l1o.num), .slice A40 n40 c40, .slice D40 m40 d40, .bool (ng u1o.num), .slice A41 n41 c41, .slice D41 m41 d41], .agg #[.bool (ng l2o.num), .slice A42 n42 c42, .slice D42 m42 d42, .bool (ng u2o.num), .slice A43 n43 c43, .slice D43 m43 d43]]) (some 35) hzk.out at8 (hx := fun _ => by kernel_rfl) (h := fun _ S => (hT1.out _ _ _ _ _ _ _ _ _ _ _ _ _ _ _ _ _ _ _ _ _ _ _ _ _ ⟨S.r 7 rfl, S.r 6 rfl⟩ ⟨S.r 5 rfl, S.r 4 rfl⟩ ⟨S.r 3 rfl, S.r 2 rfl⟩ ⟨S.r 1 rfl, S.r 0 rfl⟩).mono ?_)
  rintro e w8 ⟨rfl, bb⟩
  refine ⟨bb, _, [], rfl, rd_nil, ?_⟩
  clear bb S
  refine RW.t (i := 9) (v := .bool true) (some 36) at9 (hy := fun _ _ => by kernel_rfl) (h := ?_)
  refine RW.t (i := 10) (v := .bool true) (some 37) at10 (hy := fun _ _ => by kernel_rfl) (h := ?_)
  refine RW.t (i := 11) (v := .agg #[.bool b1, .slice A1 n1 c1, .slice D1 m1 d1, .bool b2, .slice A2 n2 c2, .slice D2 m2 d2]) (some 38) at11 (hy := fun W hS => by (obtain ⟨k0, k1, k2, k3, k4, k5⟩ := Cb.c6 hS.1; clear hS; go_simp)) (h := ?_)
  refine RW.t (i := 12) (v := .agg #[.bool b3, .slice A3 n3 c3, .slice D3 m3 d3, .bool b4, .slice A4 n4 c4, .slice D4 m4 d4]) (some 39) at12 (hy := fun W hS => by (obtain ⟨k0, k1, k2, k3, k4, k5⟩ := Cb.c6 hS.2.1; clear hS; go_simp)) (h := ?_)
  refine RW.t (i := 14) (v := .agg #[.bool b5, .slice A5 n5 c5, .slice D5 m5 d5, .bool b6, .slice A6 n6 c6, .slice D6 m6 d6]) (some 41) at14 (hy := fun W hS => by (obtain ⟨k0, k1, k2, k3, k4, k5⟩ := Cb.c6 hS.2.2; clear hS; go_simp)) (h := ?_)
  refine RW.t (i := 15) (v := .agg #[.bool b3, .slice A3 n3 c3, .slice D3 m3 d3, .bool b4, .slice A4 n4 c4, .slice D4 m4 d4]) (some 42) at15 (hy := fun W hS => by (obtain ⟨k0, k1, k2, k3, k4, k5⟩ := Cb.c6 hS.2.1; clear hS; go_simp)) (h := ?_)
  refine RW.c (i := 13) (args := #[.agg #[.bool b1, .slice A1 n1 c1, .slice D1 m1 d1, .bool b2, .slice A2 n2 c2, .slice D2 m2 d2], .agg #[.bool b3, .slice A3 n3 c3, .slice D3 m3 d3, .bool b4, .slice A4 n4 c4, .slice D4 m4 d4]]) (some 40) hzk.out at13 (hx := fun _ => by kernel_rfl) (h := fun _ S => (h3.out _ (Rw.of (S.r 19 rfl) (S.r 18 rfl) k1.out) (Rw.of (S.r 17 rfl) (S.r 16 rfl) k2.out) (Rw.of (S.r 15 rfl) (S.r 14 rfl) k3.out) (Rw.of (S.r 13 rfl) (S.r 12 rfl) k4.out)).mono ?_)
  rintro e w9 ⟨A44, n44, c44, D44, m44, d44, A45, n45, c45, D45, m45, d45, rfl, Q44, Q45, bb⟩
  refine ⟨bb, _, [(D45, m45, d45, dn u3o), (A45, n45, c45, limbs u3o.num.natAbs), (D44, m44, d44, dn l3o), (A44, n44, c44, limbs l3o.num.natAbs)], rfl, (rd_cons Q45.d (rd_cons Q45.n (rd_cons Q44.d (rd_cons Q44.n rd_nil)))), ?_⟩
  clear bb S Q44 Q45
  refine RW.c (i := 16) (args := #[.agg #[.bool b5, .slice A5 n5 c5, .slice D5 m5 d5, .bool b6, .slice A6 n6 c6, .slice D6 m6 d6], .agg #[.bool b3, .slice A3 n3 c3, .slice D3 m3 d3, .bool b4, .slice A4 n4 c4, .slice D4 m4 d4]]) (some 43) hzk.out at16 (hx := fun _ => by kernel_rfl) (h := fun _ S => (h4.out _ (Rw.of (S.r 15 rfl) (S.r 14 rfl) k5.out) (Rw.of (S.r 13 rfl) (S.r 12 rfl) k6.out) (Rw.of (S.r 19 rfl) (S.r 18 rfl) k3.out) (Rw.of (S.r 17 rfl) (S.r 16 rfl) k4.out)).mono ?_)
  rintro e w10 ⟨A46, n46, c46, D46, m46, d46, A47, n47, c47, D47, m47, d47, rfl, Q46, Q47, bb⟩
  refine ⟨bb, _, [(D47, m47, d47, dn u4o), (A47, n47, c47, limbs u4o.num.natAbs), (D46, m46, d46, dn l4o), (A46, n46, c46, limbs l4o.num.natAbs)], rfl, (rd_cons Q47.d (rd_cons Q47.n (rd_cons Q46.d (rd_cons Q46.n rd_nil)))), ?_⟩
  clear bb S Q46 Q47
  refine RW.c (i := 17) (args := #[.agg #[.bool (ng l3o.num), .slice A44 n44 c44, .slice D44 m44 d44, .bool (ng u3o.num), .slice A45 n45 c45, .slice D45 m45 d45], .agg #[.bool (ng l4o.num), .slice A46 n46 c46, .slice D46 m46 d46, .bool (ng u4o.num), .slice A47 n47 c47, .slice D47 m47 d47]]) (some 44) hzk.out at17 (hx := fun _ => by kernel_rfl) (h := fun _ S => (hT2.out _ _ _ _ _ _ _ _ _ _ _ _ _ _ _ _ _ _ _ _ _ _ _ _ _ ⟨S.r 7 rfl, S.r 6 rfl⟩ ⟨S.r 5 rfl, S.r 4 rfl⟩ ⟨S.r 3 rfl, S.r 2 rfl⟩ ⟨S.r 1 rfl, S.r 0 rfl⟩).mono ?_)
  rintro e w11 ⟨rfl, bb⟩
  refine ⟨bb, _, [], rfl, rd_nil, ?_⟩
  clear bb S
  refine RW.t (i := 18) (v := .bool true) (some 45) at18 (hy := fun _ _ => by kernel_rfl) (h := ?_)
  refine RW.t (i := 19) (v := .bool true) (some 46) at19 (hy := fun _ _ => by kernel_rfl) (h := ?_)
  refine RW.t (i := 20) (v := .agg #[.bool b1, .slice A1 n1 c1, .slice D1 m1 d1, .bool b2, .slice A2 n2 c2, .slice D2 m2 d2]) (some 47) at20 (hy := fun W hS => by (obtain ⟨k0, k1, k2, k3, k4, k5⟩ := Cb.c6 hS.1; clear hS; go_simp)) (h := ?_)
  refine RW.t (i := 21) (v := .agg #[.bool b3, .slice A3 n3 c3, .slice D3 m3 d3, .bool b4, .slice A4 n4 c4, .slice D4 m4 d4]) (some 48) at21 (hy := fun W hS => by (obtain ⟨k0, k1, k2, k3, k4, k5⟩ := Cb.c6 hS.2.1; clear hS; go_simp)) (h := ?_)
  refine RW.t (i := 23) (v := .agg #[.bool b5, .slice A5 n5 c5, .slice D5 m5 d5, .bool b6, .slice A6 n6 c6, .slice D6 m6 d6]) (some 50) at23 (hy := fun W hS => by (obtain ⟨k0, k1, k2, k3, k4, k5⟩ := Cb.c6 hS.2.2; clear hS; go_simp)) (h := ?_)
  refine RW.t (i := 24) (v := .agg #[.bool b3, .slice A3 n3 c3, .slice D3 m3 d3, .bool b4, .slice A4 n4 c4, .slice D4 m4 d4]) (some 51) at24 (hy := fun W hS => by (obtain ⟨k0, k1, k2, k3, k4, k5⟩ := Cb.c6 hS.2.1; clear hS; go_simp)) (h := ?_)
  refine RW.c (i := 22) (args := #[.agg #[.bool b1, .slice A1 n1 c1, .slice D1 m1 d1, .bool b2, .slice A2 n2 c2, .slice D2 m2 d2], .agg #[.bool b3, .slice A3 n3 c3, .slice D3 m3 d3, .bool b4, .slice A4 n4 c4, .slice D4 m4 d4]]) (some 49) hzk.out at22 (hx := fun _ => by kernel_rfl) (h := fun _ S => (h5.out _ (Rw.of (S.r 27 rfl) (S.r 26 rfl) k1.out) (Rw.of (S.r 25 rfl) (S.r 24 rfl) k2.out) (Rw.of (S.r 23 rfl) (S.r 22 rfl) k3.out) (Rw.of (S.r 21 rfl) (S.r 20 rfl) k4.out)).mono ?_)
  rintro e w12 ⟨A48, n48, c48, D48, m48, d48, A49, n49, c49, D49, m49, d49, rfl, Q48, Q49, bb⟩
  refine ⟨bb, _, [(D49, m49, d49, dn u5o), (A49, n49, c49, limbs u5o.num.natAbs), (D48, m48, d48, dn l5o), (A48, n48, c48, limbs l5o.num.natAbs)], rfl, (rd_cons Q49.d (rd_cons Q49.n (rd_cons Q48.d (rd_cons Q48.n rd_nil)))), ?_⟩
  clear bb S Q48 Q49
  refine RW.c (i := 25) (args := #[.agg #[.bool b5, .slice A5 n5 c5, .slice D5 m5 d5, .bool b6, .slice A6 n6 c6, .slice D6 m6 d6], .agg #[.bool b3, .slice A3 n3 c3, .slice D3 m3 d3, .bool b4, .slice A4 n4 c4, .slice D4 m4 d4]]) (some 52) hzk.out at25 (hx := fun _ => by kernel_rfl) (h := fun _ S => (h6.out _ (Rw.of (S.r 23 rfl) (S.r 22 rfl) k5.out) (Rw.of (S.r 21 rfl) (S.r 20 rfl) k6.out) (Rw.of (S.r 27 rfl) (S.r 26 rfl) k3.out) (Rw.of (S.r 25 rfl) (S.r 24 rfl) k4.out)).mono ?_)
  rintro e w13 ⟨A50, n50, c50, D50, m50, d50, A51, n51, c51, D51, m51, d51, rfl, Q50, Q51, bb⟩
  refine ⟨bb, _, [(D51, m51, d51, dn u6o), (A51, n51, c51, limbs u6o.num.natAbs), (D50, m50, d50, dn l6o), (A50, n50, c50, limbs l6o.num.natAbs)], rfl, (rd_cons Q51.d (rd_cons Q51.n (rd_cons Q50.d (rd_cons Q50.n rd_nil)))), ?_⟩
  clear bb S Q50 Q51
  refine RW.c (i := 26) (args := #[.agg #[.bool (ng l5o.num), .slice A48 n48 c48, .slice D48 m48 d48, .bool (ng u5o.num), .slice A49 n49 c49, .slice D49 m49 d49], .agg #[.bool (ng l6o.num), .slice A50 n50 c50, .slice D50 m50 d50, .bool (ng u6o.num), .slice A51 n51 c51, .slice D51 m51 d51]]) (some 53) hzk.out at26 (hx := fun _ => by kernel_rfl) (h := fun _ S => (hT3.out _ _ _ _ _ _ _ _ _ _ _ _ _ _ _ _ _ _ _ _ _ _ _ _ _ ⟨S.r 7 rfl, S.r 6 rfl⟩ ⟨S.r 5 rfl, S.r 4 rfl⟩ ⟨S.r 3 rfl, S.r 2 rfl⟩ ⟨S.r 1 rfl, S.r 0 rfl⟩).mono ?_)
  rintro e w14 ⟨rfl, bb⟩
  refine ⟨bb, _, [], rfl, rd_nil, ?_⟩
  clear bb S
  refine RW.t (i := 27) (v := .bool true) (some 54) at27 (hy := fun _ _ => by kernel_rfl) (h := ?_)
  refine RW.t (i := 28) (v := .bool true) (some 55) at28 (hy := fun _ _ => by kernel_rfl) (h := ?_)
  refine RW.t (i := 29) (v := .agg #[.bool b1, .slice A1 n1 c1, .slice D1 m1 d1, .bool b2, .slice A2 n2 c2, .slice D2 m2 d2]) (some 56) at29 (hy := fun W hS => by (obtain ⟨k0, k1, k2, k3, k4, k5⟩ := Cb.c6 hS.1; clear hS; go_simp)) (h := ?_)
  refine RW.t (i := 31) (v := .agg #[.bool b5, .slice A5 n5 c5, .slice D5 m5 d5, .bool b6, .slice A6 n6 c6, .slice D6 m6 d6]) (some 58) at31 (hy := fun W hS => by (obtain ⟨k0, k1, k2, k3, k4, k5⟩ := Cb.c6 hS.2.2; clear hS; go_simp)) (h := ?_)
  refine RW.c (i := 30) (args := #[.agg #[.bool b1, .slice A1 n1 c1, .slice D1 m1 d1, .bool b2, .slice A2 n2 c2, .slice D2 m2 d2]]) (some 57) hzk.out at30 (hx := fun _ => by kernel_rfl) (h := fun _ S => (h7.out _ (Rw.of (S.r 35 rfl) (S.r 34 rfl) k1.out) (Rw.of (S.r 33 rfl) (S.r 32 rfl) k2.out)).mono ?_)
  rintro e w15 ⟨A52, n52, c52, D52, m52, d52, A53, n53, c53, D53, m53, d53, rfl, Q52, Q53, bb⟩
  refine ⟨bb, _, [(D53, m53, d53, dn u7o), (A53, n53, c53, limbs u7o.num.natAbs), (D52, m52, d52, dn l7o), (A52, n52, c52, limbs l7o.num.natAbs)], rfl, (rd_cons Q53.d (rd_cons Q53.n (rd_cons Q52.d (rd_cons Q52.n rd_nil)))), ?_⟩
  clear bb S Q52 Q53
  refine RW.c (i := 32) (args := #[.agg #[.bool b5, .slice A5 n5 c5, .slice D5 m5 d5, .bool b6, .slice A6 n6 c6, .slice D6 m6 d6]]) (some 59) hzk.out at32 (hx := fun _ => by kernel_rfl) (h := fun _ S => (h8.out _ (Rw.of (S.r 31 rfl) (S.r 30 rfl) k5.out) (Rw.of (S.r 29 rfl) (S.r 28 rfl) k6.out)).mono ?_)
  rintro e w16 ⟨A54, n54, c54, D54, m54, d54, A55, n55, c55, D55, m55, d55, rfl, Q54, Q55, bb⟩
  refine ⟨bb, _, [(D55, m55, d55, dn u8o), (A55, n55, c55, limbs u8o.num.natAbs), (D54, m54, d54, dn l8o), (A54, n54, c54, limbs l8o.num.natAbs)], rfl, (rd_cons Q55.d (rd_cons Q55.n (rd_cons Q54.d (rd_cons Q54.n rd_nil)))), ?_⟩
  clear bb S Q54 Q55
  refine RW.c (i := 33) (args := #[.agg #[.bool (ng l7o.num), .slice A52 n52 c52, .slice D52 m52 d52, .bool (ng u7o.num), .slice A53 n53 c53, .slice D53 m53 d53], .agg #[.bool (ng l8o.num), .slice A54 n54 c54, .slice D54 m54 d54, .bool (ng u8o.num), .slice A55 n55 c55, .slice D55 m55 d55]]) (some 60) hzk.out at33 (hx := fun _ => by kernel_rfl) (h := fun _ S => (hT4.out _ _ _ _ _ _ _ _ _ _ _ _ _ _ _ _ _ _ _ _ _ _ _ _ _ ⟨S.r 7 rfl, S.r 6 rfl⟩ ⟨S.r 5 rfl, S.r 4 rfl⟩ ⟨S.r 3 rfl, S.r 2 rfl⟩ ⟨S.r 1 rfl, S.r 0 rfl⟩).mono ?_)
  rintro e w17 ⟨rfl, bb⟩
  refine ⟨bb, _, [], rfl, rd_nil, ?_⟩
  clear bb S
  refine RW.t (i := 34) (v := .bool true) (some 61) at34 (hy := fun _ _ => by kernel_rfl) (h := ?_)
  refine RW.t (i := 35) (v := .bool true) (some 62) at35 (hy := fun _ _ => by kernel_rfl) (h := ?_)
  refine RW.t (i := 36) (v := .agg #[.bool b1, .slice A1 n1 c1, .slice D1 m1 d1, .bool b2, .slice A2 n2 c2, .slice D2 m2 d2]) (some 63) at36 (hy := fun W hS => by (obtain ⟨k0, k1, k2, k3, k4, k5⟩ := Cb.c6 hS.1; clear hS; go_simp)) (h := ?_)
  refine RW.t (i := 38) (v := .agg #[.bool b1, .slice A1 n1 c1, .slice D1 m1 d1, .bool b2, .slice A2 n2 c2, .slice D2 m2 d2]) (some 65) at38 (hy := fun W hS => by (obtain ⟨k0, k1, k2, k3, k4, k5⟩ := Cb.c6 hS.1; clear hS; go_simp)) (h := ?_)
  refine RW.t (i := 39) (v := .agg #[.bool b1, .slice A1 n1 c1, .slice D1 m1 d1, .bool b2, .slice A2 n2 c2, .slice D2 m2 d2]) (some 66) at39 (hy := fun W hS => by (obtain ⟨k0, k1, k2, k3, k4, k5⟩ := Cb.c6 hS.1; clear hS; go_simp)) (h := ?_)
  refine RW.c (i := 37) (args := #[.agg #[.bool b1, .slice A1 n1 c1, .slice D1 m1 d1, .bool b2, .slice A2 n2 c2, .slice D2 m2 d2]]) (some 64) hzk.out at37 (hx := fun _ => by kernel_rfl) (h := fun _ S => (h7.out _ (Rw.of (S.r 43 rfl) (S.r 42 rfl) k1.out) (Rw.of (S.r 41 rfl) (S.r 40 rfl) k2.out)).mono ?_)
  rintro e w18 ⟨A56, n56, c56, D56, m56, d56, A57, n57, c57, D57, m57, d57, rfl, Q56, Q57, bb⟩
  refine ⟨bb, _, [(D57, m57, d57, dn u7o), (A57, n57, c57, limbs u7o.num.natAbs), (D56, m56, d56, dn l7o), (A56, n56, c56, limbs l7o.num.natAbs)], rfl, (rd_cons Q57.d (rd_cons Q57.n (rd_cons Q56.d (rd_cons Q56.n rd_nil)))), ?_⟩
  clear bb S Q56 Q57
  refine RW.c (i := 40) (args := #[.agg #[.bool b1, .slice A1 n1 c1, .slice D1 m1 d1, .bool b2, .slice A2 n2 c2, .slice D2 m2 d2], .agg #[.bool b1, .slice A1 n1 c1, .slice D1 m1 d1, .bool b2, .slice A2 n2 c2, .slice D2 m2 d2]]) (some 67) hzk.out at40 (hx := fun _ => by kernel_rfl) (h := fun _ S => (h9.out _ (Rw.of (S.r 47 rfl) (S.r 46 rfl) k1.out) (Rw.of (S.r 45 rfl) (S.r 44 rfl) k2.out) (Rw.of (S.r 47 rfl) (S.r 46 rfl) k1.out) (Rw.of (S.r 45 rfl) (S.r 44 rfl) k2.out)).mono ?_)
  rintro e w19 ⟨A58, n58, c58, D58, m58, d58, A59, n59, c59, D59, m59, d59, rfl, Q58, Q59, bb⟩
  refine ⟨bb, _, [(D59, m59, d59, dn u9o), (A59, n59, c59, limbs u9o.num.natAbs), (D58, m58, d58, dn l9o), (A58, n58, c58, limbs l9o.num.natAbs)], rfl, (rd_cons Q59.d (rd_cons Q59.n (rd_cons Q58.d (rd_cons Q58.n rd_nil)))), ?_⟩
  clear bb S Q58 Q59
  refine RW.c (i := 41) (args := #[.agg #[.bool (ng l7o.num), .slice A56 n56 c56, .slice D56 m56 d56, .bool (ng u7o.num), .slice A57 n57 c57, .slice D57 m57 d57], .agg #[.bool (ng l9o.num), .slice A58 n58 c58, .slice D58 m58 d58, .bool (ng u9o.num), .slice A59 n59 c59, .slice D59 m59 d59]]) (some 68) hzk.out at41 (hx := fun _ => by kernel_rfl) (h := fun _ S => (hT5.out _ _ _ _ _ _ _ _ _ _ _ _ _ _ _ _ _ _ _ _ _ _ _ _ _ ⟨S.r 7 rfl, S.r 6 rfl⟩ ⟨S.r 5 rfl, S.r 4 rfl⟩ ⟨S.r 3 rfl, S.r 2 rfl⟩ ⟨S.r 1 rfl, S.r 0 rfl⟩).mono ?_)
  rintro e w20 ⟨rfl, bb⟩
  refine ⟨bb, _, [], rfl, rd_nil, ?_⟩
  clear bb S
  refine RW.t (i := 42) (v := .bool true) (some 69) at42 (hy := fun _ _ => by kernel_rfl) (h := ?_)
  refine RW.tail hzk.out (by kernel_rfl) ?_
  intro gs w21 hgs hS S
  obtain rfl := len0 hgs
  clear hS hgs hzk
  simp only [mark, fill, Act.put, List.setIfInBounds_toArray, List.set_cons_zero, List.set_cons_succ]
  replace S := Lib.hid S
  refine Wk.o (i := 43) at43 (by kernel_rfl) fun K' hK => ?_
  go_simp
  have SN := S.out
  clear S
  have S := SN
  clear SN
  refine hK.out _ _ ⟨(S.cb 2 rfl), (S.cb 1 rfl), (S.cb 0 rfl)⟩ ?_
  clear hK K'
  replace S := Lib.hid S
  try simp only [Act.put, List.setIfInBounds_toArray, List.set_cons_zero, List.set_cons_succ]
  refine Wk.done (by kernel_rfl) ?_
  go_simp
  replace S := S.out
  have S : St w _ [(w.heap.size + 1 + 1, #[.bool b5, .slice A5 n5 c5, .slice D5 m5 d5, .bool b6, .slice A6 n6 c6, .slice D6 m6 d6], 28), (w.heap.size + 1, #[.bool b3, .slice A3 n3 c3, .slice D3 m3 d3, .bool b4, .slice A4 n4 c4, .slice D4 m4 d4], 28), (w.heap.size, #[.bool b1, .slice A1 n1 c1, .slice D1 m1 d1, .bool b2, .slice A2 n2 c2, .slice D2 m2 d2], 28)] [(D59, m59, d59, dn u9o), (A59, n59, c59, limbs u9o.num.natAbs), (D58, m58, d58, dn l9o), (A58, n58, c58, limbs l9o.num.natAbs), (D57, m57, d57, dn u7o), (A57, n57, c57, limbs u7o.num.natAbs), (D56, m56, d56, dn l7o), (A56, n56, c56, limbs l7o.num.natAbs), (D55, m55, d55, dn u8o), (A55, n55, c55, limbs u8o.num.natAbs), (D54, m54, d54, dn l8o), (A54, n54, c54, limbs l8o.num.natAbs), (D53, m53, d53, dn u7o), (A53, n53, c53, limbs u7o.num.natAbs), (D52, m52, d52, dn l7o), (A52, n52, c52, limbs l7o.num.natAbs), (D51, m51, d51, dn u6o), (A51, n51, c51, limbs u6o.num.natAbs), (D50, m50, d50, dn l6o), (A50, n50, c50, limbs l6o.num.natAbs), (D49, m49, d49, dn u5o), (A49, n49, c49, limbs u5o.num.natAbs), (D48, m48, d48, dn l5o), (A48, n48, c48, limbs l5o.num.natAbs), (D47, m47, d47, dn u4o), (A47, n47, c47, limbs u4o.num.natAbs), (D46, m46, d46, dn l4o), (A46, n46, c46, limbs l4o.num.natAbs), (D45, m45, d45, dn u3o), (A45, n45, c45, limbs u3o.num.natAbs), (D44, m44, d44, dn l3o), (A44, n44, c44, limbs l3o.num.natAbs), (D43, m43, d43, dn u2o), (A43, n43, c43, limbs u2o.num.natAbs), (D42, m42, d42, dn l2o), (A42, n42, c42, limbs l2o.num.natAbs), (D41, m41, d41, dn u1o), (A41, n41, c41, limbs u1o.num.natAbs), (D40, m40, d40, dn l1o), (A40, n40, c40, limbs l1o.num.natAbs), (D6, m6, d6, y6), (A6, n6, c6, x6), (D5, m5, d5, y5), (A5, n5, c5, x5), (D4, m4, d4, y4), (A4, n4, c4, x4), (D3, m3, d3, y3), (A3, n3, c3, x3), (D2, m2, d2, y2), (A2, n2, c2, x2), (D1, m1, d1, y1), (A1, n1, c1, x1)] := S
  replace S := Lib.hid S
  replace S := S.out
  replace S := Lib.hid S
  have S := S.out
  replace S := Lib.hid S
  go_wp2
  go_ret
  exact ⟨rfl, S.out.bel⟩
end Go.Proofs.YtidhloliahfknaaGreat
