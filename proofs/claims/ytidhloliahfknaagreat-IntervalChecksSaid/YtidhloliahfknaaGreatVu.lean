/- The law IntervalChecks. -/
import Derived.Test.YtidhloliahfknaaGreatVt
namespace Go.Proofs.YtidhloliahfknaaGreat
open Go.RowKit RQ

set_option maxRecDepth 100000 in
set_option maxHeartbeats 16000000 in
theorem law_ch (b1 : Bool) (A1 : Option Addr) (n1 c1 : Nat) (x1 : List Nat) (D1 : Option Addr) (m1 d1 : Nat) (y1 : List Nat) (b2 : Bool) (A2 : Option Addr) (n2 c2 : Nat) (x2 : List Nat) (D2 : Option Addr) (m2 d2 : Nat) (y2 : List Nat) (b3 : Bool) (A3 : Option Addr) (n3 c3 : Nat) (x3 : List Nat) (D3 : Option Addr) (m3 d3 : Nat) (y3 : List Nat) (b4 : Bool) (A4 : Option Addr) (n4 c4 : Nat) (x4 : List Nat) (D4 : Option Addr) (m4 d4 : Nat) (y4 : List Nat) (b5 : Bool) (A5 : Option Addr) (n5 c5 : Nat) (x5 : List Nat) (D5 : Option Addr) (m5 d5 : Nat) (y5 : List Nat) (w : World) (R1 : Rd w A1 n1 c1 x1) (M1 : n1 ≤ 9223372036854775807) (D1' : Rd w D1 m1 d1 y1) (N1 : m1 ≤ 9223372036854775807) (R2 : Rd w A2 n2 c2 x2) (M2 : n2 ≤ 9223372036854775807) (D2' : Rd w D2 m2 d2 y2) (N2 : m2 ≤ 9223372036854775807) (R3 : Rd w A3 n3 c3 x3) (M3 : n3 ≤ 9223372036854775807) (D3' : Rd w D3 m3 d3 y3) (N3 : m3 ≤ 9223372036854775807) (R4 : Rd w A4 n4 c4 x4) (M4 : n4 ≤ 9223372036854775807) (D4' : Rd w D4 m4 d4 y4) (N4 : m4 ≤ 9223372036854775807) (R5 : Rd w A5 n5 c5 x5) (M5 : n5 ≤ 9223372036854775807) (D5' : Rd w D5 m5 d5 y5) (N5 : m5 ≤ 9223372036854775807) : Calls Tryz.prog 3 #[.agg #[.bool b1, .slice A1 n1 c1, .slice D1 m1 d1, .bool b2, .slice A2 n2 c2, .slice D2 m2 d2], .agg #[.bool b3, .slice A3 n3 c3, .slice D3 m3 d3, .bool b4, .slice A4 n4 c4, .slice D4 m4 d4], .agg #[.bool b5, .slice A5 n5 c5, .slice D5 m5 d5]] w fun e w' => e = .returned (.bool true) ∧ Below w.heap.size w w' := by
  have hA := Lib.hid (fun W => awakeV_any W)
  have hL0 := fun W => light4_any b1 A1 n1 c1 D1 m1 d1 b2 A2 n2 c2 D2 m2 d2 W M1 N1 M2 N2
  have hL1 := fun W => light4_any b3 A3 n3 c3 D3 m3 d3 b4 A4 n4 c4 D4 m4 d4 W M3 N3 M4 N4
  have hL2 := fun W => lightR_any b5 A5 n5 c5 D5 m5 d5 W M5 N5
  cases l0 : (lightB n1 m1 && lightB n2 m2)
  · rw [l0] at hL0
    replace hL0 := Lib.hid hL0
    clear hL1
    clear hL2
    clear l0
    have S := ((((((((((((((St.new w).read R1).read D1').read R2).read D2').read R3).read D3').read R4).read D4').read R5).read D5').allocAt (w.heap.size) #[.bool b1, .slice A1 n1 c1, .slice D1 m1 d1, .bool b2, .slice A2 n2 c2, .slice D2 m2 d2] 28 (noL6 _ _ _ _ _ _ _ _ _ _ _ _ _ _) (by simp)).allocAt (w.heap.size + 1) #[.bool b3, .slice A3 n3 c3, .slice D3 m3 d3, .bool b4, .slice A4 n4 c4, .slice D4 m4 d4] 28 (noL6 _ _ _ _ _ _ _ _ _ _ _ _ _ _) (by simp)).allocAt (w.heap.size + 1 + 1) #[.bool b5, .slice A5 n5 c5, .slice D5 m5 d5] 26 (noL3 _ _ _ _ _ _ _) (by simp))
    replace S := Lib.hid S
    clear R1 M1 D1' N1 R2 M2 D2' N2 R3 M3 D3' N3 R4 M4 D4' N4 R5 M5 D5' N5
    go_enter Tryz.func3, Tryz.ntmps3
    go_wp2_with fail
    refine (hL0.out _).mono ?_
    rintro e w1 ⟨rfl, bb⟩
    have T := (S.out.call bb)
    clear bb S
    have S := T
    clear T
    obtain ⟨c_v0, c_v1, c_v2⟩ := S.c3 0 rfl
    obtain ⟨c_b0, c_b1, c_b2, c_b3, c_b4, c_b5⟩ := S.c6 1 rfl
    obtain ⟨c_a0, c_a1, c_a2, c_a3, c_a4, c_a5⟩ := S.c6 2 rfl
    have hz : w.heap.size + 1 + 1 < w1.heap.size := S.lt 0 rfl
    replace S := Lib.hid S
    clear hL0
    go_wp2_with fail
    refine (hA.out _).mono ?_
    rintro e w2 ⟨rfl, bb⟩
    have T := (S.out.call bb)
    clear bb S c_v0 c_v1 c_v2 c_b0 c_b1 c_b2 c_b3 c_b4 c_b5 c_a0 c_a1 c_a2 c_a3 c_a4 c_a5 hz
    have S := T
    clear T
    obtain ⟨c_v0, c_v1, c_v2⟩ := S.c3 0 rfl
    obtain ⟨c_b0, c_b1, c_b2, c_b3, c_b4, c_b5⟩ := S.c6 1 rfl
    obtain ⟨c_a0, c_a1, c_a2, c_a3, c_a4, c_a5⟩ := S.c6 2 rfl
    have hz : w.heap.size + 1 + 1 < w2.heap.size := S.lt 0 rfl
    replace S := Lib.hid S
    have S := S.out
    replace S := Lib.hid S
    go_wp2
    go_ret
    exact ⟨rfl, S.out.bel⟩
  rw [l0] at hL0
  cases l1 : (lightB n3 m3 && lightB n4 m4)
  · rw [l1] at hL1
    replace hL0 := Lib.hid hL0
    replace hL1 := Lib.hid hL1
    clear hL2
    clear l0 l1
    have S := ((((((((((((((St.new w).read R1).read D1').read R2).read D2').read R3).read D3').read R4).read D4').read R5).read D5').allocAt (w.heap.size) #[.bool b1, .slice A1 n1 c1, .slice D1 m1 d1, .bool b2, .slice A2 n2 c2, .slice D2 m2 d2] 28 (noL6 _ _ _ _ _ _ _ _ _ _ _ _ _ _) (by simp)).allocAt (w.heap.size + 1) #[.bool b3, .slice A3 n3 c3, .slice D3 m3 d3, .bool b4, .slice A4 n4 c4, .slice D4 m4 d4] 28 (noL6 _ _ _ _ _ _ _ _ _ _ _ _ _ _) (by simp)).allocAt (w.heap.size + 1 + 1) #[.bool b5, .slice A5 n5 c5, .slice D5 m5 d5] 26 (noL3 _ _ _ _ _ _ _) (by simp))
    replace S := Lib.hid S
    clear R1 M1 D1' N1 R2 M2 D2' N2 R3 M3 D3' N3 R4 M4 D4' N4 R5 M5 D5' N5
    go_enter Tryz.func3, Tryz.ntmps3
    go_wp2_with fail
    refine (hL0.out _).mono ?_
    rintro e w1 ⟨rfl, bb⟩
    have T := (S.out.call bb)
    clear bb S
    have S := T
    clear T
    obtain ⟨c_v0, c_v1, c_v2⟩ := S.c3 0 rfl
    obtain ⟨c_b0, c_b1, c_b2, c_b3, c_b4, c_b5⟩ := S.c6 1 rfl
    obtain ⟨c_a0, c_a1, c_a2, c_a3, c_a4, c_a5⟩ := S.c6 2 rfl
    have hz : w.heap.size + 1 + 1 < w1.heap.size := S.lt 0 rfl
    replace S := Lib.hid S
    clear hL0
    go_wp2_with fail
    refine (hL1.out _).mono ?_
    rintro e w2 ⟨rfl, bb⟩
    have T := (S.out.call bb)
    clear bb S c_v0 c_v1 c_v2 c_b0 c_b1 c_b2 c_b3 c_b4 c_b5 c_a0 c_a1 c_a2 c_a3 c_a4 c_a5 hz
    have S := T
    clear T
    obtain ⟨c_v0, c_v1, c_v2⟩ := S.c3 0 rfl
    obtain ⟨c_b0, c_b1, c_b2, c_b3, c_b4, c_b5⟩ := S.c6 1 rfl
    obtain ⟨c_a0, c_a1, c_a2, c_a3, c_a4, c_a5⟩ := S.c6 2 rfl
    have hz : w.heap.size + 1 + 1 < w2.heap.size := S.lt 0 rfl
    replace S := Lib.hid S
    clear hL1
    go_wp2_with fail
    refine (hA.out _).mono ?_
    rintro e w3 ⟨rfl, bb⟩
    have T := (S.out.call bb)
    clear bb S c_v0 c_v1 c_v2 c_b0 c_b1 c_b2 c_b3 c_b4 c_b5 c_a0 c_a1 c_a2 c_a3 c_a4 c_a5 hz
    have S := T
    clear T
    obtain ⟨c_v0, c_v1, c_v2⟩ := S.c3 0 rfl
    obtain ⟨c_b0, c_b1, c_b2, c_b3, c_b4, c_b5⟩ := S.c6 1 rfl
    obtain ⟨c_a0, c_a1, c_a2, c_a3, c_a4, c_a5⟩ := S.c6 2 rfl
    have hz : w.heap.size + 1 + 1 < w3.heap.size := S.lt 0 rfl
    replace S := Lib.hid S
    have S := S.out
    replace S := Lib.hid S
    go_wp2
    go_ret
    exact ⟨rfl, S.out.bel⟩
  rw [l1] at hL1
  cases l2 : (lightB n5 m5)
  · rw [l2] at hL2
    replace hL0 := Lib.hid hL0
    replace hL1 := Lib.hid hL1
    replace hL2 := Lib.hid hL2
    clear l0 l1 l2
    have S := ((((((((((((((St.new w).read R1).read D1').read R2).read D2').read R3).read D3').read R4).read D4').read R5).read D5').allocAt (w.heap.size) #[.bool b1, .slice A1 n1 c1, .slice D1 m1 d1, .bool b2, .slice A2 n2 c2, .slice D2 m2 d2] 28 (noL6 _ _ _ _ _ _ _ _ _ _ _ _ _ _) (by simp)).allocAt (w.heap.size + 1) #[.bool b3, .slice A3 n3 c3, .slice D3 m3 d3, .bool b4, .slice A4 n4 c4, .slice D4 m4 d4] 28 (noL6 _ _ _ _ _ _ _ _ _ _ _ _ _ _) (by simp)).allocAt (w.heap.size + 1 + 1) #[.bool b5, .slice A5 n5 c5, .slice D5 m5 d5] 26 (noL3 _ _ _ _ _ _ _) (by simp))
    replace S := Lib.hid S
    clear R1 M1 D1' N1 R2 M2 D2' N2 R3 M3 D3' N3 R4 M4 D4' N4 R5 M5 D5' N5
    go_enter Tryz.func3, Tryz.ntmps3
    go_wp2_with fail
    refine (hL0.out _).mono ?_
    rintro e w1 ⟨rfl, bb⟩
    have T := (S.out.call bb)
    clear bb S
    have S := T
    clear T
    obtain ⟨c_v0, c_v1, c_v2⟩ := S.c3 0 rfl
    obtain ⟨c_b0, c_b1, c_b2, c_b3, c_b4, c_b5⟩ := S.c6 1 rfl
    obtain ⟨c_a0, c_a1, c_a2, c_a3, c_a4, c_a5⟩ := S.c6 2 rfl
    have hz : w.heap.size + 1 + 1 < w1.heap.size := S.lt 0 rfl
    replace S := Lib.hid S
    clear hL0
    go_wp2_with fail
    refine (hL1.out _).mono ?_
    rintro e w2 ⟨rfl, bb⟩
    have T := (S.out.call bb)
    clear bb S c_v0 c_v1 c_v2 c_b0 c_b1 c_b2 c_b3 c_b4 c_b5 c_a0 c_a1 c_a2 c_a3 c_a4 c_a5 hz
    have S := T
    clear T
    obtain ⟨c_v0, c_v1, c_v2⟩ := S.c3 0 rfl
    obtain ⟨c_b0, c_b1, c_b2, c_b3, c_b4, c_b5⟩ := S.c6 1 rfl
    obtain ⟨c_a0, c_a1, c_a2, c_a3, c_a4, c_a5⟩ := S.c6 2 rfl
    have hz : w.heap.size + 1 + 1 < w2.heap.size := S.lt 0 rfl
    replace S := Lib.hid S
    clear hL1
    go_wp2_with fail
    refine (hL2.out _).mono ?_
    rintro e w3 ⟨rfl, bb⟩
    have T := (S.out.call bb)
    clear bb S c_v0 c_v1 c_v2 c_b0 c_b1 c_b2 c_b3 c_b4 c_b5 c_a0 c_a1 c_a2 c_a3 c_a4 c_a5 hz
    have S := T
    clear T
    obtain ⟨c_v0, c_v1, c_v2⟩ := S.c3 0 rfl
    obtain ⟨c_b0, c_b1, c_b2, c_b3, c_b4, c_b5⟩ := S.c6 1 rfl
    obtain ⟨c_a0, c_a1, c_a2, c_a3, c_a4, c_a5⟩ := S.c6 2 rfl
    have hz : w.heap.size + 1 + 1 < w3.heap.size := S.lt 0 rfl
    replace S := Lib.hid S
    clear hL2
    go_wp2_with fail
    refine (hA.out _).mono ?_
    rintro e w4 ⟨rfl, bb⟩
    have T := (S.out.call bb)
    clear bb S c_v0 c_v1 c_v2 c_b0 c_b1 c_b2 c_b3 c_b4 c_b5 c_a0 c_a1 c_a2 c_a3 c_a4 c_a5 hz
    have S := T
    clear T
    obtain ⟨c_v0, c_v1, c_v2⟩ := S.c3 0 rfl
    obtain ⟨c_b0, c_b1, c_b2, c_b3, c_b4, c_b5⟩ := S.c6 1 rfl
    obtain ⟨c_a0, c_a1, c_a2, c_a3, c_a4, c_a5⟩ := S.c6 2 rfl
    have hz : w.heap.size + 1 + 1 < w4.heap.size := S.lt 0 rfl
    replace S := Lib.hid S
    have S := S.out
    replace S := Lib.hid S
    go_wp2
    go_ret
    exact ⟨rfl, S.out.bel⟩
  rw [l2] at hL2
  rw [Bool.and_eq_true] at l0 l1
  obtain ⟨g1, g2⟩ := l0
  obtain ⟨g3, g4⟩ := l1
  have g5 := l2
  obtain ⟨q1, X1, s1⟩ : ∃ q, Rw w b1 A1 n1 c1 x1 D1 m1 d1 y1 q ∧ Rs q 8 := ⟨rv b1 x1 y1, ⟨R1, D1', rfl, by have := light_8 g1; omega, by have := light_8 g1; omega⟩, rs_light R1 D1' g1⟩
  obtain ⟨q2, X2, s2⟩ : ∃ q, Rw w b2 A2 n2 c2 x2 D2 m2 d2 y2 q ∧ Rs q 8 := ⟨rv b2 x2 y2, ⟨R2, D2', rfl, by have := light_8 g2; omega, by have := light_8 g2; omega⟩, rs_light R2 D2' g2⟩
  obtain ⟨q3, X3, s3⟩ : ∃ q, Rw w b3 A3 n3 c3 x3 D3 m3 d3 y3 q ∧ Rs q 8 := ⟨rv b3 x3 y3, ⟨R3, D3', rfl, by have := light_8 g3; omega, by have := light_8 g3; omega⟩, rs_light R3 D3' g3⟩
  obtain ⟨q4, X4, s4⟩ : ∃ q, Rw w b4 A4 n4 c4 x4 D4 m4 d4 y4 q ∧ Rs q 8 := ⟨rv b4 x4 y4, ⟨R4, D4', rfl, by have := light_8 g4; omega, by have := light_8 g4; omega⟩, rs_light R4 D4' g4⟩
  obtain ⟨q5, X5, s5⟩ : ∃ q, Rw w b5 A5 n5 c5 x5 D5 m5 d5 y5 q ∧ Rs q 8 := ⟨rv b5 x5 y5, ⟨R5, D5', rfl, by have := light_8 g5; omega, by have := light_8 g5; omega⟩, rs_light R5 D5' g5⟩
  clear g1 g2 g3 g4 g5 l2 R1 M1 D1' N1 R2 M2 D2' N2 R3 M3 D3' N3 R4 M4 D4' N4 R5 M5 D5' N5
  replace hL0 := Lib.hid hL0
  replace hL1 := Lib.hid hL1
  replace hL2 := Lib.hid hL2
  have hM1 := fun W h0 h1 => imake_any b1 A1 n1 c1 x1 D1 m1 d1 y1 q1 b2 A2 n2 c2 x2 D2 m2 d2 y2 q2 W h0 h1
  have hM2 := fun W h0 h1 => rmakeV_any b1 A1 n1 c1 x1 D1 m1 d1 y1 q1 b2 A2 n2 c2 x2 D2 m2 d2 y2 q2 W h0 h1
  have hV1 := fun W h0 h1 => validV_any b1 A1 n1 c1 x1 D1 m1 d1 y1 q1 b2 A2 n2 c2 x2 D2 m2 d2 y2 q2 W h0 h1
  have hV2 := fun W h0 h1 => rvalidV_any b1 A1 n1 c1 x1 D1 m1 d1 y1 q1 b2 A2 n2 c2 x2 D2 m2 d2 y2 q2 W h0 h1
  have hC1 := fun W h0 h1 h2 => contains_any b1 A1 n1 c1 x1 D1 m1 d1 y1 q1 b2 A2 n2 c2 x2 D2 m2 d2 y2 q2 b5 A5 n5 c5 x5 D5 m5 d5 y5 q5 W h0 h1 h2
  have hC2 := fun W h0 h1 h2 => rcontains_any b1 A1 n1 c1 x1 D1 m1 d1 y1 q1 b2 A2 n2 c2 x2 D2 m2 d2 y2 q2 b5 A5 n5 c5 x5 D5 m5 d5 y5 q5 W h0 h1 h2
  have hI1 := fun W h0 h1 h2 h3 => within_any b1 A1 n1 c1 x1 D1 m1 d1 y1 q1 b2 A2 n2 c2 x2 D2 m2 d2 y2 q2 b3 A3 n3 c3 x3 D3 m3 d3 y3 q3 b4 A4 n4 c4 x4 D4 m4 d4 y4 q4 W h0 h1 h2 h3
  have hI2 := fun W h0 h1 h2 h3 => rwithin_any b1 A1 n1 c1 x1 D1 m1 d1 y1 q1 b2 A2 n2 c2 x2 D2 m2 d2 y2 q2 b3 A3 n3 c3 x3 D3 m3 d3 y3 q3 b4 A4 n4 c4 x4 D4 m4 d4 y4 q4 W h0 h1 h2 h3
  have hW1 := fun W h0 h1 => width_any b1 A1 n1 c1 x1 D1 m1 d1 y1 q1 b2 A2 n2 c2 x2 D2 m2 d2 y2 q2 W h0 h1
  have hW2 := fun W h0 h1 => rwidth_any b1 A1 n1 c1 x1 D1 m1 d1 y1 q1 b2 A2 n2 c2 x2 D2 m2 d2 y2 q2 W h0 h1
  have hD1 := fun W h0 h1 => mid_any b1 A1 n1 c1 x1 D1 m1 d1 y1 q1 b2 A2 n2 c2 x2 D2 m2 d2 y2 q2 W h0 h1
  have hD2 := fun W h0 h1 => rmid_any b1 A1 n1 c1 x1 D1 m1 d1 y1 q1 b2 A2 n2 c2 x2 D2 m2 d2 y2 q2 W h0 h1
  obtain ⟨ka, kb⟩ := k_rsp s1 s2 (by decide)
  have swd := Lib.hid ((kb.sub ka).mono (show 8 + 8 + 1 ≤ 200 by decide))
  have smd : Hid (Rs ((klo q1 q2 + khi q1 q2) / qz 2) 200) := Lib.hid (by rw [div_eq]; exact ((ka.add kb).mul ((qz_rs (N := 2) (p := 1) (by decide) (by decide)).inv (by decide))).mono (by decide))
  replace ka := Lib.hid (ka.mono (show 8 ≤ 200 by decide))
  replace kb := Lib.hid (kb.mono (show 8 ≤ 200 by decide))
  generalize (vldR b1 x1 y1 && vldR b2 x2 y2 && decide (q1 ≤ q2)) = vv at *
  generalize (decide (klo q1 q2 ≤ q5) && decide (q5 ≤ khi q1 q2)) = cv at *
  generalize (decide (klo q3 q4 ≤ klo q1 q2) && decide (klo q1 q2 ≤ khi q3 q4) && (decide (klo q3 q4 ≤ khi q1 q2) && decide (khi q1 q2 ≤ khi q3 q4))) = iw at *
  generalize khi q1 q2 - klo q1 q2 = wd at *
  generalize (klo q1 q2 + khi q1 q2) / qz 2 = md at *
  generalize klo q1 q2 = lo at *
  generalize khi q1 q2 = hi at *
  generalize mkErr q1 q2 = er at *
  replace hM1 := Lib.hid hM1
  replace hM2 := Lib.hid hM2
  replace hV1 := Lib.hid hV1
  replace hV2 := Lib.hid hV2
  replace hC1 := Lib.hid hC1
  replace hC2 := Lib.hid hC2
  replace hI1 := Lib.hid hI1
  replace hI2 := Lib.hid hI2
  replace hW1 := Lib.hid hW1
  replace hW2 := Lib.hid hW2
  replace hD1 := Lib.hid hD1
  replace hD2 := Lib.hid hD2
  have k1 := Lib.hid X1.k
  have k2 := Lib.hid X2.k
  have k3 := Lib.hid X3.k
  have k4 := Lib.hid X4.k
  have k5 := Lib.hid X5.k
  have S := ((((((((((((((St.new w).read X1.rn).read X1.rd).read X2.rn).read X2.rd).read X3.rn).read X3.rd).read X4.rn).read X4.rd).read X5.rn).read X5.rd).allocAt (w.heap.size) #[.bool b1, .slice A1 n1 c1, .slice D1 m1 d1, .bool b2, .slice A2 n2 c2, .slice D2 m2 d2] 28 (noL6 _ _ _ _ _ _ _ _ _ _ _ _ _ _) (by simp)).allocAt (w.heap.size + 1) #[.bool b3, .slice A3 n3 c3, .slice D3 m3 d3, .bool b4, .slice A4 n4 c4, .slice D4 m4 d4] 28 (noL6 _ _ _ _ _ _ _ _ _ _ _ _ _ _) (by simp)).allocAt (w.heap.size + 1 + 1) #[.bool b5, .slice A5 n5 c5, .slice D5 m5 d5] 26 (noL3 _ _ _ _ _ _ _) (by simp))
  replace S := Lib.hid S
  clear X1 s1 X2 s2 X3 s3 X4 s4 X5 s5
  go_enter Tryz.func3, Tryz.ntmps3
  go_wp2_with fail
  refine (hL0.out _).mono ?_
  rintro e w1 ⟨rfl, bb⟩
  have T := (S.out.call bb)
  clear bb S
  have S := T
  clear T
  obtain ⟨c_v0, c_v1, c_v2⟩ := S.c3 0 rfl
  obtain ⟨c_b0, c_b1, c_b2, c_b3, c_b4, c_b5⟩ := S.c6 1 rfl
  obtain ⟨c_a0, c_a1, c_a2, c_a3, c_a4, c_a5⟩ := S.c6 2 rfl
  have hz : w.heap.size + 1 + 1 < w1.heap.size := S.lt 0 rfl
  replace S := Lib.hid S
  clear hL0
  go_wp2_with fail
  refine (hL1.out _).mono ?_
  rintro e w2 ⟨rfl, bb⟩
  have T := (S.out.call bb)
  clear bb S c_v0 c_v1 c_v2 c_b0 c_b1 c_b2 c_b3 c_b4 c_b5 c_a0 c_a1 c_a2 c_a3 c_a4 c_a5 hz
  have S := T
  clear T
  obtain ⟨c_v0, c_v1, c_v2⟩ := S.c3 0 rfl
  obtain ⟨c_b0, c_b1, c_b2, c_b3, c_b4, c_b5⟩ := S.c6 1 rfl
  obtain ⟨c_a0, c_a1, c_a2, c_a3, c_a4, c_a5⟩ := S.c6 2 rfl
  have hz : w.heap.size + 1 + 1 < w2.heap.size := S.lt 0 rfl
  replace S := Lib.hid S
  clear hL1
  go_wp2_with fail
  refine (hL2.out _).mono ?_
  rintro e w3 ⟨rfl, bb⟩
  have T := (S.out.call bb)
  clear bb S c_v0 c_v1 c_v2 c_b0 c_b1 c_b2 c_b3 c_b4 c_b5 c_a0 c_a1 c_a2 c_a3 c_a4 c_a5 hz
  have S := T
  clear T
  obtain ⟨c_v0, c_v1, c_v2⟩ := S.c3 0 rfl
  obtain ⟨c_b0, c_b1, c_b2, c_b3, c_b4, c_b5⟩ := S.c6 1 rfl
  obtain ⟨c_a0, c_a1, c_a2, c_a3, c_a4, c_a5⟩ := S.c6 2 rfl
  have hz : w.heap.size + 1 + 1 < w3.heap.size := S.lt 0 rfl
  replace S := Lib.hid S
  clear hL2
  go_wp2_with fail
  refine (hM1.out _ (Rw.of (S.out.r 9 rfl) (S.out.r 8 rfl) k1.out) (Rw.of (S.out.r 7 rfl) (S.out.r 6 rfl) k2.out)).mono ?_
  rintro e w4 ⟨A31, n31, c31, D31, m31, d31, A32, n32, c32, D32, m32, d32, rfl, Q31, Q32, bb⟩
  have T := (((((S.out.call bb).read Q31.n).read Q31.d).read Q32.n).read Q32.d)
  clear bb S c_v0 c_v1 c_v2 c_b0 c_b1 c_b2 c_b3 c_b4 c_b5 c_a0 c_a1 c_a2 c_a3 c_a4 c_a5 hz
  have S := T
  clear T
  obtain ⟨c_v0, c_v1, c_v2⟩ := S.c3 0 rfl
  obtain ⟨c_b0, c_b1, c_b2, c_b3, c_b4, c_b5⟩ := S.c6 1 rfl
  obtain ⟨c_a0, c_a1, c_a2, c_a3, c_a4, c_a5⟩ := S.c6 2 rfl
  have hz : w.heap.size + 1 + 1 < w4.heap.size := S.lt 0 rfl
  replace S := Lib.hid S
  clear Q31 Q32 hM1
  have S := (S.out.allocAt (w4.heap.size) #[.bool (ng lo.num), .slice A31 n31 c31, .slice D31 m31 d31, .bool (ng hi.num), .slice A32 n32 c32, .slice D32 m32 d32] 28 (noL6 _ _ _ _ _ _ _ _ _ _ _ _ _ _) (by simp))
  obtain ⟨a_a0, a_a1, a_a2, a_a3, a_a4, a_a5, b_a0, b_a1, b_a2, b_a3, b_a4, b_a5⟩ := S.cf6 3 rfl
  replace S := Lib.hid S
  go_wp2_with fail
  refine (hM2.out _ (Rw.of (S.out.r 13 rfl) (S.out.r 12 rfl) k1.out) (Rw.of (S.out.r 11 rfl) (S.out.r 10 rfl) k2.out)).mono ?_
  rintro e w5 ⟨A33, n33, c33, D33, m33, d33, A34, n34, c34, D34, m34, d34, rfl, Q33, Q34, bb⟩
  have T := (((((S.out.call bb).read Q33.n).read Q33.d).read Q34.n).read Q34.d)
  clear bb S c_v0 c_v1 c_v2 c_b0 c_b1 c_b2 c_b3 c_b4 c_b5 c_a0 c_a1 c_a2 c_a3 c_a4 c_a5 hz a_a0 b_a0 a_a1 b_a1 a_a2 b_a2 a_a3 b_a3 a_a4 b_a4 a_a5 b_a5
  have S := T
  clear T
  obtain ⟨c_p0, c_p1, c_p2, c_p3, c_p4, c_p5⟩ := S.c6 0 rfl
  obtain ⟨c_v0, c_v1, c_v2⟩ := S.c3 1 rfl
  obtain ⟨c_b0, c_b1, c_b2, c_b3, c_b4, c_b5⟩ := S.c6 2 rfl
  obtain ⟨c_a0, c_a1, c_a2, c_a3, c_a4, c_a5⟩ := S.c6 3 rfl
  have hz : w4.heap.size < w5.heap.size := S.lt 0 rfl
  replace S := Lib.hid S
  clear Q33 Q34 hM2
  go_upto_region 5 with fail
  clear c_p0 c_p1 c_p2 c_p3 c_p4 c_p5 c_v0 c_v1 c_v2 c_b0 c_b1 c_b2 c_b3 c_b4 c_b5 c_a0 c_a1 c_a2 c_a3 c_a4 c_a5 hz
  have S := (S.out.allocAt (w5.heap.size) #[.bool (ng lo.num), .slice A33 n33 c33, .slice D33 m33 d33, .bool (ng hi.num), .slice A34 n34 c34, .slice D34 m34 d34] 28 (noL6 _ _ _ _ _ _ _ _ _ _ _ _ _ _) (by simp))
  generalize hW6 : (World.alloc w5 (.cells #[.bool (ng lo.num), .slice A33 n33 c33, .slice D33 m33 d33, .bool (ng hi.num), .slice A34 n34 c34, .slice D34 m34 d34] 28)) = w6 at S ⊢
  clear hW6
  replace S := Lib.hid S
  refine RW.begin (Z := []) (S := (fun W => Cb W (w.heap.size) #[.bool b1, .slice A1 n1 c1, .slice D1 m1 d1, .bool b2, .slice A2 n2 c2, .slice D2 m2 d2] 28 ∧ Cb W (w.heap.size + 1) #[.bool b3, .slice A3 n3 c3, .slice D3 m3 d3, .bool b4, .slice A4 n4 c4, .slice D4 m4 d4] 28 ∧ Cb W (w.heap.size + 1 + 1) #[.bool b5, .slice A5 n5 c5, .slice D5 m5 d5] 26 ∧ Cb W (w4.heap.size) #[.bool (ng lo.num), .slice A31 n31 c31, .slice D31 m31 d31, .bool (ng hi.num), .slice A32 n32 c32, .slice D32 m32 d32] 28 ∧ Cb W (w5.heap.size) #[.bool (ng lo.num), .slice A33 n33 c33, .slice D33 m33 d33, .bool (ng hi.num), .slice A34 n34 c34, .slice D34 m34 d34] 28)) (by kernel_rfl) ?_ S.out ?_
  · exact ⟨by kernel_rfl, zis_nil, by decide, by decide, nol_nil, (fun _ _ h => ⟨h.kb 4 rfl, h.kb 3 rfl, h.kb 2 rfl, h.kb 1 rfl, h.kb 0 rfl⟩)⟩
  intro hzk
  clear S
  refine RW.c (i := 0) (args := #[]) (some 41) hzk.out at0 (hx := fun _ => by kernel_rfl) (h := fun _ S => (hA.out _).mono ?_)
  rintro e w7 ⟨rfl, bb⟩
  refine ⟨bb, _, [], rfl, rd_nil, ?_⟩
  clear bb S
  refine RW.t (i := 1) (v := .bool true) (some 42) at1 (hy := fun _ _ => by kernel_rfl) (h := ?_)
  refine RW.t (i := 2) (v := .agg #[.bool b1, .slice A1 n1 c1, .slice D1 m1 d1, .bool b2, .slice A2 n2 c2, .slice D2 m2 d2]) (some 43) at2 (hy := fun W hS => by (obtain ⟨k0, k1, k2, k3, k4, k5⟩ := Cb.c6 hS.1; clear hS; go_simp)) (h := ?_)
  refine RW.t (i := 4) (v := .agg #[.bool b1, .slice A1 n1 c1, .slice D1 m1 d1, .bool b2, .slice A2 n2 c2, .slice D2 m2 d2]) (some 45) at4 (hy := fun W hS => by (obtain ⟨k0, k1, k2, k3, k4, k5⟩ := Cb.c6 hS.1; clear hS; go_simp)) (h := ?_)
  refine RW.c (i := 3) (args := #[.agg #[.bool b1, .slice A1 n1 c1, .slice D1 m1 d1, .bool b2, .slice A2 n2 c2, .slice D2 m2 d2]]) (some 44) hzk.out at3 (hx := fun _ => by kernel_rfl) (h := fun _ S => (hV1.out _ (Rw.of (S.r 17 rfl) (S.r 16 rfl) k1.out) (Rw.of (S.r 15 rfl) (S.r 14 rfl) k2.out)).mono ?_)
  rintro e w8 ⟨rfl, bb⟩
  refine ⟨bb, _, [], rfl, rd_nil, ?_⟩
  clear bb S
  refine RW.c (i := 5) (args := #[.agg #[.bool b1, .slice A1 n1 c1, .slice D1 m1 d1, .bool b2, .slice A2 n2 c2, .slice D2 m2 d2]]) (some 46) hzk.out at5 (hx := fun _ => by kernel_rfl) (h := fun _ S => (hV2.out _ (Rw.of (S.r 17 rfl) (S.r 16 rfl) k1.out) (Rw.of (S.r 15 rfl) (S.r 14 rfl) k2.out)).mono ?_)
  rintro e w9 ⟨rfl, bb⟩
  refine ⟨bb, _, [], rfl, rd_nil, ?_⟩
  clear bb S
  refine RW.t (i := 6) (v := .bool true) (some 47) at6 (hy := fun _ _ => by go_simp) (h := ?_)
  refine RW.t (i := 7) (v := .bool true) (some 48) at7 (hy := fun _ _ => by kernel_rfl) (h := ?_)
  refine RW.t (i := 8) (v := .bool true) (some 49) at8 (hy := fun _ _ => by kernel_rfl) (h := ?_)
  refine RW.t (i := 9) (v := .agg #[.bool (ng lo.num), .slice A31 n31 c31, .slice D31 m31 d31, .bool (ng hi.num), .slice A32 n32 c32, .slice D32 m32 d32]) (some 50) at9 (hy := fun W hS => by (obtain ⟨k0, k1, k2, k3, k4, k5⟩ := Cb.c6 hS.2.2.2.1; clear hS; go_simp)) (h := ?_)
  refine RW.t (i := 10) (v := .agg #[.bool (ng lo.num), .slice A33 n33 c33, .slice D33 m33 d33, .bool (ng hi.num), .slice A34 n34 c34, .slice D34 m34 d34]) (some 51) at10 (hy := fun W hS => by (obtain ⟨k0, k1, k2, k3, k4, k5⟩ := Cb.c6 hS.2.2.2.2; clear hS; go_simp)) (h := ?_)
  refine RW.c (i := 11) (args := #[.agg #[.bool (ng lo.num), .slice A31 n31 c31, .slice D31 m31 d31, .bool (ng hi.num), .slice A32 n32 c32, .slice D32 m32 d32], .agg #[.bool (ng lo.num), .slice A33 n33 c33, .slice D33 m33 d33, .bool (ng hi.num), .slice A34 n34 c34, .slice D34 m34 d34]]) (some 52) hzk.out at11 (hx := fun _ => by kernel_rfl) (h := fun _ S => (sameV lo hi ka.out kb.out _ _ _ _ _ _ _ _ _ _ _ _ _ _ _ _ _ _ _ _ _ _ _ _ _ ⟨S.r 7 rfl, S.r 6 rfl⟩ ⟨S.r 5 rfl, S.r 4 rfl⟩ ⟨S.r 3 rfl, S.r 2 rfl⟩ ⟨S.r 1 rfl, S.r 0 rfl⟩).mono ?_)
  rintro e w10 ⟨rfl, bb⟩
  refine ⟨bb, _, [], rfl, rd_nil, ?_⟩
  clear bb S
  refine RW.t (i := 12) (v := .bool true) (some 53) at12 (hy := fun _ _ => by kernel_rfl) (h := ?_)
  refine RW.t (i := 13) (v := .bool true) (some 54) at13 (hy := fun _ _ => by kernel_rfl) (h := ?_)
  refine RW.t (i := 14) (v := .int .i64 er) (some 55) at14 (hy := fun _ _ => by kernel_rfl) (h := ?_)
  refine RW.t (i := 15) (v := .int .i64 er) (some 56) at15 (hy := fun _ _ => by kernel_rfl) (h := ?_)
  refine RW.t (i := 16) (v := .bool true) (some 57) at16 (hy := fun _ _ => by go_simp) (h := ?_)
  refine RW.t (i := 17) (v := .bool true) (some 58) at17 (hy := fun _ _ => by kernel_rfl) (h := ?_)
  refine RW.t (i := 18) (v := .bool true) (some 59) at18 (hy := fun _ _ => by kernel_rfl) (h := ?_)
  refine RW.t (i := 19) (v := .agg #[.bool b1, .slice A1 n1 c1, .slice D1 m1 d1, .bool b2, .slice A2 n2 c2, .slice D2 m2 d2]) (some 60) at19 (hy := fun W hS => by (obtain ⟨k0, k1, k2, k3, k4, k5⟩ := Cb.c6 hS.1; clear hS; go_simp)) (h := ?_)
  refine RW.t (i := 20) (v := .agg #[.bool b5, .slice A5 n5 c5, .slice D5 m5 d5]) (some 61) at20 (hy := fun W hS => by (have k0 := Cb.cell (i := 0) hS.2.2.1 rfl; have k1 := Cb.cell (i := 1) hS.2.2.1 rfl; have k2 := Cb.cell (i := 2) hS.2.2.1 rfl; clear hS; go_simp)) (h := ?_)
  refine RW.t (i := 22) (v := .agg #[.bool b1, .slice A1 n1 c1, .slice D1 m1 d1, .bool b2, .slice A2 n2 c2, .slice D2 m2 d2]) (some 63) at22 (hy := fun W hS => by (obtain ⟨k0, k1, k2, k3, k4, k5⟩ := Cb.c6 hS.1; clear hS; go_simp)) (h := ?_)
  refine RW.t (i := 23) (v := .agg #[.bool b5, .slice A5 n5 c5, .slice D5 m5 d5]) (some 64) at23 (hy := fun W hS => by (have k0 := Cb.cell (i := 0) hS.2.2.1 rfl; have k1 := Cb.cell (i := 1) hS.2.2.1 rfl; have k2 := Cb.cell (i := 2) hS.2.2.1 rfl; clear hS; go_simp)) (h := ?_)
  refine RW.c (i := 21) (args := #[.agg #[.bool b1, .slice A1 n1 c1, .slice D1 m1 d1, .bool b2, .slice A2 n2 c2, .slice D2 m2 d2], .agg #[.bool b5, .slice A5 n5 c5, .slice D5 m5 d5]]) (some 62) hzk.out at21 (hx := fun _ => by kernel_rfl) (h := fun _ S => (hC1.out _ (Rw.of (S.r 17 rfl) (S.r 16 rfl) k1.out) (Rw.of (S.r 15 rfl) (S.r 14 rfl) k2.out) (Rw.of (S.r 9 rfl) (S.r 8 rfl) k5.out)).mono ?_)
  rintro e w11 ⟨rfl, bb⟩
  refine ⟨bb, _, [], rfl, rd_nil, ?_⟩
  clear bb S
  refine RW.c (i := 24) (args := #[.agg #[.bool b1, .slice A1 n1 c1, .slice D1 m1 d1, .bool b2, .slice A2 n2 c2, .slice D2 m2 d2], .agg #[.bool b5, .slice A5 n5 c5, .slice D5 m5 d5]]) (some 65) hzk.out at24 (hx := fun _ => by kernel_rfl) (h := fun _ S => (hC2.out _ (Rw.of (S.r 17 rfl) (S.r 16 rfl) k1.out) (Rw.of (S.r 15 rfl) (S.r 14 rfl) k2.out) (Rw.of (S.r 9 rfl) (S.r 8 rfl) k5.out)).mono ?_)
  rintro e w12 ⟨rfl, bb⟩
  refine ⟨bb, _, [], rfl, rd_nil, ?_⟩
  clear bb S
  refine RW.t (i := 25) (v := .bool true) (some 66) at25 (hy := fun _ _ => by go_simp) (h := ?_)
  refine RW.t (i := 26) (v := .bool true) (some 67) at26 (hy := fun _ _ => by kernel_rfl) (h := ?_)
  refine RW.t (i := 27) (v := .bool true) (some 68) at27 (hy := fun _ _ => by kernel_rfl) (h := ?_)
  refine RW.t (i := 28) (v := .agg #[.bool b1, .slice A1 n1 c1, .slice D1 m1 d1, .bool b2, .slice A2 n2 c2, .slice D2 m2 d2]) (some 69) at28 (hy := fun W hS => by (obtain ⟨k0, k1, k2, k3, k4, k5⟩ := Cb.c6 hS.1; clear hS; go_simp)) (h := ?_)
  refine RW.t (i := 29) (v := .agg #[.bool b3, .slice A3 n3 c3, .slice D3 m3 d3, .bool b4, .slice A4 n4 c4, .slice D4 m4 d4]) (some 70) at29 (hy := fun W hS => by (obtain ⟨k0, k1, k2, k3, k4, k5⟩ := Cb.c6 hS.2.1; clear hS; go_simp)) (h := ?_)
  refine RW.t (i := 31) (v := .agg #[.bool b1, .slice A1 n1 c1, .slice D1 m1 d1, .bool b2, .slice A2 n2 c2, .slice D2 m2 d2]) (some 72) at31 (hy := fun W hS => by (obtain ⟨k0, k1, k2, k3, k4, k5⟩ := Cb.c6 hS.1; clear hS; go_simp)) (h := ?_)
  refine RW.t (i := 32) (v := .agg #[.bool b3, .slice A3 n3 c3, .slice D3 m3 d3, .bool b4, .slice A4 n4 c4, .slice D4 m4 d4]) (some 73) at32 (hy := fun W hS => by (obtain ⟨k0, k1, k2, k3, k4, k5⟩ := Cb.c6 hS.2.1; clear hS; go_simp)) (h := ?_)
  refine RW.c (i := 30) (args := #[.agg #[.bool b1, .slice A1 n1 c1, .slice D1 m1 d1, .bool b2, .slice A2 n2 c2, .slice D2 m2 d2], .agg #[.bool b3, .slice A3 n3 c3, .slice D3 m3 d3, .bool b4, .slice A4 n4 c4, .slice D4 m4 d4]]) (some 71) hzk.out at30 (hx := fun _ => by kernel_rfl) (h := fun _ S => (hI1.out _ (Rw.of (S.r 17 rfl) (S.r 16 rfl) k1.out) (Rw.of (S.r 15 rfl) (S.r 14 rfl) k2.out) (Rw.of (S.r 13 rfl) (S.r 12 rfl) k3.out) (Rw.of (S.r 11 rfl) (S.r 10 rfl) k4.out)).mono ?_)
  rintro e w13 ⟨rfl, bb⟩
  refine ⟨bb, _, [], rfl, rd_nil, ?_⟩
  clear bb S
  refine RW.c (i := 33) (args := #[.agg #[.bool b1, .slice A1 n1 c1, .slice D1 m1 d1, .bool b2, .slice A2 n2 c2, .slice D2 m2 d2], .agg #[.bool b3, .slice A3 n3 c3, .slice D3 m3 d3, .bool b4, .slice A4 n4 c4, .slice D4 m4 d4]]) (some 74) hzk.out at33 (hx := fun _ => by kernel_rfl) (h := fun _ S => (hI2.out _ (Rw.of (S.r 17 rfl) (S.r 16 rfl) k1.out) (Rw.of (S.r 15 rfl) (S.r 14 rfl) k2.out) (Rw.of (S.r 13 rfl) (S.r 12 rfl) k3.out) (Rw.of (S.r 11 rfl) (S.r 10 rfl) k4.out)).mono ?_)
  rintro e w14 ⟨rfl, bb⟩
  refine ⟨bb, _, [], rfl, rd_nil, ?_⟩
  clear bb S
  refine RW.t (i := 34) (v := .bool true) (some 75) at34 (hy := fun _ _ => by go_simp) (h := ?_)
  refine RW.t (i := 35) (v := .bool true) (some 76) at35 (hy := fun _ _ => by kernel_rfl) (h := ?_)
  refine RW.t (i := 36) (v := .bool true) (some 77) at36 (hy := fun _ _ => by kernel_rfl) (h := ?_)
  refine RW.t (i := 37) (v := .agg #[.bool b1, .slice A1 n1 c1, .slice D1 m1 d1, .bool b2, .slice A2 n2 c2, .slice D2 m2 d2]) (some 78) at37 (hy := fun W hS => by (obtain ⟨k0, k1, k2, k3, k4, k5⟩ := Cb.c6 hS.1; clear hS; go_simp)) (h := ?_)
  refine RW.t (i := 39) (v := .agg #[.bool b1, .slice A1 n1 c1, .slice D1 m1 d1, .bool b2, .slice A2 n2 c2, .slice D2 m2 d2]) (some 80) at39 (hy := fun W hS => by (obtain ⟨k0, k1, k2, k3, k4, k5⟩ := Cb.c6 hS.1; clear hS; go_simp)) (h := ?_)
  refine RW.c (i := 38) (args := #[.agg #[.bool b1, .slice A1 n1 c1, .slice D1 m1 d1, .bool b2, .slice A2 n2 c2, .slice D2 m2 d2]]) (some 79) hzk.out at38 (hx := fun _ => by kernel_rfl) (h := fun _ S => (hW1.out _ (Rw.of (S.r 17 rfl) (S.r 16 rfl) k1.out) (Rw.of (S.r 15 rfl) (S.r 14 rfl) k2.out)).mono ?_)
  rintro e w15 ⟨A41, n41, c41, D41, m41, d41, rfl, Q41, bb⟩
  refine ⟨bb, _, [(D41, m41, d41, dn wd), (A41, n41, c41, limbs wd.num.natAbs)], rfl, (rd_cons Q41.d (rd_cons Q41.n rd_nil)), ?_⟩
  clear bb S Q41
  refine RW.c (i := 40) (args := #[.agg #[.bool b1, .slice A1 n1 c1, .slice D1 m1 d1, .bool b2, .slice A2 n2 c2, .slice D2 m2 d2]]) (some 81) hzk.out at40 (hx := fun _ => by kernel_rfl) (h := fun _ S => (hW2.out _ (Rw.of (S.r 19 rfl) (S.r 18 rfl) k1.out) (Rw.of (S.r 17 rfl) (S.r 16 rfl) k2.out)).mono ?_)
  rintro e w16 ⟨A42, n42, c42, D42, m42, d42, rfl, Q42, bb⟩
  refine ⟨bb, _, [(D42, m42, d42, dn wd), (A42, n42, c42, limbs wd.num.natAbs)], rfl, (rd_cons Q42.d (rd_cons Q42.n rd_nil)), ?_⟩
  clear bb S Q42
  refine RW.c (i := 41) (args := #[.agg #[.bool (ng wd.num), .slice A41 n41 c41, .slice D41 m41 d41], .agg #[.bool (ng wd.num), .slice A42 n42 c42, .slice D42 m42 d42]]) (some 82) hzk.out at41 (hx := fun _ => by kernel_rfl) (h := fun _ S => (sameT wd wd rfl _ _ _ _ _ _ _ _ _ _ _ _ _ ⟨S.r 3 rfl, S.r 2 rfl⟩ ⟨S.r 1 rfl, S.r 0 rfl⟩ swd.out swd.out).mono ?_)
  rintro e w17 ⟨rfl, bb⟩
  refine ⟨bb, _, [], rfl, rd_nil, ?_⟩
  clear bb S
  refine RW.t (i := 42) (v := .bool true) (some 83) at42 (hy := fun _ _ => by kernel_rfl) (h := ?_)
  refine RW.t (i := 43) (v := .bool true) (some 84) at43 (hy := fun _ _ => by kernel_rfl) (h := ?_)
  refine RW.t (i := 44) (v := .agg #[.bool b1, .slice A1 n1 c1, .slice D1 m1 d1, .bool b2, .slice A2 n2 c2, .slice D2 m2 d2]) (some 85) at44 (hy := fun W hS => by (obtain ⟨k0, k1, k2, k3, k4, k5⟩ := Cb.c6 hS.1; clear hS; go_simp)) (h := ?_)
  refine RW.t (i := 46) (v := .agg #[.bool b1, .slice A1 n1 c1, .slice D1 m1 d1, .bool b2, .slice A2 n2 c2, .slice D2 m2 d2]) (some 87) (at_succ at45) (hy := fun W hS => by (obtain ⟨k0, k1, k2, k3, k4, k5⟩ := Cb.c6 hS.1; clear hS; go_simp)) (h := ?_)
  refine RW.c (i := 45) (args := #[.agg #[.bool b1, .slice A1 n1 c1, .slice D1 m1 d1, .bool b2, .slice A2 n2 c2, .slice D2 m2 d2]]) (some 86) hzk.out at45 (hx := fun _ => by kernel_rfl) (h := fun _ S => (hD1.out _ (Rw.of (S.r 21 rfl) (S.r 20 rfl) k1.out) (Rw.of (S.r 19 rfl) (S.r 18 rfl) k2.out)).mono ?_)
  rintro e w18 ⟨A43, n43, c43, D43, m43, d43, rfl, Q43, bb⟩
  refine ⟨bb, _, [(D43, m43, d43, dn md), (A43, n43, c43, limbs md.num.natAbs)], rfl, (rd_cons Q43.d (rd_cons Q43.n rd_nil)), ?_⟩
  clear bb S Q43
  refine RW.c (i := 47) (args := #[.agg #[.bool b1, .slice A1 n1 c1, .slice D1 m1 d1, .bool b2, .slice A2 n2 c2, .slice D2 m2 d2]]) (some 88) hzk.out (at_succ (at_succ at45)) (hx := fun _ => by kernel_rfl) (h := fun _ S => (hD2.out _ (Rw.of (S.r 23 rfl) (S.r 22 rfl) k1.out) (Rw.of (S.r 21 rfl) (S.r 20 rfl) k2.out)).mono ?_)
  rintro e w19 ⟨A44, n44, c44, D44, m44, d44, rfl, Q44, bb⟩
  refine ⟨bb, _, [(D44, m44, d44, dn md), (A44, n44, c44, limbs md.num.natAbs)], rfl, (rd_cons Q44.d (rd_cons Q44.n rd_nil)), ?_⟩
  clear bb S Q44
  refine RW.c (i := 48) (args := #[.agg #[.bool (ng md.num), .slice A43 n43 c43, .slice D43 m43 d43], .agg #[.bool (ng md.num), .slice A44 n44 c44, .slice D44 m44 d44]]) (some 89) hzk.out (at_succ (at_succ (at_succ at45))) (hx := fun _ => by kernel_rfl) (h := fun _ S => (sameT md md rfl _ _ _ _ _ _ _ _ _ _ _ _ _ ⟨S.r 3 rfl, S.r 2 rfl⟩ ⟨S.r 1 rfl, S.r 0 rfl⟩ smd.out smd.out).mono ?_)
  rintro e w20 ⟨rfl, bb⟩
  refine ⟨bb, _, [], rfl, rd_nil, ?_⟩
  clear bb S
  refine RW.t (i := 49) (v := .bool true) (some 90) (at_succ (at_succ (at_succ (at_succ at45)))) (hy := fun _ _ => by kernel_rfl) (h := ?_)
  refine RW.tail hzk.out (by kernel_rfl) ?_
  intro gs w21 hgs hS S
  obtain rfl := len0 hgs
  clear hS hgs hzk
  simp only [mark, fill, Act.put, List.setIfInBounds_toArray, List.set_cons_zero, List.set_cons_succ]
  replace S := Lib.hid S
  refine Wk.o (i := 50) (at_succ (at_succ (at_succ (at_succ (at_succ at45))))) (by kernel_rfl) fun K' hK => ?_
  go_simp
  have SN := S.out
  clear S
  have S := SN
  clear SN
  refine hK.out _ _ ⟨(S.cb 4 rfl), (S.cb 3 rfl), (S.cb 2 rfl), (S.cb 1 rfl), (S.cb 0 rfl)⟩ ?_
  clear hK K'
  replace S := Lib.hid S
  try simp only [Act.put, List.setIfInBounds_toArray, List.set_cons_zero, List.set_cons_succ]
  refine Wk.done (by kernel_rfl) ?_
  go_simp
  replace S := S.out
  have S : St w _ [(w5.heap.size, #[.bool (ng lo.num), .slice A33 n33 c33, .slice D33 m33 d33, .bool (ng hi.num), .slice A34 n34 c34, .slice D34 m34 d34], 28), (w4.heap.size, #[.bool (ng lo.num), .slice A31 n31 c31, .slice D31 m31 d31, .bool (ng hi.num), .slice A32 n32 c32, .slice D32 m32 d32], 28), (w.heap.size + 1 + 1, #[.bool b5, .slice A5 n5 c5, .slice D5 m5 d5], 26), (w.heap.size + 1, #[.bool b3, .slice A3 n3 c3, .slice D3 m3 d3, .bool b4, .slice A4 n4 c4, .slice D4 m4 d4], 28), (w.heap.size, #[.bool b1, .slice A1 n1 c1, .slice D1 m1 d1, .bool b2, .slice A2 n2 c2, .slice D2 m2 d2], 28)] [(D44, m44, d44, dn md), (A44, n44, c44, limbs md.num.natAbs), (D43, m43, d43, dn md), (A43, n43, c43, limbs md.num.natAbs), (D42, m42, d42, dn wd), (A42, n42, c42, limbs wd.num.natAbs), (D41, m41, d41, dn wd), (A41, n41, c41, limbs wd.num.natAbs), (D34, m34, d34, dn hi), (A34, n34, c34, limbs hi.num.natAbs), (D33, m33, d33, dn lo), (A33, n33, c33, limbs lo.num.natAbs), (D32, m32, d32, dn hi), (A32, n32, c32, limbs hi.num.natAbs), (D31, m31, d31, dn lo), (A31, n31, c31, limbs lo.num.natAbs), (D5, m5, d5, y5), (A5, n5, c5, x5), (D4, m4, d4, y4), (A4, n4, c4, x4), (D3, m3, d3, y3), (A3, n3, c3, x3), (D2, m2, d2, y2), (A2, n2, c2, x2), (D1, m1, d1, y1), (A1, n1, c1, x1)] := S
  replace S := Lib.hid S
  replace S := S.out
  replace S := Lib.hid S
  have S := S.out
  replace S := Lib.hid S
  go_wp2
  go_ret
  exact ⟨rfl, S.out.bel⟩
end Go.Proofs.YtidhloliahfknaaGreat
