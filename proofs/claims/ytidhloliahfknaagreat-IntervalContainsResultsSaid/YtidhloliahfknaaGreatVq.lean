/- The law IntervalContainsResults. -/
import Derived.Test.YtidhloliahfknaaGreatQVpz
import Derived.Test.YtidhloliahfknaaGreatVi
namespace Go.Proofs.YtidhloliahfknaaGreat
open Go.RowKit RQ

set_option maxRecDepth 100000 in
set_option maxHeartbeats 16000000 in
theorem law_cr (b1 : Bool) (A1 : Option Addr) (n1 c1 : Nat) (x1 : List Nat) (D1 : Option Addr) (m1 d1 : Nat) (y1 : List Nat) (b2 : Bool) (A2 : Option Addr) (n2 c2 : Nat) (x2 : List Nat) (D2 : Option Addr) (m2 d2 : Nat) (y2 : List Nat) (b3 : Bool) (A3 : Option Addr) (n3 c3 : Nat) (x3 : List Nat) (D3 : Option Addr) (m3 d3 : Nat) (y3 : List Nat) (b4 : Bool) (A4 : Option Addr) (n4 c4 : Nat) (x4 : List Nat) (D4 : Option Addr) (m4 d4 : Nat) (y4 : List Nat) (b5 : Bool) (A5 : Option Addr) (n5 c5 : Nat) (x5 : List Nat) (D5 : Option Addr) (m5 d5 : Nat) (y5 : List Nat) (b6 : Bool) (A6 : Option Addr) (n6 c6 : Nat) (x6 : List Nat) (D6 : Option Addr) (m6 d6 : Nat) (y6 : List Nat) (w : World) (R1 : Rd w A1 n1 c1 x1) (M1 : n1 ≤ 9223372036854775807) (D1' : Rd w D1 m1 d1 y1) (N1 : m1 ≤ 9223372036854775807) (R2 : Rd w A2 n2 c2 x2) (M2 : n2 ≤ 9223372036854775807) (D2' : Rd w D2 m2 d2 y2) (N2 : m2 ≤ 9223372036854775807) (R3 : Rd w A3 n3 c3 x3) (M3 : n3 ≤ 9223372036854775807) (D3' : Rd w D3 m3 d3 y3) (N3 : m3 ≤ 9223372036854775807) (R4 : Rd w A4 n4 c4 x4) (M4 : n4 ≤ 9223372036854775807) (D4' : Rd w D4 m4 d4 y4) (N4 : m4 ≤ 9223372036854775807) (R5 : Rd w A5 n5 c5 x5) (M5 : n5 ≤ 9223372036854775807) (D5' : Rd w D5 m5 d5 y5) (N5 : m5 ≤ 9223372036854775807) (R6 : Rd w A6 n6 c6 x6) (M6 : n6 ≤ 9223372036854775807) (D6' : Rd w D6 m6 d6 y6) (N6 : m6 ≤ 9223372036854775807) : Calls Tryz.prog 6 #[.agg #[.bool b1, .slice A1 n1 c1, .slice D1 m1 d1, .bool b2, .slice A2 n2 c2, .slice D2 m2 d2], .agg #[.bool b3, .slice A3 n3 c3, .slice D3 m3 d3, .bool b4, .slice A4 n4 c4, .slice D4 m4 d4], .agg #[.bool b5, .slice A5 n5 c5, .slice D5 m5 d5], .agg #[.bool b6, .slice A6 n6 c6, .slice D6 m6 d6]] w fun e w' => e = .returned (.bool true) ∧ Below w.heap.size w w' := by
  have hA := Lib.hid (fun W => awakeV_any W)
  have hL0 := fun W => light4_any b1 A1 n1 c1 D1 m1 d1 b2 A2 n2 c2 D2 m2 d2 W M1 N1 M2 N2
  have hL1 := fun W => light4_any b3 A3 n3 c3 D3 m3 d3 b4 A4 n4 c4 D4 m4 d4 W M3 N3 M4 N4
  have hL2 := fun W => lightR_any b5 A5 n5 c5 D5 m5 d5 W M5 N5
  have hL3 := fun W => lightR_any b6 A6 n6 c6 D6 m6 d6 W M6 N6
  cases l0 : (lightB n1 m1 && lightB n2 m2)
  · rw [l0] at hL0
    replace hL0 := Lib.hid hL0
    clear hL1
    clear hL2
    clear hL3
    clear l0
    have S := (((((((((((((((((St.new w).read R1).read D1').read R2).read D2').read R3).read D3').read R4).read D4').read R5).read D5').read R6).read D6').allocAt (w.heap.size) #[.bool b1, .slice A1 n1 c1, .slice D1 m1 d1, .bool b2, .slice A2 n2 c2, .slice D2 m2 d2] 28 (noL6 _ _ _ _ _ _ _ _ _ _ _ _ _ _) (by simp)).allocAt (w.heap.size + 1) #[.bool b3, .slice A3 n3 c3, .slice D3 m3 d3, .bool b4, .slice A4 n4 c4, .slice D4 m4 d4] 28 (noL6 _ _ _ _ _ _ _ _ _ _ _ _ _ _) (by simp)).allocAt (w.heap.size + 1 + 1) #[.bool b5, .slice A5 n5 c5, .slice D5 m5 d5] 26 (noL3 _ _ _ _ _ _ _) (by simp)).allocAt (w.heap.size + 1 + 1 + 1) #[.bool b6, .slice A6 n6 c6, .slice D6 m6 d6] 26 (noL3 _ _ _ _ _ _ _) (by simp))
    replace S := Lib.hid S
    clear R1 M1 D1' N1 R2 M2 D2' N2 R3 M3 D3' N3 R4 M4 D4' N4 R5 M5 D5' N5 R6 M6 D6' N6
    go_enter Tryz.func6, Tryz.ntmps6
    go_wp2_with fail
    refine (hL0.out _).mono ?_
    rintro e w1 ⟨rfl, bb⟩
    have T := (S.out.call bb)
    clear bb S
    have S := T
    clear T
    obtain ⟨c_y0, c_y1, c_y2⟩ := S.c3 0 rfl
    obtain ⟨c_x0, c_x1, c_x2⟩ := S.c3 1 rfl
    obtain ⟨c_b0, c_b1, c_b2, c_b3, c_b4, c_b5⟩ := S.c6 2 rfl
    obtain ⟨c_a0, c_a1, c_a2, c_a3, c_a4, c_a5⟩ := S.c6 3 rfl
    have hz : w.heap.size + 1 + 1 + 1 < w1.heap.size := S.lt 0 rfl
    replace S := Lib.hid S
    clear hL0
    go_wp2_with fail
    refine (hA.out _).mono ?_
    rintro e w2 ⟨rfl, bb⟩
    have T := (S.out.call bb)
    clear bb S c_y0 c_y1 c_y2 c_x0 c_x1 c_x2 c_b0 c_b1 c_b2 c_b3 c_b4 c_b5 c_a0 c_a1 c_a2 c_a3 c_a4 c_a5 hz
    have S := T
    clear T
    obtain ⟨c_y0, c_y1, c_y2⟩ := S.c3 0 rfl
    obtain ⟨c_x0, c_x1, c_x2⟩ := S.c3 1 rfl
    obtain ⟨c_b0, c_b1, c_b2, c_b3, c_b4, c_b5⟩ := S.c6 2 rfl
    obtain ⟨c_a0, c_a1, c_a2, c_a3, c_a4, c_a5⟩ := S.c6 3 rfl
    have hz : w.heap.size + 1 + 1 + 1 < w2.heap.size := S.lt 0 rfl
    replace S := Lib.hid S
    have S := S.out
    replace S := Lib.hid S
    go_wp2
    go_ret
    exact ⟨rfl, S.out.bel⟩
  rw [l0] at hL0
  cases l1 : (lightB n3 m3 && lightB n4 m4)
  · rw [l1] at hL1
    replace hL0 := Lib.hid hL0
    replace hL1 := Lib.hid hL1
    clear hL2
    clear hL3
    clear l0 l1
    have S := (((((((((((((((((St.new w).read R1).read D1').read R2).read D2').read R3).read D3').read R4).read D4').read R5).read D5').read R6).read D6').allocAt (w.heap.size) #[.bool b1, .slice A1 n1 c1, .slice D1 m1 d1, .bool b2, .slice A2 n2 c2, .slice D2 m2 d2] 28 (noL6 _ _ _ _ _ _ _ _ _ _ _ _ _ _) (by simp)).allocAt (w.heap.size + 1) #[.bool b3, .slice A3 n3 c3, .slice D3 m3 d3, .bool b4, .slice A4 n4 c4, .slice D4 m4 d4] 28 (noL6 _ _ _ _ _ _ _ _ _ _ _ _ _ _) (by simp)).allocAt (w.heap.size + 1 + 1) #[.bool b5, .slice A5 n5 c5, .slice D5 m5 d5] 26 (noL3 _ _ _ _ _ _ _) (by simp)).allocAt (w.heap.size + 1 + 1 + 1) #[.bool b6, .slice A6 n6 c6, .slice D6 m6 d6] 26 (noL3 _ _ _ _ _ _ _) (by simp))
    replace S := Lib.hid S
    clear R1 M1 D1' N1 R2 M2 D2' N2 R3 M3 D3' N3 R4 M4 D4' N4 R5 M5 D5' N5 R6 M6 D6' N6
    go_enter Tryz.func6, Tryz.ntmps6
    go_wp2_with fail
    refine (hL0.out _).mono ?_
    rintro e w1 ⟨rfl, bb⟩
    have T := (S.out.call bb)
    clear bb S
    have S := T
    clear T
    obtain ⟨c_y0, c_y1, c_y2⟩ := S.c3 0 rfl
    obtain ⟨c_x0, c_x1, c_x2⟩ := S.c3 1 rfl
    obtain ⟨c_b0, c_b1, c_b2, c_b3, c_b4, c_b5⟩ := S.c6 2 rfl
    obtain ⟨c_a0, c_a1, c_a2, c_a3, c_a4, c_a5⟩ := S.c6 3 rfl
    have hz : w.heap.size + 1 + 1 + 1 < w1.heap.size := S.lt 0 rfl
    replace S := Lib.hid S
    clear hL0
    go_wp2_with fail
    refine (hL1.out _).mono ?_
    rintro e w2 ⟨rfl, bb⟩
    have T := (S.out.call bb)
    clear bb S c_y0 c_y1 c_y2 c_x0 c_x1 c_x2 c_b0 c_b1 c_b2 c_b3 c_b4 c_b5 c_a0 c_a1 c_a2 c_a3 c_a4 c_a5 hz
    have S := T
    clear T
    obtain ⟨c_y0, c_y1, c_y2⟩ := S.c3 0 rfl
    obtain ⟨c_x0, c_x1, c_x2⟩ := S.c3 1 rfl
    obtain ⟨c_b0, c_b1, c_b2, c_b3, c_b4, c_b5⟩ := S.c6 2 rfl
    obtain ⟨c_a0, c_a1, c_a2, c_a3, c_a4, c_a5⟩ := S.c6 3 rfl
    have hz : w.heap.size + 1 + 1 + 1 < w2.heap.size := S.lt 0 rfl
    replace S := Lib.hid S
    clear hL1
    go_wp2_with fail
    refine (hA.out _).mono ?_
    rintro e w3 ⟨rfl, bb⟩
    have T := (S.out.call bb)
    clear bb S c_y0 c_y1 c_y2 c_x0 c_x1 c_x2 c_b0 c_b1 c_b2 c_b3 c_b4 c_b5 c_a0 c_a1 c_a2 c_a3 c_a4 c_a5 hz
    have S := T
    clear T
    obtain ⟨c_y0, c_y1, c_y2⟩ := S.c3 0 rfl
    obtain ⟨c_x0, c_x1, c_x2⟩ := S.c3 1 rfl
    obtain ⟨c_b0, c_b1, c_b2, c_b3, c_b4, c_b5⟩ := S.c6 2 rfl
    obtain ⟨c_a0, c_a1, c_a2, c_a3, c_a4, c_a5⟩ := S.c6 3 rfl
    have hz : w.heap.size + 1 + 1 + 1 < w3.heap.size := S.lt 0 rfl
    replace S := Lib.hid S
    have S := S.out
    replace S := Lib.hid S
    go_wp2
    go_ret
    exact ⟨rfl, S.out.bel⟩
  rw [l1] at hL1
  cases l2 : (lightB n5 m5)
  · rw [l2] at hL2
    replace hL0 := Lib.hid hL0
    replace hL1 := Lib.hid hL1
    replace hL2 := Lib.hid hL2
    clear hL3
    clear l0 l1 l2
    have S := (((((((((((((((((St.new w).read R1).read D1').read R2).read D2').read R3).read D3').read R4).read D4').read R5).read D5').read R6).read D6').allocAt (w.heap.size) #[.bool b1, .slice A1 n1 c1, .slice D1 m1 d1, .bool b2, .slice A2 n2 c2, .slice D2 m2 d2] 28 (noL6 _ _ _ _ _ _ _ _ _ _ _ _ _ _) (by simp)).allocAt (w.heap.size + 1) #[.bool b3, .slice A3 n3 c3, .slice D3 m3 d3, .bool b4, .slice A4 n4 c4, .slice D4 m4 d4] 28 (noL6 _ _ _ _ _ _ _ _ _ _ _ _ _ _) (by simp)).allocAt (w.heap.size + 1 + 1) #[.bool b5, .slice A5 n5 c5, .slice D5 m5 d5] 26 (noL3 _ _ _ _ _ _ _) (by simp)).allocAt (w.heap.size + 1 + 1 + 1) #[.bool b6, .slice A6 n6 c6, .slice D6 m6 d6] 26 (noL3 _ _ _ _ _ _ _) (by simp))
    replace S := Lib.hid S
    clear R1 M1 D1' N1 R2 M2 D2' N2 R3 M3 D3' N3 R4 M4 D4' N4 R5 M5 D5' N5 R6 M6 D6' N6
    go_enter Tryz.func6, Tryz.ntmps6
    go_wp2_with fail
    refine (hL0.out _).mono ?_
    rintro e w1 ⟨rfl, bb⟩
    have T := (S.out.call bb)
    clear bb S
    have S := T
    clear T
    obtain ⟨c_y0, c_y1, c_y2⟩ := S.c3 0 rfl
    obtain ⟨c_x0, c_x1, c_x2⟩ := S.c3 1 rfl
    obtain ⟨c_b0, c_b1, c_b2, c_b3, c_b4, c_b5⟩ := S.c6 2 rfl
    obtain ⟨c_a0, c_a1, c_a2, c_a3, c_a4, c_a5⟩ := S.c6 3 rfl
    have hz : w.heap.size + 1 + 1 + 1 < w1.heap.size := S.lt 0 rfl
    replace S := Lib.hid S
    clear hL0
    go_wp2_with fail
    refine (hL1.out _).mono ?_
    rintro e w2 ⟨rfl, bb⟩
    have T := (S.out.call bb)
    clear bb S c_y0 c_y1 c_y2 c_x0 c_x1 c_x2 c_b0 c_b1 c_b2 c_b3 c_b4 c_b5 c_a0 c_a1 c_a2 c_a3 c_a4 c_a5 hz
    have S := T
    clear T
    obtain ⟨c_y0, c_y1, c_y2⟩ := S.c3 0 rfl
    obtain ⟨c_x0, c_x1, c_x2⟩ := S.c3 1 rfl
    obtain ⟨c_b0, c_b1, c_b2, c_b3, c_b4, c_b5⟩ := S.c6 2 rfl
    obtain ⟨c_a0, c_a1, c_a2, c_a3, c_a4, c_a5⟩ := S.c6 3 rfl
    have hz : w.heap.size + 1 + 1 + 1 < w2.heap.size := S.lt 0 rfl
    replace S := Lib.hid S
    clear hL1
    go_wp2_with fail
    refine (hL2.out _).mono ?_
    rintro e w3 ⟨rfl, bb⟩
    have T := (S.out.call bb)
    clear bb S c_y0 c_y1 c_y2 c_x0 c_x1 c_x2 c_b0 c_b1 c_b2 c_b3 c_b4 c_b5 c_a0 c_a1 c_a2 c_a3 c_a4 c_a5 hz
    have S := T
    clear T
    obtain ⟨c_y0, c_y1, c_y2⟩ := S.c3 0 rfl
    obtain ⟨c_x0, c_x1, c_x2⟩ := S.c3 1 rfl
    obtain ⟨c_b0, c_b1, c_b2, c_b3, c_b4, c_b5⟩ := S.c6 2 rfl
    obtain ⟨c_a0, c_a1, c_a2, c_a3, c_a4, c_a5⟩ := S.c6 3 rfl
    have hz : w.heap.size + 1 + 1 + 1 < w3.heap.size := S.lt 0 rfl
    replace S := Lib.hid S
    clear hL2
    go_wp2_with fail
    refine (hA.out _).mono ?_
    rintro e w4 ⟨rfl, bb⟩
    have T := (S.out.call bb)
    clear bb S c_y0 c_y1 c_y2 c_x0 c_x1 c_x2 c_b0 c_b1 c_b2 c_b3 c_b4 c_b5 c_a0 c_a1 c_a2 c_a3 c_a4 c_a5 hz
    have S := T
    clear T
    obtain ⟨c_y0, c_y1, c_y2⟩ := S.c3 0 rfl
    obtain ⟨c_x0, c_x1, c_x2⟩ := S.c3 1 rfl
    obtain ⟨c_b0, c_b1, c_b2, c_b3, c_b4, c_b5⟩ := S.c6 2 rfl
    obtain ⟨c_a0, c_a1, c_a2, c_a3, c_a4, c_a5⟩ := S.c6 3 rfl
    have hz : w.heap.size + 1 + 1 + 1 < w4.heap.size := S.lt 0 rfl
    replace S := Lib.hid S
    have S := S.out
    replace S := Lib.hid S
    go_wp2
    go_ret
    exact ⟨rfl, S.out.bel⟩
  rw [l2] at hL2
  cases l3 : (lightB n6 m6)
  · rw [l3] at hL3
    replace hL0 := Lib.hid hL0
    replace hL1 := Lib.hid hL1
    replace hL2 := Lib.hid hL2
    replace hL3 := Lib.hid hL3
    clear l0 l1 l2 l3
    have S := (((((((((((((((((St.new w).read R1).read D1').read R2).read D2').read R3).read D3').read R4).read D4').read R5).read D5').read R6).read D6').allocAt (w.heap.size) #[.bool b1, .slice A1 n1 c1, .slice D1 m1 d1, .bool b2, .slice A2 n2 c2, .slice D2 m2 d2] 28 (noL6 _ _ _ _ _ _ _ _ _ _ _ _ _ _) (by simp)).allocAt (w.heap.size + 1) #[.bool b3, .slice A3 n3 c3, .slice D3 m3 d3, .bool b4, .slice A4 n4 c4, .slice D4 m4 d4] 28 (noL6 _ _ _ _ _ _ _ _ _ _ _ _ _ _) (by simp)).allocAt (w.heap.size + 1 + 1) #[.bool b5, .slice A5 n5 c5, .slice D5 m5 d5] 26 (noL3 _ _ _ _ _ _ _) (by simp)).allocAt (w.heap.size + 1 + 1 + 1) #[.bool b6, .slice A6 n6 c6, .slice D6 m6 d6] 26 (noL3 _ _ _ _ _ _ _) (by simp))
    replace S := Lib.hid S
    clear R1 M1 D1' N1 R2 M2 D2' N2 R3 M3 D3' N3 R4 M4 D4' N4 R5 M5 D5' N5 R6 M6 D6' N6
    go_enter Tryz.func6, Tryz.ntmps6
    go_wp2_with fail
    refine (hL0.out _).mono ?_
    rintro e w1 ⟨rfl, bb⟩
    have T := (S.out.call bb)
    clear bb S
    have S := T
    clear T
    obtain ⟨c_y0, c_y1, c_y2⟩ := S.c3 0 rfl
    obtain ⟨c_x0, c_x1, c_x2⟩ := S.c3 1 rfl
    obtain ⟨c_b0, c_b1, c_b2, c_b3, c_b4, c_b5⟩ := S.c6 2 rfl
    obtain ⟨c_a0, c_a1, c_a2, c_a3, c_a4, c_a5⟩ := S.c6 3 rfl
    have hz : w.heap.size + 1 + 1 + 1 < w1.heap.size := S.lt 0 rfl
    replace S := Lib.hid S
    clear hL0
    go_wp2_with fail
    refine (hL1.out _).mono ?_
    rintro e w2 ⟨rfl, bb⟩
    have T := (S.out.call bb)
    clear bb S c_y0 c_y1 c_y2 c_x0 c_x1 c_x2 c_b0 c_b1 c_b2 c_b3 c_b4 c_b5 c_a0 c_a1 c_a2 c_a3 c_a4 c_a5 hz
    have S := T
    clear T
    obtain ⟨c_y0, c_y1, c_y2⟩ := S.c3 0 rfl
    obtain ⟨c_x0, c_x1, c_x2⟩ := S.c3 1 rfl
    obtain ⟨c_b0, c_b1, c_b2, c_b3, c_b4, c_b5⟩ := S.c6 2 rfl
    obtain ⟨c_a0, c_a1, c_a2, c_a3, c_a4, c_a5⟩ := S.c6 3 rfl
    have hz : w.heap.size + 1 + 1 + 1 < w2.heap.size := S.lt 0 rfl
    replace S := Lib.hid S
    clear hL1
    go_wp2_with fail
    refine (hL2.out _).mono ?_
    rintro e w3 ⟨rfl, bb⟩
    have T := (S.out.call bb)
    clear bb S c_y0 c_y1 c_y2 c_x0 c_x1 c_x2 c_b0 c_b1 c_b2 c_b3 c_b4 c_b5 c_a0 c_a1 c_a2 c_a3 c_a4 c_a5 hz
    have S := T
    clear T
    obtain ⟨c_y0, c_y1, c_y2⟩ := S.c3 0 rfl
    obtain ⟨c_x0, c_x1, c_x2⟩ := S.c3 1 rfl
    obtain ⟨c_b0, c_b1, c_b2, c_b3, c_b4, c_b5⟩ := S.c6 2 rfl
    obtain ⟨c_a0, c_a1, c_a2, c_a3, c_a4, c_a5⟩ := S.c6 3 rfl
    have hz : w.heap.size + 1 + 1 + 1 < w3.heap.size := S.lt 0 rfl
    replace S := Lib.hid S
    clear hL2
    go_wp2_with fail
    refine (hL3.out _).mono ?_
    rintro e w4 ⟨rfl, bb⟩
    have T := (S.out.call bb)
    clear bb S c_y0 c_y1 c_y2 c_x0 c_x1 c_x2 c_b0 c_b1 c_b2 c_b3 c_b4 c_b5 c_a0 c_a1 c_a2 c_a3 c_a4 c_a5 hz
    have S := T
    clear T
    obtain ⟨c_y0, c_y1, c_y2⟩ := S.c3 0 rfl
    obtain ⟨c_x0, c_x1, c_x2⟩ := S.c3 1 rfl
    obtain ⟨c_b0, c_b1, c_b2, c_b3, c_b4, c_b5⟩ := S.c6 2 rfl
    obtain ⟨c_a0, c_a1, c_a2, c_a3, c_a4, c_a5⟩ := S.c6 3 rfl
    have hz : w.heap.size + 1 + 1 + 1 < w4.heap.size := S.lt 0 rfl
    replace S := Lib.hid S
    clear hL3
    go_wp2_with fail
    refine (hA.out _).mono ?_
    rintro e w5 ⟨rfl, bb⟩
    have T := (S.out.call bb)
    clear bb S c_y0 c_y1 c_y2 c_x0 c_x1 c_x2 c_b0 c_b1 c_b2 c_b3 c_b4 c_b5 c_a0 c_a1 c_a2 c_a3 c_a4 c_a5 hz
    have S := T
    clear T
    obtain ⟨c_y0, c_y1, c_y2⟩ := S.c3 0 rfl
    obtain ⟨c_x0, c_x1, c_x2⟩ := S.c3 1 rfl
    obtain ⟨c_b0, c_b1, c_b2, c_b3, c_b4, c_b5⟩ := S.c6 2 rfl
    obtain ⟨c_a0, c_a1, c_a2, c_a3, c_a4, c_a5⟩ := S.c6 3 rfl
    have hz : w.heap.size + 1 + 1 + 1 < w5.heap.size := S.lt 0 rfl
    replace S := Lib.hid S
    have S := S.out
    replace S := Lib.hid S
    go_wp2
    go_ret
    exact ⟨rfl, S.out.bel⟩
  rw [l3] at hL3
  rw [Bool.and_eq_true] at l0 l1
  obtain ⟨g1, g2⟩ := l0
  obtain ⟨g3, g4⟩ := l1
  have g5 := l2
  have g6 := l3
  obtain ⟨q1, X1, s1⟩ : ∃ q, Rw w b1 A1 n1 c1 x1 D1 m1 d1 y1 q ∧ Rs q 8 := ⟨rv b1 x1 y1, ⟨R1, D1', rfl, by have := light_8 g1; omega, by have := light_8 g1; omega⟩, rs_light R1 D1' g1⟩
  obtain ⟨q2, X2, s2⟩ : ∃ q, Rw w b2 A2 n2 c2 x2 D2 m2 d2 y2 q ∧ Rs q 8 := ⟨rv b2 x2 y2, ⟨R2, D2', rfl, by have := light_8 g2; omega, by have := light_8 g2; omega⟩, rs_light R2 D2' g2⟩
  obtain ⟨q3, X3, s3⟩ : ∃ q, Rw w b3 A3 n3 c3 x3 D3 m3 d3 y3 q ∧ Rs q 8 := ⟨rv b3 x3 y3, ⟨R3, D3', rfl, by have := light_8 g3; omega, by have := light_8 g3; omega⟩, rs_light R3 D3' g3⟩
  obtain ⟨q4, X4, s4⟩ : ∃ q, Rw w b4 A4 n4 c4 x4 D4 m4 d4 y4 q ∧ Rs q 8 := ⟨rv b4 x4 y4, ⟨R4, D4', rfl, by have := light_8 g4; omega, by have := light_8 g4; omega⟩, rs_light R4 D4' g4⟩
  obtain ⟨q5, X5, s5⟩ : ∃ q, Rw w b5 A5 n5 c5 x5 D5 m5 d5 y5 q ∧ Rs q 8 := ⟨rv b5 x5 y5, ⟨R5, D5', rfl, by have := light_8 g5; omega, by have := light_8 g5; omega⟩, rs_light R5 D5' g5⟩
  obtain ⟨q6, X6, s6⟩ : ∃ q, Rw w b6 A6 n6 c6 x6 D6 m6 d6 y6 q ∧ Rs q 8 := ⟨rv b6 x6 y6, ⟨R6, D6', rfl, by have := light_8 g6; omega, by have := light_8 g6; omega⟩, rs_light R6 D6' g6⟩
  clear g1 g2 g3 g4 g5 g6 l2 l3 R1 M1 D1' N1 R2 M2 D2' N2 R3 M3 D3' N3 R4 M4 D4' N4 R5 M5 D5' N5 R6 M6 D6' N6
  replace hL0 := Lib.hid hL0
  replace hL1 := Lib.hid hL1
  replace hL2 := Lib.hid hL2
  replace hL3 := Lib.hid hL3
  have hC1 := fun W h1 h2 h3 => rcontains_any b1 A1 n1 c1 x1 D1 m1 d1 y1 q1 b2 A2 n2 c2 x2 D2 m2 d2 y2 q2 b5 A5 n5 c5 x5 D5 m5 d5 y5 q5 W h1 h2 h3
  have hC2 := fun W h1 h2 h3 => rcontains_any b3 A3 n3 c3 x3 D3 m3 d3 y3 q3 b4 A4 n4 c4 x4 D4 m4 d4 y4 q4 b6 A6 n6 c6 x6 D6 m6 d6 y6 q6 W h1 h2 h3
  have k1 := Lib.hid X1.k
  have k2 := Lib.hid X2.k
  have k3 := Lib.hid X3.k
  have k4 := Lib.hid X4.k
  have k5 := Lib.hid X5.k
  have k6 := Lib.hid X6.k
  have S := (((((((((((((((((St.new w).read X1.rn).read X1.rd).read X2.rn).read X2.rd).read X3.rn).read X3.rd).read X4.rn).read X4.rd).read X5.rn).read X5.rd).read X6.rn).read X6.rd).allocAt (w.heap.size) #[.bool b1, .slice A1 n1 c1, .slice D1 m1 d1, .bool b2, .slice A2 n2 c2, .slice D2 m2 d2] 28 (noL6 _ _ _ _ _ _ _ _ _ _ _ _ _ _) (by simp)).allocAt (w.heap.size + 1) #[.bool b3, .slice A3 n3 c3, .slice D3 m3 d3, .bool b4, .slice A4 n4 c4, .slice D4 m4 d4] 28 (noL6 _ _ _ _ _ _ _ _ _ _ _ _ _ _) (by simp)).allocAt (w.heap.size + 1 + 1) #[.bool b5, .slice A5 n5 c5, .slice D5 m5 d5] 26 (noL3 _ _ _ _ _ _ _) (by simp)).allocAt (w.heap.size + 1 + 1 + 1) #[.bool b6, .slice A6 n6 c6, .slice D6 m6 d6] 26 (noL3 _ _ _ _ _ _ _) (by simp))
  replace S := Lib.hid S
  cases u0 : (decide (klo q1 q2 ≤ q5) && decide (q5 ≤ khi q1 q2))
  · rw [u0] at hC1
    clear u0
    clear X1 s1 X2 s2 X3 s3 X4 s4 X5 s5 X6 s6
    clear hC2
    replace hC1 := Lib.hid hC1
    go_enter Tryz.func6, Tryz.ntmps6
    go_wp2_with fail
    refine (hL0.out _).mono ?_
    rintro e w1 ⟨rfl, bb⟩
    have T := (S.out.call bb)
    clear bb S
    have S := T
    clear T
    obtain ⟨c_y0, c_y1, c_y2⟩ := S.c3 0 rfl
    obtain ⟨c_x0, c_x1, c_x2⟩ := S.c3 1 rfl
    obtain ⟨c_b0, c_b1, c_b2, c_b3, c_b4, c_b5⟩ := S.c6 2 rfl
    obtain ⟨c_a0, c_a1, c_a2, c_a3, c_a4, c_a5⟩ := S.c6 3 rfl
    have hz : w.heap.size + 1 + 1 + 1 < w1.heap.size := S.lt 0 rfl
    replace S := Lib.hid S
    clear hL0
    go_wp2_with fail
    refine (hL1.out _).mono ?_
    rintro e w2 ⟨rfl, bb⟩
    have T := (S.out.call bb)
    clear bb S c_y0 c_y1 c_y2 c_x0 c_x1 c_x2 c_b0 c_b1 c_b2 c_b3 c_b4 c_b5 c_a0 c_a1 c_a2 c_a3 c_a4 c_a5 hz
    have S := T
    clear T
    obtain ⟨c_y0, c_y1, c_y2⟩ := S.c3 0 rfl
    obtain ⟨c_x0, c_x1, c_x2⟩ := S.c3 1 rfl
    obtain ⟨c_b0, c_b1, c_b2, c_b3, c_b4, c_b5⟩ := S.c6 2 rfl
    obtain ⟨c_a0, c_a1, c_a2, c_a3, c_a4, c_a5⟩ := S.c6 3 rfl
    have hz : w.heap.size + 1 + 1 + 1 < w2.heap.size := S.lt 0 rfl
    replace S := Lib.hid S
    clear hL1
    go_wp2_with fail
    refine (hL2.out _).mono ?_
    rintro e w3 ⟨rfl, bb⟩
    have T := (S.out.call bb)
    clear bb S c_y0 c_y1 c_y2 c_x0 c_x1 c_x2 c_b0 c_b1 c_b2 c_b3 c_b4 c_b5 c_a0 c_a1 c_a2 c_a3 c_a4 c_a5 hz
    have S := T
    clear T
    obtain ⟨c_y0, c_y1, c_y2⟩ := S.c3 0 rfl
    obtain ⟨c_x0, c_x1, c_x2⟩ := S.c3 1 rfl
    obtain ⟨c_b0, c_b1, c_b2, c_b3, c_b4, c_b5⟩ := S.c6 2 rfl
    obtain ⟨c_a0, c_a1, c_a2, c_a3, c_a4, c_a5⟩ := S.c6 3 rfl
    have hz : w.heap.size + 1 + 1 + 1 < w3.heap.size := S.lt 0 rfl
    replace S := Lib.hid S
    clear hL2
    go_wp2_with fail
    refine (hL3.out _).mono ?_
    rintro e w4 ⟨rfl, bb⟩
    have T := (S.out.call bb)
    clear bb S c_y0 c_y1 c_y2 c_x0 c_x1 c_x2 c_b0 c_b1 c_b2 c_b3 c_b4 c_b5 c_a0 c_a1 c_a2 c_a3 c_a4 c_a5 hz
    have S := T
    clear T
    obtain ⟨c_y0, c_y1, c_y2⟩ := S.c3 0 rfl
    obtain ⟨c_x0, c_x1, c_x2⟩ := S.c3 1 rfl
    obtain ⟨c_b0, c_b1, c_b2, c_b3, c_b4, c_b5⟩ := S.c6 2 rfl
    obtain ⟨c_a0, c_a1, c_a2, c_a3, c_a4, c_a5⟩ := S.c6 3 rfl
    have hz : w.heap.size + 1 + 1 + 1 < w4.heap.size := S.lt 0 rfl
    replace S := Lib.hid S
    clear hL3
    go_wp2_with fail
    refine (hC1.out _ (Rw.of (S.out.r 11 rfl) (S.out.r 10 rfl) k1.out) (Rw.of (S.out.r 9 rfl) (S.out.r 8 rfl) k2.out) (Rw.of (S.out.r 3 rfl) (S.out.r 2 rfl) k5.out)).mono ?_
    rintro e w5 ⟨rfl, bb⟩
    have T := (S.out.call bb)
    clear bb S c_y0 c_y1 c_y2 c_x0 c_x1 c_x2 c_b0 c_b1 c_b2 c_b3 c_b4 c_b5 c_a0 c_a1 c_a2 c_a3 c_a4 c_a5 hz
    have S := T
    clear T
    obtain ⟨c_y0, c_y1, c_y2⟩ := S.c3 0 rfl
    obtain ⟨c_x0, c_x1, c_x2⟩ := S.c3 1 rfl
    obtain ⟨c_b0, c_b1, c_b2, c_b3, c_b4, c_b5⟩ := S.c6 2 rfl
    obtain ⟨c_a0, c_a1, c_a2, c_a3, c_a4, c_a5⟩ := S.c6 3 rfl
    have hz : w.heap.size + 1 + 1 + 1 < w5.heap.size := S.lt 0 rfl
    replace S := Lib.hid S
    clear hC1
    go_wp2_with fail
    refine (hA.out _).mono ?_
    rintro e w6 ⟨rfl, bb⟩
    have T := (S.out.call bb)
    clear bb S c_y0 c_y1 c_y2 c_x0 c_x1 c_x2 c_b0 c_b1 c_b2 c_b3 c_b4 c_b5 c_a0 c_a1 c_a2 c_a3 c_a4 c_a5 hz
    have S := T
    clear T
    obtain ⟨c_y0, c_y1, c_y2⟩ := S.c3 0 rfl
    obtain ⟨c_x0, c_x1, c_x2⟩ := S.c3 1 rfl
    obtain ⟨c_b0, c_b1, c_b2, c_b3, c_b4, c_b5⟩ := S.c6 2 rfl
    obtain ⟨c_a0, c_a1, c_a2, c_a3, c_a4, c_a5⟩ := S.c6 3 rfl
    have hz : w.heap.size + 1 + 1 + 1 < w6.heap.size := S.lt 0 rfl
    replace S := Lib.hid S
    have S := S.out
    replace S := Lib.hid S
    go_wp2
    go_ret
    exact ⟨rfl, S.out.bel⟩
  rw [u0] at hC1
  cases u1 : (decide (klo q3 q4 ≤ q6) && decide (q6 ≤ khi q3 q4))
  · rw [u1] at hC2
    clear u0 u1
    clear X1 s1 X2 s2 X3 s3 X4 s4 X5 s5 X6 s6
    replace hC1 := Lib.hid hC1
    replace hC2 := Lib.hid hC2
    go_enter Tryz.func6, Tryz.ntmps6
    go_wp2_with fail
    refine (hL0.out _).mono ?_
    rintro e w1 ⟨rfl, bb⟩
    have T := (S.out.call bb)
    clear bb S
    have S := T
    clear T
    obtain ⟨c_y0, c_y1, c_y2⟩ := S.c3 0 rfl
    obtain ⟨c_x0, c_x1, c_x2⟩ := S.c3 1 rfl
    obtain ⟨c_b0, c_b1, c_b2, c_b3, c_b4, c_b5⟩ := S.c6 2 rfl
    obtain ⟨c_a0, c_a1, c_a2, c_a3, c_a4, c_a5⟩ := S.c6 3 rfl
    have hz : w.heap.size + 1 + 1 + 1 < w1.heap.size := S.lt 0 rfl
    replace S := Lib.hid S
    clear hL0
    go_wp2_with fail
    refine (hL1.out _).mono ?_
    rintro e w2 ⟨rfl, bb⟩
    have T := (S.out.call bb)
    clear bb S c_y0 c_y1 c_y2 c_x0 c_x1 c_x2 c_b0 c_b1 c_b2 c_b3 c_b4 c_b5 c_a0 c_a1 c_a2 c_a3 c_a4 c_a5 hz
    have S := T
    clear T
    obtain ⟨c_y0, c_y1, c_y2⟩ := S.c3 0 rfl
    obtain ⟨c_x0, c_x1, c_x2⟩ := S.c3 1 rfl
    obtain ⟨c_b0, c_b1, c_b2, c_b3, c_b4, c_b5⟩ := S.c6 2 rfl
    obtain ⟨c_a0, c_a1, c_a2, c_a3, c_a4, c_a5⟩ := S.c6 3 rfl
    have hz : w.heap.size + 1 + 1 + 1 < w2.heap.size := S.lt 0 rfl
    replace S := Lib.hid S
    clear hL1
    go_wp2_with fail
    refine (hL2.out _).mono ?_
    rintro e w3 ⟨rfl, bb⟩
    have T := (S.out.call bb)
    clear bb S c_y0 c_y1 c_y2 c_x0 c_x1 c_x2 c_b0 c_b1 c_b2 c_b3 c_b4 c_b5 c_a0 c_a1 c_a2 c_a3 c_a4 c_a5 hz
    have S := T
    clear T
    obtain ⟨c_y0, c_y1, c_y2⟩ := S.c3 0 rfl
    obtain ⟨c_x0, c_x1, c_x2⟩ := S.c3 1 rfl
    obtain ⟨c_b0, c_b1, c_b2, c_b3, c_b4, c_b5⟩ := S.c6 2 rfl
    obtain ⟨c_a0, c_a1, c_a2, c_a3, c_a4, c_a5⟩ := S.c6 3 rfl
    have hz : w.heap.size + 1 + 1 + 1 < w3.heap.size := S.lt 0 rfl
    replace S := Lib.hid S
    clear hL2
    go_wp2_with fail
    refine (hL3.out _).mono ?_
    rintro e w4 ⟨rfl, bb⟩
    have T := (S.out.call bb)
    clear bb S c_y0 c_y1 c_y2 c_x0 c_x1 c_x2 c_b0 c_b1 c_b2 c_b3 c_b4 c_b5 c_a0 c_a1 c_a2 c_a3 c_a4 c_a5 hz
    have S := T
    clear T
    obtain ⟨c_y0, c_y1, c_y2⟩ := S.c3 0 rfl
    obtain ⟨c_x0, c_x1, c_x2⟩ := S.c3 1 rfl
    obtain ⟨c_b0, c_b1, c_b2, c_b3, c_b4, c_b5⟩ := S.c6 2 rfl
    obtain ⟨c_a0, c_a1, c_a2, c_a3, c_a4, c_a5⟩ := S.c6 3 rfl
    have hz : w.heap.size + 1 + 1 + 1 < w4.heap.size := S.lt 0 rfl
    replace S := Lib.hid S
    clear hL3
    go_wp2_with fail
    refine (hC1.out _ (Rw.of (S.out.r 11 rfl) (S.out.r 10 rfl) k1.out) (Rw.of (S.out.r 9 rfl) (S.out.r 8 rfl) k2.out) (Rw.of (S.out.r 3 rfl) (S.out.r 2 rfl) k5.out)).mono ?_
    rintro e w5 ⟨rfl, bb⟩
    have T := (S.out.call bb)
    clear bb S c_y0 c_y1 c_y2 c_x0 c_x1 c_x2 c_b0 c_b1 c_b2 c_b3 c_b4 c_b5 c_a0 c_a1 c_a2 c_a3 c_a4 c_a5 hz
    have S := T
    clear T
    obtain ⟨c_y0, c_y1, c_y2⟩ := S.c3 0 rfl
    obtain ⟨c_x0, c_x1, c_x2⟩ := S.c3 1 rfl
    obtain ⟨c_b0, c_b1, c_b2, c_b3, c_b4, c_b5⟩ := S.c6 2 rfl
    obtain ⟨c_a0, c_a1, c_a2, c_a3, c_a4, c_a5⟩ := S.c6 3 rfl
    have hz : w.heap.size + 1 + 1 + 1 < w5.heap.size := S.lt 0 rfl
    replace S := Lib.hid S
    clear hC1
    go_wp2_with fail
    refine (hC2.out _ (Rw.of (S.out.r 7 rfl) (S.out.r 6 rfl) k3.out) (Rw.of (S.out.r 5 rfl) (S.out.r 4 rfl) k4.out) (Rw.of (S.out.r 1 rfl) (S.out.r 0 rfl) k6.out)).mono ?_
    rintro e w6 ⟨rfl, bb⟩
    have T := (S.out.call bb)
    clear bb S c_y0 c_y1 c_y2 c_x0 c_x1 c_x2 c_b0 c_b1 c_b2 c_b3 c_b4 c_b5 c_a0 c_a1 c_a2 c_a3 c_a4 c_a5 hz
    have S := T
    clear T
    obtain ⟨c_y0, c_y1, c_y2⟩ := S.c3 0 rfl
    obtain ⟨c_x0, c_x1, c_x2⟩ := S.c3 1 rfl
    obtain ⟨c_b0, c_b1, c_b2, c_b3, c_b4, c_b5⟩ := S.c6 2 rfl
    obtain ⟨c_a0, c_a1, c_a2, c_a3, c_a4, c_a5⟩ := S.c6 3 rfl
    have hz : w.heap.size + 1 + 1 + 1 < w6.heap.size := S.lt 0 rfl
    replace S := Lib.hid S
    clear hC2
    go_wp2_with fail
    refine (hA.out _).mono ?_
    rintro e w7 ⟨rfl, bb⟩
    have T := (S.out.call bb)
    clear bb S c_y0 c_y1 c_y2 c_x0 c_x1 c_x2 c_b0 c_b1 c_b2 c_b3 c_b4 c_b5 c_a0 c_a1 c_a2 c_a3 c_a4 c_a5 hz
    have S := T
    clear T
    obtain ⟨c_y0, c_y1, c_y2⟩ := S.c3 0 rfl
    obtain ⟨c_x0, c_x1, c_x2⟩ := S.c3 1 rfl
    obtain ⟨c_b0, c_b1, c_b2, c_b3, c_b4, c_b5⟩ := S.c6 2 rfl
    obtain ⟨c_a0, c_a1, c_a2, c_a3, c_a4, c_a5⟩ := S.c6 3 rfl
    have hz : w.heap.size + 1 + 1 + 1 < w7.heap.size := S.lt 0 rfl
    replace S := Lib.hid S
    have S := S.out
    replace S := Lib.hid S
    go_wp2
    go_ret
    exact ⟨rfl, S.out.bel⟩
  rw [u1] at hC2
  replace hC1 := Lib.hid hC1
  replace hC2 := Lib.hid hC2
  rw [Bool.and_eq_true, decide_eq_true_iff, decide_eq_true_iff] at u0 u1
  obtain ⟨fx1, fx2⟩ := u0
  obtain ⟨fy1, fy2⟩ := u1
  obtain ⟨ka, kb⟩ := k_rsp s1 s2 (by decide)
  obtain ⟨kc, kd⟩ := k_rsp s3 s4 (by decide)
  have hAd : Hid (∀ W, Rw W b1 A1 n1 c1 x1 D1 m1 d1 y1 q1 → Rw W b2 A2 n2 c2 x2 D2 m2 d2 y2 q2 → Rw W b3 A3 n3 c3 x3 D3 m3 d3 y3 q3 → Rw W b4 A4 n4 c4 x4 D4 m4 d4 y4 q4 → Calls Tryz.prog 30 #[.agg #[.bool b1, .slice A1 n1 c1, .slice D1 m1 d1, .bool b2, .slice A2 n2 c2, .slice D2 m2 d2], .agg #[.bool b3, .slice A3 n3 c3, .slice D3 m3 d3, .bool b4, .slice A4 n4 c4, .slice D4 m4 d4]] W (RetV (klo q1 q2 + klo q3 q4) (khi q1 q2 + khi q3 q4) W)) := Lib.hid fun W h1 h2 h3 h4 => iadd_any _ _ _ _ _ _ _ _ _ _ _ _ _ _ _ _ _ _ _ _ _ _ _ _ _ _ _ _ _ _ _ _ _ _ _ _ _ _ _ _ W h1 h2 h3 h4
  have hSu : Hid (∀ W, Rw W b1 A1 n1 c1 x1 D1 m1 d1 y1 q1 → Rw W b2 A2 n2 c2 x2 D2 m2 d2 y2 q2 → Rw W b3 A3 n3 c3 x3 D3 m3 d3 y3 q3 → Rw W b4 A4 n4 c4 x4 D4 m4 d4 y4 q4 → Calls Tryz.prog 32 #[.agg #[.bool b1, .slice A1 n1 c1, .slice D1 m1 d1, .bool b2, .slice A2 n2 c2, .slice D2 m2 d2], .agg #[.bool b3, .slice A3 n3 c3, .slice D3 m3 d3, .bool b4, .slice A4 n4 c4, .slice D4 m4 d4]] W (RetV (klo q1 q2 - khi q3 q4) (khi q1 q2 - klo q3 q4) W)) := Lib.hid fun W h1 h2 h3 h4 => isub_any _ _ _ _ _ _ _ _ _ _ _ _ _ _ _ _ _ _ _ _ _ _ _ _ _ _ _ _ _ _ _ _ _ _ _ _ _ _ _ _ W h1 h2 h3 h4
  have hMu : Hid (∀ W, Rw W b1 A1 n1 c1 x1 D1 m1 d1 y1 q1 → Rw W b2 A2 n2 c2 x2 D2 m2 d2 y2 q2 → Rw W b3 A3 n3 c3 x3 D3 m3 d3 y3 q3 → Rw W b4 A4 n4 c4 x4 D4 m4 d4 y4 q4 → Calls Tryz.prog 34 #[.agg #[.bool b1, .slice A1 n1 c1, .slice D1 m1 d1, .bool b2, .slice A2 n2 c2, .slice D2 m2 d2], .agg #[.bool b3, .slice A3 n3 c3, .slice D3 m3 d3, .bool b4, .slice A4 n4 c4, .slice D4 m4 d4]] W (RetV (minL (mulL (klo q1 q2) (khi q1 q2) (klo q3 q4) (khi q3 q4))) (maxL (mulL (klo q1 q2) (khi q1 q2) (klo q3 q4) (khi q3 q4))) W)) := Lib.hid fun W h1 h2 h3 h4 => imul_any _ _ _ _ _ _ _ _ _ _ _ _ _ _ _ _ _ _ _ _ _ _ _ _ _ _ _ _ _ _ _ _ _ _ _ _ _ _ _ _ (s1.mono (by decide)) (s2.mono (by decide)) (s3.mono (by decide)) (s4.mono (by decide)) W h1 h2 h3 h4
  have hSq : Hid (∀ W, Rw W b1 A1 n1 c1 x1 D1 m1 d1 y1 q1 → Rw W b2 A2 n2 c2 x2 D2 m2 d2 y2 q2 → Calls Tryz.prog 36 #[.agg #[.bool b1, .slice A1 n1 c1, .slice D1 m1 d1, .bool b2, .slice A2 n2 c2, .slice D2 m2 d2]] W (RetV (minL (sqL (klo q1 q2) (khi q1 q2))) (maxL (sqL (klo q1 q2) (khi q1 q2))) W)) := Lib.hid fun W h1 h2 => isquare_any _ _ _ _ _ _ _ _ _ _ _ _ _ _ _ _ _ _ _ _ (s1.mono (by decide)) (s2.mono (by decide)) W h1 h2
  have hRa : Hid (∀ W, Rw W b5 A5 n5 c5 x5 D5 m5 d5 y5 q5 → Rw W b6 A6 n6 c6 x6 D6 m6 d6 y6 q6 → Calls Tryz.prog 46 #[.agg #[.bool b5, .slice A5 n5 c5, .slice D5 m5 d5], .agg #[.bool b6, .slice A6 n6 c6, .slice D6 m6 d6]] W (RetR (q5 + q6) W)) := Lib.hid fun W h1 h2 => by
    have := Fadd_any b5 A5 n5 c5 x5 D5 m5 d5 y5 b6 A6 n6 c6 x6 D6 m6 d6 y6 W h1.rn h1.rd h2.rn h2.rd (by have := h1.k.2.1; omega) (by have := h1.k.2.2; omega) (by have := h2.k.2.1; omega) (by have := h2.k.2.2; omega)
    rwa [h1.k.1, h2.k.1] at this
  have hRs : Hid (∀ W, Rw W b5 A5 n5 c5 x5 D5 m5 d5 y5 q5 → Rw W b6 A6 n6 c6 x6 D6 m6 d6 y6 q6 → Calls Tryz.prog 47 #[.agg #[.bool b5, .slice A5 n5 c5, .slice D5 m5 d5], .agg #[.bool b6, .slice A6 n6 c6, .slice D6 m6 d6]] W (RetR (q5 - q6) W)) := Lib.hid fun W h1 h2 => by
    have := Fsub_any b5 A5 n5 c5 x5 D5 m5 d5 y5 b6 A6 n6 c6 x6 D6 m6 d6 y6 W h1.rn h1.rd h2.rn h2.rd (by have := h1.k.2.1; omega) (by have := h1.k.2.2; omega) (by have := h2.k.2.1; omega) (by have := h2.k.2.2; omega)
    rwa [h1.k.1, h2.k.1] at this
  have hRm : Hid (∀ W, Rw W b5 A5 n5 c5 x5 D5 m5 d5 y5 q5 → Rw W b6 A6 n6 c6 x6 D6 m6 d6 y6 q6 → Calls Tryz.prog 48 #[.agg #[.bool b5, .slice A5 n5 c5, .slice D5 m5 d5], .agg #[.bool b6, .slice A6 n6 c6, .slice D6 m6 d6]] W (RetR (q5 * q6) W)) := Lib.hid fun W h1 h2 => by
    have := Fmul_any b5 A5 n5 c5 x5 D5 m5 d5 y5 b6 A6 n6 c6 x6 D6 m6 d6 y6 W h1.rn h1.rd h2.rn h2.rd (by have := h1.k.2.1; omega) (by have := h1.k.2.2; omega) (by have := h2.k.2.1; omega) (by have := h2.k.2.2; omega)
    rwa [h1.k.1, h2.k.1] at this
  have hRq : Hid (∀ W, Rw W b5 A5 n5 c5 x5 D5 m5 d5 y5 q5 → Rw W b5 A5 n5 c5 x5 D5 m5 d5 y5 q5 → Calls Tryz.prog 48 #[.agg #[.bool b5, .slice A5 n5 c5, .slice D5 m5 d5], .agg #[.bool b5, .slice A5 n5 c5, .slice D5 m5 d5]] W (RetR (q5 * q5) W)) := Lib.hid fun W h1 h2 => by
    have := Fmul_any b5 A5 n5 c5 x5 D5 m5 d5 y5 b5 A5 n5 c5 x5 D5 m5 d5 y5 W h1.rn h1.rd h2.rn h2.rd (by have := h1.k.2.1; omega) (by have := h1.k.2.2; omega) (by have := h2.k.2.1; omega) (by have := h2.k.2.2; omega)
    rwa [h1.k.1] at this
  have ehT1 : (klo q1 q2 + klo q3 q4) ≤ q5 + q6 ∧ q5 + q6 ≤ (khi q1 q2 + khi q3 q4) := ⟨by grind, by grind⟩
  have hT1 := Lib.hid (fun A0 n0 c0 D0 m0 d0 A1 n1 c1 D1 m1 d1 A2 n2 c2 D2 m2 d2 W X0 X1 X2 => contT (klo q1 q2 + klo q3 q4) (khi q1 q2 + khi q3 q4) (q5 + q6) ehT1.1 ehT1.2 ((ka.add kc).mono (by decide)) ((kb.add kd).mono (by decide)) ((s5.add s6).mono (by decide)) A0 n0 c0 D0 m0 d0 A1 n1 c1 D1 m1 d1 A2 n2 c2 D2 m2 d2 W X0 X1 X2)
  clear ehT1
  have ehT2 : (klo q1 q2 - khi q3 q4) ≤ q5 - q6 ∧ q5 - q6 ≤ (khi q1 q2 - klo q3 q4) := ⟨by grind, by grind⟩
  have hT2 := Lib.hid (fun A0 n0 c0 D0 m0 d0 A1 n1 c1 D1 m1 d1 A2 n2 c2 D2 m2 d2 W X0 X1 X2 => contT (klo q1 q2 - khi q3 q4) (khi q1 q2 - klo q3 q4) (q5 - q6) ehT2.1 ehT2.2 ((ka.sub kd).mono (by decide)) ((kb.sub kc).mono (by decide)) ((s5.sub s6).mono (by decide)) A0 n0 c0 D0 m0 d0 A1 n1 c1 D1 m1 d1 A2 n2 c2 D2 m2 d2 W X0 X1 X2)
  clear ehT2
  have ehT3 : (minL (mulL (klo q1 q2) (khi q1 q2) (klo q3 q4) (khi q3 q4))) ≤ q5 * q6 ∧ q5 * q6 ≤ (maxL (mulL (klo q1 q2) (khi q1 q2) (klo q3 q4) (khi q3 q4))) := mul_in fx1 fx2 fy1 fy2
  have hT3 := Lib.hid (fun A0 n0 c0 D0 m0 d0 A1 n1 c1 D1 m1 d1 A2 n2 c2 D2 m2 d2 W X0 X1 X2 => contT (minL (mulL (klo q1 q2) (khi q1 q2) (klo q3 q4) (khi q3 q4))) (maxL (mulL (klo q1 q2) (khi q1 q2) (klo q3 q4) (khi q3 q4))) (q5 * q6) ehT3.1 ehT3.2 ((mulL_rs ka kb kc kd).1.mono (by decide)) ((mulL_rs ka kb kc kd).2.mono (by decide)) ((s5.mul s6).mono (by decide)) A0 n0 c0 D0 m0 d0 A1 n1 c1 D1 m1 d1 A2 n2 c2 D2 m2 d2 W X0 X1 X2)
  clear ehT3
  have ehT4 : (minL (sqL (klo q1 q2) (khi q1 q2))) ≤ q5 * q5 ∧ q5 * q5 ≤ (maxL (sqL (klo q1 q2) (khi q1 q2))) := sq_in fx1 fx2
  have hT4 := Lib.hid (fun A0 n0 c0 D0 m0 d0 A1 n1 c1 D1 m1 d1 A2 n2 c2 D2 m2 d2 W X0 X1 X2 => contT (minL (sqL (klo q1 q2) (khi q1 q2))) (maxL (sqL (klo q1 q2) (khi q1 q2))) (q5 * q5) ehT4.1 ehT4.2 ((sqL_rs ka kb (by decide)).1.mono (by decide)) ((sqL_rs ka kb (by decide)).2.mono (by decide)) ((s5.mul s5).mono (by decide)) A0 n0 c0 D0 m0 d0 A1 n1 c1 D1 m1 d1 A2 n2 c2 D2 m2 d2 W X0 X1 X2)
  clear ehT4
  by_cases hz : klo q3 q4 ≤ 0 ∧ 0 ≤ khi q3 q4
  · have hDi : Hid (∀ W, Rw W b1 A1 n1 c1 x1 D1 m1 d1 y1 q1 → Rw W b2 A2 n2 c2 x2 D2 m2 d2 y2 q2 → Rw W b3 A3 n3 c3 x3 D3 m3 d3 y3 q3 → Rw W b4 A4 n4 c4 x4 D4 m4 d4 y4 q4 → Calls Tryz.prog 28 #[.agg #[.bool b1, .slice A1 n1 c1, .slice D1 m1 d1, .bool b2, .slice A2 n2 c2, .slice D2 m2 d2], .agg #[.bool b3, .slice A3 n3 c3, .slice D3 m3 d3, .bool b4, .slice A4 n4 c4, .slice D4 m4 d4]] W (RetVE 0 0 (.int .i64 5) W)) := Lib.hid fun W h1 h2 h3 h4 => idiv_no _ _ _ _ _ _ _ _ _ _ _ _ _ _ _ _ _ _ _ _ _ _ _ _ _ _ _ _ _ _ _ _ _ _ _ _ _ _ _ _ hz W h1 h2 h3 h4
    obtain ⟨zz, hzz⟩ : ∃ z : Rat, z = 0 := ⟨_, rfl⟩
    rw [← hzz] at hDi
    clear hzz hz
    clear fx1 fx2 fy1 fy2 ka kb kc kd
    generalize klo q1 q2 + klo q3 q4 = lo1 at *
    generalize khi q1 q2 + khi q3 q4 = hi1 at *
    generalize q5 + q6 = va at *
    generalize klo q1 q2 - khi q3 q4 = lo2 at *
    generalize khi q1 q2 - klo q3 q4 = hi2 at *
    generalize q5 - q6 = vs at *
    generalize minL (mulL (klo q1 q2) (khi q1 q2) (klo q3 q4) (khi q3 q4)) = lo3 at *
    generalize maxL (mulL (klo q1 q2) (khi q1 q2) (klo q3 q4) (khi q3 q4)) = hi3 at *
    generalize q5 * q6 = vm at *
    generalize minL (sqL (klo q1 q2) (khi q1 q2)) = lo4 at *
    generalize maxL (sqL (klo q1 q2) (khi q1 q2)) = hi4 at *
    generalize q5 * q5 = vq at *
    clear X1 s1 X2 s2 X3 s3 X4 s4 X5 s5 X6 s6
    go_enter Tryz.func6, Tryz.ntmps6
    go_wp2_with fail
    refine (hL0.out _).mono ?_
    rintro e w1 ⟨rfl, bb⟩
    have T := (S.out.call bb)
    clear bb S
    have S := T
    clear T
    obtain ⟨c_y0, c_y1, c_y2⟩ := S.c3 0 rfl
    obtain ⟨c_x0, c_x1, c_x2⟩ := S.c3 1 rfl
    obtain ⟨c_b0, c_b1, c_b2, c_b3, c_b4, c_b5⟩ := S.c6 2 rfl
    obtain ⟨c_a0, c_a1, c_a2, c_a3, c_a4, c_a5⟩ := S.c6 3 rfl
    have hz : w.heap.size + 1 + 1 + 1 < w1.heap.size := S.lt 0 rfl
    replace S := Lib.hid S
    clear hL0
    go_wp2_with fail
    refine (hL1.out _).mono ?_
    rintro e w2 ⟨rfl, bb⟩
    have T := (S.out.call bb)
    clear bb S c_y0 c_y1 c_y2 c_x0 c_x1 c_x2 c_b0 c_b1 c_b2 c_b3 c_b4 c_b5 c_a0 c_a1 c_a2 c_a3 c_a4 c_a5 hz
    have S := T
    clear T
    obtain ⟨c_y0, c_y1, c_y2⟩ := S.c3 0 rfl
    obtain ⟨c_x0, c_x1, c_x2⟩ := S.c3 1 rfl
    obtain ⟨c_b0, c_b1, c_b2, c_b3, c_b4, c_b5⟩ := S.c6 2 rfl
    obtain ⟨c_a0, c_a1, c_a2, c_a3, c_a4, c_a5⟩ := S.c6 3 rfl
    have hz : w.heap.size + 1 + 1 + 1 < w2.heap.size := S.lt 0 rfl
    replace S := Lib.hid S
    clear hL1
    go_wp2_with fail
    refine (hL2.out _).mono ?_
    rintro e w3 ⟨rfl, bb⟩
    have T := (S.out.call bb)
    clear bb S c_y0 c_y1 c_y2 c_x0 c_x1 c_x2 c_b0 c_b1 c_b2 c_b3 c_b4 c_b5 c_a0 c_a1 c_a2 c_a3 c_a4 c_a5 hz
    have S := T
    clear T
    obtain ⟨c_y0, c_y1, c_y2⟩ := S.c3 0 rfl
    obtain ⟨c_x0, c_x1, c_x2⟩ := S.c3 1 rfl
    obtain ⟨c_b0, c_b1, c_b2, c_b3, c_b4, c_b5⟩ := S.c6 2 rfl
    obtain ⟨c_a0, c_a1, c_a2, c_a3, c_a4, c_a5⟩ := S.c6 3 rfl
    have hz : w.heap.size + 1 + 1 + 1 < w3.heap.size := S.lt 0 rfl
    replace S := Lib.hid S
    clear hL2
    go_wp2_with fail
    refine (hL3.out _).mono ?_
    rintro e w4 ⟨rfl, bb⟩
    have T := (S.out.call bb)
    clear bb S c_y0 c_y1 c_y2 c_x0 c_x1 c_x2 c_b0 c_b1 c_b2 c_b3 c_b4 c_b5 c_a0 c_a1 c_a2 c_a3 c_a4 c_a5 hz
    have S := T
    clear T
    obtain ⟨c_y0, c_y1, c_y2⟩ := S.c3 0 rfl
    obtain ⟨c_x0, c_x1, c_x2⟩ := S.c3 1 rfl
    obtain ⟨c_b0, c_b1, c_b2, c_b3, c_b4, c_b5⟩ := S.c6 2 rfl
    obtain ⟨c_a0, c_a1, c_a2, c_a3, c_a4, c_a5⟩ := S.c6 3 rfl
    have hz : w.heap.size + 1 + 1 + 1 < w4.heap.size := S.lt 0 rfl
    replace S := Lib.hid S
    clear hL3
    go_wp2_with fail
    refine (hC1.out _ (Rw.of (S.out.r 11 rfl) (S.out.r 10 rfl) k1.out) (Rw.of (S.out.r 9 rfl) (S.out.r 8 rfl) k2.out) (Rw.of (S.out.r 3 rfl) (S.out.r 2 rfl) k5.out)).mono ?_
    rintro e w5 ⟨rfl, bb⟩
    have T := (S.out.call bb)
    clear bb S c_y0 c_y1 c_y2 c_x0 c_x1 c_x2 c_b0 c_b1 c_b2 c_b3 c_b4 c_b5 c_a0 c_a1 c_a2 c_a3 c_a4 c_a5 hz
    have S := T
    clear T
    obtain ⟨c_y0, c_y1, c_y2⟩ := S.c3 0 rfl
    obtain ⟨c_x0, c_x1, c_x2⟩ := S.c3 1 rfl
    obtain ⟨c_b0, c_b1, c_b2, c_b3, c_b4, c_b5⟩ := S.c6 2 rfl
    obtain ⟨c_a0, c_a1, c_a2, c_a3, c_a4, c_a5⟩ := S.c6 3 rfl
    have hz : w.heap.size + 1 + 1 + 1 < w5.heap.size := S.lt 0 rfl
    replace S := Lib.hid S
    clear hC1
    go_wp2_with fail
    refine (hC2.out _ (Rw.of (S.out.r 7 rfl) (S.out.r 6 rfl) k3.out) (Rw.of (S.out.r 5 rfl) (S.out.r 4 rfl) k4.out) (Rw.of (S.out.r 1 rfl) (S.out.r 0 rfl) k6.out)).mono ?_
    rintro e w6 ⟨rfl, bb⟩
    have T := (S.out.call bb)
    clear bb S c_y0 c_y1 c_y2 c_x0 c_x1 c_x2 c_b0 c_b1 c_b2 c_b3 c_b4 c_b5 c_a0 c_a1 c_a2 c_a3 c_a4 c_a5 hz
    have S := T
    clear T
    obtain ⟨c_y0, c_y1, c_y2⟩ := S.c3 0 rfl
    obtain ⟨c_x0, c_x1, c_x2⟩ := S.c3 1 rfl
    obtain ⟨c_b0, c_b1, c_b2, c_b3, c_b4, c_b5⟩ := S.c6 2 rfl
    obtain ⟨c_a0, c_a1, c_a2, c_a3, c_a4, c_a5⟩ := S.c6 3 rfl
    have hz : w.heap.size + 1 + 1 + 1 < w6.heap.size := S.lt 0 rfl
    replace S := Lib.hid S
    clear hC2
    go_wp2_with fail
    refine (hDi.out _ (Rw.of (S.out.r 11 rfl) (S.out.r 10 rfl) k1.out) (Rw.of (S.out.r 9 rfl) (S.out.r 8 rfl) k2.out) (Rw.of (S.out.r 7 rfl) (S.out.r 6 rfl) k3.out) (Rw.of (S.out.r 5 rfl) (S.out.r 4 rfl) k4.out)).mono ?_
    rintro e w7 ⟨A31, n31, c31, D31, m31, d31, A32, n32, c32, D32, m32, d32, rfl, Q31, Q32, bb⟩
    have T := (((((S.out.call bb).read Q31.n).read Q31.d).read Q32.n).read Q32.d)
    clear bb S c_y0 c_y1 c_y2 c_x0 c_x1 c_x2 c_b0 c_b1 c_b2 c_b3 c_b4 c_b5 c_a0 c_a1 c_a2 c_a3 c_a4 c_a5 hz
    have S := T
    clear T
    obtain ⟨c_y0, c_y1, c_y2⟩ := S.c3 0 rfl
    obtain ⟨c_x0, c_x1, c_x2⟩ := S.c3 1 rfl
    obtain ⟨c_b0, c_b1, c_b2, c_b3, c_b4, c_b5⟩ := S.c6 2 rfl
    obtain ⟨c_a0, c_a1, c_a2, c_a3, c_a4, c_a5⟩ := S.c6 3 rfl
    have hz : w.heap.size + 1 + 1 + 1 < w7.heap.size := S.lt 0 rfl
    replace S := Lib.hid S
    clear Q31 Q32 hDi
    go_upto_region 4 with fail
    clear c_y0 c_y1 c_y2 c_x0 c_x1 c_x2 c_b0 c_b1 c_b2 c_b3 c_b4 c_b5 c_a0 c_a1 c_a2 c_a3 c_a4 c_a5 hz
    have S := (S.out.allocAt (w7.heap.size) #[.bool (ng zz.num), .slice A31 n31 c31, .slice D31 m31 d31, .bool (ng zz.num), .slice A32 n32 c32, .slice D32 m32 d32] 28 (noL6 _ _ _ _ _ _ _ _ _ _ _ _ _ _) (by simp))
    generalize hW8 : (World.alloc w7 (.cells #[.bool (ng zz.num), .slice A31 n31 c31, .slice D31 m31 d31, .bool (ng zz.num), .slice A32 n32 c32, .slice D32 m32 d32] 28)) = w8 at S ⊢
    clear hW8
    replace S := Lib.hid S
    refine RW.begin (Z := []) (S := (fun W => Cb W (w7.heap.size) #[.bool (ng zz.num), .slice A31 n31 c31, .slice D31 m31 d31, .bool (ng zz.num), .slice A32 n32 c32, .slice D32 m32 d32] 28 ∧ Cb W (w.heap.size + 1 + 1) #[.bool b5, .slice A5 n5 c5, .slice D5 m5 d5] 26 ∧ Cb W (w.heap.size + 1 + 1 + 1) #[.bool b6, .slice A6 n6 c6, .slice D6 m6 d6] 26)) (by kernel_rfl) ?_ S.out ?_
    · exact ⟨by kernel_rfl, zis_nil, by decide, by decide, nol_nil, (fun _ _ h => ⟨h.kb 0 rfl, h.kb 2 rfl, h.kb 1 rfl⟩)⟩
    intro hzk
    clear S
    refine RW.t (i := 0) (v := .int .i64 5) (some 48) at0 (hy := fun _ _ => by kernel_rfl) (h := ?_)
    refine RW.t (i := 1) (v := .bool false) (some 49) at1 (hy := fun _ _ => by go_simp) (h := ?_)
    refine RW.t (i := 2) (v := .bool false) (some 50) at2 (hy := fun _ _ => by kernel_rfl) (h := ?_)
    refine RW.u (i := 3) (some 51) at3 (h := ?_)
    refine RW.u (i := 4) (some 52) at4 (h := ?_)
    refine RW.u (i := 5) (some 53) at5 (h := ?_)
    refine RW.u (i := 6) (some 54) at6 (h := ?_)
    refine RW.u (i := 7) (some 55) at7 (h := ?_)
    refine RW.u (i := 8) (some 56) at8 (h := ?_)
    refine RW.u (i := 9) (some 57) at9 (h := ?_)
    refine RW.u (i := 10) (some 58) at10 (h := ?_)
    refine RW.u (i := 11) (some 59) at11 (h := ?_)
    refine RW.u (i := 12) (some 60) at12 (h := ?_)
    refine RW.u (i := 13) (some 61) at13 (h := ?_)
    refine RW.t (i := 14) (v := .bool false) (some 62) at14 (hy := fun _ _ => by kernel_rfl) (h := ?_)
    refine RW.tail hzk.out (by kernel_rfl) ?_
    intro gs w9 hgs hS S
    obtain rfl := len0 hgs
    clear hS hgs hzk
    simp only [mark, fill, Act.put, List.setIfInBounds_toArray, List.set_cons_zero, List.set_cons_succ]
    replace S := Lib.hid S
    refine Wk.done (by kernel_rfl) ?_
    go_simp
    replace S := S.out
    have S : St w _ [(w7.heap.size, #[.bool (ng zz.num), .slice A31 n31 c31, .slice D31 m31 d31, .bool (ng zz.num), .slice A32 n32 c32, .slice D32 m32 d32], 28), (w.heap.size + 1 + 1 + 1, #[.bool b6, .slice A6 n6 c6, .slice D6 m6 d6], 26), (w.heap.size + 1 + 1, #[.bool b5, .slice A5 n5 c5, .slice D5 m5 d5], 26), (w.heap.size + 1, #[.bool b3, .slice A3 n3 c3, .slice D3 m3 d3, .bool b4, .slice A4 n4 c4, .slice D4 m4 d4], 28), (w.heap.size, #[.bool b1, .slice A1 n1 c1, .slice D1 m1 d1, .bool b2, .slice A2 n2 c2, .slice D2 m2 d2], 28)] [(D32, m32, d32, dn zz), (A32, n32, c32, limbs zz.num.natAbs), (D31, m31, d31, dn zz), (A31, n31, c31, limbs zz.num.natAbs), (D6, m6, d6, y6), (A6, n6, c6, x6), (D5, m5, d5, y5), (A5, n5, c5, x5), (D4, m4, d4, y4), (A4, n4, c4, x4), (D3, m3, d3, y3), (A3, n3, c3, x3), (D2, m2, d2, y2), (A2, n2, c2, x2), (D1, m1, d1, y1), (A1, n1, c1, x1)] := S
    replace S := Lib.hid S
    replace S := S.out
    obtain ⟨c_q0, c_q1, c_q2, c_q3, c_q4, c_q5⟩ := S.c6 0 rfl
    obtain ⟨c_y0, c_y1, c_y2⟩ := S.c3 1 rfl
    obtain ⟨c_x0, c_x1, c_x2⟩ := S.c3 2 rfl
    obtain ⟨c_b0, c_b1, c_b2, c_b3, c_b4, c_b5⟩ := S.c6 3 rfl
    obtain ⟨c_a0, c_a1, c_a2, c_a3, c_a4, c_a5⟩ := S.c6 4 rfl
    have hz : w7.heap.size < w9.heap.size := S.lt 0 rfl
    replace S := Lib.hid S
    go_upto_region 6 with fail
    clear c_q0 c_q1 c_q2 c_q3 c_q4 c_q5 c_y0 c_y1 c_y2 c_x0 c_x1 c_x2 c_b0 c_b1 c_b2 c_b3 c_b4 c_b5 c_a0 c_a1 c_a2 c_a3 c_a4 c_a5 hz
    refine RW.begin (Z := []) (S := (fun W => Cb W (w.heap.size) #[.bool b1, .slice A1 n1 c1, .slice D1 m1 d1, .bool b2, .slice A2 n2 c2, .slice D2 m2 d2] 28 ∧ Cb W (w.heap.size + 1) #[.bool b3, .slice A3 n3 c3, .slice D3 m3 d3, .bool b4, .slice A4 n4 c4, .slice D4 m4 d4] 28 ∧ Cb W (w.heap.size + 1 + 1) #[.bool b5, .slice A5 n5 c5, .slice D5 m5 d5] 26 ∧ Cb W (w.heap.size + 1 + 1 + 1) #[.bool b6, .slice A6 n6 c6, .slice D6 m6 d6] 26)) (by kernel_rfl) ?_ S.out ?_
    · exact ⟨by kernel_rfl, zis_nil, by decide, by decide, nol_nil, (fun _ _ h => ⟨h.kb 4 rfl, h.kb 3 rfl, h.kb 2 rfl, h.kb 1 rfl⟩)⟩
    intro hzk
    clear S
    refine RW.c (i := 0) (args := #[]) (some 63) hzk.out at0 (hx := fun _ => by kernel_rfl) (h := fun _ S => (hA.out _).mono ?_)
    rintro e w10 ⟨rfl, bb⟩
    refine ⟨bb, _, [], rfl, rd_nil, ?_⟩
    clear bb S
    refine RW.t (i := 1) (v := .bool true) (some 64) at1 (hy := fun _ _ => by kernel_rfl) (h := ?_)
    refine RW.t (i := 2) (v := .agg #[.bool b1, .slice A1 n1 c1, .slice D1 m1 d1, .bool b2, .slice A2 n2 c2, .slice D2 m2 d2]) (some 65) at2 (hy := fun W hS => by (obtain ⟨k0, k1, k2, k3, k4, k5⟩ := Cb.c6 hS.1; clear hS; go_simp)) (h := ?_)
    refine RW.t (i := 3) (v := .agg #[.bool b3, .slice A3 n3 c3, .slice D3 m3 d3, .bool b4, .slice A4 n4 c4, .slice D4 m4 d4]) (some 66) at3 (hy := fun W hS => by (obtain ⟨k0, k1, k2, k3, k4, k5⟩ := Cb.c6 hS.2.1; clear hS; go_simp)) (h := ?_)
    refine RW.t (i := 5) (v := .agg #[.bool b5, .slice A5 n5 c5, .slice D5 m5 d5]) (some 68) at5 (hy := fun W hS => by (have k0 := Cb.cell (i := 0) hS.2.2.1 rfl; have k1 := Cb.cell (i := 1) hS.2.2.1 rfl; have k2 := Cb.cell (i := 2) hS.2.2.1 rfl; clear hS; go_simp)) (h := ?_)
    refine RW.t (i := 6) (v := .agg #[.bool b6, .slice A6 n6 c6, .slice D6 m6 d6]) (some 69) at6 (hy := fun W hS => by (have k0 := Cb.cell (i := 0) hS.2.2.2 rfl; have k1 := Cb.cell (i := 1) hS.2.2.2 rfl; have k2 := Cb.cell (i := 2) hS.2.2.2 rfl; clear hS; go_simp)) (h := ?_)
    refine RW.c (i := 4) (args := #[.agg #[.bool b1, .slice A1 n1 c1, .slice D1 m1 d1, .bool b2, .slice A2 n2 c2, .slice D2 m2 d2], .agg #[.bool b3, .slice A3 n3 c3, .slice D3 m3 d3, .bool b4, .slice A4 n4 c4, .slice D4 m4 d4]]) (some 67) hzk.out at4 (hx := fun _ => by kernel_rfl) (h := fun _ S => (hAd.out _ (Rw.of (S.r 15 rfl) (S.r 14 rfl) k1.out) (Rw.of (S.r 13 rfl) (S.r 12 rfl) k2.out) (Rw.of (S.r 11 rfl) (S.r 10 rfl) k3.out) (Rw.of (S.r 9 rfl) (S.r 8 rfl) k4.out)).mono ?_)
    rintro e w11 ⟨A40, n40, c40, D40, m40, d40, A41, n41, c41, D41, m41, d41, rfl, Q40, Q41, bb⟩
    refine ⟨bb, _, [(D41, m41, d41, dn hi1), (A41, n41, c41, limbs hi1.num.natAbs), (D40, m40, d40, dn lo1), (A40, n40, c40, limbs lo1.num.natAbs)], rfl, (rd_cons Q41.d (rd_cons Q41.n (rd_cons Q40.d (rd_cons Q40.n rd_nil)))), ?_⟩
    clear bb S Q40 Q41
    refine RW.c (i := 7) (args := #[.agg #[.bool b5, .slice A5 n5 c5, .slice D5 m5 d5], .agg #[.bool b6, .slice A6 n6 c6, .slice D6 m6 d6]]) (some 70) hzk.out at7 (hx := fun _ => by kernel_rfl) (h := fun _ S => (hRa.out _ (Rw.of (S.r 11 rfl) (S.r 10 rfl) k5.out) (Rw.of (S.r 9 rfl) (S.r 8 rfl) k6.out)).mono ?_)
    rintro e w12 ⟨A42, n42, c42, D42, m42, d42, rfl, Q42, bb⟩
    refine ⟨bb, _, [(D42, m42, d42, dn va), (A42, n42, c42, limbs va.num.natAbs)], rfl, (rd_cons Q42.d (rd_cons Q42.n rd_nil)), ?_⟩
    clear bb S Q42
    refine RW.c (i := 8) (args := #[.agg #[.bool (ng lo1.num), .slice A40 n40 c40, .slice D40 m40 d40, .bool (ng hi1.num), .slice A41 n41 c41, .slice D41 m41 d41], .agg #[.bool (ng va.num), .slice A42 n42 c42, .slice D42 m42 d42]]) (some 71) hzk.out at8 (hx := fun _ => by kernel_rfl) (h := fun _ S => (hT1.out _ _ _ _ _ _ _ _ _ _ _ _ _ _ _ _ _ _ _ ⟨S.r 5 rfl, S.r 4 rfl⟩ ⟨S.r 3 rfl, S.r 2 rfl⟩ ⟨S.r 1 rfl, S.r 0 rfl⟩).mono ?_)
    rintro e w13 ⟨rfl, bb⟩
    refine ⟨bb, _, [], rfl, rd_nil, ?_⟩
    clear bb S
    refine RW.t (i := 9) (v := .bool true) (some 72) at9 (hy := fun _ _ => by kernel_rfl) (h := ?_)
    refine RW.t (i := 10) (v := .bool true) (some 73) at10 (hy := fun _ _ => by kernel_rfl) (h := ?_)
    refine RW.t (i := 11) (v := .agg #[.bool b1, .slice A1 n1 c1, .slice D1 m1 d1, .bool b2, .slice A2 n2 c2, .slice D2 m2 d2]) (some 74) at11 (hy := fun W hS => by (obtain ⟨k0, k1, k2, k3, k4, k5⟩ := Cb.c6 hS.1; clear hS; go_simp)) (h := ?_)
    refine RW.t (i := 12) (v := .agg #[.bool b3, .slice A3 n3 c3, .slice D3 m3 d3, .bool b4, .slice A4 n4 c4, .slice D4 m4 d4]) (some 75) at12 (hy := fun W hS => by (obtain ⟨k0, k1, k2, k3, k4, k5⟩ := Cb.c6 hS.2.1; clear hS; go_simp)) (h := ?_)
    refine RW.t (i := 14) (v := .agg #[.bool b5, .slice A5 n5 c5, .slice D5 m5 d5]) (some 77) at14 (hy := fun W hS => by (have k0 := Cb.cell (i := 0) hS.2.2.1 rfl; have k1 := Cb.cell (i := 1) hS.2.2.1 rfl; have k2 := Cb.cell (i := 2) hS.2.2.1 rfl; clear hS; go_simp)) (h := ?_)
    refine RW.t (i := 15) (v := .agg #[.bool b6, .slice A6 n6 c6, .slice D6 m6 d6]) (some 78) at15 (hy := fun W hS => by (have k0 := Cb.cell (i := 0) hS.2.2.2 rfl; have k1 := Cb.cell (i := 1) hS.2.2.2 rfl; have k2 := Cb.cell (i := 2) hS.2.2.2 rfl; clear hS; go_simp)) (h := ?_)
    refine RW.c (i := 13) (args := #[.agg #[.bool b1, .slice A1 n1 c1, .slice D1 m1 d1, .bool b2, .slice A2 n2 c2, .slice D2 m2 d2], .agg #[.bool b3, .slice A3 n3 c3, .slice D3 m3 d3, .bool b4, .slice A4 n4 c4, .slice D4 m4 d4]]) (some 76) hzk.out at13 (hx := fun _ => by kernel_rfl) (h := fun _ S => (hSu.out _ (Rw.of (S.r 21 rfl) (S.r 20 rfl) k1.out) (Rw.of (S.r 19 rfl) (S.r 18 rfl) k2.out) (Rw.of (S.r 17 rfl) (S.r 16 rfl) k3.out) (Rw.of (S.r 15 rfl) (S.r 14 rfl) k4.out)).mono ?_)
    rintro e w14 ⟨A43, n43, c43, D43, m43, d43, A44, n44, c44, D44, m44, d44, rfl, Q43, Q44, bb⟩
    refine ⟨bb, _, [(D44, m44, d44, dn hi2), (A44, n44, c44, limbs hi2.num.natAbs), (D43, m43, d43, dn lo2), (A43, n43, c43, limbs lo2.num.natAbs)], rfl, (rd_cons Q44.d (rd_cons Q44.n (rd_cons Q43.d (rd_cons Q43.n rd_nil)))), ?_⟩
    clear bb S Q43 Q44
    refine RW.c (i := 16) (args := #[.agg #[.bool b5, .slice A5 n5 c5, .slice D5 m5 d5], .agg #[.bool b6, .slice A6 n6 c6, .slice D6 m6 d6]]) (some 79) hzk.out at16 (hx := fun _ => by kernel_rfl) (h := fun _ S => (hRs.out _ (Rw.of (S.r 17 rfl) (S.r 16 rfl) k5.out) (Rw.of (S.r 15 rfl) (S.r 14 rfl) k6.out)).mono ?_)
    rintro e w15 ⟨A45, n45, c45, D45, m45, d45, rfl, Q45, bb⟩
    refine ⟨bb, _, [(D45, m45, d45, dn vs), (A45, n45, c45, limbs vs.num.natAbs)], rfl, (rd_cons Q45.d (rd_cons Q45.n rd_nil)), ?_⟩
    clear bb S Q45
    refine RW.c (i := 17) (args := #[.agg #[.bool (ng lo2.num), .slice A43 n43 c43, .slice D43 m43 d43, .bool (ng hi2.num), .slice A44 n44 c44, .slice D44 m44 d44], .agg #[.bool (ng vs.num), .slice A45 n45 c45, .slice D45 m45 d45]]) (some 80) hzk.out at17 (hx := fun _ => by kernel_rfl) (h := fun _ S => (hT2.out _ _ _ _ _ _ _ _ _ _ _ _ _ _ _ _ _ _ _ ⟨S.r 5 rfl, S.r 4 rfl⟩ ⟨S.r 3 rfl, S.r 2 rfl⟩ ⟨S.r 1 rfl, S.r 0 rfl⟩).mono ?_)
    rintro e w16 ⟨rfl, bb⟩
    refine ⟨bb, _, [], rfl, rd_nil, ?_⟩
    clear bb S
    refine RW.t (i := 18) (v := .bool true) (some 81) at18 (hy := fun _ _ => by kernel_rfl) (h := ?_)
    refine RW.t (i := 19) (v := .bool true) (some 82) at19 (hy := fun _ _ => by kernel_rfl) (h := ?_)
    refine RW.t (i := 20) (v := .agg #[.bool b1, .slice A1 n1 c1, .slice D1 m1 d1, .bool b2, .slice A2 n2 c2, .slice D2 m2 d2]) (some 83) at20 (hy := fun W hS => by (obtain ⟨k0, k1, k2, k3, k4, k5⟩ := Cb.c6 hS.1; clear hS; go_simp)) (h := ?_)
    refine RW.t (i := 21) (v := .agg #[.bool b3, .slice A3 n3 c3, .slice D3 m3 d3, .bool b4, .slice A4 n4 c4, .slice D4 m4 d4]) (some 84) at21 (hy := fun W hS => by (obtain ⟨k0, k1, k2, k3, k4, k5⟩ := Cb.c6 hS.2.1; clear hS; go_simp)) (h := ?_)
    refine RW.t (i := 23) (v := .agg #[.bool b5, .slice A5 n5 c5, .slice D5 m5 d5]) (some 86) at23 (hy := fun W hS => by (have k0 := Cb.cell (i := 0) hS.2.2.1 rfl; have k1 := Cb.cell (i := 1) hS.2.2.1 rfl; have k2 := Cb.cell (i := 2) hS.2.2.1 rfl; clear hS; go_simp)) (h := ?_)
    refine RW.t (i := 24) (v := .agg #[.bool b6, .slice A6 n6 c6, .slice D6 m6 d6]) (some 87) at24 (hy := fun W hS => by (have k0 := Cb.cell (i := 0) hS.2.2.2 rfl; have k1 := Cb.cell (i := 1) hS.2.2.2 rfl; have k2 := Cb.cell (i := 2) hS.2.2.2 rfl; clear hS; go_simp)) (h := ?_)
    refine RW.c (i := 22) (args := #[.agg #[.bool b1, .slice A1 n1 c1, .slice D1 m1 d1, .bool b2, .slice A2 n2 c2, .slice D2 m2 d2], .agg #[.bool b3, .slice A3 n3 c3, .slice D3 m3 d3, .bool b4, .slice A4 n4 c4, .slice D4 m4 d4]]) (some 85) hzk.out at22 (hx := fun _ => by kernel_rfl) (h := fun _ S => (hMu.out _ (Rw.of (S.r 27 rfl) (S.r 26 rfl) k1.out) (Rw.of (S.r 25 rfl) (S.r 24 rfl) k2.out) (Rw.of (S.r 23 rfl) (S.r 22 rfl) k3.out) (Rw.of (S.r 21 rfl) (S.r 20 rfl) k4.out)).mono ?_)
    rintro e w17 ⟨A46, n46, c46, D46, m46, d46, A47, n47, c47, D47, m47, d47, rfl, Q46, Q47, bb⟩
    refine ⟨bb, _, [(D47, m47, d47, dn hi3), (A47, n47, c47, limbs hi3.num.natAbs), (D46, m46, d46, dn lo3), (A46, n46, c46, limbs lo3.num.natAbs)], rfl, (rd_cons Q47.d (rd_cons Q47.n (rd_cons Q46.d (rd_cons Q46.n rd_nil)))), ?_⟩
    clear bb S Q46 Q47
    refine RW.c (i := 25) (args := #[.agg #[.bool b5, .slice A5 n5 c5, .slice D5 m5 d5], .agg #[.bool b6, .slice A6 n6 c6, .slice D6 m6 d6]]) (some 88) hzk.out at25 (hx := fun _ => by kernel_rfl) (h := fun _ S => (hRm.out _ (Rw.of (S.r 23 rfl) (S.r 22 rfl) k5.out) (Rw.of (S.r 21 rfl) (S.r 20 rfl) k6.out)).mono ?_)
    rintro e w18 ⟨A48, n48, c48, D48, m48, d48, rfl, Q48, bb⟩
    refine ⟨bb, _, [(D48, m48, d48, dn vm), (A48, n48, c48, limbs vm.num.natAbs)], rfl, (rd_cons Q48.d (rd_cons Q48.n rd_nil)), ?_⟩
    clear bb S Q48
    refine RW.c (i := 26) (args := #[.agg #[.bool (ng lo3.num), .slice A46 n46 c46, .slice D46 m46 d46, .bool (ng hi3.num), .slice A47 n47 c47, .slice D47 m47 d47], .agg #[.bool (ng vm.num), .slice A48 n48 c48, .slice D48 m48 d48]]) (some 89) hzk.out at26 (hx := fun _ => by kernel_rfl) (h := fun _ S => (hT3.out _ _ _ _ _ _ _ _ _ _ _ _ _ _ _ _ _ _ _ ⟨S.r 5 rfl, S.r 4 rfl⟩ ⟨S.r 3 rfl, S.r 2 rfl⟩ ⟨S.r 1 rfl, S.r 0 rfl⟩).mono ?_)
    rintro e w19 ⟨rfl, bb⟩
    refine ⟨bb, _, [], rfl, rd_nil, ?_⟩
    clear bb S
    refine RW.t (i := 27) (v := .bool true) (some 90) at27 (hy := fun _ _ => by kernel_rfl) (h := ?_)
    refine RW.t (i := 28) (v := .bool true) (some 91) at28 (hy := fun _ _ => by kernel_rfl) (h := ?_)
    refine RW.t (i := 29) (v := .agg #[.bool b1, .slice A1 n1 c1, .slice D1 m1 d1, .bool b2, .slice A2 n2 c2, .slice D2 m2 d2]) (some 92) at29 (hy := fun W hS => by (obtain ⟨k0, k1, k2, k3, k4, k5⟩ := Cb.c6 hS.1; clear hS; go_simp)) (h := ?_)
    refine RW.t (i := 31) (v := .agg #[.bool b5, .slice A5 n5 c5, .slice D5 m5 d5]) (some 94) at31 (hy := fun W hS => by (have k0 := Cb.cell (i := 0) hS.2.2.1 rfl; have k1 := Cb.cell (i := 1) hS.2.2.1 rfl; have k2 := Cb.cell (i := 2) hS.2.2.1 rfl; clear hS; go_simp)) (h := ?_)
    refine RW.t (i := 32) (v := .agg #[.bool b5, .slice A5 n5 c5, .slice D5 m5 d5]) (some 95) at32 (hy := fun W hS => by (have k0 := Cb.cell (i := 0) hS.2.2.1 rfl; have k1 := Cb.cell (i := 1) hS.2.2.1 rfl; have k2 := Cb.cell (i := 2) hS.2.2.1 rfl; clear hS; go_simp)) (h := ?_)
    refine RW.c (i := 30) (args := #[.agg #[.bool b1, .slice A1 n1 c1, .slice D1 m1 d1, .bool b2, .slice A2 n2 c2, .slice D2 m2 d2]]) (some 93) hzk.out at30 (hx := fun _ => by kernel_rfl) (h := fun _ S => (hSq.out _ (Rw.of (S.r 33 rfl) (S.r 32 rfl) k1.out) (Rw.of (S.r 31 rfl) (S.r 30 rfl) k2.out)).mono ?_)
    rintro e w20 ⟨A49, n49, c49, D49, m49, d49, A50, n50, c50, D50, m50, d50, rfl, Q49, Q50, bb⟩
    refine ⟨bb, _, [(D50, m50, d50, dn hi4), (A50, n50, c50, limbs hi4.num.natAbs), (D49, m49, d49, dn lo4), (A49, n49, c49, limbs lo4.num.natAbs)], rfl, (rd_cons Q50.d (rd_cons Q50.n (rd_cons Q49.d (rd_cons Q49.n rd_nil)))), ?_⟩
    clear bb S Q49 Q50
    refine RW.c (i := 33) (args := #[.agg #[.bool b5, .slice A5 n5 c5, .slice D5 m5 d5], .agg #[.bool b5, .slice A5 n5 c5, .slice D5 m5 d5]]) (some 96) hzk.out at33 (hx := fun _ => by kernel_rfl) (h := fun _ S => (hRq.out _ (Rw.of (S.r 29 rfl) (S.r 28 rfl) k5.out) (Rw.of (S.r 29 rfl) (S.r 28 rfl) k5.out)).mono ?_)
    rintro e w21 ⟨A51, n51, c51, D51, m51, d51, rfl, Q51, bb⟩
    refine ⟨bb, _, [(D51, m51, d51, dn vq), (A51, n51, c51, limbs vq.num.natAbs)], rfl, (rd_cons Q51.d (rd_cons Q51.n rd_nil)), ?_⟩
    clear bb S Q51
    refine RW.c (i := 34) (args := #[.agg #[.bool (ng lo4.num), .slice A49 n49 c49, .slice D49 m49 d49, .bool (ng hi4.num), .slice A50 n50 c50, .slice D50 m50 d50], .agg #[.bool (ng vq.num), .slice A51 n51 c51, .slice D51 m51 d51]]) (some 97) hzk.out at34 (hx := fun _ => by kernel_rfl) (h := fun _ S => (hT4.out _ _ _ _ _ _ _ _ _ _ _ _ _ _ _ _ _ _ _ ⟨S.r 5 rfl, S.r 4 rfl⟩ ⟨S.r 3 rfl, S.r 2 rfl⟩ ⟨S.r 1 rfl, S.r 0 rfl⟩).mono ?_)
    rintro e w22 ⟨rfl, bb⟩
    refine ⟨bb, _, [], rfl, rd_nil, ?_⟩
    clear bb S
    refine RW.t (i := 35) (v := .bool true) (some 98) at35 (hy := fun _ _ => by kernel_rfl) (h := ?_)
    refine RW.tail hzk.out (by kernel_rfl) ?_
    intro gs w23 hgs hS S
    obtain rfl := len0 hgs
    clear hS hgs hzk
    simp only [mark, fill, Act.put, List.setIfInBounds_toArray, List.set_cons_zero, List.set_cons_succ]
    replace S := Lib.hid S
    refine Wk.o (i := 36) at36 (by kernel_rfl) fun K' hK => ?_
    go_simp
    have SN := S.out
    clear S
    have S := SN
    clear SN
    refine hK.out _ _ ⟨(S.cb 4 rfl), (S.cb 3 rfl), (S.cb 2 rfl), (S.cb 1 rfl)⟩ ?_
    clear hK K'
    replace S := Lib.hid S
    try simp only [Act.put, List.setIfInBounds_toArray, List.set_cons_zero, List.set_cons_succ]
    refine Wk.done (by kernel_rfl) ?_
    go_simp
    replace S := S.out
    have S : St w _ [(w7.heap.size, #[.bool (ng zz.num), .slice A31 n31 c31, .slice D31 m31 d31, .bool (ng zz.num), .slice A32 n32 c32, .slice D32 m32 d32], 28), (w.heap.size + 1 + 1 + 1, #[.bool b6, .slice A6 n6 c6, .slice D6 m6 d6], 26), (w.heap.size + 1 + 1, #[.bool b5, .slice A5 n5 c5, .slice D5 m5 d5], 26), (w.heap.size + 1, #[.bool b3, .slice A3 n3 c3, .slice D3 m3 d3, .bool b4, .slice A4 n4 c4, .slice D4 m4 d4], 28), (w.heap.size, #[.bool b1, .slice A1 n1 c1, .slice D1 m1 d1, .bool b2, .slice A2 n2 c2, .slice D2 m2 d2], 28)] [(D51, m51, d51, dn vq), (A51, n51, c51, limbs vq.num.natAbs), (D50, m50, d50, dn hi4), (A50, n50, c50, limbs hi4.num.natAbs), (D49, m49, d49, dn lo4), (A49, n49, c49, limbs lo4.num.natAbs), (D48, m48, d48, dn vm), (A48, n48, c48, limbs vm.num.natAbs), (D47, m47, d47, dn hi3), (A47, n47, c47, limbs hi3.num.natAbs), (D46, m46, d46, dn lo3), (A46, n46, c46, limbs lo3.num.natAbs), (D45, m45, d45, dn vs), (A45, n45, c45, limbs vs.num.natAbs), (D44, m44, d44, dn hi2), (A44, n44, c44, limbs hi2.num.natAbs), (D43, m43, d43, dn lo2), (A43, n43, c43, limbs lo2.num.natAbs), (D42, m42, d42, dn va), (A42, n42, c42, limbs va.num.natAbs), (D41, m41, d41, dn hi1), (A41, n41, c41, limbs hi1.num.natAbs), (D40, m40, d40, dn lo1), (A40, n40, c40, limbs lo1.num.natAbs), (D32, m32, d32, dn zz), (A32, n32, c32, limbs zz.num.natAbs), (D31, m31, d31, dn zz), (A31, n31, c31, limbs zz.num.natAbs), (D6, m6, d6, y6), (A6, n6, c6, x6), (D5, m5, d5, y5), (A5, n5, c5, x5), (D4, m4, d4, y4), (A4, n4, c4, x4), (D3, m3, d3, y3), (A3, n3, c3, x3), (D2, m2, d2, y2), (A2, n2, c2, x2), (D1, m1, d1, y1), (A1, n1, c1, x1)] := S
    replace S := Lib.hid S
    replace S := S.out
    replace S := Lib.hid S
    have S := S.out
    replace S := Lib.hid S
    go_wp2
    go_ret
    exact ⟨rfl, S.out.bel⟩
  · obtain ⟨ho, hs0⟩ := div_ok hz
    have hko : klo q3 q4 = q3 := if_neg (Rat.not_lt.2 ho)
    have hkh : khi q3 q4 = q4 := if_neg (Rat.not_lt.2 ho)
    have hy0 : q6 ≠ 0 := by rw [hko] at fy1; rw [hkh] at fy2; rcases hs0 with h | h <;> intro e <;> subst e <;> grind
    have hDi : Hid (∀ W, Rw W b1 A1 n1 c1 x1 D1 m1 d1 y1 q1 → Rw W b2 A2 n2 c2 x2 D2 m2 d2 y2 q2 → Rw W b3 A3 n3 c3 x3 D3 m3 d3 y3 q3 → Rw W b4 A4 n4 c4 x4 D4 m4 d4 y4 q4 → Calls Tryz.prog 28 #[.agg #[.bool b1, .slice A1 n1 c1, .slice D1 m1 d1, .bool b2, .slice A2 n2 c2, .slice D2 m2 d2], .agg #[.bool b3, .slice A3 n3 c3, .slice D3 m3 d3, .bool b4, .slice A4 n4 c4, .slice D4 m4 d4]] W (RetVE (minL (mulL (klo q1 q2) (khi q1 q2) q4⁻¹ q3⁻¹)) (maxL (mulL (klo q1 q2) (khi q1 q2) q4⁻¹ q3⁻¹)) (.int .i64 0) W)) := Lib.hid fun W h1 h2 h3 h4 => idiv_yes _ _ _ _ _ _ _ _ _ _ _ _ _ _ _ _ _ _ _ _ _ _ _ _ _ _ _ _ _ _ _ _ _ _ _ _ _ _ _ _ hz (s1.mono (by decide)) (s2.mono (by decide)) (s3.mono (by decide)) (s4.mono (by decide)) W h1 h2 h3 h4
    have eT0 : minL (mulL (klo q1 q2) (khi q1 q2) q4⁻¹ q3⁻¹) ≤ q5 / q6 ∧ q5 / q6 ≤ maxL (mulL (klo q1 q2) (khi q1 q2) q4⁻¹ q3⁻¹) := div_in fx1 fx2 (by rw [← hko]; exact fy1) (by rw [← hkh]; exact fy2) hs0
    have i3 := s3.inv (by decide)
    have i4 := s4.inv (by decide)
    have sv0 : Rs (q5 / q6) 16 := by rw [div_eq]; exact s5.mul (s6.inv (by decide))
    have hT0 := Lib.hid (fun A0 n0 c0 D0 m0 d0 A1 n1 c1 D1 m1 d1 A2 n2 c2 D2 m2 d2 W X0 X1 X2 => contT (minL (mulL (klo q1 q2) (khi q1 q2) q4⁻¹ q3⁻¹)) (maxL (mulL (klo q1 q2) (khi q1 q2) q4⁻¹ q3⁻¹)) (q5 / q6) eT0.1 eT0.2 ((mulL_rs ka kb i4 i3).1.mono (by decide)) ((mulL_rs ka kb i4 i3).2.mono (by decide)) (sv0.mono (by decide)) A0 n0 c0 D0 m0 d0 A1 n1 c1 D1 m1 d1 A2 n2 c2 D2 m2 d2 W X0 X1 X2)
    have hRd : Hid (∀ W, Rw W b5 A5 n5 c5 x5 D5 m5 d5 y5 q5 → Rw W b6 A6 n6 c6 x6 D6 m6 d6 y6 q6 → Calls Tryz.prog 45 #[.agg #[.bool b5, .slice A5 n5 c5, .slice D5 m5 d5], .agg #[.bool b6, .slice A6 n6 c6, .slice D6 m6 d6]] W (RetR (q5 / q6) W)) := Lib.hid fun W h1 h2 => by
      have := Fquo_any b5 A5 n5 c5 x5 D5 m5 d5 y5 b6 A6 n6 c6 x6 D6 m6 d6 y6 W h1.rn h1.rd h2.rn h2.rd (by have := h1.k.2.1; omega) (by have := h1.k.2.2; omega) (by have := h2.k.2.1; omega) (by have := h2.k.2.2; omega) (by rw [h2.k.1]; exact hy0)
      rwa [h1.k.1, h2.k.1] at this
    have hSy : Hid (∀ W, Rw W b6 A6 n6 c6 x6 D6 m6 d6 y6 q6 → Calls Tryz.prog 44 #[.agg #[.bool b6, .slice A6 n6 c6, .slice D6 m6 d6]] W fun e w' => e = .returned (.int .i64 q6.num.sign) ∧ Below W.heap.size W w') := Lib.hid fun W h1 => by
      have := rsignR_any b6 A6 n6 c6 x6 D6 m6 d6 y6 W h1.rn h1.rd (by have := h1.k.2.1; omega) (by have := h1.k.2.2; omega)
      rwa [h1.k.1] at this
    have hsy : (q6.num.sign == 0) = false := by rw [beq_eq_false_iff_ne]; intro h; exact hy0 (Rat.num_eq_zero.1 (Int.sign_eq_zero_iff_zero.1 h))
    clear eT0 i3 i4 sv0 hy0 hko hkh ho hs0 hz
    generalize minL (mulL (klo q1 q2) (khi q1 q2) q4⁻¹ q3⁻¹) = lo0 at *
    generalize maxL (mulL (klo q1 q2) (khi q1 q2) q4⁻¹ q3⁻¹) = hi0 at *
    generalize q5 / q6 = v0 at *
    generalize q6.num.sign = sy at *
    clear fx1 fx2 fy1 fy2 ka kb kc kd
    generalize klo q1 q2 + klo q3 q4 = lo1 at *
    generalize khi q1 q2 + khi q3 q4 = hi1 at *
    generalize q5 + q6 = va at *
    generalize klo q1 q2 - khi q3 q4 = lo2 at *
    generalize khi q1 q2 - klo q3 q4 = hi2 at *
    generalize q5 - q6 = vs at *
    generalize minL (mulL (klo q1 q2) (khi q1 q2) (klo q3 q4) (khi q3 q4)) = lo3 at *
    generalize maxL (mulL (klo q1 q2) (khi q1 q2) (klo q3 q4) (khi q3 q4)) = hi3 at *
    generalize q5 * q6 = vm at *
    generalize minL (sqL (klo q1 q2) (khi q1 q2)) = lo4 at *
    generalize maxL (sqL (klo q1 q2) (khi q1 q2)) = hi4 at *
    generalize q5 * q5 = vq at *
    clear X1 s1 X2 s2 X3 s3 X4 s4 X5 s5 X6 s6
    go_enter Tryz.func6, Tryz.ntmps6
    go_wp2_with fail
    refine (hL0.out _).mono ?_
    rintro e w1 ⟨rfl, bb⟩
    have T := (S.out.call bb)
    clear bb S
    have S := T
    clear T
    obtain ⟨c_y0, c_y1, c_y2⟩ := S.c3 0 rfl
    obtain ⟨c_x0, c_x1, c_x2⟩ := S.c3 1 rfl
    obtain ⟨c_b0, c_b1, c_b2, c_b3, c_b4, c_b5⟩ := S.c6 2 rfl
    obtain ⟨c_a0, c_a1, c_a2, c_a3, c_a4, c_a5⟩ := S.c6 3 rfl
    have hz : w.heap.size + 1 + 1 + 1 < w1.heap.size := S.lt 0 rfl
    replace S := Lib.hid S
    clear hL0
    go_wp2_with fail
    refine (hL1.out _).mono ?_
    rintro e w2 ⟨rfl, bb⟩
    have T := (S.out.call bb)
    clear bb S c_y0 c_y1 c_y2 c_x0 c_x1 c_x2 c_b0 c_b1 c_b2 c_b3 c_b4 c_b5 c_a0 c_a1 c_a2 c_a3 c_a4 c_a5 hz
    have S := T
    clear T
    obtain ⟨c_y0, c_y1, c_y2⟩ := S.c3 0 rfl
    obtain ⟨c_x0, c_x1, c_x2⟩ := S.c3 1 rfl
    obtain ⟨c_b0, c_b1, c_b2, c_b3, c_b4, c_b5⟩ := S.c6 2 rfl
    obtain ⟨c_a0, c_a1, c_a2, c_a3, c_a4, c_a5⟩ := S.c6 3 rfl
    have hz : w.heap.size + 1 + 1 + 1 < w2.heap.size := S.lt 0 rfl
    replace S := Lib.hid S
    clear hL1
    go_wp2_with fail
    refine (hL2.out _).mono ?_
    rintro e w3 ⟨rfl, bb⟩
    have T := (S.out.call bb)
    clear bb S c_y0 c_y1 c_y2 c_x0 c_x1 c_x2 c_b0 c_b1 c_b2 c_b3 c_b4 c_b5 c_a0 c_a1 c_a2 c_a3 c_a4 c_a5 hz
    have S := T
    clear T
    obtain ⟨c_y0, c_y1, c_y2⟩ := S.c3 0 rfl
    obtain ⟨c_x0, c_x1, c_x2⟩ := S.c3 1 rfl
    obtain ⟨c_b0, c_b1, c_b2, c_b3, c_b4, c_b5⟩ := S.c6 2 rfl
    obtain ⟨c_a0, c_a1, c_a2, c_a3, c_a4, c_a5⟩ := S.c6 3 rfl
    have hz : w.heap.size + 1 + 1 + 1 < w3.heap.size := S.lt 0 rfl
    replace S := Lib.hid S
    clear hL2
    go_wp2_with fail
    refine (hL3.out _).mono ?_
    rintro e w4 ⟨rfl, bb⟩
    have T := (S.out.call bb)
    clear bb S c_y0 c_y1 c_y2 c_x0 c_x1 c_x2 c_b0 c_b1 c_b2 c_b3 c_b4 c_b5 c_a0 c_a1 c_a2 c_a3 c_a4 c_a5 hz
    have S := T
    clear T
    obtain ⟨c_y0, c_y1, c_y2⟩ := S.c3 0 rfl
    obtain ⟨c_x0, c_x1, c_x2⟩ := S.c3 1 rfl
    obtain ⟨c_b0, c_b1, c_b2, c_b3, c_b4, c_b5⟩ := S.c6 2 rfl
    obtain ⟨c_a0, c_a1, c_a2, c_a3, c_a4, c_a5⟩ := S.c6 3 rfl
    have hz : w.heap.size + 1 + 1 + 1 < w4.heap.size := S.lt 0 rfl
    replace S := Lib.hid S
    clear hL3
    go_wp2_with fail
    refine (hC1.out _ (Rw.of (S.out.r 11 rfl) (S.out.r 10 rfl) k1.out) (Rw.of (S.out.r 9 rfl) (S.out.r 8 rfl) k2.out) (Rw.of (S.out.r 3 rfl) (S.out.r 2 rfl) k5.out)).mono ?_
    rintro e w5 ⟨rfl, bb⟩
    have T := (S.out.call bb)
    clear bb S c_y0 c_y1 c_y2 c_x0 c_x1 c_x2 c_b0 c_b1 c_b2 c_b3 c_b4 c_b5 c_a0 c_a1 c_a2 c_a3 c_a4 c_a5 hz
    have S := T
    clear T
    obtain ⟨c_y0, c_y1, c_y2⟩ := S.c3 0 rfl
    obtain ⟨c_x0, c_x1, c_x2⟩ := S.c3 1 rfl
    obtain ⟨c_b0, c_b1, c_b2, c_b3, c_b4, c_b5⟩ := S.c6 2 rfl
    obtain ⟨c_a0, c_a1, c_a2, c_a3, c_a4, c_a5⟩ := S.c6 3 rfl
    have hz : w.heap.size + 1 + 1 + 1 < w5.heap.size := S.lt 0 rfl
    replace S := Lib.hid S
    clear hC1
    go_wp2_with fail
    refine (hC2.out _ (Rw.of (S.out.r 7 rfl) (S.out.r 6 rfl) k3.out) (Rw.of (S.out.r 5 rfl) (S.out.r 4 rfl) k4.out) (Rw.of (S.out.r 1 rfl) (S.out.r 0 rfl) k6.out)).mono ?_
    rintro e w6 ⟨rfl, bb⟩
    have T := (S.out.call bb)
    clear bb S c_y0 c_y1 c_y2 c_x0 c_x1 c_x2 c_b0 c_b1 c_b2 c_b3 c_b4 c_b5 c_a0 c_a1 c_a2 c_a3 c_a4 c_a5 hz
    have S := T
    clear T
    obtain ⟨c_y0, c_y1, c_y2⟩ := S.c3 0 rfl
    obtain ⟨c_x0, c_x1, c_x2⟩ := S.c3 1 rfl
    obtain ⟨c_b0, c_b1, c_b2, c_b3, c_b4, c_b5⟩ := S.c6 2 rfl
    obtain ⟨c_a0, c_a1, c_a2, c_a3, c_a4, c_a5⟩ := S.c6 3 rfl
    have hz : w.heap.size + 1 + 1 + 1 < w6.heap.size := S.lt 0 rfl
    replace S := Lib.hid S
    clear hC2
    go_wp2_with fail
    refine (hDi.out _ (Rw.of (S.out.r 11 rfl) (S.out.r 10 rfl) k1.out) (Rw.of (S.out.r 9 rfl) (S.out.r 8 rfl) k2.out) (Rw.of (S.out.r 7 rfl) (S.out.r 6 rfl) k3.out) (Rw.of (S.out.r 5 rfl) (S.out.r 4 rfl) k4.out)).mono ?_
    rintro e w7 ⟨A31, n31, c31, D31, m31, d31, A32, n32, c32, D32, m32, d32, rfl, Q31, Q32, bb⟩
    have T := (((((S.out.call bb).read Q31.n).read Q31.d).read Q32.n).read Q32.d)
    clear bb S c_y0 c_y1 c_y2 c_x0 c_x1 c_x2 c_b0 c_b1 c_b2 c_b3 c_b4 c_b5 c_a0 c_a1 c_a2 c_a3 c_a4 c_a5 hz
    have S := T
    clear T
    obtain ⟨c_y0, c_y1, c_y2⟩ := S.c3 0 rfl
    obtain ⟨c_x0, c_x1, c_x2⟩ := S.c3 1 rfl
    obtain ⟨c_b0, c_b1, c_b2, c_b3, c_b4, c_b5⟩ := S.c6 2 rfl
    obtain ⟨c_a0, c_a1, c_a2, c_a3, c_a4, c_a5⟩ := S.c6 3 rfl
    have hz : w.heap.size + 1 + 1 + 1 < w7.heap.size := S.lt 0 rfl
    replace S := Lib.hid S
    clear Q31 Q32 hDi
    go_upto_region 4 with fail
    clear c_y0 c_y1 c_y2 c_x0 c_x1 c_x2 c_b0 c_b1 c_b2 c_b3 c_b4 c_b5 c_a0 c_a1 c_a2 c_a3 c_a4 c_a5 hz
    have S := (S.out.allocAt (w7.heap.size) #[.bool (ng lo0.num), .slice A31 n31 c31, .slice D31 m31 d31, .bool (ng hi0.num), .slice A32 n32 c32, .slice D32 m32 d32] 28 (noL6 _ _ _ _ _ _ _ _ _ _ _ _ _ _) (by simp))
    generalize hW8 : (World.alloc w7 (.cells #[.bool (ng lo0.num), .slice A31 n31 c31, .slice D31 m31 d31, .bool (ng hi0.num), .slice A32 n32 c32, .slice D32 m32 d32] 28)) = w8 at S ⊢
    clear hW8
    replace S := Lib.hid S
    refine RW.begin (Z := []) (S := (fun W => Cb W (w7.heap.size) #[.bool (ng lo0.num), .slice A31 n31 c31, .slice D31 m31 d31, .bool (ng hi0.num), .slice A32 n32 c32, .slice D32 m32 d32] 28 ∧ Cb W (w.heap.size + 1 + 1) #[.bool b5, .slice A5 n5 c5, .slice D5 m5 d5] 26 ∧ Cb W (w.heap.size + 1 + 1 + 1) #[.bool b6, .slice A6 n6 c6, .slice D6 m6 d6] 26)) (by kernel_rfl) ?_ S.out ?_
    · exact ⟨by kernel_rfl, zis_nil, by decide, by decide, nol_nil, (fun _ _ h => ⟨h.kb 0 rfl, h.kb 2 rfl, h.kb 1 rfl⟩)⟩
    intro hzk
    clear S
    refine RW.t (i := 0) (v := .int .i64 0) (some 48) at0 (hy := fun _ _ => by kernel_rfl) (h := ?_)
    refine RW.t (i := 1) (v := .bool true) (some 49) at1 (hy := fun _ _ => by go_simp) (h := ?_)
    refine RW.t (i := 2) (v := .bool true) (some 50) at2 (hy := fun _ _ => by kernel_rfl) (h := ?_)
    refine RW.t (i := 3) (v := .agg #[.bool b6, .slice A6 n6 c6, .slice D6 m6 d6]) (some 51) at3 (hy := fun W hS => by (have k0 := Cb.cell (i := 0) hS.2.2 rfl; have k1 := Cb.cell (i := 1) hS.2.2 rfl; have k2 := Cb.cell (i := 2) hS.2.2 rfl; clear hS; go_simp)) (h := ?_)
    refine RW.c (i := 4) (args := #[.agg #[.bool b6, .slice A6 n6 c6, .slice D6 m6 d6]]) (some 52) hzk.out at4 (hx := fun _ => by kernel_rfl) (h := fun _ S => (hSy.out _ (Rw.of (S.r 5 rfl) (S.r 4 rfl) k6.out)).mono ?_)
    rintro e w9 ⟨rfl, bb⟩
    refine ⟨bb, _, [], rfl, rd_nil, ?_⟩
    clear bb S
    refine RW.t (i := 5) (v := .bool false) (some 53) at5 (hy := fun _ _ => by go_simp) (h := ?_)
    refine RW.t (i := 6) (v := .bool false) (some 54) at6 (hy := fun _ _ => by kernel_rfl) (h := ?_)
    refine RW.t (i := 7) (v := .agg #[.bool (ng lo0.num), .slice A31 n31 c31, .slice D31 m31 d31, .bool (ng hi0.num), .slice A32 n32 c32, .slice D32 m32 d32]) (some 55) at7 (hy := fun W hS => by (obtain ⟨k0, k1, k2, k3, k4, k5⟩ := Cb.c6 hS.1; clear hS; go_simp)) (h := ?_)
    refine RW.t (i := 8) (v := .agg #[.bool b5, .slice A5 n5 c5, .slice D5 m5 d5]) (some 56) at8 (hy := fun W hS => by (have k0 := Cb.cell (i := 0) hS.2.1 rfl; have k1 := Cb.cell (i := 1) hS.2.1 rfl; have k2 := Cb.cell (i := 2) hS.2.1 rfl; clear hS; go_simp)) (h := ?_)
    refine RW.t (i := 9) (v := .agg #[.bool b6, .slice A6 n6 c6, .slice D6 m6 d6]) (some 57) at9 (hy := fun W hS => by (have k0 := Cb.cell (i := 0) hS.2.2 rfl; have k1 := Cb.cell (i := 1) hS.2.2 rfl; have k2 := Cb.cell (i := 2) hS.2.2 rfl; clear hS; go_simp)) (h := ?_)
    refine RW.c (i := 10) (args := #[.agg #[.bool b5, .slice A5 n5 c5, .slice D5 m5 d5], .agg #[.bool b6, .slice A6 n6 c6, .slice D6 m6 d6]]) (some 58) hzk.out at10 (hx := fun _ => by kernel_rfl) (h := fun _ S => (hRd.out _ (Rw.of (S.r 7 rfl) (S.r 6 rfl) k5.out) (Rw.of (S.r 5 rfl) (S.r 4 rfl) k6.out)).mono ?_)
    rintro e w10 ⟨A33, n33, c33, D33, m33, d33, rfl, Q33, bb⟩
    refine ⟨bb, _, [(D33, m33, d33, dn v0), (A33, n33, c33, limbs v0.num.natAbs)], rfl, (rd_cons Q33.d (rd_cons Q33.n rd_nil)), ?_⟩
    clear bb S Q33
    refine RW.c (i := 11) (args := #[.agg #[.bool (ng lo0.num), .slice A31 n31 c31, .slice D31 m31 d31, .bool (ng hi0.num), .slice A32 n32 c32, .slice D32 m32 d32], .agg #[.bool (ng v0.num), .slice A33 n33 c33, .slice D33 m33 d33]]) (some 59) hzk.out at11 (hx := fun _ => by kernel_rfl) (h := fun _ S => (hT0.out _ _ _ _ _ _ _ _ _ _ _ _ _ _ _ _ _ _ _ ⟨S.r 5 rfl, S.r 4 rfl⟩ ⟨S.r 3 rfl, S.r 2 rfl⟩ ⟨S.r 1 rfl, S.r 0 rfl⟩).mono ?_)
    rintro e w11 ⟨rfl, bb⟩
    refine ⟨bb, _, [], rfl, rd_nil, ?_⟩
    clear bb S
    refine RW.t (i := 12) (v := .bool false) (some 60) at12 (hy := fun _ _ => by kernel_rfl) (h := ?_)
    refine RW.t (i := 13) (v := .bool false) (some 61) at13 (hy := fun _ _ => by kernel_rfl) (h := ?_)
    refine RW.t (i := 14) (v := .bool false) (some 62) at14 (hy := fun _ _ => by kernel_rfl) (h := ?_)
    refine RW.tail hzk.out (by kernel_rfl) ?_
    intro gs w12 hgs hS S
    obtain rfl := len0 hgs
    clear hS hgs hzk
    simp only [mark, fill, Act.put, List.setIfInBounds_toArray, List.set_cons_zero, List.set_cons_succ]
    replace S := Lib.hid S
    refine Wk.done (by kernel_rfl) ?_
    go_simp
    replace S := S.out
    have S : St w _ [(w7.heap.size, #[.bool (ng lo0.num), .slice A31 n31 c31, .slice D31 m31 d31, .bool (ng hi0.num), .slice A32 n32 c32, .slice D32 m32 d32], 28), (w.heap.size + 1 + 1 + 1, #[.bool b6, .slice A6 n6 c6, .slice D6 m6 d6], 26), (w.heap.size + 1 + 1, #[.bool b5, .slice A5 n5 c5, .slice D5 m5 d5], 26), (w.heap.size + 1, #[.bool b3, .slice A3 n3 c3, .slice D3 m3 d3, .bool b4, .slice A4 n4 c4, .slice D4 m4 d4], 28), (w.heap.size, #[.bool b1, .slice A1 n1 c1, .slice D1 m1 d1, .bool b2, .slice A2 n2 c2, .slice D2 m2 d2], 28)] [(D33, m33, d33, dn v0), (A33, n33, c33, limbs v0.num.natAbs), (D32, m32, d32, dn hi0), (A32, n32, c32, limbs hi0.num.natAbs), (D31, m31, d31, dn lo0), (A31, n31, c31, limbs lo0.num.natAbs), (D6, m6, d6, y6), (A6, n6, c6, x6), (D5, m5, d5, y5), (A5, n5, c5, x5), (D4, m4, d4, y4), (A4, n4, c4, x4), (D3, m3, d3, y3), (A3, n3, c3, x3), (D2, m2, d2, y2), (A2, n2, c2, x2), (D1, m1, d1, y1), (A1, n1, c1, x1)] := S
    replace S := Lib.hid S
    replace S := S.out
    obtain ⟨c_q0, c_q1, c_q2, c_q3, c_q4, c_q5⟩ := S.c6 0 rfl
    obtain ⟨c_y0, c_y1, c_y2⟩ := S.c3 1 rfl
    obtain ⟨c_x0, c_x1, c_x2⟩ := S.c3 2 rfl
    obtain ⟨c_b0, c_b1, c_b2, c_b3, c_b4, c_b5⟩ := S.c6 3 rfl
    obtain ⟨c_a0, c_a1, c_a2, c_a3, c_a4, c_a5⟩ := S.c6 4 rfl
    have hz : w7.heap.size < w12.heap.size := S.lt 0 rfl
    replace S := Lib.hid S
    clear hsy hSy hRd hT0
    go_upto_region 6 with fail
    clear c_q0 c_q1 c_q2 c_q3 c_q4 c_q5 c_y0 c_y1 c_y2 c_x0 c_x1 c_x2 c_b0 c_b1 c_b2 c_b3 c_b4 c_b5 c_a0 c_a1 c_a2 c_a3 c_a4 c_a5 hz
    refine RW.begin (Z := []) (S := (fun W => Cb W (w.heap.size) #[.bool b1, .slice A1 n1 c1, .slice D1 m1 d1, .bool b2, .slice A2 n2 c2, .slice D2 m2 d2] 28 ∧ Cb W (w.heap.size + 1) #[.bool b3, .slice A3 n3 c3, .slice D3 m3 d3, .bool b4, .slice A4 n4 c4, .slice D4 m4 d4] 28 ∧ Cb W (w.heap.size + 1 + 1) #[.bool b5, .slice A5 n5 c5, .slice D5 m5 d5] 26 ∧ Cb W (w.heap.size + 1 + 1 + 1) #[.bool b6, .slice A6 n6 c6, .slice D6 m6 d6] 26)) (by kernel_rfl) ?_ S.out ?_
    · exact ⟨by kernel_rfl, zis_nil, by decide, by decide, nol_nil, (fun _ _ h => ⟨h.kb 4 rfl, h.kb 3 rfl, h.kb 2 rfl, h.kb 1 rfl⟩)⟩
    intro hzk
    clear S
    refine RW.c (i := 0) (args := #[]) (some 63) hzk.out at0 (hx := fun _ => by kernel_rfl) (h := fun _ S => (hA.out _).mono ?_)
    rintro e w13 ⟨rfl, bb⟩
    refine ⟨bb, _, [], rfl, rd_nil, ?_⟩
    clear bb S
    refine RW.t (i := 1) (v := .bool true) (some 64) at1 (hy := fun _ _ => by kernel_rfl) (h := ?_)
    refine RW.t (i := 2) (v := .agg #[.bool b1, .slice A1 n1 c1, .slice D1 m1 d1, .bool b2, .slice A2 n2 c2, .slice D2 m2 d2]) (some 65) at2 (hy := fun W hS => by (obtain ⟨k0, k1, k2, k3, k4, k5⟩ := Cb.c6 hS.1; clear hS; go_simp)) (h := ?_)
    refine RW.t (i := 3) (v := .agg #[.bool b3, .slice A3 n3 c3, .slice D3 m3 d3, .bool b4, .slice A4 n4 c4, .slice D4 m4 d4]) (some 66) at3 (hy := fun W hS => by (obtain ⟨k0, k1, k2, k3, k4, k5⟩ := Cb.c6 hS.2.1; clear hS; go_simp)) (h := ?_)
    refine RW.t (i := 5) (v := .agg #[.bool b5, .slice A5 n5 c5, .slice D5 m5 d5]) (some 68) at5 (hy := fun W hS => by (have k0 := Cb.cell (i := 0) hS.2.2.1 rfl; have k1 := Cb.cell (i := 1) hS.2.2.1 rfl; have k2 := Cb.cell (i := 2) hS.2.2.1 rfl; clear hS; go_simp)) (h := ?_)
    refine RW.t (i := 6) (v := .agg #[.bool b6, .slice A6 n6 c6, .slice D6 m6 d6]) (some 69) at6 (hy := fun W hS => by (have k0 := Cb.cell (i := 0) hS.2.2.2 rfl; have k1 := Cb.cell (i := 1) hS.2.2.2 rfl; have k2 := Cb.cell (i := 2) hS.2.2.2 rfl; clear hS; go_simp)) (h := ?_)
    refine RW.c (i := 4) (args := #[.agg #[.bool b1, .slice A1 n1 c1, .slice D1 m1 d1, .bool b2, .slice A2 n2 c2, .slice D2 m2 d2], .agg #[.bool b3, .slice A3 n3 c3, .slice D3 m3 d3, .bool b4, .slice A4 n4 c4, .slice D4 m4 d4]]) (some 67) hzk.out at4 (hx := fun _ => by kernel_rfl) (h := fun _ S => (hAd.out _ (Rw.of (S.r 17 rfl) (S.r 16 rfl) k1.out) (Rw.of (S.r 15 rfl) (S.r 14 rfl) k2.out) (Rw.of (S.r 13 rfl) (S.r 12 rfl) k3.out) (Rw.of (S.r 11 rfl) (S.r 10 rfl) k4.out)).mono ?_)
    rintro e w14 ⟨A40, n40, c40, D40, m40, d40, A41, n41, c41, D41, m41, d41, rfl, Q40, Q41, bb⟩
    refine ⟨bb, _, [(D41, m41, d41, dn hi1), (A41, n41, c41, limbs hi1.num.natAbs), (D40, m40, d40, dn lo1), (A40, n40, c40, limbs lo1.num.natAbs)], rfl, (rd_cons Q41.d (rd_cons Q41.n (rd_cons Q40.d (rd_cons Q40.n rd_nil)))), ?_⟩
    clear bb S Q40 Q41
    refine RW.c (i := 7) (args := #[.agg #[.bool b5, .slice A5 n5 c5, .slice D5 m5 d5], .agg #[.bool b6, .slice A6 n6 c6, .slice D6 m6 d6]]) (some 70) hzk.out at7 (hx := fun _ => by kernel_rfl) (h := fun _ S => (hRa.out _ (Rw.of (S.r 13 rfl) (S.r 12 rfl) k5.out) (Rw.of (S.r 11 rfl) (S.r 10 rfl) k6.out)).mono ?_)
    rintro e w15 ⟨A42, n42, c42, D42, m42, d42, rfl, Q42, bb⟩
    refine ⟨bb, _, [(D42, m42, d42, dn va), (A42, n42, c42, limbs va.num.natAbs)], rfl, (rd_cons Q42.d (rd_cons Q42.n rd_nil)), ?_⟩
    clear bb S Q42
    refine RW.c (i := 8) (args := #[.agg #[.bool (ng lo1.num), .slice A40 n40 c40, .slice D40 m40 d40, .bool (ng hi1.num), .slice A41 n41 c41, .slice D41 m41 d41], .agg #[.bool (ng va.num), .slice A42 n42 c42, .slice D42 m42 d42]]) (some 71) hzk.out at8 (hx := fun _ => by kernel_rfl) (h := fun _ S => (hT1.out _ _ _ _ _ _ _ _ _ _ _ _ _ _ _ _ _ _ _ ⟨S.r 5 rfl, S.r 4 rfl⟩ ⟨S.r 3 rfl, S.r 2 rfl⟩ ⟨S.r 1 rfl, S.r 0 rfl⟩).mono ?_)
    rintro e w16 ⟨rfl, bb⟩
    refine ⟨bb, _, [], rfl, rd_nil, ?_⟩
    clear bb S
    refine RW.t (i := 9) (v := .bool true) (some 72) at9 (hy := fun _ _ => by kernel_rfl) (h := ?_)
    refine RW.t (i := 10) (v := .bool true) (some 73) at10 (hy := fun _ _ => by kernel_rfl) (h := ?_)
    refine RW.t (i := 11) (v := .agg #[.bool b1, .slice A1 n1 c1, .slice D1 m1 d1, .bool b2, .slice A2 n2 c2, .slice D2 m2 d2]) (some 74) at11 (hy := fun W hS => by (obtain ⟨k0, k1, k2, k3, k4, k5⟩ := Cb.c6 hS.1; clear hS; go_simp)) (h := ?_)
    refine RW.t (i := 12) (v := .agg #[.bool b3, .slice A3 n3 c3, .slice D3 m3 d3, .bool b4, .slice A4 n4 c4, .slice D4 m4 d4]) (some 75) at12 (hy := fun W hS => by (obtain ⟨k0, k1, k2, k3, k4, k5⟩ := Cb.c6 hS.2.1; clear hS; go_simp)) (h := ?_)
    refine RW.t (i := 14) (v := .agg #[.bool b5, .slice A5 n5 c5, .slice D5 m5 d5]) (some 77) at14 (hy := fun W hS => by (have k0 := Cb.cell (i := 0) hS.2.2.1 rfl; have k1 := Cb.cell (i := 1) hS.2.2.1 rfl; have k2 := Cb.cell (i := 2) hS.2.2.1 rfl; clear hS; go_simp)) (h := ?_)
    refine RW.t (i := 15) (v := .agg #[.bool b6, .slice A6 n6 c6, .slice D6 m6 d6]) (some 78) at15 (hy := fun W hS => by (have k0 := Cb.cell (i := 0) hS.2.2.2 rfl; have k1 := Cb.cell (i := 1) hS.2.2.2 rfl; have k2 := Cb.cell (i := 2) hS.2.2.2 rfl; clear hS; go_simp)) (h := ?_)
    refine RW.c (i := 13) (args := #[.agg #[.bool b1, .slice A1 n1 c1, .slice D1 m1 d1, .bool b2, .slice A2 n2 c2, .slice D2 m2 d2], .agg #[.bool b3, .slice A3 n3 c3, .slice D3 m3 d3, .bool b4, .slice A4 n4 c4, .slice D4 m4 d4]]) (some 76) hzk.out at13 (hx := fun _ => by kernel_rfl) (h := fun _ S => (hSu.out _ (Rw.of (S.r 23 rfl) (S.r 22 rfl) k1.out) (Rw.of (S.r 21 rfl) (S.r 20 rfl) k2.out) (Rw.of (S.r 19 rfl) (S.r 18 rfl) k3.out) (Rw.of (S.r 17 rfl) (S.r 16 rfl) k4.out)).mono ?_)
    rintro e w17 ⟨A43, n43, c43, D43, m43, d43, A44, n44, c44, D44, m44, d44, rfl, Q43, Q44, bb⟩
    refine ⟨bb, _, [(D44, m44, d44, dn hi2), (A44, n44, c44, limbs hi2.num.natAbs), (D43, m43, d43, dn lo2), (A43, n43, c43, limbs lo2.num.natAbs)], rfl, (rd_cons Q44.d (rd_cons Q44.n (rd_cons Q43.d (rd_cons Q43.n rd_nil)))), ?_⟩
    clear bb S Q43 Q44
    refine RW.c (i := 16) (args := #[.agg #[.bool b5, .slice A5 n5 c5, .slice D5 m5 d5], .agg #[.bool b6, .slice A6 n6 c6, .slice D6 m6 d6]]) (some 79) hzk.out at16 (hx := fun _ => by kernel_rfl) (h := fun _ S => (hRs.out _ (Rw.of (S.r 19 rfl) (S.r 18 rfl) k5.out) (Rw.of (S.r 17 rfl) (S.r 16 rfl) k6.out)).mono ?_)
    rintro e w18 ⟨A45, n45, c45, D45, m45, d45, rfl, Q45, bb⟩
    refine ⟨bb, _, [(D45, m45, d45, dn vs), (A45, n45, c45, limbs vs.num.natAbs)], rfl, (rd_cons Q45.d (rd_cons Q45.n rd_nil)), ?_⟩
    clear bb S Q45
    refine RW.c (i := 17) (args := #[.agg #[.bool (ng lo2.num), .slice A43 n43 c43, .slice D43 m43 d43, .bool (ng hi2.num), .slice A44 n44 c44, .slice D44 m44 d44], .agg #[.bool (ng vs.num), .slice A45 n45 c45, .slice D45 m45 d45]]) (some 80) hzk.out at17 (hx := fun _ => by kernel_rfl) (h := fun _ S => (hT2.out _ _ _ _ _ _ _ _ _ _ _ _ _ _ _ _ _ _ _ ⟨S.r 5 rfl, S.r 4 rfl⟩ ⟨S.r 3 rfl, S.r 2 rfl⟩ ⟨S.r 1 rfl, S.r 0 rfl⟩).mono ?_)
    rintro e w19 ⟨rfl, bb⟩
    refine ⟨bb, _, [], rfl, rd_nil, ?_⟩
    clear bb S
    refine RW.t (i := 18) (v := .bool true) (some 81) at18 (hy := fun _ _ => by kernel_rfl) (h := ?_)
    refine RW.t (i := 19) (v := .bool true) (some 82) at19 (hy := fun _ _ => by kernel_rfl) (h := ?_)
    refine RW.t (i := 20) (v := .agg #[.bool b1, .slice A1 n1 c1, .slice D1 m1 d1, .bool b2, .slice A2 n2 c2, .slice D2 m2 d2]) (some 83) at20 (hy := fun W hS => by (obtain ⟨k0, k1, k2, k3, k4, k5⟩ := Cb.c6 hS.1; clear hS; go_simp)) (h := ?_)
    refine RW.t (i := 21) (v := .agg #[.bool b3, .slice A3 n3 c3, .slice D3 m3 d3, .bool b4, .slice A4 n4 c4, .slice D4 m4 d4]) (some 84) at21 (hy := fun W hS => by (obtain ⟨k0, k1, k2, k3, k4, k5⟩ := Cb.c6 hS.2.1; clear hS; go_simp)) (h := ?_)
    refine RW.t (i := 23) (v := .agg #[.bool b5, .slice A5 n5 c5, .slice D5 m5 d5]) (some 86) at23 (hy := fun W hS => by (have k0 := Cb.cell (i := 0) hS.2.2.1 rfl; have k1 := Cb.cell (i := 1) hS.2.2.1 rfl; have k2 := Cb.cell (i := 2) hS.2.2.1 rfl; clear hS; go_simp)) (h := ?_)
    refine RW.t (i := 24) (v := .agg #[.bool b6, .slice A6 n6 c6, .slice D6 m6 d6]) (some 87) at24 (hy := fun W hS => by (have k0 := Cb.cell (i := 0) hS.2.2.2 rfl; have k1 := Cb.cell (i := 1) hS.2.2.2 rfl; have k2 := Cb.cell (i := 2) hS.2.2.2 rfl; clear hS; go_simp)) (h := ?_)
    refine RW.c (i := 22) (args := #[.agg #[.bool b1, .slice A1 n1 c1, .slice D1 m1 d1, .bool b2, .slice A2 n2 c2, .slice D2 m2 d2], .agg #[.bool b3, .slice A3 n3 c3, .slice D3 m3 d3, .bool b4, .slice A4 n4 c4, .slice D4 m4 d4]]) (some 85) hzk.out at22 (hx := fun _ => by kernel_rfl) (h := fun _ S => (hMu.out _ (Rw.of (S.r 29 rfl) (S.r 28 rfl) k1.out) (Rw.of (S.r 27 rfl) (S.r 26 rfl) k2.out) (Rw.of (S.r 25 rfl) (S.r 24 rfl) k3.out) (Rw.of (S.r 23 rfl) (S.r 22 rfl) k4.out)).mono ?_)
    rintro e w20 ⟨A46, n46, c46, D46, m46, d46, A47, n47, c47, D47, m47, d47, rfl, Q46, Q47, bb⟩
    refine ⟨bb, _, [(D47, m47, d47, dn hi3), (A47, n47, c47, limbs hi3.num.natAbs), (D46, m46, d46, dn lo3), (A46, n46, c46, limbs lo3.num.natAbs)], rfl, (rd_cons Q47.d (rd_cons Q47.n (rd_cons Q46.d (rd_cons Q46.n rd_nil)))), ?_⟩
    clear bb S Q46 Q47
    refine RW.c (i := 25) (args := #[.agg #[.bool b5, .slice A5 n5 c5, .slice D5 m5 d5], .agg #[.bool b6, .slice A6 n6 c6, .slice D6 m6 d6]]) (some 88) hzk.out at25 (hx := fun _ => by kernel_rfl) (h := fun _ S => (hRm.out _ (Rw.of (S.r 25 rfl) (S.r 24 rfl) k5.out) (Rw.of (S.r 23 rfl) (S.r 22 rfl) k6.out)).mono ?_)
    rintro e w21 ⟨A48, n48, c48, D48, m48, d48, rfl, Q48, bb⟩
    refine ⟨bb, _, [(D48, m48, d48, dn vm), (A48, n48, c48, limbs vm.num.natAbs)], rfl, (rd_cons Q48.d (rd_cons Q48.n rd_nil)), ?_⟩
    clear bb S Q48
    refine RW.c (i := 26) (args := #[.agg #[.bool (ng lo3.num), .slice A46 n46 c46, .slice D46 m46 d46, .bool (ng hi3.num), .slice A47 n47 c47, .slice D47 m47 d47], .agg #[.bool (ng vm.num), .slice A48 n48 c48, .slice D48 m48 d48]]) (some 89) hzk.out at26 (hx := fun _ => by kernel_rfl) (h := fun _ S => (hT3.out _ _ _ _ _ _ _ _ _ _ _ _ _ _ _ _ _ _ _ ⟨S.r 5 rfl, S.r 4 rfl⟩ ⟨S.r 3 rfl, S.r 2 rfl⟩ ⟨S.r 1 rfl, S.r 0 rfl⟩).mono ?_)
    rintro e w22 ⟨rfl, bb⟩
    refine ⟨bb, _, [], rfl, rd_nil, ?_⟩
    clear bb S
    refine RW.t (i := 27) (v := .bool true) (some 90) at27 (hy := fun _ _ => by kernel_rfl) (h := ?_)
    refine RW.t (i := 28) (v := .bool true) (some 91) at28 (hy := fun _ _ => by kernel_rfl) (h := ?_)
    refine RW.t (i := 29) (v := .agg #[.bool b1, .slice A1 n1 c1, .slice D1 m1 d1, .bool b2, .slice A2 n2 c2, .slice D2 m2 d2]) (some 92) at29 (hy := fun W hS => by (obtain ⟨k0, k1, k2, k3, k4, k5⟩ := Cb.c6 hS.1; clear hS; go_simp)) (h := ?_)
    refine RW.t (i := 31) (v := .agg #[.bool b5, .slice A5 n5 c5, .slice D5 m5 d5]) (some 94) at31 (hy := fun W hS => by (have k0 := Cb.cell (i := 0) hS.2.2.1 rfl; have k1 := Cb.cell (i := 1) hS.2.2.1 rfl; have k2 := Cb.cell (i := 2) hS.2.2.1 rfl; clear hS; go_simp)) (h := ?_)
    refine RW.t (i := 32) (v := .agg #[.bool b5, .slice A5 n5 c5, .slice D5 m5 d5]) (some 95) at32 (hy := fun W hS => by (have k0 := Cb.cell (i := 0) hS.2.2.1 rfl; have k1 := Cb.cell (i := 1) hS.2.2.1 rfl; have k2 := Cb.cell (i := 2) hS.2.2.1 rfl; clear hS; go_simp)) (h := ?_)
    refine RW.c (i := 30) (args := #[.agg #[.bool b1, .slice A1 n1 c1, .slice D1 m1 d1, .bool b2, .slice A2 n2 c2, .slice D2 m2 d2]]) (some 93) hzk.out at30 (hx := fun _ => by kernel_rfl) (h := fun _ S => (hSq.out _ (Rw.of (S.r 35 rfl) (S.r 34 rfl) k1.out) (Rw.of (S.r 33 rfl) (S.r 32 rfl) k2.out)).mono ?_)
    rintro e w23 ⟨A49, n49, c49, D49, m49, d49, A50, n50, c50, D50, m50, d50, rfl, Q49, Q50, bb⟩
    refine ⟨bb, _, [(D50, m50, d50, dn hi4), (A50, n50, c50, limbs hi4.num.natAbs), (D49, m49, d49, dn lo4), (A49, n49, c49, limbs lo4.num.natAbs)], rfl, (rd_cons Q50.d (rd_cons Q50.n (rd_cons Q49.d (rd_cons Q49.n rd_nil)))), ?_⟩
    clear bb S Q49 Q50
    refine RW.c (i := 33) (args := #[.agg #[.bool b5, .slice A5 n5 c5, .slice D5 m5 d5], .agg #[.bool b5, .slice A5 n5 c5, .slice D5 m5 d5]]) (some 96) hzk.out at33 (hx := fun _ => by kernel_rfl) (h := fun _ S => (hRq.out _ (Rw.of (S.r 31 rfl) (S.r 30 rfl) k5.out) (Rw.of (S.r 31 rfl) (S.r 30 rfl) k5.out)).mono ?_)
    rintro e w24 ⟨A51, n51, c51, D51, m51, d51, rfl, Q51, bb⟩
    refine ⟨bb, _, [(D51, m51, d51, dn vq), (A51, n51, c51, limbs vq.num.natAbs)], rfl, (rd_cons Q51.d (rd_cons Q51.n rd_nil)), ?_⟩
    clear bb S Q51
    refine RW.c (i := 34) (args := #[.agg #[.bool (ng lo4.num), .slice A49 n49 c49, .slice D49 m49 d49, .bool (ng hi4.num), .slice A50 n50 c50, .slice D50 m50 d50], .agg #[.bool (ng vq.num), .slice A51 n51 c51, .slice D51 m51 d51]]) (some 97) hzk.out at34 (hx := fun _ => by kernel_rfl) (h := fun _ S => (hT4.out _ _ _ _ _ _ _ _ _ _ _ _ _ _ _ _ _ _ _ ⟨S.r 5 rfl, S.r 4 rfl⟩ ⟨S.r 3 rfl, S.r 2 rfl⟩ ⟨S.r 1 rfl, S.r 0 rfl⟩).mono ?_)
    rintro e w25 ⟨rfl, bb⟩
    refine ⟨bb, _, [], rfl, rd_nil, ?_⟩
    clear bb S
    refine RW.t (i := 35) (v := .bool true) (some 98) at35 (hy := fun _ _ => by kernel_rfl) (h := ?_)
    refine RW.tail hzk.out (by kernel_rfl) ?_
    intro gs w26 hgs hS S
    obtain rfl := len0 hgs
    clear hS hgs hzk
    simp only [mark, fill, Act.put, List.setIfInBounds_toArray, List.set_cons_zero, List.set_cons_succ]
    replace S := Lib.hid S
    refine Wk.o (i := 36) at36 (by kernel_rfl) fun K' hK => ?_
    go_simp
    have SN := S.out
    clear S
    have S := SN
    clear SN
    refine hK.out _ _ ⟨(S.cb 4 rfl), (S.cb 3 rfl), (S.cb 2 rfl), (S.cb 1 rfl)⟩ ?_
    clear hK K'
    replace S := Lib.hid S
    try simp only [Act.put, List.setIfInBounds_toArray, List.set_cons_zero, List.set_cons_succ]
    refine Wk.done (by kernel_rfl) ?_
    go_simp
    replace S := S.out
    have S : St w _ [(w7.heap.size, #[.bool (ng lo0.num), .slice A31 n31 c31, .slice D31 m31 d31, .bool (ng hi0.num), .slice A32 n32 c32, .slice D32 m32 d32], 28), (w.heap.size + 1 + 1 + 1, #[.bool b6, .slice A6 n6 c6, .slice D6 m6 d6], 26), (w.heap.size + 1 + 1, #[.bool b5, .slice A5 n5 c5, .slice D5 m5 d5], 26), (w.heap.size + 1, #[.bool b3, .slice A3 n3 c3, .slice D3 m3 d3, .bool b4, .slice A4 n4 c4, .slice D4 m4 d4], 28), (w.heap.size, #[.bool b1, .slice A1 n1 c1, .slice D1 m1 d1, .bool b2, .slice A2 n2 c2, .slice D2 m2 d2], 28)] [(D51, m51, d51, dn vq), (A51, n51, c51, limbs vq.num.natAbs), (D50, m50, d50, dn hi4), (A50, n50, c50, limbs hi4.num.natAbs), (D49, m49, d49, dn lo4), (A49, n49, c49, limbs lo4.num.natAbs), (D48, m48, d48, dn vm), (A48, n48, c48, limbs vm.num.natAbs), (D47, m47, d47, dn hi3), (A47, n47, c47, limbs hi3.num.natAbs), (D46, m46, d46, dn lo3), (A46, n46, c46, limbs lo3.num.natAbs), (D45, m45, d45, dn vs), (A45, n45, c45, limbs vs.num.natAbs), (D44, m44, d44, dn hi2), (A44, n44, c44, limbs hi2.num.natAbs), (D43, m43, d43, dn lo2), (A43, n43, c43, limbs lo2.num.natAbs), (D42, m42, d42, dn va), (A42, n42, c42, limbs va.num.natAbs), (D41, m41, d41, dn hi1), (A41, n41, c41, limbs hi1.num.natAbs), (D40, m40, d40, dn lo1), (A40, n40, c40, limbs lo1.num.natAbs), (D33, m33, d33, dn v0), (A33, n33, c33, limbs v0.num.natAbs), (D32, m32, d32, dn hi0), (A32, n32, c32, limbs hi0.num.natAbs), (D31, m31, d31, dn lo0), (A31, n31, c31, limbs lo0.num.natAbs), (D6, m6, d6, y6), (A6, n6, c6, x6), (D5, m5, d5, y5), (A5, n5, c5, x5), (D4, m4, d4, y4), (A4, n4, c4, x4), (D3, m3, d3, y3), (A3, n3, c3, x3), (D2, m2, d2, y2), (A2, n2, c2, x2), (D1, m1, d1, y1), (A1, n1, c1, x1)] := S
    replace S := Lib.hid S
    replace S := S.out
    replace S := Lib.hid S
    have S := S.out
    replace S := Lib.hid S
    go_wp2
    go_ret
    exact ⟨rfl, S.out.bel⟩
end Go.Proofs.YtidhloliahfknaaGreat
