/- The law IntervalMeetsAndJoins. -/
import Derived.Test.YtidhloliahfknaaGreatVv
import Derived.Test.YtidhloliahfknaaGreatQVfz
namespace Go.Proofs.YtidhloliahfknaaGreat
open Go.RowKit RQ
theorem mj_facts (a b c d : Rat) : minL [a, b, c, d] ≤ a ∧ minL [a, b, c, d] ≤ c ∧ b ≤ maxL [a, b, c, d] ∧ d ≤ maxL [a, b, c, d] := ⟨minL_le (by simp), minL_le (by simp), le_maxL (by simp), le_maxL (by simp)⟩
theorem mj_in {a b c d v : Rat} : (maxL [a, c] ≤ v ∧ v ≤ minL [b, d]) ↔ ((a ≤ v ∧ v ≤ b) ∧ (c ≤ v ∧ v ≤ d)) := by
  have m1 := le_maxL (l := [a, c]) (y := a) (by simp)
  have m2 := le_maxL (l := [a, c]) (y := c) (by simp)
  have m3 := minL_le (l := [b, d]) (y := b) (by simp)
  have m4 := minL_le (l := [b, d]) (y := d) (by simp)
  constructor
  · rintro ⟨h1, h2⟩
    exact ⟨⟨Rat.le_trans m1 h1, Rat.le_trans h2 m3⟩, Rat.le_trans m2 h1, Rat.le_trans h2 m4⟩
  · rintro ⟨⟨h1, h2⟩, h3, h4⟩
    refine ⟨maxL_le (by simp) fun y hy => ?_, le_minL (by simp) fun y hy => ?_⟩
    · simp at hy; rcases hy with rfl | rfl <;> assumption
    · simp at hy; rcases hy with rfl | rfl <;> assumption
theorem mj_bool {a b c d v lo hi : Rat} (h : (lo ≤ v ∧ v ≤ hi) ↔ ((a ≤ v ∧ v ≤ b) ∧ (c ≤ v ∧ v ≤ d))) : (decide (lo ≤ v) && decide (v ≤ hi)) = ((decide (a ≤ v) && decide (v ≤ b)) && (decide (c ≤ v) && decide (v ≤ d))) := by
  rw [Bool.eq_iff_iff]; simp only [Bool.and_eq_true, decide_eq_true_iff]; exact h
theorem withR (b1 : Bool) (A1 : Option Addr) (n1 c1 : Nat) (x1 : List Nat) (D1 : Option Addr) (m1 d1 : Nat) (y1 : List Nat) (q1 : Rat) (b2 : Bool) (A2 : Option Addr) (n2 c2 : Nat) (x2 : List Nat) (D2 : Option Addr) (m2 d2 : Nat) (y2 : List Nat) (q2 : Rat) (b3 : Bool) (A3 : Option Addr) (n3 c3 : Nat) (x3 : List Nat) (D3 : Option Addr) (m3 d3 : Nat) (y3 : List Nat) (q3 : Rat) (b4 : Bool) (A4 : Option Addr) (n4 c4 : Nat) (x4 : List Nat) (D4 : Option Addr) (m4 d4 : Nat) (y4 : List Nat) (q4 : Rat) (h1 : klo q3 q4 ≤ klo q1 q2) (h2 : khi q1 q2 ≤ khi q3 q4) (W : World) (X1 : Rw W b1 A1 n1 c1 x1 D1 m1 d1 y1 q1) (X2 : Rw W b2 A2 n2 c2 x2 D2 m2 d2 y2 q2) (X3 : Rw W b3 A3 n3 c3 x3 D3 m3 d3 y3 q3) (X4 : Rw W b4 A4 n4 c4 x4 D4 m4 d4 y4 q4) : Calls Tryz.prog 21 #[.agg #[.bool b1, .slice A1 n1 c1, .slice D1 m1 d1, .bool b2, .slice A2 n2 c2, .slice D2 m2 d2], .agg #[.bool b3, .slice A3 n3 c3, .slice D3 m3 d3, .bool b4, .slice A4 n4 c4, .slice D4 m4 d4]] W fun e w' => e = .returned (.bool true) ∧ Below W.heap.size W w' := by
  have := within_any b1 A1 n1 c1 x1 D1 m1 d1 y1 q1 b2 A2 n2 c2 x2 D2 m2 d2 y2 q2 b3 A3 n3 c3 x3 D3 m3 d3 y3 q3 b4 A4 n4 c4 x4 D4 m4 d4 y4 q4 W X1 X2 X3 X4
  have h0 := kle q1 q2
  rwa [decide_eq_true h1, decide_eq_true h2, decide_eq_true (Rat.le_trans h1 h0), decide_eq_true (Rat.le_trans h0 h2)] at this

set_option maxRecDepth 100000 in
set_option maxHeartbeats 16000000 in
theorem law_mj (b1 : Bool) (A1 : Option Addr) (n1 c1 : Nat) (x1 : List Nat) (D1 : Option Addr) (m1 d1 : Nat) (y1 : List Nat) (b2 : Bool) (A2 : Option Addr) (n2 c2 : Nat) (x2 : List Nat) (D2 : Option Addr) (m2 d2 : Nat) (y2 : List Nat) (b3 : Bool) (A3 : Option Addr) (n3 c3 : Nat) (x3 : List Nat) (D3 : Option Addr) (m3 d3 : Nat) (y3 : List Nat) (b4 : Bool) (A4 : Option Addr) (n4 c4 : Nat) (x4 : List Nat) (D4 : Option Addr) (m4 d4 : Nat) (y4 : List Nat) (b5 : Bool) (A5 : Option Addr) (n5 c5 : Nat) (x5 : List Nat) (D5 : Option Addr) (m5 d5 : Nat) (y5 : List Nat) (w : World) (R1 : Rd w A1 n1 c1 x1) (M1 : n1 ≤ 9223372036854775807) (D1' : Rd w D1 m1 d1 y1) (N1 : m1 ≤ 9223372036854775807) (R2 : Rd w A2 n2 c2 x2) (M2 : n2 ≤ 9223372036854775807) (D2' : Rd w D2 m2 d2 y2) (N2 : m2 ≤ 9223372036854775807) (R3 : Rd w A3 n3 c3 x3) (M3 : n3 ≤ 9223372036854775807) (D3' : Rd w D3 m3 d3 y3) (N3 : m3 ≤ 9223372036854775807) (R4 : Rd w A4 n4 c4 x4) (M4 : n4 ≤ 9223372036854775807) (D4' : Rd w D4 m4 d4 y4) (N4 : m4 ≤ 9223372036854775807) (R5 : Rd w A5 n5 c5 x5) (M5 : n5 ≤ 9223372036854775807) (D5' : Rd w D5 m5 d5 y5) (N5 : m5 ≤ 9223372036854775807) : Calls Tryz.prog 9 #[.agg #[.bool b1, .slice A1 n1 c1, .slice D1 m1 d1, .bool b2, .slice A2 n2 c2, .slice D2 m2 d2], .agg #[.bool b3, .slice A3 n3 c3, .slice D3 m3 d3, .bool b4, .slice A4 n4 c4, .slice D4 m4 d4], .agg #[.bool b5, .slice A5 n5 c5, .slice D5 m5 d5]] w fun e w' => e = .returned (.bool true) ∧ Below w.heap.size w w' := by
  have hA := Lib.hid (fun W => awakeV_any W)
  have hL0 := fun W => light4_any b1 A1 n1 c1 D1 m1 d1 b2 A2 n2 c2 D2 m2 d2 W M1 N1 M2 N2
  have hL1 := fun W => light4_any b3 A3 n3 c3 D3 m3 d3 b4 A4 n4 c4 D4 m4 d4 W M3 N3 M4 N4
  have hL2 := fun W => lightR_any b5 A5 n5 c5 D5 m5 d5 W M5 N5
  cases l0 : (lightB n1 m1 && lightB n2 m2)
  · rw [l0] at hL0
    replace hL0 := Lib.hid hL0
    clear hL1
    clear hL2
    clear l0
    have S := ((((((((((((((St.new w).read R1).read D1').read R2).read D2').read R3).read D3').read R4).read D4').read R5).read D5').allocAt (w.heap.size) #[.bool b1, .slice A1 n1 c1, .slice D1 m1 d1, .bool b2, .slice A2 n2 c2, .slice D2 m2 d2] 28 (noL6 _ _ _ _ _ _ _ _ _ _ _ _ _ _) (by simp)).allocAt (w.heap.size + 1) #[.bool b3, .slice A3 n3 c3, .slice D3 m3 d3, .bool b4, .slice A4 n4 c4, .slice D4 m4 d4] 28 (noL6 _ _ _ _ _ _ _ _ _ _ _ _ _ _) (by simp)).allocAt (w.heap.size + 1 + 1) #[.bool b5, .slice A5 n5 c5, .slice D5 m5 d5] 26 (noL3 _ _ _ _ _ _ _) (by simp))
    replace S := Lib.hid S
    clear R1 M1 D1' N1 R2 M2 D2' N2 R3 M3 D3' N3 R4 M4 D4' N4 R5 M5 D5' N5
    go_enter Tryz.func9, Tryz.ntmps9
    go_wp2_with fail
    refine (hL0.out _).mono ?_
    rintro e w1 ⟨rfl, bb⟩
    have T := (S.out.call bb)
    clear bb S
    have S := T
    clear T
    obtain ⟨c_v0, c_v1, c_v2⟩ := S.c3 0 rfl
    obtain ⟨c_b0, c_b1, c_b2, c_b3, c_b4, c_b5⟩ := S.c6 1 rfl
    obtain ⟨c_a0, c_a1, c_a2, c_a3, c_a4, c_a5⟩ := S.c6 2 rfl
    have hz : w.heap.size + 1 + 1 < w1.heap.size := S.lt 0 rfl
    replace S := Lib.hid S
    clear hL0
    go_wp2_with fail
    refine (hA.out _).mono ?_
    rintro e w2 ⟨rfl, bb⟩
    have T := (S.out.call bb)
    clear bb S c_v0 c_v1 c_v2 c_b0 c_b1 c_b2 c_b3 c_b4 c_b5 c_a0 c_a1 c_a2 c_a3 c_a4 c_a5 hz
    have S := T
    clear T
    obtain ⟨c_v0, c_v1, c_v2⟩ := S.c3 0 rfl
    obtain ⟨c_b0, c_b1, c_b2, c_b3, c_b4, c_b5⟩ := S.c6 1 rfl
    obtain ⟨c_a0, c_a1, c_a2, c_a3, c_a4, c_a5⟩ := S.c6 2 rfl
    have hz : w.heap.size + 1 + 1 < w2.heap.size := S.lt 0 rfl
    replace S := Lib.hid S
    have S := S.out
    replace S := Lib.hid S
    go_wp2
    go_ret
    exact ⟨rfl, S.out.bel⟩
  rw [l0] at hL0
  cases l1 : (lightB n3 m3 && lightB n4 m4)
  · rw [l1] at hL1
    replace hL0 := Lib.hid hL0
    replace hL1 := Lib.hid hL1
    clear hL2
    clear l0 l1
    have S := ((((((((((((((St.new w).read R1).read D1').read R2).read D2').read R3).read D3').read R4).read D4').read R5).read D5').allocAt (w.heap.size) #[.bool b1, .slice A1 n1 c1, .slice D1 m1 d1, .bool b2, .slice A2 n2 c2, .slice D2 m2 d2] 28 (noL6 _ _ _ _ _ _ _ _ _ _ _ _ _ _) (by simp)).allocAt (w.heap.size + 1) #[.bool b3, .slice A3 n3 c3, .slice D3 m3 d3, .bool b4, .slice A4 n4 c4, .slice D4 m4 d4] 28 (noL6 _ _ _ _ _ _ _ _ _ _ _ _ _ _) (by simp)).allocAt (w.heap.size + 1 + 1) #[.bool b5, .slice A5 n5 c5, .slice D5 m5 d5] 26 (noL3 _ _ _ _ _ _ _) (by simp))
    replace S := Lib.hid S
    clear R1 M1 D1' N1 R2 M2 D2' N2 R3 M3 D3' N3 R4 M4 D4' N4 R5 M5 D5' N5
    go_enter Tryz.func9, Tryz.ntmps9
    go_wp2_with fail
    refine (hL0.out _).mono ?_
    rintro e w1 ⟨rfl, bb⟩
    have T := (S.out.call bb)
    clear bb S
    have S := T
    clear T
    obtain ⟨c_v0, c_v1, c_v2⟩ := S.c3 0 rfl
    obtain ⟨c_b0, c_b1, c_b2, c_b3, c_b4, c_b5⟩ := S.c6 1 rfl
    obtain ⟨c_a0, c_a1, c_a2, c_a3, c_a4, c_a5⟩ := S.c6 2 rfl
    have hz : w.heap.size + 1 + 1 < w1.heap.size := S.lt 0 rfl
    replace S := Lib.hid S
    clear hL0
    go_wp2_with fail
    refine (hL1.out _).mono ?_
    rintro e w2 ⟨rfl, bb⟩
    have T := (S.out.call bb)
    clear bb S c_v0 c_v1 c_v2 c_b0 c_b1 c_b2 c_b3 c_b4 c_b5 c_a0 c_a1 c_a2 c_a3 c_a4 c_a5 hz
    have S := T
    clear T
    obtain ⟨c_v0, c_v1, c_v2⟩ := S.c3 0 rfl
    obtain ⟨c_b0, c_b1, c_b2, c_b3, c_b4, c_b5⟩ := S.c6 1 rfl
    obtain ⟨c_a0, c_a1, c_a2, c_a3, c_a4, c_a5⟩ := S.c6 2 rfl
    have hz : w.heap.size + 1 + 1 < w2.heap.size := S.lt 0 rfl
    replace S := Lib.hid S
    clear hL1
    go_wp2_with fail
    refine (hA.out _).mono ?_
    rintro e w3 ⟨rfl, bb⟩
    have T := (S.out.call bb)
    clear bb S c_v0 c_v1 c_v2 c_b0 c_b1 c_b2 c_b3 c_b4 c_b5 c_a0 c_a1 c_a2 c_a3 c_a4 c_a5 hz
    have S := T
    clear T
    obtain ⟨c_v0, c_v1, c_v2⟩ := S.c3 0 rfl
    obtain ⟨c_b0, c_b1, c_b2, c_b3, c_b4, c_b5⟩ := S.c6 1 rfl
    obtain ⟨c_a0, c_a1, c_a2, c_a3, c_a4, c_a5⟩ := S.c6 2 rfl
    have hz : w.heap.size + 1 + 1 < w3.heap.size := S.lt 0 rfl
    replace S := Lib.hid S
    have S := S.out
    replace S := Lib.hid S
    go_wp2
    go_ret
    exact ⟨rfl, S.out.bel⟩
  rw [l1] at hL1
  cases l2 : (lightB n5 m5)
  · rw [l2] at hL2
    replace hL0 := Lib.hid hL0
    replace hL1 := Lib.hid hL1
    replace hL2 := Lib.hid hL2
    clear l0 l1 l2
    have S := ((((((((((((((St.new w).read R1).read D1').read R2).read D2').read R3).read D3').read R4).read D4').read R5).read D5').allocAt (w.heap.size) #[.bool b1, .slice A1 n1 c1, .slice D1 m1 d1, .bool b2, .slice A2 n2 c2, .slice D2 m2 d2] 28 (noL6 _ _ _ _ _ _ _ _ _ _ _ _ _ _) (by simp)).allocAt (w.heap.size + 1) #[.bool b3, .slice A3 n3 c3, .slice D3 m3 d3, .bool b4, .slice A4 n4 c4, .slice D4 m4 d4] 28 (noL6 _ _ _ _ _ _ _ _ _ _ _ _ _ _) (by simp)).allocAt (w.heap.size + 1 + 1) #[.bool b5, .slice A5 n5 c5, .slice D5 m5 d5] 26 (noL3 _ _ _ _ _ _ _) (by simp))
    replace S := Lib.hid S
    clear R1 M1 D1' N1 R2 M2 D2' N2 R3 M3 D3' N3 R4 M4 D4' N4 R5 M5 D5' N5
    go_enter Tryz.func9, Tryz.ntmps9
    go_wp2_with fail
    refine (hL0.out _).mono ?_
    rintro e w1 ⟨rfl, bb⟩
    have T := (S.out.call bb)
    clear bb S
    have S := T
    clear T
    obtain ⟨c_v0, c_v1, c_v2⟩ := S.c3 0 rfl
    obtain ⟨c_b0, c_b1, c_b2, c_b3, c_b4, c_b5⟩ := S.c6 1 rfl
    obtain ⟨c_a0, c_a1, c_a2, c_a3, c_a4, c_a5⟩ := S.c6 2 rfl
    have hz : w.heap.size + 1 + 1 < w1.heap.size := S.lt 0 rfl
    replace S := Lib.hid S
    clear hL0
    go_wp2_with fail
    refine (hL1.out _).mono ?_
    rintro e w2 ⟨rfl, bb⟩
    have T := (S.out.call bb)
    clear bb S c_v0 c_v1 c_v2 c_b0 c_b1 c_b2 c_b3 c_b4 c_b5 c_a0 c_a1 c_a2 c_a3 c_a4 c_a5 hz
    have S := T
    clear T
    obtain ⟨c_v0, c_v1, c_v2⟩ := S.c3 0 rfl
    obtain ⟨c_b0, c_b1, c_b2, c_b3, c_b4, c_b5⟩ := S.c6 1 rfl
    obtain ⟨c_a0, c_a1, c_a2, c_a3, c_a4, c_a5⟩ := S.c6 2 rfl
    have hz : w.heap.size + 1 + 1 < w2.heap.size := S.lt 0 rfl
    replace S := Lib.hid S
    clear hL1
    go_wp2_with fail
    refine (hL2.out _).mono ?_
    rintro e w3 ⟨rfl, bb⟩
    have T := (S.out.call bb)
    clear bb S c_v0 c_v1 c_v2 c_b0 c_b1 c_b2 c_b3 c_b4 c_b5 c_a0 c_a1 c_a2 c_a3 c_a4 c_a5 hz
    have S := T
    clear T
    obtain ⟨c_v0, c_v1, c_v2⟩ := S.c3 0 rfl
    obtain ⟨c_b0, c_b1, c_b2, c_b3, c_b4, c_b5⟩ := S.c6 1 rfl
    obtain ⟨c_a0, c_a1, c_a2, c_a3, c_a4, c_a5⟩ := S.c6 2 rfl
    have hz : w.heap.size + 1 + 1 < w3.heap.size := S.lt 0 rfl
    replace S := Lib.hid S
    clear hL2
    go_wp2_with fail
    refine (hA.out _).mono ?_
    rintro e w4 ⟨rfl, bb⟩
    have T := (S.out.call bb)
    clear bb S c_v0 c_v1 c_v2 c_b0 c_b1 c_b2 c_b3 c_b4 c_b5 c_a0 c_a1 c_a2 c_a3 c_a4 c_a5 hz
    have S := T
    clear T
    obtain ⟨c_v0, c_v1, c_v2⟩ := S.c3 0 rfl
    obtain ⟨c_b0, c_b1, c_b2, c_b3, c_b4, c_b5⟩ := S.c6 1 rfl
    obtain ⟨c_a0, c_a1, c_a2, c_a3, c_a4, c_a5⟩ := S.c6 2 rfl
    have hz : w.heap.size + 1 + 1 < w4.heap.size := S.lt 0 rfl
    replace S := Lib.hid S
    have S := S.out
    replace S := Lib.hid S
    go_wp2
    go_ret
    exact ⟨rfl, S.out.bel⟩
  rw [l2] at hL2
  rw [Bool.and_eq_true] at l0 l1
  obtain ⟨g1, g2⟩ := l0
  obtain ⟨g3, g4⟩ := l1
  have g5 := l2
  obtain ⟨q1, X1, s1⟩ : ∃ q, Rw w b1 A1 n1 c1 x1 D1 m1 d1 y1 q ∧ Rs q 8 := ⟨rv b1 x1 y1, ⟨R1, D1', rfl, by have := light_8 g1; omega, by have := light_8 g1; omega⟩, rs_light R1 D1' g1⟩
  obtain ⟨q2, X2, s2⟩ : ∃ q, Rw w b2 A2 n2 c2 x2 D2 m2 d2 y2 q ∧ Rs q 8 := ⟨rv b2 x2 y2, ⟨R2, D2', rfl, by have := light_8 g2; omega, by have := light_8 g2; omega⟩, rs_light R2 D2' g2⟩
  obtain ⟨q3, X3, s3⟩ : ∃ q, Rw w b3 A3 n3 c3 x3 D3 m3 d3 y3 q ∧ Rs q 8 := ⟨rv b3 x3 y3, ⟨R3, D3', rfl, by have := light_8 g3; omega, by have := light_8 g3; omega⟩, rs_light R3 D3' g3⟩
  obtain ⟨q4, X4, s4⟩ : ∃ q, Rw w b4 A4 n4 c4 x4 D4 m4 d4 y4 q ∧ Rs q 8 := ⟨rv b4 x4 y4, ⟨R4, D4', rfl, by have := light_8 g4; omega, by have := light_8 g4; omega⟩, rs_light R4 D4' g4⟩
  obtain ⟨q5, X5, s5⟩ : ∃ q, Rw w b5 A5 n5 c5 x5 D5 m5 d5 y5 q ∧ Rs q 8 := ⟨rv b5 x5 y5, ⟨R5, D5', rfl, by have := light_8 g5; omega, by have := light_8 g5; omega⟩, rs_light R5 D5' g5⟩
  clear g1 g2 g3 g4 g5 l2 R1 M1 D1' N1 R2 M2 D2' N2 R3 M3 D3' N3 R4 M4 D4' N4 R5 M5 D5' N5
  replace hL0 := Lib.hid hL0
  replace hL1 := Lib.hid hL1
  replace hL2 := Lib.hid hL2
  obtain ⟨ka, kb⟩ := k_rsp s1 s2 (by decide)
  obtain ⟨kc, kd⟩ := k_rsp s3 s4 (by decide)
  have hCa := fun W h1 h2 h3 => contains_any b1 A1 n1 c1 x1 D1 m1 d1 y1 q1 b2 A2 n2 c2 x2 D2 m2 d2 y2 q2 b5 A5 n5 c5 x5 D5 m5 d5 y5 q5 W h1 h2 h3
  have hCb := fun W h1 h2 h3 => contains_any b3 A3 n3 c3 x3 D3 m3 d3 y3 q3 b4 A4 n4 c4 x4 D4 m4 d4 y4 q4 b5 A5 n5 c5 x5 D5 m5 d5 y5 q5 W h1 h2 h3
  have hHu := Lib.hid (fun W h1 h2 h3 h4 => hull_any b1 A1 n1 c1 x1 D1 m1 d1 y1 q1 b2 A2 n2 c2 x2 D2 m2 d2 y2 q2 b3 A3 n3 c3 x3 D3 m3 d3 y3 q3 b4 A4 n4 c4 x4 D4 m4 d4 y4 q4 W h1 h2 h3 h4)
  obtain ⟨f1, f2, f3, f4⟩ := mj_facts (klo q1 q2) (khi q1 q2) (klo q3 q4) (khi q3 q4)
  have rH := minL_rs (l := [klo q1 q2, khi q1 q2, klo q3 q4, khi q3 q4]) (p := 8) (by simp) (fun y hy => by simp at hy; rcases hy with rfl | rfl | rfl | rfl; exact ka; exact kb; exact kc; exact kd)
  have hHo : ¬ maxL [klo q1 q2, khi q1 q2, klo q3 q4, khi q3 q4] < minL [klo q1 q2, khi q1 q2, klo q3 q4, khi q3 q4] := Rat.not_lt.2 (Rat.le_trans f1 (Rat.le_trans (kle q1 q2) f3))
  have mjf := mj_in (a := klo q1 q2) (b := khi q1 q2) (c := klo q3 q4) (d := khi q3 q4) (v := q5)
  have hWa : Hid (∀ W A n c D m d A' n' c' D' m' d', Rw W b1 A1 n1 c1 x1 D1 m1 d1 y1 q1 → Rw W b2 A2 n2 c2 x2 D2 m2 d2 y2 q2 → RR W A n c D m d (minL [klo q1 q2, khi q1 q2, klo q3 q4, khi q3 q4]) → RR W A' n' c' D' m' d' (maxL [klo q1 q2, khi q1 q2, klo q3 q4, khi q3 q4]) → Calls Tryz.prog 21 #[.agg #[.bool b1, .slice A1 n1 c1, .slice D1 m1 d1, .bool b2, .slice A2 n2 c2, .slice D2 m2 d2], .agg #[.bool (ng (minL [klo q1 q2, khi q1 q2, klo q3 q4, khi q3 q4]).num), .slice A n c, .slice D m d, .bool (ng (maxL [klo q1 q2, khi q1 q2, klo q3 q4, khi q3 q4]).num), .slice A' n' c', .slice D' m' d']] W fun e w' => e = .returned (.bool true) ∧ Below W.heap.size W w') := Lib.hid fun W A n c D m d A' n' c' D' m' d' h1 h2 h3 h4 => withR _ _ _ _ _ _ _ _ _ _ _ _ _ _ _ _ _ _ _ _ _ _ _ _ _ _ _ _ _ _ _ _ _ _ _ _ _ _ _ _ (by rw [show klo (minL [klo q1 q2, khi q1 q2, klo q3 q4, khi q3 q4]) (maxL [klo q1 q2, khi q1 q2, klo q3 q4, khi q3 q4]) = minL [klo q1 q2, khi q1 q2, klo q3 q4, khi q3 q4] from if_neg hHo]; exact f1) (by rw [show khi (minL [klo q1 q2, khi q1 q2, klo q3 q4, khi q3 q4]) (maxL [klo q1 q2, khi q1 q2, klo q3 q4, khi q3 q4]) = maxL [klo q1 q2, khi q1 q2, klo q3 q4, khi q3 q4] from if_neg hHo]; exact f3) W h1 h2 (RR.w h3 (rH.1.mono (by decide))) (RR.w h4 (rH.2.mono (by decide)))
  have hWb : Hid (∀ W A n c D m d A' n' c' D' m' d', Rw W b3 A3 n3 c3 x3 D3 m3 d3 y3 q3 → Rw W b4 A4 n4 c4 x4 D4 m4 d4 y4 q4 → RR W A n c D m d (minL [klo q1 q2, khi q1 q2, klo q3 q4, khi q3 q4]) → RR W A' n' c' D' m' d' (maxL [klo q1 q2, khi q1 q2, klo q3 q4, khi q3 q4]) → Calls Tryz.prog 21 #[.agg #[.bool b3, .slice A3 n3 c3, .slice D3 m3 d3, .bool b4, .slice A4 n4 c4, .slice D4 m4 d4], .agg #[.bool (ng (minL [klo q1 q2, khi q1 q2, klo q3 q4, khi q3 q4]).num), .slice A n c, .slice D m d, .bool (ng (maxL [klo q1 q2, khi q1 q2, klo q3 q4, khi q3 q4]).num), .slice A' n' c', .slice D' m' d']] W fun e w' => e = .returned (.bool true) ∧ Below W.heap.size W w') := Lib.hid fun W A n c D m d A' n' c' D' m' d' h1 h2 h3 h4 => withR _ _ _ _ _ _ _ _ _ _ _ _ _ _ _ _ _ _ _ _ _ _ _ _ _ _ _ _ _ _ _ _ _ _ _ _ _ _ _ _ (by rw [show klo (minL [klo q1 q2, khi q1 q2, klo q3 q4, khi q3 q4]) (maxL [klo q1 q2, khi q1 q2, klo q3 q4, khi q3 q4]) = minL [klo q1 q2, khi q1 q2, klo q3 q4, khi q3 q4] from if_neg hHo]; exact f2) (by rw [show khi (minL [klo q1 q2, khi q1 q2, klo q3 q4, khi q3 q4]) (maxL [klo q1 q2, khi q1 q2, klo q3 q4, khi q3 q4]) = maxL [klo q1 q2, khi q1 q2, klo q3 q4, khi q3 q4] from if_neg hHo]; exact f4) W h1 h2 (RR.w h3 (rH.1.mono (by decide))) (RR.w h4 (rH.2.mono (by decide)))
  have k1 := Lib.hid X1.k
  have k2 := Lib.hid X2.k
  have k3 := Lib.hid X3.k
  have k4 := Lib.hid X4.k
  have k5 := Lib.hid X5.k
  have S := ((((((((((((((St.new w).read X1.rn).read X1.rd).read X2.rn).read X2.rd).read X3.rn).read X3.rd).read X4.rn).read X4.rd).read X5.rn).read X5.rd).allocAt (w.heap.size) #[.bool b1, .slice A1 n1 c1, .slice D1 m1 d1, .bool b2, .slice A2 n2 c2, .slice D2 m2 d2] 28 (noL6 _ _ _ _ _ _ _ _ _ _ _ _ _ _) (by simp)).allocAt (w.heap.size + 1) #[.bool b3, .slice A3 n3 c3, .slice D3 m3 d3, .bool b4, .slice A4 n4 c4, .slice D4 m4 d4] 28 (noL6 _ _ _ _ _ _ _ _ _ _ _ _ _ _) (by simp)).allocAt (w.heap.size + 1 + 1) #[.bool b5, .slice A5 n5 c5, .slice D5 m5 d5] 26 (noL3 _ _ _ _ _ _ _) (by simp))
  replace S := Lib.hid S
  clear X1 X2 X3 X4 X5 f1 f2 f3 f4
  by_cases hm : minL [khi q1 q2, khi q3 q4] < maxL [klo q1 q2, klo q3 q4]
  · have hMe : Hid (∀ W, Rw W b1 A1 n1 c1 x1 D1 m1 d1 y1 q1 → Rw W b2 A2 n2 c2 x2 D2 m2 d2 y2 q2 → Rw W b3 A3 n3 c3 x3 D3 m3 d3 y3 q3 → Rw W b4 A4 n4 c4 x4 D4 m4 d4 y4 q4 → Calls Tryz.prog 38 #[.agg #[.bool b1, .slice A1 n1 c1, .slice D1 m1 d1, .bool b2, .slice A2 n2 c2, .slice D2 m2 d2], .agg #[.bool b3, .slice A3 n3 c3, .slice D3 m3 d3, .bool b4, .slice A4 n4 c4, .slice D4 m4 d4]] W (RetVE 0 0 (.bool false) W)) := Lib.hid fun W h1 h2 h3 h4 => meet_no _ _ _ _ _ _ _ _ _ _ _ _ _ _ _ _ _ _ _ _ _ _ _ _ _ _ _ _ _ _ _ _ _ _ _ _ _ _ _ _ hm W h1 h2 h3 h4
    have hno : ¬ (((decide (klo q1 q2 ≤ q5) && decide (q5 ≤ khi q1 q2)) && (decide (klo q3 q4 ≤ q5) && decide (q5 ≤ khi q3 q4))) = true) := fun h => by
      simp only [Bool.and_eq_true, decide_eq_true_iff] at h
      obtain ⟨p, q⟩ := mjf.2 h
      exact Rat.not_lt.2 (Rat.le_trans p q) hm
    clear hm
    obtain ⟨lo, hlo⟩ : ∃ z : Rat, z = 0 := ⟨_, rfl⟩
    obtain ⟨hi, hhi⟩ : ∃ z : Rat, z = 0 := ⟨_, rfl⟩
    have hMe' := hMe
    clear hMe
    have hMe : Hid (∀ W, Rw W b1 A1 n1 c1 x1 D1 m1 d1 y1 q1 → Rw W b2 A2 n2 c2 x2 D2 m2 d2 y2 q2 → Rw W b3 A3 n3 c3 x3 D3 m3 d3 y3 q3 → Rw W b4 A4 n4 c4 x4 D4 m4 d4 y4 q4 → Calls Tryz.prog 38 #[.agg #[.bool b1, .slice A1 n1 c1, .slice D1 m1 d1, .bool b2, .slice A2 n2 c2, .slice D2 m2 d2], .agg #[.bool b3, .slice A3 n3 c3, .slice D3 m3 d3, .bool b4, .slice A4 n4 c4, .slice D4 m4 d4]] W (RetVE lo hi (.bool false) W)) := by rw [hlo, hhi]; exact hMe'
    clear hMe' hlo hhi
    cases ha : (decide (klo q1 q2 ≤ q5) && decide (q5 ≤ khi q1 q2))
    · rw [ha] at hCa
      replace hCa := Lib.hid hCa
      clear ha hno
      clear hHo rH ka kb kc kd mjf s1 s2 s3 s4 s5
      generalize minL [klo q1 q2, khi q1 q2, klo q3 q4, khi q3 q4] = hl at *
      generalize maxL [klo q1 q2, khi q1 q2, klo q3 q4, khi q3 q4] = hh at *
      go_enter Tryz.func9, Tryz.ntmps9
      go_wp2_with fail
      refine (hL0.out _).mono ?_
      rintro e w1 ⟨rfl, bb⟩
      have T := (S.out.call bb)
      clear bb S
      have S := T
      clear T
      obtain ⟨c_v0, c_v1, c_v2⟩ := S.c3 0 rfl
      obtain ⟨c_b0, c_b1, c_b2, c_b3, c_b4, c_b5⟩ := S.c6 1 rfl
      obtain ⟨c_a0, c_a1, c_a2, c_a3, c_a4, c_a5⟩ := S.c6 2 rfl
      have hz : w.heap.size + 1 + 1 < w1.heap.size := S.lt 0 rfl
      replace S := Lib.hid S
      clear hL0
      go_wp2_with fail
      refine (hL1.out _).mono ?_
      rintro e w2 ⟨rfl, bb⟩
      have T := (S.out.call bb)
      clear bb S c_v0 c_v1 c_v2 c_b0 c_b1 c_b2 c_b3 c_b4 c_b5 c_a0 c_a1 c_a2 c_a3 c_a4 c_a5 hz
      have S := T
      clear T
      obtain ⟨c_v0, c_v1, c_v2⟩ := S.c3 0 rfl
      obtain ⟨c_b0, c_b1, c_b2, c_b3, c_b4, c_b5⟩ := S.c6 1 rfl
      obtain ⟨c_a0, c_a1, c_a2, c_a3, c_a4, c_a5⟩ := S.c6 2 rfl
      have hz : w.heap.size + 1 + 1 < w2.heap.size := S.lt 0 rfl
      replace S := Lib.hid S
      clear hL1
      go_wp2_with fail
      refine (hL2.out _).mono ?_
      rintro e w3 ⟨rfl, bb⟩
      have T := (S.out.call bb)
      clear bb S c_v0 c_v1 c_v2 c_b0 c_b1 c_b2 c_b3 c_b4 c_b5 c_a0 c_a1 c_a2 c_a3 c_a4 c_a5 hz
      have S := T
      clear T
      obtain ⟨c_v0, c_v1, c_v2⟩ := S.c3 0 rfl
      obtain ⟨c_b0, c_b1, c_b2, c_b3, c_b4, c_b5⟩ := S.c6 1 rfl
      obtain ⟨c_a0, c_a1, c_a2, c_a3, c_a4, c_a5⟩ := S.c6 2 rfl
      have hz : w.heap.size + 1 + 1 < w3.heap.size := S.lt 0 rfl
      replace S := Lib.hid S
      clear hL2
      go_wp2_with fail
      refine (hMe.out _ (Rw.of (S.out.r 9 rfl) (S.out.r 8 rfl) k1.out) (Rw.of (S.out.r 7 rfl) (S.out.r 6 rfl) k2.out) (Rw.of (S.out.r 5 rfl) (S.out.r 4 rfl) k3.out) (Rw.of (S.out.r 3 rfl) (S.out.r 2 rfl) k4.out)).mono ?_
      rintro e w4 ⟨A31, n31, c31, D31, m31, d31, A32, n32, c32, D32, m32, d32, rfl, Q31, Q32, bb⟩
      have T := (((((S.out.call bb).read Q31.n).read Q31.d).read Q32.n).read Q32.d)
      clear bb S c_v0 c_v1 c_v2 c_b0 c_b1 c_b2 c_b3 c_b4 c_b5 c_a0 c_a1 c_a2 c_a3 c_a4 c_a5 hz
      have S := T
      clear T
      obtain ⟨c_v0, c_v1, c_v2⟩ := S.c3 0 rfl
      obtain ⟨c_b0, c_b1, c_b2, c_b3, c_b4, c_b5⟩ := S.c6 1 rfl
      obtain ⟨c_a0, c_a1, c_a2, c_a3, c_a4, c_a5⟩ := S.c6 2 rfl
      have hz : w.heap.size + 1 + 1 < w4.heap.size := S.lt 0 rfl
      replace S := Lib.hid S
      clear Q31 Q32 hMe
      have S := (S.out.allocAt (w4.heap.size) #[.bool (ng lo.num), .slice A31 n31 c31, .slice D31 m31 d31, .bool (ng hi.num), .slice A32 n32 c32, .slice D32 m32 d32] 28 (noL6 _ _ _ _ _ _ _ _ _ _ _ _ _ _) (by simp))
      obtain ⟨a_a0, a_a1, a_a2, a_a3, a_a4, a_a5, b_a0, b_a1, b_a2, b_a3, b_a4, b_a5⟩ := S.cf6 3 rfl
      obtain ⟨a_b0, a_b1, a_b2, a_b3, a_b4, a_b5, b_b0, b_b1, b_b2, b_b3, b_b4, b_b5⟩ := S.cf6 2 rfl
      replace S := Lib.hid S
      go_wp2_with fail
      refine (hHu.out _ (Rw.of (S.out.r 13 rfl) (S.out.r 12 rfl) k1.out) (Rw.of (S.out.r 11 rfl) (S.out.r 10 rfl) k2.out) (Rw.of (S.out.r 9 rfl) (S.out.r 8 rfl) k3.out) (Rw.of (S.out.r 7 rfl) (S.out.r 6 rfl) k4.out)).mono ?_
      rintro e w5 ⟨A33, n33, c33, D33, m33, d33, A34, n34, c34, D34, m34, d34, rfl, Q33, Q34, bb⟩
      have T := (((((S.out.call bb).read Q33.n).read Q33.d).read Q34.n).read Q34.d)
      clear bb S c_v0 c_v1 c_v2 c_b0 c_b1 c_b2 c_b3 c_b4 c_b5 c_a0 c_a1 c_a2 c_a3 c_a4 c_a5 hz a_a0 b_a0 a_a1 b_a1 a_a2 b_a2 a_a3 b_a3 a_a4 b_a4 a_a5 b_a5 a_b0 b_b0 a_b1 b_b1 a_b2 b_b2 a_b3 b_b3 a_b4 b_b4 a_b5 b_b5
      have S := T
      clear T
      obtain ⟨c_x0, c_x1, c_x2, c_x3, c_x4, c_x5⟩ := S.c6 0 rfl
      obtain ⟨c_v0, c_v1, c_v2⟩ := S.c3 1 rfl
      obtain ⟨c_b0, c_b1, c_b2, c_b3, c_b4, c_b5⟩ := S.c6 2 rfl
      obtain ⟨c_a0, c_a1, c_a2, c_a3, c_a4, c_a5⟩ := S.c6 3 rfl
      have hz : w4.heap.size < w5.heap.size := S.lt 0 rfl
      replace S := Lib.hid S
      clear Q33 Q34 hHu
      have S := (S.out.allocAt (w5.heap.size) #[.bool (ng hl.num), .slice A33 n33 c33, .slice D33 m33 d33, .bool (ng hh.num), .slice A34 n34 c34, .slice D34 m34 d34] 28 (noL6 _ _ _ _ _ _ _ _ _ _ _ _ _ _) (by simp))
      obtain ⟨a_a0, a_a1, a_a2, a_a3, a_a4, a_a5, b_a0, b_a1, b_a2, b_a3, b_a4, b_a5⟩ := S.cf6 4 rfl
      obtain ⟨a_b0, a_b1, a_b2, a_b3, a_b4, a_b5, b_b0, b_b1, b_b2, b_b3, b_b4, b_b5⟩ := S.cf6 3 rfl
      obtain ⟨a_v0, a_v1, a_v2, b_v0, b_v1, b_v2⟩ := S.cf3 2 rfl
      obtain ⟨a_x0, a_x1, a_x2, a_x3, a_x4, a_x5, b_x0, b_x1, b_x2, b_x3, b_x4, b_x5⟩ := S.cf6 1 rfl
      replace S := Lib.hid S
      go_wp2_with fail
      refine (hCa.out _ (Rw.of (S.out.r 17 rfl) (S.out.r 16 rfl) k1.out) (Rw.of (S.out.r 15 rfl) (S.out.r 14 rfl) k2.out) (Rw.of (S.out.r 9 rfl) (S.out.r 8 rfl) k5.out)).mono ?_
      rintro e w6 ⟨rfl, bb⟩
      have T := (S.out.call bb)
      clear bb S c_x0 c_x1 c_x2 c_x3 c_x4 c_x5 c_v0 c_v1 c_v2 c_b0 c_b1 c_b2 c_b3 c_b4 c_b5 c_a0 c_a1 c_a2 c_a3 c_a4 c_a5 hz a_a0 b_a0 a_a1 b_a1 a_a2 b_a2 a_a3 b_a3 a_a4 b_a4 a_a5 b_a5 a_b0 b_b0 a_b1 b_b1 a_b2 b_b2 a_b3 b_b3 a_b4 b_b4 a_b5 b_b5 a_v0 b_v0 a_v1 b_v1 a_v2 b_v2 a_x0 b_x0 a_x1 b_x1 a_x2 b_x2 a_x3 b_x3 a_x4 b_x4 a_x5 b_x5
      have S := T
      clear T
      obtain ⟨c_h0, c_h1, c_h2, c_h3, c_h4, c_h5⟩ := S.c6 0 rfl
      obtain ⟨c_x0, c_x1, c_x2, c_x3, c_x4, c_x5⟩ := S.c6 1 rfl
      obtain ⟨c_v0, c_v1, c_v2⟩ := S.c3 2 rfl
      obtain ⟨c_b0, c_b1, c_b2, c_b3, c_b4, c_b5⟩ := S.c6 3 rfl
      obtain ⟨c_a0, c_a1, c_a2, c_a3, c_a4, c_a5⟩ := S.c6 4 rfl
      have hz : w5.heap.size < w6.heap.size := S.lt 0 rfl
      replace S := Lib.hid S
      clear hCa
      clear hCb
      go_wp2_with fail
      refine (hA.out _).mono ?_
      rintro e w7 ⟨rfl, bb⟩
      have T := (S.out.call bb)
      clear bb S c_h0 c_h1 c_h2 c_h3 c_h4 c_h5 c_x0 c_x1 c_x2 c_x3 c_x4 c_x5 c_v0 c_v1 c_v2 c_b0 c_b1 c_b2 c_b3 c_b4 c_b5 c_a0 c_a1 c_a2 c_a3 c_a4 c_a5 hz
      have S := T
      clear T
      obtain ⟨c_h0, c_h1, c_h2, c_h3, c_h4, c_h5⟩ := S.c6 0 rfl
      obtain ⟨c_x0, c_x1, c_x2, c_x3, c_x4, c_x5⟩ := S.c6 1 rfl
      obtain ⟨c_v0, c_v1, c_v2⟩ := S.c3 2 rfl
      obtain ⟨c_b0, c_b1, c_b2, c_b3, c_b4, c_b5⟩ := S.c6 3 rfl
      obtain ⟨c_a0, c_a1, c_a2, c_a3, c_a4, c_a5⟩ := S.c6 4 rfl
      have hz : w5.heap.size < w7.heap.size := S.lt 0 rfl
      replace S := Lib.hid S
      go_wp2_with fail
      refine (hWa.out _ _ _ _ _ _ _ _ _ _ _ _ _ (Rw.of (S.out.r 17 rfl) (S.out.r 16 rfl) k1.out) (Rw.of (S.out.r 15 rfl) (S.out.r 14 rfl) k2.out) ⟨S.out.r 3 rfl, S.out.r 2 rfl⟩ ⟨S.out.r 1 rfl, S.out.r 0 rfl⟩).mono ?_
      rintro e w8 ⟨rfl, bb⟩
      have T := (S.out.call bb)
      clear bb S c_h0 c_h1 c_h2 c_h3 c_h4 c_h5 c_x0 c_x1 c_x2 c_x3 c_x4 c_x5 c_v0 c_v1 c_v2 c_b0 c_b1 c_b2 c_b3 c_b4 c_b5 c_a0 c_a1 c_a2 c_a3 c_a4 c_a5 hz
      have S := T
      clear T
      obtain ⟨c_h0, c_h1, c_h2, c_h3, c_h4, c_h5⟩ := S.c6 0 rfl
      obtain ⟨c_x0, c_x1, c_x2, c_x3, c_x4, c_x5⟩ := S.c6 1 rfl
      obtain ⟨c_v0, c_v1, c_v2⟩ := S.c3 2 rfl
      obtain ⟨c_b0, c_b1, c_b2, c_b3, c_b4, c_b5⟩ := S.c6 3 rfl
      obtain ⟨c_a0, c_a1, c_a2, c_a3, c_a4, c_a5⟩ := S.c6 4 rfl
      have hz : w5.heap.size < w8.heap.size := S.lt 0 rfl
      replace S := Lib.hid S
      clear hWa
      go_wp2_with fail
      refine (hWb.out _ _ _ _ _ _ _ _ _ _ _ _ _ (Rw.of (S.out.r 13 rfl) (S.out.r 12 rfl) k3.out) (Rw.of (S.out.r 11 rfl) (S.out.r 10 rfl) k4.out) ⟨S.out.r 3 rfl, S.out.r 2 rfl⟩ ⟨S.out.r 1 rfl, S.out.r 0 rfl⟩).mono ?_
      rintro e w9 ⟨rfl, bb⟩
      have T := (S.out.call bb)
      clear bb S c_h0 c_h1 c_h2 c_h3 c_h4 c_h5 c_x0 c_x1 c_x2 c_x3 c_x4 c_x5 c_v0 c_v1 c_v2 c_b0 c_b1 c_b2 c_b3 c_b4 c_b5 c_a0 c_a1 c_a2 c_a3 c_a4 c_a5 hz
      have S := T
      clear T
      obtain ⟨c_h0, c_h1, c_h2, c_h3, c_h4, c_h5⟩ := S.c6 0 rfl
      obtain ⟨c_x0, c_x1, c_x2, c_x3, c_x4, c_x5⟩ := S.c6 1 rfl
      obtain ⟨c_v0, c_v1, c_v2⟩ := S.c3 2 rfl
      obtain ⟨c_b0, c_b1, c_b2, c_b3, c_b4, c_b5⟩ := S.c6 3 rfl
      obtain ⟨c_a0, c_a1, c_a2, c_a3, c_a4, c_a5⟩ := S.c6 4 rfl
      have hz : w5.heap.size < w9.heap.size := S.lt 0 rfl
      replace S := Lib.hid S
      clear hWb
      have S := S.out
      replace S := Lib.hid S
      go_wp2
      go_ret
      exact ⟨rfl, S.out.bel⟩
    cases hb : (decide (klo q3 q4 ≤ q5) && decide (q5 ≤ khi q3 q4))
    · rw [ha] at hCa
      rw [hb] at hCb
      replace hCa := Lib.hid hCa
      replace hCb := Lib.hid hCb
      clear ha hb
      clear hno
      clear hHo rH ka kb kc kd mjf s1 s2 s3 s4 s5
      generalize minL [klo q1 q2, khi q1 q2, klo q3 q4, khi q3 q4] = hl at *
      generalize maxL [klo q1 q2, khi q1 q2, klo q3 q4, khi q3 q4] = hh at *
      go_enter Tryz.func9, Tryz.ntmps9
      go_wp2_with fail
      refine (hL0.out _).mono ?_
      rintro e w1 ⟨rfl, bb⟩
      have T := (S.out.call bb)
      clear bb S
      have S := T
      clear T
      obtain ⟨c_v0, c_v1, c_v2⟩ := S.c3 0 rfl
      obtain ⟨c_b0, c_b1, c_b2, c_b3, c_b4, c_b5⟩ := S.c6 1 rfl
      obtain ⟨c_a0, c_a1, c_a2, c_a3, c_a4, c_a5⟩ := S.c6 2 rfl
      have hz : w.heap.size + 1 + 1 < w1.heap.size := S.lt 0 rfl
      replace S := Lib.hid S
      clear hL0
      go_wp2_with fail
      refine (hL1.out _).mono ?_
      rintro e w2 ⟨rfl, bb⟩
      have T := (S.out.call bb)
      clear bb S c_v0 c_v1 c_v2 c_b0 c_b1 c_b2 c_b3 c_b4 c_b5 c_a0 c_a1 c_a2 c_a3 c_a4 c_a5 hz
      have S := T
      clear T
      obtain ⟨c_v0, c_v1, c_v2⟩ := S.c3 0 rfl
      obtain ⟨c_b0, c_b1, c_b2, c_b3, c_b4, c_b5⟩ := S.c6 1 rfl
      obtain ⟨c_a0, c_a1, c_a2, c_a3, c_a4, c_a5⟩ := S.c6 2 rfl
      have hz : w.heap.size + 1 + 1 < w2.heap.size := S.lt 0 rfl
      replace S := Lib.hid S
      clear hL1
      go_wp2_with fail
      refine (hL2.out _).mono ?_
      rintro e w3 ⟨rfl, bb⟩
      have T := (S.out.call bb)
      clear bb S c_v0 c_v1 c_v2 c_b0 c_b1 c_b2 c_b3 c_b4 c_b5 c_a0 c_a1 c_a2 c_a3 c_a4 c_a5 hz
      have S := T
      clear T
      obtain ⟨c_v0, c_v1, c_v2⟩ := S.c3 0 rfl
      obtain ⟨c_b0, c_b1, c_b2, c_b3, c_b4, c_b5⟩ := S.c6 1 rfl
      obtain ⟨c_a0, c_a1, c_a2, c_a3, c_a4, c_a5⟩ := S.c6 2 rfl
      have hz : w.heap.size + 1 + 1 < w3.heap.size := S.lt 0 rfl
      replace S := Lib.hid S
      clear hL2
      go_wp2_with fail
      refine (hMe.out _ (Rw.of (S.out.r 9 rfl) (S.out.r 8 rfl) k1.out) (Rw.of (S.out.r 7 rfl) (S.out.r 6 rfl) k2.out) (Rw.of (S.out.r 5 rfl) (S.out.r 4 rfl) k3.out) (Rw.of (S.out.r 3 rfl) (S.out.r 2 rfl) k4.out)).mono ?_
      rintro e w4 ⟨A31, n31, c31, D31, m31, d31, A32, n32, c32, D32, m32, d32, rfl, Q31, Q32, bb⟩
      have T := (((((S.out.call bb).read Q31.n).read Q31.d).read Q32.n).read Q32.d)
      clear bb S c_v0 c_v1 c_v2 c_b0 c_b1 c_b2 c_b3 c_b4 c_b5 c_a0 c_a1 c_a2 c_a3 c_a4 c_a5 hz
      have S := T
      clear T
      obtain ⟨c_v0, c_v1, c_v2⟩ := S.c3 0 rfl
      obtain ⟨c_b0, c_b1, c_b2, c_b3, c_b4, c_b5⟩ := S.c6 1 rfl
      obtain ⟨c_a0, c_a1, c_a2, c_a3, c_a4, c_a5⟩ := S.c6 2 rfl
      have hz : w.heap.size + 1 + 1 < w4.heap.size := S.lt 0 rfl
      replace S := Lib.hid S
      clear Q31 Q32 hMe
      have S := (S.out.allocAt (w4.heap.size) #[.bool (ng lo.num), .slice A31 n31 c31, .slice D31 m31 d31, .bool (ng hi.num), .slice A32 n32 c32, .slice D32 m32 d32] 28 (noL6 _ _ _ _ _ _ _ _ _ _ _ _ _ _) (by simp))
      obtain ⟨a_a0, a_a1, a_a2, a_a3, a_a4, a_a5, b_a0, b_a1, b_a2, b_a3, b_a4, b_a5⟩ := S.cf6 3 rfl
      obtain ⟨a_b0, a_b1, a_b2, a_b3, a_b4, a_b5, b_b0, b_b1, b_b2, b_b3, b_b4, b_b5⟩ := S.cf6 2 rfl
      replace S := Lib.hid S
      go_wp2_with fail
      refine (hHu.out _ (Rw.of (S.out.r 13 rfl) (S.out.r 12 rfl) k1.out) (Rw.of (S.out.r 11 rfl) (S.out.r 10 rfl) k2.out) (Rw.of (S.out.r 9 rfl) (S.out.r 8 rfl) k3.out) (Rw.of (S.out.r 7 rfl) (S.out.r 6 rfl) k4.out)).mono ?_
      rintro e w5 ⟨A33, n33, c33, D33, m33, d33, A34, n34, c34, D34, m34, d34, rfl, Q33, Q34, bb⟩
      have T := (((((S.out.call bb).read Q33.n).read Q33.d).read Q34.n).read Q34.d)
      clear bb S c_v0 c_v1 c_v2 c_b0 c_b1 c_b2 c_b3 c_b4 c_b5 c_a0 c_a1 c_a2 c_a3 c_a4 c_a5 hz a_a0 b_a0 a_a1 b_a1 a_a2 b_a2 a_a3 b_a3 a_a4 b_a4 a_a5 b_a5 a_b0 b_b0 a_b1 b_b1 a_b2 b_b2 a_b3 b_b3 a_b4 b_b4 a_b5 b_b5
      have S := T
      clear T
      obtain ⟨c_x0, c_x1, c_x2, c_x3, c_x4, c_x5⟩ := S.c6 0 rfl
      obtain ⟨c_v0, c_v1, c_v2⟩ := S.c3 1 rfl
      obtain ⟨c_b0, c_b1, c_b2, c_b3, c_b4, c_b5⟩ := S.c6 2 rfl
      obtain ⟨c_a0, c_a1, c_a2, c_a3, c_a4, c_a5⟩ := S.c6 3 rfl
      have hz : w4.heap.size < w5.heap.size := S.lt 0 rfl
      replace S := Lib.hid S
      clear Q33 Q34 hHu
      have S := (S.out.allocAt (w5.heap.size) #[.bool (ng hl.num), .slice A33 n33 c33, .slice D33 m33 d33, .bool (ng hh.num), .slice A34 n34 c34, .slice D34 m34 d34] 28 (noL6 _ _ _ _ _ _ _ _ _ _ _ _ _ _) (by simp))
      obtain ⟨a_a0, a_a1, a_a2, a_a3, a_a4, a_a5, b_a0, b_a1, b_a2, b_a3, b_a4, b_a5⟩ := S.cf6 4 rfl
      obtain ⟨a_b0, a_b1, a_b2, a_b3, a_b4, a_b5, b_b0, b_b1, b_b2, b_b3, b_b4, b_b5⟩ := S.cf6 3 rfl
      obtain ⟨a_v0, a_v1, a_v2, b_v0, b_v1, b_v2⟩ := S.cf3 2 rfl
      obtain ⟨a_x0, a_x1, a_x2, a_x3, a_x4, a_x5, b_x0, b_x1, b_x2, b_x3, b_x4, b_x5⟩ := S.cf6 1 rfl
      replace S := Lib.hid S
      go_wp2_with fail
      refine (hCa.out _ (Rw.of (S.out.r 17 rfl) (S.out.r 16 rfl) k1.out) (Rw.of (S.out.r 15 rfl) (S.out.r 14 rfl) k2.out) (Rw.of (S.out.r 9 rfl) (S.out.r 8 rfl) k5.out)).mono ?_
      rintro e w6 ⟨rfl, bb⟩
      have T := (S.out.call bb)
      clear bb S c_x0 c_x1 c_x2 c_x3 c_x4 c_x5 c_v0 c_v1 c_v2 c_b0 c_b1 c_b2 c_b3 c_b4 c_b5 c_a0 c_a1 c_a2 c_a3 c_a4 c_a5 hz a_a0 b_a0 a_a1 b_a1 a_a2 b_a2 a_a3 b_a3 a_a4 b_a4 a_a5 b_a5 a_b0 b_b0 a_b1 b_b1 a_b2 b_b2 a_b3 b_b3 a_b4 b_b4 a_b5 b_b5 a_v0 b_v0 a_v1 b_v1 a_v2 b_v2 a_x0 b_x0 a_x1 b_x1 a_x2 b_x2 a_x3 b_x3 a_x4 b_x4 a_x5 b_x5
      have S := T
      clear T
      obtain ⟨c_h0, c_h1, c_h2, c_h3, c_h4, c_h5⟩ := S.c6 0 rfl
      obtain ⟨c_x0, c_x1, c_x2, c_x3, c_x4, c_x5⟩ := S.c6 1 rfl
      obtain ⟨c_v0, c_v1, c_v2⟩ := S.c3 2 rfl
      obtain ⟨c_b0, c_b1, c_b2, c_b3, c_b4, c_b5⟩ := S.c6 3 rfl
      obtain ⟨c_a0, c_a1, c_a2, c_a3, c_a4, c_a5⟩ := S.c6 4 rfl
      have hz : w5.heap.size < w6.heap.size := S.lt 0 rfl
      replace S := Lib.hid S
      clear hCa
      go_wp2_with fail
      refine (hCb.out _ (Rw.of (S.out.r 13 rfl) (S.out.r 12 rfl) k3.out) (Rw.of (S.out.r 11 rfl) (S.out.r 10 rfl) k4.out) (Rw.of (S.out.r 9 rfl) (S.out.r 8 rfl) k5.out)).mono ?_
      rintro e w7 ⟨rfl, bb⟩
      have T := (S.out.call bb)
      clear bb S c_h0 c_h1 c_h2 c_h3 c_h4 c_h5 c_x0 c_x1 c_x2 c_x3 c_x4 c_x5 c_v0 c_v1 c_v2 c_b0 c_b1 c_b2 c_b3 c_b4 c_b5 c_a0 c_a1 c_a2 c_a3 c_a4 c_a5 hz
      have S := T
      clear T
      obtain ⟨c_h0, c_h1, c_h2, c_h3, c_h4, c_h5⟩ := S.c6 0 rfl
      obtain ⟨c_x0, c_x1, c_x2, c_x3, c_x4, c_x5⟩ := S.c6 1 rfl
      obtain ⟨c_v0, c_v1, c_v2⟩ := S.c3 2 rfl
      obtain ⟨c_b0, c_b1, c_b2, c_b3, c_b4, c_b5⟩ := S.c6 3 rfl
      obtain ⟨c_a0, c_a1, c_a2, c_a3, c_a4, c_a5⟩ := S.c6 4 rfl
      have hz : w5.heap.size < w7.heap.size := S.lt 0 rfl
      replace S := Lib.hid S
      clear hCb
      go_wp2_with fail
      refine (hA.out _).mono ?_
      rintro e w8 ⟨rfl, bb⟩
      have T := (S.out.call bb)
      clear bb S c_h0 c_h1 c_h2 c_h3 c_h4 c_h5 c_x0 c_x1 c_x2 c_x3 c_x4 c_x5 c_v0 c_v1 c_v2 c_b0 c_b1 c_b2 c_b3 c_b4 c_b5 c_a0 c_a1 c_a2 c_a3 c_a4 c_a5 hz
      have S := T
      clear T
      obtain ⟨c_h0, c_h1, c_h2, c_h3, c_h4, c_h5⟩ := S.c6 0 rfl
      obtain ⟨c_x0, c_x1, c_x2, c_x3, c_x4, c_x5⟩ := S.c6 1 rfl
      obtain ⟨c_v0, c_v1, c_v2⟩ := S.c3 2 rfl
      obtain ⟨c_b0, c_b1, c_b2, c_b3, c_b4, c_b5⟩ := S.c6 3 rfl
      obtain ⟨c_a0, c_a1, c_a2, c_a3, c_a4, c_a5⟩ := S.c6 4 rfl
      have hz : w5.heap.size < w8.heap.size := S.lt 0 rfl
      replace S := Lib.hid S
      go_wp2_with fail
      refine (hWa.out _ _ _ _ _ _ _ _ _ _ _ _ _ (Rw.of (S.out.r 17 rfl) (S.out.r 16 rfl) k1.out) (Rw.of (S.out.r 15 rfl) (S.out.r 14 rfl) k2.out) ⟨S.out.r 3 rfl, S.out.r 2 rfl⟩ ⟨S.out.r 1 rfl, S.out.r 0 rfl⟩).mono ?_
      rintro e w9 ⟨rfl, bb⟩
      have T := (S.out.call bb)
      clear bb S c_h0 c_h1 c_h2 c_h3 c_h4 c_h5 c_x0 c_x1 c_x2 c_x3 c_x4 c_x5 c_v0 c_v1 c_v2 c_b0 c_b1 c_b2 c_b3 c_b4 c_b5 c_a0 c_a1 c_a2 c_a3 c_a4 c_a5 hz
      have S := T
      clear T
      obtain ⟨c_h0, c_h1, c_h2, c_h3, c_h4, c_h5⟩ := S.c6 0 rfl
      obtain ⟨c_x0, c_x1, c_x2, c_x3, c_x4, c_x5⟩ := S.c6 1 rfl
      obtain ⟨c_v0, c_v1, c_v2⟩ := S.c3 2 rfl
      obtain ⟨c_b0, c_b1, c_b2, c_b3, c_b4, c_b5⟩ := S.c6 3 rfl
      obtain ⟨c_a0, c_a1, c_a2, c_a3, c_a4, c_a5⟩ := S.c6 4 rfl
      have hz : w5.heap.size < w9.heap.size := S.lt 0 rfl
      replace S := Lib.hid S
      clear hWa
      go_wp2_with fail
      refine (hWb.out _ _ _ _ _ _ _ _ _ _ _ _ _ (Rw.of (S.out.r 13 rfl) (S.out.r 12 rfl) k3.out) (Rw.of (S.out.r 11 rfl) (S.out.r 10 rfl) k4.out) ⟨S.out.r 3 rfl, S.out.r 2 rfl⟩ ⟨S.out.r 1 rfl, S.out.r 0 rfl⟩).mono ?_
      rintro e w10 ⟨rfl, bb⟩
      have T := (S.out.call bb)
      clear bb S c_h0 c_h1 c_h2 c_h3 c_h4 c_h5 c_x0 c_x1 c_x2 c_x3 c_x4 c_x5 c_v0 c_v1 c_v2 c_b0 c_b1 c_b2 c_b3 c_b4 c_b5 c_a0 c_a1 c_a2 c_a3 c_a4 c_a5 hz
      have S := T
      clear T
      obtain ⟨c_h0, c_h1, c_h2, c_h3, c_h4, c_h5⟩ := S.c6 0 rfl
      obtain ⟨c_x0, c_x1, c_x2, c_x3, c_x4, c_x5⟩ := S.c6 1 rfl
      obtain ⟨c_v0, c_v1, c_v2⟩ := S.c3 2 rfl
      obtain ⟨c_b0, c_b1, c_b2, c_b3, c_b4, c_b5⟩ := S.c6 3 rfl
      obtain ⟨c_a0, c_a1, c_a2, c_a3, c_a4, c_a5⟩ := S.c6 4 rfl
      have hz : w5.heap.size < w10.heap.size := S.lt 0 rfl
      replace S := Lib.hid S
      clear hWb
      have S := S.out
      replace S := Lib.hid S
      go_wp2
      go_ret
      exact ⟨rfl, S.out.bel⟩
    · exact absurd (by rw [ha, hb]; rfl) hno
  · have hMe : Hid (∀ W, Rw W b1 A1 n1 c1 x1 D1 m1 d1 y1 q1 → Rw W b2 A2 n2 c2 x2 D2 m2 d2 y2 q2 → Rw W b3 A3 n3 c3 x3 D3 m3 d3 y3 q3 → Rw W b4 A4 n4 c4 x4 D4 m4 d4 y4 q4 → Calls Tryz.prog 38 #[.agg #[.bool b1, .slice A1 n1 c1, .slice D1 m1 d1, .bool b2, .slice A2 n2 c2, .slice D2 m2 d2], .agg #[.bool b3, .slice A3 n3 c3, .slice D3 m3 d3, .bool b4, .slice A4 n4 c4, .slice D4 m4 d4]] W (RetVE (maxL [klo q1 q2, klo q3 q4]) (minL [khi q1 q2, khi q3 q4]) (.bool true) W)) := Lib.hid fun W h1 h2 h3 h4 => meet_yes _ _ _ _ _ _ _ _ _ _ _ _ _ _ _ _ _ _ _ _ _ _ _ _ _ _ _ _ _ _ _ _ _ _ _ _ _ _ _ _ hm W h1 h2 h3 h4
    have rl : Rs (maxL [klo q1 q2, klo q3 q4]) 8 := (minL_rs (by simp) (fun y hy => by simp at hy; rcases hy with rfl | rfl; exact ka; exact kc)).2
    have rh : Rs (minL [khi q1 q2, khi q3 q4]) 8 := (minL_rs (by simp) (fun y hy => by simp at hy; rcases hy with rfl | rfl; exact kb; exact kd)).1
    have p1 := le_maxL (l := [klo q1 q2, klo q3 q4]) (y := klo q1 q2) (by simp)
    have p2 := le_maxL (l := [klo q1 q2, klo q3 q4]) (y := klo q3 q4) (by simp)
    have p3 := minL_le (l := [khi q1 q2, khi q3 q4]) (y := khi q1 q2) (by simp)
    have p4 := minL_le (l := [khi q1 q2, khi q3 q4]) (y := khi q3 q4) (by simp)
    generalize maxL [klo q1 q2, klo q3 q4] = lo at *
    generalize minL [khi q1 q2, khi q3 q4] = hi at *
    have hCx : ∀ W A n c D m d A' n' c' D' m' d', RR W A n c D m d lo → RR W A' n' c' D' m' d' hi → Rw W b5 A5 n5 c5 x5 D5 m5 d5 y5 q5 → Calls Tryz.prog 19 #[.agg #[.bool (ng lo.num), .slice A n c, .slice D m d, .bool (ng hi.num), .slice A' n' c', .slice D' m' d'], .agg #[.bool b5, .slice A5 n5 c5, .slice D5 m5 d5]] W fun e w' => e = .returned (.bool ((decide (klo q1 q2 ≤ q5) && decide (q5 ≤ khi q1 q2)) && (decide (klo q3 q4 ≤ q5) && decide (q5 ≤ khi q3 q4)))) ∧ Below W.heap.size W w' := fun W A n c D m d A' n' c' D' m' d' h1 h2 h3 => by
      have := contains_any _ _ _ _ _ _ _ _ _ _ _ _ _ _ _ _ _ _ _ _ _ _ _ _ _ _ _ _ _ _ W (RR.w h1 (rl.mono (by decide))) (RR.w h2 (rh.mono (by decide))) h3
      rw [show klo lo hi = lo from if_neg hm, show khi lo hi = hi from if_neg hm, mj_bool mjf] at this
      exact this
    have hXa : Hid (∀ W A n c D m d A' n' c' D' m' d', RR W A n c D m d lo → RR W A' n' c' D' m' d' hi → Rw W b1 A1 n1 c1 x1 D1 m1 d1 y1 q1 → Rw W b2 A2 n2 c2 x2 D2 m2 d2 y2 q2 → Calls Tryz.prog 21 #[.agg #[.bool (ng lo.num), .slice A n c, .slice D m d, .bool (ng hi.num), .slice A' n' c', .slice D' m' d'], .agg #[.bool b1, .slice A1 n1 c1, .slice D1 m1 d1, .bool b2, .slice A2 n2 c2, .slice D2 m2 d2]] W fun e w' => e = .returned (.bool true) ∧ Below W.heap.size W w') := Lib.hid fun W A n c D m d A' n' c' D' m' d' h1 h2 h3 h4 => withR _ _ _ _ _ _ _ _ _ _ _ _ _ _ _ _ _ _ _ _ _ _ _ _ _ _ _ _ _ _ _ _ _ _ _ _ _ _ _ _ (by rw [show klo lo hi = lo from if_neg hm]; exact p1) (by rw [show khi lo hi = hi from if_neg hm]; exact p3) W (RR.w h1 (rl.mono (by decide))) (RR.w h2 (rh.mono (by decide))) h3 h4
    have hXb : Hid (∀ W A n c D m d A' n' c' D' m' d', RR W A n c D m d lo → RR W A' n' c' D' m' d' hi → Rw W b3 A3 n3 c3 x3 D3 m3 d3 y3 q3 → Rw W b4 A4 n4 c4 x4 D4 m4 d4 y4 q4 → Calls Tryz.prog 21 #[.agg #[.bool (ng lo.num), .slice A n c, .slice D m d, .bool (ng hi.num), .slice A' n' c', .slice D' m' d'], .agg #[.bool b3, .slice A3 n3 c3, .slice D3 m3 d3, .bool b4, .slice A4 n4 c4, .slice D4 m4 d4]] W fun e w' => e = .returned (.bool true) ∧ Below W.heap.size W w') := Lib.hid fun W A n c D m d A' n' c' D' m' d' h1 h2 h3 h4 => withR _ _ _ _ _ _ _ _ _ _ _ _ _ _ _ _ _ _ _ _ _ _ _ _ _ _ _ _ _ _ _ _ _ _ _ _ _ _ _ _ (by rw [show klo lo hi = lo from if_neg hm]; exact p2) (by rw [show khi lo hi = hi from if_neg hm]; exact p4) W (RR.w h1 (rl.mono (by decide))) (RR.w h2 (rh.mono (by decide))) h3 h4
    clear hm rl rh p1 p2 p3 p4
    cases ha : (decide (klo q1 q2 ≤ q5) && decide (q5 ≤ khi q1 q2))
    · rw [ha, Bool.false_and] at hCx
      rw [ha] at hCa
      replace hCa := Lib.hid hCa
      clear ha
      replace hCx := Lib.hid hCx
      clear hHo rH ka kb kc kd mjf s1 s2 s3 s4 s5
      generalize minL [klo q1 q2, khi q1 q2, klo q3 q4, khi q3 q4] = hl at *
      generalize maxL [klo q1 q2, khi q1 q2, klo q3 q4, khi q3 q4] = hh at *
      go_enter Tryz.func9, Tryz.ntmps9
      go_wp2_with fail
      refine (hL0.out _).mono ?_
      rintro e w1 ⟨rfl, bb⟩
      have T := (S.out.call bb)
      clear bb S
      have S := T
      clear T
      obtain ⟨c_v0, c_v1, c_v2⟩ := S.c3 0 rfl
      obtain ⟨c_b0, c_b1, c_b2, c_b3, c_b4, c_b5⟩ := S.c6 1 rfl
      obtain ⟨c_a0, c_a1, c_a2, c_a3, c_a4, c_a5⟩ := S.c6 2 rfl
      have hz : w.heap.size + 1 + 1 < w1.heap.size := S.lt 0 rfl
      replace S := Lib.hid S
      clear hL0
      go_wp2_with fail
      refine (hL1.out _).mono ?_
      rintro e w2 ⟨rfl, bb⟩
      have T := (S.out.call bb)
      clear bb S c_v0 c_v1 c_v2 c_b0 c_b1 c_b2 c_b3 c_b4 c_b5 c_a0 c_a1 c_a2 c_a3 c_a4 c_a5 hz
      have S := T
      clear T
      obtain ⟨c_v0, c_v1, c_v2⟩ := S.c3 0 rfl
      obtain ⟨c_b0, c_b1, c_b2, c_b3, c_b4, c_b5⟩ := S.c6 1 rfl
      obtain ⟨c_a0, c_a1, c_a2, c_a3, c_a4, c_a5⟩ := S.c6 2 rfl
      have hz : w.heap.size + 1 + 1 < w2.heap.size := S.lt 0 rfl
      replace S := Lib.hid S
      clear hL1
      go_wp2_with fail
      refine (hL2.out _).mono ?_
      rintro e w3 ⟨rfl, bb⟩
      have T := (S.out.call bb)
      clear bb S c_v0 c_v1 c_v2 c_b0 c_b1 c_b2 c_b3 c_b4 c_b5 c_a0 c_a1 c_a2 c_a3 c_a4 c_a5 hz
      have S := T
      clear T
      obtain ⟨c_v0, c_v1, c_v2⟩ := S.c3 0 rfl
      obtain ⟨c_b0, c_b1, c_b2, c_b3, c_b4, c_b5⟩ := S.c6 1 rfl
      obtain ⟨c_a0, c_a1, c_a2, c_a3, c_a4, c_a5⟩ := S.c6 2 rfl
      have hz : w.heap.size + 1 + 1 < w3.heap.size := S.lt 0 rfl
      replace S := Lib.hid S
      clear hL2
      go_wp2_with fail
      refine (hMe.out _ (Rw.of (S.out.r 9 rfl) (S.out.r 8 rfl) k1.out) (Rw.of (S.out.r 7 rfl) (S.out.r 6 rfl) k2.out) (Rw.of (S.out.r 5 rfl) (S.out.r 4 rfl) k3.out) (Rw.of (S.out.r 3 rfl) (S.out.r 2 rfl) k4.out)).mono ?_
      rintro e w4 ⟨A31, n31, c31, D31, m31, d31, A32, n32, c32, D32, m32, d32, rfl, Q31, Q32, bb⟩
      have T := (((((S.out.call bb).read Q31.n).read Q31.d).read Q32.n).read Q32.d)
      clear bb S c_v0 c_v1 c_v2 c_b0 c_b1 c_b2 c_b3 c_b4 c_b5 c_a0 c_a1 c_a2 c_a3 c_a4 c_a5 hz
      have S := T
      clear T
      obtain ⟨c_v0, c_v1, c_v2⟩ := S.c3 0 rfl
      obtain ⟨c_b0, c_b1, c_b2, c_b3, c_b4, c_b5⟩ := S.c6 1 rfl
      obtain ⟨c_a0, c_a1, c_a2, c_a3, c_a4, c_a5⟩ := S.c6 2 rfl
      have hz : w.heap.size + 1 + 1 < w4.heap.size := S.lt 0 rfl
      replace S := Lib.hid S
      clear Q31 Q32 hMe
      have S := (S.out.allocAt (w4.heap.size) #[.bool (ng lo.num), .slice A31 n31 c31, .slice D31 m31 d31, .bool (ng hi.num), .slice A32 n32 c32, .slice D32 m32 d32] 28 (noL6 _ _ _ _ _ _ _ _ _ _ _ _ _ _) (by simp))
      obtain ⟨a_a0, a_a1, a_a2, a_a3, a_a4, a_a5, b_a0, b_a1, b_a2, b_a3, b_a4, b_a5⟩ := S.cf6 3 rfl
      obtain ⟨a_b0, a_b1, a_b2, a_b3, a_b4, a_b5, b_b0, b_b1, b_b2, b_b3, b_b4, b_b5⟩ := S.cf6 2 rfl
      replace S := Lib.hid S
      go_wp2_with fail
      refine (hHu.out _ (Rw.of (S.out.r 13 rfl) (S.out.r 12 rfl) k1.out) (Rw.of (S.out.r 11 rfl) (S.out.r 10 rfl) k2.out) (Rw.of (S.out.r 9 rfl) (S.out.r 8 rfl) k3.out) (Rw.of (S.out.r 7 rfl) (S.out.r 6 rfl) k4.out)).mono ?_
      rintro e w5 ⟨A33, n33, c33, D33, m33, d33, A34, n34, c34, D34, m34, d34, rfl, Q33, Q34, bb⟩
      have T := (((((S.out.call bb).read Q33.n).read Q33.d).read Q34.n).read Q34.d)
      clear bb S c_v0 c_v1 c_v2 c_b0 c_b1 c_b2 c_b3 c_b4 c_b5 c_a0 c_a1 c_a2 c_a3 c_a4 c_a5 hz a_a0 b_a0 a_a1 b_a1 a_a2 b_a2 a_a3 b_a3 a_a4 b_a4 a_a5 b_a5 a_b0 b_b0 a_b1 b_b1 a_b2 b_b2 a_b3 b_b3 a_b4 b_b4 a_b5 b_b5
      have S := T
      clear T
      obtain ⟨c_x0, c_x1, c_x2, c_x3, c_x4, c_x5⟩ := S.c6 0 rfl
      obtain ⟨c_v0, c_v1, c_v2⟩ := S.c3 1 rfl
      obtain ⟨c_b0, c_b1, c_b2, c_b3, c_b4, c_b5⟩ := S.c6 2 rfl
      obtain ⟨c_a0, c_a1, c_a2, c_a3, c_a4, c_a5⟩ := S.c6 3 rfl
      have hz : w4.heap.size < w5.heap.size := S.lt 0 rfl
      replace S := Lib.hid S
      clear Q33 Q34 hHu
      have S := (S.out.allocAt (w5.heap.size) #[.bool (ng hl.num), .slice A33 n33 c33, .slice D33 m33 d33, .bool (ng hh.num), .slice A34 n34 c34, .slice D34 m34 d34] 28 (noL6 _ _ _ _ _ _ _ _ _ _ _ _ _ _) (by simp))
      obtain ⟨a_a0, a_a1, a_a2, a_a3, a_a4, a_a5, b_a0, b_a1, b_a2, b_a3, b_a4, b_a5⟩ := S.cf6 4 rfl
      obtain ⟨a_b0, a_b1, a_b2, a_b3, a_b4, a_b5, b_b0, b_b1, b_b2, b_b3, b_b4, b_b5⟩ := S.cf6 3 rfl
      obtain ⟨a_v0, a_v1, a_v2, b_v0, b_v1, b_v2⟩ := S.cf3 2 rfl
      obtain ⟨a_x0, a_x1, a_x2, a_x3, a_x4, a_x5, b_x0, b_x1, b_x2, b_x3, b_x4, b_x5⟩ := S.cf6 1 rfl
      replace S := Lib.hid S
      go_wp2_with fail
      refine (hCa.out _ (Rw.of (S.out.r 17 rfl) (S.out.r 16 rfl) k1.out) (Rw.of (S.out.r 15 rfl) (S.out.r 14 rfl) k2.out) (Rw.of (S.out.r 9 rfl) (S.out.r 8 rfl) k5.out)).mono ?_
      rintro e w6 ⟨rfl, bb⟩
      have T := (S.out.call bb)
      clear bb S c_x0 c_x1 c_x2 c_x3 c_x4 c_x5 c_v0 c_v1 c_v2 c_b0 c_b1 c_b2 c_b3 c_b4 c_b5 c_a0 c_a1 c_a2 c_a3 c_a4 c_a5 hz a_a0 b_a0 a_a1 b_a1 a_a2 b_a2 a_a3 b_a3 a_a4 b_a4 a_a5 b_a5 a_b0 b_b0 a_b1 b_b1 a_b2 b_b2 a_b3 b_b3 a_b4 b_b4 a_b5 b_b5 a_v0 b_v0 a_v1 b_v1 a_v2 b_v2 a_x0 b_x0 a_x1 b_x1 a_x2 b_x2 a_x3 b_x3 a_x4 b_x4 a_x5 b_x5
      have S := T
      clear T
      obtain ⟨c_h0, c_h1, c_h2, c_h3, c_h4, c_h5⟩ := S.c6 0 rfl
      obtain ⟨c_x0, c_x1, c_x2, c_x3, c_x4, c_x5⟩ := S.c6 1 rfl
      obtain ⟨c_v0, c_v1, c_v2⟩ := S.c3 2 rfl
      obtain ⟨c_b0, c_b1, c_b2, c_b3, c_b4, c_b5⟩ := S.c6 3 rfl
      obtain ⟨c_a0, c_a1, c_a2, c_a3, c_a4, c_a5⟩ := S.c6 4 rfl
      have hz : w5.heap.size < w6.heap.size := S.lt 0 rfl
      replace S := Lib.hid S
      clear hCa
      clear hCb
      go_wp2_with fail
      refine (hCx.out _ _ _ _ _ _ _ _ _ _ _ _ _ ⟨S.out.r 7 rfl, S.out.r 6 rfl⟩ ⟨S.out.r 5 rfl, S.out.r 4 rfl⟩ (Rw.of (S.out.r 9 rfl) (S.out.r 8 rfl) k5.out)).mono ?_
      rintro e w7 ⟨rfl, bb⟩
      have T := (S.out.call bb)
      clear bb S c_h0 c_h1 c_h2 c_h3 c_h4 c_h5 c_x0 c_x1 c_x2 c_x3 c_x4 c_x5 c_v0 c_v1 c_v2 c_b0 c_b1 c_b2 c_b3 c_b4 c_b5 c_a0 c_a1 c_a2 c_a3 c_a4 c_a5 hz
      have S := T
      clear T
      obtain ⟨c_h0, c_h1, c_h2, c_h3, c_h4, c_h5⟩ := S.c6 0 rfl
      obtain ⟨c_x0, c_x1, c_x2, c_x3, c_x4, c_x5⟩ := S.c6 1 rfl
      obtain ⟨c_v0, c_v1, c_v2⟩ := S.c3 2 rfl
      obtain ⟨c_b0, c_b1, c_b2, c_b3, c_b4, c_b5⟩ := S.c6 3 rfl
      obtain ⟨c_a0, c_a1, c_a2, c_a3, c_a4, c_a5⟩ := S.c6 4 rfl
      have hz : w5.heap.size < w7.heap.size := S.lt 0 rfl
      replace S := Lib.hid S
      clear hCx
      go_wp2_with fail
      refine (hA.out _).mono ?_
      rintro e w8 ⟨rfl, bb⟩
      have T := (S.out.call bb)
      clear bb S c_h0 c_h1 c_h2 c_h3 c_h4 c_h5 c_x0 c_x1 c_x2 c_x3 c_x4 c_x5 c_v0 c_v1 c_v2 c_b0 c_b1 c_b2 c_b3 c_b4 c_b5 c_a0 c_a1 c_a2 c_a3 c_a4 c_a5 hz
      have S := T
      clear T
      obtain ⟨c_h0, c_h1, c_h2, c_h3, c_h4, c_h5⟩ := S.c6 0 rfl
      obtain ⟨c_x0, c_x1, c_x2, c_x3, c_x4, c_x5⟩ := S.c6 1 rfl
      obtain ⟨c_v0, c_v1, c_v2⟩ := S.c3 2 rfl
      obtain ⟨c_b0, c_b1, c_b2, c_b3, c_b4, c_b5⟩ := S.c6 3 rfl
      obtain ⟨c_a0, c_a1, c_a2, c_a3, c_a4, c_a5⟩ := S.c6 4 rfl
      have hz : w5.heap.size < w8.heap.size := S.lt 0 rfl
      replace S := Lib.hid S
      go_wp2_with fail
      refine (hWa.out _ _ _ _ _ _ _ _ _ _ _ _ _ (Rw.of (S.out.r 17 rfl) (S.out.r 16 rfl) k1.out) (Rw.of (S.out.r 15 rfl) (S.out.r 14 rfl) k2.out) ⟨S.out.r 3 rfl, S.out.r 2 rfl⟩ ⟨S.out.r 1 rfl, S.out.r 0 rfl⟩).mono ?_
      rintro e w9 ⟨rfl, bb⟩
      have T := (S.out.call bb)
      clear bb S c_h0 c_h1 c_h2 c_h3 c_h4 c_h5 c_x0 c_x1 c_x2 c_x3 c_x4 c_x5 c_v0 c_v1 c_v2 c_b0 c_b1 c_b2 c_b3 c_b4 c_b5 c_a0 c_a1 c_a2 c_a3 c_a4 c_a5 hz
      have S := T
      clear T
      obtain ⟨c_h0, c_h1, c_h2, c_h3, c_h4, c_h5⟩ := S.c6 0 rfl
      obtain ⟨c_x0, c_x1, c_x2, c_x3, c_x4, c_x5⟩ := S.c6 1 rfl
      obtain ⟨c_v0, c_v1, c_v2⟩ := S.c3 2 rfl
      obtain ⟨c_b0, c_b1, c_b2, c_b3, c_b4, c_b5⟩ := S.c6 3 rfl
      obtain ⟨c_a0, c_a1, c_a2, c_a3, c_a4, c_a5⟩ := S.c6 4 rfl
      have hz : w5.heap.size < w9.heap.size := S.lt 0 rfl
      replace S := Lib.hid S
      clear hWa
      go_wp2_with fail
      refine (hWb.out _ _ _ _ _ _ _ _ _ _ _ _ _ (Rw.of (S.out.r 13 rfl) (S.out.r 12 rfl) k3.out) (Rw.of (S.out.r 11 rfl) (S.out.r 10 rfl) k4.out) ⟨S.out.r 3 rfl, S.out.r 2 rfl⟩ ⟨S.out.r 1 rfl, S.out.r 0 rfl⟩).mono ?_
      rintro e w10 ⟨rfl, bb⟩
      have T := (S.out.call bb)
      clear bb S c_h0 c_h1 c_h2 c_h3 c_h4 c_h5 c_x0 c_x1 c_x2 c_x3 c_x4 c_x5 c_v0 c_v1 c_v2 c_b0 c_b1 c_b2 c_b3 c_b4 c_b5 c_a0 c_a1 c_a2 c_a3 c_a4 c_a5 hz
      have S := T
      clear T
      obtain ⟨c_h0, c_h1, c_h2, c_h3, c_h4, c_h5⟩ := S.c6 0 rfl
      obtain ⟨c_x0, c_x1, c_x2, c_x3, c_x4, c_x5⟩ := S.c6 1 rfl
      obtain ⟨c_v0, c_v1, c_v2⟩ := S.c3 2 rfl
      obtain ⟨c_b0, c_b1, c_b2, c_b3, c_b4, c_b5⟩ := S.c6 3 rfl
      obtain ⟨c_a0, c_a1, c_a2, c_a3, c_a4, c_a5⟩ := S.c6 4 rfl
      have hz : w5.heap.size < w10.heap.size := S.lt 0 rfl
      replace S := Lib.hid S
      clear hWb
      go_wp2_with fail
      refine (hXa.out _ _ _ _ _ _ _ _ _ _ _ _ _ ⟨S.out.r 7 rfl, S.out.r 6 rfl⟩ ⟨S.out.r 5 rfl, S.out.r 4 rfl⟩ (Rw.of (S.out.r 17 rfl) (S.out.r 16 rfl) k1.out) (Rw.of (S.out.r 15 rfl) (S.out.r 14 rfl) k2.out)).mono ?_
      rintro e w11 ⟨rfl, bb⟩
      have T := (S.out.call bb)
      clear bb S c_h0 c_h1 c_h2 c_h3 c_h4 c_h5 c_x0 c_x1 c_x2 c_x3 c_x4 c_x5 c_v0 c_v1 c_v2 c_b0 c_b1 c_b2 c_b3 c_b4 c_b5 c_a0 c_a1 c_a2 c_a3 c_a4 c_a5 hz
      have S := T
      clear T
      obtain ⟨c_h0, c_h1, c_h2, c_h3, c_h4, c_h5⟩ := S.c6 0 rfl
      obtain ⟨c_x0, c_x1, c_x2, c_x3, c_x4, c_x5⟩ := S.c6 1 rfl
      obtain ⟨c_v0, c_v1, c_v2⟩ := S.c3 2 rfl
      obtain ⟨c_b0, c_b1, c_b2, c_b3, c_b4, c_b5⟩ := S.c6 3 rfl
      obtain ⟨c_a0, c_a1, c_a2, c_a3, c_a4, c_a5⟩ := S.c6 4 rfl
      have hz : w5.heap.size < w11.heap.size := S.lt 0 rfl
      replace S := Lib.hid S
      clear hXa
      go_wp2_with fail
      refine (hXb.out _ _ _ _ _ _ _ _ _ _ _ _ _ ⟨S.out.r 7 rfl, S.out.r 6 rfl⟩ ⟨S.out.r 5 rfl, S.out.r 4 rfl⟩ (Rw.of (S.out.r 13 rfl) (S.out.r 12 rfl) k3.out) (Rw.of (S.out.r 11 rfl) (S.out.r 10 rfl) k4.out)).mono ?_
      rintro e w12 ⟨rfl, bb⟩
      have T := (S.out.call bb)
      clear bb S c_h0 c_h1 c_h2 c_h3 c_h4 c_h5 c_x0 c_x1 c_x2 c_x3 c_x4 c_x5 c_v0 c_v1 c_v2 c_b0 c_b1 c_b2 c_b3 c_b4 c_b5 c_a0 c_a1 c_a2 c_a3 c_a4 c_a5 hz
      have S := T
      clear T
      obtain ⟨c_h0, c_h1, c_h2, c_h3, c_h4, c_h5⟩ := S.c6 0 rfl
      obtain ⟨c_x0, c_x1, c_x2, c_x3, c_x4, c_x5⟩ := S.c6 1 rfl
      obtain ⟨c_v0, c_v1, c_v2⟩ := S.c3 2 rfl
      obtain ⟨c_b0, c_b1, c_b2, c_b3, c_b4, c_b5⟩ := S.c6 3 rfl
      obtain ⟨c_a0, c_a1, c_a2, c_a3, c_a4, c_a5⟩ := S.c6 4 rfl
      have hz : w5.heap.size < w12.heap.size := S.lt 0 rfl
      replace S := Lib.hid S
      clear hXb
      have S := S.out
      replace S := Lib.hid S
      go_wp2
      go_ret
      exact ⟨rfl, S.out.bel⟩
    cases hb : (decide (klo q3 q4 ≤ q5) && decide (q5 ≤ khi q3 q4))
    · rw [ha, hb] at hCx
      rw [ha] at hCa
      rw [hb] at hCb
      replace hCa := Lib.hid hCa
      replace hCb := Lib.hid hCb
      clear ha hb
      replace hCx := Lib.hid hCx
      clear hHo rH ka kb kc kd mjf s1 s2 s3 s4 s5
      generalize minL [klo q1 q2, khi q1 q2, klo q3 q4, khi q3 q4] = hl at *
      generalize maxL [klo q1 q2, khi q1 q2, klo q3 q4, khi q3 q4] = hh at *
      go_enter Tryz.func9, Tryz.ntmps9
      go_wp2_with fail
      refine (hL0.out _).mono ?_
      rintro e w1 ⟨rfl, bb⟩
      have T := (S.out.call bb)
      clear bb S
      have S := T
      clear T
      obtain ⟨c_v0, c_v1, c_v2⟩ := S.c3 0 rfl
      obtain ⟨c_b0, c_b1, c_b2, c_b3, c_b4, c_b5⟩ := S.c6 1 rfl
      obtain ⟨c_a0, c_a1, c_a2, c_a3, c_a4, c_a5⟩ := S.c6 2 rfl
      have hz : w.heap.size + 1 + 1 < w1.heap.size := S.lt 0 rfl
      replace S := Lib.hid S
      clear hL0
      go_wp2_with fail
      refine (hL1.out _).mono ?_
      rintro e w2 ⟨rfl, bb⟩
      have T := (S.out.call bb)
      clear bb S c_v0 c_v1 c_v2 c_b0 c_b1 c_b2 c_b3 c_b4 c_b5 c_a0 c_a1 c_a2 c_a3 c_a4 c_a5 hz
      have S := T
      clear T
      obtain ⟨c_v0, c_v1, c_v2⟩ := S.c3 0 rfl
      obtain ⟨c_b0, c_b1, c_b2, c_b3, c_b4, c_b5⟩ := S.c6 1 rfl
      obtain ⟨c_a0, c_a1, c_a2, c_a3, c_a4, c_a5⟩ := S.c6 2 rfl
      have hz : w.heap.size + 1 + 1 < w2.heap.size := S.lt 0 rfl
      replace S := Lib.hid S
      clear hL1
      go_wp2_with fail
      refine (hL2.out _).mono ?_
      rintro e w3 ⟨rfl, bb⟩
      have T := (S.out.call bb)
      clear bb S c_v0 c_v1 c_v2 c_b0 c_b1 c_b2 c_b3 c_b4 c_b5 c_a0 c_a1 c_a2 c_a3 c_a4 c_a5 hz
      have S := T
      clear T
      obtain ⟨c_v0, c_v1, c_v2⟩ := S.c3 0 rfl
      obtain ⟨c_b0, c_b1, c_b2, c_b3, c_b4, c_b5⟩ := S.c6 1 rfl
      obtain ⟨c_a0, c_a1, c_a2, c_a3, c_a4, c_a5⟩ := S.c6 2 rfl
      have hz : w.heap.size + 1 + 1 < w3.heap.size := S.lt 0 rfl
      replace S := Lib.hid S
      clear hL2
      go_wp2_with fail
      refine (hMe.out _ (Rw.of (S.out.r 9 rfl) (S.out.r 8 rfl) k1.out) (Rw.of (S.out.r 7 rfl) (S.out.r 6 rfl) k2.out) (Rw.of (S.out.r 5 rfl) (S.out.r 4 rfl) k3.out) (Rw.of (S.out.r 3 rfl) (S.out.r 2 rfl) k4.out)).mono ?_
      rintro e w4 ⟨A31, n31, c31, D31, m31, d31, A32, n32, c32, D32, m32, d32, rfl, Q31, Q32, bb⟩
      have T := (((((S.out.call bb).read Q31.n).read Q31.d).read Q32.n).read Q32.d)
      clear bb S c_v0 c_v1 c_v2 c_b0 c_b1 c_b2 c_b3 c_b4 c_b5 c_a0 c_a1 c_a2 c_a3 c_a4 c_a5 hz
      have S := T
      clear T
      obtain ⟨c_v0, c_v1, c_v2⟩ := S.c3 0 rfl
      obtain ⟨c_b0, c_b1, c_b2, c_b3, c_b4, c_b5⟩ := S.c6 1 rfl
      obtain ⟨c_a0, c_a1, c_a2, c_a3, c_a4, c_a5⟩ := S.c6 2 rfl
      have hz : w.heap.size + 1 + 1 < w4.heap.size := S.lt 0 rfl
      replace S := Lib.hid S
      clear Q31 Q32 hMe
      have S := (S.out.allocAt (w4.heap.size) #[.bool (ng lo.num), .slice A31 n31 c31, .slice D31 m31 d31, .bool (ng hi.num), .slice A32 n32 c32, .slice D32 m32 d32] 28 (noL6 _ _ _ _ _ _ _ _ _ _ _ _ _ _) (by simp))
      obtain ⟨a_a0, a_a1, a_a2, a_a3, a_a4, a_a5, b_a0, b_a1, b_a2, b_a3, b_a4, b_a5⟩ := S.cf6 3 rfl
      obtain ⟨a_b0, a_b1, a_b2, a_b3, a_b4, a_b5, b_b0, b_b1, b_b2, b_b3, b_b4, b_b5⟩ := S.cf6 2 rfl
      replace S := Lib.hid S
      go_wp2_with fail
      refine (hHu.out _ (Rw.of (S.out.r 13 rfl) (S.out.r 12 rfl) k1.out) (Rw.of (S.out.r 11 rfl) (S.out.r 10 rfl) k2.out) (Rw.of (S.out.r 9 rfl) (S.out.r 8 rfl) k3.out) (Rw.of (S.out.r 7 rfl) (S.out.r 6 rfl) k4.out)).mono ?_
      rintro e w5 ⟨A33, n33, c33, D33, m33, d33, A34, n34, c34, D34, m34, d34, rfl, Q33, Q34, bb⟩
      have T := (((((S.out.call bb).read Q33.n).read Q33.d).read Q34.n).read Q34.d)
      clear bb S c_v0 c_v1 c_v2 c_b0 c_b1 c_b2 c_b3 c_b4 c_b5 c_a0 c_a1 c_a2 c_a3 c_a4 c_a5 hz a_a0 b_a0 a_a1 b_a1 a_a2 b_a2 a_a3 b_a3 a_a4 b_a4 a_a5 b_a5 a_b0 b_b0 a_b1 b_b1 a_b2 b_b2 a_b3 b_b3 a_b4 b_b4 a_b5 b_b5
      have S := T
      clear T
      obtain ⟨c_x0, c_x1, c_x2, c_x3, c_x4, c_x5⟩ := S.c6 0 rfl
      obtain ⟨c_v0, c_v1, c_v2⟩ := S.c3 1 rfl
      obtain ⟨c_b0, c_b1, c_b2, c_b3, c_b4, c_b5⟩ := S.c6 2 rfl
      obtain ⟨c_a0, c_a1, c_a2, c_a3, c_a4, c_a5⟩ := S.c6 3 rfl
      have hz : w4.heap.size < w5.heap.size := S.lt 0 rfl
      replace S := Lib.hid S
      clear Q33 Q34 hHu
      have S := (S.out.allocAt (w5.heap.size) #[.bool (ng hl.num), .slice A33 n33 c33, .slice D33 m33 d33, .bool (ng hh.num), .slice A34 n34 c34, .slice D34 m34 d34] 28 (noL6 _ _ _ _ _ _ _ _ _ _ _ _ _ _) (by simp))
      obtain ⟨a_a0, a_a1, a_a2, a_a3, a_a4, a_a5, b_a0, b_a1, b_a2, b_a3, b_a4, b_a5⟩ := S.cf6 4 rfl
      obtain ⟨a_b0, a_b1, a_b2, a_b3, a_b4, a_b5, b_b0, b_b1, b_b2, b_b3, b_b4, b_b5⟩ := S.cf6 3 rfl
      obtain ⟨a_v0, a_v1, a_v2, b_v0, b_v1, b_v2⟩ := S.cf3 2 rfl
      obtain ⟨a_x0, a_x1, a_x2, a_x3, a_x4, a_x5, b_x0, b_x1, b_x2, b_x3, b_x4, b_x5⟩ := S.cf6 1 rfl
      replace S := Lib.hid S
      go_wp2_with fail
      refine (hCa.out _ (Rw.of (S.out.r 17 rfl) (S.out.r 16 rfl) k1.out) (Rw.of (S.out.r 15 rfl) (S.out.r 14 rfl) k2.out) (Rw.of (S.out.r 9 rfl) (S.out.r 8 rfl) k5.out)).mono ?_
      rintro e w6 ⟨rfl, bb⟩
      have T := (S.out.call bb)
      clear bb S c_x0 c_x1 c_x2 c_x3 c_x4 c_x5 c_v0 c_v1 c_v2 c_b0 c_b1 c_b2 c_b3 c_b4 c_b5 c_a0 c_a1 c_a2 c_a3 c_a4 c_a5 hz a_a0 b_a0 a_a1 b_a1 a_a2 b_a2 a_a3 b_a3 a_a4 b_a4 a_a5 b_a5 a_b0 b_b0 a_b1 b_b1 a_b2 b_b2 a_b3 b_b3 a_b4 b_b4 a_b5 b_b5 a_v0 b_v0 a_v1 b_v1 a_v2 b_v2 a_x0 b_x0 a_x1 b_x1 a_x2 b_x2 a_x3 b_x3 a_x4 b_x4 a_x5 b_x5
      have S := T
      clear T
      obtain ⟨c_h0, c_h1, c_h2, c_h3, c_h4, c_h5⟩ := S.c6 0 rfl
      obtain ⟨c_x0, c_x1, c_x2, c_x3, c_x4, c_x5⟩ := S.c6 1 rfl
      obtain ⟨c_v0, c_v1, c_v2⟩ := S.c3 2 rfl
      obtain ⟨c_b0, c_b1, c_b2, c_b3, c_b4, c_b5⟩ := S.c6 3 rfl
      obtain ⟨c_a0, c_a1, c_a2, c_a3, c_a4, c_a5⟩ := S.c6 4 rfl
      have hz : w5.heap.size < w6.heap.size := S.lt 0 rfl
      replace S := Lib.hid S
      clear hCa
      go_wp2_with fail
      refine (hCb.out _ (Rw.of (S.out.r 13 rfl) (S.out.r 12 rfl) k3.out) (Rw.of (S.out.r 11 rfl) (S.out.r 10 rfl) k4.out) (Rw.of (S.out.r 9 rfl) (S.out.r 8 rfl) k5.out)).mono ?_
      rintro e w7 ⟨rfl, bb⟩
      have T := (S.out.call bb)
      clear bb S c_h0 c_h1 c_h2 c_h3 c_h4 c_h5 c_x0 c_x1 c_x2 c_x3 c_x4 c_x5 c_v0 c_v1 c_v2 c_b0 c_b1 c_b2 c_b3 c_b4 c_b5 c_a0 c_a1 c_a2 c_a3 c_a4 c_a5 hz
      have S := T
      clear T
      obtain ⟨c_h0, c_h1, c_h2, c_h3, c_h4, c_h5⟩ := S.c6 0 rfl
      obtain ⟨c_x0, c_x1, c_x2, c_x3, c_x4, c_x5⟩ := S.c6 1 rfl
      obtain ⟨c_v0, c_v1, c_v2⟩ := S.c3 2 rfl
      obtain ⟨c_b0, c_b1, c_b2, c_b3, c_b4, c_b5⟩ := S.c6 3 rfl
      obtain ⟨c_a0, c_a1, c_a2, c_a3, c_a4, c_a5⟩ := S.c6 4 rfl
      have hz : w5.heap.size < w7.heap.size := S.lt 0 rfl
      replace S := Lib.hid S
      clear hCb
      go_wp2_with fail
      refine (hCx.out _ _ _ _ _ _ _ _ _ _ _ _ _ ⟨S.out.r 7 rfl, S.out.r 6 rfl⟩ ⟨S.out.r 5 rfl, S.out.r 4 rfl⟩ (Rw.of (S.out.r 9 rfl) (S.out.r 8 rfl) k5.out)).mono ?_
      rintro e w8 ⟨rfl, bb⟩
      have T := (S.out.call bb)
      clear bb S c_h0 c_h1 c_h2 c_h3 c_h4 c_h5 c_x0 c_x1 c_x2 c_x3 c_x4 c_x5 c_v0 c_v1 c_v2 c_b0 c_b1 c_b2 c_b3 c_b4 c_b5 c_a0 c_a1 c_a2 c_a3 c_a4 c_a5 hz
      have S := T
      clear T
      obtain ⟨c_h0, c_h1, c_h2, c_h3, c_h4, c_h5⟩ := S.c6 0 rfl
      obtain ⟨c_x0, c_x1, c_x2, c_x3, c_x4, c_x5⟩ := S.c6 1 rfl
      obtain ⟨c_v0, c_v1, c_v2⟩ := S.c3 2 rfl
      obtain ⟨c_b0, c_b1, c_b2, c_b3, c_b4, c_b5⟩ := S.c6 3 rfl
      obtain ⟨c_a0, c_a1, c_a2, c_a3, c_a4, c_a5⟩ := S.c6 4 rfl
      have hz : w5.heap.size < w8.heap.size := S.lt 0 rfl
      replace S := Lib.hid S
      clear hCx
      go_wp2_with fail
      refine (hA.out _).mono ?_
      rintro e w9 ⟨rfl, bb⟩
      have T := (S.out.call bb)
      clear bb S c_h0 c_h1 c_h2 c_h3 c_h4 c_h5 c_x0 c_x1 c_x2 c_x3 c_x4 c_x5 c_v0 c_v1 c_v2 c_b0 c_b1 c_b2 c_b3 c_b4 c_b5 c_a0 c_a1 c_a2 c_a3 c_a4 c_a5 hz
      have S := T
      clear T
      obtain ⟨c_h0, c_h1, c_h2, c_h3, c_h4, c_h5⟩ := S.c6 0 rfl
      obtain ⟨c_x0, c_x1, c_x2, c_x3, c_x4, c_x5⟩ := S.c6 1 rfl
      obtain ⟨c_v0, c_v1, c_v2⟩ := S.c3 2 rfl
      obtain ⟨c_b0, c_b1, c_b2, c_b3, c_b4, c_b5⟩ := S.c6 3 rfl
      obtain ⟨c_a0, c_a1, c_a2, c_a3, c_a4, c_a5⟩ := S.c6 4 rfl
      have hz : w5.heap.size < w9.heap.size := S.lt 0 rfl
      replace S := Lib.hid S
      go_wp2_with fail
      refine (hWa.out _ _ _ _ _ _ _ _ _ _ _ _ _ (Rw.of (S.out.r 17 rfl) (S.out.r 16 rfl) k1.out) (Rw.of (S.out.r 15 rfl) (S.out.r 14 rfl) k2.out) ⟨S.out.r 3 rfl, S.out.r 2 rfl⟩ ⟨S.out.r 1 rfl, S.out.r 0 rfl⟩).mono ?_
      rintro e w10 ⟨rfl, bb⟩
      have T := (S.out.call bb)
      clear bb S c_h0 c_h1 c_h2 c_h3 c_h4 c_h5 c_x0 c_x1 c_x2 c_x3 c_x4 c_x5 c_v0 c_v1 c_v2 c_b0 c_b1 c_b2 c_b3 c_b4 c_b5 c_a0 c_a1 c_a2 c_a3 c_a4 c_a5 hz
      have S := T
      clear T
      obtain ⟨c_h0, c_h1, c_h2, c_h3, c_h4, c_h5⟩ := S.c6 0 rfl
      obtain ⟨c_x0, c_x1, c_x2, c_x3, c_x4, c_x5⟩ := S.c6 1 rfl
      obtain ⟨c_v0, c_v1, c_v2⟩ := S.c3 2 rfl
      obtain ⟨c_b0, c_b1, c_b2, c_b3, c_b4, c_b5⟩ := S.c6 3 rfl
      obtain ⟨c_a0, c_a1, c_a2, c_a3, c_a4, c_a5⟩ := S.c6 4 rfl
      have hz : w5.heap.size < w10.heap.size := S.lt 0 rfl
      replace S := Lib.hid S
      clear hWa
      go_wp2_with fail
      refine (hWb.out _ _ _ _ _ _ _ _ _ _ _ _ _ (Rw.of (S.out.r 13 rfl) (S.out.r 12 rfl) k3.out) (Rw.of (S.out.r 11 rfl) (S.out.r 10 rfl) k4.out) ⟨S.out.r 3 rfl, S.out.r 2 rfl⟩ ⟨S.out.r 1 rfl, S.out.r 0 rfl⟩).mono ?_
      rintro e w11 ⟨rfl, bb⟩
      have T := (S.out.call bb)
      clear bb S c_h0 c_h1 c_h2 c_h3 c_h4 c_h5 c_x0 c_x1 c_x2 c_x3 c_x4 c_x5 c_v0 c_v1 c_v2 c_b0 c_b1 c_b2 c_b3 c_b4 c_b5 c_a0 c_a1 c_a2 c_a3 c_a4 c_a5 hz
      have S := T
      clear T
      obtain ⟨c_h0, c_h1, c_h2, c_h3, c_h4, c_h5⟩ := S.c6 0 rfl
      obtain ⟨c_x0, c_x1, c_x2, c_x3, c_x4, c_x5⟩ := S.c6 1 rfl
      obtain ⟨c_v0, c_v1, c_v2⟩ := S.c3 2 rfl
      obtain ⟨c_b0, c_b1, c_b2, c_b3, c_b4, c_b5⟩ := S.c6 3 rfl
      obtain ⟨c_a0, c_a1, c_a2, c_a3, c_a4, c_a5⟩ := S.c6 4 rfl
      have hz : w5.heap.size < w11.heap.size := S.lt 0 rfl
      replace S := Lib.hid S
      clear hWb
      go_wp2_with fail
      refine (hXa.out _ _ _ _ _ _ _ _ _ _ _ _ _ ⟨S.out.r 7 rfl, S.out.r 6 rfl⟩ ⟨S.out.r 5 rfl, S.out.r 4 rfl⟩ (Rw.of (S.out.r 17 rfl) (S.out.r 16 rfl) k1.out) (Rw.of (S.out.r 15 rfl) (S.out.r 14 rfl) k2.out)).mono ?_
      rintro e w12 ⟨rfl, bb⟩
      have T := (S.out.call bb)
      clear bb S c_h0 c_h1 c_h2 c_h3 c_h4 c_h5 c_x0 c_x1 c_x2 c_x3 c_x4 c_x5 c_v0 c_v1 c_v2 c_b0 c_b1 c_b2 c_b3 c_b4 c_b5 c_a0 c_a1 c_a2 c_a3 c_a4 c_a5 hz
      have S := T
      clear T
      obtain ⟨c_h0, c_h1, c_h2, c_h3, c_h4, c_h5⟩ := S.c6 0 rfl
      obtain ⟨c_x0, c_x1, c_x2, c_x3, c_x4, c_x5⟩ := S.c6 1 rfl
      obtain ⟨c_v0, c_v1, c_v2⟩ := S.c3 2 rfl
      obtain ⟨c_b0, c_b1, c_b2, c_b3, c_b4, c_b5⟩ := S.c6 3 rfl
      obtain ⟨c_a0, c_a1, c_a2, c_a3, c_a4, c_a5⟩ := S.c6 4 rfl
      have hz : w5.heap.size < w12.heap.size := S.lt 0 rfl
      replace S := Lib.hid S
      clear hXa
      go_wp2_with fail
      refine (hXb.out _ _ _ _ _ _ _ _ _ _ _ _ _ ⟨S.out.r 7 rfl, S.out.r 6 rfl⟩ ⟨S.out.r 5 rfl, S.out.r 4 rfl⟩ (Rw.of (S.out.r 13 rfl) (S.out.r 12 rfl) k3.out) (Rw.of (S.out.r 11 rfl) (S.out.r 10 rfl) k4.out)).mono ?_
      rintro e w13 ⟨rfl, bb⟩
      have T := (S.out.call bb)
      clear bb S c_h0 c_h1 c_h2 c_h3 c_h4 c_h5 c_x0 c_x1 c_x2 c_x3 c_x4 c_x5 c_v0 c_v1 c_v2 c_b0 c_b1 c_b2 c_b3 c_b4 c_b5 c_a0 c_a1 c_a2 c_a3 c_a4 c_a5 hz
      have S := T
      clear T
      obtain ⟨c_h0, c_h1, c_h2, c_h3, c_h4, c_h5⟩ := S.c6 0 rfl
      obtain ⟨c_x0, c_x1, c_x2, c_x3, c_x4, c_x5⟩ := S.c6 1 rfl
      obtain ⟨c_v0, c_v1, c_v2⟩ := S.c3 2 rfl
      obtain ⟨c_b0, c_b1, c_b2, c_b3, c_b4, c_b5⟩ := S.c6 3 rfl
      obtain ⟨c_a0, c_a1, c_a2, c_a3, c_a4, c_a5⟩ := S.c6 4 rfl
      have hz : w5.heap.size < w13.heap.size := S.lt 0 rfl
      replace S := Lib.hid S
      clear hXb
      have S := S.out
      replace S := Lib.hid S
      go_wp2
      go_ret
      exact ⟨rfl, S.out.bel⟩
    · rw [ha, hb] at hCx
      rw [ha] at hCa
      rw [hb] at hCb
      replace hCa := Lib.hid hCa
      replace hCb := Lib.hid hCb
      clear ha hb
      replace hCx := Lib.hid hCx
      clear hHo rH ka kb kc kd mjf s1 s2 s3 s4 s5
      generalize minL [klo q1 q2, khi q1 q2, klo q3 q4, khi q3 q4] = hl at *
      generalize maxL [klo q1 q2, khi q1 q2, klo q3 q4, khi q3 q4] = hh at *
      go_enter Tryz.func9, Tryz.ntmps9
      go_wp2_with fail
      refine (hL0.out _).mono ?_
      rintro e w1 ⟨rfl, bb⟩
      have T := (S.out.call bb)
      clear bb S
      have S := T
      clear T
      obtain ⟨c_v0, c_v1, c_v2⟩ := S.c3 0 rfl
      obtain ⟨c_b0, c_b1, c_b2, c_b3, c_b4, c_b5⟩ := S.c6 1 rfl
      obtain ⟨c_a0, c_a1, c_a2, c_a3, c_a4, c_a5⟩ := S.c6 2 rfl
      have hz : w.heap.size + 1 + 1 < w1.heap.size := S.lt 0 rfl
      replace S := Lib.hid S
      clear hL0
      go_wp2_with fail
      refine (hL1.out _).mono ?_
      rintro e w2 ⟨rfl, bb⟩
      have T := (S.out.call bb)
      clear bb S c_v0 c_v1 c_v2 c_b0 c_b1 c_b2 c_b3 c_b4 c_b5 c_a0 c_a1 c_a2 c_a3 c_a4 c_a5 hz
      have S := T
      clear T
      obtain ⟨c_v0, c_v1, c_v2⟩ := S.c3 0 rfl
      obtain ⟨c_b0, c_b1, c_b2, c_b3, c_b4, c_b5⟩ := S.c6 1 rfl
      obtain ⟨c_a0, c_a1, c_a2, c_a3, c_a4, c_a5⟩ := S.c6 2 rfl
      have hz : w.heap.size + 1 + 1 < w2.heap.size := S.lt 0 rfl
      replace S := Lib.hid S
      clear hL1
      go_wp2_with fail
      refine (hL2.out _).mono ?_
      rintro e w3 ⟨rfl, bb⟩
      have T := (S.out.call bb)
      clear bb S c_v0 c_v1 c_v2 c_b0 c_b1 c_b2 c_b3 c_b4 c_b5 c_a0 c_a1 c_a2 c_a3 c_a4 c_a5 hz
      have S := T
      clear T
      obtain ⟨c_v0, c_v1, c_v2⟩ := S.c3 0 rfl
      obtain ⟨c_b0, c_b1, c_b2, c_b3, c_b4, c_b5⟩ := S.c6 1 rfl
      obtain ⟨c_a0, c_a1, c_a2, c_a3, c_a4, c_a5⟩ := S.c6 2 rfl
      have hz : w.heap.size + 1 + 1 < w3.heap.size := S.lt 0 rfl
      replace S := Lib.hid S
      clear hL2
      go_wp2_with fail
      refine (hMe.out _ (Rw.of (S.out.r 9 rfl) (S.out.r 8 rfl) k1.out) (Rw.of (S.out.r 7 rfl) (S.out.r 6 rfl) k2.out) (Rw.of (S.out.r 5 rfl) (S.out.r 4 rfl) k3.out) (Rw.of (S.out.r 3 rfl) (S.out.r 2 rfl) k4.out)).mono ?_
      rintro e w4 ⟨A31, n31, c31, D31, m31, d31, A32, n32, c32, D32, m32, d32, rfl, Q31, Q32, bb⟩
      have T := (((((S.out.call bb).read Q31.n).read Q31.d).read Q32.n).read Q32.d)
      clear bb S c_v0 c_v1 c_v2 c_b0 c_b1 c_b2 c_b3 c_b4 c_b5 c_a0 c_a1 c_a2 c_a3 c_a4 c_a5 hz
      have S := T
      clear T
      obtain ⟨c_v0, c_v1, c_v2⟩ := S.c3 0 rfl
      obtain ⟨c_b0, c_b1, c_b2, c_b3, c_b4, c_b5⟩ := S.c6 1 rfl
      obtain ⟨c_a0, c_a1, c_a2, c_a3, c_a4, c_a5⟩ := S.c6 2 rfl
      have hz : w.heap.size + 1 + 1 < w4.heap.size := S.lt 0 rfl
      replace S := Lib.hid S
      clear Q31 Q32 hMe
      have S := (S.out.allocAt (w4.heap.size) #[.bool (ng lo.num), .slice A31 n31 c31, .slice D31 m31 d31, .bool (ng hi.num), .slice A32 n32 c32, .slice D32 m32 d32] 28 (noL6 _ _ _ _ _ _ _ _ _ _ _ _ _ _) (by simp))
      obtain ⟨a_a0, a_a1, a_a2, a_a3, a_a4, a_a5, b_a0, b_a1, b_a2, b_a3, b_a4, b_a5⟩ := S.cf6 3 rfl
      obtain ⟨a_b0, a_b1, a_b2, a_b3, a_b4, a_b5, b_b0, b_b1, b_b2, b_b3, b_b4, b_b5⟩ := S.cf6 2 rfl
      replace S := Lib.hid S
      go_wp2_with fail
      refine (hHu.out _ (Rw.of (S.out.r 13 rfl) (S.out.r 12 rfl) k1.out) (Rw.of (S.out.r 11 rfl) (S.out.r 10 rfl) k2.out) (Rw.of (S.out.r 9 rfl) (S.out.r 8 rfl) k3.out) (Rw.of (S.out.r 7 rfl) (S.out.r 6 rfl) k4.out)).mono ?_
      rintro e w5 ⟨A33, n33, c33, D33, m33, d33, A34, n34, c34, D34, m34, d34, rfl, Q33, Q34, bb⟩
      have T := (((((S.out.call bb).read Q33.n).read Q33.d).read Q34.n).read Q34.d)
      clear bb S c_v0 c_v1 c_v2 c_b0 c_b1 c_b2 c_b3 c_b4 c_b5 c_a0 c_a1 c_a2 c_a3 c_a4 c_a5 hz a_a0 b_a0 a_a1 b_a1 a_a2 b_a2 a_a3 b_a3 a_a4 b_a4 a_a5 b_a5 a_b0 b_b0 a_b1 b_b1 a_b2 b_b2 a_b3 b_b3 a_b4 b_b4 a_b5 b_b5
      have S := T
      clear T
      obtain ⟨c_x0, c_x1, c_x2, c_x3, c_x4, c_x5⟩ := S.c6 0 rfl
      obtain ⟨c_v0, c_v1, c_v2⟩ := S.c3 1 rfl
      obtain ⟨c_b0, c_b1, c_b2, c_b3, c_b4, c_b5⟩ := S.c6 2 rfl
      obtain ⟨c_a0, c_a1, c_a2, c_a3, c_a4, c_a5⟩ := S.c6 3 rfl
      have hz : w4.heap.size < w5.heap.size := S.lt 0 rfl
      replace S := Lib.hid S
      clear Q33 Q34 hHu
      have S := (S.out.allocAt (w5.heap.size) #[.bool (ng hl.num), .slice A33 n33 c33, .slice D33 m33 d33, .bool (ng hh.num), .slice A34 n34 c34, .slice D34 m34 d34] 28 (noL6 _ _ _ _ _ _ _ _ _ _ _ _ _ _) (by simp))
      obtain ⟨a_a0, a_a1, a_a2, a_a3, a_a4, a_a5, b_a0, b_a1, b_a2, b_a3, b_a4, b_a5⟩ := S.cf6 4 rfl
      obtain ⟨a_b0, a_b1, a_b2, a_b3, a_b4, a_b5, b_b0, b_b1, b_b2, b_b3, b_b4, b_b5⟩ := S.cf6 3 rfl
      obtain ⟨a_v0, a_v1, a_v2, b_v0, b_v1, b_v2⟩ := S.cf3 2 rfl
      obtain ⟨a_x0, a_x1, a_x2, a_x3, a_x4, a_x5, b_x0, b_x1, b_x2, b_x3, b_x4, b_x5⟩ := S.cf6 1 rfl
      replace S := Lib.hid S
      go_wp2_with fail
      refine (hCa.out _ (Rw.of (S.out.r 17 rfl) (S.out.r 16 rfl) k1.out) (Rw.of (S.out.r 15 rfl) (S.out.r 14 rfl) k2.out) (Rw.of (S.out.r 9 rfl) (S.out.r 8 rfl) k5.out)).mono ?_
      rintro e w6 ⟨rfl, bb⟩
      have T := (S.out.call bb)
      clear bb S c_x0 c_x1 c_x2 c_x3 c_x4 c_x5 c_v0 c_v1 c_v2 c_b0 c_b1 c_b2 c_b3 c_b4 c_b5 c_a0 c_a1 c_a2 c_a3 c_a4 c_a5 hz a_a0 b_a0 a_a1 b_a1 a_a2 b_a2 a_a3 b_a3 a_a4 b_a4 a_a5 b_a5 a_b0 b_b0 a_b1 b_b1 a_b2 b_b2 a_b3 b_b3 a_b4 b_b4 a_b5 b_b5 a_v0 b_v0 a_v1 b_v1 a_v2 b_v2 a_x0 b_x0 a_x1 b_x1 a_x2 b_x2 a_x3 b_x3 a_x4 b_x4 a_x5 b_x5
      have S := T
      clear T
      obtain ⟨c_h0, c_h1, c_h2, c_h3, c_h4, c_h5⟩ := S.c6 0 rfl
      obtain ⟨c_x0, c_x1, c_x2, c_x3, c_x4, c_x5⟩ := S.c6 1 rfl
      obtain ⟨c_v0, c_v1, c_v2⟩ := S.c3 2 rfl
      obtain ⟨c_b0, c_b1, c_b2, c_b3, c_b4, c_b5⟩ := S.c6 3 rfl
      obtain ⟨c_a0, c_a1, c_a2, c_a3, c_a4, c_a5⟩ := S.c6 4 rfl
      have hz : w5.heap.size < w6.heap.size := S.lt 0 rfl
      replace S := Lib.hid S
      clear hCa
      go_wp2_with fail
      refine (hCb.out _ (Rw.of (S.out.r 13 rfl) (S.out.r 12 rfl) k3.out) (Rw.of (S.out.r 11 rfl) (S.out.r 10 rfl) k4.out) (Rw.of (S.out.r 9 rfl) (S.out.r 8 rfl) k5.out)).mono ?_
      rintro e w7 ⟨rfl, bb⟩
      have T := (S.out.call bb)
      clear bb S c_h0 c_h1 c_h2 c_h3 c_h4 c_h5 c_x0 c_x1 c_x2 c_x3 c_x4 c_x5 c_v0 c_v1 c_v2 c_b0 c_b1 c_b2 c_b3 c_b4 c_b5 c_a0 c_a1 c_a2 c_a3 c_a4 c_a5 hz
      have S := T
      clear T
      obtain ⟨c_h0, c_h1, c_h2, c_h3, c_h4, c_h5⟩ := S.c6 0 rfl
      obtain ⟨c_x0, c_x1, c_x2, c_x3, c_x4, c_x5⟩ := S.c6 1 rfl
      obtain ⟨c_v0, c_v1, c_v2⟩ := S.c3 2 rfl
      obtain ⟨c_b0, c_b1, c_b2, c_b3, c_b4, c_b5⟩ := S.c6 3 rfl
      obtain ⟨c_a0, c_a1, c_a2, c_a3, c_a4, c_a5⟩ := S.c6 4 rfl
      have hz : w5.heap.size < w7.heap.size := S.lt 0 rfl
      replace S := Lib.hid S
      clear hCb
      go_wp2_with fail
      refine (hCx.out _ _ _ _ _ _ _ _ _ _ _ _ _ ⟨S.out.r 7 rfl, S.out.r 6 rfl⟩ ⟨S.out.r 5 rfl, S.out.r 4 rfl⟩ (Rw.of (S.out.r 9 rfl) (S.out.r 8 rfl) k5.out)).mono ?_
      rintro e w8 ⟨rfl, bb⟩
      have T := (S.out.call bb)
      clear bb S c_h0 c_h1 c_h2 c_h3 c_h4 c_h5 c_x0 c_x1 c_x2 c_x3 c_x4 c_x5 c_v0 c_v1 c_v2 c_b0 c_b1 c_b2 c_b3 c_b4 c_b5 c_a0 c_a1 c_a2 c_a3 c_a4 c_a5 hz
      have S := T
      clear T
      obtain ⟨c_h0, c_h1, c_h2, c_h3, c_h4, c_h5⟩ := S.c6 0 rfl
      obtain ⟨c_x0, c_x1, c_x2, c_x3, c_x4, c_x5⟩ := S.c6 1 rfl
      obtain ⟨c_v0, c_v1, c_v2⟩ := S.c3 2 rfl
      obtain ⟨c_b0, c_b1, c_b2, c_b3, c_b4, c_b5⟩ := S.c6 3 rfl
      obtain ⟨c_a0, c_a1, c_a2, c_a3, c_a4, c_a5⟩ := S.c6 4 rfl
      have hz : w5.heap.size < w8.heap.size := S.lt 0 rfl
      replace S := Lib.hid S
      clear hCx
      go_wp2_with fail
      refine (hA.out _).mono ?_
      rintro e w9 ⟨rfl, bb⟩
      have T := (S.out.call bb)
      clear bb S c_h0 c_h1 c_h2 c_h3 c_h4 c_h5 c_x0 c_x1 c_x2 c_x3 c_x4 c_x5 c_v0 c_v1 c_v2 c_b0 c_b1 c_b2 c_b3 c_b4 c_b5 c_a0 c_a1 c_a2 c_a3 c_a4 c_a5 hz
      have S := T
      clear T
      obtain ⟨c_h0, c_h1, c_h2, c_h3, c_h4, c_h5⟩ := S.c6 0 rfl
      obtain ⟨c_x0, c_x1, c_x2, c_x3, c_x4, c_x5⟩ := S.c6 1 rfl
      obtain ⟨c_v0, c_v1, c_v2⟩ := S.c3 2 rfl
      obtain ⟨c_b0, c_b1, c_b2, c_b3, c_b4, c_b5⟩ := S.c6 3 rfl
      obtain ⟨c_a0, c_a1, c_a2, c_a3, c_a4, c_a5⟩ := S.c6 4 rfl
      have hz : w5.heap.size < w9.heap.size := S.lt 0 rfl
      replace S := Lib.hid S
      go_wp2_with fail
      refine (hWa.out _ _ _ _ _ _ _ _ _ _ _ _ _ (Rw.of (S.out.r 17 rfl) (S.out.r 16 rfl) k1.out) (Rw.of (S.out.r 15 rfl) (S.out.r 14 rfl) k2.out) ⟨S.out.r 3 rfl, S.out.r 2 rfl⟩ ⟨S.out.r 1 rfl, S.out.r 0 rfl⟩).mono ?_
      rintro e w10 ⟨rfl, bb⟩
      have T := (S.out.call bb)
      clear bb S c_h0 c_h1 c_h2 c_h3 c_h4 c_h5 c_x0 c_x1 c_x2 c_x3 c_x4 c_x5 c_v0 c_v1 c_v2 c_b0 c_b1 c_b2 c_b3 c_b4 c_b5 c_a0 c_a1 c_a2 c_a3 c_a4 c_a5 hz
      have S := T
      clear T
      obtain ⟨c_h0, c_h1, c_h2, c_h3, c_h4, c_h5⟩ := S.c6 0 rfl
      obtain ⟨c_x0, c_x1, c_x2, c_x3, c_x4, c_x5⟩ := S.c6 1 rfl
      obtain ⟨c_v0, c_v1, c_v2⟩ := S.c3 2 rfl
      obtain ⟨c_b0, c_b1, c_b2, c_b3, c_b4, c_b5⟩ := S.c6 3 rfl
      obtain ⟨c_a0, c_a1, c_a2, c_a3, c_a4, c_a5⟩ := S.c6 4 rfl
      have hz : w5.heap.size < w10.heap.size := S.lt 0 rfl
      replace S := Lib.hid S
      clear hWa
      go_wp2_with fail
      refine (hWb.out _ _ _ _ _ _ _ _ _ _ _ _ _ (Rw.of (S.out.r 13 rfl) (S.out.r 12 rfl) k3.out) (Rw.of (S.out.r 11 rfl) (S.out.r 10 rfl) k4.out) ⟨S.out.r 3 rfl, S.out.r 2 rfl⟩ ⟨S.out.r 1 rfl, S.out.r 0 rfl⟩).mono ?_
      rintro e w11 ⟨rfl, bb⟩
      have T := (S.out.call bb)
      clear bb S c_h0 c_h1 c_h2 c_h3 c_h4 c_h5 c_x0 c_x1 c_x2 c_x3 c_x4 c_x5 c_v0 c_v1 c_v2 c_b0 c_b1 c_b2 c_b3 c_b4 c_b5 c_a0 c_a1 c_a2 c_a3 c_a4 c_a5 hz
      have S := T
      clear T
      obtain ⟨c_h0, c_h1, c_h2, c_h3, c_h4, c_h5⟩ := S.c6 0 rfl
      obtain ⟨c_x0, c_x1, c_x2, c_x3, c_x4, c_x5⟩ := S.c6 1 rfl
      obtain ⟨c_v0, c_v1, c_v2⟩ := S.c3 2 rfl
      obtain ⟨c_b0, c_b1, c_b2, c_b3, c_b4, c_b5⟩ := S.c6 3 rfl
      obtain ⟨c_a0, c_a1, c_a2, c_a3, c_a4, c_a5⟩ := S.c6 4 rfl
      have hz : w5.heap.size < w11.heap.size := S.lt 0 rfl
      replace S := Lib.hid S
      clear hWb
      go_wp2_with fail
      refine (hXa.out _ _ _ _ _ _ _ _ _ _ _ _ _ ⟨S.out.r 7 rfl, S.out.r 6 rfl⟩ ⟨S.out.r 5 rfl, S.out.r 4 rfl⟩ (Rw.of (S.out.r 17 rfl) (S.out.r 16 rfl) k1.out) (Rw.of (S.out.r 15 rfl) (S.out.r 14 rfl) k2.out)).mono ?_
      rintro e w12 ⟨rfl, bb⟩
      have T := (S.out.call bb)
      clear bb S c_h0 c_h1 c_h2 c_h3 c_h4 c_h5 c_x0 c_x1 c_x2 c_x3 c_x4 c_x5 c_v0 c_v1 c_v2 c_b0 c_b1 c_b2 c_b3 c_b4 c_b5 c_a0 c_a1 c_a2 c_a3 c_a4 c_a5 hz
      have S := T
      clear T
      obtain ⟨c_h0, c_h1, c_h2, c_h3, c_h4, c_h5⟩ := S.c6 0 rfl
      obtain ⟨c_x0, c_x1, c_x2, c_x3, c_x4, c_x5⟩ := S.c6 1 rfl
      obtain ⟨c_v0, c_v1, c_v2⟩ := S.c3 2 rfl
      obtain ⟨c_b0, c_b1, c_b2, c_b3, c_b4, c_b5⟩ := S.c6 3 rfl
      obtain ⟨c_a0, c_a1, c_a2, c_a3, c_a4, c_a5⟩ := S.c6 4 rfl
      have hz : w5.heap.size < w12.heap.size := S.lt 0 rfl
      replace S := Lib.hid S
      clear hXa
      go_wp2_with fail
      refine (hXb.out _ _ _ _ _ _ _ _ _ _ _ _ _ ⟨S.out.r 7 rfl, S.out.r 6 rfl⟩ ⟨S.out.r 5 rfl, S.out.r 4 rfl⟩ (Rw.of (S.out.r 13 rfl) (S.out.r 12 rfl) k3.out) (Rw.of (S.out.r 11 rfl) (S.out.r 10 rfl) k4.out)).mono ?_
      rintro e w13 ⟨rfl, bb⟩
      have T := (S.out.call bb)
      clear bb S c_h0 c_h1 c_h2 c_h3 c_h4 c_h5 c_x0 c_x1 c_x2 c_x3 c_x4 c_x5 c_v0 c_v1 c_v2 c_b0 c_b1 c_b2 c_b3 c_b4 c_b5 c_a0 c_a1 c_a2 c_a3 c_a4 c_a5 hz
      have S := T
      clear T
      obtain ⟨c_h0, c_h1, c_h2, c_h3, c_h4, c_h5⟩ := S.c6 0 rfl
      obtain ⟨c_x0, c_x1, c_x2, c_x3, c_x4, c_x5⟩ := S.c6 1 rfl
      obtain ⟨c_v0, c_v1, c_v2⟩ := S.c3 2 rfl
      obtain ⟨c_b0, c_b1, c_b2, c_b3, c_b4, c_b5⟩ := S.c6 3 rfl
      obtain ⟨c_a0, c_a1, c_a2, c_a3, c_a4, c_a5⟩ := S.c6 4 rfl
      have hz : w5.heap.size < w13.heap.size := S.lt 0 rfl
      replace S := Lib.hid S
      clear hXb
      have S := S.out
      replace S := Lib.hid S
      go_wp2
      go_ret
      exact ⟨rfl, S.out.bel⟩
end Go.Proofs.YtidhloliahfknaaGreat
