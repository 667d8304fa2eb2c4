/- Valid, Make, Width, Mid of both. -/
import Derived.Test.YtidhloliahfknaaGreatVr
import Derived.Test.YtidhloliahfknaaGreatQVaz
import Derived.Test.YtidhloliahfknaaGreatQVfz
namespace Go.Proofs.YtidhloliahfknaaGreat
open Go.RowKit RQ

set_option maxRecDepth 100000 in
set_option maxHeartbeats 4000000 in
theorem validV_any (b1 : Bool) (A1 : Option Addr) (n1 c1 : Nat) (x1 : List Nat) (D1 : Option Addr) (m1 d1 : Nat) (y1 : List Nat) (q1 : Rat) (b2 : Bool) (A2 : Option Addr) (n2 c2 : Nat) (x2 : List Nat) (D2 : Option Addr) (m2 d2 : Nat) (y2 : List Nat) (q2 : Rat) (w : World) (X1 : Rw w b1 A1 n1 c1 x1 D1 m1 d1 y1 q1) (X2 : Rw w b2 A2 n2 c2 x2 D2 m2 d2 y2 q2) : Calls Tryz.prog 16 #[.agg #[.bool b1, .slice A1 n1 c1, .slice D1 m1 d1, .bool b2, .slice A2 n2 c2, .slice D2 m2 d2]] w fun e w' => e = .returned (.bool ((vldR b1 x1 y1 && vldR b2 x2 y2) && decide (q1 ≤ q2))) ∧ Below w.heap.size w w' := by
  have hV1 : ∀ W, Rw W b1 A1 n1 c1 x1 D1 m1 d1 y1 q1 → Calls Tryz.prog 60 #[.agg #[.bool b1, .slice A1 n1 c1, .slice D1 m1 d1]] W fun e w' => e = .returned (.bool (vldR b1 x1 y1)) ∧ Below W.heap.size W w' := fun W h => validR_any b1 A1 n1 c1 x1 D1 m1 d1 y1 W h.rn h.rd (by have := h.k.2.1; omega) (by have := h.k.2.2; omega)
  have hV2 : ∀ W, Rw W b2 A2 n2 c2 x2 D2 m2 d2 y2 q2 → Calls Tryz.prog 60 #[.agg #[.bool b2, .slice A2 n2 c2, .slice D2 m2 d2]] W fun e w' => e = .returned (.bool (vldR b2 x2 y2)) ∧ Below W.heap.size W w' := fun W h => validR_any b2 A2 n2 c2 x2 D2 m2 d2 y2 W h.rn h.rd (by have := h.k.2.1; omega) (by have := h.k.2.2; omega)
  have hO := Lib.hid (fun W h1 h2 => isOrdered_any b1 A1 n1 c1 x1 D1 m1 d1 y1 q1 b2 A2 n2 c2 x2 D2 m2 d2 y2 q2 W h1 h2)
  generalize decide (q1 ≤ q2) = uo at *
  generalize hv1 : vldR b1 x1 y1 = v1 at *
  clear hv1
  generalize hv2 : vldR b2 x2 y2 = v2 at *
  clear hv2
  have k1 := Lib.hid X1.k
  have k2 := Lib.hid X2.k
  have S := ((((((St.new w).read X1.rn).read X1.rd).read X2.rn).read X2.rd).allocAt (w.heap.size) #[.bool b1, .slice A1 n1 c1, .slice D1 m1 d1, .bool b2, .slice A2 n2 c2, .slice D2 m2 d2] 28 (noL6 _ _ _ _ _ _ _ _ _ _ _ _ _ _) (by simp))
  replace S := Lib.hid S
  clear X1 X2
  cases v1
  · replace hV1 := Lib.hid hV1
    go_enter Tryz.func16, Tryz.ntmps16
    go_wp2_with fail
    refine (hV1.out _ (Rw.of (S.out.r 3 rfl) (S.out.r 2 rfl) k1.out)).mono ?_
    rintro e w1 ⟨rfl, bb⟩
    have T := (S.out.call bb)
    clear bb S
    have S := T
    clear T
    obtain ⟨c_a0, c_a1, c_a2, c_a3, c_a4, c_a5, f_a0, f_a1, f_a2, f_a3, f_a4, f_a5⟩ := S.cf6 0 rfl
    have hz : w.heap.size < w1.heap.size := S.lt 0 rfl
    replace S := Lib.hid S
    clear hV1
    have S := S.out
    replace S := Lib.hid S
    go_wp2
    go_ret
    exact ⟨rfl, S.out.bel⟩
  cases v2
  · replace hV1 := Lib.hid hV1
    replace hV2 := Lib.hid hV2
    rw [Bool.true_and, Bool.false_and]
    go_enter Tryz.func16, Tryz.ntmps16
    go_wp2_with fail
    refine (hV1.out _ (Rw.of (S.out.r 3 rfl) (S.out.r 2 rfl) k1.out)).mono ?_
    rintro e w1 ⟨rfl, bb⟩
    have T := (S.out.call bb)
    clear bb S
    have S := T
    clear T
    obtain ⟨c_a0, c_a1, c_a2, c_a3, c_a4, c_a5, f_a0, f_a1, f_a2, f_a3, f_a4, f_a5⟩ := S.cf6 0 rfl
    have hz : w.heap.size < w1.heap.size := S.lt 0 rfl
    replace S := Lib.hid S
    clear hV1
    go_wp2_with fail
    refine (hV2.out _ (Rw.of (S.out.r 1 rfl) (S.out.r 0 rfl) k2.out)).mono ?_
    rintro e w2 ⟨rfl, bb⟩
    have T := (S.out.call bb)
    clear bb S c_a0 f_a0 c_a1 f_a1 c_a2 f_a2 c_a3 f_a3 c_a4 f_a4 c_a5 f_a5 hz
    have S := T
    clear T
    obtain ⟨c_a0, c_a1, c_a2, c_a3, c_a4, c_a5, f_a0, f_a1, f_a2, f_a3, f_a4, f_a5⟩ := S.cf6 0 rfl
    have hz : w.heap.size < w2.heap.size := S.lt 0 rfl
    replace S := Lib.hid S
    clear hV2
    have S := S.out
    replace S := Lib.hid S
    go_wp2
    go_ret
    exact ⟨rfl, S.out.bel⟩
  · replace hV1 := Lib.hid hV1
    replace hV2 := Lib.hid hV2
    rw [Bool.true_and, Bool.true_and]
    go_enter Tryz.func16, Tryz.ntmps16
    go_wp2_with fail
    refine (hV1.out _ (Rw.of (S.out.r 3 rfl) (S.out.r 2 rfl) k1.out)).mono ?_
    rintro e w1 ⟨rfl, bb⟩
    have T := (S.out.call bb)
    clear bb S
    have S := T
    clear T
    obtain ⟨c_a0, c_a1, c_a2, c_a3, c_a4, c_a5, f_a0, f_a1, f_a2, f_a3, f_a4, f_a5⟩ := S.cf6 0 rfl
    have hz : w.heap.size < w1.heap.size := S.lt 0 rfl
    replace S := Lib.hid S
    clear hV1
    go_wp2_with fail
    refine (hV2.out _ (Rw.of (S.out.r 1 rfl) (S.out.r 0 rfl) k2.out)).mono ?_
    rintro e w2 ⟨rfl, bb⟩
    have T := (S.out.call bb)
    clear bb S c_a0 f_a0 c_a1 f_a1 c_a2 f_a2 c_a3 f_a3 c_a4 f_a4 c_a5 f_a5 hz
    have S := T
    clear T
    obtain ⟨c_a0, c_a1, c_a2, c_a3, c_a4, c_a5, f_a0, f_a1, f_a2, f_a3, f_a4, f_a5⟩ := S.cf6 0 rfl
    have hz : w.heap.size < w2.heap.size := S.lt 0 rfl
    replace S := Lib.hid S
    clear hV2
    go_wp2_with fail
    refine (hO.out _ (Rw.of (S.out.r 3 rfl) (S.out.r 2 rfl) k1.out) (Rw.of (S.out.r 1 rfl) (S.out.r 0 rfl) k2.out)).mono ?_
    rintro e w3 ⟨rfl, bb⟩
    have T := (S.out.call bb)
    clear bb S c_a0 f_a0 c_a1 f_a1 c_a2 f_a2 c_a3 f_a3 c_a4 f_a4 c_a5 f_a5 hz
    have S := T
    clear T
    obtain ⟨c_a0, c_a1, c_a2, c_a3, c_a4, c_a5, f_a0, f_a1, f_a2, f_a3, f_a4, f_a5⟩ := S.cf6 0 rfl
    have hz : w.heap.size < w3.heap.size := S.lt 0 rfl
    replace S := Lib.hid S
    clear hO
    have S := S.out
    replace S := Lib.hid S
    go_wp2
    go_ret
    exact ⟨rfl, S.out.bel⟩

set_option maxRecDepth 100000 in
set_option maxHeartbeats 4000000 in
theorem rvalidV_any (b1 : Bool) (A1 : Option Addr) (n1 c1 : Nat) (x1 : List Nat) (D1 : Option Addr) (m1 d1 : Nat) (y1 : List Nat) (q1 : Rat) (b2 : Bool) (A2 : Option Addr) (n2 c2 : Nat) (x2 : List Nat) (D2 : Option Addr) (m2 d2 : Nat) (y2 : List Nat) (q2 : Rat) (w : World) (X1 : Rw w b1 A1 n1 c1 x1 D1 m1 d1 y1 q1) (X2 : Rw w b2 A2 n2 c2 x2 D2 m2 d2 y2 q2) : Calls Tryz.prog 17 #[.agg #[.bool b1, .slice A1 n1 c1, .slice D1 m1 d1, .bool b2, .slice A2 n2 c2, .slice D2 m2 d2]] w fun e w' => e = .returned (.bool ((vldR b1 x1 y1 && vldR b2 x2 y2) && decide (q1 ≤ q2))) ∧ Below w.heap.size w w' := by
  have hV1 : ∀ W, Rw W b1 A1 n1 c1 x1 D1 m1 d1 y1 q1 → Calls Tryz.prog 61 #[.agg #[.bool b1, .slice A1 n1 c1, .slice D1 m1 d1]] W fun e w' => e = .returned (.bool (vldR b1 x1 y1)) ∧ Below W.heap.size W w' := fun W h => rvalidR_any b1 A1 n1 c1 x1 D1 m1 d1 y1 W h.rn h.rd (by have := h.k.2.1; omega) (by have := h.k.2.2; omega)
  have hV2 : ∀ W, Rw W b2 A2 n2 c2 x2 D2 m2 d2 y2 q2 → Calls Tryz.prog 61 #[.agg #[.bool b2, .slice A2 n2 c2, .slice D2 m2 d2]] W fun e w' => e = .returned (.bool (vldR b2 x2 y2)) ∧ Below W.heap.size W w' := fun W h => rvalidR_any b2 A2 n2 c2 x2 D2 m2 d2 y2 W h.rn h.rd (by have := h.k.2.1; omega) (by have := h.k.2.2; omega)
  have hO := Lib.hid (fun W h1 h2 => less_any b2 A2 n2 c2 x2 D2 m2 d2 y2 q2 b1 A1 n1 c1 x1 D1 m1 d1 y1 q1 W h1 h2)
  rw [← not_lt_le]
  generalize decide (q2 < q1) = uo at *
  generalize hv1 : vldR b1 x1 y1 = v1 at *
  clear hv1
  generalize hv2 : vldR b2 x2 y2 = v2 at *
  clear hv2
  have k1 := Lib.hid X1.k
  have k2 := Lib.hid X2.k
  have S := ((((((St.new w).read X1.rn).read X1.rd).read X2.rn).read X2.rd).allocAt (w.heap.size) #[.bool b1, .slice A1 n1 c1, .slice D1 m1 d1, .bool b2, .slice A2 n2 c2, .slice D2 m2 d2] 28 (noL6 _ _ _ _ _ _ _ _ _ _ _ _ _ _) (by simp))
  replace S := Lib.hid S
  clear X1 X2
  cases v1
  · replace hV1 := Lib.hid hV1
    go_enter Tryz.func17, Tryz.ntmps17
    go_wp2_with fail
    refine (hV1.out _ (Rw.of (S.out.r 3 rfl) (S.out.r 2 rfl) k1.out)).mono ?_
    rintro e w1 ⟨rfl, bb⟩
    have T := (S.out.call bb)
    clear bb S
    have S := T
    clear T
    obtain ⟨c_a0, c_a1, c_a2, c_a3, c_a4, c_a5, f_a0, f_a1, f_a2, f_a3, f_a4, f_a5⟩ := S.cf6 0 rfl
    have hz : w.heap.size < w1.heap.size := S.lt 0 rfl
    replace S := Lib.hid S
    clear hV1
    have S := S.out
    replace S := Lib.hid S
    go_wp2
    go_ret
    exact ⟨rfl, S.out.bel⟩
  cases v2
  · replace hV1 := Lib.hid hV1
    replace hV2 := Lib.hid hV2
    rw [Bool.true_and, Bool.false_and]
    go_enter Tryz.func17, Tryz.ntmps17
    go_wp2_with fail
    refine (hV1.out _ (Rw.of (S.out.r 3 rfl) (S.out.r 2 rfl) k1.out)).mono ?_
    rintro e w1 ⟨rfl, bb⟩
    have T := (S.out.call bb)
    clear bb S
    have S := T
    clear T
    obtain ⟨c_a0, c_a1, c_a2, c_a3, c_a4, c_a5, f_a0, f_a1, f_a2, f_a3, f_a4, f_a5⟩ := S.cf6 0 rfl
    have hz : w.heap.size < w1.heap.size := S.lt 0 rfl
    replace S := Lib.hid S
    clear hV1
    go_wp2_with fail
    refine (hV2.out _ (Rw.of (S.out.r 1 rfl) (S.out.r 0 rfl) k2.out)).mono ?_
    rintro e w2 ⟨rfl, bb⟩
    have T := (S.out.call bb)
    clear bb S c_a0 f_a0 c_a1 f_a1 c_a2 f_a2 c_a3 f_a3 c_a4 f_a4 c_a5 f_a5 hz
    have S := T
    clear T
    obtain ⟨c_a0, c_a1, c_a2, c_a3, c_a4, c_a5, f_a0, f_a1, f_a2, f_a3, f_a4, f_a5⟩ := S.cf6 0 rfl
    have hz : w.heap.size < w2.heap.size := S.lt 0 rfl
    replace S := Lib.hid S
    clear hV2
    have S := S.out
    replace S := Lib.hid S
    go_wp2
    go_ret
    exact ⟨rfl, S.out.bel⟩
  · replace hV1 := Lib.hid hV1
    replace hV2 := Lib.hid hV2
    rw [Bool.true_and, Bool.true_and]
    go_enter Tryz.func17, Tryz.ntmps17
    go_wp2_with fail
    refine (hV1.out _ (Rw.of (S.out.r 3 rfl) (S.out.r 2 rfl) k1.out)).mono ?_
    rintro e w1 ⟨rfl, bb⟩
    have T := (S.out.call bb)
    clear bb S
    have S := T
    clear T
    obtain ⟨c_a0, c_a1, c_a2, c_a3, c_a4, c_a5, f_a0, f_a1, f_a2, f_a3, f_a4, f_a5⟩ := S.cf6 0 rfl
    have hz : w.heap.size < w1.heap.size := S.lt 0 rfl
    replace S := Lib.hid S
    clear hV1
    go_wp2_with fail
    refine (hV2.out _ (Rw.of (S.out.r 1 rfl) (S.out.r 0 rfl) k2.out)).mono ?_
    rintro e w2 ⟨rfl, bb⟩
    have T := (S.out.call bb)
    clear bb S c_a0 f_a0 c_a1 f_a1 c_a2 f_a2 c_a3 f_a3 c_a4 f_a4 c_a5 f_a5 hz
    have S := T
    clear T
    obtain ⟨c_a0, c_a1, c_a2, c_a3, c_a4, c_a5, f_a0, f_a1, f_a2, f_a3, f_a4, f_a5⟩ := S.cf6 0 rfl
    have hz : w.heap.size < w2.heap.size := S.lt 0 rfl
    replace S := Lib.hid S
    clear hV2
    go_wp2_with fail
    refine (hO.out _ (Rw.of (S.out.r 1 rfl) (S.out.r 0 rfl) k2.out) (Rw.of (S.out.r 3 rfl) (S.out.r 2 rfl) k1.out)).mono ?_
    rintro e w3 ⟨rfl, bb⟩
    have T := (S.out.call bb)
    clear bb S c_a0 f_a0 c_a1 f_a1 c_a2 f_a2 c_a3 f_a3 c_a4 f_a4 c_a5 f_a5 hz
    have S := T
    clear T
    obtain ⟨c_a0, c_a1, c_a2, c_a3, c_a4, c_a5, f_a0, f_a1, f_a2, f_a3, f_a4, f_a5⟩ := S.cf6 0 rfl
    have hz : w.heap.size < w3.heap.size := S.lt 0 rfl
    replace S := Lib.hid S
    clear hO
    have S := S.out
    replace S := Lib.hid S
    go_wp2
    go_ret
    exact ⟨rfl, S.out.bel⟩
theorem make_vals {x y : Rat} (h : ¬ y < x) : minL [x, y] = x ∧ maxL [x, y] = y := by
  refine ⟨if_neg h, ?_⟩
  show mx x y = y
  unfold mx
  split
  · rfl
  · rename_i h'; exact Rat.le_antisymm (Rat.not_lt.1 h) (Rat.not_lt.1 h')
/-- The error of Make. -/
def mkErr (x y : Rat) : Int := if y < x then 1 else 0
theorem imake_any (b1 : Bool) (A1 : Option Addr) (n1 c1 : Nat) (x1 : List Nat) (D1 : Option Addr) (m1 d1 : Nat) (y1 : List Nat) (q1 : Rat) (b2 : Bool) (A2 : Option Addr) (n2 c2 : Nat) (x2 : List Nat) (D2 : Option Addr) (m2 d2 : Nat) (y2 : List Nat) (q2 : Rat) (w : World) (X1 : Rw w b1 A1 n1 c1 x1 D1 m1 d1 y1 q1) (X2 : Rw w b2 A2 n2 c2 x2 D2 m2 d2 y2 q2) : Calls Tryz.prog 14 #[.agg #[.bool b1, .slice A1 n1 c1, .slice D1 m1 d1], .agg #[.bool b2, .slice A2 n2 c2, .slice D2 m2 d2]] w (RetVE (klo q1 q2) (khi q1 q2) (.int .i64 (mkErr q1 q2)) w) := by
  by_cases h : q2 < q1
  · rw [show klo q1 q2 = 0 from if_pos h, show khi q1 q2 = 0 from if_pos h, show mkErr q1 q2 = 1 from if_pos h]; exact imake_no b1 A1 n1 c1 x1 D1 m1 d1 y1 q1 b2 A2 n2 c2 x2 D2 m2 d2 y2 q2 h w X1 X2
  · have := imake_yes b1 A1 n1 c1 x1 D1 m1 d1 y1 q1 b2 A2 n2 c2 x2 D2 m2 d2 y2 q2 h w X1 X2
    rw [(make_vals h).1, (make_vals h).2] at this
    rw [show klo q1 q2 = q1 from if_neg h, show khi q1 q2 = q2 from if_neg h, show mkErr q1 q2 = 0 from if_neg h]; exact this
theorem res_rmakeV (W : World) (tmps : Array Value) (g t : Nat) {v0 v1 v2 v3 v4 v5 e0 : Value} (ht : tmps.getD 4 undef = .pointer (some ⟨g, 0, none⟩)) (h0 : tmps.getD 5 undef = e0) (h : Cb W g #[v0, v1, v2, v3, v4, v5] t) :
    (results Tryz.f15 tmps).run Tryz.prog W = .ok (.tuple #[.agg #[v0, v1, v2, v3, v4, v5], e0]) W := by
  have c0 : W.cell? ⟨g, 0, none⟩ = some v0 := h.cell rfl
  have c1 : W.cell? ⟨g, 1, none⟩ = some v1 := h.cell rfl
  have c2 : W.cell? ⟨g, 2, none⟩ = some v2 := h.cell rfl
  have c3 : W.cell? ⟨g, 3, none⟩ = some v3 := h.cell rfl
  have c4 : W.cell? ⟨g, 4, none⟩ = some v4 := h.cell rfl
  have c5 : W.cell? ⟨g, 5, none⟩ = some v5 := h.cell rfl
  have ht' : tmps[4]?.getD undef = .pointer (some ⟨g, 0, none⟩) := by rw [← ht]; simp [Array.getD_eq_getD_getElem?]
  have k0 : tmps[5]?.getD undef = e0 := by rw [← h0]; simp [Array.getD_eq_getD_getElem?]
  simp [results, Tryz.results15, go_sem, ht', k0, c0, c1, c2, c3, c4, c5]

set_option maxRecDepth 100000 in
set_option maxHeartbeats 4000000 in
theorem rmakeV_no (b1 : Bool) (A1 : Option Addr) (n1 c1 : Nat) (x1 : List Nat) (D1 : Option Addr) (m1 d1 : Nat) (y1 : List Nat) (q1 : Rat) (b2 : Bool) (A2 : Option Addr) (n2 c2 : Nat) (x2 : List Nat) (D2 : Option Addr) (m2 d2 : Nat) (y2 : List Nat) (q2 : Rat) (h : q2 < q1) (w : World) (X1 : Rw w b1 A1 n1 c1 x1 D1 m1 d1 y1 q1) (X2 : Rw w b2 A2 n2 c2 x2 D2 m2 d2 y2 q2) : Calls Tryz.prog 15 #[.agg #[.bool b1, .slice A1 n1 c1, .slice D1 m1 d1], .agg #[.bool b2, .slice A2 n2 c2, .slice D2 m2 d2]] w (RetVE 0 0 (.int .i64 1) w) := by
  have hL := fun W h1 h2 => less_any b2 A2 n2 c2 x2 D2 m2 d2 y2 q2 b1 A1 n1 c1 x1 D1 m1 d1 y1 q1 W h1 h2
  rw [show decide (q2 < q1) = true from decide_eq_true h] at hL
  replace hL := Lib.hid hL
  clear h
  have k1 := Lib.hid X1.k
  have k2 := Lib.hid X2.k
  have S := ((((((((St.new w).read X1.rn).read X1.rd).read X2.rn).read X2.rd).allocAt (w.heap.size) #[.bool b1, .slice A1 n1 c1, .slice D1 m1 d1] 26 (noL3 _ _ _ _ _ _ _) (by simp)).allocAt (w.heap.size + 1) #[.bool b2, .slice A2 n2 c2, .slice D2 m2 d2] 26 (noL3 _ _ _ _ _ _ _) (by simp)).allocAt (w.heap.size + 1 + 1) #[.bool false, .slice none 0 0, .slice none 0 0, .bool false, .slice none 0 0, .slice none 0 0] 28 (noL6 _ _ _ _ _ _ _ _ _ _ _ _ _ _) (by simp))
  replace S := Lib.hid S
  clear X1 X2
  go_enter Tryz.func15, Tryz.ntmps15
  go_wp2_with fail
  refine (hL.out _ (Rw.of (S.out.r 1 rfl) (S.out.r 0 rfl) k2.out) (Rw.of (S.out.r 3 rfl) (S.out.r 2 rfl) k1.out)).mono ?_
  rintro e w1 ⟨rfl, bb⟩
  have T := (S.out.call bb)
  clear bb S
  have S := T
  clear T
  obtain ⟨c_r0, c_r1, c_r2, c_r3, c_r4, c_r5, f_r0, f_r1, f_r2, f_r3, f_r4, f_r5⟩ := S.cf6 0 rfl
  obtain ⟨c_y0, c_y1, c_y2, f_y0, f_y1, f_y2⟩ := S.cf3 1 rfl
  obtain ⟨c_x0, c_x1, c_x2, f_x0, f_x1, f_x2⟩ := S.cf3 2 rfl
  have hz : w.heap.size + 1 + 1 < w1.heap.size := S.lt 0 rfl
  replace S := Lib.hid S
  clear hL
  have S : St w _ [(w.heap.size + 1 + 1, #[.bool false, .slice none 0 0, .slice none 0 0, .bool false, .slice none 0 0, .slice none 0 0], 28), (w.heap.size + 1, #[.bool b2, .slice A2 n2 c2, .slice D2 m2 d2], 26), (w.heap.size, #[.bool b1, .slice A1 n1 c1, .slice D1 m1 d1], 26)] [(D2, m2, d2, y2), (A2, n2, c2, x2), (D1, m1, d1, y1), (A1, n1, c1, x1)] := ((((((S.out.set 0 0 (.bool false) rfl (by nofun)).set 0 1 (.slice none 0 0) rfl (by nofun)).set 0 2 (.slice none 0 0) rfl (by nofun)).set 0 3 (.bool false) rfl (by nofun)).set 0 4 (.slice none 0 0) rfl (by nofun)).set 0 5 (.slice none 0 0) rfl (by nofun))
  replace S := Lib.hid S
  go_wp2
  refine bodyPost_ret (res_rmakeV _ _ (w.heap.size + 1 + 1) 28 rfl rfl (S.out.bk _ (List.mem_of_getElem? (i := 0) rfl)).1) rfl ?_
  exact ⟨_, _, _, _, _, _, _, _, _, _, _, _, rfl, zero_RR _ _ _ _ _, zero_RR _ _ _ _ _, S.out.bel⟩

set_option maxRecDepth 100000 in
set_option maxHeartbeats 4000000 in
theorem rmakeV_yes (b1 : Bool) (A1 : Option Addr) (n1 c1 : Nat) (x1 : List Nat) (D1 : Option Addr) (m1 d1 : Nat) (y1 : List Nat) (q1 : Rat) (b2 : Bool) (A2 : Option Addr) (n2 c2 : Nat) (x2 : List Nat) (D2 : Option Addr) (m2 d2 : Nat) (y2 : List Nat) (q2 : Rat) (h : ¬ q2 < q1) (w : World) (X1 : Rw w b1 A1 n1 c1 x1 D1 m1 d1 y1 q1) (X2 : Rw w b2 A2 n2 c2 x2 D2 m2 d2 y2 q2) : Calls Tryz.prog 15 #[.agg #[.bool b1, .slice A1 n1 c1, .slice D1 m1 d1], .agg #[.bool b2, .slice A2 n2 c2, .slice D2 m2 d2]] w (RetVE q1 q2 (.int .i64 0) w) := by
  have hL := fun W h1 h2 => less_any b2 A2 n2 c2 x2 D2 m2 d2 y2 q2 b1 A1 n1 c1 x1 D1 m1 d1 y1 q1 W h1 h2
  rw [show decide (q2 < q1) = false from decide_eq_false h] at hL
  replace hL := Lib.hid hL
  clear h
  have k1 := Lib.hid X1.k
  have k2 := Lib.hid X2.k
  have hT1 := Lib.hid (fun W h1 => takeF b1 A1 n1 c1 x1 D1 m1 d1 y1 q1 W h1)
  have hT2 := Lib.hid (fun W h1 => takeF b2 A2 n2 c2 x2 D2 m2 d2 y2 q2 W h1)
  have S := ((((((((St.new w).read X1.rn).read X1.rd).read X2.rn).read X2.rd).allocAt (w.heap.size) #[.bool b1, .slice A1 n1 c1, .slice D1 m1 d1] 26 (noL3 _ _ _ _ _ _ _) (by simp)).allocAt (w.heap.size + 1) #[.bool b2, .slice A2 n2 c2, .slice D2 m2 d2] 26 (noL3 _ _ _ _ _ _ _) (by simp)).allocAt (w.heap.size + 1 + 1) #[.bool false, .slice none 0 0, .slice none 0 0, .bool false, .slice none 0 0, .slice none 0 0] 28 (noL6 _ _ _ _ _ _ _ _ _ _ _ _ _ _) (by simp))
  replace S := Lib.hid S
  clear X1 X2
  go_enter Tryz.func15, Tryz.ntmps15
  go_wp2_with fail
  refine (hL.out _ (Rw.of (S.out.r 1 rfl) (S.out.r 0 rfl) k2.out) (Rw.of (S.out.r 3 rfl) (S.out.r 2 rfl) k1.out)).mono ?_
  rintro e w1 ⟨rfl, bb⟩
  have T := (S.out.call bb)
  clear bb S
  have S := T
  clear T
  obtain ⟨c_r0, c_r1, c_r2, c_r3, c_r4, c_r5, f_r0, f_r1, f_r2, f_r3, f_r4, f_r5⟩ := S.cf6 0 rfl
  obtain ⟨c_y0, c_y1, c_y2, f_y0, f_y1, f_y2⟩ := S.cf3 1 rfl
  obtain ⟨c_x0, c_x1, c_x2, f_x0, f_x1, f_x2⟩ := S.cf3 2 rfl
  have hz : w.heap.size + 1 + 1 < w1.heap.size := S.lt 0 rfl
  replace S := Lib.hid S
  clear hL
  go_upto_region 3 with fail
  clear c_r0 f_r0 c_r1 f_r1 c_r2 f_r2 c_r3 f_r3 c_r4 f_r4 c_r5 f_r5 c_y0 f_y0 c_y1 f_y1 c_y2 f_y2 c_x0 f_x0 c_x1 f_x1 c_x2 f_x2 hz
  refine RW.begin (Z := []) (S := (fun W => Cb W (w.heap.size) #[.bool b1, .slice A1 n1 c1, .slice D1 m1 d1] 26 ∧ Cb W (w.heap.size + 1) #[.bool b2, .slice A2 n2 c2, .slice D2 m2 d2] 26)) (by kernel_rfl) ?_ S.out ?_
  · exact ⟨by kernel_rfl, zis_nil, by decide, by decide, nol_nil, (fun _ _ h => ⟨h.kb 2 rfl, h.kb 1 rfl⟩)⟩
  intro hzk
  clear S
  refine RW.t (i := 0) (v := .agg #[.bool b1, .slice A1 n1 c1, .slice D1 m1 d1]) (some 10) at0 (hy := fun W hS => by (have k0 := Cb.cell (i := 0) hS.1 rfl; have k1 := Cb.cell (i := 1) hS.1 rfl; have k2 := Cb.cell (i := 2) hS.1 rfl; clear hS; go_simp)) (h := ?_)
  refine RW.t (i := 2) (v := .agg #[.bool b2, .slice A2 n2 c2, .slice D2 m2 d2]) (some 12) at2 (hy := fun W hS => by (have k0 := Cb.cell (i := 0) hS.2 rfl; have k1 := Cb.cell (i := 1) hS.2 rfl; have k2 := Cb.cell (i := 2) hS.2 rfl; clear hS; go_simp)) (h := ?_)
  refine RW.c (i := 1) (args := #[.agg #[.bool b1, .slice A1 n1 c1, .slice D1 m1 d1]]) (some 11) hzk.out at1 (hx := fun _ => by kernel_rfl) (h := fun _ S => (hT1.out _ (Rw.of (S.r 3 rfl) (S.r 2 rfl) k1.out)).mono ?_)
  rintro e w2 ⟨A11, n11, c11, D11, m11, d11, rfl, Q11, bb⟩
  refine ⟨bb, _, [(D11, m11, d11, dn q1), (A11, n11, c11, limbs q1.num.natAbs)], rfl, (rd_cons Q11.d (rd_cons Q11.n rd_nil)), ?_⟩
  clear bb S Q11
  refine RW.c (i := 3) (args := #[.agg #[.bool b2, .slice A2 n2 c2, .slice D2 m2 d2]]) (some 13) hzk.out at3 (hx := fun _ => by kernel_rfl) (h := fun _ S => (hT2.out _ (Rw.of (S.r 3 rfl) (S.r 2 rfl) k2.out)).mono ?_)
  rintro e w3 ⟨A12, n12, c12, D12, m12, d12, rfl, Q12, bb⟩
  refine ⟨bb, _, [(D12, m12, d12, dn q2), (A12, n12, c12, limbs q2.num.natAbs)], rfl, (rd_cons Q12.d (rd_cons Q12.n rd_nil)), ?_⟩
  clear bb S Q12
  refine RW.t (i := 4) (v := .agg #[.bool (ng q1.num), .slice A11 n11 c11, .slice D11 m11 d11, .bool (ng q2.num), .slice A12 n12 c12, .slice D12 m12 d12]) (some 14) at4 (hy := fun _ _ => by kernel_rfl) (h := ?_)
  refine RW.tail hzk.out (by kernel_rfl) ?_
  intro gs w4 hgs hS S
  obtain rfl := len0 hgs
  clear hS hgs hzk
  simp only [mark, fill, Act.put, List.setIfInBounds_toArray, List.set_cons_zero, List.set_cons_succ]
  replace S := Lib.hid S
  refine Wk.o (i := 5) at5 (by kernel_rfl) fun K' hK => ?_
  have q5_r0 := St.cl (S.out) 0 0 rfl rfl
  have q5_r1 := St.cl (S.out) 0 1 rfl rfl
  have q5_r2 := St.cl (S.out) 0 2 rfl rfl
  have q5_r3 := St.cl (S.out) 0 3 rfl rfl
  have q5_r4 := St.cl (S.out) 0 4 rfl rfl
  have q5_r5 := St.cl (S.out) 0 5 rfl rfl
  have q5z_r0 := St.f (S.out) 0 0 rfl
  have q5z_r1 := St.f (S.out) 0 1 rfl
  have q5z_r2 := St.f (S.out) 0 2 rfl
  have q5z_r3 := St.f (S.out) 0 3 rfl
  have q5z_r4 := St.f (S.out) 0 4 rfl
  have q5z_r5 := St.f (S.out) 0 5 rfl
  go_simp
  have SN := ((((((S.out.set 0 0 (.bool (ng q1.num)) rfl (by nofun)).set 0 1 (.slice A11 n11 c11) rfl (by nofun)).set 0 2 (.slice D11 m11 d11) rfl (by nofun)).set 0 3 (.bool (ng q2.num)) rfl (by nofun)).set 0 4 (.slice A12 n12 c12) rfl (by nofun)).set 0 5 (.slice D12 m12 d12) rfl (by nofun))
  clear S q5_r0 q5_r1 q5_r2 q5_r3 q5_r4 q5_r5 q5z_r0 q5z_r1 q5z_r2 q5z_r3 q5z_r4 q5z_r5
  have S := SN
  clear SN
  refine hK.out _ _ ⟨(S.cb 2 rfl), (S.cb 1 rfl)⟩ ?_
  clear hK K'
  replace S := Lib.hid S
  try simp only [Act.put, List.setIfInBounds_toArray, List.set_cons_zero, List.set_cons_succ]
  refine Wk.o (i := 6) at6 (by kernel_rfl) fun K' hK => ?_
  go_simp
  have SN := S.out
  clear S
  have S := SN
  clear SN
  refine hK.out _ _ ⟨(S.cb 2 rfl), (S.cb 1 rfl)⟩ ?_
  clear hK K'
  replace S := Lib.hid S
  try simp only [Act.put, List.setIfInBounds_toArray, List.set_cons_zero, List.set_cons_succ]
  refine Wk.done (by kernel_rfl) ?_
  go_simp
  replace S := S.out
  have S : St w _ [(w.heap.size + 1 + 1, #[.bool (ng q1.num), .slice A11 n11 c11, .slice D11 m11 d11, .bool (ng q2.num), .slice A12 n12 c12, .slice D12 m12 d12], 28), (w.heap.size + 1, #[.bool b2, .slice A2 n2 c2, .slice D2 m2 d2], 26), (w.heap.size, #[.bool b1, .slice A1 n1 c1, .slice D1 m1 d1], 26)] [(D12, m12, d12, dn q2), (A12, n12, c12, limbs q2.num.natAbs), (D11, m11, d11, dn q1), (A11, n11, c11, limbs q1.num.natAbs), (D2, m2, d2, y2), (A2, n2, c2, x2), (D1, m1, d1, y1), (A1, n1, c1, x1)] := S
  generalize hW5 : (World.setCell (World.setCell (World.setCell (World.setCell (World.setCell (World.setCell w4 ⟨w.heap.size + 1 + 1, 0, none⟩ (.bool (ng q1.num))) ⟨w.heap.size + 1 + 1, 1, none⟩ (.slice A11 n11 c11)) ⟨w.heap.size + 1 + 1, 2, none⟩ (.slice D11 m11 d11)) ⟨w.heap.size + 1 + 1, 3, none⟩ (.bool (ng q2.num))) ⟨w.heap.size + 1 + 1, 4, none⟩ (.slice A12 n12 c12)) ⟨w.heap.size + 1 + 1, 5, none⟩ (.slice D12 m12 d12)) = w5 at S ⊢
  clear hW5
  replace S := Lib.hid S
  replace S := S.out
  obtain ⟨c_r0, c_r1, c_r2, c_r3, c_r4, c_r5, f_r0, f_r1, f_r2, f_r3, f_r4, f_r5⟩ := S.cf6 0 rfl
  obtain ⟨c_y0, c_y1, c_y2, f_y0, f_y1, f_y2⟩ := S.cf3 1 rfl
  obtain ⟨c_x0, c_x1, c_x2, f_x0, f_x1, f_x2⟩ := S.cf3 2 rfl
  have hz : w.heap.size + 1 + 1 < w5.heap.size := S.lt 0 rfl
  replace S := Lib.hid S
  have S := S.out
  replace S := Lib.hid S
  go_wp2
  refine bodyPost_ret (res_rmakeV _ _ (w.heap.size + 1 + 1) 28 rfl rfl (S.out.bk _ (List.mem_of_getElem? (i := 0) rfl)).1) rfl ?_
  exact ⟨_, _, _, _, _, _, _, _, _, _, _, _, rfl, ⟨S.out.r 3 rfl, S.out.r 2 rfl⟩, ⟨S.out.r 1 rfl, S.out.r 0 rfl⟩, S.out.bel⟩
theorem rmakeV_any (b1 : Bool) (A1 : Option Addr) (n1 c1 : Nat) (x1 : List Nat) (D1 : Option Addr) (m1 d1 : Nat) (y1 : List Nat) (q1 : Rat) (b2 : Bool) (A2 : Option Addr) (n2 c2 : Nat) (x2 : List Nat) (D2 : Option Addr) (m2 d2 : Nat) (y2 : List Nat) (q2 : Rat) (w : World) (X1 : Rw w b1 A1 n1 c1 x1 D1 m1 d1 y1 q1) (X2 : Rw w b2 A2 n2 c2 x2 D2 m2 d2 y2 q2) : Calls Tryz.prog 15 #[.agg #[.bool b1, .slice A1 n1 c1, .slice D1 m1 d1], .agg #[.bool b2, .slice A2 n2 c2, .slice D2 m2 d2]] w (RetVE (klo q1 q2) (khi q1 q2) (.int .i64 (mkErr q1 q2)) w) := by
  by_cases h : q2 < q1
  · rw [show klo q1 q2 = 0 from if_pos h, show khi q1 q2 = 0 from if_pos h, show mkErr q1 q2 = 1 from if_pos h]; exact rmakeV_no b1 A1 n1 c1 x1 D1 m1 d1 y1 q1 b2 A2 n2 c2 x2 D2 m2 d2 y2 q2 h w X1 X2
  · rw [show klo q1 q2 = q1 from if_neg h, show khi q1 q2 = q2 from if_neg h, show mkErr q1 q2 = 0 from if_neg h]; exact rmakeV_yes b1 A1 n1 c1 x1 D1 m1 d1 y1 q1 b2 A2 n2 c2 x2 D2 m2 d2 y2 q2 h w X1 X2
theorem res_rwidth (W : World) (tmps : Array Value) (g t : Nat) {v0 v1 v2 : Value} (ht : tmps.getD 2 undef = .pointer (some ⟨g, 0, none⟩)) (h : Cb W g #[v0, v1, v2] t) :
    (results Tryz.f25 tmps).run Tryz.prog W = .ok (.agg #[v0, v1, v2]) W := by
  have c0 : W.cell? ⟨g, 0, none⟩ = some v0 := h.cell rfl
  have c1 : W.cell? ⟨g, 1, none⟩ = some v1 := h.cell rfl
  have c2 : W.cell? ⟨g, 2, none⟩ = some v2 := h.cell rfl
  have ht' : tmps[2]?.getD undef = .pointer (some ⟨g, 0, none⟩) := by rw [← ht]; simp [Array.getD_eq_getD_getElem?]
  simp [results, Tryz.results25, go_sem, ht', c0, c1, c2]

set_option maxRecDepth 100000 in
set_option maxHeartbeats 4000000 in
theorem rwidth_any (b1 : Bool) (A1 : Option Addr) (n1 c1 : Nat) (x1 : List Nat) (D1 : Option Addr) (m1 d1 : Nat) (y1 : List Nat) (q1 : Rat) (b2 : Bool) (A2 : Option Addr) (n2 c2 : Nat) (x2 : List Nat) (D2 : Option Addr) (m2 d2 : Nat) (y2 : List Nat) (q2 : Rat) (w : World) (X1 : Rw w b1 A1 n1 c1 x1 D1 m1 d1 y1 q1) (X2 : Rw w b2 A2 n2 c2 x2 D2 m2 d2 y2 q2) : Calls Tryz.prog 25 #[.agg #[.bool b1, .slice A1 n1 c1, .slice D1 m1 d1, .bool b2, .slice A2 n2 c2, .slice D2 m2 d2]] w (RetR (khi q1 q2 - klo q1 q2) w) := by
  obtain ⟨sl, sh⟩ := k_rs X1.rs X2.rs
  have hT := Lib.hid (fun W h1 h2 => rtakeV_any b1 A1 n1 c1 x1 D1 m1 d1 y1 q1 b2 A2 n2 c2 x2 D2 m2 d2 y2 q2 W h1 h2)
  generalize klo q1 q2 = lo at *
  generalize khi q1 q2 = hi at *
  have hS : Hid (∀ W A0 n0 c0 D0 m0 d0 A1 n1 c1 D1 m1 d1, RR W A0 n0 c0 D0 m0 d0 hi → RR W A1 n1 c1 D1 m1 d1 lo → Calls Tryz.prog 47 #[.agg #[.bool (ng hi.num), .slice A0 n0 c0, .slice D0 m0 d0], .agg #[.bool (ng lo.num), .slice A1 n1 c1, .slice D1 m1 d1]] W (RetR (hi - lo) W)) := Lib.hid fun W A0 n0 c0 D0 m0 d0 A1 n1 c1 D1 m1 d1 X0 X1 => by
    have l0 := X0.lens sh
    have l1 := X1.lens sl
    have := Fsub_any (ng hi.num) A0 n0 c0 _ D0 m0 d0 _ (ng lo.num) A1 n1 c1 _ D1 m1 d1 _ W X0.n X0.d X1.n X1.d (by omega) (by omega) (by omega) (by omega)
    rwa [rv_z, rv_z] at this
  generalize hi - lo = wd at *
  clear sl sh
  have k1 := Lib.hid X1.k
  have k2 := Lib.hid X2.k
  have S := (((((((St.new w).read X1.rn).read X1.rd).read X2.rn).read X2.rd).allocAt (w.heap.size) #[.bool b1, .slice A1 n1 c1, .slice D1 m1 d1, .bool b2, .slice A2 n2 c2, .slice D2 m2 d2] 28 (noL6 _ _ _ _ _ _ _ _ _ _ _ _ _ _) (by simp)).allocAt (w.heap.size + 1) #[.bool false, .slice none 0 0, .slice none 0 0] 26 (noL3 _ _ _ _ _ _ _) (by simp))
  replace S := Lib.hid S
  clear X1 X2
  go_enter Tryz.func25, Tryz.ntmps25
  go_wp2_with fail
  refine (hT.out _ (Rw.of (S.out.r 3 rfl) (S.out.r 2 rfl) k1.out) (Rw.of (S.out.r 1 rfl) (S.out.r 0 rfl) k2.out)).mono ?_
  rintro e w1 ⟨A11, n11, c11, D11, m11, d11, A12, n12, c12, D12, m12, d12, rfl, Q11, Q12, bb⟩
  have T := (((((S.out.call bb).read Q11.n).read Q11.d).read Q12.n).read Q12.d)
  clear bb S
  have S := T
  clear T
  obtain ⟨c_r0, c_r1, c_r2, f_r0, f_r1, f_r2⟩ := S.cf3 0 rfl
  obtain ⟨c_a0, c_a1, c_a2, c_a3, c_a4, c_a5, f_a0, f_a1, f_a2, f_a3, f_a4, f_a5⟩ := S.cf6 1 rfl
  have hz : w.heap.size + 1 < w1.heap.size := S.lt 0 rfl
  replace S := Lib.hid S
  clear hT Q11 Q12
  have S : St w _ [(w.heap.size + 1, #[.bool false, .slice none 0 0, .slice none 0 0], 26), (w.heap.size, #[.bool (ng lo.num), .slice A11 n11 c11, .slice D11 m11 d11, .bool (ng hi.num), .slice A12 n12 c12, .slice D12 m12 d12], 28)] [(D12, m12, d12, dn hi), (A12, n12, c12, limbs hi.num.natAbs), (D11, m11, d11, dn lo), (A11, n11, c11, limbs lo.num.natAbs), (D2, m2, d2, y2), (A2, n2, c2, x2), (D1, m1, d1, y1), (A1, n1, c1, x1)] := ((((((S.out.set 1 0 (.bool (ng lo.num)) rfl (by nofun)).set 1 1 (.slice A11 n11 c11) rfl (by nofun)).set 1 2 (.slice D11 m11 d11) rfl (by nofun)).set 1 3 (.bool (ng hi.num)) rfl (by nofun)).set 1 4 (.slice A12 n12 c12) rfl (by nofun)).set 1 5 (.slice D12 m12 d12) rfl (by nofun))
  obtain ⟨a_a0, a_a1, a_a2, a_a3, a_a4, a_a5, b_a0, b_a1, b_a2, b_a3, b_a4, b_a5⟩ := S.cf6 1 rfl
  replace S := Lib.hid S
  go_wp2_with fail
  refine (hS.out _ _ _ _ _ _ _ _ _ _ _ _ _ ⟨S.out.r 1 rfl, S.out.r 0 rfl⟩ ⟨S.out.r 3 rfl, S.out.r 2 rfl⟩).mono ?_
  rintro e w2 ⟨A9, n9, c9, D9, m9, d9, rfl, Q9, bb⟩
  have T := (((S.out.call bb).read Q9.n).read Q9.d)
  clear bb S c_r0 f_r0 c_r1 f_r1 c_r2 f_r2 c_a0 f_a0 c_a1 f_a1 c_a2 f_a2 c_a3 f_a3 c_a4 f_a4 c_a5 f_a5 hz a_a0 b_a0 a_a1 b_a1 a_a2 b_a2 a_a3 b_a3 a_a4 b_a4 a_a5 b_a5
  have S := T
  clear T
  obtain ⟨c_r0, c_r1, c_r2, f_r0, f_r1, f_r2⟩ := S.cf3 0 rfl
  obtain ⟨c_a0, c_a1, c_a2, c_a3, c_a4, c_a5, f_a0, f_a1, f_a2, f_a3, f_a4, f_a5⟩ := S.cf6 1 rfl
  have hz : w.heap.size + 1 < w2.heap.size := S.lt 0 rfl
  replace S := Lib.hid S
  clear Q9 hS
  have S : St w _ [(w.heap.size + 1, #[.bool (ng wd.num), .slice A9 n9 c9, .slice D9 m9 d9], 26), (w.heap.size, #[.bool (ng lo.num), .slice A11 n11 c11, .slice D11 m11 d11, .bool (ng hi.num), .slice A12 n12 c12, .slice D12 m12 d12], 28)] [(D9, m9, d9, dn wd), (A9, n9, c9, limbs wd.num.natAbs), (D12, m12, d12, dn hi), (A12, n12, c12, limbs hi.num.natAbs), (D11, m11, d11, dn lo), (A11, n11, c11, limbs lo.num.natAbs), (D2, m2, d2, y2), (A2, n2, c2, x2), (D1, m1, d1, y1), (A1, n1, c1, x1)] := (((S.out.set 0 0 (.bool (ng wd.num)) rfl (by nofun)).set 0 1 (.slice A9 n9 c9) rfl (by nofun)).set 0 2 (.slice D9 m9 d9) rfl (by nofun))
  replace S := Lib.hid S
  go_wp2
  refine bodyPost_ret (res_rwidth _ _ (w.heap.size + 1) 26 rfl (S.out.bk _ (List.mem_of_getElem? (i := 0) rfl)).1) rfl ?_
  exact ⟨_, _, _, _, _, _, rfl, ⟨S.out.r 1 rfl, S.out.r 0 rfl⟩, S.out.bel⟩
theorem res_rmid (W : World) (tmps : Array Value) (g t : Nat) {v0 v1 v2 : Value} (ht : tmps.getD 2 undef = .pointer (some ⟨g, 0, none⟩)) (h : Cb W g #[v0, v1, v2] t) :
    (results Tryz.f27 tmps).run Tryz.prog W = .ok (.agg #[v0, v1, v2]) W := by
  have c0 : W.cell? ⟨g, 0, none⟩ = some v0 := h.cell rfl
  have c1 : W.cell? ⟨g, 1, none⟩ = some v1 := h.cell rfl
  have c2 : W.cell? ⟨g, 2, none⟩ = some v2 := h.cell rfl
  have ht' : tmps[2]?.getD undef = .pointer (some ⟨g, 0, none⟩) := by rw [← ht]; simp [Array.getD_eq_getD_getElem?]
  simp [results, Tryz.results27, go_sem, ht', c0, c1, c2]

set_option maxRecDepth 100000 in
set_option maxHeartbeats 4000000 in
theorem rmid_any (b1 : Bool) (A1 : Option Addr) (n1 c1 : Nat) (x1 : List Nat) (D1 : Option Addr) (m1 d1 : Nat) (y1 : List Nat) (q1 : Rat) (b2 : Bool) (A2 : Option Addr) (n2 c2 : Nat) (x2 : List Nat) (D2 : Option Addr) (m2 d2 : Nat) (y2 : List Nat) (q2 : Rat) (w : World) (X1 : Rw w b1 A1 n1 c1 x1 D1 m1 d1 y1 q1) (X2 : Rw w b2 A2 n2 c2 x2 D2 m2 d2 y2 q2) : Calls Tryz.prog 27 #[.agg #[.bool b1, .slice A1 n1 c1, .slice D1 m1 d1, .bool b2, .slice A2 n2 c2, .slice D2 m2 d2]] w (RetR ((klo q1 q2 + khi q1 q2) / qz 2) w) := by
  obtain ⟨sl, sh⟩ := k_rs X1.rs X2.rs
  have hT := Lib.hid (fun W h1 h2 => rtakeV_any b1 A1 n1 c1 x1 D1 m1 d1 y1 q1 b2 A2 n2 c2 x2 D2 m2 d2 y2 q2 W h1 h2)
  generalize klo q1 q2 = lo at *
  generalize khi q1 q2 = hi at *
  have hS : Hid (∀ W A0 n0 c0 D0 m0 d0 A1 n1 c1 D1 m1 d1, RR W A0 n0 c0 D0 m0 d0 lo → RR W A1 n1 c1 D1 m1 d1 hi → Calls Tryz.prog 46 #[.agg #[.bool (ng lo.num), .slice A0 n0 c0, .slice D0 m0 d0], .agg #[.bool (ng hi.num), .slice A1 n1 c1, .slice D1 m1 d1]] W (RetR (lo + hi) W)) := Lib.hid fun W A0 n0 c0 D0 m0 d0 A1 n1 c1 D1 m1 d1 X0 X1 => by
    have l0 := X0.lens sl
    have l1 := X1.lens sh
    have := Fadd_any (ng lo.num) A0 n0 c0 _ D0 m0 d0 _ (ng hi.num) A1 n1 c1 _ D1 m1 d1 _ W X0.n X0.d X1.n X1.d (by omega) (by omega) (by omega) (by omega)
    rwa [rv_z, rv_z] at this
  have sm := Lib.hid (sl.add sh)
  have hF : Hid (∀ W, Calls Tryz.prog 53 #[.int .i64 2] W (RetR (qz 2) W)) := Lib.hid fun W => FfromInt_any 2 W (by decide) (by decide)
  have s2 : Hid (Rs (qz 2) 1) := Lib.hid (qz_rs (by decide) (by decide))
  have t2 : Hid (qz 2 ≠ 0) := Lib.hid (by decide)
  generalize lo + hi = su at *
  generalize qz 2 = tw at *
  have hQ : Hid (∀ W A0 n0 c0 D0 m0 d0 A1 n1 c1 D1 m1 d1, RR W A0 n0 c0 D0 m0 d0 su → RR W A1 n1 c1 D1 m1 d1 tw → Calls Tryz.prog 45 #[.agg #[.bool (ng su.num), .slice A0 n0 c0, .slice D0 m0 d0], .agg #[.bool (ng tw.num), .slice A1 n1 c1, .slice D1 m1 d1]] W (RetR (su / tw) W)) := Lib.hid fun W A0 n0 c0 D0 m0 d0 A1 n1 c1 D1 m1 d1 X0 X1 => by
    have l0 := X0.lens sm.out
    have l1 := X1.lens s2.out
    have := Fquo_any (ng su.num) A0 n0 c0 _ D0 m0 d0 _ (ng tw.num) A1 n1 c1 _ D1 m1 d1 _ W X0.n X0.d X1.n X1.d (by omega) (by omega) (by omega) (by omega) (by rw [rv_z]; exact t2.out)
    rwa [rv_z, rv_z] at this
  generalize su / tw = md at *
  clear sl sh sm s2 t2
  have k1 := Lib.hid X1.k
  have k2 := Lib.hid X2.k
  have S := (((((((St.new w).read X1.rn).read X1.rd).read X2.rn).read X2.rd).allocAt (w.heap.size) #[.bool b1, .slice A1 n1 c1, .slice D1 m1 d1, .bool b2, .slice A2 n2 c2, .slice D2 m2 d2] 28 (noL6 _ _ _ _ _ _ _ _ _ _ _ _ _ _) (by simp)).allocAt (w.heap.size + 1) #[.bool false, .slice none 0 0, .slice none 0 0] 26 (noL3 _ _ _ _ _ _ _) (by simp))
  replace S := Lib.hid S
  clear X1 X2
  go_enter Tryz.func27, Tryz.ntmps27
  go_wp2_with fail
  refine (hT.out _ (Rw.of (S.out.r 3 rfl) (S.out.r 2 rfl) k1.out) (Rw.of (S.out.r 1 rfl) (S.out.r 0 rfl) k2.out)).mono ?_
  rintro e w1 ⟨A11, n11, c11, D11, m11, d11, A12, n12, c12, D12, m12, d12, rfl, Q11, Q12, bb⟩
  have T := (((((S.out.call bb).read Q11.n).read Q11.d).read Q12.n).read Q12.d)
  clear bb S
  have S := T
  clear T
  obtain ⟨c_r0, c_r1, c_r2, f_r0, f_r1, f_r2⟩ := S.cf3 0 rfl
  obtain ⟨c_a0, c_a1, c_a2, c_a3, c_a4, c_a5, f_a0, f_a1, f_a2, f_a3, f_a4, f_a5⟩ := S.cf6 1 rfl
  have hz : w.heap.size + 1 < w1.heap.size := S.lt 0 rfl
  replace S := Lib.hid S
  clear hT Q11 Q12
  have S : St w _ [(w.heap.size + 1, #[.bool false, .slice none 0 0, .slice none 0 0], 26), (w.heap.size, #[.bool (ng lo.num), .slice A11 n11 c11, .slice D11 m11 d11, .bool (ng hi.num), .slice A12 n12 c12, .slice D12 m12 d12], 28)] [(D12, m12, d12, dn hi), (A12, n12, c12, limbs hi.num.natAbs), (D11, m11, d11, dn lo), (A11, n11, c11, limbs lo.num.natAbs), (D2, m2, d2, y2), (A2, n2, c2, x2), (D1, m1, d1, y1), (A1, n1, c1, x1)] := ((((((S.out.set 1 0 (.bool (ng lo.num)) rfl (by nofun)).set 1 1 (.slice A11 n11 c11) rfl (by nofun)).set 1 2 (.slice D11 m11 d11) rfl (by nofun)).set 1 3 (.bool (ng hi.num)) rfl (by nofun)).set 1 4 (.slice A12 n12 c12) rfl (by nofun)).set 1 5 (.slice D12 m12 d12) rfl (by nofun))
  obtain ⟨a_a0, a_a1, a_a2, a_a3, a_a4, a_a5, b_a0, b_a1, b_a2, b_a3, b_a4, b_a5⟩ := S.cf6 1 rfl
  replace S := Lib.hid S
  go_wp2_with fail
  refine (hS.out _ _ _ _ _ _ _ _ _ _ _ _ _ ⟨S.out.r 3 rfl, S.out.r 2 rfl⟩ ⟨S.out.r 1 rfl, S.out.r 0 rfl⟩).mono ?_
  rintro e w2 ⟨A13, n13, c13, D13, m13, d13, rfl, Q13, bb⟩
  have T := (((S.out.call bb).read Q13.n).read Q13.d)
  clear bb S c_r0 f_r0 c_r1 f_r1 c_r2 f_r2 c_a0 f_a0 c_a1 f_a1 c_a2 f_a2 c_a3 f_a3 c_a4 f_a4 c_a5 f_a5 hz a_a0 b_a0 a_a1 b_a1 a_a2 b_a2 a_a3 b_a3 a_a4 b_a4 a_a5 b_a5
  have S := T
  clear T
  obtain ⟨c_r0, c_r1, c_r2, f_r0, f_r1, f_r2⟩ := S.cf3 0 rfl
  obtain ⟨c_a0, c_a1, c_a2, c_a3, c_a4, c_a5, f_a0, f_a1, f_a2, f_a3, f_a4, f_a5⟩ := S.cf6 1 rfl
  have hz : w.heap.size + 1 < w2.heap.size := S.lt 0 rfl
  replace S := Lib.hid S
  clear Q13 hS
  go_wp2_with fail
  refine (hF.out _).mono ?_
  rintro e w3 ⟨A14, n14, c14, D14, m14, d14, rfl, Q14, bb⟩
  have T := (((S.out.call bb).read Q14.n).read Q14.d)
  clear bb S c_r0 f_r0 c_r1 f_r1 c_r2 f_r2 c_a0 f_a0 c_a1 f_a1 c_a2 f_a2 c_a3 f_a3 c_a4 f_a4 c_a5 f_a5 hz
  have S := T
  clear T
  obtain ⟨c_r0, c_r1, c_r2, f_r0, f_r1, f_r2⟩ := S.cf3 0 rfl
  obtain ⟨c_a0, c_a1, c_a2, c_a3, c_a4, c_a5, f_a0, f_a1, f_a2, f_a3, f_a4, f_a5⟩ := S.cf6 1 rfl
  have hz : w.heap.size + 1 < w3.heap.size := S.lt 0 rfl
  replace S := Lib.hid S
  clear Q14 hF
  go_wp2_with fail
  refine (hQ.out _ _ _ _ _ _ _ _ _ _ _ _ _ ⟨S.out.r 3 rfl, S.out.r 2 rfl⟩ ⟨S.out.r 1 rfl, S.out.r 0 rfl⟩).mono ?_
  rintro e w4 ⟨A9, n9, c9, D9, m9, d9, rfl, Q9, bb⟩
  have T := (((S.out.call bb).read Q9.n).read Q9.d)
  clear bb S c_r0 f_r0 c_r1 f_r1 c_r2 f_r2 c_a0 f_a0 c_a1 f_a1 c_a2 f_a2 c_a3 f_a3 c_a4 f_a4 c_a5 f_a5 hz
  have S := T
  clear T
  obtain ⟨c_r0, c_r1, c_r2, f_r0, f_r1, f_r2⟩ := S.cf3 0 rfl
  obtain ⟨c_a0, c_a1, c_a2, c_a3, c_a4, c_a5, f_a0, f_a1, f_a2, f_a3, f_a4, f_a5⟩ := S.cf6 1 rfl
  have hz : w.heap.size + 1 < w4.heap.size := S.lt 0 rfl
  replace S := Lib.hid S
  clear Q9 hQ
  have S : St w _ [(w.heap.size + 1, #[.bool (ng md.num), .slice A9 n9 c9, .slice D9 m9 d9], 26), (w.heap.size, #[.bool (ng lo.num), .slice A11 n11 c11, .slice D11 m11 d11, .bool (ng hi.num), .slice A12 n12 c12, .slice D12 m12 d12], 28)] [(D9, m9, d9, dn md), (A9, n9, c9, limbs md.num.natAbs), (D14, m14, d14, dn tw), (A14, n14, c14, limbs tw.num.natAbs), (D13, m13, d13, dn su), (A13, n13, c13, limbs su.num.natAbs), (D12, m12, d12, dn hi), (A12, n12, c12, limbs hi.num.natAbs), (D11, m11, d11, dn lo), (A11, n11, c11, limbs lo.num.natAbs), (D2, m2, d2, y2), (A2, n2, c2, x2), (D1, m1, d1, y1), (A1, n1, c1, x1)] := (((S.out.set 0 0 (.bool (ng md.num)) rfl (by nofun)).set 0 1 (.slice A9 n9 c9) rfl (by nofun)).set 0 2 (.slice D9 m9 d9) rfl (by nofun))
  replace S := Lib.hid S
  go_wp2
  refine bodyPost_ret (res_rmid _ _ (w.heap.size + 1) 26 rfl (S.out.bk _ (List.mem_of_getElem? (i := 0) rfl)).1) rfl ?_
  exact ⟨_, _, _, _, _, _, rfl, ⟨S.out.r 1 rfl, S.out.r 0 rfl⟩, S.out.bel⟩
theorem res_mid (W : World) (tmps : Array Value) (g t : Nat) {v0 v1 v2 : Value} (ht : tmps.getD 2 undef = .pointer (some ⟨g, 0, none⟩)) (h : Cb W g #[v0, v1, v2] t) :
    (results Tryz.f26 tmps).run Tryz.prog W = .ok (.agg #[v0, v1, v2]) W := by
  have c0 : W.cell? ⟨g, 0, none⟩ = some v0 := h.cell rfl
  have c1 : W.cell? ⟨g, 1, none⟩ = some v1 := h.cell rfl
  have c2 : W.cell? ⟨g, 2, none⟩ = some v2 := h.cell rfl
  have ht' : tmps[2]?.getD undef = .pointer (some ⟨g, 0, none⟩) := by rw [← ht]; simp [Array.getD_eq_getD_getElem?]
  simp [results, Tryz.results26, go_sem, ht', c0, c1, c2]

set_option maxRecDepth 100000 in
set_option maxHeartbeats 4000000 in
theorem mid_any (b1 : Bool) (A1 : Option Addr) (n1 c1 : Nat) (x1 : List Nat) (D1 : Option Addr) (m1 d1 : Nat) (y1 : List Nat) (q1 : Rat) (b2 : Bool) (A2 : Option Addr) (n2 c2 : Nat) (x2 : List Nat) (D2 : Option Addr) (m2 d2 : Nat) (y2 : List Nat) (q2 : Rat) (w : World) (X1 : Rw w b1 A1 n1 c1 x1 D1 m1 d1 y1 q1) (X2 : Rw w b2 A2 n2 c2 x2 D2 m2 d2 y2 q2) : Calls Tryz.prog 26 #[.agg #[.bool b1, .slice A1 n1 c1, .slice D1 m1 d1, .bool b2, .slice A2 n2 c2, .slice D2 m2 d2]] w (RetR ((klo q1 q2 + khi q1 q2) / qz 2) w) := by
  obtain ⟨sl, sh⟩ := k_rs X1.rs X2.rs
  obtain ⟨b4, A4, n4, c4, x4, D4, m4, d4, y4, b5, A5, n5, c5, x5, D5, m5, d5, y5, X4, X5, hK⟩ := known_rows b1 A1 n1 c1 x1 D1 m1 d1 y1 q1 b2 A2 n2 c2 x2 D2 m2 d2 y2 q2 w X1 X2
  generalize klo q1 q2 = q4 at *
  generalize khi q1 q2 = q5 at *
  rw [Rat.div_def]
  have hS := fun W h1 h2 => addW b4 A4 n4 c4 x4 D4 m4 d4 y4 q4 b5 A5 n5 c5 x5 D5 m5 d5 y5 q5 W h1 h2
  have sm := Lib.hid (sl.add sh)
  have hF : Hid (∀ W, Calls Tryz.prog 70 #[.int .i64 (-1)] W (RetR (qz 2)⁻¹ W)) := Lib.hid fun W => pow2_neg 1 W (by decide) (by decide)
  have s2 : Hid (Rs (qz 2)⁻¹ 1) := Lib.hid ((qz_rs (N := 2) (p := 1) (by decide) (by decide)).inv (by decide))
  have k1 := Lib.hid X1.k
  have k2 := Lib.hid X2.k
  have k4 := Lib.hid X4.k
  have k5 := Lib.hid X5.k
  generalize q4 + q5 = su at *
  generalize (qz 2)⁻¹ = tw at *
  have hQ : Hid (∀ W A0 n0 c0 D0 m0 d0 A1 n1 c1 D1 m1 d1, RR W A0 n0 c0 D0 m0 d0 su → RR W A1 n1 c1 D1 m1 d1 tw → Calls Tryz.prog 68 #[.agg #[.bool (ng su.num), .slice A0 n0 c0, .slice D0 m0 d0], .agg #[.bool (ng tw.num), .slice A1 n1 c1, .slice D1 m1 d1]] W (RetR (su * tw) W)) := Lib.hid fun W A0 n0 c0 D0 m0 d0 A1 n1 c1 D1 m1 d1 X0 X1 => mulQ su tw A0 n0 c0 D0 m0 d0 A1 n1 c1 D1 m1 d1 W X0 X1 (sm.out.mono (by decide)) (s2.out.mono (by decide))
  generalize su * tw = md at *
  replace hS := Lib.hid hS
  clear sl sh sm s2
  have S := (((((((((((St.new w).read X1.rn).read X1.rd).read X2.rn).read X2.rd).read X4.rn).read X4.rd).read X5.rn).read X5.rd).allocAt (w.heap.size) #[.bool b1, .slice A1 n1 c1, .slice D1 m1 d1, .bool b2, .slice A2 n2 c2, .slice D2 m2 d2] 28 (noL6 _ _ _ _ _ _ _ _ _ _ _ _ _ _) (by simp)).allocAt (w.heap.size + 1) #[.bool false, .slice none 0 0, .slice none 0 0] 26 (noL3 _ _ _ _ _ _ _) (by simp))
  replace S := Lib.hid S
  clear X1 X2 X4 X5
  go_enter Tryz.func26, Tryz.ntmps26
  go_wp2_with fail
  refine (hK.out _ (Rw.of (S.out.r 7 rfl) (S.out.r 6 rfl) k1.out) (Rw.of (S.out.r 5 rfl) (S.out.r 4 rfl) k2.out)).mono ?_
  rintro e w1 ⟨rfl, bb⟩
  have T := (S.out.call bb)
  clear bb S
  have S := T
  clear T
  obtain ⟨c_r0, c_r1, c_r2, f_r0, f_r1, f_r2⟩ := S.cf3 0 rfl
  obtain ⟨c_a0, c_a1, c_a2, c_a3, c_a4, c_a5, f_a0, f_a1, f_a2, f_a3, f_a4, f_a5⟩ := S.cf6 1 rfl
  have hz : w.heap.size + 1 < w1.heap.size := S.lt 0 rfl
  replace S := Lib.hid S
  clear hK
  have S : St w _ [(w.heap.size + 1, #[.bool false, .slice none 0 0, .slice none 0 0], 26), (w.heap.size, #[.bool b4, .slice A4 n4 c4, .slice D4 m4 d4, .bool b5, .slice A5 n5 c5, .slice D5 m5 d5], 28)] [(D5, m5, d5, y5), (A5, n5, c5, x5), (D4, m4, d4, y4), (A4, n4, c4, x4), (D2, m2, d2, y2), (A2, n2, c2, x2), (D1, m1, d1, y1), (A1, n1, c1, x1)] := ((((((S.out.set 1 0 (.bool b4) rfl (by nofun)).set 1 1 (.slice A4 n4 c4) rfl (by nofun)).set 1 2 (.slice D4 m4 d4) rfl (by nofun)).set 1 3 (.bool b5) rfl (by nofun)).set 1 4 (.slice A5 n5 c5) rfl (by nofun)).set 1 5 (.slice D5 m5 d5) rfl (by nofun))
  obtain ⟨a_a0, a_a1, a_a2, a_a3, a_a4, a_a5, b_a0, b_a1, b_a2, b_a3, b_a4, b_a5⟩ := S.cf6 1 rfl
  replace S := Lib.hid S
  go_wp2_with fail
  refine (hS.out _ (Rw.of (S.out.r 3 rfl) (S.out.r 2 rfl) k4.out) (Rw.of (S.out.r 1 rfl) (S.out.r 0 rfl) k5.out)).mono ?_
  rintro e w2 ⟨A13, n13, c13, D13, m13, d13, rfl, Q13, bb⟩
  have T := (((S.out.call bb).read Q13.n).read Q13.d)
  clear bb S c_r0 f_r0 c_r1 f_r1 c_r2 f_r2 c_a0 f_a0 c_a1 f_a1 c_a2 f_a2 c_a3 f_a3 c_a4 f_a4 c_a5 f_a5 hz a_a0 b_a0 a_a1 b_a1 a_a2 b_a2 a_a3 b_a3 a_a4 b_a4 a_a5 b_a5
  have S := T
  clear T
  obtain ⟨c_r0, c_r1, c_r2, f_r0, f_r1, f_r2⟩ := S.cf3 0 rfl
  obtain ⟨c_a0, c_a1, c_a2, c_a3, c_a4, c_a5, f_a0, f_a1, f_a2, f_a3, f_a4, f_a5⟩ := S.cf6 1 rfl
  have hz : w.heap.size + 1 < w2.heap.size := S.lt 0 rfl
  replace S := Lib.hid S
  clear Q13 hS
  go_wp2_with fail
  refine (hF.out _).mono ?_
  rintro e w3 ⟨A14, n14, c14, D14, m14, d14, rfl, Q14, bb⟩
  have T := (((S.out.call bb).read Q14.n).read Q14.d)
  clear bb S c_r0 f_r0 c_r1 f_r1 c_r2 f_r2 c_a0 f_a0 c_a1 f_a1 c_a2 f_a2 c_a3 f_a3 c_a4 f_a4 c_a5 f_a5 hz
  have S := T
  clear T
  obtain ⟨c_r0, c_r1, c_r2, f_r0, f_r1, f_r2⟩ := S.cf3 0 rfl
  obtain ⟨c_a0, c_a1, c_a2, c_a3, c_a4, c_a5, f_a0, f_a1, f_a2, f_a3, f_a4, f_a5⟩ := S.cf6 1 rfl
  have hz : w.heap.size + 1 < w3.heap.size := S.lt 0 rfl
  replace S := Lib.hid S
  clear Q14 hF
  go_wp2_with fail
  refine (hQ.out _ _ _ _ _ _ _ _ _ _ _ _ _ ⟨S.out.r 3 rfl, S.out.r 2 rfl⟩ ⟨S.out.r 1 rfl, S.out.r 0 rfl⟩).mono ?_
  rintro e w4 ⟨A9, n9, c9, D9, m9, d9, rfl, Q9, bb⟩
  have T := (((S.out.call bb).read Q9.n).read Q9.d)
  clear bb S c_r0 f_r0 c_r1 f_r1 c_r2 f_r2 c_a0 f_a0 c_a1 f_a1 c_a2 f_a2 c_a3 f_a3 c_a4 f_a4 c_a5 f_a5 hz
  have S := T
  clear T
  obtain ⟨c_r0, c_r1, c_r2, f_r0, f_r1, f_r2⟩ := S.cf3 0 rfl
  obtain ⟨c_a0, c_a1, c_a2, c_a3, c_a4, c_a5, f_a0, f_a1, f_a2, f_a3, f_a4, f_a5⟩ := S.cf6 1 rfl
  have hz : w.heap.size + 1 < w4.heap.size := S.lt 0 rfl
  replace S := Lib.hid S
  clear Q9 hQ
  have S : St w _ [(w.heap.size + 1, #[.bool (ng md.num), .slice A9 n9 c9, .slice D9 m9 d9], 26), (w.heap.size, #[.bool b4, .slice A4 n4 c4, .slice D4 m4 d4, .bool b5, .slice A5 n5 c5, .slice D5 m5 d5], 28)] [(D9, m9, d9, dn md), (A9, n9, c9, limbs md.num.natAbs), (D14, m14, d14, dn tw), (A14, n14, c14, limbs tw.num.natAbs), (D13, m13, d13, dn su), (A13, n13, c13, limbs su.num.natAbs), (D5, m5, d5, y5), (A5, n5, c5, x5), (D4, m4, d4, y4), (A4, n4, c4, x4), (D2, m2, d2, y2), (A2, n2, c2, x2), (D1, m1, d1, y1), (A1, n1, c1, x1)] := (((S.out.set 0 0 (.bool (ng md.num)) rfl (by nofun)).set 0 1 (.slice A9 n9 c9) rfl (by nofun)).set 0 2 (.slice D9 m9 d9) rfl (by nofun))
  replace S := Lib.hid S
  go_wp2
  refine bodyPost_ret (res_mid _ _ (w.heap.size + 1) 26 rfl (S.out.bk _ (List.mem_of_getElem? (i := 0) rfl)).1) rfl ?_
  exact ⟨_, _, _, _, _, _, rfl, ⟨S.out.r 1 rfl, S.out.r 0 rfl⟩, S.out.bel⟩
end Go.Proofs.YtidhloliahfknaaGreat
