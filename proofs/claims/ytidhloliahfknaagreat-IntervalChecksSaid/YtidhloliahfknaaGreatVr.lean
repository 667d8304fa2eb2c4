/- The reference's Within. -/
import Derived.Test.YtidhloliahfknaaGreatQVpz
namespace Go.Proofs.YtidhloliahfknaaGreat
open Go.RowKit RQ

set_option maxRecDepth 100000 in
set_option maxHeartbeats 4000000 in
theorem rwithin_any (b1 : Bool) (A1 : Option Addr) (n1 c1 : Nat) (x1 : List Nat) (D1 : Option Addr) (m1 d1 : Nat) (y1 : List Nat) (q1 : Rat) (b2 : Bool) (A2 : Option Addr) (n2 c2 : Nat) (x2 : List Nat) (D2 : Option Addr) (m2 d2 : Nat) (y2 : List Nat) (q2 : Rat) (b3 : Bool) (A3 : Option Addr) (n3 c3 : Nat) (x3 : List Nat) (D3 : Option Addr) (m3 d3 : Nat) (y3 : List Nat) (q3 : Rat) (b4 : Bool) (A4 : Option Addr) (n4 c4 : Nat) (x4 : List Nat) (D4 : Option Addr) (m4 d4 : Nat) (y4 : List Nat) (q4 : Rat) (w : World) (X1 : Rw w b1 A1 n1 c1 x1 D1 m1 d1 y1 q1) (X2 : Rw w b2 A2 n2 c2 x2 D2 m2 d2 y2 q2) (X3 : Rw w b3 A3 n3 c3 x3 D3 m3 d3 y3 q3) (X4 : Rw w b4 A4 n4 c4 x4 D4 m4 d4 y4 q4) : Calls Tryz.prog 22 #[.agg #[.bool b1, .slice A1 n1 c1, .slice D1 m1 d1, .bool b2, .slice A2 n2 c2, .slice D2 m2 d2], .agg #[.bool b3, .slice A3 n3 c3, .slice D3 m3 d3, .bool b4, .slice A4 n4 c4, .slice D4 m4 d4]] w fun e w' => e = .returned (.bool ((decide (klo q3 q4 ≤ klo q1 q2) && decide (klo q1 q2 ≤ khi q3 q4)) && (decide (klo q3 q4 ≤ khi q1 q2) && decide (khi q1 q2 ≤ khi q3 q4)))) ∧ Below w.heap.size w w' := by
  obtain ⟨sl, sh⟩ := k_rs X1.rs X2.rs
  have hT := Lib.hid (fun W h1 h2 => rtakeV_any b1 A1 n1 c1 x1 D1 m1 d1 y1 q1 b2 A2 n2 c2 x2 D2 m2 d2 y2 q2 W h1 h2)
  generalize klo q1 q2 = lo at *
  generalize khi q1 q2 = hi at *
  have hC1 : ∀ W A n c D m d, Rw W b3 A3 n3 c3 x3 D3 m3 d3 y3 q3 → Rw W b4 A4 n4 c4 x4 D4 m4 d4 y4 q4 → RR W A n c D m d lo → Calls Tryz.prog 20 #[.agg #[.bool b3, .slice A3 n3 c3, .slice D3 m3 d3, .bool b4, .slice A4 n4 c4, .slice D4 m4 d4], .agg #[.bool (ng lo.num), .slice A n c, .slice D m d]] W fun e w' => e = .returned (.bool (decide (klo q3 q4 ≤ lo) && decide (lo ≤ khi q3 q4))) ∧ Below W.heap.size W w' := fun W A n c D m d h1 h2 h3 => rcontains_any _ _ _ _ _ _ _ _ _ _ _ _ _ _ _ _ _ _ _ _ _ _ _ _ _ _ _ _ _ _ W h1 h2 (RR.w h3 sl)
  have hC2 : ∀ W A n c D m d, Rw W b3 A3 n3 c3 x3 D3 m3 d3 y3 q3 → Rw W b4 A4 n4 c4 x4 D4 m4 d4 y4 q4 → RR W A n c D m d hi → Calls Tryz.prog 20 #[.agg #[.bool b3, .slice A3 n3 c3, .slice D3 m3 d3, .bool b4, .slice A4 n4 c4, .slice D4 m4 d4], .agg #[.bool (ng hi.num), .slice A n c, .slice D m d]] W fun e w' => e = .returned (.bool (decide (klo q3 q4 ≤ hi) && decide (hi ≤ khi q3 q4))) ∧ Below W.heap.size W w' := fun W A n c D m d h1 h2 h3 => rcontains_any _ _ _ _ _ _ _ _ _ _ _ _ _ _ _ _ _ _ _ _ _ _ _ _ _ _ _ _ _ _ W h1 h2 (RR.w h3 sh)
  generalize (decide (klo q3 q4 ≤ lo) && decide (lo ≤ khi q3 q4)) = u1 at *
  generalize (decide (klo q3 q4 ≤ hi) && decide (hi ≤ khi q3 q4)) = u2 at *
  replace hC2 := Lib.hid hC2
  clear sl sh
  have k1 := Lib.hid X1.k
  have k2 := Lib.hid X2.k
  have k3 := Lib.hid X3.k
  have k4 := Lib.hid X4.k
  have S := (((((((((((St.new w).read X1.rn).read X1.rd).read X2.rn).read X2.rd).read X3.rn).read X3.rd).read X4.rn).read X4.rd).allocAt (w.heap.size) #[.bool b1, .slice A1 n1 c1, .slice D1 m1 d1, .bool b2, .slice A2 n2 c2, .slice D2 m2 d2] 28 (noL6 _ _ _ _ _ _ _ _ _ _ _ _ _ _) (by simp)).allocAt (w.heap.size + 1) #[.bool b3, .slice A3 n3 c3, .slice D3 m3 d3, .bool b4, .slice A4 n4 c4, .slice D4 m4 d4] 28 (noL6 _ _ _ _ _ _ _ _ _ _ _ _ _ _) (by simp))
  replace S := Lib.hid S
  clear X1 X2 X3 X4
  cases u1
  · replace hC1 := Lib.hid hC1
    go_enter Tryz.func22, Tryz.ntmps22
    go_wp2_with fail
    refine (hT.out _ (Rw.of (S.out.r 7 rfl) (S.out.r 6 rfl) k1.out) (Rw.of (S.out.r 5 rfl) (S.out.r 4 rfl) k2.out)).mono ?_
    rintro e w1 ⟨A11, n11, c11, D11, m11, d11, A12, n12, c12, D12, m12, d12, rfl, Q11, Q12, bb⟩
    have T := (((((S.out.call bb).read Q11.n).read Q11.d).read Q12.n).read Q12.d)
    clear bb S
    have S := T
    clear T
    obtain ⟨c_b0, c_b1, c_b2, c_b3, c_b4, c_b5, f_b0, f_b1, f_b2, f_b3, f_b4, f_b5⟩ := S.cf6 0 rfl
    obtain ⟨c_a0, c_a1, c_a2, c_a3, c_a4, c_a5, f_a0, f_a1, f_a2, f_a3, f_a4, f_a5⟩ := S.cf6 1 rfl
    have hz : w.heap.size + 1 < w1.heap.size := S.lt 0 rfl
    replace S := Lib.hid S
    clear hT Q11 Q12
    have S : St w _ [(w.heap.size + 1, #[.bool b3, .slice A3 n3 c3, .slice D3 m3 d3, .bool b4, .slice A4 n4 c4, .slice D4 m4 d4], 28), (w.heap.size, #[.bool (ng lo.num), .slice A11 n11 c11, .slice D11 m11 d11, .bool (ng hi.num), .slice A12 n12 c12, .slice D12 m12 d12], 28)] [(D12, m12, d12, dn hi), (A12, n12, c12, limbs hi.num.natAbs), (D11, m11, d11, dn lo), (A11, n11, c11, limbs lo.num.natAbs), (D4, m4, d4, y4), (A4, n4, c4, x4), (D3, m3, d3, y3), (A3, n3, c3, x3), (D2, m2, d2, y2), (A2, n2, c2, x2), (D1, m1, d1, y1), (A1, n1, c1, x1)] := ((((((S.out.set 1 0 (.bool (ng lo.num)) rfl (by nofun)).set 1 1 (.slice A11 n11 c11) rfl (by nofun)).set 1 2 (.slice D11 m11 d11) rfl (by nofun)).set 1 3 (.bool (ng hi.num)) rfl (by nofun)).set 1 4 (.slice A12 n12 c12) rfl (by nofun)).set 1 5 (.slice D12 m12 d12) rfl (by nofun))
    obtain ⟨a_a0, a_a1, a_a2, a_a3, a_a4, a_a5, b_a0, b_a1, b_a2, b_a3, b_a4, b_a5⟩ := S.cf6 1 rfl
    obtain ⟨a_b0, a_b1, a_b2, a_b3, a_b4, a_b5, b_b0, b_b1, b_b2, b_b3, b_b4, b_b5⟩ := S.cf6 0 rfl
    replace S := Lib.hid S
    go_wp2_with fail
    refine (hC1.out _ _ _ _ _ _ _ (Rw.of (S.out.r 7 rfl) (S.out.r 6 rfl) k3.out) (Rw.of (S.out.r 5 rfl) (S.out.r 4 rfl) k4.out) ⟨S.out.r 3 rfl, S.out.r 2 rfl⟩).mono ?_
    rintro e w2 ⟨rfl, bb⟩
    have T := (S.out.call bb)
    clear bb S c_b0 f_b0 c_b1 f_b1 c_b2 f_b2 c_b3 f_b3 c_b4 f_b4 c_b5 f_b5 c_a0 f_a0 c_a1 f_a1 c_a2 f_a2 c_a3 f_a3 c_a4 f_a4 c_a5 f_a5 hz a_a0 b_a0 a_a1 b_a1 a_a2 b_a2 a_a3 b_a3 a_a4 b_a4 a_a5 b_a5 a_b0 b_b0 a_b1 b_b1 a_b2 b_b2 a_b3 b_b3 a_b4 b_b4 a_b5 b_b5
    have S := T
    clear T
    obtain ⟨c_b0, c_b1, c_b2, c_b3, c_b4, c_b5, f_b0, f_b1, f_b2, f_b3, f_b4, f_b5⟩ := S.cf6 0 rfl
    obtain ⟨c_a0, c_a1, c_a2, c_a3, c_a4, c_a5, f_a0, f_a1, f_a2, f_a3, f_a4, f_a5⟩ := S.cf6 1 rfl
    have hz : w.heap.size + 1 < w2.heap.size := S.lt 0 rfl
    replace S := Lib.hid S
    clear hC1
    have S := S.out
    replace S := Lib.hid S
    go_wp2
    go_ret
    exact ⟨rfl, S.out.bel⟩
  · replace hC1 := Lib.hid hC1
    rw [Bool.true_and]
    go_enter Tryz.func22, Tryz.ntmps22
    go_wp2_with fail
    refine (hT.out _ (Rw.of (S.out.r 7 rfl) (S.out.r 6 rfl) k1.out) (Rw.of (S.out.r 5 rfl) (S.out.r 4 rfl) k2.out)).mono ?_
    rintro e w1 ⟨A11, n11, c11, D11, m11, d11, A12, n12, c12, D12, m12, d12, rfl, Q11, Q12, bb⟩
    have T := (((((S.out.call bb).read Q11.n).read Q11.d).read Q12.n).read Q12.d)
    clear bb S
    have S := T
    clear T
    obtain ⟨c_b0, c_b1, c_b2, c_b3, c_b4, c_b5, f_b0, f_b1, f_b2, f_b3, f_b4, f_b5⟩ := S.cf6 0 rfl
    obtain ⟨c_a0, c_a1, c_a2, c_a3, c_a4, c_a5, f_a0, f_a1, f_a2, f_a3, f_a4, f_a5⟩ := S.cf6 1 rfl
    have hz : w.heap.size + 1 < w1.heap.size := S.lt 0 rfl
    replace S := Lib.hid S
    clear hT Q11 Q12
    have S : St w _ [(w.heap.size + 1, #[.bool b3, .slice A3 n3 c3, .slice D3 m3 d3, .bool b4, .slice A4 n4 c4, .slice D4 m4 d4], 28), (w.heap.size, #[.bool (ng lo.num), .slice A11 n11 c11, .slice D11 m11 d11, .bool (ng hi.num), .slice A12 n12 c12, .slice D12 m12 d12], 28)] [(D12, m12, d12, dn hi), (A12, n12, c12, limbs hi.num.natAbs), (D11, m11, d11, dn lo), (A11, n11, c11, limbs lo.num.natAbs), (D4, m4, d4, y4), (A4, n4, c4, x4), (D3, m3, d3, y3), (A3, n3, c3, x3), (D2, m2, d2, y2), (A2, n2, c2, x2), (D1, m1, d1, y1), (A1, n1, c1, x1)] := ((((((S.out.set 1 0 (.bool (ng lo.num)) rfl (by nofun)).set 1 1 (.slice A11 n11 c11) rfl (by nofun)).set 1 2 (.slice D11 m11 d11) rfl (by nofun)).set 1 3 (.bool (ng hi.num)) rfl (by nofun)).set 1 4 (.slice A12 n12 c12) rfl (by nofun)).set 1 5 (.slice D12 m12 d12) rfl (by nofun))
    obtain ⟨a_a0, a_a1, a_a2, a_a3, a_a4, a_a5, b_a0, b_a1, b_a2, b_a3, b_a4, b_a5⟩ := S.cf6 1 rfl
    obtain ⟨a_b0, a_b1, a_b2, a_b3, a_b4, a_b5, b_b0, b_b1, b_b2, b_b3, b_b4, b_b5⟩ := S.cf6 0 rfl
    replace S := Lib.hid S
    go_wp2_with fail
    refine (hC1.out _ _ _ _ _ _ _ (Rw.of (S.out.r 7 rfl) (S.out.r 6 rfl) k3.out) (Rw.of (S.out.r 5 rfl) (S.out.r 4 rfl) k4.out) ⟨S.out.r 3 rfl, S.out.r 2 rfl⟩).mono ?_
    rintro e w2 ⟨rfl, bb⟩
    have T := (S.out.call bb)
    clear bb S c_b0 f_b0 c_b1 f_b1 c_b2 f_b2 c_b3 f_b3 c_b4 f_b4 c_b5 f_b5 c_a0 f_a0 c_a1 f_a1 c_a2 f_a2 c_a3 f_a3 c_a4 f_a4 c_a5 f_a5 hz a_a0 b_a0 a_a1 b_a1 a_a2 b_a2 a_a3 b_a3 a_a4 b_a4 a_a5 b_a5 a_b0 b_b0 a_b1 b_b1 a_b2 b_b2 a_b3 b_b3 a_b4 b_b4 a_b5 b_b5
    have S := T
    clear T
    obtain ⟨c_b0, c_b1, c_b2, c_b3, c_b4, c_b5, f_b0, f_b1, f_b2, f_b3, f_b4, f_b5⟩ := S.cf6 0 rfl
    obtain ⟨c_a0, c_a1, c_a2, c_a3, c_a4, c_a5, f_a0, f_a1, f_a2, f_a3, f_a4, f_a5⟩ := S.cf6 1 rfl
    have hz : w.heap.size + 1 < w2.heap.size := S.lt 0 rfl
    replace S := Lib.hid S
    clear hC1
    go_wp2_with fail
    refine (hC2.out _ _ _ _ _ _ _ (Rw.of (S.out.r 7 rfl) (S.out.r 6 rfl) k3.out) (Rw.of (S.out.r 5 rfl) (S.out.r 4 rfl) k4.out) ⟨S.out.r 1 rfl, S.out.r 0 rfl⟩).mono ?_
    rintro e w3 ⟨rfl, bb⟩
    have T := (S.out.call bb)
    clear bb S c_b0 f_b0 c_b1 f_b1 c_b2 f_b2 c_b3 f_b3 c_b4 f_b4 c_b5 f_b5 c_a0 f_a0 c_a1 f_a1 c_a2 f_a2 c_a3 f_a3 c_a4 f_a4 c_a5 f_a5 hz
    have S := T
    clear T
    obtain ⟨c_b0, c_b1, c_b2, c_b3, c_b4, c_b5, f_b0, f_b1, f_b2, f_b3, f_b4, f_b5⟩ := S.cf6 0 rfl
    obtain ⟨c_a0, c_a1, c_a2, c_a3, c_a4, c_a5, f_a0, f_a1, f_a2, f_a3, f_a4, f_a5⟩ := S.cf6 1 rfl
    have hz : w.heap.size + 1 < w3.heap.size := S.lt 0 rfl
    replace S := Lib.hid S
    clear hC2
    have S := S.out
    replace S := Lib.hid S
    go_wp2
    go_ret
    exact ⟨rfl, S.out.bel⟩
end Go.Proofs.YtidhloliahfknaaGreat
