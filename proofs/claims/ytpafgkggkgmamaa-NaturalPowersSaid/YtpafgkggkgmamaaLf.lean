/- The walk of one law. -/
import Derived.Test.YtpafgkggkgmamaaWy
namespace Go.Proofs.Ytpafgkggkgmamaa
open Go.RowKit

theorem root_raw (A : Option Addr) (n c : Nat) (xs : List Nat) (w : World) (h1 : Rd w A n c xs) (hn : n ≤ 500) : Calls Try.prog 33 #[.slice A n c] w (RetN (isq (num xs)) w) :=
  root_any A n c xs w (2 ^ (32 * n + 32)) h1 hn (divsBy_any _ _) (by
    intro m l hm hl
    have e : (limbs (num xs)).length ≤ n := len_of_lt (by have := num_lt h1.sm; rw [h1.len] at this; exact this)
    have hlb : l < 4294967296 := by rw [← hl]; exact sm_get (sm_limbs _) m
    have := Lib.bitLen_le l 32 (by omega) (by omega)
    exact Nat.pow_le_pow_right (by omega) (by omega))

theorem isq_le (x : Nat) : isq x ≤ x := by
  have h3 := (isq_spec x).1
  rcases Nat.eq_zero_or_pos (isq x) with h | h
  · omega
  · have := Nat.mul_le_mul_left (isq x) h
    omega

theorem powV_len {x : Nat} (k : Int) (hx : x < 4294967296 ^ 6) : (limbs (powV x k)).length ≤ 385 := by
  unfold powV
  split
  · rename_i h
    refine Nat.le_trans (len_of_lt (pow_bd hx (by omega))) ?_
    omega
  · rw [limbs_zero]; simp

set_option maxHeartbeats 4000000 in
theorem law_powers (A : Option Addr) (n c : Nat) (xs : List Nat) (k : Int) (w : World) (h1 : Rd w A n c xs) (m1 : n ≤ 9223372036854775807) :
    Calls Try.prog 6 #[.slice A n c, .int .i64 k] w fun e w' => e = .returned (.bool true) ∧ Below w.heap.size w w' := by
  by_cases hl6 : 6 < n
  · have hl6i : (6 : Int) < (n : Int) := by omega
    clear h1
    go_enter Try.func6, Try.ntmps6
    go_wp2_with fail
    refine (awake_any _).mono ?_
    rintro e w1 ⟨rfl, bb⟩
    replace bb := Lib.hid bb
    go_wp2
    go_ret
    exact ⟨rfl, bb.out⟩
  have l_a : n ≤ 6 := by omega
  have hl6i : (n : Int) ≤ 6 := by omega
  have hx : num xs < 4294967296 ^ 6 := by
    have := num_lt h1.sm
    rw [h1.len] at this
    exact Nat.lt_of_lt_of_le this (Nat.pow_le_pow_right (by omega) l_a)
  replace hx := Lib.hid hx
  have R_a := Lib.hid h1
  clear h1 hl6 m1
  have Bw := Lib.hid (Below.refl w.heap.size w)
  go_enter Try.func6, Try.ntmps6
  go_wp2_with fail
  refine (awake_any _).mono ?_
  rintro e w1 ⟨rfl, bb⟩
  replace R_a := Lib.hid (R_a.out.below bb)
  replace Bw := Lib.hid (Bw.out.trans (bb.mono Bw.out.size))
  clear bb
  go_wp2_with fail
  refine (root_raw _ _ _ _ _ R_a.out (by omega)).mono ?_
  rintro e w2 ⟨A_p, n_p, c_p, rfl, R_p, bb⟩
  replace R_a := Lib.hid (R_a.out.below bb)
  replace Bw := Lib.hid (Bw.out.trans (bb.mono Bw.out.size))
  clear bb
  replace R_p := Lib.hid R_p
  go_wp2_with fail
  refine (rroot_any _ _ _ _ _ R_a.out (by omega)).mono ?_
  rintro e w3 ⟨A_q, n_q, c_q, rfl, R_q, bb⟩
  replace R_a := Lib.hid (R_a.out.below bb)
  replace R_p := Lib.hid (R_p.out.below bb)
  replace Bw := Lib.hid (Bw.out.trans (bb.mono Bw.out.size))
  clear bb
  replace R_q := Lib.hid R_q
  have l_p : n_p ≤ 6 := by rw [← R_p.out.len]; exact len_of_lt (Nat.lt_of_le_of_lt (isq_le _) hx.out)
  go_wp2_with fail
  refine (same_b _ _ _ _ _ _ _ _ _ R_p.out R_q.out (by omega) (rfl)).mono ?_
  rintro e w4 ⟨rfl, bb⟩
  replace R_a := Lib.hid (R_a.out.below bb)
  replace R_p := Lib.hid (R_p.out.below bb)
  replace R_q := Lib.hid (R_q.out.below bb)
  replace Bw := Lib.hid (Bw.out.trans (bb.mono Bw.out.size))
  clear bb
  clear R_p R_q l_p
  go_wp2_with fail
  refine (power_any _ _ _ _ _ _ R_a.out l_a).mono ?_
  rintro e w5 ⟨A_p, n_p, c_p, rfl, R_p, bb⟩
  replace R_a := Lib.hid (R_a.out.below bb)
  replace Bw := Lib.hid (Bw.out.trans (bb.mono Bw.out.size))
  clear bb
  replace R_p := Lib.hid R_p
  go_wp2_with fail
  refine (rpower_any _ _ _ _ _ _ R_a.out l_a).mono ?_
  rintro e w6 ⟨A_q, n_q, c_q, rfl, R_q, bb⟩
  replace R_a := Lib.hid (R_a.out.below bb)
  replace R_p := Lib.hid (R_p.out.below bb)
  replace Bw := Lib.hid (Bw.out.trans (bb.mono Bw.out.size))
  clear bb
  replace R_q := Lib.hid R_q
  have l_p : n_p ≤ 385 := by rw [← R_p.out.len]; exact powV_len _ hx.out
  go_wp2_with fail
  refine (same_b _ _ _ _ _ _ _ _ _ R_p.out R_q.out (by omega) (rfl)).mono ?_
  rintro e w7 ⟨rfl, bb⟩
  replace R_a := Lib.hid (R_a.out.below bb)
  replace R_p := Lib.hid (R_p.out.below bb)
  replace R_q := Lib.hid (R_q.out.below bb)
  replace Bw := Lib.hid (Bw.out.trans (bb.mono Bw.out.size))
  clear bb
  go_wp2
  go_ret
  exact ⟨rfl, Bw.out⟩

end Go.Proofs.Ytpafgkggkgmamaa
