/- The walk of one law. -/
import Derived.Test.YtpafgkggkgmamaaWt
namespace Go.Proofs.Ytpafgkggkgmamaa
open Go.RowKit

theorem raw_lt {w : World} {A : Option Addr} {n c : Nat} {xs : List Nat} {p : Nat} (h : Rd w A n c xs) (hn : n ≤ p) : num xs < 4294967296 ^ p := by
  have h1 := num_lt h.sm
  rw [h.len] at h1
  exact Nat.lt_of_lt_of_le h1 (Nat.pow_le_pow_right (by omega) hn)

theorem sum_len {x y p : Nat} (hx : x < 4294967296 ^ p) (hy : y < 4294967296 ^ p) : (limbs (x + y)).length ≤ p + 1 := by
  apply len_of_lt; rw [Nat.pow_succ]; omega

theorem prod_len {x y p q : Nat} (hx : x < 4294967296 ^ p) (hy : y < 4294967296 ^ q) : (limbs (x * y)).length ≤ p + q := by
  apply len_of_lt; rw [Nat.pow_add]
  exact Nat.mul_lt_mul_of_lt_of_le hx (by omega) (by omega)

set_option maxHeartbeats 4000000 in
theorem law_calc (A : Option Addr) (n c : Nat) (xs : List Nat) (A' : Option Addr) (n' c' : Nat) (ys : List Nat) (w : World) (h1 : Rd w A n c xs) (m1 : n ≤ 9223372036854775807) (h2 : Rd w A' n' c' ys) (m2 : n' ≤ 9223372036854775807) :
    Calls Try.prog 4 #[.slice A n c, .slice A' n' c'] w fun e w' => e = .returned (.bool true) ∧ Below w.heap.size w w' := by
  have hL1 := light_any A n c w m1
  have hL2 := light_any A' n' c' w m2
  by_cases hl12 : ¬ n ≤ 12
  · rw [decide_eq_false hl12] at hL1
    replace hL1 := Lib.hid hL1
    clear hL2 h1 h2 m1 m2 hl12
    go_enter Try.func4, Try.ntmps4
    go_wp2_with fail
    refine (hL1.out).mono ?_
    rintro e w' ⟨rfl, hw⟩
    have hw := hw.symm
    subst hw
    go_wp2_with fail
    refine (awake_any _).mono ?_
    rintro e w1 ⟨rfl, bb⟩
    replace bb := Lib.hid bb
    go_wp2
    go_ret
    exact ⟨rfl, bb.out⟩
  have l_a : n ≤ 12 := Decidable.not_not.1 hl12
  rw [decide_eq_true l_a] at hL1
  replace hL1 := Lib.hid hL1
  clear hl12
  by_cases hl12 : ¬ n' ≤ 12
  · rw [decide_eq_false hl12] at hL2
    replace hL2 := Lib.hid hL2
    clear h1 h2 m1 m2 hl12 l_a
    go_enter Try.func4, Try.ntmps4
    go_wp2_with fail
    refine (hL1.out).mono ?_
    rintro e w' ⟨rfl, hw⟩
    have hw := hw.symm
    subst hw
    go_wp2_with fail
    refine (hL2.out).mono ?_
    rintro e w' ⟨rfl, hw⟩
    have hw := hw.symm
    subst hw
    go_wp2_with fail
    refine (awake_any _).mono ?_
    rintro e w1 ⟨rfl, bb⟩
    replace bb := Lib.hid bb
    go_wp2
    go_ret
    exact ⟨rfl, bb.out⟩
  have l_b : n' ≤ 12 := Decidable.not_not.1 hl12
  rw [decide_eq_true l_b] at hL2
  replace hL2 := Lib.hid hL2
  clear hl12 m1 m2
  have hx := Lib.hid (raw_lt h1 l_a)
  have hy := Lib.hid (raw_lt h2 l_b)
  have R_a := Lib.hid h1
  have R_b := Lib.hid h2
  clear h1 h2
  have Bw := Lib.hid (Below.refl w.heap.size w)
  rcases Nat.lt_or_ge (num xs) (num ys) with hc | hc
  · replace hc := Lib.hid hc
    go_enter Try.func4, Try.ntmps4
    go_wp2_with fail
    refine (hL1.out).mono ?_
    rintro e w' ⟨rfl, hw⟩
    have hw := hw.symm
    subst hw
    go_wp2_with fail
    refine (hL2.out).mono ?_
    rintro e w' ⟨rfl, hw⟩
    have hw := hw.symm
    subst hw
    clear hL1 hL2
    go_wp2_with fail
    refine (sub_lt _ _ _ _ _ _ _ _ _ R_a.out R_b.out (by omega) (by omega) hc.out).mono ?_
    rintro e w1 ⟨rfl, bb⟩
    replace R_a := Lib.hid (R_a.out.below bb)
    replace R_b := Lib.hid (R_b.out.below bb)
    replace Bw := Lib.hid (Bw.out.trans (bb.mono Bw.out.size))
    clear bb
    go_wp2_with fail
    refine (rsub_lt _ _ _ _ _ _ _ _ _ R_a.out R_b.out (by omega) (by omega) hc.out).mono ?_
    rintro e w2 ⟨rfl, bb⟩
    replace R_a := Lib.hid (R_a.out.below bb)
    replace R_b := Lib.hid (R_b.out.below bb)
    replace Bw := Lib.hid (Bw.out.trans (bb.mono Bw.out.size))
    clear bb
    go_wp2_with fail
    refine (awake_any _).mono ?_
    rintro e w3 ⟨rfl, bb⟩
    replace R_a := Lib.hid (R_a.out.below bb)
    replace R_b := Lib.hid (R_b.out.below bb)
    replace Bw := Lib.hid (Bw.out.trans (bb.mono Bw.out.size))
    clear bb
    go_wp2_with fail
    refine (add_any _ _ _ _ _ _ _ _ _ R_a.out R_b.out (by omega) (by omega)).mono ?_
    rintro e w4 ⟨A_p, n_p, c_p, rfl, R_p, bb⟩
    replace R_a := Lib.hid (R_a.out.below bb)
    replace R_b := Lib.hid (R_b.out.below bb)
    replace Bw := Lib.hid (Bw.out.trans (bb.mono Bw.out.size))
    clear bb
    replace R_p := Lib.hid R_p
    go_wp2_with fail
    refine (radd_any _ _ _ _ _ _ _ _ _ R_a.out R_b.out (by omega) (by omega)).mono ?_
    rintro e w5 ⟨A_q, n_q, c_q, rfl, R_q, bb⟩
    replace R_a := Lib.hid (R_a.out.below bb)
    replace R_b := Lib.hid (R_b.out.below bb)
    replace R_p := Lib.hid (R_p.out.below bb)
    replace Bw := Lib.hid (Bw.out.trans (bb.mono Bw.out.size))
    clear bb
    replace R_q := Lib.hid R_q
    have l_p : n_p ≤ 13 := by rw [← R_p.out.len]; exact sum_len hx.out hy.out
    go_wp2_with fail
    refine (same_b _ _ _ _ _ _ _ _ _ R_p.out R_q.out (by omega) (rfl)).mono ?_
    rintro e w6 ⟨rfl, bb⟩
    replace R_a := Lib.hid (R_a.out.below bb)
    replace R_b := Lib.hid (R_b.out.below bb)
    replace R_p := Lib.hid (R_p.out.below bb)
    replace R_q := Lib.hid (R_q.out.below bb)
    replace Bw := Lib.hid (Bw.out.trans (bb.mono Bw.out.size))
    clear bb
    clear R_p R_q l_p
    go_wp2_with fail
    refine (same_b _ _ _ _ _ _ [] [] _ (Rd.nil_ _ _ _) (Rd.nil_ _ _ _) (by omega) rfl).mono ?_
    rintro e w7 ⟨rfl, bb⟩
    replace R_a := Lib.hid (R_a.out.below bb)
    replace R_b := Lib.hid (R_b.out.below bb)
    replace Bw := Lib.hid (Bw.out.trans (bb.mono Bw.out.size))
    clear bb
    go_wp2_with fail
    refine (mul_any _ _ _ _ _ _ _ _ _ R_a.out R_b.out (by omega) (by omega)).mono ?_
    rintro e w8 ⟨A_p, n_p, c_p, rfl, R_p, bb⟩
    replace R_a := Lib.hid (R_a.out.below bb)
    replace R_b := Lib.hid (R_b.out.below bb)
    replace Bw := Lib.hid (Bw.out.trans (bb.mono Bw.out.size))
    clear bb
    replace R_p := Lib.hid R_p
    go_wp2_with fail
    refine (rmul_any _ _ _ _ _ _ _ _ _ R_a.out R_b.out (by omega) (by omega)).mono ?_
    rintro e w9 ⟨A_q, n_q, c_q, rfl, R_q, bb⟩
    replace R_a := Lib.hid (R_a.out.below bb)
    replace R_b := Lib.hid (R_b.out.below bb)
    replace R_p := Lib.hid (R_p.out.below bb)
    replace Bw := Lib.hid (Bw.out.trans (bb.mono Bw.out.size))
    clear bb
    replace R_q := Lib.hid R_q
    have l_p : n_p ≤ 24 := by rw [← R_p.out.len]; exact prod_len hx.out hy.out
    go_wp2_with fail
    refine (same_b _ _ _ _ _ _ _ _ _ R_p.out R_q.out (by omega) (rfl)).mono ?_
    rintro e w10 ⟨rfl, bb⟩
    replace R_a := Lib.hid (R_a.out.below bb)
    replace R_b := Lib.hid (R_b.out.below bb)
    replace R_p := Lib.hid (R_p.out.below bb)
    replace R_q := Lib.hid (R_q.out.below bb)
    replace Bw := Lib.hid (Bw.out.trans (bb.mono Bw.out.size))
    clear bb
    go_wp2
    go_ret
    exact ⟨rfl, Bw.out⟩
  · replace hc := Lib.hid hc
    go_enter Try.func4, Try.ntmps4
    go_wp2_with fail
    refine (hL1.out).mono ?_
    rintro e w' ⟨rfl, hw⟩
    have hw := hw.symm
    subst hw
    go_wp2_with fail
    refine (hL2.out).mono ?_
    rintro e w' ⟨rfl, hw⟩
    have hw := hw.symm
    subst hw
    clear hL1 hL2
    go_wp2_with fail
    refine (sub_ge _ _ _ _ _ _ _ _ _ R_a.out R_b.out (by omega) (by omega) hc.out).mono ?_
    rintro e w1 ⟨A_d, n_d, c_d, rfl, R_d, bb⟩
    replace R_a := Lib.hid (R_a.out.below bb)
    replace R_b := Lib.hid (R_b.out.below bb)
    replace Bw := Lib.hid (Bw.out.trans (bb.mono Bw.out.size))
    clear bb
    replace R_d := Lib.hid R_d
    go_wp2_with fail
    refine (rsub_ge _ _ _ _ _ _ _ _ _ R_a.out R_b.out (by omega) (by omega) hc.out).mono ?_
    rintro e w2 ⟨A_e, n_e, c_e, rfl, R_e, bb⟩
    replace R_a := Lib.hid (R_a.out.below bb)
    replace R_b := Lib.hid (R_b.out.below bb)
    replace R_d := Lib.hid (R_d.out.below bb)
    replace Bw := Lib.hid (Bw.out.trans (bb.mono Bw.out.size))
    clear bb
    replace R_e := Lib.hid R_e
    have l_d : n_d ≤ 12 := by rw [← R_d.out.len]; exact len_of_lt (Nat.lt_of_le_of_lt (Nat.sub_le _ _) hx.out)
    go_wp2_with fail
    refine (awake_any _).mono ?_
    rintro e w3 ⟨rfl, bb⟩
    replace R_a := Lib.hid (R_a.out.below bb)
    replace R_b := Lib.hid (R_b.out.below bb)
    replace R_d := Lib.hid (R_d.out.below bb)
    replace R_e := Lib.hid (R_e.out.below bb)
    replace Bw := Lib.hid (Bw.out.trans (bb.mono Bw.out.size))
    clear bb
    go_wp2_with fail
    refine (add_any _ _ _ _ _ _ _ _ _ R_a.out R_b.out (by omega) (by omega)).mono ?_
    rintro e w4 ⟨A_p, n_p, c_p, rfl, R_p, bb⟩
    replace R_a := Lib.hid (R_a.out.below bb)
    replace R_b := Lib.hid (R_b.out.below bb)
    replace R_d := Lib.hid (R_d.out.below bb)
    replace R_e := Lib.hid (R_e.out.below bb)
    replace Bw := Lib.hid (Bw.out.trans (bb.mono Bw.out.size))
    clear bb
    replace R_p := Lib.hid R_p
    go_wp2_with fail
    refine (radd_any _ _ _ _ _ _ _ _ _ R_a.out R_b.out (by omega) (by omega)).mono ?_
    rintro e w5 ⟨A_q, n_q, c_q, rfl, R_q, bb⟩
    replace R_a := Lib.hid (R_a.out.below bb)
    replace R_b := Lib.hid (R_b.out.below bb)
    replace R_d := Lib.hid (R_d.out.below bb)
    replace R_e := Lib.hid (R_e.out.below bb)
    replace R_p := Lib.hid (R_p.out.below bb)
    replace Bw := Lib.hid (Bw.out.trans (bb.mono Bw.out.size))
    clear bb
    replace R_q := Lib.hid R_q
    have l_p : n_p ≤ 13 := by rw [← R_p.out.len]; exact sum_len hx.out hy.out
    go_wp2_with fail
    refine (same_b _ _ _ _ _ _ _ _ _ R_p.out R_q.out (by omega) (rfl)).mono ?_
    rintro e w6 ⟨rfl, bb⟩
    replace R_a := Lib.hid (R_a.out.below bb)
    replace R_b := Lib.hid (R_b.out.below bb)
    replace R_d := Lib.hid (R_d.out.below bb)
    replace R_e := Lib.hid (R_e.out.below bb)
    replace R_p := Lib.hid (R_p.out.below bb)
    replace R_q := Lib.hid (R_q.out.below bb)
    replace Bw := Lib.hid (Bw.out.trans (bb.mono Bw.out.size))
    clear bb
    clear R_p R_q l_p
    go_wp2_with fail
    refine (same_b _ _ _ _ _ _ _ _ _ R_d.out R_e.out (by omega) (rfl)).mono ?_
    rintro e w7 ⟨rfl, bb⟩
    replace R_a := Lib.hid (R_a.out.below bb)
    replace R_b := Lib.hid (R_b.out.below bb)
    replace R_d := Lib.hid (R_d.out.below bb)
    replace R_e := Lib.hid (R_e.out.below bb)
    replace Bw := Lib.hid (Bw.out.trans (bb.mono Bw.out.size))
    clear bb
    clear R_d R_e l_d
    go_wp2_with fail
    refine (mul_any _ _ _ _ _ _ _ _ _ R_a.out R_b.out (by omega) (by omega)).mono ?_
    rintro e w8 ⟨A_p, n_p, c_p, rfl, R_p, bb⟩
    replace R_a := Lib.hid (R_a.out.below bb)
    replace R_b := Lib.hid (R_b.out.below bb)
    replace Bw := Lib.hid (Bw.out.trans (bb.mono Bw.out.size))
    clear bb
    replace R_p := Lib.hid R_p
    go_wp2_with fail
    refine (rmul_any _ _ _ _ _ _ _ _ _ R_a.out R_b.out (by omega) (by omega)).mono ?_
    rintro e w9 ⟨A_q, n_q, c_q, rfl, R_q, bb⟩
    replace R_a := Lib.hid (R_a.out.below bb)
    replace R_b := Lib.hid (R_b.out.below bb)
    replace R_p := Lib.hid (R_p.out.below bb)
    replace Bw := Lib.hid (Bw.out.trans (bb.mono Bw.out.size))
    clear bb
    replace R_q := Lib.hid R_q
    have l_p : n_p ≤ 24 := by rw [← R_p.out.len]; exact prod_len hx.out hy.out
    go_wp2_with fail
    refine (same_b _ _ _ _ _ _ _ _ _ R_p.out R_q.out (by omega) (rfl)).mono ?_
    rintro e w10 ⟨rfl, bb⟩
    replace R_a := Lib.hid (R_a.out.below bb)
    replace R_b := Lib.hid (R_b.out.below bb)
    replace R_p := Lib.hid (R_p.out.below bb)
    replace R_q := Lib.hid (R_q.out.below bb)
    replace Bw := Lib.hid (Bw.out.trans (bb.mono Bw.out.size))
    clear bb
    go_wp2
    go_ret
    exact ⟨rfl, Bw.out⟩

end Go.Proofs.Ytpafgkggkgmamaa
