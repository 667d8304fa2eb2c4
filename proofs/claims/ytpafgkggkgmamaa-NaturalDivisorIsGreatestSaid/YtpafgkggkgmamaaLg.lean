/- The walk of one law. -/
import Derived.Test.YtpafgkggkgmamaaXa
namespace Go.Proofs.Ytpafgkggkgmamaa
open Go.RowKit

theorem raw_lt' {w : World} {A : Option Addr} {n c : Nat} {xs : List Nat} {p : Nat} (h : Rd w A n c xs) (hn : n ≤ p) : num xs < 4294967296 ^ p := by
  have h1 := num_lt h.sm
  rw [h.len] at h1
  exact Nat.lt_of_lt_of_le h1 (Nat.pow_le_pow_right (by omega) hn)

theorem gcd_len {x y p : Nat} (hx : x < 4294967296 ^ p) (hy : y < 4294967296 ^ p) : (limbs (Nat.gcd x y)).length ≤ p := by
  apply len_of_lt
  rcases Nat.eq_zero_or_pos x with h | h
  · subst h; rw [Nat.gcd_zero_left]; exact hy
  · exact Nat.lt_of_le_of_lt (Nat.gcd_le_left y h) hx

set_option maxHeartbeats 4000000 in
theorem law_divs (A : Option Addr) (n c : Nat) (xs : List Nat) (A' : Option Addr) (n' c' : Nat) (ys : List Nat) (w : World) (h1 : Rd w A n c xs) (m1 : n ≤ 9223372036854775807) (h2 : Rd w A' n' c' ys) (m2 : n' ≤ 9223372036854775807) :
    Calls Try.prog 5 #[.slice A n c, .slice A' n' c'] w fun e w' => e = .returned (.bool true) ∧ Below w.heap.size w w' := by
  have hL1 := light_any A n c w m1
  have hL2 := light_any A' n' c' w m2
  by_cases hl12 : ¬ n ≤ 12
  · rw [decide_eq_false hl12] at hL1
    replace hL1 := Lib.hid hL1
    clear hL2 h1 h2 m1 m2 hl12
    go_enter Try.func5, Try.ntmps5
    go_wp2_with fail
    refine (hL1.out).mono ?_
    rintro e w' ⟨rfl, hw⟩
    have hw := hw.symm
    subst hw
    go_wp2_with fail
    refine (awake_any _).mono ?_
    rintro e w1 ⟨rfl, bb⟩
    replace bb := Lib.hid bb
    go_wp2
    go_ret
    exact ⟨rfl, bb.out⟩
  have l_a : n ≤ 12 := Decidable.not_not.1 hl12
  rw [decide_eq_true l_a] at hL1
  replace hL1 := Lib.hid hL1
  clear hl12
  by_cases hl12 : ¬ n' ≤ 12
  · rw [decide_eq_false hl12] at hL2
    replace hL2 := Lib.hid hL2
    clear h1 h2 m1 m2 hl12 l_a
    go_enter Try.func5, Try.ntmps5
    go_wp2_with fail
    refine (hL1.out).mono ?_
    rintro e w' ⟨rfl, hw⟩
    have hw := hw.symm
    subst hw
    go_wp2_with fail
    refine (hL2.out).mono ?_
    rintro e w' ⟨rfl, hw⟩
    have hw := hw.symm
    subst hw
    go_wp2_with fail
    refine (awake_any _).mono ?_
    rintro e w1 ⟨rfl, bb⟩
    replace bb := Lib.hid bb
    go_wp2
    go_ret
    exact ⟨rfl, bb.out⟩
  have l_b : n' ≤ 12 := Decidable.not_not.1 hl12
  rw [decide_eq_true l_b] at hL2
  replace hL2 := Lib.hid hL2
  clear hl12 m1 m2
  have hx := Lib.hid (raw_lt' h1 l_a)
  have hy := Lib.hid (raw_lt' h2 l_b)
  have R_a := Lib.hid h1
  have R_b := Lib.hid h2
  clear h1 h2
  have Bw := Lib.hid (Below.refl w.heap.size w)
  rcases Nat.eq_zero_or_pos (num ys) with hc | hc
  · replace hc := Lib.hid hc
    go_enter Try.func5, Try.ntmps5
    go_wp2_with fail
    refine (hL1.out).mono ?_
    rintro e w' ⟨rfl, hw⟩
    have hw := hw.symm
    subst hw
    go_wp2_with fail
    refine (hL2.out).mono ?_
    rintro e w' ⟨rfl, hw⟩
    have hw := hw.symm
    subst hw
    clear hL1 hL2
    go_wp2_with fail
    refine (div_zero _ _ _ _ _ _ _ _ _ R_a.out R_b.out (by omega) (by omega) hc.out).mono ?_
    rintro e w' ⟨rfl, rfl⟩
    go_wp2_with fail
    refine (rdiv_zero _ _ _ _ _ _ _ _ _ R_a.out R_b.out (by omega) (by omega) hc.out).mono ?_
    rintro e w1 ⟨rfl, bb⟩
    replace R_a := Lib.hid (R_a.out.below bb)
    replace R_b := Lib.hid (R_b.out.below bb)
    replace Bw := Lib.hid (Bw.out.trans (bb.mono Bw.out.size))
    clear bb
    go_wp2_with fail
    refine (awake_any _).mono ?_
    rintro e w2 ⟨rfl, bb⟩
    replace R_a := Lib.hid (R_a.out.below bb)
    replace R_b := Lib.hid (R_b.out.below bb)
    replace Bw := Lib.hid (Bw.out.trans (bb.mono Bw.out.size))
    clear bb
    go_wp2_with fail
    refine (same_b _ _ _ _ _ _ [] [] _ (Rd.nil_ _ _ _) (Rd.nil_ _ _ _) (by omega) rfl).mono ?_
    rintro e w3 ⟨rfl, bb⟩
    replace R_a := Lib.hid (R_a.out.below bb)
    replace R_b := Lib.hid (R_b.out.below bb)
    replace Bw := Lib.hid (Bw.out.trans (bb.mono Bw.out.size))
    clear bb
    go_wp2_with fail
    refine (same_b _ _ _ _ _ _ [] [] _ (Rd.nil_ _ _ _) (Rd.nil_ _ _ _) (by omega) rfl).mono ?_
    rintro e w4 ⟨rfl, bb⟩
    replace R_a := Lib.hid (R_a.out.below bb)
    replace R_b := Lib.hid (R_b.out.below bb)
    replace Bw := Lib.hid (Bw.out.trans (bb.mono Bw.out.size))
    clear bb
    go_wp2_with fail
    refine (gcd_any _ _ _ _ _ _ _ _ _ R_a.out R_b.out (by omega) (by omega)).mono ?_
    rintro e w5 ⟨A_p, n_p, c_p, rfl, R_p, bb⟩
    replace R_a := Lib.hid (R_a.out.below bb)
    replace R_b := Lib.hid (R_b.out.below bb)
    replace Bw := Lib.hid (Bw.out.trans (bb.mono Bw.out.size))
    clear bb
    replace R_p := Lib.hid R_p
    go_wp2_with fail
    refine (rgcd_any _ _ _ _ _ _ _ _ _ R_a.out R_b.out (by omega) (by omega)).mono ?_
    rintro e w6 ⟨A_q, n_q, c_q, rfl, R_q, bb⟩
    replace R_a := Lib.hid (R_a.out.below bb)
    replace R_b := Lib.hid (R_b.out.below bb)
    replace R_p := Lib.hid (R_p.out.below bb)
    replace Bw := Lib.hid (Bw.out.trans (bb.mono Bw.out.size))
    clear bb
    replace R_q := Lib.hid R_q
    have l_p : n_p ≤ 12 := by rw [← R_p.out.len]; exact gcd_len hx.out hy.out
    go_wp2_with fail
    refine (same_b _ _ _ _ _ _ _ _ _ R_p.out R_q.out (by omega) (rfl)).mono ?_
    rintro e w7 ⟨rfl, bb⟩
    replace R_a := Lib.hid (R_a.out.below bb)
    replace R_b := Lib.hid (R_b.out.below bb)
    replace R_p := Lib.hid (R_p.out.below bb)
    replace R_q := Lib.hid (R_q.out.below bb)
    replace Bw := Lib.hid (Bw.out.trans (bb.mono Bw.out.size))
    clear bb
    go_wp2
    go_ret
    exact ⟨rfl, Bw.out⟩
  · replace hc := Lib.hid hc
    go_enter Try.func5, Try.ntmps5
    go_wp2_with fail
    refine (hL1.out).mono ?_
    rintro e w' ⟨rfl, hw⟩
    have hw := hw.symm
    subst hw
    go_wp2_with fail
    refine (hL2.out).mono ?_
    rintro e w' ⟨rfl, hw⟩
    have hw := hw.symm
    subst hw
    clear hL1 hL2
    go_wp2_with fail
    refine (div_any _ _ _ _ _ _ _ _ _ R_a.out R_b.out (by omega) (by omega) hc.out).mono ?_
    rintro e w1 ⟨A_q, n_q, c_q, A_r, n_r, c_r, rfl, R_q, R_r, bb⟩
    replace R_a := Lib.hid (R_a.out.below bb)
    replace R_b := Lib.hid (R_b.out.below bb)
    replace Bw := Lib.hid (Bw.out.trans (bb.mono Bw.out.size))
    clear bb
    replace R_q := Lib.hid R_q
    replace R_r := Lib.hid R_r
    go_wp2_with fail
    refine (rdiv_any _ _ _ _ _ _ _ _ _ R_a.out R_b.out (by omega) (by omega) hc.out).mono ?_
    rintro e w2 ⟨A_s, n_s, c_s, A_t, n_t, c_t, rfl, R_s, R_t, bb⟩
    replace R_a := Lib.hid (R_a.out.below bb)
    replace R_b := Lib.hid (R_b.out.below bb)
    replace R_q := Lib.hid (R_q.out.below bb)
    replace R_r := Lib.hid (R_r.out.below bb)
    replace Bw := Lib.hid (Bw.out.trans (bb.mono Bw.out.size))
    clear bb
    replace R_s := Lib.hid R_s
    replace R_t := Lib.hid R_t
    have l_q : n_q ≤ 12 := by rw [← R_q.out.len]; exact len_of_lt (Nat.lt_of_le_of_lt (Nat.div_le_self _ _) hx.out)
    have l_r : n_r ≤ 12 := by rw [← R_r.out.len]; exact len_of_lt (Nat.lt_trans (Nat.mod_lt _ hc.out) hy.out)
    go_wp2_with fail
    refine (awake_any _).mono ?_
    rintro e w3 ⟨rfl, bb⟩
    replace R_a := Lib.hid (R_a.out.below bb)
    replace R_b := Lib.hid (R_b.out.below bb)
    replace R_q := Lib.hid (R_q.out.below bb)
    replace R_r := Lib.hid (R_r.out.below bb)
    replace R_s := Lib.hid (R_s.out.below bb)
    replace R_t := Lib.hid (R_t.out.below bb)
    replace Bw := Lib.hid (Bw.out.trans (bb.mono Bw.out.size))
    clear bb
    go_wp2_with fail
    refine (same_b _ _ _ _ _ _ _ _ _ R_q.out R_s.out (by omega) (rfl)).mono ?_
    rintro e w4 ⟨rfl, bb⟩
    replace R_a := Lib.hid (R_a.out.below bb)
    replace R_b := Lib.hid (R_b.out.below bb)
    replace R_q := Lib.hid (R_q.out.below bb)
    replace R_r := Lib.hid (R_r.out.below bb)
    replace R_s := Lib.hid (R_s.out.below bb)
    replace R_t := Lib.hid (R_t.out.below bb)
    replace Bw := Lib.hid (Bw.out.trans (bb.mono Bw.out.size))
    clear bb
    clear R_q R_s l_q
    go_wp2_with fail
    refine (same_b _ _ _ _ _ _ _ _ _ R_r.out R_t.out (by omega) (rfl)).mono ?_
    rintro e w5 ⟨rfl, bb⟩
    replace R_a := Lib.hid (R_a.out.below bb)
    replace R_b := Lib.hid (R_b.out.below bb)
    replace R_r := Lib.hid (R_r.out.below bb)
    replace R_t := Lib.hid (R_t.out.below bb)
    replace Bw := Lib.hid (Bw.out.trans (bb.mono Bw.out.size))
    clear bb
    clear R_r R_t l_r
    go_wp2_with fail
    refine (gcd_any _ _ _ _ _ _ _ _ _ R_a.out R_b.out (by omega) (by omega)).mono ?_
    rintro e w6 ⟨A_p, n_p, c_p, rfl, R_p, bb⟩
    replace R_a := Lib.hid (R_a.out.below bb)
    replace R_b := Lib.hid (R_b.out.below bb)
    replace Bw := Lib.hid (Bw.out.trans (bb.mono Bw.out.size))
    clear bb
    replace R_p := Lib.hid R_p
    go_wp2_with fail
    refine (rgcd_any _ _ _ _ _ _ _ _ _ R_a.out R_b.out (by omega) (by omega)).mono ?_
    rintro e w7 ⟨A_q, n_q, c_q, rfl, R_q, bb⟩
    replace R_a := Lib.hid (R_a.out.below bb)
    replace R_b := Lib.hid (R_b.out.below bb)
    replace R_p := Lib.hid (R_p.out.below bb)
    replace Bw := Lib.hid (Bw.out.trans (bb.mono Bw.out.size))
    clear bb
    replace R_q := Lib.hid R_q
    have l_p : n_p ≤ 12 := by rw [← R_p.out.len]; exact gcd_len hx.out hy.out
    go_wp2_with fail
    refine (same_b _ _ _ _ _ _ _ _ _ R_p.out R_q.out (by omega) (rfl)).mono ?_
    rintro e w8 ⟨rfl, bb⟩
    replace R_a := Lib.hid (R_a.out.below bb)
    replace R_b := Lib.hid (R_b.out.below bb)
    replace R_p := Lib.hid (R_p.out.below bb)
    replace R_q := Lib.hid (R_q.out.below bb)
    replace Bw := Lib.hid (Bw.out.trans (bb.mono Bw.out.size))
    clear bb
    go_wp2
    go_ret
    exact ⟨rfl, Bw.out⟩

theorem gcd_b (A : Option Addr) (n c x : Nat) (A' : Option Addr) (n' c' y : Nat) (w : World) (p : Nat) (h1 : Rd w A n c (limbs x)) (h2 : Rd w A' n' c' (limbs y)) (hn : n ≤ p) (hn' : n' ≤ p) (hp : p ≤ 1000) :
    Calls Try.prog 31 #[.slice A n c, .slice A' n' c'] w fun e w' => ∃ A n c, e = .returned (.slice A n c) ∧ Rd w' A n c (limbs (Nat.gcd x y)) ∧ Below w.heap.size w w' ∧ n ≤ p := by
  have := gcd_any A n c (limbs x) A' n' c' (limbs y) w h1 h2 (by omega) (by omega)
  rw [num_limbs, num_limbs] at this
  refine this.mono ?_
  rintro e w' ⟨A2, n2, c2, he, hR, hb⟩
  refine ⟨A2, n2, c2, he, hR, hb, ?_⟩
  rw [← hR.len]
  exact gcd_len (Nat.lt_of_lt_of_le (lt_of_len h1.len) (Nat.pow_le_pow_right (by omega) hn)) (Nat.lt_of_lt_of_le (lt_of_len h2.len) (Nat.pow_le_pow_right (by omega) hn'))

set_option maxHeartbeats 4000000 in
theorem law_gcd (A : Option Addr) (n c : Nat) (xs : List Nat) (A' : Option Addr) (n' c' : Nat) (ys : List Nat) (A'' : Option Addr) (n'' c'' : Nat) (zs : List Nat) (w : World) (h1 : Rd w A n c xs) (m1 : n ≤ 9223372036854775807) (h2 : Rd w A' n' c' ys) (m2 : n' ≤ 9223372036854775807) (h3 : Rd w A'' n'' c'' zs) (m3 : n'' ≤ 9223372036854775807) :
    Calls Try.prog 10 #[.slice A n c, .slice A' n' c', .slice A'' n'' c''] w fun e w' => e = .returned (.bool true) ∧ Below w.heap.size w w' := by
  have hf := fair_eq A n c xs A' n' c' ys A'' n'' c'' zs w h1 h2 h3 m1 m2 m3
  cases hfb : fairB n n' n'' xs ys zs
  · rw [hfb] at hf
    replace hf := Lib.hid hf
    clear hfb h1 h2 h3 m1 m2 m3
    go_enter Try.func10, Try.ntmps10
    go_wp2_with fail
    refine (hf.out).mono ?_
    rintro e w' ⟨rfl, rfl⟩
    go_wp2_with fail
    refine (awake_any _).mono ?_
    rintro e w1 ⟨rfl, bb⟩
    replace bb := Lib.hid bb
    go_wp2
    go_ret
    exact ⟨rfl, bb.out⟩
  rw [hfb] at hf
  replace hf := Lib.hid hf
  obtain ⟨k_a, k_b, k_c, v1, v2, v3⟩ := fair_yes hfb
  have R_a := Lib.hid (rd_limbs h1 v1)
  have R_b := Lib.hid (rd_limbs h2 v2)
  have R_c := Lib.hid (rd_limbs h3 v3)
  clear h1 h2 h3 m1 m2 m3 hfb v1 v2 v3
  generalize val xs = x at R_a
  generalize val ys = y at R_b
  generalize val zs = z at R_c
  have Bw := Lib.hid (Below.refl w.heap.size w)
  by_cases l_a : ¬ n ≤ 6
  · have t1 : (6 : Int) < (n : Int) := by omega
    go_enter Try.func10, Try.ntmps10
    go_wp2_with fail
    refine (hf.out).mono ?_
    rintro e w' ⟨rfl, rfl⟩
    go_wp2_with fail
    refine (awake_any _).mono ?_
    rintro e w1 ⟨rfl, bb⟩
    replace bb := Lib.hid bb
    go_wp2
    go_ret
    exact ⟨rfl, bb.out⟩
  replace l_a : n ≤ 6 := Decidable.not_not.1 l_a
  have t1 : (n : Int) ≤ 6 := by omega
  by_cases l_b : ¬ n' ≤ 6
  · have t2 : (6 : Int) < (n' : Int) := by omega
    go_enter Try.func10, Try.ntmps10
    go_wp2_with fail
    refine (hf.out).mono ?_
    rintro e w' ⟨rfl, rfl⟩
    go_wp2_with fail
    refine (awake_any _).mono ?_
    rintro e w1 ⟨rfl, bb⟩
    replace bb := Lib.hid bb
    go_wp2
    go_ret
    exact ⟨rfl, bb.out⟩
  replace l_b : n' ≤ 6 := Decidable.not_not.1 l_b
  have t2 : (n' : Int) ≤ 6 := by omega
  by_cases l_c : ¬ n'' ≤ 3
  · have t3 : (3 : Int) < (n'' : Int) := by omega
    go_enter Try.func10, Try.ntmps10
    go_wp2_with fail
    refine (hf.out).mono ?_
    rintro e w' ⟨rfl, rfl⟩
    go_wp2_with fail
    refine (awake_any _).mono ?_
    rintro e w1 ⟨rfl, bb⟩
    replace bb := Lib.hid bb
    go_wp2
    go_ret
    exact ⟨rfl, bb.out⟩
  replace l_c : n'' ≤ 3 := Decidable.not_not.1 l_c
  have t3 : (n'' : Int) ≤ 3 := by omega
  by_cases h0 : n = 0
  · subst h0
    go_enter Try.func10, Try.ntmps10
    go_wp2_with fail
    refine (hf.out).mono ?_
    rintro e w' ⟨rfl, rfl⟩
    go_wp2_with fail
    refine (awake_any _).mono ?_
    rintro e w1 ⟨rfl, bb⟩
    replace bb := Lib.hid bb
    go_wp2
    go_ret
    exact ⟨rfl, bb.out⟩
  have h0i : ((n : Int) == 0) = false := by simp; omega
  have hx0 : 0 < x := by
    rcases Nat.eq_zero_or_pos x with h | h
    · have := R_a.out.len; rw [h, limbs_zero] at this; exact absurd this.symm h0
    · exact h
  have hg0 : Hid (0 < Nat.gcd x y) := Nat.gcd_pos_of_pos_left y hx0
  have hxd : Hid (x % Nat.gcd x y = 0) := Nat.mod_eq_zero_of_dvd (Nat.gcd_dvd_left x y)
  have hyd : Hid (y % Nat.gcd x y = 0) := Nat.mod_eq_zero_of_dvd (Nat.gcd_dvd_right x y)
  have hg1 : Hid (Nat.gcd (x / Nat.gcd x y) (y / Nat.gcd x y) = 1) := Nat.gcd_div_gcd_div_gcd_of_pos_left hx0
  clear h0 hx0 k_a k_b k_c
  go_enter Try.func10, Try.ntmps10
  go_wp2_with fail
  refine (hf.out).mono ?_
  rintro e w' ⟨rfl, rfl⟩
  clear hf
  go_wp2_with fail
  refine (gcd_b _ _ _ _ _ _ _ _ _ 6 R_a.out R_b.out (by omega) (by omega) (by omega)).mono ?_
  rintro e w1 ⟨A_g, n_g, c_g, rfl, R_g, bb, l_g⟩
  replace R_a := Lib.hid (R_a.out.below bb)
  replace R_b := Lib.hid (R_b.out.below bb)
  replace R_c := Lib.hid (R_c.out.below bb)
  replace Bw := Lib.hid (Bw.out.trans (bb.mono Bw.out.size))
  clear bb
  replace R_g := Lib.hid R_g
  go_wp2_with fail
  refine (div_b _ _ _ _ _ _ _ _ _ 6 6 R_a.out R_g.out (by omega) (by omega) (by omega) (by omega) (hg0.out)).mono ?_
  rintro e w2 ⟨A_p, n_p, c_p, A_r, n_r, c_r, rfl, R_p, R_r, bb, l_p, l_r⟩
  replace R_a := Lib.hid (R_a.out.below bb)
  replace R_b := Lib.hid (R_b.out.below bb)
  replace R_c := Lib.hid (R_c.out.below bb)
  replace R_g := Lib.hid (R_g.out.below bb)
  replace Bw := Lib.hid (Bw.out.trans (bb.mono Bw.out.size))
  clear bb
  replace R_p := Lib.hid R_p
  replace R_r := Lib.hid R_r
  obtain rfl : n_r = 0 := by have := R_r.out.len; rw [hxd.out, limbs_zero] at this; exact this.symm
  go_wp2_with fail
  refine (div_b _ _ _ _ _ _ _ _ _ 6 6 R_b.out R_g.out (by omega) (by omega) (by omega) (by omega) (hg0.out)).mono ?_
  rintro e w3 ⟨A_q, n_q, c_q, A_s, n_s, c_s, rfl, R_q, R_s, bb, l_q, l_s⟩
  replace R_a := Lib.hid (R_a.out.below bb)
  replace R_b := Lib.hid (R_b.out.below bb)
  replace R_c := Lib.hid (R_c.out.below bb)
  replace R_g := Lib.hid (R_g.out.below bb)
  replace R_p := Lib.hid (R_p.out.below bb)
  replace R_r := Lib.hid (R_r.out.below bb)
  replace Bw := Lib.hid (Bw.out.trans (bb.mono Bw.out.size))
  clear bb
  replace R_q := Lib.hid R_q
  replace R_s := Lib.hid R_s
  obtain rfl : n_s = 0 := by have := R_s.out.len; rw [hyd.out, limbs_zero] at this; exact this.symm
  clear R_r R_s l_r l_s
  go_wp2_with fail
  refine (awake_any _).mono ?_
  rintro e w4 ⟨rfl, bb⟩
  replace R_a := Lib.hid (R_a.out.below bb)
  replace R_b := Lib.hid (R_b.out.below bb)
  replace R_c := Lib.hid (R_c.out.below bb)
  replace R_g := Lib.hid (R_g.out.below bb)
  replace R_p := Lib.hid (R_p.out.below bb)
  replace R_q := Lib.hid (R_q.out.below bb)
  replace Bw := Lib.hid (Bw.out.trans (bb.mono Bw.out.size))
  clear bb
  go_wp2_with fail
  refine (gcd_b _ _ _ _ _ _ _ _ _ 6 R_p.out R_q.out (by omega) (by omega) (by omega)).mono ?_
  rintro e w5 ⟨A_u, n_u, c_u, rfl, R_u, bb, l_u⟩
  replace R_a := Lib.hid (R_a.out.below bb)
  replace R_b := Lib.hid (R_b.out.below bb)
  replace R_c := Lib.hid (R_c.out.below bb)
  replace R_g := Lib.hid (R_g.out.below bb)
  replace R_p := Lib.hid (R_p.out.below bb)
  replace R_q := Lib.hid (R_q.out.below bb)
  replace Bw := Lib.hid (Bw.out.trans (bb.mono Bw.out.size))
  clear bb
  replace R_u := Lib.hid R_u
  clear R_p l_p
  clear R_q l_q
  go_wp2_with fail
  have R_one := Lib.hid (lit_one w5 w5.heap.size 1 1 rfl rfl (by omega) (by omega))
  have l_one : 1 ≤ 1 := Nat.le_refl 1
  have bb : Below w5.heap.size w5 (w5.alloc (.cells #[.int .u32 1] 41)) := (Below.refl _ _).alloc (Nat.le_refl _) _
  replace R_a := Lib.hid (R_a.out.below bb)
  replace R_b := Lib.hid (R_b.out.below bb)
  replace R_c := Lib.hid (R_c.out.below bb)
  replace R_g := Lib.hid (R_g.out.below bb)
  replace R_u := Lib.hid (R_u.out.below bb)
  replace Bw := Lib.hid (Bw.out.trans (bb.mono Bw.out.size))
  clear bb
  refine (same_b _ _ _ _ _ _ _ _ _ R_u.out R_one.out (by omega) (by rw [hg1.out])).mono ?_
  rintro e w6 ⟨rfl, bb⟩
  replace R_a := Lib.hid (R_a.out.below bb)
  replace R_b := Lib.hid (R_b.out.below bb)
  replace R_c := Lib.hid (R_c.out.below bb)
  replace R_g := Lib.hid (R_g.out.below bb)
  replace R_u := Lib.hid (R_u.out.below bb)
  replace R_one := Lib.hid (R_one.out.below bb)
  replace Bw := Lib.hid (Bw.out.trans (bb.mono Bw.out.size))
  clear bb
  clear R_u l_u
  clear R_one l_one
  go_wp2_with fail
  refine (mul_b _ _ _ _ _ _ _ _ _ 6 3 R_a.out R_c.out (by omega) (by omega) (by omega) (by omega)).mono ?_
  rintro e w7 ⟨A_p, n_p, c_p, rfl, R_p, bb, l_p⟩
  replace R_a := Lib.hid (R_a.out.below bb)
  replace R_b := Lib.hid (R_b.out.below bb)
  replace R_c := Lib.hid (R_c.out.below bb)
  replace R_g := Lib.hid (R_g.out.below bb)
  replace Bw := Lib.hid (Bw.out.trans (bb.mono Bw.out.size))
  clear bb
  replace R_p := Lib.hid R_p
  go_wp2_with fail
  refine (mul_b _ _ _ _ _ _ _ _ _ 6 3 R_b.out R_c.out (by omega) (by omega) (by omega) (by omega)).mono ?_
  rintro e w8 ⟨A_q, n_q, c_q, rfl, R_q, bb, l_q⟩
  replace R_a := Lib.hid (R_a.out.below bb)
  replace R_b := Lib.hid (R_b.out.below bb)
  replace R_c := Lib.hid (R_c.out.below bb)
  replace R_g := Lib.hid (R_g.out.below bb)
  replace R_p := Lib.hid (R_p.out.below bb)
  replace Bw := Lib.hid (Bw.out.trans (bb.mono Bw.out.size))
  clear bb
  replace R_q := Lib.hid R_q
  go_wp2_with fail
  refine (gcd_b _ _ _ _ _ _ _ _ _ 9 R_p.out R_q.out (by omega) (by omega) (by omega)).mono ?_
  rintro e w9 ⟨A_u, n_u, c_u, rfl, R_u, bb, l_u⟩
  replace R_a := Lib.hid (R_a.out.below bb)
  replace R_b := Lib.hid (R_b.out.below bb)
  replace R_c := Lib.hid (R_c.out.below bb)
  replace R_g := Lib.hid (R_g.out.below bb)
  replace R_p := Lib.hid (R_p.out.below bb)
  replace R_q := Lib.hid (R_q.out.below bb)
  replace Bw := Lib.hid (Bw.out.trans (bb.mono Bw.out.size))
  clear bb
  replace R_u := Lib.hid R_u
  clear R_p l_p
  clear R_q l_q
  go_wp2_with fail
  refine (mul_b _ _ _ _ _ _ _ _ _ 6 3 R_g.out R_c.out (by omega) (by omega) (by omega) (by omega)).mono ?_
  rintro e w10 ⟨A_v, n_v, c_v, rfl, R_v, bb, l_v⟩
  replace R_a := Lib.hid (R_a.out.below bb)
  replace R_b := Lib.hid (R_b.out.below bb)
  replace R_c := Lib.hid (R_c.out.below bb)
  replace R_g := Lib.hid (R_g.out.below bb)
  replace R_u := Lib.hid (R_u.out.below bb)
  replace Bw := Lib.hid (Bw.out.trans (bb.mono Bw.out.size))
  clear bb
  replace R_v := Lib.hid R_v
  go_wp2_with fail
  refine (same_b _ _ _ _ _ _ _ _ _ R_u.out R_v.out (by omega) (by rw [Nat.gcd_mul_right])).mono ?_
  rintro e w11 ⟨rfl, bb⟩
  replace R_a := Lib.hid (R_a.out.below bb)
  replace R_b := Lib.hid (R_b.out.below bb)
  replace R_c := Lib.hid (R_c.out.below bb)
  replace R_g := Lib.hid (R_g.out.below bb)
  replace R_u := Lib.hid (R_u.out.below bb)
  replace R_v := Lib.hid (R_v.out.below bb)
  replace Bw := Lib.hid (Bw.out.trans (bb.mono Bw.out.size))
  clear bb
  go_wp2
  go_ret
  exact ⟨rfl, Bw.out⟩

end Go.Proofs.Ytpafgkggkgmamaa
