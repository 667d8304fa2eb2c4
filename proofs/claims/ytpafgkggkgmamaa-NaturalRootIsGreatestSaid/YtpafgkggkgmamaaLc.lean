/- The walk of one law. -/
import Derived.Test.YtpafgkggkgmamaaWp
namespace Go.Proofs.Ytpafgkggkgmamaa
open Go.RowKit

set_option maxHeartbeats 4000000 in
theorem law_divides (A : Option Addr) (n c : Nat) (xs : List Nat) (A' : Option Addr) (n' c' : Nat) (ys : List Nat) (w : World) (h1 : Rd w A n c xs) (m1 : n ≤ 9223372036854775807) (h2 : Rd w A' n' c' ys) (m2 : n' ≤ 9223372036854775807) :
    Calls Try.prog 9 #[.slice A n c, .slice A' n' c'] w fun e w' => e = .returned (.bool true) ∧ Below w.heap.size w w' := by
  have hf := fair_eq A n c xs A' n' c' ys none 0 0 [] w h1 h2 (Rd.nil_ _ _ _) m1 m2 (by omega)
  cases hfb : fairB n n' 0 xs ys []
  · rw [hfb] at hf
    replace hf := Lib.hid hf
    clear hfb h1 h2 m1 m2
    go_enter Try.func9, Try.ntmps9
    go_wp2_with fail
    refine (hf.out).mono ?_
    rintro e w' ⟨rfl, rfl⟩
    go_wp2_with fail
    refine (awake_any _).mono ?_
    rintro e w1 ⟨rfl, bb⟩
    replace bb := Lib.hid bb
    go_wp2
    go_ret
    exact ⟨rfl, bb.out⟩
  rw [hfb] at hf
  replace hf := Lib.hid hf
  obtain ⟨l_a, l_b, -, v1, v2, -⟩ := fair_yes hfb
  have R_a := Lib.hid (rd_limbs h1 v1)
  have R_b := Lib.hid (rd_limbs h2 v2)
  clear h1 h2 m1 m2 hfb v1 v2
  generalize val xs = x at R_a
  generalize val ys = y at R_b
  by_cases hn0 : n' = 0
  · subst hn0
    clear R_a R_b
    go_enter Try.func9, Try.ntmps9
    go_wp2_with fail
    refine (hf.out).mono ?_
    rintro e w' ⟨rfl, rfl⟩
    go_wp2_with fail
    refine (awake_any _).mono ?_
    rintro e w1 ⟨rfl, bb⟩
    replace bb := Lib.hid bb
    go_wp2
    go_ret
    exact ⟨rfl, bb.out⟩
  have hg : ((n' : Int) == 0) = false := by simp; omega
  have hy : 0 < y := by
    rcases Nat.eq_zero_or_pos y with h | h
    · have := R_b.out.len; rw [h, limbs_zero] at this; exact absurd this.symm hn0
    · exact h
  replace hy := Lib.hid hy
  clear hn0
  have Bw := Lib.hid (Below.refl w.heap.size w)
  go_enter Try.func9, Try.ntmps9
  go_wp2_with fail
  refine (hf.out).mono ?_
  rintro e w' ⟨rfl, rfl⟩
  clear hf
  go_wp2_with fail
  refine (div_b _ _ _ _ _ _ _ _ _ 12 12 R_a.out R_b.out (by omega) (by omega) (by omega) (by omega) (hy.out)).mono ?_
  rintro e w1 ⟨A_q, n_q, c_q, A_r, n_r, c_r, rfl, R_q, R_r, bb, l_q, l_r⟩
  replace R_a := Lib.hid (R_a.out.below bb)
  replace R_b := Lib.hid (R_b.out.below bb)
  replace Bw := Lib.hid (Bw.out.trans (bb.mono Bw.out.size))
  clear bb
  replace R_q := Lib.hid R_q
  replace R_r := Lib.hid R_r
  go_wp2_with fail
  refine (awake_any _).mono ?_
  rintro e w2 ⟨rfl, bb⟩
  replace R_a := Lib.hid (R_a.out.below bb)
  replace R_b := Lib.hid (R_b.out.below bb)
  replace R_q := Lib.hid (R_q.out.below bb)
  replace R_r := Lib.hid (R_r.out.below bb)
  replace Bw := Lib.hid (Bw.out.trans (bb.mono Bw.out.size))
  clear bb
  go_wp2_with fail
  have hvw3 := valid_any _ _ _ _ _ R_q.out (by omega)
  rw [vldB_limbs] at hvw3
  refine hvw3.mono ?_
  clear hvw3
  rintro e w3 ⟨rfl, rfl⟩
  go_wp2_with fail
  refine (compare_b _ _ _ _ _ _ _ _ _ R_r.out R_b.out (by omega) (by omega) (-1) (cmpi_lt (by have := Nat.mod_lt x hy.out; omega))).mono ?_
  rintro e w4 ⟨rfl, bb⟩
  replace R_a := Lib.hid (R_a.out.below bb)
  replace R_b := Lib.hid (R_b.out.below bb)
  replace R_q := Lib.hid (R_q.out.below bb)
  replace R_r := Lib.hid (R_r.out.below bb)
  replace Bw := Lib.hid (Bw.out.trans (bb.mono Bw.out.size))
  clear bb
  go_wp2_with fail
  refine (mul_b _ _ _ _ _ _ _ _ _ 12 12 R_q.out R_b.out (by omega) (by omega) (by omega) (by omega)).mono ?_
  rintro e w5 ⟨A_p, n_p, c_p, rfl, R_p, bb, l_p⟩
  replace R_a := Lib.hid (R_a.out.below bb)
  replace R_b := Lib.hid (R_b.out.below bb)
  replace R_q := Lib.hid (R_q.out.below bb)
  replace R_r := Lib.hid (R_r.out.below bb)
  replace Bw := Lib.hid (Bw.out.trans (bb.mono Bw.out.size))
  clear bb
  replace R_p := Lib.hid R_p
  clear R_q l_q
  go_wp2_with fail
  refine (add_b _ _ _ _ _ _ _ _ _ 24 R_p.out R_r.out (by omega) (by omega) (by omega)).mono ?_
  rintro e w6 ⟨A_s, n_s, c_s, rfl, R_s, bb, l_s⟩
  replace R_a := Lib.hid (R_a.out.below bb)
  replace R_b := Lib.hid (R_b.out.below bb)
  replace R_r := Lib.hid (R_r.out.below bb)
  replace R_p := Lib.hid (R_p.out.below bb)
  replace Bw := Lib.hid (Bw.out.trans (bb.mono Bw.out.size))
  clear bb
  replace R_s := Lib.hid R_s
  clear R_p l_p
  clear R_r l_r
  go_wp2_with fail
  refine (same_b _ _ _ _ _ _ _ _ _ R_s.out R_a.out (by omega) (by rw [Nat.div_add_mod'])).mono ?_
  rintro e w7 ⟨rfl, bb⟩
  replace R_a := Lib.hid (R_a.out.below bb)
  replace R_b := Lib.hid (R_b.out.below bb)
  replace R_s := Lib.hid (R_s.out.below bb)
  replace Bw := Lib.hid (Bw.out.trans (bb.mono Bw.out.size))
  clear bb
  go_wp2
  go_ret
  exact ⟨rfl, Bw.out⟩

theorem cmpi_le {a b : Int} (h : a ≤ b) : cmpi a b ≤ 0 := by
  unfold cmpi; split
  · omega
  · rw [if_neg (by omega)]; omega

theorem isq_sq (x : Nat) : isq (x * x) = x := isq_unique (Nat.le_refl _) (by rw [Nat.add_mul, Nat.mul_add]; omega)

set_option maxHeartbeats 4000000 in
theorem law_root (A : Option Addr) (n c : Nat) (xs : List Nat) (w : World) (h1 : Rd w A n c xs) (m1 : n ≤ 9223372036854775807) :
    Calls Try.prog 11 #[.slice A n c] w fun e w' => e = .returned (.bool true) ∧ Below w.heap.size w w' := by
  have hL := light_any A n c w m1
  by_cases hl12 : ¬ n ≤ 12
  · rw [decide_eq_false hl12] at hL
    replace hL := Lib.hid hL
    clear h1 m1 hl12
    go_enter Try.func11, Try.ntmps11
    go_wp2_with fail
    refine (hL.out).mono ?_
    rintro e w' ⟨rfl, rfl⟩
    go_wp2_with fail
    refine (awake_any _).mono ?_
    rintro e w1 ⟨rfl, bb⟩
    replace bb := Lib.hid bb
    go_wp2
    go_ret
    exact ⟨rfl, bb.out⟩
  have l_a : n ≤ 12 := Decidable.not_not.1 hl12
  rw [decide_eq_true l_a] at hL
  replace hL := Lib.hid hL
  have hV := rvalid_any A n c xs w h1 (by omega)
  cases hv : vldB xs
  · rw [hv] at hV
    replace hV := Lib.hid hV
    clear h1 m1 hl12 hv
    go_enter Try.func11, Try.ntmps11
    go_wp2_with fail
    refine (hL.out).mono ?_
    rintro e w' ⟨rfl, rfl⟩
    go_wp2_with fail
    refine (hV.out).mono ?_
    rintro e w'' ⟨rfl, rfl⟩
    go_wp2_with fail
    refine (awake_any _).mono ?_
    rintro e w1 ⟨rfl, bb⟩
    replace bb := Lib.hid bb
    go_wp2
    go_ret
    exact ⟨rfl, bb.out⟩
  rw [hv] at hV
  replace hV := Lib.hid hV
  have R_a := Lib.hid (rd_limbs h1 hv)
  clear h1 m1 hl12 hv
  generalize val xs = x at R_a
  have Bw := Lib.hid (Below.refl w.heap.size w)
  obtain ⟨q1, hq1, hq1'⟩ : ∃ q, cmpi (isq x * isq x : Nat) x = q ∧ q ≤ 0 := ⟨_, rfl, cmpi_le (Int.ofNat_le.2 (isq_spec x).1)⟩
  replace hq1 := Lib.hid hq1
  go_enter Try.func11, Try.ntmps11
  go_wp2_with fail
  refine (hL.out).mono ?_
  rintro e w' ⟨rfl, hw⟩
  have hw := hw.symm
  subst hw
  go_wp2_with fail
  refine (hV.out).mono ?_
  rintro e w' ⟨rfl, hw⟩
  have hw := hw.symm
  subst hw
  clear hL hV
  go_wp2_with fail
  refine (root_b _ _ _ _ _ 12 R_a.out (by omega) (by omega)).mono ?_
  rintro e w1 ⟨A_r, n_r, c_r, rfl, R_r, bb, l_r⟩
  replace R_a := Lib.hid (R_a.out.below bb)
  replace Bw := Lib.hid (Bw.out.trans (bb.mono Bw.out.size))
  clear bb
  replace R_r := Lib.hid R_r
  go_wp2_with fail
  have R_one := Lib.hid (lit_one w1 w1.heap.size 1 1 rfl rfl (by omega) (by omega))
  have l_one : 1 ≤ 1 := Nat.le_refl 1
  have bb : Below w1.heap.size w1 (w1.alloc (.cells #[.int .u32 1] 41)) := (Below.refl _ _).alloc (Nat.le_refl _) _
  replace R_a := Lib.hid (R_a.out.below bb)
  replace R_r := Lib.hid (R_r.out.below bb)
  replace Bw := Lib.hid (Bw.out.trans (bb.mono Bw.out.size))
  clear bb
  refine (add_b _ _ _ _ _ _ _ _ _ 12 R_r.out R_one.out (by omega) (by omega) (by omega)).mono ?_
  rintro e w2 ⟨A_nx, n_nx, c_nx, rfl, R_nx, bb, l_nx⟩
  replace R_a := Lib.hid (R_a.out.below bb)
  replace R_r := Lib.hid (R_r.out.below bb)
  replace R_one := Lib.hid (R_one.out.below bb)
  replace Bw := Lib.hid (Bw.out.trans (bb.mono Bw.out.size))
  clear bb
  replace R_nx := Lib.hid R_nx
  clear R_one l_one
  go_wp2_with fail
  refine (awake_any _).mono ?_
  rintro e w3 ⟨rfl, bb⟩
  replace R_a := Lib.hid (R_a.out.below bb)
  replace R_r := Lib.hid (R_r.out.below bb)
  replace R_nx := Lib.hid (R_nx.out.below bb)
  replace Bw := Lib.hid (Bw.out.trans (bb.mono Bw.out.size))
  clear bb
  go_wp2_with fail
  refine (mul_b _ _ _ _ _ _ _ _ _ 12 12 R_r.out R_r.out (by omega) (by omega) (by omega) (by omega)).mono ?_
  rintro e w4 ⟨A_s, n_s, c_s, rfl, R_s, bb, l_s⟩
  replace R_a := Lib.hid (R_a.out.below bb)
  replace R_r := Lib.hid (R_r.out.below bb)
  replace R_nx := Lib.hid (R_nx.out.below bb)
  replace Bw := Lib.hid (Bw.out.trans (bb.mono Bw.out.size))
  clear bb
  replace R_s := Lib.hid R_s
  go_wp2_with fail
  refine (compare_b _ _ _ _ _ _ _ _ _ R_s.out R_a.out (by omega) (by omega) (q1) (hq1.out)).mono ?_
  rintro e w5 ⟨rfl, bb⟩
  replace R_a := Lib.hid (R_a.out.below bb)
  replace R_r := Lib.hid (R_r.out.below bb)
  replace R_nx := Lib.hid (R_nx.out.below bb)
  replace R_s := Lib.hid (R_s.out.below bb)
  replace Bw := Lib.hid (Bw.out.trans (bb.mono Bw.out.size))
  clear bb
  clear R_s l_s
  clear R_r l_r
  go_wp2_with fail
  refine (mul_b _ _ _ _ _ _ _ _ _ 13 13 R_nx.out R_nx.out (by omega) (by omega) (by omega) (by omega)).mono ?_
  rintro e w6 ⟨A_u, n_u, c_u, rfl, R_u, bb, l_u⟩
  replace R_a := Lib.hid (R_a.out.below bb)
  replace R_nx := Lib.hid (R_nx.out.below bb)
  replace Bw := Lib.hid (Bw.out.trans (bb.mono Bw.out.size))
  clear bb
  replace R_u := Lib.hid R_u
  go_wp2_with fail
  refine (compare_b _ _ _ _ _ _ _ _ _ R_u.out R_a.out (by omega) (by omega) (1) (cmpi_gt (Int.ofNat_lt.2 (isq_spec x).2))).mono ?_
  rintro e w7 ⟨rfl, bb⟩
  replace R_a := Lib.hid (R_a.out.below bb)
  replace R_nx := Lib.hid (R_nx.out.below bb)
  replace R_u := Lib.hid (R_u.out.below bb)
  replace Bw := Lib.hid (Bw.out.trans (bb.mono Bw.out.size))
  clear bb
  clear R_u l_u
  clear R_nx l_nx
  go_wp2_with fail
  refine (mul_b _ _ _ _ _ _ _ _ _ 12 12 R_a.out R_a.out (by omega) (by omega) (by omega) (by omega)).mono ?_
  rintro e w8 ⟨A_v, n_v, c_v, rfl, R_v, bb, l_v⟩
  replace R_a := Lib.hid (R_a.out.below bb)
  replace Bw := Lib.hid (Bw.out.trans (bb.mono Bw.out.size))
  clear bb
  replace R_v := Lib.hid R_v
  go_wp2_with fail
  refine (root_b _ _ _ _ _ 24 R_v.out (by omega) (by omega)).mono ?_
  rintro e w9 ⟨A_t, n_t, c_t, rfl, R_t, bb, l_t⟩
  replace R_a := Lib.hid (R_a.out.below bb)
  replace R_v := Lib.hid (R_v.out.below bb)
  replace Bw := Lib.hid (Bw.out.trans (bb.mono Bw.out.size))
  clear bb
  replace R_t := Lib.hid R_t
  clear R_v l_v
  go_wp2_with fail
  refine (same_b _ _ _ _ _ _ _ _ _ R_t.out R_a.out (by omega) (by rw [isq_sq])).mono ?_
  rintro e w10 ⟨rfl, bb⟩
  replace R_a := Lib.hid (R_a.out.below bb)
  replace R_t := Lib.hid (R_t.out.below bb)
  replace Bw := Lib.hid (Bw.out.trans (bb.mono Bw.out.size))
  clear bb
  go_wp2
  go_ret
  exact ⟨rfl, Bw.out⟩

end Go.Proofs.Ytpafgkggkgmamaa
