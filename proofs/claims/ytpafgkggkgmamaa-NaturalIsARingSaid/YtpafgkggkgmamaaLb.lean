/- The walk of one law. -/
import Derived.Test.YtpafgkggkgmamaaWl
namespace Go.Proofs.Ytpafgkggkgmamaa
open Go.RowKit

set_option maxHeartbeats 4000000 in
theorem law_ring (A : Option Addr) (n c : Nat) (xs : List Nat) (A' : Option Addr) (n' c' : Nat) (ys : List Nat) (A'' : Option Addr) (n'' c'' : Nat) (zs : List Nat) (w : World) (h1 : Rd w A n c xs) (m1 : n ≤ 9223372036854775807) (h2 : Rd w A' n' c' ys) (m2 : n' ≤ 9223372036854775807) (h3 : Rd w A'' n'' c'' zs) (m3 : n'' ≤ 9223372036854775807) :
    Calls Try.prog 7 #[.slice A n c, .slice A' n' c', .slice A'' n'' c''] w fun e w' => e = .returned (.bool true) ∧ Below w.heap.size w w' := by
  have hf := fair_eq A n c xs A' n' c' ys A'' n'' c'' zs w h1 h2 h3 m1 m2 m3
  cases hfb : fairB n n' n'' xs ys zs
  · rw [hfb] at hf
    replace hf := Lib.hid hf
    clear hfb h1 h2 h3 m1 m2 m3
    go_enter Try.func7, Try.ntmps7
    go_wp2_with fail
    refine (hf.out).mono ?_
    rintro e w' ⟨rfl, rfl⟩
    go_wp2_with fail
    refine (awake_any _).mono ?_
    rintro e w1 ⟨rfl, bb⟩
    replace bb := Lib.hid bb
    go_wp2
    go_ret
    exact ⟨rfl, bb.out⟩
  rw [hfb] at hf
  replace hf := Lib.hid hf
  obtain ⟨l_a, l_b, l_c, v1, v2, v3⟩ := fair_yes hfb
  have R_a := Lib.hid (rd_limbs h1 v1)
  have R_b := Lib.hid (rd_limbs h2 v2)
  have R_c := Lib.hid (rd_limbs h3 v3)
  clear h1 h2 h3 m1 m2 m3 hfb v1 v2 v3
  generalize val xs = x at R_a
  generalize val ys = y at R_b
  generalize val zs = z at R_c
  have Bw := Lib.hid (Below.refl w.heap.size w)
  go_enter Try.func7, Try.ntmps7
  go_wp2_with fail
  refine (hf.out).mono ?_
  rintro e w' ⟨rfl, rfl⟩
  clear hf
  go_wp2_with fail
  have R_one := Lib.hid (lit_one w w.heap.size 1 1 rfl rfl (by omega) (by omega))
  have l_one : 1 ≤ 1 := Nat.le_refl 1
  have bb : Below w.heap.size w (w.alloc (.cells #[.int .u32 1] 41)) := (Below.refl _ _).alloc (Nat.le_refl _) _
  replace R_a := Lib.hid (R_a.out.below bb)
  replace R_b := Lib.hid (R_b.out.below bb)
  replace R_c := Lib.hid (R_c.out.below bb)
  replace Bw := Lib.hid (Bw.out.trans (bb.mono Bw.out.size))
  clear bb
  refine (awake_any _).mono ?_
  rintro e w1 ⟨rfl, bb⟩
  replace R_a := Lib.hid (R_a.out.below bb)
  replace R_b := Lib.hid (R_b.out.below bb)
  replace R_c := Lib.hid (R_c.out.below bb)
  replace R_one := Lib.hid (R_one.out.below bb)
  replace Bw := Lib.hid (Bw.out.trans (bb.mono Bw.out.size))
  clear bb
  go_wp2_with fail
  refine (add_b _ _ _ _ _ _ _ _ _ 12 R_a.out R_b.out (by omega) (by omega) (by omega)).mono ?_
  rintro e w2 ⟨A_p, n_p, c_p, rfl, R_p, bb, l_p⟩
  replace R_a := Lib.hid (R_a.out.below bb)
  replace R_b := Lib.hid (R_b.out.below bb)
  replace R_c := Lib.hid (R_c.out.below bb)
  replace R_one := Lib.hid (R_one.out.below bb)
  replace Bw := Lib.hid (Bw.out.trans (bb.mono Bw.out.size))
  clear bb
  replace R_p := Lib.hid R_p
  go_wp2_with fail
  refine (add_b _ _ _ _ _ _ _ _ _ 12 R_b.out R_a.out (by omega) (by omega) (by omega)).mono ?_
  rintro e w3 ⟨A_q, n_q, c_q, rfl, R_q, bb, l_q⟩
  replace R_a := Lib.hid (R_a.out.below bb)
  replace R_b := Lib.hid (R_b.out.below bb)
  replace R_c := Lib.hid (R_c.out.below bb)
  replace R_one := Lib.hid (R_one.out.below bb)
  replace R_p := Lib.hid (R_p.out.below bb)
  replace Bw := Lib.hid (Bw.out.trans (bb.mono Bw.out.size))
  clear bb
  replace R_q := Lib.hid R_q
  go_wp2_with fail
  refine (same_b _ _ _ _ _ _ _ _ _ R_p.out R_q.out (by omega) (by rw [Nat.add_comm])).mono ?_
  rintro e w4 ⟨rfl, bb⟩
  replace R_a := Lib.hid (R_a.out.below bb)
  replace R_b := Lib.hid (R_b.out.below bb)
  replace R_c := Lib.hid (R_c.out.below bb)
  replace R_one := Lib.hid (R_one.out.below bb)
  replace R_p := Lib.hid (R_p.out.below bb)
  replace R_q := Lib.hid (R_q.out.below bb)
  replace Bw := Lib.hid (Bw.out.trans (bb.mono Bw.out.size))
  clear bb
  clear R_p l_p
  clear R_q l_q
  go_wp2_with fail
  refine (mul_b _ _ _ _ _ _ _ _ _ 12 12 R_a.out R_b.out (by omega) (by omega) (by omega) (by omega)).mono ?_
  rintro e w5 ⟨A_p, n_p, c_p, rfl, R_p, bb, l_p⟩
  replace R_a := Lib.hid (R_a.out.below bb)
  replace R_b := Lib.hid (R_b.out.below bb)
  replace R_c := Lib.hid (R_c.out.below bb)
  replace R_one := Lib.hid (R_one.out.below bb)
  replace Bw := Lib.hid (Bw.out.trans (bb.mono Bw.out.size))
  clear bb
  replace R_p := Lib.hid R_p
  go_wp2_with fail
  refine (mul_b _ _ _ _ _ _ _ _ _ 12 12 R_b.out R_a.out (by omega) (by omega) (by omega) (by omega)).mono ?_
  rintro e w6 ⟨A_q, n_q, c_q, rfl, R_q, bb, l_q⟩
  replace R_a := Lib.hid (R_a.out.below bb)
  replace R_b := Lib.hid (R_b.out.below bb)
  replace R_c := Lib.hid (R_c.out.below bb)
  replace R_one := Lib.hid (R_one.out.below bb)
  replace R_p := Lib.hid (R_p.out.below bb)
  replace Bw := Lib.hid (Bw.out.trans (bb.mono Bw.out.size))
  clear bb
  replace R_q := Lib.hid R_q
  go_wp2_with fail
  refine (same_b _ _ _ _ _ _ _ _ _ R_p.out R_q.out (by omega) (by rw [Nat.mul_comm])).mono ?_
  rintro e w7 ⟨rfl, bb⟩
  replace R_a := Lib.hid (R_a.out.below bb)
  replace R_b := Lib.hid (R_b.out.below bb)
  replace R_c := Lib.hid (R_c.out.below bb)
  replace R_one := Lib.hid (R_one.out.below bb)
  replace R_p := Lib.hid (R_p.out.below bb)
  replace R_q := Lib.hid (R_q.out.below bb)
  replace Bw := Lib.hid (Bw.out.trans (bb.mono Bw.out.size))
  clear bb
  clear R_p l_p
  clear R_q l_q
  go_wp2_with fail
  refine (add_b _ _ _ _ _ _ _ _ _ 12 R_a.out R_b.out (by omega) (by omega) (by omega)).mono ?_
  rintro e w8 ⟨A_p, n_p, c_p, rfl, R_p, bb, l_p⟩
  replace R_a := Lib.hid (R_a.out.below bb)
  replace R_b := Lib.hid (R_b.out.below bb)
  replace R_c := Lib.hid (R_c.out.below bb)
  replace R_one := Lib.hid (R_one.out.below bb)
  replace Bw := Lib.hid (Bw.out.trans (bb.mono Bw.out.size))
  clear bb
  replace R_p := Lib.hid R_p
  go_wp2_with fail
  refine (add_b _ _ _ _ _ _ _ _ _ 13 R_p.out R_c.out (by omega) (by omega) (by omega)).mono ?_
  rintro e w9 ⟨A_q, n_q, c_q, rfl, R_q, bb, l_q⟩
  replace R_a := Lib.hid (R_a.out.below bb)
  replace R_b := Lib.hid (R_b.out.below bb)
  replace R_c := Lib.hid (R_c.out.below bb)
  replace R_one := Lib.hid (R_one.out.below bb)
  replace R_p := Lib.hid (R_p.out.below bb)
  replace Bw := Lib.hid (Bw.out.trans (bb.mono Bw.out.size))
  clear bb
  replace R_q := Lib.hid R_q
  clear R_p l_p
  go_wp2_with fail
  refine (add_b _ _ _ _ _ _ _ _ _ 12 R_b.out R_c.out (by omega) (by omega) (by omega)).mono ?_
  rintro e w10 ⟨A_r, n_r, c_r, rfl, R_r, bb, l_r⟩
  replace R_a := Lib.hid (R_a.out.below bb)
  replace R_b := Lib.hid (R_b.out.below bb)
  replace R_c := Lib.hid (R_c.out.below bb)
  replace R_one := Lib.hid (R_one.out.below bb)
  replace R_q := Lib.hid (R_q.out.below bb)
  replace Bw := Lib.hid (Bw.out.trans (bb.mono Bw.out.size))
  clear bb
  replace R_r := Lib.hid R_r
  go_wp2_with fail
  refine (add_b _ _ _ _ _ _ _ _ _ 13 R_a.out R_r.out (by omega) (by omega) (by omega)).mono ?_
  rintro e w11 ⟨A_t, n_t, c_t, rfl, R_t, bb, l_t⟩
  replace R_a := Lib.hid (R_a.out.below bb)
  replace R_b := Lib.hid (R_b.out.below bb)
  replace R_c := Lib.hid (R_c.out.below bb)
  replace R_one := Lib.hid (R_one.out.below bb)
  replace R_q := Lib.hid (R_q.out.below bb)
  replace R_r := Lib.hid (R_r.out.below bb)
  replace Bw := Lib.hid (Bw.out.trans (bb.mono Bw.out.size))
  clear bb
  replace R_t := Lib.hid R_t
  clear R_r l_r
  go_wp2_with fail
  refine (same_b _ _ _ _ _ _ _ _ _ R_q.out R_t.out (by omega) (by rw [Nat.add_assoc])).mono ?_
  rintro e w12 ⟨rfl, bb⟩
  replace R_a := Lib.hid (R_a.out.below bb)
  replace R_b := Lib.hid (R_b.out.below bb)
  replace R_c := Lib.hid (R_c.out.below bb)
  replace R_one := Lib.hid (R_one.out.below bb)
  replace R_q := Lib.hid (R_q.out.below bb)
  replace R_t := Lib.hid (R_t.out.below bb)
  replace Bw := Lib.hid (Bw.out.trans (bb.mono Bw.out.size))
  clear bb
  clear R_q l_q
  clear R_t l_t
  go_wp2_with fail
  refine (mul_b _ _ _ _ _ _ _ _ _ 12 12 R_a.out R_b.out (by omega) (by omega) (by omega) (by omega)).mono ?_
  rintro e w13 ⟨A_p, n_p, c_p, rfl, R_p, bb, l_p⟩
  replace R_a := Lib.hid (R_a.out.below bb)
  replace R_b := Lib.hid (R_b.out.below bb)
  replace R_c := Lib.hid (R_c.out.below bb)
  replace R_one := Lib.hid (R_one.out.below bb)
  replace Bw := Lib.hid (Bw.out.trans (bb.mono Bw.out.size))
  clear bb
  replace R_p := Lib.hid R_p
  go_wp2_with fail
  refine (mul_b _ _ _ _ _ _ _ _ _ 24 12 R_p.out R_c.out (by omega) (by omega) (by omega) (by omega)).mono ?_
  rintro e w14 ⟨A_q, n_q, c_q, rfl, R_q, bb, l_q⟩
  replace R_a := Lib.hid (R_a.out.below bb)
  replace R_b := Lib.hid (R_b.out.below bb)
  replace R_c := Lib.hid (R_c.out.below bb)
  replace R_one := Lib.hid (R_one.out.below bb)
  replace R_p := Lib.hid (R_p.out.below bb)
  replace Bw := Lib.hid (Bw.out.trans (bb.mono Bw.out.size))
  clear bb
  replace R_q := Lib.hid R_q
  clear R_p l_p
  go_wp2_with fail
  refine (mul_b _ _ _ _ _ _ _ _ _ 12 12 R_b.out R_c.out (by omega) (by omega) (by omega) (by omega)).mono ?_
  rintro e w15 ⟨A_r, n_r, c_r, rfl, R_r, bb, l_r⟩
  replace R_a := Lib.hid (R_a.out.below bb)
  replace R_b := Lib.hid (R_b.out.below bb)
  replace R_c := Lib.hid (R_c.out.below bb)
  replace R_one := Lib.hid (R_one.out.below bb)
  replace R_q := Lib.hid (R_q.out.below bb)
  replace Bw := Lib.hid (Bw.out.trans (bb.mono Bw.out.size))
  clear bb
  replace R_r := Lib.hid R_r
  go_wp2_with fail
  refine (mul_b _ _ _ _ _ _ _ _ _ 12 24 R_a.out R_r.out (by omega) (by omega) (by omega) (by omega)).mono ?_
  rintro e w16 ⟨A_t, n_t, c_t, rfl, R_t, bb, l_t⟩
  replace R_a := Lib.hid (R_a.out.below bb)
  replace R_b := Lib.hid (R_b.out.below bb)
  replace R_c := Lib.hid (R_c.out.below bb)
  replace R_one := Lib.hid (R_one.out.below bb)
  replace R_q := Lib.hid (R_q.out.below bb)
  replace R_r := Lib.hid (R_r.out.below bb)
  replace Bw := Lib.hid (Bw.out.trans (bb.mono Bw.out.size))
  clear bb
  replace R_t := Lib.hid R_t
  clear R_r l_r
  go_wp2_with fail
  refine (same_b _ _ _ _ _ _ _ _ _ R_q.out R_t.out (by omega) (by rw [Nat.mul_assoc])).mono ?_
  rintro e w17 ⟨rfl, bb⟩
  replace R_a := Lib.hid (R_a.out.below bb)
  replace R_b := Lib.hid (R_b.out.below bb)
  replace R_c := Lib.hid (R_c.out.below bb)
  replace R_one := Lib.hid (R_one.out.below bb)
  replace R_q := Lib.hid (R_q.out.below bb)
  replace R_t := Lib.hid (R_t.out.below bb)
  replace Bw := Lib.hid (Bw.out.trans (bb.mono Bw.out.size))
  clear bb
  clear R_q l_q
  clear R_t l_t
  go_wp2_with fail
  refine (add_b _ _ _ _ _ _ _ _ _ 12 R_b.out R_c.out (by omega) (by omega) (by omega)).mono ?_
  rintro e w18 ⟨A_p, n_p, c_p, rfl, R_p, bb, l_p⟩
  replace R_a := Lib.hid (R_a.out.below bb)
  replace R_b := Lib.hid (R_b.out.below bb)
  replace R_c := Lib.hid (R_c.out.below bb)
  replace R_one := Lib.hid (R_one.out.below bb)
  replace Bw := Lib.hid (Bw.out.trans (bb.mono Bw.out.size))
  clear bb
  replace R_p := Lib.hid R_p
  go_wp2_with fail
  refine (mul_b _ _ _ _ _ _ _ _ _ 12 13 R_a.out R_p.out (by omega) (by omega) (by omega) (by omega)).mono ?_
  rintro e w19 ⟨A_q, n_q, c_q, rfl, R_q, bb, l_q⟩
  replace R_a := Lib.hid (R_a.out.below bb)
  replace R_b := Lib.hid (R_b.out.below bb)
  replace R_c := Lib.hid (R_c.out.below bb)
  replace R_one := Lib.hid (R_one.out.below bb)
  replace R_p := Lib.hid (R_p.out.below bb)
  replace Bw := Lib.hid (Bw.out.trans (bb.mono Bw.out.size))
  clear bb
  replace R_q := Lib.hid R_q
  clear R_p l_p
  go_wp2_with fail
  refine (mul_b _ _ _ _ _ _ _ _ _ 12 12 R_a.out R_b.out (by omega) (by omega) (by omega) (by omega)).mono ?_
  rintro e w20 ⟨A_r, n_r, c_r, rfl, R_r, bb, l_r⟩
  replace R_a := Lib.hid (R_a.out.below bb)
  replace R_b := Lib.hid (R_b.out.below bb)
  replace R_c := Lib.hid (R_c.out.below bb)
  replace R_one := Lib.hid (R_one.out.below bb)
  replace R_q := Lib.hid (R_q.out.below bb)
  replace Bw := Lib.hid (Bw.out.trans (bb.mono Bw.out.size))
  clear bb
  replace R_r := Lib.hid R_r
  go_wp2_with fail
  refine (mul_b _ _ _ _ _ _ _ _ _ 12 12 R_a.out R_c.out (by omega) (by omega) (by omega) (by omega)).mono ?_
  rintro e w21 ⟨A_t, n_t, c_t, rfl, R_t, bb, l_t⟩
  replace R_a := Lib.hid (R_a.out.below bb)
  replace R_b := Lib.hid (R_b.out.below bb)
  replace R_c := Lib.hid (R_c.out.below bb)
  replace R_one := Lib.hid (R_one.out.below bb)
  replace R_q := Lib.hid (R_q.out.below bb)
  replace R_r := Lib.hid (R_r.out.below bb)
  replace Bw := Lib.hid (Bw.out.trans (bb.mono Bw.out.size))
  clear bb
  replace R_t := Lib.hid R_t
  go_wp2_with fail
  refine (add_b _ _ _ _ _ _ _ _ _ 24 R_r.out R_t.out (by omega) (by omega) (by omega)).mono ?_
  rintro e w22 ⟨A_u, n_u, c_u, rfl, R_u, bb, l_u⟩
  replace R_a := Lib.hid (R_a.out.below bb)
  replace R_b := Lib.hid (R_b.out.below bb)
  replace R_c := Lib.hid (R_c.out.below bb)
  replace R_one := Lib.hid (R_one.out.below bb)
  replace R_q := Lib.hid (R_q.out.below bb)
  replace R_r := Lib.hid (R_r.out.below bb)
  replace R_t := Lib.hid (R_t.out.below bb)
  replace Bw := Lib.hid (Bw.out.trans (bb.mono Bw.out.size))
  clear bb
  replace R_u := Lib.hid R_u
  clear R_r l_r
  clear R_t l_t
  go_wp2_with fail
  refine (same_b _ _ _ _ _ _ _ _ _ R_q.out R_u.out (by omega) (by rw [Nat.mul_add])).mono ?_
  rintro e w23 ⟨rfl, bb⟩
  replace R_a := Lib.hid (R_a.out.below bb)
  replace R_b := Lib.hid (R_b.out.below bb)
  replace R_c := Lib.hid (R_c.out.below bb)
  replace R_one := Lib.hid (R_one.out.below bb)
  replace R_q := Lib.hid (R_q.out.below bb)
  replace R_u := Lib.hid (R_u.out.below bb)
  replace Bw := Lib.hid (Bw.out.trans (bb.mono Bw.out.size))
  clear bb
  clear R_q l_q
  clear R_u l_u
  go_wp2_with fail
  refine (add_b _ _ _ _ _ _ _ _ _ 12 R_a.out (by rw [limbs_zero]; exact Rd.nil_ _ _ _) (by omega) (by omega) (by omega)).mono ?_
  rintro e w24 ⟨A_p, n_p, c_p, rfl, R_p, bb, l_p⟩
  replace R_a := Lib.hid (R_a.out.below bb)
  replace R_b := Lib.hid (R_b.out.below bb)
  replace R_c := Lib.hid (R_c.out.below bb)
  replace R_one := Lib.hid (R_one.out.below bb)
  replace Bw := Lib.hid (Bw.out.trans (bb.mono Bw.out.size))
  clear bb
  replace R_p := Lib.hid R_p
  go_wp2_with fail
  refine (same_b _ _ _ _ _ _ _ _ _ R_p.out R_a.out (by omega) (by rw [Nat.add_zero])).mono ?_
  rintro e w25 ⟨rfl, bb⟩
  replace R_a := Lib.hid (R_a.out.below bb)
  replace R_b := Lib.hid (R_b.out.below bb)
  replace R_c := Lib.hid (R_c.out.below bb)
  replace R_one := Lib.hid (R_one.out.below bb)
  replace R_p := Lib.hid (R_p.out.below bb)
  replace Bw := Lib.hid (Bw.out.trans (bb.mono Bw.out.size))
  clear bb
  clear R_p l_p
  go_wp2_with fail
  refine (mul_b _ _ _ _ _ _ _ _ _ 12 1 R_a.out R_one.out (by omega) (by omega) (by omega) (by omega)).mono ?_
  rintro e w26 ⟨A_p, n_p, c_p, rfl, R_p, bb, l_p⟩
  replace R_a := Lib.hid (R_a.out.below bb)
  replace R_b := Lib.hid (R_b.out.below bb)
  replace R_c := Lib.hid (R_c.out.below bb)
  replace R_one := Lib.hid (R_one.out.below bb)
  replace Bw := Lib.hid (Bw.out.trans (bb.mono Bw.out.size))
  clear bb
  replace R_p := Lib.hid R_p
  go_wp2_with fail
  refine (same_b _ _ _ _ _ _ _ _ _ R_p.out R_a.out (by omega) (by rw [Nat.mul_one])).mono ?_
  rintro e w27 ⟨rfl, bb⟩
  replace R_a := Lib.hid (R_a.out.below bb)
  replace R_b := Lib.hid (R_b.out.below bb)
  replace R_c := Lib.hid (R_c.out.below bb)
  replace R_one := Lib.hid (R_one.out.below bb)
  replace R_p := Lib.hid (R_p.out.below bb)
  replace Bw := Lib.hid (Bw.out.trans (bb.mono Bw.out.size))
  clear bb
  clear R_p l_p
  go_wp2_with fail
  refine (mul_b _ _ _ _ _ _ _ _ _ 12 0 R_a.out (by rw [limbs_zero]; exact Rd.nil_ _ _ _) (by omega) (by omega) (by omega) (by omega)).mono ?_
  rintro e w28 ⟨A_p, n_p, c_p, rfl, R_p, bb, l_p⟩
  replace R_a := Lib.hid (R_a.out.below bb)
  replace R_b := Lib.hid (R_b.out.below bb)
  replace R_c := Lib.hid (R_c.out.below bb)
  replace R_one := Lib.hid (R_one.out.below bb)
  replace Bw := Lib.hid (Bw.out.trans (bb.mono Bw.out.size))
  clear bb
  replace R_p := Lib.hid R_p
  obtain rfl : n_p = 0 := by have := R_p.out.len; rw [Nat.mul_zero, limbs_zero] at this; exact this.symm
  go_wp2
  go_ret
  exact ⟨rfl, Bw.out⟩

end Go.Proofs.Ytpafgkggkgmamaa
