/- The walk of one law. -/
import Derived.Test.YtpafgkggkgmamaaWl
namespace Go.Proofs.Ytpafgkggkgmamaa
open Go.RowKit

set_option maxHeartbeats 4000000 in
theorem law_sub (A : Option Addr) (n c : Nat) (xs : List Nat) (A' : Option Addr) (n' c' : Nat) (ys : List Nat) (A'' : Option Addr) (n'' c'' : Nat) (zs : List Nat) (w : World) (h1 : Rd w A n c xs) (m1 : n ≤ 9223372036854775807) (h2 : Rd w A' n' c' ys) (m2 : n' ≤ 9223372036854775807) (h3 : Rd w A'' n'' c'' zs) (m3 : n'' ≤ 9223372036854775807) :
    Calls Try.prog 8 #[.slice A n c, .slice A' n' c', .slice A'' n'' c''] w fun e w' => e = .returned (.bool true) ∧ Below w.heap.size w w' := by
  have hf := fair_eq A n c xs A' n' c' ys A'' n'' c'' zs w h1 h2 h3 m1 m2 m3
  cases hfb : fairB n n' n'' xs ys zs
  · rw [hfb] at hf
    replace hf := Lib.hid hf
    clear hfb h1 h2 h3 m1 m2 m3
    go_enter Try.func8, Try.ntmps8
    go_wp2_with fail
    refine (hf.out).mono ?_
    rintro e w' ⟨rfl, rfl⟩
    go_wp2_with fail
    refine (awake_any _).mono ?_
    rintro e w1 ⟨rfl, bb⟩
    replace bb := Lib.hid bb
    go_wp2
    go_ret
    exact ⟨rfl, bb.out⟩
  rw [hfb] at hf
  replace hf := Lib.hid hf
  obtain ⟨l_a, l_b, l_c, v1, v2, v3⟩ := fair_yes hfb
  have R_a := Lib.hid (rd_limbs h1 v1)
  have R_b := Lib.hid (rd_limbs h2 v2)
  have R_c := Lib.hid (rd_limbs h3 v3)
  clear h1 h2 h3 m1 m2 m3 hfb v1 v2 v3
  generalize val xs = x at R_a
  generalize val ys = y at R_b
  generalize val zs = z at R_c
  have Bw := Lib.hid (Below.refl w.heap.size w)
  by_cases hlt : x < y
  · have hc := Lib.hid hlt
    clear hlt
    go_enter Try.func8, Try.ntmps8
    go_wp2_with fail
    refine (hf.out).mono ?_
    rintro e w' ⟨rfl, rfl⟩
    clear hf
    go_wp2_with fail
    refine (add_b _ _ _ _ _ _ _ _ _ 12 R_a.out R_b.out (by omega) (by omega) (by omega)).mono ?_
    rintro e w1 ⟨A_s, n_s, c_s, rfl, R_s, bb, l_s⟩
    replace R_a := Lib.hid (R_a.out.below bb)
    replace R_b := Lib.hid (R_b.out.below bb)
    replace R_c := Lib.hid (R_c.out.below bb)
    replace Bw := Lib.hid (Bw.out.trans (bb.mono Bw.out.size))
    clear bb
    replace R_s := Lib.hid R_s
    go_wp2_with fail
    refine (sub_ge_b _ _ _ _ _ _ _ _ _ 13 R_s.out R_b.out (by omega) (by omega) (by omega) (by omega)).mono ?_
    rintro e w2 ⟨A_d, n_d, c_d, rfl, R_d, bb, l_d⟩
    replace R_a := Lib.hid (R_a.out.below bb)
    replace R_b := Lib.hid (R_b.out.below bb)
    replace R_c := Lib.hid (R_c.out.below bb)
    replace R_s := Lib.hid (R_s.out.below bb)
    replace Bw := Lib.hid (Bw.out.trans (bb.mono Bw.out.size))
    clear bb
    replace R_d := Lib.hid R_d
    clear R_s l_s
    go_wp2_with fail
    refine (sub_lt_b _ _ _ _ _ _ _ _ _ R_a.out R_b.out (by omega) (by omega) (hc.out)).mono ?_
    rintro e w3 ⟨rfl, bb⟩
    replace R_a := Lib.hid (R_a.out.below bb)
    replace R_b := Lib.hid (R_b.out.below bb)
    replace R_c := Lib.hid (R_c.out.below bb)
    replace R_d := Lib.hid (R_d.out.below bb)
    replace Bw := Lib.hid (Bw.out.trans (bb.mono Bw.out.size))
    clear bb
    go_wp2_with fail
    refine (awake_any _).mono ?_
    rintro e w4 ⟨rfl, bb⟩
    replace R_a := Lib.hid (R_a.out.below bb)
    replace R_b := Lib.hid (R_b.out.below bb)
    replace R_c := Lib.hid (R_c.out.below bb)
    replace R_d := Lib.hid (R_d.out.below bb)
    replace Bw := Lib.hid (Bw.out.trans (bb.mono Bw.out.size))
    clear bb
    go_wp2_with fail
    refine (same_b _ _ _ _ _ _ _ _ _ R_d.out R_a.out (by omega) (by rw [Nat.add_sub_cancel])).mono ?_
    rintro e w5 ⟨rfl, bb⟩
    replace R_a := Lib.hid (R_a.out.below bb)
    replace R_b := Lib.hid (R_b.out.below bb)
    replace R_c := Lib.hid (R_c.out.below bb)
    replace R_d := Lib.hid (R_d.out.below bb)
    replace Bw := Lib.hid (Bw.out.trans (bb.mono Bw.out.size))
    clear bb
    clear R_d l_d
    go_wp2_with fail
    refine (compare_b _ _ _ _ _ _ _ _ _ R_a.out R_b.out (by omega) (by omega) (-1) (cmpi_lt (by have := hc.out; omega))).mono ?_
    rintro e w6 ⟨rfl, bb⟩
    replace R_a := Lib.hid (R_a.out.below bb)
    replace R_b := Lib.hid (R_b.out.below bb)
    replace R_c := Lib.hid (R_c.out.below bb)
    replace Bw := Lib.hid (Bw.out.trans (bb.mono Bw.out.size))
    clear bb
    go_wp2_with fail
    refine (compare_b _ _ _ _ _ _ _ _ _ R_a.out R_b.out (by omega) (by omega) (-1) (cmpi_lt (by have := hc.out; omega))).mono ?_
    rintro e w7 ⟨rfl, bb⟩
    replace R_a := Lib.hid (R_a.out.below bb)
    replace R_b := Lib.hid (R_b.out.below bb)
    replace R_c := Lib.hid (R_c.out.below bb)
    replace Bw := Lib.hid (Bw.out.trans (bb.mono Bw.out.size))
    clear bb
    go_wp2_with fail
    refine (compare_b _ _ _ _ _ _ _ _ _ R_b.out R_a.out (by omega) (by omega) (1) (cmpi_gt (by have := hc.out; omega))).mono ?_
    rintro e w8 ⟨rfl, bb⟩
    replace R_a := Lib.hid (R_a.out.below bb)
    replace R_b := Lib.hid (R_b.out.below bb)
    replace R_c := Lib.hid (R_c.out.below bb)
    replace Bw := Lib.hid (Bw.out.trans (bb.mono Bw.out.size))
    clear bb
    go_wp2_with fail
    refine (add_b _ _ _ _ _ _ _ _ _ 12 R_a.out R_c.out (by omega) (by omega) (by omega)).mono ?_
    rintro e w9 ⟨A_p, n_p, c_p, rfl, R_p, bb, l_p⟩
    replace R_a := Lib.hid (R_a.out.below bb)
    replace R_b := Lib.hid (R_b.out.below bb)
    replace R_c := Lib.hid (R_c.out.below bb)
    replace Bw := Lib.hid (Bw.out.trans (bb.mono Bw.out.size))
    clear bb
    replace R_p := Lib.hid R_p
    go_wp2_with fail
    refine (add_b _ _ _ _ _ _ _ _ _ 12 R_b.out R_c.out (by omega) (by omega) (by omega)).mono ?_
    rintro e w10 ⟨A_r, n_r, c_r, rfl, R_r, bb, l_r⟩
    replace R_a := Lib.hid (R_a.out.below bb)
    replace R_b := Lib.hid (R_b.out.below bb)
    replace R_c := Lib.hid (R_c.out.below bb)
    replace R_p := Lib.hid (R_p.out.below bb)
    replace Bw := Lib.hid (Bw.out.trans (bb.mono Bw.out.size))
    clear bb
    replace R_r := Lib.hid R_r
    go_wp2_with fail
    refine (compare_b _ _ _ _ _ _ _ _ _ R_p.out R_r.out (by omega) (by omega) (-1) (cmpi_lt (by have := hc.out; omega))).mono ?_
    rintro e w11 ⟨rfl, bb⟩
    replace R_a := Lib.hid (R_a.out.below bb)
    replace R_b := Lib.hid (R_b.out.below bb)
    replace R_c := Lib.hid (R_c.out.below bb)
    replace R_p := Lib.hid (R_p.out.below bb)
    replace R_r := Lib.hid (R_r.out.below bb)
    replace Bw := Lib.hid (Bw.out.trans (bb.mono Bw.out.size))
    clear bb
    clear R_p l_p
    clear R_r l_r
    go_wp2_with fail
    refine (compare_b _ _ _ _ _ _ _ _ _ R_a.out R_b.out (by omega) (by omega) (-1) (cmpi_lt (by have := hc.out; omega))).mono ?_
    rintro e w12 ⟨rfl, bb⟩
    replace R_a := Lib.hid (R_a.out.below bb)
    replace R_b := Lib.hid (R_b.out.below bb)
    replace R_c := Lib.hid (R_c.out.below bb)
    replace Bw := Lib.hid (Bw.out.trans (bb.mono Bw.out.size))
    clear bb
    go_wp2
    go_ret
    exact ⟨rfl, Bw.out⟩
  by_cases hgt : y < x
  · have hc := Lib.hid hgt
    clear hgt hlt
    go_enter Try.func8, Try.ntmps8
    go_wp2_with fail
    refine (hf.out).mono ?_
    rintro e w' ⟨rfl, rfl⟩
    clear hf
    go_wp2_with fail
    refine (add_b _ _ _ _ _ _ _ _ _ 12 R_a.out R_b.out (by omega) (by omega) (by omega)).mono ?_
    rintro e w1 ⟨A_s, n_s, c_s, rfl, R_s, bb, l_s⟩
    replace R_a := Lib.hid (R_a.out.below bb)
    replace R_b := Lib.hid (R_b.out.below bb)
    replace R_c := Lib.hid (R_c.out.below bb)
    replace Bw := Lib.hid (Bw.out.trans (bb.mono Bw.out.size))
    clear bb
    replace R_s := Lib.hid R_s
    go_wp2_with fail
    refine (sub_ge_b _ _ _ _ _ _ _ _ _ 13 R_s.out R_b.out (by omega) (by omega) (by omega) (by omega)).mono ?_
    rintro e w2 ⟨A_d, n_d, c_d, rfl, R_d, bb, l_d⟩
    replace R_a := Lib.hid (R_a.out.below bb)
    replace R_b := Lib.hid (R_b.out.below bb)
    replace R_c := Lib.hid (R_c.out.below bb)
    replace R_s := Lib.hid (R_s.out.below bb)
    replace Bw := Lib.hid (Bw.out.trans (bb.mono Bw.out.size))
    clear bb
    replace R_d := Lib.hid R_d
    clear R_s l_s
    go_wp2_with fail
    refine (sub_ge_b _ _ _ _ _ _ _ _ _ 12 R_a.out R_b.out (by omega) (by omega) (by omega) (by have := hc.out; omega)).mono ?_
    rintro e w3 ⟨A_u, n_u, c_u, rfl, R_u, bb, l_u⟩
    replace R_a := Lib.hid (R_a.out.below bb)
    replace R_b := Lib.hid (R_b.out.below bb)
    replace R_c := Lib.hid (R_c.out.below bb)
    replace R_d := Lib.hid (R_d.out.below bb)
    replace Bw := Lib.hid (Bw.out.trans (bb.mono Bw.out.size))
    clear bb
    replace R_u := Lib.hid R_u
    clear R_u l_u
    go_wp2_with fail
    refine (awake_any _).mono ?_
    rintro e w4 ⟨rfl, bb⟩
    replace R_a := Lib.hid (R_a.out.below bb)
    replace R_b := Lib.hid (R_b.out.below bb)
    replace R_c := Lib.hid (R_c.out.below bb)
    replace R_d := Lib.hid (R_d.out.below bb)
    replace Bw := Lib.hid (Bw.out.trans (bb.mono Bw.out.size))
    clear bb
    go_wp2_with fail
    refine (same_b _ _ _ _ _ _ _ _ _ R_d.out R_a.out (by omega) (by rw [Nat.add_sub_cancel])).mono ?_
    rintro e w5 ⟨rfl, bb⟩
    replace R_a := Lib.hid (R_a.out.below bb)
    replace R_b := Lib.hid (R_b.out.below bb)
    replace R_c := Lib.hid (R_c.out.below bb)
    replace R_d := Lib.hid (R_d.out.below bb)
    replace Bw := Lib.hid (Bw.out.trans (bb.mono Bw.out.size))
    clear bb
    clear R_d l_d
    go_wp2_with fail
    refine (compare_b _ _ _ _ _ _ _ _ _ R_a.out R_b.out (by omega) (by omega) (1) (cmpi_gt (by have := hc.out; omega))).mono ?_
    rintro e w6 ⟨rfl, bb⟩
    replace R_a := Lib.hid (R_a.out.below bb)
    replace R_b := Lib.hid (R_b.out.below bb)
    replace R_c := Lib.hid (R_c.out.below bb)
    replace Bw := Lib.hid (Bw.out.trans (bb.mono Bw.out.size))
    clear bb
    go_wp2_with fail
    refine (compare_b _ _ _ _ _ _ _ _ _ R_a.out R_b.out (by omega) (by omega) (1) (cmpi_gt (by have := hc.out; omega))).mono ?_
    rintro e w7 ⟨rfl, bb⟩
    replace R_a := Lib.hid (R_a.out.below bb)
    replace R_b := Lib.hid (R_b.out.below bb)
    replace R_c := Lib.hid (R_c.out.below bb)
    replace Bw := Lib.hid (Bw.out.trans (bb.mono Bw.out.size))
    clear bb
    go_wp2_with fail
    refine (compare_b _ _ _ _ _ _ _ _ _ R_b.out R_a.out (by omega) (by omega) (-1) (cmpi_lt (by have := hc.out; omega))).mono ?_
    rintro e w8 ⟨rfl, bb⟩
    replace R_a := Lib.hid (R_a.out.below bb)
    replace R_b := Lib.hid (R_b.out.below bb)
    replace R_c := Lib.hid (R_c.out.below bb)
    replace Bw := Lib.hid (Bw.out.trans (bb.mono Bw.out.size))
    clear bb
    go_wp2_with fail
    refine (add_b _ _ _ _ _ _ _ _ _ 12 R_a.out R_c.out (by omega) (by omega) (by omega)).mono ?_
    rintro e w9 ⟨A_p, n_p, c_p, rfl, R_p, bb, l_p⟩
    replace R_a := Lib.hid (R_a.out.below bb)
    replace R_b := Lib.hid (R_b.out.below bb)
    replace R_c := Lib.hid (R_c.out.below bb)
    replace Bw := Lib.hid (Bw.out.trans (bb.mono Bw.out.size))
    clear bb
    replace R_p := Lib.hid R_p
    go_wp2_with fail
    refine (add_b _ _ _ _ _ _ _ _ _ 12 R_b.out R_c.out (by omega) (by omega) (by omega)).mono ?_
    rintro e w10 ⟨A_r, n_r, c_r, rfl, R_r, bb, l_r⟩
    replace R_a := Lib.hid (R_a.out.below bb)
    replace R_b := Lib.hid (R_b.out.below bb)
    replace R_c := Lib.hid (R_c.out.below bb)
    replace R_p := Lib.hid (R_p.out.below bb)
    replace Bw := Lib.hid (Bw.out.trans (bb.mono Bw.out.size))
    clear bb
    replace R_r := Lib.hid R_r
    go_wp2_with fail
    refine (compare_b _ _ _ _ _ _ _ _ _ R_p.out R_r.out (by omega) (by omega) (1) (cmpi_gt (by have := hc.out; omega))).mono ?_
    rintro e w11 ⟨rfl, bb⟩
    replace R_a := Lib.hid (R_a.out.below bb)
    replace R_b := Lib.hid (R_b.out.below bb)
    replace R_c := Lib.hid (R_c.out.below bb)
    replace R_p := Lib.hid (R_p.out.below bb)
    replace R_r := Lib.hid (R_r.out.below bb)
    replace Bw := Lib.hid (Bw.out.trans (bb.mono Bw.out.size))
    clear bb
    clear R_p l_p
    clear R_r l_r
    go_wp2_with fail
    refine (compare_b _ _ _ _ _ _ _ _ _ R_a.out R_b.out (by omega) (by omega) (1) (cmpi_gt (by have := hc.out; omega))).mono ?_
    rintro e w12 ⟨rfl, bb⟩
    replace R_a := Lib.hid (R_a.out.below bb)
    replace R_b := Lib.hid (R_b.out.below bb)
    replace R_c := Lib.hid (R_c.out.below bb)
    replace Bw := Lib.hid (Bw.out.trans (bb.mono Bw.out.size))
    clear bb
    go_wp2
    go_ret
    exact ⟨rfl, Bw.out⟩
  have hc : Hid (x = y) := by show x = y; omega
  clear hgt hlt
  go_enter Try.func8, Try.ntmps8
  go_wp2_with fail
  refine (hf.out).mono ?_
  rintro e w' ⟨rfl, rfl⟩
  clear hf
  go_wp2_with fail
  refine (add_b _ _ _ _ _ _ _ _ _ 12 R_a.out R_b.out (by omega) (by omega) (by omega)).mono ?_
  rintro e w1 ⟨A_s, n_s, c_s, rfl, R_s, bb, l_s⟩
  replace R_a := Lib.hid (R_a.out.below bb)
  replace R_b := Lib.hid (R_b.out.below bb)
  replace R_c := Lib.hid (R_c.out.below bb)
  replace Bw := Lib.hid (Bw.out.trans (bb.mono Bw.out.size))
  clear bb
  replace R_s := Lib.hid R_s
  go_wp2_with fail
  refine (sub_ge_b _ _ _ _ _ _ _ _ _ 13 R_s.out R_b.out (by omega) (by omega) (by omega) (by omega)).mono ?_
  rintro e w2 ⟨A_d, n_d, c_d, rfl, R_d, bb, l_d⟩
  replace R_a := Lib.hid (R_a.out.below bb)
  replace R_b := Lib.hid (R_b.out.below bb)
  replace R_c := Lib.hid (R_c.out.below bb)
  replace R_s := Lib.hid (R_s.out.below bb)
  replace Bw := Lib.hid (Bw.out.trans (bb.mono Bw.out.size))
  clear bb
  replace R_d := Lib.hid R_d
  clear R_s l_s
  go_wp2_with fail
  refine (sub_ge_b _ _ _ _ _ _ _ _ _ 12 R_a.out R_b.out (by omega) (by omega) (by omega) (by have := hc.out; omega)).mono ?_
  rintro e w3 ⟨A_u, n_u, c_u, rfl, R_u, bb, l_u⟩
  replace R_a := Lib.hid (R_a.out.below bb)
  replace R_b := Lib.hid (R_b.out.below bb)
  replace R_c := Lib.hid (R_c.out.below bb)
  replace R_d := Lib.hid (R_d.out.below bb)
  replace Bw := Lib.hid (Bw.out.trans (bb.mono Bw.out.size))
  clear bb
  replace R_u := Lib.hid R_u
  clear R_u l_u
  go_wp2_with fail
  refine (awake_any _).mono ?_
  rintro e w4 ⟨rfl, bb⟩
  replace R_a := Lib.hid (R_a.out.below bb)
  replace R_b := Lib.hid (R_b.out.below bb)
  replace R_c := Lib.hid (R_c.out.below bb)
  replace R_d := Lib.hid (R_d.out.below bb)
  replace Bw := Lib.hid (Bw.out.trans (bb.mono Bw.out.size))
  clear bb
  go_wp2_with fail
  refine (same_b _ _ _ _ _ _ _ _ _ R_d.out R_a.out (by omega) (by rw [Nat.add_sub_cancel])).mono ?_
  rintro e w5 ⟨rfl, bb⟩
  replace R_a := Lib.hid (R_a.out.below bb)
  replace R_b := Lib.hid (R_b.out.below bb)
  replace R_c := Lib.hid (R_c.out.below bb)
  replace R_d := Lib.hid (R_d.out.below bb)
  replace Bw := Lib.hid (Bw.out.trans (bb.mono Bw.out.size))
  clear bb
  clear R_d l_d
  go_wp2_with fail
  refine (compare_b _ _ _ _ _ _ _ _ _ R_a.out R_b.out (by omega) (by omega) (0) (cmpi_eq (by have := hc.out; omega))).mono ?_
  rintro e w6 ⟨rfl, bb⟩
  replace R_a := Lib.hid (R_a.out.below bb)
  replace R_b := Lib.hid (R_b.out.below bb)
  replace R_c := Lib.hid (R_c.out.below bb)
  replace Bw := Lib.hid (Bw.out.trans (bb.mono Bw.out.size))
  clear bb
  go_wp2_with fail
  refine (compare_b _ _ _ _ _ _ _ _ _ R_a.out R_b.out (by omega) (by omega) (0) (cmpi_eq (by have := hc.out; omega))).mono ?_
  rintro e w7 ⟨rfl, bb⟩
  replace R_a := Lib.hid (R_a.out.below bb)
  replace R_b := Lib.hid (R_b.out.below bb)
  replace R_c := Lib.hid (R_c.out.below bb)
  replace Bw := Lib.hid (Bw.out.trans (bb.mono Bw.out.size))
  clear bb
  go_wp2_with fail
  refine (compare_b _ _ _ _ _ _ _ _ _ R_b.out R_a.out (by omega) (by omega) (0) (cmpi_eq (by have := hc.out; omega))).mono ?_
  rintro e w8 ⟨rfl, bb⟩
  replace R_a := Lib.hid (R_a.out.below bb)
  replace R_b := Lib.hid (R_b.out.below bb)
  replace R_c := Lib.hid (R_c.out.below bb)
  replace Bw := Lib.hid (Bw.out.trans (bb.mono Bw.out.size))
  clear bb
  go_wp2_with fail
  refine (add_b _ _ _ _ _ _ _ _ _ 12 R_a.out R_c.out (by omega) (by omega) (by omega)).mono ?_
  rintro e w9 ⟨A_p, n_p, c_p, rfl, R_p, bb, l_p⟩
  replace R_a := Lib.hid (R_a.out.below bb)
  replace R_b := Lib.hid (R_b.out.below bb)
  replace R_c := Lib.hid (R_c.out.below bb)
  replace Bw := Lib.hid (Bw.out.trans (bb.mono Bw.out.size))
  clear bb
  replace R_p := Lib.hid R_p
  go_wp2_with fail
  refine (add_b _ _ _ _ _ _ _ _ _ 12 R_b.out R_c.out (by omega) (by omega) (by omega)).mono ?_
  rintro e w10 ⟨A_r, n_r, c_r, rfl, R_r, bb, l_r⟩
  replace R_a := Lib.hid (R_a.out.below bb)
  replace R_b := Lib.hid (R_b.out.below bb)
  replace R_c := Lib.hid (R_c.out.below bb)
  replace R_p := Lib.hid (R_p.out.below bb)
  replace Bw := Lib.hid (Bw.out.trans (bb.mono Bw.out.size))
  clear bb
  replace R_r := Lib.hid R_r
  go_wp2_with fail
  refine (compare_b _ _ _ _ _ _ _ _ _ R_p.out R_r.out (by omega) (by omega) (0) (cmpi_eq (by have := hc.out; omega))).mono ?_
  rintro e w11 ⟨rfl, bb⟩
  replace R_a := Lib.hid (R_a.out.below bb)
  replace R_b := Lib.hid (R_b.out.below bb)
  replace R_c := Lib.hid (R_c.out.below bb)
  replace R_p := Lib.hid (R_p.out.below bb)
  replace R_r := Lib.hid (R_r.out.below bb)
  replace Bw := Lib.hid (Bw.out.trans (bb.mono Bw.out.size))
  clear bb
  clear R_p l_p
  clear R_r l_r
  go_wp2_with fail
  refine (compare_b _ _ _ _ _ _ _ _ _ R_a.out R_b.out (by omega) (by omega) (0) (cmpi_eq (by have := hc.out; omega))).mono ?_
  rintro e w12 ⟨rfl, bb⟩
  replace R_a := Lib.hid (R_a.out.below bb)
  replace R_b := Lib.hid (R_b.out.below bb)
  replace R_c := Lib.hid (R_c.out.below bb)
  replace Bw := Lib.hid (Bw.out.trans (bb.mono Bw.out.size))
  clear bb
  go_wp2
  go_ret
  exact ⟨rfl, Bw.out⟩

end Go.Proofs.Ytpafgkggkgmamaa
