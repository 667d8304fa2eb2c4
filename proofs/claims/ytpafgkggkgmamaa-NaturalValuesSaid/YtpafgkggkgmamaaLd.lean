/- The walk of one law. -/
import Derived.Test.YtpafgkggkgmamaaWr
namespace Go.Proofs.Ytpafgkggkgmamaa
open Go.RowKit

theorem compare_raw (A : Option Addr) (n c : Nat) (xs : List Nat) (A' : Option Addr) (n' c' : Nat) (ys : List Nat) (w : World)
    (h1 : Rd w A n c xs) (h2 : Rd w A' n' c' ys) (hn : n ≤ 10000) (hn' : n' ≤ 10000) (q : Int) (hq : cmpi (num xs) (num ys) = q) :
    Calls Try.prog 21 #[.slice A n c, .slice A' n' c'] w fun e w' => e = .returned (.int .i64 q) ∧ Below w.heap.size w w' := by
  have := compare_any A n c xs A' n' c' ys w h1 h2 hn hn'
  rw [hq] at this
  refine this.mono ?_
  rintro e w' ⟨he, m, rfl⟩
  exact ⟨he, drewN_below w m⟩

set_option maxHeartbeats 4000000 in
theorem law_values (A : Option Addr) (n c : Nat) (xs : List Nat) (A' : Option Addr) (n' c' : Nat) (ys : List Nat) (v : Int) (w : World) (h1 : Rd w A n c xs) (m1 : n ≤ 9223372036854775807) (h2 : Rd w A' n' c' ys) (m2 : n' ≤ 9223372036854775807) (hv0 : 0 ≤ v) (hv1 : v ≤ 18446744073709551615) :
    Calls Try.prog 3 #[.slice A n c, .slice A' n' c', .int .u64 v] w fun e w' => e = .returned (.bool true) ∧ Below w.heap.size w w' := by
  have hL1 := light_any A n c w m1
  have hL2 := light_any A' n' c' w m2
  by_cases hl12 : ¬ n ≤ 12
  · rw [decide_eq_false hl12] at hL1
    replace hL1 := Lib.hid hL1
    clear hL2 h1 h2 m1 m2 hl12
    go_enter Try.func3, Try.ntmps3
    go_wp2_with fail
    refine (hL1.out).mono ?_
    rintro e w' ⟨rfl, hw⟩
    have hw := hw.symm
    subst hw
    go_wp2_with fail
    refine (awake_any _).mono ?_
    rintro e w1 ⟨rfl, bb⟩
    replace bb := Lib.hid bb
    go_wp2
    go_ret
    exact ⟨rfl, bb.out⟩
  have l_a : n ≤ 12 := Decidable.not_not.1 hl12
  rw [decide_eq_true l_a] at hL1
  replace hL1 := Lib.hid hL1
  clear hl12
  by_cases hl12 : ¬ n' ≤ 12
  · rw [decide_eq_false hl12] at hL2
    replace hL2 := Lib.hid hL2
    clear h1 h2 m1 m2 hl12 l_a
    go_enter Try.func3, Try.ntmps3
    go_wp2_with fail
    refine (hL1.out).mono ?_
    rintro e w' ⟨rfl, hw⟩
    have hw := hw.symm
    subst hw
    go_wp2_with fail
    refine (hL2.out).mono ?_
    rintro e w' ⟨rfl, hw⟩
    have hw := hw.symm
    subst hw
    go_wp2_with fail
    refine (awake_any _).mono ?_
    rintro e w1 ⟨rfl, bb⟩
    replace bb := Lib.hid bb
    go_wp2
    go_ret
    exact ⟨rfl, bb.out⟩
  have l_b : n' ≤ 12 := Decidable.not_not.1 hl12
  rw [decide_eq_true l_b] at hL2
  replace hL2 := Lib.hid hL2
  clear hl12 m1 m2
  obtain ⟨v, rfl⟩ := Int.eq_ofNat_of_zero_le hv0
  have hvb : v < 18446744073709551616 := by omega
  clear hv0 hv1
  replace hvb := Lib.hid hvb
  have R_a := Lib.hid h1
  have R_b := Lib.hid h2
  clear h1 h2
  have Bw := Lib.hid (Below.refl w.heap.size w)
  obtain ⟨q, hq⟩ : ∃ q, cmpi (num xs) (num ys) = q := ⟨_, rfl⟩
  replace hq := Lib.hid hq
  obtain ⟨uv, huv⟩ : ∃ uv, uval (num xs) = uv := ⟨_, rfl⟩
  obtain ⟨uo, huo⟩ : ∃ uo, uok (num xs) = uo := ⟨_, rfl⟩
  obtain ⟨bv, hbv⟩ : ∃ bv, vldB xs = bv := ⟨_, rfl⟩
  have hU : ∀ W A n c, Rd W A n c xs → n ≤ 12 → Calls Try.prog 14 #[.slice A n c] W fun e w' => e = .returned (.tuple #[.int .u64 (uv : Nat), .bool uo]) ∧ W = w' := fun W A n c h hn => by
    have := uint_any A n c xs W h (by omega); rw [huv, huo] at this; exact this
  have hR : ∀ W A n c, Rd W A n c xs → n ≤ 12 → Calls Try.prog 15 #[.slice A n c] W fun e w' => e = .returned (.tuple #[.int .u64 (uv : Nat), .bool uo]) ∧ Below W.heap.size W w' := fun W A n c h hn => by
    have := ruint_any A n c xs W h (by omega); rw [huv, huo] at this; exact this
  have hV : ∀ W A n c, Rd W A n c xs → n ≤ 12 → Calls Try.prog 16 #[.slice A n c] W fun e w' => e = .returned (.bool bv) ∧ W = w' := fun W A n c h hn => by
    have := valid_any A n c xs W h (by omega); rw [hbv] at this; exact this
  have hV2 : ∀ W A n c, Rd W A n c xs → n ≤ 12 → Calls Try.prog 17 #[.slice A n c] W fun e w' => e = .returned (.bool bv) ∧ W = w' := fun W A n c h hn => by
    have := rvalid_any A n c xs W h (by omega); rw [hbv] at this; exact this.mono fun _ _ ⟨a, b⟩ => ⟨a, b.symm⟩
  clear huv huo hbv
  replace hU := Lib.hid hU
  replace hR := Lib.hid hR
  replace hV := Lib.hid hV
  replace hV2 := Lib.hid hV2
  have hbb : (bv == bv) = true := by simp
  have huu : (uo == uo) = true := by simp
  go_enter Try.func3, Try.ntmps3
  go_wp2_with fail
  refine (hL1.out).mono ?_
  rintro e w' ⟨rfl, hw⟩
  have hw := hw.symm
  subst hw
  go_wp2_with fail
  refine (hL2.out).mono ?_
  rintro e w' ⟨rfl, hw⟩
  have hw := hw.symm
  subst hw
  clear hL1 hL2
  go_wp2_with fail
  refine (hU.out _ _ _ _ R_a.out l_a).mono ?_
  rintro e w' ⟨rfl, rfl⟩
  go_wp2_with fail
  refine (hR.out _ _ _ _ R_a.out l_a).mono ?_
  rintro e w1 ⟨rfl, bb⟩
  replace R_a := Lib.hid (R_a.out.below bb)
  replace R_b := Lib.hid (R_b.out.below bb)
  replace Bw := Lib.hid (Bw.out.trans (bb.mono Bw.out.size))
  clear bb
  go_wp2_with fail
  refine (awake_any _).mono ?_
  rintro e w2 ⟨rfl, bb⟩
  replace R_a := Lib.hid (R_a.out.below bb)
  replace R_b := Lib.hid (R_b.out.below bb)
  replace Bw := Lib.hid (Bw.out.trans (bb.mono Bw.out.size))
  clear bb
  go_wp2_with fail
  refine (hV.out _ _ _ _ R_a.out l_a).mono ?_
  rintro e w' ⟨rfl, rfl⟩
  go_wp2_with fail
  refine (hV2.out _ _ _ _ R_a.out l_a).mono ?_
  rintro e w' ⟨rfl, rfl⟩
  go_wp2_with fail
  refine (fromUint_any v _ hvb.out).mono ?_
  rintro e w3 ⟨A_p, n_p, c_p, rfl, R_p, bb⟩
  replace R_a := Lib.hid (R_a.out.below bb)
  replace R_b := Lib.hid (R_b.out.below bb)
  replace Bw := Lib.hid (Bw.out.trans (bb.mono Bw.out.size))
  clear bb
  replace R_p := Lib.hid R_p
  go_wp2_with fail
  refine (rfromUint_any v _ hvb.out).mono ?_
  rintro e w4 ⟨A_q, n_q, c_q, rfl, R_q, bb⟩
  replace R_a := Lib.hid (R_a.out.below bb)
  replace R_b := Lib.hid (R_b.out.below bb)
  replace R_p := Lib.hid (R_p.out.below bb)
  replace Bw := Lib.hid (Bw.out.trans (bb.mono Bw.out.size))
  clear bb
  replace R_q := Lib.hid R_q
  have l_p : n_p ≤ 2 := by rw [← R_p.out.len]; exact len_of_lt (by rw [two_pow_64]; exact hvb.out)
  go_wp2_with fail
  refine (same_b _ _ _ _ _ _ _ _ _ R_p.out R_q.out (by omega) (rfl)).mono ?_
  rintro e w5 ⟨rfl, bb⟩
  replace R_a := Lib.hid (R_a.out.below bb)
  replace R_b := Lib.hid (R_b.out.below bb)
  replace R_p := Lib.hid (R_p.out.below bb)
  replace R_q := Lib.hid (R_q.out.below bb)
  replace Bw := Lib.hid (Bw.out.trans (bb.mono Bw.out.size))
  clear bb
  clear R_p R_q l_p
  go_wp2_with fail
  refine (compare_raw _ _ _ _ _ _ _ _ _ R_a.out R_b.out (by omega) (by omega) q hq.out).mono ?_
  rintro e w6 ⟨rfl, bb⟩
  replace R_a := Lib.hid (R_a.out.below bb)
  replace R_b := Lib.hid (R_b.out.below bb)
  replace Bw := Lib.hid (Bw.out.trans (bb.mono Bw.out.size))
  clear bb
  go_wp2_with fail
  refine (rcompare_any _ _ _ _ _ _ _ _ _ R_a.out R_b.out (by omega) (by omega) q hq.out).mono ?_
  rintro e w7 ⟨rfl, bb⟩
  replace R_a := Lib.hid (R_a.out.below bb)
  replace R_b := Lib.hid (R_b.out.below bb)
  replace Bw := Lib.hid (Bw.out.trans (bb.mono Bw.out.size))
  clear bb
  go_wp2
  go_ret
  exact ⟨rfl, Bw.out⟩

end Go.Proofs.Ytpafgkggkgmamaa
