/- Contracts of the reference's Root and Power and of natural.Power. -/
import Derived.Test.YtpafgkggkgmamaaWu
namespace Go.Proofs.Ytpafgkggkgmamaa
open Go.RowKit

theorem rdiv_two (A : Option Addr) (n c x : Nat) (A' : Option Addr) (w : World) (h1 : Rd w A n c (limbs x)) (h2 : Rd w A' 1 1 (limbs 2)) (hn : n ≤ 1000) :
    Calls Try.prog 30 #[.slice A n c, .slice A' 1 1] w (RetDiv x 2 w) := by
  have := rdiv_any A n c (limbs x) A' 1 1 (limbs 2) w h1 h2 hn (by omega) (by rw [num_limbs]; omega)
  rw [num_limbs, num_limbs] at this
  exact this

set_option maxHeartbeats 2000000 in
theorem rroot_any (A : Option Addr) (n c : Nat) (xs : List Nat) (w : World) (h1 : Rd w A n c xs) (hn : n ≤ 100) :
    Calls Try.prog 34 #[.slice A n c] w (RetN (isq (num xs)) w) := by
  replace h1 := Lib.hid h1
  go_enter Try.func34, Try.ntmps34
  go_wp2_with fail
  refine (take_any _ _ _ xs _ h1.out (by omega)).mono ?_
  rintro e w1 ⟨A1, n1, c1, rfl, R1, b1, l1⟩
  obtain ⟨x, hx⟩ : ∃ x, num xs = x := ⟨_, rfl⟩
  rw [hx] at R1
  replace hx := Lib.hid hx
  have hxl := lt_of_len R1.len
  replace R1 := Lib.hid R1
  replace b1 := Lib.hid b1
  replace hxl := Lib.hid hxl
  clear h1
  go_wp2_with fail
  refine (radd_any _ _ _ _ _ _ _ _ _ (R1.out.alloc _) (lit1 w1 _ 1 1 rfl rfl (by omega)) (by omega) (by omega)).mono ?_
  rintro e w2 ⟨A2, n2, c2, rfl, R2, b2⟩
  rw [num_limbs, show num [1] = 1 from rfl] at R2
  replace R1 := Lib.hid ((R1.out.alloc _).below b2)
  replace R2 := Lib.hid R2
  replace b1 : Hid (Below w.heap.size w w2) := Lib.hid ((b1.out.alloc b1.out.size _).trans (b2.mono (by have := b1.out.size; simp; omega)))
  clear b2
  go_wp2
  go_loopg [3, 4] (x + 1) (fun g lv hv wr => ∃ (L H : Nat) (A3 : Option Addr) (n3 c3 : Nat) (A4 : Option Addr) (n4 c4 : Nat), lv = .slice A3 n3 c3 ∧ hv = .slice A4 n4 c4 ∧ Rd wr A3 n3 c3 (limbs L) ∧ Rd wr A4 n4 c4 (limbs H) ∧
      L ≤ isq x ∧ isq x < H ∧ H ≤ x + 1 ∧ g = H - L ∧ Below w2.heap.size w2 wr)
  case atStart =>
    have hlt : isq x < x + 1 := by
      have h3 := (isq_spec x).1
      rcases Nat.eq_zero_or_pos (isq x) with h | h
      · omega
      · have := Nat.mul_le_mul_left (isq x) h; omega
    exact ⟨0, x + 1, none, 0, 0, _, _, _, rfl, rfl, by rw [limbs_zero]; exact Rd.nil_ _ _ _, R2.out, Nat.zero_le _, hlt, Nat.le_refl _, rfl, Below.refl _ _⟩
  case round =>
    obtain ⟨L, H, A3, n3, c3, A4, n4, c4, rfl, rfl, R3, R4, hL, hH, hHx, hgk, hB⟩ := hrel
    have hHb : H < 4294967296 ^ (n1 + 1) := by
      have := hxl.out
      rw [Nat.pow_succ]
      have := Nat.pow_pos (n := n1) (show 0 < 4294967296 by omega)
      omega
    have hn3 : n3 ≤ n1 + 1 := by rw [← R3.len]; exact len_of_lt (by omega)
    have hn4 : n4 ≤ n1 + 1 := by rw [← R4.len]; exact len_of_lt hHb
    obtain ⟨M, hM⟩ : ∃ M, (L + H) / 2 = M := ⟨_, rfl⟩
    have hMH : M < H ∨ M = L := by omega
    have hML : L ≤ M := by omega
    have hMb : M < 4294967296 ^ (n1 + 1) := by omega
    have hsum : L + H < 4294967296 ^ (n1 + 2) := by rw [show n1 + 2 = n1 + 1 + 1 from rfl, Nat.pow_succ]; omega
    replace R3 := Lib.hid R3
    replace R4 := Lib.hid R4
    replace hB := Lib.hid hB
    replace hL := Lib.hid hL
    replace hH := Lib.hid hH
    replace hHx := Lib.hid hHx
    replace hgk := Lib.hid hgk
    replace hM := Lib.hid hM
    replace hMH := Lib.hid hMH
    replace hML := Lib.hid hML
    replace hMb := Lib.hid hMb
    replace hsum := Lib.hid hsum
    clear hHb
    go_wp2_with fail
    refine (radd_any _ _ _ _ _ _ _ _ _ R3.out R4.out (by omega) (by omega)).mono ?_
    rintro e w3 ⟨A5, n5, c5, rfl, R5, b5⟩
    rw [num_limbs, num_limbs] at R5
    have hn5 : n5 ≤ n1 + 2 := by rw [← R5.len]; exact len_of_lt hsum.out
    replace R3 := Lib.hid (R3.out.below b5)
    replace R4 := Lib.hid (R4.out.below b5)
    have R1a := Lib.hid ((R1.out.below hB.out).below b5)
    replace R5 := Lib.hid R5
    replace hB := Lib.hid (hB.out.trans (b5.mono hB.out.size))
    clear b5
    go_wp2_with fail
    refine (rdiv_two _ _ _ _ _ _ (R5.out.alloc _) (lit_one w3 _ 2 2 rfl rfl (by omega) (by omega)) (by omega)).mono ?_
    rintro e w4 ⟨A6, n6, c6, A7, n7, c7, rfl, R6, _, b6⟩
    rw [hM.out] at R6
    have hn6 : n6 ≤ n1 + 1 := by rw [← R6.len]; exact len_of_lt hMb.out
    replace R3 := Lib.hid ((R3.out.alloc _).below b6)
    replace R4 := Lib.hid ((R4.out.alloc _).below b6)
    replace R1a := Lib.hid ((R1a.out.alloc _).below b6)
    replace R6 := Lib.hid R6
    replace hB : Hid (Below w2.heap.size w2 w4) := Lib.hid ((hB.out.alloc hB.out.size _).trans (b6.mono (by have := hB.out.size; simp; omega)))
    clear b6 R5
    by_cases hst : M = L
    · have hfin : isq x = L := by have := hgk.out; have := hM.out; have := hL.out; have := hH.out; omega
      replace hfin := Lib.hid hfin
      go_wp2_with fail
      refine (rcmp_b _ _ _ _ _ _ _ _ _ R6.out R3.out (by omega) (by omega) 0 (cmpi_eq (by rw [hst]))).mono ?_
      rintro e w5 ⟨rfl, b7⟩
      replace R3 := Lib.hid (R3.out.below b7)
      replace hB := Lib.hid (b1.out.trans ((hB.out.trans (b7.mono hB.out.size)).mono b1.out.size))
      clear b7 hst
      go_wp2
      go_ret
      exact ⟨_, _, _, rfl, by rw [hx.out, hfin.out]; exact R3.out, hB.out⟩
    · have hMg : L < M := by have := hML.out; omega
      go_wp2_with fail
      refine (rcmp_b _ _ _ _ _ _ _ _ _ R6.out R3.out (by omega) (by omega) 1 (cmpi_gt (by omega))).mono ?_
      rintro e w5 ⟨rfl, b7⟩
      replace R3 := Lib.hid (R3.out.below b7)
      replace R4 := Lib.hid (R4.out.below b7)
      replace R6 := Lib.hid (R6.out.below b7)
      replace R1a := Lib.hid (R1a.out.below b7)
      replace hB := Lib.hid (hB.out.trans (b7.mono hB.out.size))
      clear b7
      go_wp2_with fail
      refine (rmul_any _ _ _ _ _ _ _ _ _ R6.out R6.out (by omega) (by omega)).mono ?_
      rintro e w6 ⟨A8, n8, c8, rfl, R8, b8⟩
      rw [num_limbs] at R8
      have hn8 : n8 ≤ (n1 + 1) + (n1 + 1) := by
        rw [← R8.len]; apply len_of_lt; rw [Nat.pow_add]
        exact Nat.mul_lt_mul_of_lt_of_le hMb.out (by have := hMb.out; omega) (Nat.pow_pos (by omega))
      replace R3 := Lib.hid (R3.out.below b8)
      replace R4 := Lib.hid (R4.out.below b8)
      replace R6 := Lib.hid (R6.out.below b8)
      replace R1a := Lib.hid (R1a.out.below b8)
      replace R8 := Lib.hid R8
      replace hB := Lib.hid (hB.out.trans (b8.mono hB.out.size))
      clear b8
      by_cases hle : M * M ≤ x
      · obtain ⟨q, hq, hq0⟩ : ∃ q, cmpi (M * M : Nat) x = q ∧ q ≤ 0 := ⟨_, rfl, by unfold cmpi; split; omega; rw [if_neg (by omega)]; omega⟩
        have hMi : M ≤ isq x := by
          rcases Nat.lt_or_ge (isq x) M with h | h
          · have h2 := (isq_spec x).2
            have := sq_mono (show isq x + 1 ≤ M by omega)
            omega
          · exact h
        replace hMi := Lib.hid hMi
        replace hq := Lib.hid hq
        have hml : H - M < gk := by have := hgk.out; have := hH.out; have := hL.out; omega
        replace hml := Lib.hid hml
        go_wp2_with fail
        refine (rcmp_b _ _ _ _ _ _ _ _ _ R8.out R1a.out (by omega) (by omega) q hq.out).mono ?_
        rintro e w7 ⟨rfl, b9⟩
        replace R4 := Lib.hid (R4.out.below b9)
        replace R6 := Lib.hid (R6.out.below b9)
        replace hB := Lib.hid (hB.out.trans (b9.mono hB.out.size))
        clear b9
        go_wp2
        go_roundg (H - M)
        case measure => exact hml.out
        case rel => exact ⟨M, H, _, _, _, _, _, _, rfl, rfl, R6.out, R4.out, hMi.out, hH.out, hHx.out, rfl, hB.out⟩
      · have hMi : isq x < M := by
          rcases Nat.lt_or_ge (isq x) M with h | h
          · exact h
          · have h2 := (isq_spec x).1
            have := sq_mono h
            omega
        replace hMi := Lib.hid hMi
        have hml : M - L < gk := by have := hgk.out; have := hMH.out; omega
        replace hml := Lib.hid hml
        have hMx : M ≤ x + 1 := by have := hMH.out; have := hHx.out; omega
        replace hMx := Lib.hid hMx
        go_wp2_with fail
        refine (rcmp_b _ _ _ _ _ _ _ _ _ R8.out R1a.out (by omega) (by omega) 1 (cmpi_gt (by omega))).mono ?_
        rintro e w7 ⟨rfl, b9⟩
        replace R3 := Lib.hid (R3.out.below b9)
        replace R6 := Lib.hid (R6.out.below b9)
        replace hB := Lib.hid (hB.out.trans (b9.mono hB.out.size))
        clear b9
        go_wp2
        go_roundg (M - L)
        case measure => exact hml.out
        case rel => exact ⟨L, M, _, _, _, _, _, _, rfl, rfl, R3.out, R6.out, hL.out, hMi.out, hMx.out, rfl, hB.out⟩

/-- What Power gives. -/
def powV (x : Nat) (k : Int) : Nat := if 0 ≤ k ∧ k ≤ 64 then x ^ k.toNat else 0

theorem pow_bd {x n k : Nat} (hx : x < 4294967296 ^ n) (hk : 0 < n) : x ^ k < 4294967296 ^ (n * k + 1) := by
  have h1 : x ^ k ≤ (4294967296 ^ n) ^ k := Nat.pow_le_pow_left (Nat.le_of_lt hx) k
  rw [← Nat.pow_mul] at h1
  exact Nat.lt_of_le_of_lt h1 (Nat.pow_lt_pow_right (by omega) (by omega))

set_option maxHeartbeats 2000000 in
theorem rpower_any (A : Option Addr) (n c : Nat) (xs : List Nat) (k : Int) (w : World) (h1 : Rd w A n c xs) (hn : n ≤ 6) :
    Calls Try.prog 36 #[.slice A n c, .int .i64 k] w (RetN (powV (num xs) k) w) := by
  have hxl : num xs < 4294967296 ^ 6 := by
    have := num_lt h1.sm
    rw [h1.len] at this
    exact Nat.lt_of_lt_of_le this (Nat.pow_le_pow_right (by omega) hn)
  obtain ⟨x, hx⟩ : ∃ x, num xs = x := ⟨_, rfl⟩
  rw [hx] at hxl ⊢
  replace hx := Lib.hid hx
  replace h1 := Lib.hid h1
  replace hxl := Lib.hid hxl
  by_cases hk0 : k < 0
  · have e : powV x k = 0 := if_neg (by omega)
    rw [e]
    clear e
    go_enter Try.func36, Try.ntmps36
    go_wp2
    go_ret
    exact ⟨none, 0, 0, rfl, by rw [limbs_zero]; exact Rd.nil_ _ _ _, Below.refl _ _⟩
  by_cases hk64 : 64 < k
  · have e : powV x k = 0 := if_neg (by omega)
    rw [e]
    clear e
    go_enter Try.func36, Try.ntmps36
    go_wp2
    go_ret
    exact ⟨none, 0, 0, rfl, by rw [limbs_zero]; exact Rd.nil_ _ _ _, Below.refl _ _⟩
  have e : powV x k = x ^ k.toNat := if_pos (by omega)
  rw [e]
  obtain ⟨m, rfl⟩ := Int.eq_ofNat_of_zero_le (by omega : 0 ≤ k)
  rw [Int.toNat_natCast]
  have hm : m ≤ 64 := by omega
  clear e hk0 hk64
  go_enter Try.func36, Try.ntmps36
  go_wp2
  go_loopw [5, 6] (fun ov iv wr => ∃ (i : Nat) (A3 : Option Addr) (n3 c3 : Nat), i ≤ m ∧ iv = .int .i64 i ∧ ov = .slice A3 n3 c3 ∧ Rd wr A3 n3 c3 (limbs (x ^ i)) ∧ Below w.heap.size w wr)
    (fun _ iv _ => m - (intOf iv).toNat)
  case atStart => exact ⟨0, _, _, _, Nat.zero_le _, rfl, rfl, by rw [Nat.pow_zero]; exact lit_one w w.heap.size 1 1 rfl rfl (by omega) (by omega), (Below.refl _ _).alloc (Nat.le_refl _) _⟩
  case round =>
    obtain ⟨i, A3, n3, c3, hi, rfl, rfl, R3, hB⟩ := hrel
    have hn3 : n3 ≤ 6 * i + 1 := by rw [← R3.len]; exact len_of_lt (pow_bd hxl.out (by omega))
    replace R3 := Lib.hid R3
    replace hB := Lib.hid hB
    by_cases hlt : i < m
    · have R1a := Lib.hid (h1.out.below hB.out)
      go_wp2_with fail
      refine (rmul_any _ _ _ _ _ _ _ _ _ R3.out R1a.out (by omega) (by omega)).mono ?_
      rintro e w3 ⟨A4, n4, c4, rfl, R4, b4⟩
      rw [num_limbs, hx.out, ← Nat.pow_succ] at R4
      replace R4 := Lib.hid R4
      replace hB := Lib.hid (hB.out.trans (b4.mono hB.out.size))
      clear b4 R3 R1a
      go_wp2
      go_roundw
      case rel => exact ⟨i + 1, _, _, _, by omega, by go_num, rfl, R4.out, hB.out⟩
      case measure => simp [intOf]; omega
    · obtain rfl : i = m := by omega
      go_wp2
      go_ret
      exact ⟨_, _, _, rfl, R3.out, hB.out⟩

end Go.Proofs.Ytpafgkggkgmamaa
