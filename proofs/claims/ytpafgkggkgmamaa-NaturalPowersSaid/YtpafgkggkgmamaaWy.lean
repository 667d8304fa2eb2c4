/- The contract of natural.Power. -/
import Derived.Test.YtpafgkggkgmamaaWx
namespace Go.Proofs.Ytpafgkggkgmamaa
open Go.RowKit

theorem i64_and_one (m : Nat) (hm : m < 9223372036854775808) : bits .and .i64 (m : Int) 1 = ((m % 2 : Nat) : Int) := by
  have hx : m &&& 1 < 2 ^ 63 := Nat.and_lt_two_pow _ (by omega)
  have e : (BitVec.ofInt 64 (m : Int)).toNat = m := by rw [BitVec.ofInt_natCast, BitVec.toNat_ofNat]; exact Nat.mod_eq_of_lt (by omega)
  show IntKind.i64.wrap ((BitVec.ofInt 64 (m : Int) &&& BitVec.ofInt 64 1).toNat : Int) = _
  have e1 : (BitVec.ofInt 64 (1 : Int)).toNat = 1 := by decide
  rw [BitVec.toNat_and, e, e1, IntKind.wrap_i64, Nat.and_one_is_mod]
  omega

theorem mul_len {x y p q : Nat} (hx : x < 4294967296 ^ p) (hy : y < 4294967296 ^ q) : (limbs (x * y)).length ≤ p + q := by
  apply len_of_lt; rw [Nat.pow_add]
  exact Nat.mul_lt_mul_of_lt_of_le hx (Nat.le_of_lt hy) (Nat.pow_pos (by omega))

theorem pow_half (x k j : Nat) : x ^ (k / 2 ^ j) = x ^ (k / 2 ^ (j + 1)) * x ^ (k / 2 ^ (j + 1)) * x ^ (k / 2 ^ j % 2) := by
  rw [← Nat.pow_add, ← Nat.pow_add]
  congr 1
  have := half_step (x := k) (k := j)
  omega

theorem len_any (m : Nat) (mi : Int) (w : World) (hm : m ≤ 64) (hmi : mi = m) : Calls Try.prog 58 #[.int .u64 mi] w fun e w' => e = .returned (.int .i64 (Lib.bitLen m : Nat)) ∧ w = w' := by
  subst hmi
  have := Try.bits_Len m w (by omega) (by omega)
  rw [Int.toNat_natCast] at this
  exact this.mono fun _ _ ⟨a, b⟩ => ⟨a, b.symm⟩

set_option maxRecDepth 100000 in
set_option maxHeartbeats 2000000 in
theorem power_any (A : Option Addr) (n c : Nat) (xs : List Nat) (k : Int) (w : World) (h1 : Rd w A n c xs) (hn : n ≤ 6) :
    Calls Try.prog 35 #[.slice A n c, .int .i64 k] w (RetN (powV (num xs) k) w) := by
  have hxl : num xs < 4294967296 ^ 6 := by
    have := num_lt h1.sm
    rw [h1.len] at this
    exact Nat.lt_of_lt_of_le this (Nat.pow_le_pow_right (by omega) hn)
  obtain ⟨x, hx⟩ : ∃ x, num xs = x := ⟨_, rfl⟩
  rw [hx] at hxl ⊢
  replace hx := Lib.hid hx
  replace h1 := Lib.hid h1
  replace hxl := Lib.hid hxl
  by_cases hk0 : k < 0
  · have e : powV x k = 0 := if_neg (by omega)
    rw [e]
    clear e
    go_enter Try.func35, Try.ntmps35
    go_wp2
    go_ret
    exact ⟨none, 0, 0, rfl, by rw [limbs_zero]; exact Rd.nil_ _ _ _, Below.refl _ _⟩
  by_cases hk64 : 64 < k
  · have e : powV x k = 0 := if_neg (by omega)
    rw [e]
    clear e
    go_enter Try.func35, Try.ntmps35
    go_wp2
    go_ret
    exact ⟨none, 0, 0, rfl, by rw [limbs_zero]; exact Rd.nil_ _ _ _, Below.refl _ _⟩
  have e : powV x k = x ^ k.toNat := if_pos (by omega)
  rw [e]
  obtain ⟨m, rfl⟩ := Int.eq_ofNat_of_zero_le (by omega : 0 ≤ k)
  rw [Int.toNat_natCast]
  have hm : m ≤ 64 := by omega
  clear e hk0 hk64
  have hbl := (bitLen_spec m (by omega)).1
  have hbl7 := Lib.bitLen_le m 7 (by omega) (by omega)
  obtain ⟨L, hL⟩ : ∃ L, Lib.bitLen m = L := ⟨_, rfl⟩
  have hlen := fun W mi h => len_any m mi W hm h
  rw [hL] at hbl hbl7
  simp only [hL] at hlen
  replace hlen := Lib.hid hlen
  replace hbl := Lib.hid hbl
  clear hL
  go_enter Try.func35, Try.ntmps35
  go_wp2_with fail
  refine (hlen.out _ _ ?_).mono ?_
  · first | rfl | (simp only [IntKind.wrap_u64]; omega)
  rintro e w' ⟨rfl, rfl⟩
  go_wp2
  go_loopw [5, 6] (fun ov iv wr => ∃ (i : Int) (j : Nat) (A3 : Option Addr) (n3 c3 : Nat), j ≤ L ∧ i + 1 = j ∧ iv = .int .i64 i ∧ ov = .slice A3 n3 c3 ∧ Rd wr A3 n3 c3 (limbs (x ^ (m / 2 ^ j))) ∧ Below w.heap.size w wr)
    (fun _ iv _ => (intOf iv + 1).toNat)
  case atStart => exact ⟨_, L, _, _, _, Nat.le_refl _, by omega, rfl, rfl, by rw [Nat.div_eq_of_lt hbl.out, Nat.pow_zero]; exact lit_one w w.heap.size 1 1 rfl rfl (by omega) (by omega), (Below.refl _ _).alloc (Nat.le_refl _) _⟩
  case round =>
    obtain ⟨i, j, A3, n3, c3, hj, hij, rfl, rfl, R3, hB⟩ := hrel
    by_cases h0 : j = 0
    · subst h0
      obtain rfl : i = -1 := by omega
      rw [Nat.pow_zero, Nat.div_one] at R3
      replace R3 := Lib.hid R3
      replace hB := Lib.hid hB
      clear hij
      go_wp2
      go_ret
      exact ⟨_, _, _, rfl, R3.out, hB.out⟩
    · obtain ⟨u, rfl⟩ : ∃ u, j = u + 1 := ⟨j - 1, by omega⟩
      obtain rfl : i = u := by omega
      clear hij h0
      have hd : m / 2 ^ (u + 1) ≤ 64 := Nat.le_trans (Nat.div_le_self _ _) hm
      have hn3 : n3 ≤ 6 * 64 + 1 := by
        rw [← R3.len]
        refine Nat.le_trans (len_of_lt (pow_bd hxl.out (by omega))) ?_
        have := Nat.mul_le_mul_left 6 hd
        omega
      have hhalf := pow_half x m u
      obtain ⟨b, hb⟩ : ∃ b, m / 2 ^ u % 2 = b := ⟨_, rfl⟩
      have hb2 : b < 2 := by rw [← hb]; exact Nat.mod_lt _ (by omega)
      have hsh : (m : Int) / 2 ^ u = ((m / 2 ^ u : Nat) : Int) := by simp
      have hand := i64_and_one (m / 2 ^ u) (by have := Nat.div_le_self m (2 ^ u); omega)
      rw [hb] at hand hhalf
      obtain ⟨v, hv⟩ : ∃ v, m / 2 ^ u = v := ⟨_, rfl⟩
      rw [hv] at hsh hand hhalf
      replace hv := Lib.hid hv
      replace hhalf := Lib.hid hhalf
      replace R3 := Lib.hid R3
      replace hB := Lib.hid hB
      clear hb hd
      have g1 : (0 : Int) ≤ (u : Int) := by omega
      go_wp2_with fail
      refine (mul_any _ _ _ _ _ _ _ _ _ R3.out R3.out (by omega) (by omega)).mono ?_
      rintro e w3 ⟨A4, n4, c4, rfl, R4, b4⟩
      rw [num_limbs] at R4
      have R1a := Lib.hid ((h1.out.below hB.out).below b4)
      replace R4 := Lib.hid R4
      replace hB := Lib.hid (hB.out.trans (b4.mono hB.out.size))
      clear b4
      have hd2 : m / 2 ^ (u + 1) ≤ 64 := Nat.le_trans (Nat.div_le_self _ _) hm
      have hn4 : n4 ≤ 770 := by
        rw [← R4.out.len]
        refine Nat.le_trans (mul_len (pow_bd hxl.out (by omega)) (pow_bd hxl.out (by omega))) ?_
        have := Nat.mul_le_mul_left 6 hd2
        omega
      clear hd2
      by_cases hb0 : b = 0
      · subst hb0
        have e := hhalf.out
        rw [Nat.pow_zero, Nat.mul_one, ← hv.out] at e
        replace e := Lib.hid e
        clear R1a R3
        go_wp2
        go_roundw
        case rel => exact ⟨_, u, _, _, _, by omega, by omega, rfl, rfl, by rw [e.out]; exact R4.out, hB.out⟩
        case measure => simp [intOf]
      · obtain rfl : b = 1 := by omega
        have e := hhalf.out
        rw [Nat.pow_one, ← hv.out] at e
        replace e := Lib.hid e
        clear hb0 R3
        go_wp2_with fail
        refine (mul_any _ _ _ _ _ _ _ _ _ R4.out R1a.out (by omega) (by omega)).mono ?_
        rintro e2 w4 ⟨A5, n5, c5, rfl, R5, b5⟩
        rw [num_limbs, hx.out] at R5
        replace R5 := Lib.hid R5
        replace hB := Lib.hid (hB.out.trans (b5.mono hB.out.size))
        clear b5 R4 R1a
        go_wp2
        go_roundw
        case rel => exact ⟨_, u, _, _, _, by omega, by omega, rfl, rfl, by rw [e.out]; exact R5.out, hB.out⟩
        case measure => simp [intOf]

end Go.Proofs.Ytpafgkggkgmamaa
