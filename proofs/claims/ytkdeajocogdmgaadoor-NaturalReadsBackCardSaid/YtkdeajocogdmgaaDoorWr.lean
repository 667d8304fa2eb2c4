/- Contracts of natural.Uint and of the reference's Uint. -/
import Derived.Test.YtkdeajocogdmgaaDoorWq
namespace Go.Proofs.YtkdeajocogdmgaaDoor
open Go.RowKit

/-- What Uint gives of a number. -/
def uval (x : Nat) : Nat := if x < 18446744073709551616 then x else 0
def uok (x : Nat) : Bool := decide (x < 18446744073709551616)

theorem two_pow_64 : 4294967296 ^ 2 = 18446744073709551616 := rfl

theorem u_big {x n : Nat} (h : (limbs x).length = n) (hn : 2 < n) : uval x = 0 ∧ uok x = false := by
  have h1 : ¬ x < 18446744073709551616 := by
    intro hx
    have := len_of_lt (x := x) (n := 2) (by rw [two_pow_64]; exact hx)
    omega
  exact ⟨if_neg h1, decide_eq_false h1⟩

theorem u_small {x n : Nat} (h : (limbs x).length = n) (hn : n ≤ 2) : uval x = x ∧ uok x = true := by
  have h1 : x < 18446744073709551616 := by
    have := limbs_len_le (n := x) (k := 2).1 (by omega)
    rw [two_pow_64] at this
    exact this
  exact ⟨if_pos h1, decide_eq_true h1⟩

theorem or_high (a x : Nat) (ha : a < 4294967296) (hx : x < 4294967296) : bits .or .u64 (a : Int) ((x : Int) * 4294967296) = ((a + x * 4294967296 : Nat) : Int) := by
  rw [show (x : Int) * 4294967296 = ((x * 4294967296 : Nat) : Int) by simp]
  rw [u64_or_nat a (x * 4294967296) (by omega) (by omega)]
  congr 1
  have := Nat.two_pow_add_eq_or_of_lt (i := 32) (b := a) (by omega) x
  rw [show (2:Nat) ^ 32 = 4294967296 from rfl, Nat.mul_comm] at this
  rw [Nat.or_comm, ← this, Nat.add_comm]

theorem or_zero (x : Nat) (hx : x < 4294967296) : bits .or .u64 0 (x : Int) = (x : Int) := by
  have := u64_or_nat 0 x (by omega) (by omega)
  rw [Nat.zero_or] at this
  exact this

set_option maxHeartbeats 2000000 in
theorem uint_any (A : Option Addr) (n c : Nat) (xs : List Nat) (w : World) (h1 : Rd w A n c xs) (hn : n ≤ 10000) :
    Calls Tryd.prog 68 #[.slice A n c] w fun e w' => e = .returned (.tuple #[.int .u64 (uval (num xs) : Nat), .bool (uok (num xs))]) ∧ w = w' := by
  replace h1 := Lib.hid h1
  go_enter Tryd.func68, Tryd.ntmps68
  go_wp2_with fail
  refine (known_any _ _ _ xs _ h1.out (by omega)).mono ?_
  rintro e w' ⟨B1, n1, c1, rfl, rfl, R1, l1⟩
  replace R1 := Lib.hid R1
  clear h1
  by_cases hb : 2 < n1
  · obtain ⟨e1, e2⟩ := u_big R1.out.len hb
    have hbi : (2 : Int) < (n1 : Int) := by omega
    replace e1 := Lib.hid e1
    replace e2 := Lib.hid e2
    go_wp2
    go_ret2
    rw [e1.out, e2.out]; exact ⟨rfl, rfl⟩
  · obtain ⟨e1, e2⟩ := u_small R1.out.len (by omega)
    replace e1 := Lib.hid e1
    replace e2 := Lib.hid e2
    have hbi : (n1 : Int) ≤ 2 := by omega
    go_wp2
    go_loop [2, 13] (fun v i => ∃ k : Nat, k ≤ n1 ∧ i = .int .i64 k ∧ v = .int .u64 (val ((limbs (num xs)).take k) : Nat)) (fun _ i => n1 - (intOf i).toNat)
    case atStart => exact ⟨0, Nat.zero_le _, rfl, rfl⟩
    case round =>
      obtain ⟨k, hk, rfl, rfl⟩ := hrel
      by_cases hlt : k < n1
      · obtain ⟨b1, o1, x1, rfl, hb1, hx1, hxe, hcx⟩ := R1.out.at_ hlt
        have hst := val_take_succ_any (limbs (num xs)) k
        rw [hxe] at hst
        replace hst := Lib.hid hst
        clear hxe
        have hk01 : k = 0 ∨ k = 1 := by omega
        rcases hk01 with rfl | rfl
        · have hz : val ((limbs (num xs)).take 0) = 0 := by simp [val]
          have hor := or_zero x1 hx1
          have hs1 : val ((limbs (num xs)).take 1) = x1 := by have := hst.out; rw [hz] at this; simpa using this
          rw [hz]
          rw [Nat.add_zero] at hcx
          replace hs1 := Lib.hid hs1
          clear hz
          go_wp2
          go_round
          case rel => exact ⟨1, by omega, rfl, by rw [hs1.out]⟩
          case measure => simp [intOf]; omega
        · have hv1 : val ((limbs (num xs)).take 1) < 4294967296 := by
            have := val_lt (sm_take (sm_limbs (num xs)) 1)
            have h2 : ((limbs (num xs)).take 1).length ≤ 1 := by rw [List.length_take]; omega
            have h3 : 4294967296 ^ ((limbs (num xs)).take 1).length ≤ 4294967296 ^ 1 := Nat.pow_le_pow_right (by omega) h2
            omega
          obtain ⟨v1, hv1e⟩ : ∃ v1, val ((limbs (num xs)).take 1) = v1 := ⟨_, rfl⟩
          have hor := or_high v1 x1 (by omega) hx1
          rw [hv1e]
          have hs2 : val ((limbs (num xs)).take 2) = v1 + x1 * 4294967296 := by have := hst.out; rw [hv1e, Nat.pow_one, Nat.mul_comm] at this; exact this
          replace hs2 := Lib.hid hs2
          clear hv1e
          go_wp2
          go_round
          case rel => exact ⟨2, by omega, rfl, by rw [hs2.out]; simp⟩
          case measure => simp [intOf]; omega
      · obtain rfl : k = n1 := by omega
        have e : val ((limbs (num xs)).take k) = num xs := by rw [List.take_of_length_le (by rw [R1.out.len]; omega), val_limbs]
        replace e := Lib.hid e
        go_wp2
        go_ret2
        rw [e1.out, e2.out, e.out]; exact ⟨rfl, rfl⟩

set_option maxHeartbeats 2000000 in
theorem ruint_any (A : Option Addr) (n c : Nat) (xs : List Nat) (w : World) (h1 : Rd w A n c xs) (hn : n ≤ 10000) :
    Calls Tryd.prog 70 #[.slice A n c] w fun e w' => e = .returned (.tuple #[.int .u64 (uval (num xs) : Nat), .bool (uok (num xs))]) ∧ Below w.heap.size w w' := by
  replace h1 := Lib.hid h1
  go_enter Tryd.func70, Tryd.ntmps70
  go_wp2_with fail
  refine (take_any _ _ _ xs _ h1.out (by omega)).mono ?_
  rintro e w1 ⟨B1, n1, c1, rfl, R1, b1, l1⟩
  replace R1 := Lib.hid R1
  replace b1 := Lib.hid b1
  clear h1
  by_cases hb : 2 < n1
  · obtain ⟨e1, e2⟩ := u_big R1.out.len hb
    have hbi : (2 : Int) < (n1 : Int) := by omega
    replace e1 := Lib.hid e1
    replace e2 := Lib.hid e2
    go_wp2
    go_ret2
    rw [e1.out, e2.out]; exact ⟨rfl, b1.out⟩
  · obtain ⟨e1, e2⟩ := u_small R1.out.len (by omega)
    replace e1 := Lib.hid e1
    replace e2 := Lib.hid e2
    have hbi : (n1 : Int) ≤ 2 := by omega
    go_wp2
    go_loop [4, 5] (fun v iv => ∃ (i : Int) (k : Nat), k ≤ n1 ∧ i + 1 = k ∧ iv = .int .i64 i ∧ v = .int .u64 (val ((limbs (num xs)).drop k) : Nat)) (fun _ iv => (intOf iv + 1).toNat)
    case atStart => exact ⟨_, n1, Nat.le_refl _, by omega, rfl, by rw [List.drop_of_length_le (by rw [R1.out.len]; omega)]; rfl⟩
    case round =>
      obtain ⟨i, k, hk, hik, rfl, rfl⟩ := hrel
      by_cases h0 : k = 0
      · subst h0
        obtain rfl : i = -1 := by omega
        clear hik
        go_wp2
        go_ret2
        rw [e1.out, e2.out, val_limbs]; exact ⟨rfl, b1.out⟩
      · obtain ⟨j, rfl⟩ : ∃ j, k = j + 1 := ⟨k - 1, by omega⟩
        obtain rfl : i = j := by omega
        obtain ⟨bb, o1, x1, rfl, hb1, hx1, hxe, hcx⟩ := R1.out.at_ (k := j) (by omega)
        have hst := drop_get (X := limbs (num xs)) (j := j) (by rw [R1.out.len]; omega)
        have hst2 : val ((limbs (num xs)).drop j) = val ((limbs (num xs)).drop (j + 1)) * 4294967296 + x1 := by rw [hst, val, hxe]; omega
        have hvb : val ((limbs (num xs)).drop (j + 1)) < 4294967296 := by
          have h2 := val_lt (sm_drop (sm_limbs (num xs)) (j + 1))
          have h3 : ((limbs (num xs)).drop (j + 1)).length ≤ 1 := by rw [List.length_drop, R1.out.len]; omega
          have h4 : 4294967296 ^ ((limbs (num xs)).drop (j + 1)).length ≤ 4294967296 ^ 1 := Nat.pow_le_pow_right (by omega) h3
          omega
        obtain ⟨v1, hv1e⟩ : ∃ v1, val ((limbs (num xs)).drop (j + 1)) = v1 := ⟨_, rfl⟩
        rw [hv1e] at hst2 hvb ⊢
        have hor := or_limb v1 x1 hvb hx1
        have g1 : (0 : Int) ≤ (j : Int) := by omega
        have g2 : (j : Int) < (n1 : Int) := by omega
        replace hst2 := Lib.hid hst2
        clear hst hxe hv1e hik h0
        go_wp2
        go_round
        case rel => exact ⟨_, j, by omega, by omega, rfl, by rw [hst2.out]; simp⟩
        case measure => simp [intOf]

end Go.Proofs.YtkdeajocogdmgaaDoor
