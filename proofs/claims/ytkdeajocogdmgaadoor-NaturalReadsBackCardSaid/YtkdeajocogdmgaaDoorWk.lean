/- The law's sanity check returns true. -/
import Derived.Test.YtkdeajocogdmgaaDoorWj
namespace Go.Proofs.YtkdeajocogdmgaaDoor
open Go.RowKit

theorem divsBy_small (x : Nat) : DivsBy x 4294967295 := by
  intro r W A n c A' n' c' h1 h2 hn hn' hr hb
  rcases Nat.lt_or_ge x r with h | h
  · have := div_less A n c (limbs x) A' n' c' (limbs r) W h1 h2 (by omega) (by omega) (by rw [num_limbs, num_limbs]; exact h)
    rw [num_limbs, num_limbs] at this
    exact this
  · have := div_one A n c (limbs x) A' n' c' (limbs r) W h1 h2 (by omega) (by omega) (by rw [num_limbs, num_limbs]; exact h) (by
      rw [num_limbs]
      have h1 := len_of_lt (x := r) (n := 1) (by rw [Nat.pow_one]; omega)
      have h2 := limbs_ne (y := r) rfl hr
      omega)
    rw [num_limbs, num_limbs] at this
    exact this

theorem limbs_small {x : Nat} (h0 : 0 < x) (h : x < 4294967296) : limbs x = [x] := by
  rw [limbs_pos h0, show x / 4294967296 = 0 by omega, limbs_zero, show x % 4294967296 = x by omega]

theorem isq_99 : isq 99 = 9 := isq_unique (by omega) (by omega)

/-- A literal of one limb. -/
theorem lit_one (w : World) (g x : Nat) (z : Int) (hg : g = w.heap.size) (hz : z = x) (h0 : 0 < x) (h : x < 4294967296) : Rd (w.alloc (.cells #[.int .u32 z] 53)) (some ⟨g, 0, none⟩) 1 1 (limbs x) := by
  subst hg
  subst hz
  have := (Own.lit w [x] (by intro y hy; simp at hy; omega)).rd0 1 (by simp)
  rw [limbs_small h0 h]
  exact this

theorem limbs_2_32 : limbs 4294967296 = [0, 1] := by
  rw [limbs_pos (by omega)]
  show 0 :: limbs 1 = [0, 1]
  rw [limbs_small (by omega) (by omega)]

theorem lit_two (w : World) (g : Nat) (hg : g = w.heap.size) : Rd (w.alloc (.cells #[.int .u32 0, .int .u32 1] 53)) (some ⟨g, 0, none⟩) 2 2 (limbs 4294967296) := by
  subst hg
  have := (Own.lit w [0, 1] (by intro y hy; simp at hy; omega)).rd0 2 (by simp)
  rw [limbs_2_32]
  exact this

theorem len_one {x n : Nat} (h : (limbs x).length = n) (hx : x < 4294967296) : n ≤ 1 := by
  have := len_of_lt (x := x) (n := 1) (by rw [Nat.pow_one]; exact hx)
  omega

set_option maxHeartbeats 2000000 in
theorem awake_any (w : World) : Calls Tryd.prog 13 #[] w fun e w' => e = .returned (.bool true) ∧ Below w.heap.size w w' := by
  go_enter Tryd.func13, Tryd.ntmps13
  go_wp2_with fail
  refine (divsBy_small 7 2 _ _ _ _ _ _ _ ((lit_one w w.heap.size 7 7 rfl rfl (by omega) (by omega)).alloc _) (lit_one _ (w.heap.size + 1) 2 2 (by simp) rfl (by omega) (by omega)) (by omega) (by omega) (by omega) (by omega)).mono ?_
  rintro e w1 ⟨A1, n1, c1, A2, n2, c2, rfl, Q, R, b1⟩
  replace b1 : Hid (Below w.heap.size w w1) := Lib.hid ((((Below.refl _ _).alloc (Nat.le_refl _) _).alloc (by simp) _).trans (b1.mono (by simp; omega)))
  replace Q := Lib.hid Q
  replace R := Lib.hid R
  go_wp2_with fail
  refine (fromUint_any 4294967296 w1 (by omega)).mono ?_
  rintro e w2 ⟨A3, n3, c3, rfl, R3, b3⟩
  replace Q := Lib.hid (Q.out.below b3)
  replace R := Lib.hid (R.out.below b3)
  replace b1 := Lib.hid (b1.out.trans (b3.mono b1.out.size))
  replace R3 := Lib.hid R3
  clear b3
  go_wp2_with fail
  refine (same_true _ _ _ _ _ _ (limbs 4294967296) _ (R3.out.alloc _) (lit_two w2 _ rfl) (by have := R3.out.len; rw [limbs_2_32] at this; simp at this; omega)).mono ?_
  rintro e w3 ⟨rfl, m3, rfl⟩
  replace Q := Lib.hid ((Q.out.alloc (.cells #[.int .u32 0, .int .u32 1] 53)).drewN m3)
  replace R := Lib.hid ((R.out.alloc (.cells #[.int .u32 0, .int .u32 1] 53)).drewN m3)
  replace b1 : Hid (Below w.heap.size w ((w2.alloc (.cells #[.int .u32 0, .int .u32 1] 53)).drewN m3)) := Lib.hid (below_drewN (b1.out.alloc b1.out.size _) m3)
  clear R3
  generalize (w2.alloc (.cells #[.int .u32 0, .int .u32 1] 53)).drewN m3 = w4 at Q R b1 ⊢
  go_wp2_with fail
  have hr := root_any (some ⟨w4.heap.size, 0, none⟩) 1 1 (limbs 99) (w4.alloc (.cells #[.int .u32 99] 53)) 4294967295 (lit_one w4 _ 99 99 rfl rfl (by omega) (by omega)) (by omega) (by rw [num_limbs]; exact divsBy_small 99) (by
    rw [num_limbs, limbs_small (by omega) (by omega)]
    intro m l hm hl
    obtain rfl : m = 0 := by simpa using hm.symm
    obtain rfl : l = 99 := by simpa using hl.symm
    have := Lib.bitLen_le 99 7 (by omega) (by omega)
    exact Nat.le_trans (Nat.pow_le_pow_right (by omega) (show (32 * 0 + Lib.bitLen 99 + 1) / 2 ≤ 4 by omega)) (by omega))
  rw [num_limbs, isq_99] at hr
  refine hr.mono ?_
  clear hr
  rintro e w5 ⟨A5, n5, c5, rfl, R5, b5⟩
  replace Q := Lib.hid ((Q.out.alloc (.cells #[.int .u32 99] 53)).below b5)
  replace R := Lib.hid ((R.out.alloc (.cells #[.int .u32 99] 53)).below b5)
  replace b1 : Hid (Below w.heap.size w w5) := Lib.hid ((b1.out.alloc b1.out.size (.cells #[.int .u32 99] 53)).trans (b5.mono (by have := b1.out.size; simp; omega)))
  replace R5 := Lib.hid R5
  clear b5
  go_wp2_with fail
  refine (same_true _ _ _ _ _ _ (limbs 9) _ (R5.out.alloc _) (lit_one w5 _ 9 9 rfl rfl (by omega) (by omega)) (by have := len_one R5.out.len (by omega); omega)).mono ?_
  rintro e w6 ⟨rfl, m6, rfl⟩
  replace Q := Lib.hid ((Q.out.alloc (.cells #[.int .u32 9] 53)).drewN m6)
  replace R := Lib.hid ((R.out.alloc (.cells #[.int .u32 9] 53)).drewN m6)
  replace b1 : Hid (Below w.heap.size w ((w5.alloc (.cells #[.int .u32 9] 53)).drewN m6)) := Lib.hid (below_drewN (b1.out.alloc b1.out.size _) m6)
  clear R5
  generalize (w5.alloc (.cells #[.int .u32 9] 53)).drewN m6 = w7 at Q R b1 ⊢
  go_wp2_with fail
  refine (same_true _ _ _ _ _ _ (limbs 3) _ (Q.out.alloc _) (lit_one w7 _ 3 3 rfl rfl (by omega) (by omega)) (by have := len_one Q.out.len (by omega); omega)).mono ?_
  rintro e w8 ⟨rfl, m8, rfl⟩
  replace R := Lib.hid ((R.out.alloc (.cells #[.int .u32 3] 53)).drewN m8)
  replace b1 : Hid (Below w.heap.size w ((w7.alloc (.cells #[.int .u32 3] 53)).drewN m8)) := Lib.hid (below_drewN (b1.out.alloc b1.out.size _) m8)
  clear Q
  generalize (w7.alloc (.cells #[.int .u32 3] 53)).drewN m8 = w9 at R b1 ⊢
  go_wp2_with fail
  refine (same_true _ _ _ _ _ _ (limbs 1) _ (R.out.alloc _) (lit_one w9 _ 1 1 rfl rfl (by omega) (by omega)) (by have := len_one R.out.len (by omega); omega)).mono ?_
  rintro e w10 ⟨rfl, m10, rfl⟩
  have b2 := Lib.hid (below_drewN (b1.out.alloc b1.out.size (.cells #[.int .u32 1] 53)) m10)
  go_wp2
  go_ret
  exact ⟨rfl, b2.out⟩

end Go.Proofs.YtkdeajocogdmgaaDoor
