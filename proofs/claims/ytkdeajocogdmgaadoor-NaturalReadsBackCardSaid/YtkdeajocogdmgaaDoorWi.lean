/- Contracts of natural.Div where the divisor is 0, greater than the dividend, or of one limb. -/
import Derived.Test.YtkdeajocogdmgaaDoorWh
namespace Go.Proofs.YtkdeajocogdmgaaDoor
open Go.RowKit

/-- What a division leaves. -/
def RetDiv (x y : Nat) (w : World) (e : Ending) (w' : World) : Prop :=
  ∃ A n c A' n' c', e = .returned (.tuple #[.slice A n c, .slice A' n' c', .bool true]) ∧ Rd w' A n c (limbs (x / y)) ∧ Rd w' A' n' c' (limbs (x % y)) ∧ Below w.heap.size w w'

set_option maxHeartbeats 1000000 in
theorem div_zero (A : Option Addr) (n c : Nat) (xs : List Nat) (A' : Option Addr) (n' c' : Nat) (ys : List Nat) (w : World)
    (h1 : Rd w A n c xs) (h2 : Rd w A' n' c' ys) (hn : n ≤ 10000) (hn' : n' ≤ 10000) (h0 : num ys = 0) :
    Calls Tryd.prog 50 #[.slice A n c, .slice A' n' c'] w fun e w' => e = .returned (.tuple #[.slice none 0 0, .slice none 0 0, .bool false]) ∧ w = w' := by
  replace h1 := Lib.hid h1
  replace h2 := Lib.hid h2
  replace h0 := Lib.hid h0
  go_enter Tryd.func50, Tryd.ntmps50
  go_wp2_with fail
  refine (known_any _ _ _ xs _ h1.out (by omega)).mono ?_
  rintro e w' ⟨B1, n1, c1, rfl, rfl, R1, l1⟩
  replace R1 := Lib.hid R1
  go_wp2_with fail
  refine (known_any _ _ _ ys _ h2.out (by omega)).mono ?_
  rintro e w' ⟨B2, n2, c2, rfl, rfl, R2, l2⟩
  obtain rfl : n2 = 0 := by have := R2.len; rw [h0.out, limbs_zero] at this; exact this.symm
  clear R1 R2 h1 h2
  go_wp2
  go_ret3
  exact ⟨rfl, rfl⟩

theorem limbs_ne {y n : Nat} (h : (limbs y).length = n) (hy : 0 < y) : 1 ≤ n := by
  rw [limbs_pos hy] at h; simp at h; omega

set_option maxHeartbeats 1000000 in
theorem div_less (A : Option Addr) (n c : Nat) (xs : List Nat) (A' : Option Addr) (n' c' : Nat) (ys : List Nat) (w : World)
    (h1 : Rd w A n c xs) (h2 : Rd w A' n' c' ys) (hn : n ≤ 10000) (hn' : n' ≤ 10000) (hlt : num xs < num ys) :
    Calls Tryd.prog 50 #[.slice A n c, .slice A' n' c'] w (RetDiv (num xs) (num ys) w) := by
  replace h1 := Lib.hid h1
  replace h2 := Lib.hid h2
  replace hlt := Lib.hid hlt
  go_enter Tryd.func50, Tryd.ntmps50
  go_wp2_with fail
  refine (known_any _ _ _ xs _ h1.out (by omega)).mono ?_
  rintro e w' ⟨B1, n1, c1, rfl, rfl, R1, l1⟩
  replace R1 := Lib.hid R1
  go_wp2_with fail
  refine (known_any _ _ _ ys _ h2.out (by omega)).mono ?_
  rintro e w' ⟨B2, n2, c2, rfl, rfl, R2, l2⟩
  replace R2 := Lib.hid R2
  clear h1 h2
  have hn2 : 1 ≤ n2 := limbs_ne R2.out.len (by have := hlt.out; omega)
  have hg : ((n2 : Int) == 0) = false := by simp; omega
  go_wp2_with fail
  have hc := compare_any _ _ _ _ _ _ _ _ _ R1.out R2.out (by omega) (by omega)
  rw [num_limbs, num_limbs, cmpi_lt (by have := hlt.out; omega)] at hc
  refine hc.mono ?_
  clear hc
  rintro e w' ⟨rfl, m, rfl⟩
  go_wp2_with fail
  refine (clone_any _ _ _ _ _ (R1.out.drewN m) (by omega)).mono ?_
  rintro e w' ⟨B3, c3, rfl, R3, O3, b3⟩
  replace R3 := Lib.hid R3
  replace b3 : Hid (Below w.heap.size w w') := Lib.hid ((drewN_below w m).trans b3)
  clear O3
  go_wp2
  go_ret3
  exact ⟨_, _, _, _, _, _, rfl, by rw [Nat.div_eq_of_lt hlt.out, limbs_zero]; exact Rd.nil_ _ _ _, by rw [Nat.mod_eq_of_lt hlt.out]; exact R3.out, b3.out⟩

theorem limbs_one {y : Nat} (h : (limbs y).length = 1) : y < 4294967296 ∧ (limbs y).getD 0 0 = y := by
  have h1 := limbs_len_le.1 (show (limbs y).length ≤ 1 by omega)
  rw [Nat.pow_one] at h1
  refine ⟨h1, ?_⟩
  rcases Nat.eq_zero_or_pos y with h0 | h0
  · subst h0; rw [limbs_zero]; rfl
  · rw [limbs_pos h0]; show y % 4294967296 = y; omega

theorem divmod_of {x y q r : Nat} (h : q * y + r = x) (hr : r < y) : x / y = q ∧ x % y = r := by
  constructor
  · rw [← h, Nat.mul_comm, Nat.mul_add_div (by omega), Nat.div_eq_of_lt hr, Nat.add_zero]
  · rw [← h, Nat.mul_comm, Nat.mul_add_mod, Nat.mod_eq_of_lt hr]

set_option maxHeartbeats 1000000 in
theorem div_one (A : Option Addr) (n c : Nat) (xs : List Nat) (A' : Option Addr) (n' c' : Nat) (ys : List Nat) (w : World)
    (h1 : Rd w A n c xs) (h2 : Rd w A' n' c' ys) (hn : n ≤ 10000) (hn' : n' ≤ 10000) (hge : num ys ≤ num xs) (hlen : (limbs (num ys)).length = 1) :
    Calls Tryd.prog 50 #[.slice A n c, .slice A' n' c'] w (RetDiv (num xs) (num ys) w) := by
  have hy0 : 0 < num ys := by
    rcases Nat.eq_zero_or_pos (num ys) with h | h
    · rw [h, limbs_zero] at hlen; cases hlen
    · exact h
  replace h1 := Lib.hid h1
  replace h2 := Lib.hid h2
  replace hge := Lib.hid hge
  replace hlen := Lib.hid hlen
  replace hy0 := Lib.hid hy0
  go_enter Tryd.func50, Tryd.ntmps50
  go_wp2_with fail
  refine (known_any _ _ _ xs _ h1.out (by omega)).mono ?_
  rintro e w' ⟨B1, n1, c1, rfl, rfl, R1, l1⟩
  replace R1 := Lib.hid R1
  go_wp2_with fail
  refine (known_any _ _ _ ys _ h2.out (by omega)).mono ?_
  rintro e w' ⟨B2, n2, c2, rfl, rfl, R2, l2⟩
  obtain rfl : n2 = 1 := by rw [← R2.len, hlen.out]
  obtain ⟨bb, ob, yb, rfl, hbb, hyb, hye, hcy⟩ := R2.at_ (k := 0) (by omega)
  have hyy : yb = num ys := hye.symm.trans (limbs_one hlen.out).2
  replace hyy := Lib.hid hyy
  clear hye
  replace R2 := Lib.hid R2
  clear h1 h2
  go_wp2_with fail
  have hc := compare_any _ _ _ _ _ _ _ _ _ R1.out R2.out (by omega) (by omega)
  rw [num_limbs, num_limbs] at hc
  obtain ⟨q, hq, hq0⟩ : ∃ q, cmpi (num xs) (num ys) = q ∧ 0 ≤ q := ⟨_, rfl, by unfold cmpi; have := hge.out; split; omega; split <;> omega⟩
  rw [hq] at hc
  clear hq
  have hq1 : decide (q < 0) = false := by simp; omega
  refine hc.mono ?_
  clear hc
  rintro e w' ⟨rfl, m, rfl⟩
  go_wp2_with fail
  refine (clone_any _ _ _ _ _ (R1.out.drewN m) (by omega)).mono ?_
  rintro e w' ⟨B3, c3, rfl, R3, O3, b3⟩
  have hn1 : 1 ≤ n1 := limbs_ne R1.out.len (by have := hge.out; have := hy0.out; omega)
  obtain ⟨g, rfl, hg, O⟩ : ∃ g, B3 = some ⟨g, 0, none⟩ ∧ w.heap.size ≤ g ∧ Own w' g (limbs (num xs)) := by
    rcases O3 with h | h
    · omega
    · exact h
  clear O3
  have hcap := Lib.hid R3.cap
  clear R3
  replace b3 : Hid (Below w.heap.size w w') := Lib.hid ((drewN_below w m).trans b3)
  replace hcy : w'.cell? ⟨bb, ob, none⟩ = some (.int .u32 (yb : Int)) := (b3.out.cell (p := ⟨bb, ob, none⟩) hbb).trans hcy
  replace O := Lib.hid O
  go_wp2_with fail
  refine (divL_any g n1 _ yb _ _ O.out R1.out.len hyb (by rw [hyy.out]; exact hy0.out) (by omega)).mono ?_
  rintro e w2 ⟨r, zs', rfl, hr, O', hl', hv, hg'⟩
  have b4 : Hid (Below w.heap.size w w2) := Lib.hid (Below.grown b3.out hg' (by have := O.out.lt; omega) (by intro k hk; injection hk; omega))
  clear hg' hcy
  obtain ⟨hd1, hd2⟩ := divmod_of (hv.trans (val_limbs _)) hr
  rw [hyy.out] at hd1 hd2
  replace hd1 := Lib.hid hd1
  replace hd2 := Lib.hid hd2
  replace O' := Lib.hid O'
  replace hl' := Lib.hid hl'
  clear hv
  go_wp2_with fail
  refine (trim_any _ _ _ zs' _ (O'.out.rdn hl'.out hcap.out) (by omega)).mono ?_
  rintro e w3 ⟨n4, rfl, rfl, R4⟩
  replace R4 := Lib.hid R4
  go_wp2_with fail
  refine (fromUint_any r _ (by omega)).mono ?_
  rintro e w4 ⟨A5, n5, c5, rfl, R5, b5⟩
  replace R4 := Lib.hid (R4.out.below b5)
  replace R5 := Lib.hid R5
  replace b5 := Lib.hid b5
  go_wp2
  go_ret3
  exact ⟨_, _, _, _, _, _, rfl, by rw [hd1.out]; exact R4.out, by rw [hd2.out]; exact R5.out, b4.out.trans (b5.out.mono b4.out.size)⟩

end Go.Proofs.YtkdeajocogdmgaaDoor
