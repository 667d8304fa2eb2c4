/- The contract of natural.Compare. -/
import Derived.Test.YtkdeajocogdmgaaDoorWa
namespace Go.Proofs.YtkdeajocogdmgaaDoor
open Go.RowKit

/-- The answer of a comparison. -/
def cmpi (a b : Int) : Int := if a < b then -1 else if b < a then 1 else 0
theorem cmpi_lt {a b : Int} (h : a < b) : cmpi a b = -1 := by unfold cmpi; rw [if_pos h]
theorem cmpi_gt {a b : Int} (h : b < a) : cmpi a b = 1 := by unfold cmpi; rw [if_neg (by omega), if_pos h]
theorem cmpi_eq {a b : Int} (h : a = b) : cmpi a b = 0 := by unfold cmpi; rw [if_neg (by omega), if_neg (by omega)]

theorem nan_int (a : Int) (w : World) : Calls Tryd.prog 95 #[.int .i64 a] w fun e w' => e = .returned (.bool false) ∧ w' = w := by
  go_enter Tryd.func95, Tryd.ntmps95
  go_wp2
  go_ret
  simp
theorem nan_u32 (a : Int) (w : World) : Calls Tryd.prog 112 #[.int .u32 a] w fun e w' => e = .returned (.bool false) ∧ w' = w := by
  go_enter Tryd.func112, Tryd.ntmps112
  go_wp2
  go_ret
  simp

theorem cmp_int (a b : Int) (w : World) : Calls Tryd.prog 75 #[.int .i64 a, .int .i64 b] w fun e w' => e = .returned (.int .i64 (cmpi a b)) ∧ w' = w := by
  have h1 := Lib.hid (@cmpi_lt a b)
  have h2 := Lib.hid (@cmpi_gt a b)
  have h3 := Lib.hid (@cmpi_eq a b)
  by_cases hlt : a < b
  · go_enter Tryd.func75, Tryd.ntmps75
    go_wp2_with (go_at_call 95; refine (nan_int _ _).mono ?_; rintro e w' ⟨rfl, rfl⟩)
    go_ret
    rw [h1.out hlt]; exact ⟨rfl, rfl⟩
  · by_cases hgt : b < a
    · go_enter Tryd.func75, Tryd.ntmps75
      go_wp2_with (go_at_call 95; refine (nan_int _ _).mono ?_; rintro e w' ⟨rfl, rfl⟩)
      go_ret
      rw [h2.out hgt]; exact ⟨rfl, rfl⟩
    · go_enter Tryd.func75, Tryd.ntmps75
      go_wp2_with (go_at_call 95; refine (nan_int _ _).mono ?_; rintro e w' ⟨rfl, rfl⟩)
      go_ret
      rw [h3.out (by omega)]; exact ⟨rfl, rfl⟩

theorem cmp_u32 (a b : Int) (w : World) : Calls Tryd.prog 96 #[.int .u32 a, .int .u32 b] w fun e w' => e = .returned (.int .i64 (cmpi a b)) ∧ w' = w := by
  have h1 := Lib.hid (@cmpi_lt a b)
  have h2 := Lib.hid (@cmpi_gt a b)
  have h3 := Lib.hid (@cmpi_eq a b)
  by_cases hlt : a < b
  · go_enter Tryd.func96, Tryd.ntmps96
    go_wp2_with (go_at_call 112; refine (nan_u32 _ _).mono ?_; rintro e w' ⟨rfl, rfl⟩)
    go_ret
    rw [h1.out hlt]; exact ⟨rfl, rfl⟩
  · by_cases hgt : b < a
    · go_enter Tryd.func96, Tryd.ntmps96
      go_wp2_with (go_at_call 112; refine (nan_u32 _ _).mono ?_; rintro e w' ⟨rfl, rfl⟩)
      go_ret
      rw [h2.out hgt]; exact ⟨rfl, rfl⟩
    · go_enter Tryd.func96, Tryd.ntmps96
      go_wp2_with (go_at_call 112; refine (nan_u32 _ _).mono ?_; rintro e w' ⟨rfl, rfl⟩)
      go_ret
      rw [h3.out (by omega)]; exact ⟨rfl, rfl⟩

theorem quiet_add_same {P : Program} {f : FuncId} {args : Array Value} {w : World} {a n : Nat} {v : Value}
    (h : Calls P f args (w.drewN (a + n)) fun e w' => e = .returned v ∧ w' = w.drewN (a + n)) :
    Calls P f args (w.drewN (a + n)) fun e w'' => e = .returned v ∧ ∃ m, w'' = w.drewN (a + m) :=
  h.mono fun _ _ ⟨he, hm⟩ => ⟨he, n, hm⟩

theorem cmp_at {x y j x1 y1 : Nat} (hX : j < (limbs x).length) (hY : j < (limbs y).length) (h : (limbs x).drop (j + 1) = (limbs y).drop (j + 1))
    (hx : (limbs x).getD j 0 = x1) (hy : (limbs y).getD j 0 = y1) (hne : ¬ x1 = y1) (s1 : Sm (limbs x)) (s2 : Sm (limbs y)) : cmpi x y = cmpi x1 y1 := by
  rcases Nat.lt_or_gt_of_ne hne with hlt | hgt
  · have := lt_at hX hY h s1 (by omega)
    rw [val_limbs, val_limbs] at this
    rw [cmpi_lt (by omega), cmpi_lt (by omega)]
  · have := lt_at hY hX h.symm s2 (by omega)
    rw [val_limbs, val_limbs] at this
    rw [cmpi_gt (by omega), cmpi_gt (by omega)]

theorem cmp_len {x y n1 n2 : Nat} (hX : (limbs x).length = n1) (hY : (limbs y).length = n2) (hne : ¬ n1 = n2) : cmpi x y = cmpi n1 n2 := by
  rcases Nat.lt_or_gt_of_ne hne with hlt | hgt
  · have := lt_len (x := x) (y := y) (by omega)
    rw [cmpi_lt (by omega), cmpi_lt (by omega)]
  · have := lt_len (x := y) (y := x) (by omega)
    rw [cmpi_gt (by omega), cmpi_gt (by omega)]

theorem drewN_below (w : World) (n : Nat) : Below w.heap.size w (w.drewN n) := ⟨rfl, rfl, rfl, Nat.le_refl _, fun _ _ => rfl⟩

set_option maxHeartbeats 1000000 in
theorem compare_any (A : Option Addr) (n c : Nat) (xs : List Nat) (A' : Option Addr) (n' c' : Nat) (ys : List Nat) (w : World)
    (h1 : Rd w A n c xs) (h2 : Rd w A' n' c' ys) (hn : n ≤ 10000) (hn' : n' ≤ 10000) :
    Calls Tryd.prog 76 #[.slice A n c, .slice A' n' c'] w fun e w' => e = .returned (.int .i64 (cmpi (num xs) (num ys))) ∧ ∃ m, w' = w.drewN m := by
  replace h1 := Lib.hid h1
  replace h2 := Lib.hid h2
  go_enter Tryd.func76, Tryd.ntmps76
  go_wp2_with fail
  refine (known_any _ _ _ xs _ h1.out (by omega)).mono ?_
  rintro e w' ⟨B1, n1, c1, rfl, rfl, R1, l1⟩
  replace R1 := Lib.hid R1
  go_wp2_with fail
  refine (known_any _ _ _ ys _ h2.out (by omega)).mono ?_
  rintro e w' ⟨B2, n2, c2, rfl, rfl, R2, l2⟩
  replace R2 := Lib.hid R2
  clear h1 h2
  by_cases hne : n1 = n2
  · subst hne
    go_wp2
    go_loopw [5] (fun iv wr => ∃ (i : Int) (k m : Nat), k ≤ n1 ∧ i + 1 = k ∧ iv = .int .i64 i ∧ wr = w.drewN m ∧ (limbs (num xs)).drop k = (limbs (num ys)).drop k) (fun iv _ => (intOf iv + 1).toNat)
    case atStart => exact ⟨_, n1, 0, Nat.le_refl _, by omega, rfl, rfl, by rw [List.drop_of_length_le (by rw [R1.out.len]; omega), List.drop_of_length_le (by rw [R2.out.len]; omega)]⟩
    case round =>
      obtain ⟨i, k, m, hk, hik, rfl, rfl, hd⟩ := hrel
      replace hd := Lib.hid hd
      by_cases h0 : k = 0
      · subst h0
        have hxy : num xs = num ys := limbs_inj (by simpa using hd.out)
        have hcmp := Lib.hid (cmpi_eq (a := num xs) (b := num ys) (by omega))
        obtain rfl : i = -1 := by omega
        clear hik hd hxy
        go_wp2
        go_ret
        rw [hcmp.out]; exact ⟨rfl, _, rfl⟩
      · obtain ⟨j, rfl⟩ : ∃ j, k = j + 1 := ⟨k - 1, by omega⟩
        obtain rfl : i = j := by omega
        obtain ⟨b1, o1, x1, rfl, hb1, hx1, hxe, hcx⟩ := R1.out.at_ (k := j) (by omega)
        obtain ⟨b2, o2, y1, rfl, hb2, hy1, hye, hcy⟩ := R2.out.at_ (k := j) (by omega)
        replace hxe := Lib.hid hxe
        replace hye := Lib.hid hye
        clear hik h0
        have g1 : (0 : Int) ≤ (j : Int) := by omega
        have g2 : (j : Int) < (n1 : Int) := by omega
        by_cases hxy : x1 = y1
        · have ht : ((x1 : Int) != (y1 : Int)) = false := by rw [hxy]; simp
          have hd2 := Lib.hid (drop_same (by rw [R1.out.len]; omega) (by rw [R2.out.len]; omega) hd.out (hxe.out.trans (hxy.trans hye.out.symm)))
          clear hxy
          go_wp2
          go_quiet (fail)
          go_wp2
          go_roundw
          case rel => exact ⟨_, j, _, by omega, by omega, rfl, rfl, hd2.out⟩
          case measure => simp [intOf]
        · have ht : ((x1 : Int) != (y1 : Int)) = true := by simp; omega
          have hcm : cmpi (num xs) (num ys) = cmpi x1 y1 := cmp_at (by rw [R1.out.len]; omega) (by rw [R2.out.len]; omega) hd.out hxe.out hye.out hxy (sm_limbs _) (sm_limbs _)
          replace hcm := Lib.hid hcm
          clear hxy
          go_wp2
          go_quiet (fail)
          go_wp2
          go_quiet ((go_at_call 96; exact quiet_add_same (cmp_u32 _ _ _)))
          go_wp2
          go_ret
          rw [hcm.out]; exact ⟨rfl, _, by rw [World.drewN_drewN, World.drewN_drewN]⟩
  · have hc : cmpi (num xs) (num ys) = cmpi n1 n2 := cmp_len R1.out.len R2.out.len hne
    have ht : ((n1 : Int) != (n2 : Int)) = true := by simp; omega
    replace hc := Lib.hid hc
    clear hne
    go_wp2_with (go_at_call 75; refine (cmp_int _ _ _).mono ?_; rintro e w' ⟨rfl, rfl⟩)
    go_ret
    rw [hc.out]; exact ⟨rfl, 0, rfl⟩

end Go.Proofs.YtkdeajocogdmgaaDoor
