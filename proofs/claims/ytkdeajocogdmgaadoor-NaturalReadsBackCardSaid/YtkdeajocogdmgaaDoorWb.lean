/- The contract of natural.Add. -/
import Derived.Test.YtkdeajocogdmgaaDoorWa
namespace Go.Proofs.YtkdeajocogdmgaaDoor
open Go.RowKit

set_option maxHeartbeats 1000000 in
theorem add_own (A : Option Addr) (n c : Nat) (xs : List Nat) (A' : Option Addr) (n' c' : Nat) (ys : List Nat) (w : World)
    (h1 : Rd w A n c xs) (h2 : Rd w A' n' c' ys) (hn : n ≤ 10000) (hn' : n' ≤ 10000) :
    Calls Tryd.prog 77 #[.slice A n c, .slice A' n' c'] w (RetO (num xs + num ys) w) := by
  replace h1 := Lib.hid h1
  replace h2 := Lib.hid h2
  go_enter Tryd.func77, Tryd.ntmps77
  go_wp2_with fail
  refine (known_any _ _ _ xs _ h1.out (by omega)).mono ?_
  rintro e w' ⟨B1, n1, c1, rfl, rfl, R1, l1⟩
  replace R1 := Lib.hid R1
  go_wp2_with fail
  refine (known_any _ _ _ ys _ h2.out (by omega)).mono ?_
  rintro e w' ⟨B2, n2, c2, rfl, rfl, R2, l2⟩
  replace R2 := Lib.hid R2
  go_upto_if 16 with fail
  go_cut [0, 1] (fun a b w' => ∃ A1 n1 c1 A2 n2 c2 x y, a = .slice A1 n1 c1 ∧ b = .slice A2 n2 c2 ∧ Rd w A1 n1 c1 (limbs x) ∧ Rd w A2 n2 c2 (limbs y) ∧ n2 ≤ n1 ∧ n1 ≤ 10000 ∧ x + y = num xs + num ys ∧ w = w')
  case first =>
    by_cases hlt : n1 < n2
    · go_wp2
      go_meet
      case rel => exact ⟨_, _, _, _, _, _, _, _, rfl, rfl, R2.out, R1.out, by omega, by omega, Nat.add_comm _ _, rfl⟩
    · go_wp2
      go_meet
      case rel => exact ⟨_, _, _, _, _, _, _, _, rfl, rfl, R1.out, R2.out, by omega, by omega, rfl, rfl⟩
  case rest =>
    clear R1 R2 l1 l2
    obtain ⟨A1, n1, c1, A2, n2, c2, x, y, rfl, rfl, R1, R2, hle, hb1, hxy, rfl⟩ := hcut
    replace R1 := Lib.hid R1
    replace R2 := Lib.hid R2
    replace hxy := Lib.hid hxy
    have hmk : ∀ W : World, (Instr.makeSlice 22 (.int .i64 ((n1 : Int) + 1)) (.int .i64 ((n1 : Int) + 1))).run Tryd.prog W = .ok (.slice (some ⟨W.heap.size, 0, none⟩) (n1 + 1) (n1 + 1)) (W.alloc (.cells (madeCells #[.int .u32 0] (n1 + 1)) 53)) := fun W => make_u32 (n1 + 1) (by omega) .i64 .i64 W
    go_wp2
    go_loopw [6, 25] (fun cv iv wr => ∃ (k cy : Nat) (zs : List Nat), k ≤ n1 ∧ iv = .int .i64 k ∧ cv = .int .u64 cy ∧ cy ≤ 1 ∧ zs.length = n1 + 1 ∧ Own wr w.heap.size zs ∧ Below w.heap.size w wr ∧ val (zs.take k) + 4294967296 ^ k * cy = val ((limbs x).take k) + val ((limbs y).take k))
      (fun _ iv _ => n1 - (intOf iv).toNat)
    case atStart => exact ⟨0, 0, List.replicate (n1 + 1) 0, Nat.zero_le _, rfl, rfl, by omega, by simp, Own.new _ _, (Below.refl _ _).alloc (Nat.le_refl _) _, by simp [val]⟩
    case round =>
      clear hmk
      obtain ⟨k, cy, zs, hk, rfl, rfl, hcy, hzl, hO, hB, hval⟩ := hrel
      replace hval := Lib.hid hval
      replace hzl := Lib.hid hzl
      replace hO := Lib.hid hO
      replace hB := Lib.hid hB
      by_cases hlt : k < n1
      · obtain ⟨b1, o1, x1, rfl, hb1, hx1, hxe, hcx⟩ := (R1.out.below hB.out).at_ hlt
        replace hxe := Lib.hid hxe
        have hcell := hO.out.cell (k := k) (by rw [hzl.out]; omega)
        have hfz := hO.out.frozen k
        by_cases hlt2 : k < n2
        · obtain ⟨b2, o2, y1, rfl, hb2, hy1, hye, hcy2⟩ := (R2.out.below hB.out).at_ hlt2
          replace hye := Lib.hid hye
          go_wp2
          go_roundw
          case rel =>
            have O := hO.out.set_ k ((cy + x1 + y1) % 4294967296) (by omega)
            rw [show (((cy + x1 + y1) % 4294967296 : Nat) : Int) = ((cy : Int) + x1 + y1) % 4294967296 by omega] at O
            exact ⟨k + 1, (cy + x1 + y1) / 4294967296, _, by omega, by go_num, by go_num, by omega, by rw [List.length_set]; exact hzl.out, O, hB.out.setCell (Nat.le_refl _) _, add_step (by rw [hzl.out]; omega) hval.out hxe.out hye.out⟩
          case measure => simp [intOf]; omega
        · have hye := Lib.hid (getD_none (X := limbs y) (k := k) (by rw [R2.out.len]; omega))
          go_wp2
          go_roundw
          case rel =>
            have O := hO.out.set_ k ((cy + x1 + 0) % 4294967296) (by omega)
            rw [show (((cy + x1 + 0) % 4294967296 : Nat) : Int) = ((cy : Int) + x1) % 4294967296 by omega] at O
            exact ⟨k + 1, (cy + x1 + 0) / 4294967296, _, by omega, by go_num, by go_num, by omega, by rw [List.length_set]; exact hzl.out, O, hB.out.setCell (Nat.le_refl _) _, add_step (by rw [hzl.out]; omega) hval.out hxe.out hye.out⟩
          case measure => simp [intOf]; omega
      · obtain rfl : k = n1 := by omega
        have hcell := hO.out.cell (k := k) (by rw [hzl.out]; omega)
        have hfz := hO.out.frozen k
        go_wp2_with fail
        have O := hO.out.set_ k cy (by omega)
        have hv := Lib.hid (add_last hzl.out hval.out (by rw [R1.out.len]; omega) (by rw [R2.out.len]; omega))
        refine (trim_any _ _ _ (zs.set k cy) _ (O.rdn (by rw [List.length_set]; exact hzl.out) (Nat.le_refl _)) (by omega)).mono ?_
        rintro e w' ⟨n', rfl, rfl, R⟩
        replace R := Lib.hid R
        replace O := Lib.hid O
        clear hcell hfz
        go_wp2
        go_ret
        have hv2 : val (zs.set k cy) = num xs + num ys := by rw [hv.out, val_limbs, val_limbs, hxy.out]
        have ht := trim_take O.out.sm
        have O2 := O.out.pre (limbs (val (zs.set k cy))).length
        rw [← ht, hv2] at O2
        have hl := R.out.len
        rw [hv2] at hl
        exact ⟨_, _, _, rfl, Nat.le_refl _, O2, hl, R.out.cap, hB.out.setCell (Nat.le_refl _) _⟩

theorem add_any (A : Option Addr) (n c : Nat) (xs : List Nat) (A' : Option Addr) (n' c' : Nat) (ys : List Nat) (w : World)
    (h1 : Rd w A n c xs) (h2 : Rd w A' n' c' ys) (hn : n ≤ 10000) (hn' : n' ≤ 10000) :
    Calls Tryd.prog 77 #[.slice A n c, .slice A' n' c'] w (RetN (num xs + num ys) w) :=
  (add_own A n c xs A' n' c' ys w h1 h2 hn hn').mono fun _ _ h => h.n

end Go.Proofs.YtkdeajocogdmgaaDoor
