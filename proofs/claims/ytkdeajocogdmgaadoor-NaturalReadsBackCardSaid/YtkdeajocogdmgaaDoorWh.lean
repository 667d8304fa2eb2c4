/- Contracts of FromUint, powerOfTwo and shiftRight. -/
import Derived.Test.YtkdeajocogdmgaaDoorWg
import Derived.Test.YtkdeajocogdmgaaDoorSh
namespace Go.Proofs.YtkdeajocogdmgaaDoor
open Go.RowKit

theorem bitLen_zero : Lib.bitLen 0 = 0 := by decide +kernel

theorem bitLen_spec (x : Nat) (h : x < 18446744073709551616) : x < 2 ^ Lib.bitLen x ∧ (0 < x → 2 ^ Lib.bitLen x ≤ 2 * x) := by
  induction x using Nat.strongRecOn with
  | ind x ih =>
    by_cases h0 : x = 0
    · subst h0; rw [bitLen_zero]; simp
    · have e := Lib.bitLen_half x h0 (by omega)
      obtain ⟨i1, i2⟩ := ih (x / 2) (by omega) (by omega)
      rw [e, Nat.add_comm, Nat.pow_succ]
      refine ⟨by omega, fun _ => ?_⟩
      by_cases h1 : x / 2 = 0
      · rw [h1, bitLen_zero]; omega
      · have := i2 (by omega); omega

set_option maxHeartbeats 1000000 in
theorem fromUint_any (v : Nat) (w : World) (hv : v < 18446744073709551616) :
    Calls Tryd.prog 51 #[.int .u64 v] w (RetN v w) := by
  have O := Own.lit w [v % 4294967296, v / 4294967296] (by intro x hx; simp at hx; omega)
  have hval : val [v % 4294967296, v / 4294967296] = v := by simp [val]; omega
  have h1 : (v : Int) / 4294967296 < 4294967296 := by omega
  have h0 : (0 : Int) ≤ v := by omega
  replace hval := Lib.hid hval
  replace hv := Lib.hid hv
  replace O := Lib.hid O
  go_enter Tryd.func51, Tryd.ntmps51
  go_wp2_with fail
  have R := O.out.rd0 2 (by simp)
  simp only [List.map, u32, Int.natCast_emod, Int.natCast_ediv, List.length] at R
  refine (trim_any _ _ _ _ _ R (by omega)).mono ?_
  rintro e w' ⟨n', rfl, rfl, R2⟩
  replace R2 := Lib.hid R2
  go_wp2
  go_ret
  exact ⟨_, _, _, rfl, by have := R2.out; rw [hval.out] at this; exact this, (Below.refl _ _).alloc (Nat.le_refl _) _⟩

set_option maxHeartbeats 1000000 in
theorem powTwo_any (k : Nat) (w : World) (hk : k ≤ 100000) :
    Calls Tryd.prog 87 #[.int .i64 k] w (RetN (2 ^ k) w) := by
  have hmk : ∀ W : World, (Instr.makeSlice 22 (.int .i64 ((k : Int) / 32 + 1)) (.int .i64 ((k : Int) / 32 + 1))).run Tryd.prog W = .ok (.slice (some ⟨W.heap.size, 0, none⟩) (k / 32 + 1) (k / 32 + 1)) (W.alloc (.cells (madeCells #[.int .u32 0] (k / 32 + 1)) 53)) := fun W => by
    have := make_u32 (k / 32 + 1) (by omega) .i64 .i64 W
    rw [show ((k / 32 + 1 : Nat) : Int) = (k : Int) / 32 + 1 by omega] at this
    exact this
  have O := Own.new w (k / 32 + 1)
  have hcell := O.cell (k := k / 32) (by simp)
  have hfz := O.frozen (k / 32)
  have hp : 2 ^ (k % 32) < 4294967296 := Nat.lt_of_le_of_lt (Nat.pow_le_pow_right (by omega) (show k % 32 ≤ 31 by omega)) (by decide)
  have O2 := Own.newset w (k / 32 + 1) (k / 32) (2 ^ (k % 32)) hp
  rw [pow_list] at O2
  have hl : (limbs (2 ^ k)).length = k / 32 + 1 := by rw [← pow_list]; simp
  have hc : ((2 ^ (k % 32) : Nat) : Int) = 2 ^ (k % 32) % 4294967296 := by
    have e : ((2 ^ (k % 32) : Nat) : Int) = 2 ^ (k % 32) := by simp
    rw [← e]; exact (Int.emod_eq_of_lt (Int.natCast_nonneg _) (Int.ofNat_lt.2 hp)).symm
  rw [hc] at O2
  replace hl := Lib.hid hl
  replace O2 := Lib.hid O2
  clear O hc hp
  go_enter Tryd.func87, Tryd.ntmps87
  go_wp2
  go_ret
  exact ⟨_, _, _, rfl, O2.out.rdn hl.out (Nat.le_refl _), (Below.refl _ _).alloc (Nat.le_refl _) _⟩

set_option maxHeartbeats 1000000 in
theorem shiftRight_any (g n cs s : Nat) (zs : List Nat) (w : World) (hO : Own w g zs) (hl : zs.length = n) (hs : s < 32) (hn : n ≤ 100000) :
    Calls Tryd.prog 88 #[.slice (some ⟨g, 0, none⟩) n cs, .int .i64 s] w fun e w' => e = .returned (.tuple #[]) ∧ ∃ zs', Own w' g zs' ∧ zs'.length = n ∧ val zs' = val zs / 2 ^ s ∧ w.grownBy w' (some g) := by
  replace hO := Lib.hid hO
  replace hl := Lib.hid hl
  go_enter Tryd.func88, Tryd.ntmps88
  go_wp2
  go_loopw [4, 5] (fun lv iv wr => ∃ (i : Int) (k low : Nat) (zs' : List Nat), k ≤ n ∧ i + 1 = k ∧ iv = .int .i64 i ∧ lv = .int .u32 low ∧ low = zs.getD k 0 ∧ Own wr g zs' ∧ zs'.length = n ∧ zs'.take k = zs.take k ∧ val (zs'.drop k) = val (zs.drop k) / 2 ^ s ∧ w.grownBy wr (some g))
    (fun _ iv _ => (intOf iv + 1).toNat)
  case atStart => exact ⟨_, n, 0, zs, Nat.le_refl _, by omega, rfl, rfl, by rw [getD_none (by rw [hl.out]; omega)], hO.out, hl.out, rfl, by rw [List.drop_of_length_le (by rw [hl.out]; omega)]; simp [val], World.grownBy.refl _ _⟩
  case round =>
    obtain ⟨i, k, low, zs', hk, hik, rfl, rfl, hlow, hO', hl', ht, hv, hg⟩ := hrel
    replace hO' := Lib.hid hO'
    replace hl' := Lib.hid hl'
    replace ht := Lib.hid ht
    replace hv := Lib.hid hv
    replace hg := Lib.hid hg
    have hlb : low < 4294967296 := by rw [hlow]; exact sm_get hO.out.sm _
    replace hlow := Lib.hid hlow
    by_cases h0 : k = 0
    · subst h0
      obtain rfl : i = -1 := by omega
      clear hik
      go_wp2
      go_end0
      exact ⟨rfl, zs', hO'.out, hl'.out, by have := hv.out; simpa using this, hg.out⟩
    · obtain ⟨j, rfl⟩ : ∃ j, k = j + 1 := ⟨k - 1, by omega⟩
      obtain rfl : i = j := by omega
      clear hik h0
      obtain ⟨hx, ht1⟩ := take_step ht.out
      have hcell := hO'.out.cell (k := j) (by rw [hl'.out]; omega)
      obtain ⟨x, hxe⟩ : ∃ x, zs'.getD j 0 = x := ⟨_, rfl⟩
      have hxb : x < 4294967296 := by rw [← hxe]; exact sm_get hO'.out.sm _
      rw [hxe] at hcell
      have hx' := Lib.hid (hx.symm.trans hxe)
      clear hx hxe
      replace ht1 := Lib.hid ht1
      have hfz := hO'.out.frozen j
      have g1 : (0 : Int) ≤ (j : Int) := by omega
      have g2 : (j : Int) < (n : Int) := by omega
      have hor := or_limb low x hlb hxb
      obtain ⟨t, ht'⟩ : ∃ t, t = low * 4294967296 + x := ⟨_, rfl⟩
      rw [← ht'] at hor
      have htb : (t : Int) ≤ 18446744073709551615 := by omega
      have ht0 : (0 : Int) ≤ (t : Int) := by omega
      replace ht' := Lib.hid ht'
      go_wp2
      go_roundw
      case rel =>
        have O2 := hO'.out.set_ j (t / 2 ^ s % 4294967296) (by omega)
        have e : ((t / 2 ^ s % 4294967296 : Nat) : Int) = (t : Int) / 2 ^ s % 4294967296 := by simp
        rw [e] at O2
        exact ⟨_, j, x, _, by omega, by omega, rfl, rfl, hx'.out.symm, O2, by rw [List.length_set]; exact hl'.out, by rw [take_set_low _ _ (Nat.le_refl _)]; exact ht1.out, shr_step (by rw [hl'.out]; omega) (by rw [hl.out]; omega) hs hO.out.sm hv.out hlow.out hx'.out ht'.out, grown_set hg.out _ _⟩
      case measure => simp [intOf]

end Go.Proofs.YtkdeajocogdmgaaDoor
