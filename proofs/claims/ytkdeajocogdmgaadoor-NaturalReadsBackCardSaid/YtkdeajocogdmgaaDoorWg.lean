/- The contract of divideByLimb. -/
import Derived.Test.YtkdeajocogdmgaaDoorWf
namespace Go.Proofs.YtkdeajocogdmgaaDoor
open Go.RowKit

/-- A row was divided in place. -/
def RetDivL (g n b : Nat) (zs : List Nat) (w : World) (e : Ending) (w' : World) : Prop :=
  ∃ (r : Nat) (zs' : List Nat), e = .returned (.int .u32 r) ∧ r < b ∧ Own w' g zs' ∧ zs'.length = n ∧ val zs' * b + r = val zs ∧ w.grownBy w' (some g)

set_option maxHeartbeats 1000000 in
theorem divL_any (g n cs b : Nat) (zs : List Nat) (w : World) (hO : Own w g zs) (hl : zs.length = n) (hb : b < 4294967296) (hb0 : 0 < b) (hn : n ≤ 100000) :
    Calls Tryd.prog 60 #[.slice (some ⟨g, 0, none⟩) n cs, .int .u32 b] w (RetDivL g n b zs w) := by
  replace hO := Lib.hid hO
  replace hl := Lib.hid hl
  go_enter Tryd.func60, Tryd.ntmps60
  go_wp2
  go_loopw [5, 6] (fun rv iv wr => ∃ (i : Int) (k rest : Nat) (zs' : List Nat), k ≤ n ∧ i + 1 = k ∧ iv = .int .i64 i ∧ rv = .int .u64 rest ∧ rest < b ∧ Own wr g zs' ∧ zs'.length = n ∧ zs'.take k = zs.take k ∧ val (zs'.drop k) * b + rest = val (zs.drop k) ∧ w.grownBy wr (some g))
    (fun _ iv _ => (intOf iv + 1).toNat)
  case atStart => exact ⟨_, n, 0, zs, Nat.le_refl _, by omega, rfl, rfl, hb0, hO.out, hl.out, rfl, by rw [List.drop_of_length_le (by rw [hl.out]; omega)]; simp [val], World.grownBy.refl _ _⟩
  case round =>
    obtain ⟨i, k, rest, zs', hk, hik, rfl, rfl, hr, hO', hl', ht, hv, hg⟩ := hrel
    replace hO' := Lib.hid hO'
    replace hl' := Lib.hid hl'
    replace ht := Lib.hid ht
    replace hv := Lib.hid hv
    replace hg := Lib.hid hg
    by_cases h0 : k = 0
    · subst h0
      obtain rfl : i = -1 := by omega
      clear hik
      go_wp2
      go_ret
      exact ⟨rest, zs', rfl, hr, hO'.out, hl'.out, by have := hv.out; simpa using this, hg.out⟩
    · obtain ⟨j, rfl⟩ : ∃ j, k = j + 1 := ⟨k - 1, by omega⟩
      obtain rfl : i = j := by omega
      clear hik h0
      obtain ⟨hx, ht1⟩ := take_step ht.out
      have hcell := hO'.out.cell (k := j) (by rw [hl'.out]; omega)
      obtain ⟨x, hxe⟩ : ∃ x, zs'.getD j 0 = x := ⟨_, rfl⟩
      have hxb : x < 4294967296 := by rw [← hxe]; exact sm_get hO'.out.sm _
      rw [hxe] at hcell
      have hx' := Lib.hid (hx.symm.trans hxe)
      clear hx hxe
      replace ht1 := Lib.hid ht1
      have hfz := hO'.out.frozen j
      have g1 : (0 : Int) ≤ (j : Int) := by omega
      have g2 : (j : Int) < (n : Int) := by omega
      have hor := or_limb rest x (by omega) hxb
      obtain ⟨t, ht'⟩ : ∃ t, t = rest * 4294967296 + x := ⟨_, rfl⟩
      rw [← ht'] at hor
      have htb : (t : Int) ≤ 18446744073709551615 := by omega
      have ht0 : (0 : Int) ≤ (t : Int) := by omega
      have hb1 : (1 : Int) ≤ (b : Int) := by omega
      have hq := quo_bd hr hxb ht'
      have hqi : (t : Int) / (b : Int) < 4294967296 := by rw [← Int.natCast_ediv]; exact Int.ofNat_lt.2 hq
      have hqi0 : 0 ≤ (t : Int) / (b : Int) := by rw [← Int.natCast_ediv]; exact Int.natCast_nonneg _
      have hri : (t : Int) % (b : Int) < 4294967296 := by rw [← Int.natCast_emod]; exact Int.ofNat_lt.2 (Nat.lt_trans (Nat.mod_lt t hb0) hb)
      replace hq := Lib.hid hq
      replace ht' := Lib.hid ht'
      go_wp2
      go_roundw
      case rel =>
        have O2 := hO'.out.set_ j (t / b) hq.out
        rw [Int.natCast_ediv] at O2
        exact ⟨_, j, t % b, _, by omega, by omega, rfl, by rw [Int.natCast_emod], Nat.mod_lt t hb0, O2, by rw [List.length_set]; exact hl'.out, by rw [take_set_low _ _ (Nat.le_refl _)]; exact ht1.out, div_step (by rw [hl'.out]; omega) (by rw [hl.out]; omega) hv.out hx'.out ht'.out, grown_set hg.out _ _⟩
      case measure => simp [intOf]

end Go.Proofs.YtkdeajocogdmgaaDoor
