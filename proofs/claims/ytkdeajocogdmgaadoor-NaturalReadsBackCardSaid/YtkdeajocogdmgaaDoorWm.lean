/- Contracts of guessLimb, subProduct and shiftLeft. -/
import Derived.Test.YtkdeajocogdmgaaDoorWl
namespace Go.Proofs.YtkdeajocogdmgaaDoor
open Go.RowKit

theorem ret_u32 {k : IntKind} {a b : Int} (h : a = b) : Ending.returned (.int k a) = .returned (.int k b) := by rw [h]

set_option maxRecDepth 100000 in
set_option maxHeartbeats 2000000 in
theorem guess_any (a2 a1 a0 b1 b0 : Nat) (w : World) (h2 : a2 < 4294967296) (h1 : a1 < 4294967296) (h0 : a0 < 4294967296) (hb1 : 2147483648 ≤ b1) (hb1' : b1 < 4294967296) (hb0 : b0 < 4294967296)
    (hT : a2 * 4294967296 + a1 ≤ b1 * 4294967296 + b0) :
    Calls Tryd.prog 117 #[.int .u32 a2, .int .u32 a1, .int .u32 a0, .int .u32 b1, .int .u32 b0] w fun e w' => ∃ g, (e = .returned (.int .u32 (g : Nat)) ∧ GuessOk (a2 * 4294967296 + a1) a0 b1 b0 g) ∧ ∃ m, w' = w.drewN m := by
  have hor := or_limb a2 a1 h2 h1
  obtain ⟨T, hTe⟩ : ∃ T, a2 * 4294967296 + a1 = T := ⟨_, rfl⟩
  rw [hTe] at hor hT ⊢
  have hTb : (T : Int) ≤ 18446744073709551615 := by omega
  have hT0 : (0 : Int) ≤ (T : Int) := by omega
  have hq := gl_start hT hb1 hb0
  have hqi : (T : Int) / (b1 : Int) ≤ 4294967297 := by rw [← Int.natCast_ediv]; exact Int.ofNat_le.2 hq
  have hqi0 : 0 ≤ (T : Int) / (b1 : Int) := by rw [← Int.natCast_ediv]; exact Int.natCast_nonneg _
  have hb1i : (1 : Int) ≤ (b1 : Int) := by omega
  have hm0 := gl_start_m T a0 b1 b0 (by omega) h0
  have hr0 := Nat.mod_lt T (show 0 < b1 by omega)
  have hd0 := Nat.div_add_mod' T b1
  replace hq := Lib.hid hq
  replace hm0 := Lib.hid hm0
  replace hr0 := Lib.hid hr0
  replace hd0 := Lib.hid hd0
  replace hT := Lib.hid hT
  clear hTe
  go_enter Tryd.func117, Tryd.ntmps117
  go_wp2
  go_quiet (fail)
  go_wp2
  go_loopg [12, 13] (T / b1) (fun g gv rv wr => ∃ (rest m : Nat), gv = .int .u64 (g : Nat) ∧ rv = .int .u64 (rest : Nat) ∧ g * b1 + rest = T ∧ rest ≤ 4294967295 ∧ g ≤ 4294967297 ∧ (4294967295 ≤ g ∨ T * 4294967296 + a0 < (g + 1) * (b1 * 4294967296 + b0)) ∧ wr = w.drewN m)
  case atStart => exact ⟨T % b1, _, by rw [Int.natCast_ediv], by rw [Int.natCast_emod], hd0.out, by have := hr0.out; omega, hq.out, .inr hm0.out, rfl⟩
  case round =>
    clear hor hqi hqi0
    obtain ⟨rest, m, rfl, rfl, hg, hr, hgb, hmx, rfl⟩ := hrel
    replace hmx := Lib.hid hmx
    replace hg := Lib.hid hg
    have hb1t : (b1 : Int) < 4294967296 := by omega
    have hb1z : (0 : Int) ≤ (b1 : Int) := by omega
    have hlc : 1 ≤ gk → (gk : Int) - 1 = ((gk - 1 : Nat) : Int) := fun h => by omega
    have hlt0 : 1 ≤ gk → gk - 1 < gk := fun h => by omega
    by_cases hgt : 4294967295 < gk
    · have hgti : (4294967295 : Int) < (gk : Int) := by omega
      obtain ⟨hn1, hn2⟩ := gl_next (T := T) (g := gk - 1) (rest := rest) (by rw [show gk - 1 + 1 = gk by omega]; exact hg.out) (a0 := a0) (b0 := b0) (.inl (by omega))
      replace hn1 := Lib.hid hn1
      replace hn2 := Lib.hid hn2
      have hlt1 := hlt0 (by omega)
      by_cases hbr : 4294967295 < rest + b1
      · have hbri : (4294967295 : Int) < (rest : Int) + (b1 : Int) := by omega
        have hfin := gl_break hn1.out (by omega) hT.out hb0 hn2.out
        have hgl : (gk : Int) - 1 < 4294967296 := by have := hfin.1; omega
        replace hfin := Lib.hid hfin
        go_wp2
        go_ret
        exact ⟨gk - 1, ⟨(by first | rfl | exact ret_u32 (hlc (by omega))), hfin.out⟩, m, rfl⟩
      · have hbri : decide ((4294967295 : Int) < (rest : Int) + (b1 : Int)) = false := by simp; omega
        go_wp2
        go_roundg (gk - 1)
        case measure => exact hlt1
        case rel => exact ⟨rest + b1, m, by go_num, by go_num, hn1.out, by omega, by omega, hn2.out, rfl⟩
    · have hgti : decide ((4294967295 : Int) < (gk : Int)) = false := by simp; omega
      have hgtb : (gk : Int) < 4294967296 := by omega
      have hor2 := or_limb rest a0 (by omega) h0
      obtain ⟨t2, ht2⟩ : ∃ t2, rest * 4294967296 + a0 = t2 := ⟨_, rfl⟩
      rw [ht2] at hor2
      have ht2b : (t2 : Int) ≤ 18446744073709551615 := by omega
      obtain ⟨p, hpe⟩ : ∃ p, gk * b0 = p := ⟨_, rfl⟩
      have hpb := mul_bd (x := gk) (y := b0) (by omega) hb0
      rw [hpe] at hpb
      have hpc : (gk : Int) * (b0 : Int) = (p : Int) := by rw [← hpe, Int.natCast_mul]
      have hpb2 : (p : Int) ≤ 18446744065119617025 := by omega
      replace hpe := Lib.hid hpe
      replace ht2 := Lib.hid ht2
      clear hpb
      by_cases hlt : t2 < p
      · have hlti : (t2 : Int) < (p : Int) := by omega
        have hg1 : 1 ≤ gk := by
          rcases Nat.eq_zero_or_pos gk with h | h
          · exfalso; have := hpe.out; rw [h, Nat.zero_mul] at this; omega
          · exact h
        have hg1i : (1 : Int) ≤ (gk : Int) := by omega
        obtain ⟨hn1, hn2⟩ := gl_next (T := T) (g := gk - 1) (rest := rest) (by rw [show gk - 1 + 1 = gk by omega]; exact hg.out) (a0 := a0) (b0 := b0) (.inr (by rw [show gk - 1 + 1 = gk by omega, hpe.out, ht2.out]; exact hlt))
        replace hn1 := Lib.hid hn1
        replace hn2 := Lib.hid hn2
        have hlt1 := hlt0 hg1
        by_cases hbr : 4294967295 < rest + b1
        · have hbri : (4294967295 : Int) < (rest : Int) + (b1 : Int) := by omega
          have hfin := gl_break hn1.out (by omega) hT.out hb0 hn2.out
          have hgl : (gk : Int) - 1 < 4294967296 := by have := hfin.1; omega
          replace hfin := Lib.hid hfin
          go_wp2
          go_ret
          exact ⟨gk - 1, ⟨(by first | rfl | exact ret_u32 (hlc (by omega))), hfin.out⟩, m, rfl⟩
        · have hbri : decide ((4294967295 : Int) < (rest : Int) + (b1 : Int)) = false := by simp; omega
          go_wp2
          go_roundg (gk - 1)
          case measure => exact hlt1
          case rel => exact ⟨rest + b1, m, by go_num, by go_num, hn1.out, by omega, by omega, hn2.out, rfl⟩
      · have hlti : decide ((t2 : Int) < (p : Int)) = false := by simp; omega
        have hfin := Lib.hid (gl_stop hg.out (show gk ≤ 4294967295 by omega) (a0 := a0) (b0 := b0) (by rw [hpe.out, ht2.out]; omega) hmx.out)
        go_wp2
        go_ret
        exact ⟨gk, ⟨rfl, hfin.out⟩, m, rfl⟩

end Go.Proofs.YtkdeajocogdmgaaDoor
