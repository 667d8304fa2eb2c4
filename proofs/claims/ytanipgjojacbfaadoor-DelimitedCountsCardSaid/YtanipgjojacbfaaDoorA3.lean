/- strings.IndexAny at a few ASCII bytes and whatever string; strings.Clone. -/
import Derived.Test.YtanipgjojacbfaaDoorA2
namespace Go.Proofs.YtanipgjojacbfaaDoor
open Go.RowKit
set_option linter.unusedVariables false

/-- What is decoded: an ASCII byte, or a rune of bytes that are none. -/
theorem decode_cases (s : ByteArray) (i : Nat) (hi : i < s.size) :
    ((Utf8.decode s i).1 < 128 ∧ (Utf8.decode s i).2 = 1 ∧ ∃ x : UInt8, s.data.toList[i]? = some x ∧ x.toNat = (Utf8.decode s i).1) ∨
    (128 ≤ (Utf8.decode s i).1 ∧ 1 ≤ (Utf8.decode s i).2 ∧ i + (Utf8.decode s i).2 ≤ s.size ∧ ∀ j, j < (Utf8.decode s i).2 → ∀ x, s.data.toList[i + j]? = some x → 128 ≤ x.toNat) := by
  have hg : ∀ k x, s.data.toList[k]? = some x → s.get! k = x := by
    intro k x h
    rw [Array.getElem?_toList] at h
    show s.data[k]! = x
    rw [Array.getElem!_eq_getD, Array.getD_eq_getD_getElem?, h]
    rfl
  have h0 : s.data.toList[i]? = some s[i] := by rw [Array.getElem?_toList, Array.getElem?_eq_getElem hi]; rfl
  have e0 := hg _ _ h0
  unfold Utf8.decode
  simp only [Nat.add_zero, e0]
  by_cases hb : (s[i]).toNat < 128
  · left; rw [if_pos hb]; exact ⟨hb, rfl, s[i], h0, rfl⟩
  · right
    simp only [if_neg hb]
    have one : ∀ j, j < 1 → ∀ x, s.data.toList[i + j]? = some x → 128 ≤ x.toNat := by
      intro j hj x hx
      obtain rfl : j = 0 := by omega
      rw [Nat.add_zero, h0] at hx
      cases hx
      omega
    have err : 128 ≤ (Utf8.runeError, 1).1 ∧ 1 ≤ (Utf8.runeError, 1).2 ∧ i + (Utf8.runeError, 1).2 ≤ s.size ∧ ∀ j, j < (Utf8.runeError, 1).2 → ∀ x, s.data.toList[i + j]? = some x → 128 ≤ x.toNat := ⟨by decide, by decide, by show i + 1 ≤ s.size; omega, one⟩
    have more : ∀ k, (i + k < s.size) → (s.get! (i + k)).toNat / 64 = 2 → ∀ x, s.data.toList[i + k]? = some x → 128 ≤ x.toNat := by
      intro k hk h2 x hx
      rw [hg _ _ hx] at h2
      omega
    split
    · rename_i h
      simp only [Bool.and_eq_true, decide_eq_true_eq, beq_iff_eq] at h
      split
      · rename_i hc
        refine ⟨hc, (by decide : 1 ≤ 2), by show i + 2 ≤ s.size; omega, fun j hj x hx => ?_⟩
        have hj : j = 0 ∨ j = 1 := by have : j < 2 := hj; omega
        rcases hj with rfl | rfl
        · exact one 0 (by decide) x hx
        · exact more 1 h.2.1 h.2.2 x hx
      · exact err
    · split
      · rename_i h
        simp only [Bool.and_eq_true, decide_eq_true_eq, beq_iff_eq] at h
        split
        · rename_i hc
          simp only [Bool.and_eq_true, decide_eq_true_eq] at hc
          refine ⟨Nat.le_trans (by decide) hc.1, (by decide : 1 ≤ 3), by show i + 3 ≤ s.size; omega, fun j hj x hx => ?_⟩
          have hj : j = 0 ∨ j = 1 ∨ j = 2 := by have : j < 3 := hj; omega
          rcases hj with rfl | rfl | rfl
          · exact one 0 (by decide) x hx
          · exact more 1 h.1.2.1 h.1.2.2 x hx
          · exact more 2 h.2.1 h.2.2 x hx
        · exact err
      · split
        · rename_i h
          simp only [Bool.and_eq_true, decide_eq_true_eq, beq_iff_eq] at h
          split
          · rename_i hc
            simp only [Bool.and_eq_true, decide_eq_true_eq] at hc
            refine ⟨Nat.le_trans (by decide) hc.1, (by decide : 1 ≤ 4), by show i + 4 ≤ s.size; omega, fun j hj x hx => ?_⟩
            have hj : j = 0 ∨ j = 1 ∨ j = 2 ∨ j = 3 := by have : j < 4 := hj; omega
            rcases hj with rfl | rfl | rfl | rfl
            · exact one 0 (by decide) x hx
            · exact more 1 h.1.1.2.1 h.1.1.2.2 x hx
            · exact more 2 h.1.2.1 h.1.2.2 x hx
            · exact more 3 h.2.1 h.2.2 x hx
          · exact err
        · exact err
theorem iterPos_of {w : World} {k i : Nat} {s : ByteArray} (h : w.heap[k]? = some (.stringIter s i)) : w.iterPos k = i := by simp [World.iterPos, h]
/-- The last byte of a rune that is no ASCII byte. -/
theorem encode_last (r : Int) (h : 128 ≤ r) : ∃ n, ∃ hl : n < (Utf8.encode r).size, (Utf8.encode r).size = n + 1 ∧ 1 ≤ n ∧ n ≤ 3 ∧ 128 ≤ ((Utf8.encode r)[n]).toNat := by
  unfold Utf8.encode
  have hc : 128 ≤ (if Utf8.valid r = true then r.toNat else Utf8.runeError) := by
    split
    · omega
    · decide
  generalize (if Utf8.valid r = true then r.toNat else Utf8.runeError) = c at *
  have hb : ∀ x, 128 ≤ (UInt8.ofNat (128 + x % 64)).toNat := fun x => by simp; omega
  simp only [if_neg (show ¬ c < 128 by omega)]
  split
  · exact ⟨1, (by decide : 1 < 2), rfl, by omega, by omega, hb c⟩
  · split
    · exact ⟨2, (by decide : 2 < 3), rfl, by omega, by omega, hb c⟩
    · exact ⟨3, (by decide : 3 < 4), rfl, by omega, by omega, hb c⟩

theorem clone_any (s : ByteArray) (w : World) (hs : s.size ≤ 65536) :
    Calls Tryd.prog 67 #[.string s] w fun e w' => e = .returned (.string s) ∧ Below w.heap.size w w' := by
  have hH := Lib.hid (fun W => Tryd.stringslite_Clone s W (by omega))
  go_enter Tryd.func67, Tryd.ntmps67
  go_wp2_with fail
  refine (hH.out _).mono ?_
  rintro e w' ⟨rfl, hb⟩
  replace hb := Lib.hid hb
  go_wp2
  go_ret
  exact ⟨rfl, hb.out⟩
end Go.Proofs.YtanipgjojacbfaaDoor
