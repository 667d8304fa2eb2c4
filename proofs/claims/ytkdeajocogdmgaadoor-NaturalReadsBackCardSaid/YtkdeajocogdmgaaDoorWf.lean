/- Contracts of the reference's Same and Valid, and of the law's light and fair. -/
import Derived.Test.YtkdeajocogdmgaaDoorWe
namespace Go.Proofs.YtkdeajocogdmgaaDoor
open Go.RowKit

set_option maxHeartbeats 1000000 in
theorem same_true (A : Option Addr) (n c : Nat) (A' : Option Addr) (n' c' : Nat) (xs : List Nat) (w : World)
    (h1 : Rd w A n c xs) (h2 : Rd w A' n' c' xs) (hn : n ≤ 100000) :
    Calls Tryd.prog 18 #[.slice A n c, .slice A' n' c'] w fun e w' => e = .returned (.bool true) ∧ ∃ m, w' = w.drewN m := by
  obtain rfl : n = n' := by rw [← h1.len, ← h2.len]
  replace h1 := Lib.hid h1
  replace h2 := Lib.hid h2
  go_enter Tryd.func18, Tryd.ntmps18
  go_wp2
  go_loopw [5] (fun iv wr => ∃ (k m : Nat), k ≤ n ∧ iv = .int .i64 k ∧ wr = w.drewN m) (fun iv _ => n - (intOf iv).toNat)
  case atStart => exact ⟨0, 0, Nat.zero_le _, rfl, rfl⟩
  case round =>
    obtain ⟨k, m, hk, rfl, rfl⟩ := hrel
    by_cases hlt : k < n
    · obtain ⟨b1, o1, x1, rfl, hb1, hx1, hxe, hcx⟩ := h1.out.at_ hlt
      obtain ⟨b2, o2, y1, rfl, hb2, hy1, hye, hcy⟩ := h2.out.at_ hlt
      obtain rfl : x1 = y1 := by rw [← hxe, ← hye]
      clear hxe hye
      have g1 : (0 : Int) ≤ (k : Int) := by omega
      have g2 : (k : Int) < (n : Int) := by omega
      have ht : ((x1 : Int) != (x1 : Int)) = false := by simp
      go_wp2
      go_quiet (fail)
      go_wp2
      go_roundw
      case rel => exact ⟨k + 1, _, by omega, by go_num, rfl⟩
      case measure => simp [intOf]; omega
    · go_wp2
      go_ret
      exact ⟨rfl, m, rfl⟩

theorem light_any (A : Option Addr) (n c : Nat) (w : World) (hn : n ≤ 9223372036854775807) :
    Calls Tryd.prog 12 #[.slice A n c] w fun e w' => e = .returned (.bool (decide (n ≤ 12))) ∧ w' = w := by
  go_enter Tryd.func12, Tryd.ntmps12
  go_wp2
  go_ret
  refine ⟨?_, rfl⟩
  congr 2
  simp
  omega

set_option maxHeartbeats 400000 in
theorem rvalid_any (A : Option Addr) (n c : Nat) (xs : List Nat) (w : World) (h : Rd w A n c xs) (hn : n ≤ 100000) :
    Calls Tryd.prog 19 #[.slice A n c] w fun e w' => e = .returned (.bool (vldB xs)) ∧ w' = w := by
  by_cases h0 : n = 0
  · have H : Hid (vldB xs = true) := by have := h.len; show vldB xs = true; rw [List.eq_nil_of_length_eq_zero (by omega : xs.length = 0)]; rfl
    subst h0
    clear h
    go_enter Tryd.func19, Tryd.ntmps19
    go_wp2
    go_ret
    rw [H.out]; exact ⟨rfl, rfl⟩
  · obtain ⟨m, rfl⟩ : ∃ m, n = m + 1 := ⟨n - 1, by omega⟩
    obtain ⟨b, o, x, rfl, hb, hx, hxs, hc⟩ := h.at_ (k := m) (by omega)
    have H : Hid (vldB xs = !((x : Int) == 0)) := vldB_last h.len hxs
    clear hxs h h0
    have hg : ((m : Int) + 1 == 0) = false := by simp; omega
    have hm : (0:Int) ≤ m := by omega
    go_enter Tryd.func19, Tryd.ntmps19
    go_wp2
    go_ret
    rw [H.out]; exact ⟨rfl, rfl⟩

/-- Whether three lists are light and valid. -/
def fairB (n1 n2 n3 : Nat) (xs ys zs : List Nat) : Bool := decide (n1 ≤ 12 ∧ n2 ≤ 12 ∧ n3 ≤ 12 ∧ vldB xs = true ∧ vldB ys = true ∧ vldB zs = true)

end Go.Proofs.YtkdeajocogdmgaaDoor
