/- Contracts of natural.Valid, known and trim. -/
import Derived.Test.YtkdeajocogdmgaaDoorMem
namespace Go.Proofs.YtkdeajocogdmgaaDoor
open Go.RowKit

theorem vldB_last {xs : List Nat} {m x : Nat} (hl : xs.length = m + 1) (hx : xs.getD m 0 = x) : vldB xs = !((x : Int) == 0) := by
  unfold vldB; rw [hl, show m + 1 - 1 = m from rfl, hx]
  have : ((m + 1 : Nat) == 0) = false := rfl
  rw [this, Bool.false_or]
  congr 1
  rw [Bool.eq_iff_iff]; simp

set_option maxHeartbeats 400000 in
theorem valid_any (A : Option Addr) (n c : Nat) (xs : List Nat) (w : World) (h : Rd w A n c xs) (hn : n ≤ 100000) :
    Calls Tryd.prog 71 #[.slice A n c] w fun e w' => e = .returned (.bool (vldB xs)) ∧ w = w' := by
  by_cases h0 : n = 0
  · have H : Hid (vldB xs = true) := by have := h.len; show vldB xs = true; rw [List.eq_nil_of_length_eq_zero (by omega : xs.length = 0)]; rfl
    subst h0
    clear h
    go_enter Tryd.func71, Tryd.ntmps71
    go_wp2
    go_ret
    rw [H.out]; exact ⟨rfl, rfl⟩
  · obtain ⟨m, rfl⟩ : ∃ m, n = m + 1 := ⟨n - 1, by omega⟩
    obtain ⟨b, o, x, rfl, hb, hx, hxs, hc⟩ := h.at_ (k := m) (by omega)
    have H : Hid (vldB xs = !((x : Int) == 0)) := vldB_last h.len hxs
    clear hxs h h0
    have hg : ((m : Int) + 1 == 0) = false := by simp; omega
    have hm : (0:Int) ≤ m := by omega
    go_enter Tryd.func71, Tryd.ntmps71
    go_wp2
    go_ret
    rw [H.out]; exact ⟨rfl, rfl⟩

set_option maxHeartbeats 400000 in
theorem known_any (A : Option Addr) (n c : Nat) (xs : List Nat) (w : World) (h : Rd w A n c xs) (hn : n ≤ 100000) :
    Calls Tryd.prog 59 #[.slice A n c] w fun e w' => ∃ A' n' c', e = .returned (.slice A' n' c') ∧ w = w' ∧ Rd w A' n' c' (limbs (num xs)) ∧ n' ≤ n := by
  have hv := valid_any A n c xs w h hn
  have hk := kn_limbs h.sm
  cases hb : vldB xs
  · rw [hb] at hv
    have R : Rd w none 0 0 (limbs (num xs)) := by rw [← hk]; unfold kn; rw [hb]; exact Rd.nil_ w 0 none
    have R := Lib.hid R
    have hv := Lib.hid hv
    clear hk hb h
    go_enter Tryd.func59, Tryd.ntmps59
    go_wp2_with (go_at_call 71; refine (hv.out).mono ?_; rintro e w' ⟨rfl, rfl⟩)
    go_ret
    exact ⟨none, 0, 0, rfl, rfl, R.out, Nat.zero_le _⟩
  · rw [hb] at hv
    have R : Rd w A n c (limbs (num xs)) := by rw [← hk]; unfold kn; rw [hb]; exact h
    have R := Lib.hid R
    have hv := Lib.hid hv
    clear hk hb h
    go_enter Tryd.func59, Tryd.ntmps59
    go_wp2_with (go_at_call 71; refine (hv.out).mono ?_; rintro e w' ⟨rfl, rfl⟩)
    go_ret
    exact ⟨A, n, c, rfl, rfl, R.out, Nat.le_refl _⟩

set_option maxHeartbeats 400000 in
theorem trim_any (A : Option Addr) (n c : Nat) (xs : List Nat) (w : World) (h : Rd w A n c xs) (hn : n ≤ 100000) :
    Calls Tryd.prog 61 #[.slice A n c] w fun e w' => ∃ n', e = .returned (.slice A n' c) ∧ w = w' ∧ Rd w A n' c (limbs (val xs)) := by
  have hcap := h.cap
  have hl := h.len
  have R : Rd w A (tl xs n) c (limbs (val xs)) := by
    have := h.take (tl_le xs n)
    rw [tl_limbs h.sm n (by omega), ← hl, List.take_length, hl] at this
    exact this
  have R := Lib.hid R
  have HH := Lib.hid h
  clear h hl
  go_enter Tryd.func61, Tryd.ntmps61
  go_wp2
  go_loop [0] (fun s => ∃ k : Nat, k ≤ n ∧ s = .slice A k c ∧ tl xs k = tl xs n) (fun s => match s with | .slice _ k _ => k | _ => 0)
  case atStart => exact ⟨n, Nat.le_refl _, rfl, rfl⟩
  case round =>
    obtain ⟨k, hk, rfl, ht⟩ := hrel
    have ht := Lib.hid ht
    by_cases h0 : k = 0
    · subst h0
      have hg : ((0:Int) > 0) = False := by simp
      go_wp2
      go_ret
      exact ⟨0, rfl, rfl, by have := R.out; rw [← ht.out] at this; exact this⟩
    · obtain ⟨m, rfl⟩ : ∃ m, k = m + 1 := ⟨k - 1, by omega⟩
      obtain ⟨b, o, x, rfl, hb, hx, hxs, hc⟩ := HH.out.at_ (k := m) (by omega)
      have hxs := Lib.hid hxs
      clear h0
      have hg : (0:Int) < (m : Int) + 1 := by omega
      have hg2 : decide ((0:Int) < (m : Int) + 1) = true := decide_eq_true hg
      by_cases hx0 : x = 0
      · have hx1 : ((x : Int) == 0) = true := by simp; omega
        have e : tl xs (m + 1) = tl xs m := by rw [tl, if_pos (by rw [hxs.out]; exact hx0)]
        have e := Lib.hid e
        clear hx0
        go_wp2
        go_round
        case rel => exact ⟨m, by omega, rfl, by rw [← e.out]; exact ht.out⟩
        case measure => simp
      · have hx1 : ((x : Int) == 0) = false := by simp; omega
        have e : tl xs (m + 1) = m + 1 := by rw [tl, if_neg]; rw [hxs.out]; exact hx0
        have e := Lib.hid e
        clear hx0
        go_wp2
        go_ret
        exact ⟨m + 1, rfl, rfl, by have := R.out; rw [← ht.out, e.out] at this; exact this⟩

end Go.Proofs.YtkdeajocogdmgaaDoor
