/- Contracts of the reference's Same and Valid, and of the law's light and fair. -/
import Derived.Test.YtpafgkggkgmamaaWe
namespace Go.Proofs.Ytpafgkggkgmamaa
open Go.RowKit

set_option maxHeartbeats 1000000 in
theorem same_true (A : Option Addr) (n c : Nat) (A' : Option Addr) (n' c' : Nat) (xs : List Nat) (w : World)
    (h1 : Rd w A n c xs) (h2 : Rd w A' n' c' xs) (hn : n ≤ 100000) :
    Calls Try.prog 18 #[.slice A n c, .slice A' n' c'] w fun e w' => e = .returned (.bool true) ∧ ∃ m, w' = w.drewN m := by
  obtain rfl : n = n' := by rw [← h1.len, ← h2.len]
  replace h1 := Lib.hid h1
  replace h2 := Lib.hid h2
  go_enter Try.func18, Try.ntmps18
  go_wp2
  go_loopw [5] (fun iv wr => ∃ (k m : Nat), k ≤ n ∧ iv = .int .i64 k ∧ wr = w.drewN m) (fun iv _ => n - (intOf iv).toNat)
  case atStart => exact ⟨0, 0, Nat.zero_le _, rfl, rfl⟩
  case round =>
    obtain ⟨k, m, hk, rfl, rfl⟩ := hrel
    by_cases hlt : k < n
    · obtain ⟨b1, o1, x1, rfl, hb1, hx1, hxe, hcx⟩ := h1.out.at_ hlt
      obtain ⟨b2, o2, y1, rfl, hb2, hy1, hye, hcy⟩ := h2.out.at_ hlt
      obtain rfl : x1 = y1 := by rw [← hxe, ← hye]
      clear hxe hye
      have g1 : (0 : Int) ≤ (k : Int) := by omega
      have g2 : (k : Int) < (n : Int) := by omega
      have ht : ((x1 : Int) != (x1 : Int)) = false := by simp
      go_wp2
      go_quiet (fail)
      go_wp2
      go_roundw
      case rel => exact ⟨k + 1, _, by omega, by go_num, rfl⟩
      case measure => simp [intOf]; omega
    · go_wp2
      go_ret
      exact ⟨rfl, m, rfl⟩

theorem light_any (A : Option Addr) (n c : Nat) (w : World) (hn : n ≤ 9223372036854775807) :
    Calls Try.prog 12 #[.slice A n c] w fun e w' => e = .returned (.bool (decide (n ≤ 12))) ∧ w' = w := by
  go_enter Try.func12, Try.ntmps12
  go_wp2
  go_ret
  refine ⟨?_, rfl⟩
  congr 2
  simp
  omega

set_option maxHeartbeats 400000 in
theorem rvalid_any (A : Option Addr) (n c : Nat) (xs : List Nat) (w : World) (h : Rd w A n c xs) (hn : n ≤ 100000) :
    Calls Try.prog 17 #[.slice A n c] w fun e w' => e = .returned (.bool (vldB xs)) ∧ w' = w := by
  by_cases h0 : n = 0
  · have H : Hid (vldB xs = true) := by have := h.len; show vldB xs = true; rw [List.eq_nil_of_length_eq_zero (by omega : xs.length = 0)]; rfl
    subst h0
    clear h
    go_enter Try.func17, Try.ntmps17
    go_wp2
    go_ret
    rw [H.out]; exact ⟨rfl, rfl⟩
  · obtain ⟨m, rfl⟩ : ∃ m, n = m + 1 := ⟨n - 1, by omega⟩
    obtain ⟨b, o, x, rfl, hb, hx, hxs, hc⟩ := h.at_ (k := m) (by omega)
    have H : Hid (vldB xs = !((x : Int) == 0)) := vldB_last h.len hxs
    clear hxs h h0
    have hg : ((m : Int) + 1 == 0) = false := by simp; omega
    have hm : (0:Int) ≤ m := by omega
    go_enter Try.func17, Try.ntmps17
    go_wp2
    go_ret
    rw [H.out]; exact ⟨rfl, rfl⟩

/-- Whether three lists are light and valid. -/
def fairB (n1 n2 n3 : Nat) (xs ys zs : List Nat) : Bool := decide (n1 ≤ 12 ∧ n2 ≤ 12 ∧ n3 ≤ 12 ∧ vldB xs = true ∧ vldB ys = true ∧ vldB zs = true)

set_option maxHeartbeats 1000000 in
theorem fair_any (A1 : Option Addr) (n1 c1 : Nat) (xs : List Nat) (A2 : Option Addr) (n2 c2 : Nat) (ys : List Nat) (A3 : Option Addr) (n3 c3 : Nat) (zs : List Nat) (w : World)
    (h1 : Rd w A1 n1 c1 xs) (h2 : Rd w A2 n2 c2 ys) (h3 : Rd w A3 n3 c3 zs) (m1 : n1 ≤ 9223372036854775807) (m2 : n2 ≤ 9223372036854775807) (m3 : n3 ≤ 9223372036854775807) :
    Calls Try.prog 37 #[.slice A1 n1 c1, .slice A2 n2 c2, .slice A3 n3 c3] w fun e w' => e = .returned (.bool (fairB n1 n2 n3 xs ys zs)) ∧ w' = w := by
  have L1 := light_any A1 n1 c1 w m1
  have L2 := light_any A2 n2 c2 w m2
  have L3 := light_any A3 n3 c3 w m3
  clear m1 m2 m3
  by_cases d1 : ¬ n1 ≤ 12
  · have f : fairB n1 n2 n3 xs ys zs = false := by simp [fairB]; omega
    rw [decide_eq_false d1] at L1
    rw [f]
    clear h1 h2 h3 L2 L3 f d1
    replace L1 := Lib.hid L1
    go_enter Try.func37, Try.ntmps37
    go_wp2_with (go_at_call 12; refine (L1.out).mono ?_; rintro e w' ⟨rfl, rfl⟩)
    go_ret
    exact ⟨rfl, rfl⟩
  replace d1 := Decidable.not_not.1 d1
  by_cases d2 : ¬ n2 ≤ 12
  · have f : fairB n1 n2 n3 xs ys zs = false := by simp [fairB]; omega
    rw [decide_eq_true d1] at L1
    rw [decide_eq_false d2] at L2
    rw [f]
    clear h1 h2 h3 L3 f d1 d2
    replace L1 := Lib.hid L1
    replace L2 := Lib.hid L2
    go_enter Try.func37, Try.ntmps37
    go_wp2_with fail
    refine (L1.out).mono ?_; rintro e w' ⟨rfl, rfl⟩
    go_wp2_with fail
    refine (L2.out).mono ?_; rintro e w' ⟨rfl, rfl⟩
    go_wp2
    go_ret
    exact ⟨rfl, rfl⟩
  replace d2 := Decidable.not_not.1 d2
  by_cases d3 : ¬ n3 ≤ 12
  · have f : fairB n1 n2 n3 xs ys zs = false := by simp [fairB]; omega
    rw [decide_eq_true d1] at L1
    rw [decide_eq_true d2] at L2
    rw [decide_eq_false d3] at L3
    rw [f]
    clear h1 h2 h3 f d1 d2 d3
    replace L1 := Lib.hid L1
    replace L2 := Lib.hid L2
    replace L3 := Lib.hid L3
    go_enter Try.func37, Try.ntmps37
    go_wp2_with fail
    refine (L1.out).mono ?_; rintro e w' ⟨rfl, rfl⟩
    go_wp2_with fail
    refine (L2.out).mono ?_; rintro e w' ⟨rfl, rfl⟩
    go_wp2_with fail
    refine (L3.out).mono ?_; rintro e w' ⟨rfl, rfl⟩
    go_wp2
    go_ret
    exact ⟨rfl, rfl⟩
  replace d3 := Decidable.not_not.1 d3
  rw [decide_eq_true d1] at L1
  rw [decide_eq_true d2] at L2
  rw [decide_eq_true d3] at L3
  have V1 := rvalid_any A1 n1 c1 xs w h1 (by omega)
  have V2 := rvalid_any A2 n2 c2 ys w h2 (by omega)
  have V3 := rvalid_any A3 n3 c3 zs w h3 (by omega)
  replace L1 := Lib.hid L1
  replace L2 := Lib.hid L2
  replace L3 := Lib.hid L3
  clear h1 h2 h3
  cases v1 : vldB xs
  · have f : fairB n1 n2 n3 xs ys zs = false := by simp [fairB, v1]
    rw [v1] at V1
    rw [f]
    replace V1 := Lib.hid V1
    clear V2 V3 v1 f d1 d2 d3
    go_enter Try.func37, Try.ntmps37
    go_wp2_with fail
    refine (L1.out).mono ?_; rintro e w' ⟨rfl, rfl⟩
    go_wp2_with fail
    refine (L2.out).mono ?_; rintro e w' ⟨rfl, rfl⟩
    go_wp2_with fail
    refine (L3.out).mono ?_; rintro e w' ⟨rfl, rfl⟩
    go_wp2_with fail
    refine (V1.out).mono ?_; rintro e w' ⟨rfl, rfl⟩
    go_wp2
    go_ret
    exact ⟨rfl, rfl⟩
  rw [v1] at V1
  replace V1 := Lib.hid V1
  cases v2 : vldB ys
  · have f : fairB n1 n2 n3 xs ys zs = false := by simp [fairB, v2]
    rw [v2] at V2
    rw [f]
    replace V2 := Lib.hid V2
    clear V3 v1 v2 f d1 d2 d3
    go_enter Try.func37, Try.ntmps37
    go_wp2_with fail
    refine (L1.out).mono ?_; rintro e w' ⟨rfl, rfl⟩
    go_wp2_with fail
    refine (L2.out).mono ?_; rintro e w' ⟨rfl, rfl⟩
    go_wp2_with fail
    refine (L3.out).mono ?_; rintro e w' ⟨rfl, rfl⟩
    go_wp2_with fail
    refine (V1.out).mono ?_; rintro e w' ⟨rfl, rfl⟩
    go_wp2_with fail
    refine (V2.out).mono ?_; rintro e w' ⟨rfl, rfl⟩
    go_wp2
    go_ret
    exact ⟨rfl, rfl⟩
  rw [v2] at V2
  replace V2 := Lib.hid V2
  have f : fairB n1 n2 n3 xs ys zs = vldB zs := by
    unfold fairB; rw [v1, v2]; cases v3 : vldB zs <;> simp [d1, d2, d3]
  rw [f]
  replace V3 := Lib.hid V3
  clear v1 v2 f d1 d2 d3
  go_enter Try.func37, Try.ntmps37
  go_wp2_with fail
  refine (L1.out).mono ?_; rintro e w' ⟨rfl, rfl⟩
  go_wp2_with fail
  refine (L2.out).mono ?_; rintro e w' ⟨rfl, rfl⟩
  go_wp2_with fail
  refine (L3.out).mono ?_; rintro e w' ⟨rfl, rfl⟩
  go_wp2_with fail
  refine (V1.out).mono ?_; rintro e w' ⟨rfl, rfl⟩
  go_wp2_with fail
  refine (V2.out).mono ?_; rintro e w' ⟨rfl, rfl⟩
  go_wp2_with fail
  refine (V3.out).mono ?_; rintro e w' ⟨rfl, rfl⟩
  go_wp2
  go_ret
  exact ⟨rfl, rfl⟩

end Go.Proofs.Ytpafgkggkgmamaa
