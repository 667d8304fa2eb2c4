/- The reference's one, over, Make and Same of rational. -/
import Derived.Test.YtgpgpkkgpedifaaGreatDoorRe
import Derived.Test.YtgpgpkkgpedifaaGreatDoorIq
import Derived.Test.YtgpgpkkgpedifaaGreatDoorQIlz
namespace Go.Proofs.YtgpgpkkgpedifaaGreatDoor
open Go.RowKit RQ

theorem one_row {ds : List Nat} {x : Nat} (h : ds.length = 1) (hx : ds.getD 0 0 = x) : is1 ds = decide (x = 1) := by
  match ds, h with
  | [y], _ => simp at hx; subst hx; unfold is1; rw [Bool.eq_iff_iff, beq_iff_eq, decide_eq_true_iff]; simp
theorem one_len {ds : List Nat} {n : Nat} (h : ds.length = n) (hn : n ≠ 1) : is1 ds = false := by
  unfold is1; rw [beq_eq_false_iff_ne]; rintro rfl; exact hn h.symm
set_option maxHeartbeats 1000000 in
theorem one_any (A : Option Addr) (n c : Nat) (ds : List Nat) (w : World) (R : Rd w A n c ds) :
    Calls Tryz.prog 47 #[.slice A n c] w fun e w' => e = .returned (.bool (is1 ds)) ∧ Below w.heap.size w w' := by
  have hl := R.len
  have B := Lib.hid (Below.refl w.heap.size w)
  by_cases hn : n = 1
  · subst hn
    obtain ⟨b, o, x, rfl, _, hx, hget, hc⟩ := R.at_ (k := 0) (by omega)
    rw [Nat.add_zero] at hc
    rw [one_row hl hget]
    by_cases h1 : x = 1
    · subst h1
      clear hget hx hl R
      go_enter Tryz.func47, Tryz.ntmps47
      go_wp2
      go_ret
      exact ⟨rfl, B.out⟩
    · have h2 : ((x : Int) == 1) = false := by rw [beq_eq_false_iff_ne]; omega
      rw [decide_eq_false h1]
      clear hget hx hl R h1
      go_enter Tryz.func47, Tryz.ntmps47
      go_wp2
      go_ret
      exact ⟨rfl, B.out⟩
  · rw [one_len hl hn]
    have h2 : ((n : Int) == 1) = false := by rw [beq_eq_false_iff_ne]; omega
    clear hl R hn
    go_enter Tryz.func47, Tryz.ntmps47
    go_wp2
    go_ret
    exact ⟨rfl, B.out⟩
end Go.Proofs.YtgpgpkkgpedifaaGreatDoor
