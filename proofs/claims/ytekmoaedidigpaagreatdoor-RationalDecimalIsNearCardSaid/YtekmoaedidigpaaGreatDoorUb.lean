/- The law's fair; the law RationalIsOrdered. -/
import Derived.Test.YtekmoaedidigpaaGreatDoorQTkz
namespace Go.Proofs.YtekmoaedidigpaaGreatDoor
open Go.RowKit RQ
theorem light_le {n m : Nat} (h : lightB n m = true) : n ≤ 500 ∧ m ≤ 500 := by
  unfold lightB at h; simp only [Bool.and_eq_true, decide_eq_true_eq] at h; omega
theorem rs_light {w : World} {b : Bool} {A : Option Addr} {n c : Nat} {xs : List Nat} {D : Option Addr} {m d : Nat} {ds : List Nat} (R1 : Rd w A n c xs) (R2 : Rd w D m d ds) (h : lightB n m = true) : Rs (rv b xs ds) 8 := by
  unfold lightB at h
  simp only [Bool.and_eq_true, decide_eq_true_eq] at h
  exact Rs.of R1.sm R2.sm (by rw [R1.len]; exact h.1) (by rw [R2.len]; exact h.2) (by decide)
end Go.Proofs.YtekmoaedidigpaaGreatDoor
