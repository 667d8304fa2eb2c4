/- sum of rational: numbers of any size. -/
import Derived.Test.YtgpgpkkgpedifaaGreatDoorQTaz
import Derived.Test.YtgpgpkkgpedifaaGreatDoorQRgz
import Derived.Test.YtgpgpkkgpedifaaGreatDoorDr
namespace Go.Proofs.YtgpgpkkgpedifaaGreatDoor
open Go.RowKit RQ
theorem addI_len2 {a b : Int} {p : Nat} (h1 : (limbs a.natAbs).length ≤ p) (h2 : (limbs b.natAbs).length ≤ p) : (limbs (a + b).natAbs).length ≤ p + 1 := by
  rw [limbs_len_le] at *
  have := Int.natAbs_add_le a b
  rw [Nat.pow_succ]; omega
theorem mulI_len2 {a b : Int} {p k : Nat} (h1 : (limbs a.natAbs).length ≤ p) (h2 : (limbs b.natAbs).length ≤ k) : (limbs (a * b).natAbs).length ≤ p + k := by
  rw [limbs_len_le] at *
  rw [Int.natAbs_mul, Nat.pow_add]; exact mul_lt h1 h2
theorem mul_iu {z : Int} {g : Nat} (h1 : (limbs z.natAbs).length ≤ 1000) (h2 : (limbs g).length ≤ 1000) (W : World) (A : Option Addr) (n c : Nat) (A' : Option Addr) (n' c' : Nat) (q1 : Rd W A n c (limbs z.natAbs)) (q2 : Rd W A' n' c' (limbs g)) :
    Calls Tryz.prog 60 #[.agg #[.bool (ng z), .slice A n c], .agg #[.bool false, .slice A' n' c']] W (RetI (z * (g : Int)) W) := by
  have := mulI_any (ng z) A n c _ false A' n' c' _ W q1 q2 (by rw [← q1.len]; exact h1) (by rw [← q2.len]; exact h2)
  rwa [iv_z, iv_pos] at this
theorem den_u (x : Rat) (W : World) (A : Option Addr) (n c : Nat) (D : Option Addr) (m d : Nat) (R : RR W A n c D m d x) :
    Calls Tryz.prog 52 #[.agg #[.bool (ng x.num), .slice A n c, .slice D m d]] W (RetU x.den W) :=
  (denominator_any x A n c D m d W R).mono fun _ _ h => RetI.u h

end Go.Proofs.YtgpgpkkgpedifaaGreatDoor
