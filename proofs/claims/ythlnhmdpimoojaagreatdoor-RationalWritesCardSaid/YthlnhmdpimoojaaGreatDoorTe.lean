/- sum of rational: numbers of any size. -/
import Derived.Test.YthlnhmdpimoojaaGreatDoorQTaz
import Derived.Test.YthlnhmdpimoojaaGreatDoorQRgz
import Derived.Test.YthlnhmdpimoojaaGreatDoorDr
namespace Go.Proofs.YthlnhmdpimoojaaGreatDoor
open Go.RowKit RQ
theorem addI_len2 {a b : Int} {p : Nat} (h1 : (limbs a.natAbs).length ≤ p) (h2 : (limbs b.natAbs).length ≤ p) : (limbs (a + b).natAbs).length ≤ p + 1 := by
  rw [limbs_len_le] at *
  have := Int.natAbs_add_le a b
  rw [Nat.pow_succ]; omega
theorem mulI_len2 {a b : Int} {p k : Nat} (h1 : (limbs a.natAbs).length ≤ p) (h2 : (limbs b.natAbs).length ≤ k) : (limbs (a * b).natAbs).length ≤ p + k := by
  rw [limbs_len_le] at *
  rw [Int.natAbs_mul, Nat.pow_add]; exact mul_lt h1 h2
end Go.Proofs.YthlnhmdpimoojaaGreatDoor
