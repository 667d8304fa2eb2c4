/- The contracts of integer in the form that the laws use. -/
import Derived.Test.YtidhloliahfknaaGreatQIez
import Derived.Test.YtidhloliahfknaaGreatIg
import Derived.Test.YtidhloliahfknaaGreatIh
import Derived.Test.YtidhloliahfknaaGreatIi
import Derived.Test.YtidhloliahfknaaGreatIk
import Derived.Test.YtidhloliahfknaaGreatQIlz
import Derived.Test.YtidhloliahfknaaGreatIp
import Derived.Test.YtidhloliahfknaaGreatIq
import Derived.Test.YtidhloliahfknaaGreatQIrz
namespace Go.Proofs.YtidhloliahfknaaGreat
open Go.RowKit

/-- The same, with a bound of its size. -/
abbrev RetB (z : Int) (p : Nat) (w : World) (e : Ending) (w' : World) : Prop := ∃ A n c, e = .returned (.agg #[.bool (ng z), .slice A n c]) ∧ Rd w' A n c (limbs z.natAbs) ∧ Below w.heap.size w w' ∧ n ≤ p
theorem RetI.b {z : Int} {p : Nat} {w : World} {e : Ending} {w' : World} (h : RetI z w e w') (hl : (limbs z.natAbs).length ≤ p) : RetB z p w e w' := by
  obtain ⟨A, n, c, he, R, B⟩ := h
  exact ⟨A, n, c, he, R, B, by have := R.len; omega⟩
end Go.Proofs.YtidhloliahfknaaGreat
