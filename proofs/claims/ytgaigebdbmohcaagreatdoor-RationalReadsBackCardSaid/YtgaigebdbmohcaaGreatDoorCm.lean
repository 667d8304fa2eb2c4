/- An integer that came in: a sign and limbs. -/
import Derived.Test.YtgaigebdbmohcaaGreatDoorCk
import Derived.Lib.SmallJoins
namespace Go.Proofs.YtgaigebdbmohcaaGreatDoor
open Go.ChangeShapes Go.WideShapes Go.ChangeAt Go.RowKit Go.Joins Go.Deep

theorem cApi : Tryz.prog.cellsOf 24 = 2 := by kernel_rfl
set_option maxRecDepth 100000 in
theorem open_api {H : Type} {enc : TypeId × Value → H} {W : World} {b0 : Nat} {r : Reach} {v : Value} {d : DataW H} {p : List MemPlace}
    (hv : Value.okWide Tryz.prog W r b0 24 v) (h : DataW.Trod enc Tryz.prog W 0 (fun _ => true) true 24 v d p) :
    ∃ (b : Bool) (a : Option Addr) (len cap : Nat) (xs : List Nat), v = .agg #[.bool b, .slice a len cap] ∧ Rd W a len cap xs ∧ len ≤ 9223372036854775807 := by
  obtain ⟨v0, v1, y0, y1, n, rfl, _, _, t0, t1⟩ := open_agg2 Tryz.underlying24 (by kernel_rfl) cApi hv h
  obtain ⟨b, e1, _⟩ := DataW.trod_bool Tryz.underlying4 t0
  obtain rfl : v0 = .bool b := by simpa using e1
  rcases open_ints Tryz.underlying22 Tryz.underlying54 (by kernel_rfl) t1 with ⟨hcs, _⟩ | ⟨x, l, c, zs, hcs, _, hl, hm, hz, _, hcell, hwz⟩
  · obtain rfl : v1 = .slice none 0 0 := by simpa using hcs
    exact ⟨b, none, 0, 0, [], rfl, Rd.nil_ _ _ _, by omega⟩
  · obtain rfl : v1 = .slice (some x) l c := by simpa using hcs
    obtain ⟨xs, R, m⟩ := rd_of_row (w := W) (a := some x) (len := l) (cap := c) (zs := zs) (.inr ⟨x, rfl, hl, hm, by simpa using hz, hcell, hwz⟩)
    exact ⟨b, some x, l, c, xs, rfl, R, m⟩
end Go.Proofs.YtgaigebdbmohcaaGreatDoor
