/- What the rows' condition on the listed variables gives: the table of powers of ten; a start that meets it. An integer that came in: a sign and limbs. A rational number that came in: a sign, limbs of the numerator, limbs of the denominator. -/
import Derived.Test.YthlnhmdpimoojaaGreatDoorRows
import Derived.Test.YthlnhmdpimoojaaGreatDoorQLaz
import Derived.WalkKit
import Derived.ProofKit
import Derived.OpenShut
import Derived.ShutString
import Derived.ChangeOld
import Derived.Below
import Derived.LaidMore
import Derived.Stop.Joined
import Derived.Lib.LaidTab
import Derived.Stop.LaidErr
import Derived.Lay
import Derived.Lib.SmallJoins
namespace Go.Proofs.YthlnhmdpimoojaaGreatDoor
open Go.ChangeShapes Go.WideShapes Go.ChangeAt Go.RowKit

theorem own : ownKnob Tryz.prog.godebug = none := by kernel_rfl
theorem laidOut : laidOutB Tryz.prog = true := by kernel_rfl
theorem gPow : Tryz.prog.globalNamed "internal/strconv.uint64pow10" = some 1 := by kernel_rfl
theorem tPow : (Tryz.prog.globals[1]?).map (·.type) = some 170 := by kernel_rfl
theorem cPow : Tryz.prog.cellsOf 170 = 20 := by kernel_rfl
theorem cU64 : Tryz.prog.cellsOf 51 = 1 := by kernel_rfl

abbrev laid7 : List (String × DataW Unit) := [("math/bits.deBruijn32tab", Rows.laid_math_bits_deBruijn32tab), ("math/bits.deBruijn64tab", Rows.laid_math_bits_deBruijn64tab), ("internal/strconv.uint64pow10", Rows.laid_internal_strconv_uint64pow10), ("unicode/utf8.acceptRanges", Rows.laid_unicode_utf8_acceptRanges), ("strconv.ErrRange", Rows.laid_strconv_ErrRange), ("strconv.ErrSyntax", Rows.laid_strconv_ErrSyntax), ("unicode/utf8.first", Rows.laid_unicode_utf8_first)]

theorem tab7 {W : World} (h : laidMetH Tryz.prog laid7 W) : Tab W := by
  rw [MakeChecks.laidMetH_plain _ _ _ (by kernel_rfl)] at h
  exact Lib.tabIs_of_head gPow tPow Tryz.underlying170 Tryz.underlying51 cU64 cPow (laidMet.tail (laidMet.tail h))
theorem laid_met7 (os : Os) (args : Array Value) : laidMetH Tryz.prog laid7 ((World.laidAll Tryz.prog os laid7).forCall (fun _ _ => 0) ⟨#[], args, []⟩).memory := by
  rw [MakeChecks.laidMetH_plain _ _ _ (by kernel_rfl)]
  exact laidMet_laidAll _ (by kernel_rfl) (by kernel_rfl)
theorem laid_shaped (os : Os) : (World.laidAll Tryz.prog os laid7).Shaped Tryz.prog := World.shaped_of_ZipB (by kernel_rfl) (by kernel_rfl)
end Go.Proofs.YthlnhmdpimoojaaGreatDoor

namespace Go.Proofs.YthlnhmdpimoojaaGreatDoor
open Go.ChangeShapes Go.WideShapes Go.ChangeAt Go.RowKit Go.Joins Go.Deep

theorem cApi : Tryz.prog.cellsOf 24 = 2 := by kernel_rfl
end Go.Proofs.YthlnhmdpimoojaaGreatDoor

namespace Go.Proofs.YthlnhmdpimoojaaGreatDoor
open Go.ChangeShapes Go.WideShapes Go.ChangeAt Go.RowKit Go.Joins Go.Deep

theorem cRat : Tryz.prog.cellsOf 26 = 3 := by kernel_rfl
theorem cRow : Tryz.prog.cellsOf 22 = 1 := by kernel_rfl
theorem cBool : Tryz.prog.cellsOf 4 = 1 := by kernel_rfl
theorem open_limbs {H : Type} {enc : TypeId × Value → H} {W : World} {n : Nat} {v : Value} {x : DataW H × List MemPlace} (h : DataW.trod enc Tryz.prog W 0 (fun _ => true) true n 22 [v] = some x) :
    ∃ (a : Option Addr) (len cap : Nat) (xs : List Nat), v = .slice a len cap ∧ Rd W a len cap xs ∧ len ≤ 9223372036854775807 := by
  rcases open_ints Tryz.underlying22 Tryz.underlying38 (by kernel_rfl) h with ⟨hcs, _⟩ | ⟨x, l, c, zs, hcs, _, hl, hm, hz, _, hcell, hwz⟩
  · obtain rfl : v = .slice none 0 0 := by simpa using hcs
    exact ⟨none, 0, 0, [], rfl, Rd.nil_ _ _ _, by omega⟩
  · obtain rfl : v = .slice (some x) l c := by simpa using hcs
    obtain ⟨xs, R, m⟩ := rd_of_row (w := W) (a := some x) (len := l) (cap := c) (zs := zs) (.inr ⟨x, rfl, hl, hm, by simpa using hz, hcell, hwz⟩)
    exact ⟨some x, l, c, xs, rfl, R, m⟩
set_option maxRecDepth 100000 in
theorem open_rat {H : Type} {enc : TypeId × Value → H} {W : World} {b0 : Nat} {r : Reach} {v : Value} {d : DataW H} {p : List MemPlace}
    (hv : Value.okWide Tryz.prog W r b0 26 v) (h : DataW.Trod enc Tryz.prog W 0 (fun _ => true) true 26 v d p) :
    ∃ (b : Bool) (a : Option Addr) (len cap : Nat) (xs : List Nat) (a' : Option Addr) (len' cap' : Nat) (ds : List Nat), v = .agg #[.bool b, .slice a len cap, .slice a' len' cap'] ∧ Rd W a len cap xs ∧ len ≤ 9223372036854775807 ∧ Rd W a' len' cap' ds ∧ len' ≤ 9223372036854775807 := by
  obtain ⟨cs, rfl, hsz⟩ := okWide_struct Tryz.underlying26 hv
  obtain ⟨c0, c1, c2, rfl⟩ := array3 (hsz.trans cRat)
  obtain ⟨fuel, hf⟩ := h
  obtain ⟨y0, y1, n, hx, _, h0, h1⟩ := trod_struct2 Tryz.underlying26 hf
  have h0' : DataW.trod enc Tryz.prog W 0 (fun _ => true) true n 24 [c0, c1] = some y0 := by simpa [Value.cells, cApi, cRow] using h0
  have h1' : DataW.trod enc Tryz.prog W 0 (fun _ => true) true n 22 [c2] = some y1 := by simpa [Value.cells, cApi, cRow] using h1
  obtain ⟨z0, z1, m, hz, _, k0, k1⟩ := trod_struct2 Tryz.underlying24 h0'
  have k0' : DataW.trod enc Tryz.prog W 0 (fun _ => true) true m 4 [c0] = some z0 := by simpa [cBool, cRow] using k0
  have k1' : DataW.trod enc Tryz.prog W 0 (fun _ => true) true m 22 [c1] = some z1 := by simpa [cBool, cRow] using k1
  obtain ⟨b, e1, _⟩ := DataW.trod_bool Tryz.underlying4 k0'
  obtain rfl : c0 = .bool b := by simpa using e1
  obtain ⟨a, len, cap, xs, rfl, R1, m1⟩ := open_limbs k1'
  obtain ⟨a', len', cap', ds, rfl, R2, m2⟩ := open_limbs h1'
  exact ⟨b, a, len, cap, xs, a', len', cap', ds, rfl, R1, m1, R2, m2⟩
end Go.Proofs.YthlnhmdpimoojaaGreatDoor
