/- What the rows' condition on the listed variables gives: the table of operations; a start that meets it. -/
import Derived.Test.YtjebpmjbdchdlaaDoorRows
import Derived.Test.YtjebpmjbdchdlaaDoorM03
import Derived.WalkKit
import Derived.ProofKit
import Derived.OpenShut
import Derived.ShutString
import Derived.ChangeOld
import Derived.Below
import Derived.LaidMore
import Derived.Lib.LaidTab
import Derived.Stop.Joined
import Derived.Stop.LaidErr
import Derived.Lay
namespace Go.Proofs.YtjebpmjbdchdlaaDoor
open Go.ChangeShapes Go.WideShapes Go.ChangeAt Go.RowKit
set_option linter.unusedVariables false

theorem own : ownKnob Tryd.prog.godebug = none := by kernel_rfl
theorem laidOut : laidOutB Tryd.prog = true := by kernel_rfl
abbrev laid6 : List (String × DataW Unit) := [("math/bits.deBruijn32tab", Rows.laid_math_bits_deBruijn32tab), ("math/bits.deBruijn64tab", Rows.laid_math_bits_deBruijn64tab), ("internal/strconv.uint64pow10", Rows.laid_internal_strconv_uint64pow10), ("unicode/utf8.acceptRanges", Rows.laid_unicode_utf8_acceptRanges), ("robuststats/formula.operations", Rows.laid_robuststats_formula_operations), ("unicode/utf8.first", Rows.laid_unicode_utf8_first)]
theorem laid_met6 (os : Os) (args : Array Value) : laidMetH Tryd.prog laid6 ((World.laidAll Tryd.prog os laid6).forCall (fun _ _ => 0) ⟨#[], args, []⟩).memory := by
  rw [MakeChecks.laidMetH_plain _ _ _ (by kernel_rfl)]
  exact laidMet_laidAll _ (by kernel_rfl) (by kernel_rfl)
theorem laid_shaped (os : Os) : (World.laidAll Tryd.prog os laid6).Shaped Tryd.prog := World.shaped_of_ZipB (by kernel_rfl) (by kernel_rfl)

theorem gOps : Tryd.prog.globalNamed "robuststats/formula.operations" = some 0 := by kernel_rfl
theorem tOps : (Tryd.prog.globals[0]?).map (·.type) = some 56 := by kernel_rfl
theorem cOps : Tryd.prog.cellsOf 56 = 66 := by kernel_rfl
theorem cOp : Tryd.prog.cellsOf 55 = 6 := by kernel_rfl
theorem cStr : Tryd.prog.cellsOf 9 = 1 := by kernel_rfl
theorem cInt : Tryd.prog.cellsOf 3 = 1 := by kernel_rfl
theorem cBoo : Tryd.prog.cellsOf 4 = 1 := by kernel_rfl
/-- The rows of the table. -/
def opR : List (List UInt8 × Int × Int × Bool × Int × Int) := [([], 0, 0, false, 0, 0), ([], 5, 0, true, 0, 0), ([112, 111, 119, 101, 114], 5, 0, true, 2, 8), ([49], 5, 0, false, 0, 0), ([48], 5, 0, false, 0, 0), ([43], 1, 2, false, 0, 0), ([45], 1, 2, false, 0, 0), ([58], 3, 2, false, 0, 0), ([42], 2, 2, false, 0, 0), ([47], 2, 2, false, 0, 0), ([94], 4, 1, false, 1, 6)]
def opD {H : Type} (r : List UInt8 × Int × Int × Bool × Int × Int) : DataW H := .agg [.lit (.string r.1), .lit (.int .i64 r.2.1), .lit (.int .i64 r.2.2.1), .lit (.bool r.2.2.2.1), .lit (.int .i64 r.2.2.2.2.1), .lit (.int .i64 r.2.2.2.2.2)]
def opV (r : List UInt8 × Int × Int × Bool × Int × Int) : List Value := [.string ⟨r.1.toArray⟩, .int .i64 r.2.1, .int .i64 r.2.2.1, .bool r.2.2.2.1, .int .i64 r.2.2.2.2.1, .int .i64 r.2.2.2.2.2]
theorem opD_all {H : Type} : (Rows.laid_robuststats_formula_operations : DataW H) = .agg (opR.map opD) := rfl
theorem opV_all : opR.flatMap opV = opsC.toList := rfl
theorem take1 {l : List Value} {k : Nat} {v : Value} (h : (l.drop k).take 1 = [v]) : l[k]? = some v := by
  have := congrArg (·[0]?) h
  simpa [List.getElem?_take, List.getElem?_drop] using this
set_option maxRecDepth 100000 in
theorem op_cells {w : World} {base : Nat} {sp : Nat → Bool} {held : Bool} {fuel : Nat} {cs : List Value} {r : List UInt8 × Int × Int × Bool × Int × Int} {p : List MemPlace}
    (h : DataW.trod (fun _ => ()) Tryd.prog w base sp held fuel 55 cs = some (opD r, p)) : cs = opV r := by
  obtain ⟨xs, n, rfl, hx, hl, hxl, hf⟩ := DataW.trod_struct Tryd.underlying55 h
  rw [cOp] at hl
  have hm : xs.map (·.1) = [.lit (.string r.1), .lit (.int .i64 r.2.1), .lit (.int .i64 r.2.2.1), .lit (.bool r.2.2.2.1), .lit (.int .i64 r.2.2.2.2.1), .lit (.int .i64 r.2.2.2.2.2)] := by
    have := (congrArg Prod.fst hx).symm
    simpa [opD] using this
  have ex : ∀ (i : Nat) (d : DataW Unit), (xs.map (·.1))[i]? = some d → ∃ q, xs[i]? = some (d, q) := fun i d h => by
    rw [List.getElem?_map] at h
    obtain ⟨⟨a, b⟩, h1, h2⟩ := Option.map_eq_some_iff.1 h
    exact ⟨b, by rw [h1]; simp at h2; rw [h2]⟩
  rw [hm] at ex
  obtain ⟨q0, x0⟩ := ex 0 _ rfl
  obtain ⟨q1, x1⟩ := ex 1 _ rfl
  obtain ⟨q2, x2⟩ := ex 2 _ rfl
  obtain ⟨q3, x3⟩ := ex 3 _ rfl
  obtain ⟨q4, x4⟩ := ex 4 _ rfl
  obtain ⟨q5, x5⟩ := ex 5 _ rfl
  have f0 := hf 0 _ rfl
  change DataW.trod _ _ _ _ _ _ _ 9 ((cs.drop 0).take (Tryd.prog.cellsOf 9)) = _ at f0
  have f1 := hf 1 _ rfl
  change DataW.trod _ _ _ _ _ _ _ 3 ((cs.drop 1).take (Tryd.prog.cellsOf 3)) = _ at f1
  have f2 := hf 2 _ rfl
  change DataW.trod _ _ _ _ _ _ _ 3 ((cs.drop 2).take (Tryd.prog.cellsOf 3)) = _ at f2
  have f3 := hf 3 _ rfl
  change DataW.trod _ _ _ _ _ _ _ 4 ((cs.drop 3).take (Tryd.prog.cellsOf 4)) = _ at f3
  have f4 := hf 4 _ rfl
  change DataW.trod _ _ _ _ _ _ _ 3 ((cs.drop 4).take (Tryd.prog.cellsOf 3)) = _ at f4
  have f5 := hf 5 _ rfl
  change DataW.trod _ _ _ _ _ _ _ 3 ((cs.drop 5).take (Tryd.prog.cellsOf 3)) = _ at f5
  rw [x0] at f0
  rw [x1] at f1
  rw [x2] at f2
  rw [x3] at f3
  rw [x4] at f4
  rw [x5] at f5
  obtain ⟨s, a0, b0, _⟩ := DataW.trod_string Tryd.underlying9 f0
  obtain ⟨v1, a1, b1, _⟩ := DataW.trod_int Tryd.underlying3 f1
  obtain ⟨v2, a2, b2, _⟩ := DataW.trod_int Tryd.underlying3 f2
  obtain ⟨v3, a3, b3⟩ := DataW.trod_bool Tryd.underlying4 f3
  obtain ⟨v4, a4, b4, _⟩ := DataW.trod_int Tryd.underlying3 f4
  obtain ⟨v5, a5, b5, _⟩ := DataW.trod_int Tryd.underlying3 f5
  simp only [Prod.mk.injEq, DataW.lit.injEq, Lit.string.injEq, Lit.int.injEq, Lit.bool.injEq, true_and] at b0 b1 b2 b3 b4 b5
  obtain ⟨rr, r1, r2, r3, r4, r5⟩ := r
  simp only at b0 b1 b2 b3 b4 b5
  have e0 : s = ⟨rr.toArray⟩ := by rw [b0.1]
  rw [e0] at a0
  rw [← b1.1] at a1
  rw [← b2.1] at a2
  rw [← b3.1] at a3
  rw [← b4.1] at a4
  rw [← b5.1] at a5
  rw [show Tryd.prog.cellsOf 9 = 1 from cStr] at a0
  rw [show Tryd.prog.cellsOf 3 = 1 from cInt] at a1 a2 a4 a5
  rw [show Tryd.prog.cellsOf 4 = 1 from cBoo] at a3
  have g0 := take1 a0
  have g1 := take1 a1
  have g2 := take1 a2
  have g3 := take1 a3
  have g4 := take1 a4
  have g5 := take1 a5
  match cs, hl with
  | [c0, c1, c2, c3, c4, c5], _ =>
    simp only [List.getElem?_cons_zero, List.getElem?_cons_succ, Option.some.injEq] at g0 g1 g2 g3 g4 g5
    rw [g0, g1, g2, g3, g4, g5]
    rfl
theorem chunks : ∀ (rs : List (List UInt8 × Int × Int × Bool × Int × Int)) (cs : List Value), cs.length = rs.length * 6 → (∀ i r, rs[i]? = some r → (cs.drop (i * 6)).take 6 = opV r) → cs = rs.flatMap opV
  | [], cs, hl, _ => by
    simp at hl
    rw [hl]; rfl
  | r :: rs, cs, hl, h => by
    rw [List.length_cons] at hl
    have h0 := h 0 r rfl
    rw [Nat.zero_mul, List.drop_zero] at h0
    have h1 := chunks rs (cs.drop 6) (by rw [List.length_drop]; omega) (fun i r' hi => by
      have := h (i + 1) r' (by simpa using hi)
      rw [List.drop_drop, show 6 + i * 6 = (i + 1) * 6 by omega]
      exact this)
    rw [List.flatMap_cons, ← h0, ← h1, List.take_append_drop]
theorem og_laid {W : World} (h : laidMetH Tryd.prog laid6 W) : Og W := by
  rw [MakeChecks.laidMetH_plain _ _ _ (by kernel_rfl)] at h
  obtain ⟨ps, ⟨g', t', cs, fuel, p, q, hg', ht', hvar, hd, _, _⟩, _⟩ := laidMet.tail (laidMet.tail (laidMet.tail (laidMet.tail h)))
  obtain rfl := Option.some.inj (gOps.symm.trans hg')
  obtain rfl := Option.some.inj (tOps.symm.trans ht')
  rw [opD_all] at hd
  obtain ⟨xs, m, rfl, hx, hl, hxl, hf⟩ := DataW.trod_array Tryd.underlying56 hd
  rw [cOps] at hl
  have hm : xs.map (·.1) = opR.map opD := by
    have := (congrArg Prod.fst hx).symm
    simpa using this
  have hall : cs.toList = opR.flatMap opV := by
    refine chunks opR cs.toList (by rw [hl]; rfl) fun i r hi => ?_
    have hi11 : i < 11 := (List.getElem?_eq_some_iff.1 hi).1
    have e1 : (xs.map (·.1))[i]? = some (opD r) := by rw [hm, List.getElem?_map, hi]; rfl
    rw [List.getElem?_map] at e1
    obtain ⟨⟨a, b⟩, h1, h2⟩ := Option.map_eq_some_iff.1 e1
    simp only at h2
    subst h2
    have h3 := hf i hi11
    rw [h1, cOp] at h3
    exact op_cells h3
  rw [opV_all] at hall
  have hcs : cs = opsC := Array.ext' hall
  subst hcs
  have hc := fun i => World.var?_cell gOps hvar i
  refine ⟨?_, fun k v hk => by rw [hc k]; exact hk⟩
  have h0 : W.cell? ⟨0, 0, none⟩ = some (.string ⟨#[]⟩) := by rw [hc 0]; rfl
  unfold World.cell? at h0
  split at h0
  · rename_i hb
    exact (Array.getElem?_eq_some_iff.1 hb).1
  · cases h0
end Go.Proofs.YtjebpmjbdchdlaaDoor
