/- What the rows' condition gives; a start that meets it; lists of texts that came in. -/
import Derived.Test.YtlflaalefilplaaDoorRows
import Derived.Test.YtlflaalefilplaaDoorM03
import Derived.WalkKit
import Derived.ProofKit
import Derived.OpenShut
import Derived.ShutString
import Derived.ChangeOld
import Derived.Below
import Derived.LaidMore
import Derived.Stop.Joined
import Derived.Stop.LaidErr
import Derived.Lay
import Derived.Lib.SmallJoins
namespace Go.Proofs.YtlflaalefilplaaDoor
open Go.ChangeShapes Go.WideShapes Go.ChangeAt Go.RowKit Go.Joins Go.Deep
set_option linter.unusedVariables false

theorem own : ownKnob Tryd.prog.godebug = none := by kernel_rfl
theorem laidOut : laidOutB Tryd.prog = true := by kernel_rfl
abbrev laid3 : List (String × DataW Unit) := [("math/bits.deBruijn32tab", Rows.laid_math_bits_deBruijn32tab), ("math/bits.deBruijn64tab", Rows.laid_math_bits_deBruijn64tab), ("internal/strconv.uint64pow10", Rows.laid_internal_strconv_uint64pow10)]
theorem laid_met3 (os : Os) (args : Array Value) : laidMetH Tryd.prog laid3 ((World.laidAll Tryd.prog os laid3).forCall (fun _ _ => 0) ⟨#[], args, []⟩).memory := by
  rw [MakeChecks.laidMetH_plain _ _ _ (by kernel_rfl)]
  exact laidMet_laidAll _ (by kernel_rfl) (by kernel_rfl)
theorem laid_shaped (os : Os) : (World.laidAll Tryd.prog os laid3).Shaped Tryd.prog := World.shaped_of_ZipB (by kernel_rfl) (by kernel_rfl)
theorem byte_in {n : Int} (h : (Lit.int .u8 n).wf = true) : ∃ c : UInt8, n = (c.toNat : Int) := by
  obtain ⟨h1, h2⟩ := bounds_u8 h
  refine ⟨UInt8.ofNat n.toNat, ?_⟩
  rw [UInt8.toNat_ofNat']
  omega
/-- What comes in as this type reads as one of these. -/
def Opn {α : Type} (t : TypeId) (C : Cod α) : Prop := ∀ {H : Type} {enc : TypeId × Value → H} {W : World} {n : Nat} {cs : List Value} {x : DataW H × List MemPlace}, DataW.trod enc Tryd.prog W 0 (fun _ => true) true n t cs = some x → ∃ a : α, cs = C.cs a ∧ C.At W a
theorem cells_get8 {w : World} {base : Nat} {a : Addr} {n : Nat} {cs : List Value} (h : w.cells? base a n = some cs) : cs.length = n ∧ ∀ i, i < n → w.cell? (a.add i) = cs[i]? := by
  unfold World.cells? at h
  split at h
  · exact ⟨by simpa using mapM_some_length h, fun i hi => mapM_some_get h i i (by simp [hi])⟩
  · cases h
theorem spot_none8 {w : World} {a : Addr} {v : Value} (h : w.cell? a = some v) : a = ⟨a.block, a.off, none⟩ ∧ a.block < w.heap.size := by
  obtain ⟨b, o, s⟩ := a
  unfold World.cell? at h
  split at h
  · rename_i hb
    cases s with
    | none => exact ⟨rfl, (Array.getElem?_eq_some_iff.1 hb).1⟩
    | some z => simp at h
  · cases h
theorem add_n8 (b o k : Nat) : (⟨b, o, none⟩ : Addr).add k = ⟨b, o + k, none⟩ := by unfold Addr.add; split <;> simp_all
theorem opn_slice {α : Type} {C : Cod α} {t e : TypeId} (hu : Program.underlying Tryd.prog t = some (.slice e)) (hc : Program.cellsOf Tryd.prog e = C.sz) (he : Opn e C) : Opn t (slC C) := by
  intro H enc W n cs x h
  rcases DataW.trod_slice hu h with ⟨h0, _⟩ | ⟨a, len, cap, elems, rest, m, _, h0, _, hb, hl, hm, hlen, hel, _, _⟩
  · exact ⟨⟨none, 0, []⟩, h0, LR.nil_ _ _ _, Nat.le_refl _⟩
  · rw [hc] at hel
    have each : ∀ i, i < len → ∃ y : α, (∀ k v, (C.cs y)[k]? = some v → W.cell? ((a.add (i * C.sz)).add k) = some v) ∧ C.At W y := by
      intro i hi
      have e := hel i hi
      rw [List.getElem?_eq_getElem (by omega), Option.bind_eq_some_iff] at e
      obtain ⟨cs', hcs, hy⟩ := e
      obtain ⟨hcl, hcg⟩ := cells_get8 hcs
      obtain ⟨y, rfl, hat⟩ := he hy
      exact ⟨y, fun k v hv => by rw [hcg k (by rw [← C.len y]; exact (List.getElem?_eq_some_iff.1 hv).1)]; exact hv, hat⟩
    rcases Nat.eq_zero_or_pos len with h1 | h1
    · subst h1
      exact ⟨⟨some a, cap, []⟩, h0, LR.nil_ _ _ _, Nat.zero_le _⟩
    · obtain ⟨y0, e0, _⟩ := each 0 h1
      have e0' := e0 0 _ (List.getElem?_eq_getElem (by rw [C.len]; exact C.pos))
      have ea : (a.add (0 * C.sz)).add 0 = a := by simp [Addr.add]
      rw [ea] at e0'
      obtain ⟨ha, hblt⟩ := spot_none8 e0'
      obtain ⟨b, o, s⟩ := a
      obtain rfl : s = none := by injection ha
      obtain ⟨L, hL⟩ : ∃ L, L = (List.range len).map (fun i => if hi : i < len then (each i hi).choose else y0) := ⟨_, rfl⟩
      have hfl : L.length = len := by rw [hL]; simp
      have hmem : ∀ r ∈ L, ∃ i, ∃ hi : i < len, r = (each i hi).choose := by
        intro r hr
        rw [hL] at hr
        obtain ⟨i, hi, rfl⟩ := List.mem_map.1 hr
        have hil : i < len := by simpa using hi
        exact ⟨i, hil, by simp only [hil, dite_true]⟩
      refine ⟨⟨some ⟨b, o, none⟩, cap, L⟩, by rw [h0, ← hfl]; rfl, ⟨rfl, .inr ⟨b, o, rfl, hblt, fun i x hi k v hv => ?_⟩, fun r hr => ?_⟩, by show L.length ≤ cap; omega⟩
      · have hil : i < len := by rw [← hfl]; exact (List.getElem?_eq_some_iff.1 hi).1
        have er : x = (each i hil).choose := by
          have hi' : L[i]? = some x := hi
          rw [hL, List.getElem?_map, List.getElem?_range hil] at hi'
          simpa [hil] using hi'.symm
        have k0 := (each i hil).choose_spec.1 k v (by rw [← er]; exact hv)
        rw [add_n8, add_n8] at k0
        exact k0
      · obtain ⟨i, hi, rfl⟩ := hmem r hr
        exact (each i hi).choose_spec.2
theorem opn_str : Opn 9 strC := by
  intro H enc W n cs x h
  obtain ⟨s, e, _⟩ := DataW.trod_string Tryd.underlying9 h
  exact ⟨s, e, trivial⟩
theorem cStr : Program.cellsOf Tryd.prog 9 = 1 := by kernel_rfl
theorem cLst : Program.cellsOf Tryd.prog 29 = 1 := by kernel_rfl
theorem opn_strs : Opn 29 (slC strC) := opn_slice Tryd.underlying29 cStr opn_str
set_option maxRecDepth 100000 in
/-- A list of texts that came in. -/
theorem open_strs {H : Type} {enc : TypeId × Value → H} {W : World} {b0 : Nat} {r : Reach} {v : Value} {d : DataW H} {p : List MemPlace} (hv : Value.okWide Tryd.prog W r b0 29 v) (h : DataW.Trod enc Tryd.prog W 0 (fun _ => true) true 29 v d p) :
    ∃ s : Sl ByteArray, v = .slice s.A s.L.length s.c ∧ LR strC W s.A s.L.length s.L := by
  obtain ⟨sa, sl, sc, rfl⟩ := okWide_slice Tryd.underlying29 hv
  obtain ⟨fuel, hf⟩ := h
  obtain ⟨s, e, A1⟩ := opn_strs (show DataW.trod enc Tryd.prog W 0 (fun _ => true) true fuel 29 [.slice sa sl sc] = some _ by simpa [Value.cells] using hf)
  have e : Value.slice sa sl sc = Value.slice s.A s.L.length s.c := by simpa [slC, Sl.v] using e
  exact ⟨s, e, A1.1⟩
end Go.Proofs.YtlflaalefilplaaDoor
