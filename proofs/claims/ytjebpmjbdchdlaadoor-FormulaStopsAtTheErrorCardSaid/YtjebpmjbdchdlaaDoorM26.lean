/- Formulas that came in. -/
import Derived.Test.YtjebpmjbdchdlaaDoorRows
import Derived.Test.YtjebpmjbdchdlaaDoorM03
import Derived.WalkKit
import Derived.ProofKit
import Derived.OpenShut
import Derived.ShutString
import Derived.ChangeOld
import Derived.Below
import Derived.Lib.SmallJoins
namespace Go.Proofs.YtjebpmjbdchdlaaDoor
open Go.ChangeShapes Go.WideShapes Go.ChangeAt Go.RowKit Go.Joins Go.Deep
set_option linter.unusedVariables false

/-- What comes in as this type reads as one of these. -/
def Opn {α : Type} (t : TypeId) (C : Cod α) : Prop := ∀ {H : Type} {enc : TypeId × Value → H} {W : World} {n : Nat} {cs : List Value} {x : DataW H × List MemPlace}, DataW.trod enc Tryd.prog W 0 (fun _ => true) true n t cs = some x → ∃ a : α, cs = C.cs a ∧ C.At W a
theorem cells_get8 {w : World} {base : Nat} {a : Addr} {n : Nat} {cs : List Value} (h : w.cells? base a n = some cs) : cs.length = n ∧ ∀ i, i < n → w.cell? (a.add i) = cs[i]? := by
  unfold World.cells? at h
  split at h
  · exact ⟨by simpa using mapM_some_length h, fun i hi => mapM_some_get h i i (by simp [hi])⟩
  · cases h
theorem spot_none8 {w : World} {a : Addr} {v : Value} (h : w.cell? a = some v) : a = ⟨a.block, a.off, none⟩ ∧ a.block < w.heap.size := by
  obtain ⟨b, o, s⟩ := a
  unfold World.cell? at h
  split at h
  · rename_i hb
    cases s with
    | none => exact ⟨rfl, (Array.getElem?_eq_some_iff.1 hb).1⟩
    | some z => simp at h
  · cases h
theorem add_n8 (b o k : Nat) : (⟨b, o, none⟩ : Addr).add k = ⟨b, o + k, none⟩ := by unfold Addr.add; split <;> simp_all
theorem opn_slice {α : Type} {C : Cod α} {t e : TypeId} (hu : Program.underlying Tryd.prog t = some (.slice e)) (hc : Program.cellsOf Tryd.prog e = C.sz) (he : Opn e C) : Opn t (slC C) := by
  intro H enc W n cs x h
  rcases DataW.trod_slice hu h with ⟨h0, _⟩ | ⟨a, len, cap, elems, rest, m, _, h0, _, hb, hl, hm, hlen, hel, _, _⟩
  · exact ⟨⟨none, 0, []⟩, h0, LR.nil_ _ _ _, Nat.le_refl _⟩
  · rw [hc] at hel
    have each : ∀ i, i < len → ∃ y : α, (∀ k v, (C.cs y)[k]? = some v → W.cell? ((a.add (i * C.sz)).add k) = some v) ∧ C.At W y := by
      intro i hi
      have e := hel i hi
      rw [List.getElem?_eq_getElem (by omega), Option.bind_eq_some_iff] at e
      obtain ⟨cs', hcs, hy⟩ := e
      obtain ⟨hcl, hcg⟩ := cells_get8 hcs
      obtain ⟨y, rfl, hat⟩ := he hy
      exact ⟨y, fun k v hv => by rw [hcg k (by rw [← C.len y]; exact (List.getElem?_eq_some_iff.1 hv).1)]; exact hv, hat⟩
    rcases Nat.eq_zero_or_pos len with h1 | h1
    · subst h1
      exact ⟨⟨some a, cap, []⟩, h0, LR.nil_ _ _ _, Nat.zero_le _⟩
    · obtain ⟨y0, e0, _⟩ := each 0 h1
      have e0' := e0 0 _ (List.getElem?_eq_getElem (by rw [C.len]; exact C.pos))
      have ea : (a.add (0 * C.sz)).add 0 = a := by simp [Addr.add]
      rw [ea] at e0'
      obtain ⟨ha, hblt⟩ := spot_none8 e0'
      obtain ⟨b, o, s⟩ := a
      obtain rfl : s = none := by injection ha
      obtain ⟨L, hL⟩ : ∃ L, L = (List.range len).map (fun i => if hi : i < len then (each i hi).choose else y0) := ⟨_, rfl⟩
      have hfl : L.length = len := by rw [hL]; simp
      have hmem : ∀ r ∈ L, ∃ i, ∃ hi : i < len, r = (each i hi).choose := by
        intro r hr
        rw [hL] at hr
        obtain ⟨i, hi, rfl⟩ := List.mem_map.1 hr
        have hil : i < len := by simpa using hi
        exact ⟨i, hil, by simp only [hil, dite_true]⟩
      refine ⟨⟨some ⟨b, o, none⟩, cap, L⟩, by rw [h0, ← hfl]; rfl, ⟨rfl, .inr ⟨b, o, rfl, hblt, fun i x hi k v hv => ?_⟩, fun r hr => ?_⟩, by show L.length ≤ cap; omega⟩
      · have hil : i < len := by rw [← hfl]; exact (List.getElem?_eq_some_iff.1 hi).1
        have er : x = (each i hil).choose := by
          have hi' : L[i]? = some x := hi
          rw [hL, List.getElem?_map, List.getElem?_range hil] at hi'
          simpa [hil] using hi'.symm
        have k0 := (each i hil).choose_spec.1 k v (by rw [← er]; exact hv)
        rw [add_n8, add_n8] at k0
        exact k0
      · obtain ⟨i, hi, rfl⟩ := hmem r hr
        exact (each i hi).choose_spec.2
theorem opn_str : Opn 9 strC := by
  intro H enc W n cs x h
  obtain ⟨s, e, _⟩ := DataW.trod_string Tryd.underlying9 h
  exact ⟨s, e, trivial⟩
theorem opn_int : Opn 3 intC := by
  intro H enc W n cs x h
  obtain ⟨s, e, _⟩ := DataW.trod_int Tryd.underlying3 h
  exact ⟨s, e, trivial⟩
theorem trod_struct3 {H : Type} {enc : TypeId × Value → H} {w : World} {base : Nat} {spare : Nat → Bool} {held : Bool} {t : TypeId} {f0 f1 f2 : Field} {fuel : Nat} {cs : List Value} {x : DataW H × List MemPlace} (ht : Program.underlying Tryd.prog t = some (.struct #[f0, f1, f2])) (h : DataW.trod enc Tryd.prog w base spare held fuel t cs = some x) :
    ∃ y0 y1 y2 n, cs.length = Program.cellsOf Tryd.prog t ∧ DataW.trod enc Tryd.prog w base spare held n f0.type ((cs.drop f0.offset).take (Program.cellsOf Tryd.prog f0.type)) = some y0 ∧ DataW.trod enc Tryd.prog w base spare held n f1.type ((cs.drop f1.offset).take (Program.cellsOf Tryd.prog f1.type)) = some y1 ∧ DataW.trod enc Tryd.prog w base spare held n f2.type ((cs.drop f2.offset).take (Program.cellsOf Tryd.prog f2.type)) = some y2 := by
  obtain ⟨xs, n, _, rfl, hl, hlen, hf⟩ := DataW.trod_struct ht h
  match xs, hlen with
  | [y0, y1, y2], _ => exact ⟨y0, y1, y2, n, hl, by simpa using hf 0 f0 rfl, by simpa using hf 1 f1 rfl, by simpa using hf 2 f2 rfl⟩
theorem c9Int : Program.cellsOf Tryd.prog 3 = 1 := by kernel_rfl
theorem c9Str : Program.cellsOf Tryd.prog 9 = 1 := by kernel_rfl
theorem c9Nd : Program.cellsOf Tryd.prog 53 = 3 := by kernel_rfl
theorem c9Nds : Program.cellsOf Tryd.prog 23 = 1 := by kernel_rfl
theorem c9Fo : Program.cellsOf Tryd.prog 25 = 2 := by kernel_rfl
set_option maxRecDepth 100000 in
theorem opn_node : Opn 53 ndC := by
  intro H enc W n cs x h
  obtain ⟨y0, y1, y2, n, hl, h0, h1, h2⟩ := trod_struct3 Tryd.underlying53 h
  rw [c9Nd] at hl
  match cs, hl with
  | [c0, c1, c2], _ =>
    have h0' : DataW.trod enc Tryd.prog W 0 (fun _ => true) true n 3 [c0] = some y0 := by simpa [c9Int] using h0
    have h1' : DataW.trod enc Tryd.prog W 0 (fun _ => true) true n 9 [c1] = some y1 := by simpa [c9Str] using h1
    have h2' : DataW.trod enc Tryd.prog W 0 (fun _ => true) true n 3 [c2] = some y2 := by simpa [c9Int] using h2
    obtain ⟨o, e0, _⟩ := opn_int h0'
    obtain ⟨s, e1, _⟩ := opn_str h1'
    obtain ⟨k, e2, _⟩ := opn_int h2'
    exact ⟨⟨o, s, k⟩, by show [c0] ++ ([c1] ++ [c2]) = _; rw [e0, e1, e2]; rfl, ⟨trivial, trivial, trivial⟩⟩
theorem opn_nodes : Opn 23 (slC ndC) := opn_slice Tryd.underlying23 c9Nd opn_node
set_option maxRecDepth 100000 in
/-- A formula that came in. -/
theorem open_form {H : Type} {enc : TypeId × Value → H} {W : World} {b0 : Nat} {r : Reach} {v : Value} {d : DataW H} {p : List MemPlace} (hv : Value.okWide Tryd.prog W r b0 25 v) (h : DataW.Trod enc Tryd.prog W 0 (fun _ => true) true 25 v d p) :
    ∃ (s : ByteArray) (l : Sl Nd), v = .agg #[.string s, .slice l.A l.L.length l.c] ∧ LR ndC W l.A l.L.length l.L ∧ l.L.length ≤ l.c := by
  obtain ⟨cs, rfl, hsz⟩ := okWide_struct Tryd.underlying25 hv
  obtain ⟨c0, c1, rfl⟩ : ∃ c0 c1, cs = #[c0, c1] := by
    have hsz := hsz.trans c9Fo
    obtain ⟨l⟩ := cs
    match l, hsz with
    | [c0, c1], _ => exact ⟨c0, c1, rfl⟩
  obtain ⟨fuel, hf⟩ := h
  obtain ⟨y0, y1, n, hx, _, h0, h1⟩ := trod_struct2 Tryd.underlying25 hf
  have h0' : DataW.trod enc Tryd.prog W 0 (fun _ => true) true n 9 [c0] = some y0 := by simpa [Value.cells, c9Str] using h0
  have h1' : DataW.trod enc Tryd.prog W 0 (fun _ => true) true n 23 [c1] = some y1 := by simpa [Value.cells, c9Nds] using h1
  obtain ⟨s, e0, _⟩ := opn_str h0'
  obtain ⟨l, e1, A1⟩ := opn_nodes h1'
  obtain rfl : c0 = .string s := by simpa [strC, cellC] using e0
  obtain rfl : c1 = .slice l.A l.L.length l.c := by simpa [slC, Sl.v] using e1
  exact ⟨s, l, rfl, A1.1, A1.2⟩
end Go.Proofs.YtjebpmjbdchdlaaDoor
