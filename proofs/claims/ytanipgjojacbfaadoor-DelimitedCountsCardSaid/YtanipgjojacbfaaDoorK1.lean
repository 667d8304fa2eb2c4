/- What the rows' condition gives: the world's shape and the listed tables; texts and lists of records that came in. -/
import Derived.Test.YtanipgjojacbfaaDoorRows
import Derived.Test.YtanipgjojacbfaaDoorC8
import Derived.WalkKit
import Derived.ProofKit
import Derived.OpenShut
import Derived.ShutString
import Derived.ChangeOld
import Derived.Below
import Derived.LaidMore
import Derived.Stop.Joined
import Derived.Stop.LaidErr
import Derived.Lay
import Derived.Shelf.Vars
import Derived.Lib.SmallJoins
namespace Go.Proofs.YtanipgjojacbfaaDoor
open Go.ChangeShapes Go.WideShapes Go.ChangeAt Go.RowKit Go.Joins Go.Deep
set_option linter.unusedVariables false

theorem own : ownKnob Tryd.prog.godebug = none := by kernel_rfl
theorem laidOut : laidOutB Tryd.prog = true := by kernel_rfl
abbrev laid2 : List (String × DataW Unit) := [("unicode/utf8.acceptRanges", Rows.laid_unicode_utf8_acceptRanges), ("unicode/utf8.first", Rows.laid_unicode_utf8_first)]
theorem laid_met2 (os : Os) (args : Array Value) : laidMetH Tryd.prog laid2 ((World.laidAll Tryd.prog os laid2).forCall (fun _ _ => 0) ⟨#[], args, []⟩).memory := by
  rw [MakeChecks.laidMetH_plain _ _ _ (by kernel_rfl)]
  exact laidMet_laidAll _ (by kernel_rfl) (by kernel_rfl)
theorem laid_shaped (os : Os) : (World.laidAll Tryd.prog os laid2).Shaped Tryd.prog := World.shaped_of_ZipB (by kernel_rfl) (by kernel_rfl)
theorem mx_of_shaped {W : World} (h : W.ShapedOpen Tryd.prog) : Mx W :=
  cell_of_shapedOpen_int (g := 0) (t := 3) (zero := #[.int .i64 0]) h (by decide) (by kernel_rfl) rfl (by kernel_rfl) (by kernel_rfl) Tryd.underlying3

/-- The wrap of a law whose row lists variables, the world's shape kept. -/
theorem handed_shaped {H : Type} {enc : TypeId × Value → H} {os : Os} {f : FuncId} {fn : Func} {s : ChangeSpec} {X : World → Array Value → Prop}
    (hX : ∀ (w w' : World) (args : Array Value), w.heap = w'.heap → X w args → X w' args)
    (started : os.Started) (noInit : Tryd.checked.prog.inits.idxOf? f = none) (hfn : Tryd.checked.prog.funcs[f]? = some fn)
    (witness : ∃ (w : World) (tape : Tape) (i : Input), w.os = os ∧ (w.forCall tape i).Shaped Tryd.checked.prog ∧ i.vars = [] ∧ Input.okWide Tryd.checked.prog (w.forCall tape i) .any w.heap.size f i ∧
      ((s.pre enc Tryd.checked.prog fn [] false (w.forCall tape i).memory i.args ∧ X (w.forCall tape i).memory i.args) ∧ sizedMet enc Tryd.checked.prog fn (OpenSpec.ofChange s) false (w.forCall tape i).memory i.args) ∧ ({} : Assume).holds Tryd.checked.prog (lone (Frame.enter Tryd.checked.prog f i.args .normal) [] (w.forCall tape i)))
    (contract : ∀ (W : World) (base : Nat) (args : Array Value) (ds gs : List (DataW H)) (before : List MemPlace),
      (∀ (j : Nat) t v, fn.params[j]? = some t → args[j]? = some v → Value.okWide Tryd.checked.prog W .any base t v) →
      DataW.Whole enc Tryd.checked.prog fn.params.toList s.vars false W args.toList ds gs before → W.ShapedOpen Tryd.checked.prog →
      Calls Tryd.checked.prog f args W fun e W' => ∃ v, e = .returned v ∧ s.post enc Tryd.checked.prog fn false true false false W args v W') :
    ReturnsInHanded {} Tryd.checked os f .any (fun w args => (s.pre enc Tryd.checked.prog fn [] false w args ∧ X w args) ∧ sizedMet enc Tryd.checked.prog fn (OpenSpec.ofChange s) false w args) (s.post enc Tryd.checked.prog fn false true false false) := by
  refine returnsInHanded_of_calls own started noInit witness ?_
  intro w tape i _ hsh _ hok hpre hholds
  obtain ⟨_, _, _, fn', hfn', _, _, _, _, hval⟩ := hok
  have e : fn' = fn := Option.some.inj (hfn'.symm.trans hfn)
  subst e
  obtain ⟨⟨⟨ds, gs, before, hw, hc⟩, hx⟩, hz⟩ := hpre
  have hw' := DataW.Whole.of_heap (w' := w.forCall tape i) (by rfl) hw
  refine (contract (w.forCall tape i) w.heap.size i.args ds gs before hval hw' hsh).mono fun e W' ⟨v, he, hp⟩ => ?_
  subst he
  exact ChangeSpec.post_blind hp

theorem cells_get {w : World} {base : Nat} {a : Addr} {n : Nat} {cs : List Value} (h : w.cells? base a n = some cs) : cs.length = n ∧ ∀ i, i < n → w.cell? (a.add i) = cs[i]? := by
  unfold World.cells? at h
  split at h
  · exact ⟨by simpa using mapM_some_length h, fun i hi => mapM_some_get h i i (by simp [hi])⟩
  · cases h
theorem spot_none {w : World} {a : Addr} {v : Value} (h : w.cell? a = some v) : a = ⟨a.block, a.off, none⟩ ∧ a.block < w.heap.size := by
  obtain ⟨b, o, s⟩ := a
  unfold World.cell? at h
  split at h
  · rename_i hb
    cases s with
    | none => exact ⟨rfl, (Array.getElem?_eq_some_iff.1 hb).1⟩
    | some z => simp at h
  · cases h
theorem add_n (b o k : Nat) : (⟨b, o, none⟩ : Addr).add k = ⟨b, o + k, none⟩ := by unfold Addr.add; split <;> simp_all
theorem cStr : Tryd.prog.cellsOf 9 = 1 := by kernel_rfl
theorem cLst : Tryd.prog.cellsOf 34 = 1 := by kernel_rfl
/-- A list of fields that came in. -/
theorem open_strs {H : Type} {enc : TypeId × Value → H} {W : World} {n : Nat} {v : Value} {x : DataW H × List MemPlace} (h : DataW.trod enc Tryd.prog W 0 (fun _ => true) true n 34 [v] = some x) :
    ∃ r : Row, v = r.val ∧ SR W r.A r.fs.length r.fs ∧ r.fs.length ≤ 9223372036854775807 ∧ ∀ f ∈ r.fs, f.length ≤ 9223372036854775807 := by
  rcases DataW.trod_slice Tryd.underlying34 h with ⟨h0, _⟩ | ⟨a, len, cap, elems, rest, m, _, h0, _, hb, hl, hm, hlen, hel, _, _⟩
  · obtain rfl : v = .slice none 0 0 := by simpa using h0
    exact ⟨⟨none, 0, []⟩, rfl, ⟨rfl, .inl rfl⟩, by decide, fun f hf => (by cases hf)⟩
  · obtain rfl : v = .slice (some a) len cap := by simpa using h0
    have hm' : len ≤ 9223372036854775807 := by unfold maxLen at hm; omega
    rw [cStr] at hel
    have each : ∀ i, i < len → ∃ f : Bs, W.cell? (a.add (i * 1)) = some (sV f) ∧ f.length ≤ 9223372036854775807 := by
      intro i hi
      have e := hel i hi
      rw [List.getElem?_eq_getElem (by omega), Option.bind_eq_some_iff] at e
      obtain ⟨cs, hcs, hy⟩ := e
      obtain ⟨hcl, hcg⟩ := cells_get hcs
      match cs, hcl with
      | [c0], _ =>
        obtain ⟨s, e1, _, hs⟩ := DataW.trod_string Tryd.underlying9 hy
        obtain rfl : c0 = .string s := by simpa using e1
        refine ⟨s.data.toList, ?_, ?_⟩
        · refine (show W.cell? (a.add (i * 1)) = _ from hcg 0 (by omega)).trans ?_
          show some (Value.string s) = some (Value.string (bA s.data.toList))
          rw [bA_of]
        · rw [sz]; unfold maxLen at hs; omega
    rcases Nat.eq_zero_or_pos len with h0 | h0
    · subst h0
      exact ⟨⟨some a, cap, []⟩, rfl, ⟨rfl, .inl rfl⟩, by simp, fun f hf => (by cases hf)⟩
    · obtain ⟨f0, e0, _⟩ := each 0 h0
      have ea : a.add (0 * 1) = a := by simp [Addr.add]
      rw [ea] at e0
      obtain ⟨ha, hblt⟩ := spot_none e0
      obtain ⟨b, o, s⟩ := a
      obtain rfl : s = none := by injection ha
      obtain ⟨fs, hfs⟩ : ∃ fs, fs = (List.range len).map (fun i => if hi : i < len then (each i hi).choose else []) := ⟨_, rfl⟩
      have hfl : fs.length = len := by rw [hfs]; simp
      refine ⟨⟨some ⟨b, o, none⟩, cap, fs⟩, by rw [Row.val, hfl], ⟨rfl, .inr ⟨b, o, rfl, hblt, fun i x hi => ?_⟩⟩, by show fs.length ≤ _; omega, fun f hf => ?_⟩
      · have hil : i < len := by
          have := (List.getElem?_eq_some_iff.1 hi).1
          rw [← hfl]; exact this
        have er : x = (each i hil).choose := by
          have hi' : fs[i]? = some x := hi
          rw [hfs, List.getElem?_map, List.getElem?_range hil] at hi'
          simpa [hil] using hi'.symm
        have k0 := (each i hil).choose_spec.1
        rw [← er] at k0
        rw [add_n, Nat.mul_one] at k0
        exact k0
      · have hf' : f ∈ fs := hf
        rw [hfs] at hf'
        obtain ⟨i, hi, rfl⟩ := List.mem_map.1 hf'
        have hil : i < len := by simpa using hi
        simp only [hil, dite_true]
        exact (each i hil).choose_spec.2
/-- A list of records that came in. -/
theorem open_recs {H : Type} {enc : TypeId × Value → H} {W : World} {n : Nat} {v : Value} {x : DataW H × List MemPlace} (h : DataW.trod enc Tryd.prog W 0 (fun _ => true) true n 23 [v] = some x) :
    ∃ (A : Option Addr) (c : Nat) (R : List Row), v = .slice A R.length c ∧ MR W A R.length R ∧ R.length ≤ 9223372036854775807 ∧ ∀ r ∈ R, r.fs.length ≤ 9223372036854775807 ∧ ∀ f ∈ r.fs, f.length ≤ 9223372036854775807 := by
  rcases DataW.trod_slice Tryd.underlying23 h with ⟨h0, _⟩ | ⟨a, len, cap, elems, rest, m, _, h0, _, hb, hl, hm, hlen, hel, _, _⟩
  · obtain rfl : v = .slice none 0 0 := by simpa using h0
    exact ⟨none, 0, [], rfl, ⟨rfl, .inl rfl, fun r hr => (by cases hr)⟩, by decide, fun r hr => (by cases hr)⟩
  · obtain rfl : v = .slice (some a) len cap := by simpa using h0
    have hm' : len ≤ 9223372036854775807 := by unfold maxLen at hm; omega
    rw [cLst] at hel
    have each : ∀ i, i < len → ∃ r : Row, W.cell? (a.add (i * 1)) = some r.val ∧ SR W r.A r.fs.length r.fs ∧ (r.fs.length ≤ 9223372036854775807 ∧ ∀ f ∈ r.fs, f.length ≤ 9223372036854775807) := by
      intro i hi
      have e := hel i hi
      rw [List.getElem?_eq_getElem (by omega), Option.bind_eq_some_iff] at e
      obtain ⟨cs, hcs, hy⟩ := e
      obtain ⟨hcl, hcg⟩ := cells_get hcs
      match cs, hcl with
      | [c0], _ =>
        obtain ⟨r, rfl, h1, h2, h3⟩ := open_strs hy
        exact ⟨r, hcg 0 (by omega), h1, h2, h3⟩
    rcases Nat.eq_zero_or_pos len with h0 | h0
    · subst h0
      exact ⟨some a, cap, [], rfl, ⟨rfl, .inl rfl, fun r hr => (by cases hr)⟩, by simp, fun r hr => (by cases hr)⟩
    · obtain ⟨r0, e0, _⟩ := each 0 h0
      have ea : a.add (0 * 1) = a := by simp [Addr.add]
      rw [ea] at e0
      obtain ⟨ha, hblt⟩ := spot_none e0
      obtain ⟨b, o, s⟩ := a
      obtain rfl : s = none := by injection ha
      obtain ⟨R, hR⟩ : ∃ R, R = (List.range len).map (fun i => if hi : i < len then (each i hi).choose else ⟨none, 0, []⟩) := ⟨_, rfl⟩
      have hfl : R.length = len := by rw [hR]; simp
      have hmem : ∀ r ∈ R, ∃ i, ∃ hi : i < len, r = (each i hi).choose := by
        intro r hr
        rw [hR] at hr
        obtain ⟨i, hi, rfl⟩ := List.mem_map.1 hr
        have hil : i < len := by simpa using hi
        exact ⟨i, hil, by simp only [hil, dite_true]⟩
      refine ⟨some ⟨b, o, none⟩, cap, R, by rw [hfl], ⟨rfl, .inr ⟨b, o, rfl, hblt, fun i x hi => ?_⟩, fun r hr => ?_⟩, by omega, fun r hr => ?_⟩
      · have hil : i < len := by
          have := (List.getElem?_eq_some_iff.1 hi).1
          rw [← hfl]; exact this
        have er : x = (each i hil).choose := by
          rw [hR, List.getElem?_map, List.getElem?_range hil] at hi
          simpa [hil] using hi.symm
        have k0 := (each i hil).choose_spec.1
        rw [← er] at k0
        rw [add_n, Nat.mul_one] at k0
        exact k0
      · obtain ⟨i, hi, rfl⟩ := hmem r hr
        exact (each i hi).choose_spec.2.1
      · obtain ⟨i, hi, rfl⟩ := hmem r hr
        exact (each i hi).choose_spec.2.2
/-- A byte that came in. -/
theorem byte_in {n : Int} (h : (Lit.int .u8 n).wf = true) : ∃ c : UInt8, n = (c.toNat : Int) := by
  obtain ⟨h1, h2⟩ := bounds_u8 h
  refine ⟨UInt8.ofNat n.toNat, ?_⟩
  rw [UInt8.toNat_ofNat']
  omega
end Go.Proofs.YtanipgjojacbfaaDoor
