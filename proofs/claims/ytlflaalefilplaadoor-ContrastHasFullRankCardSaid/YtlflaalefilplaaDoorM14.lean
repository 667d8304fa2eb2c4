/- The rule of a coding. -/
import Derived.Test.YtlflaalefilplaaDoorM13
import Derived.Maps.Own
import Derived.Laws.EntriesVeiled
namespace Go.Proofs.YtlflaalefilplaaDoor
open Go.RowKit
set_option linter.unusedVariables false

/-- A block that holds a map. -/
abbrev sblk (W : World) (m : Nat) (es : Array MapEntry) (cl : Nat) : World := ChangeMaps.setBlock W m (.map es cl)
theorem key_i (k : Int) : MapKept.IsKey (.int .i64) (.int .i64 k) := by simp [MapKept.IsKey]
theorem ins_run {W : World} {m : Nat} {es : Array MapEntry} {cl : Nat} {k : Int} {v : Value} (hb : W.heap[m]? = some (.map es cl)) (hf : Instr.findNow (.int .i64) (.int .i64 k) es.toList 0 = some none) : (Instr.mapUpdate 72 (.map (some m)) (.int .i64 k) v).run Tryd.prog W = .ok () (sblk W m (es.push { key := .int .i64 k, val := v, born := cl }) (cl + 1)) := by
  simp [Instr.mapUpdate, run_underlying Tryd.underlying72, MapKept.run_getObj_map hb, MapKept.run_checkKey Tryd.underlying3 (key_i k), MapKept.run_findKey Tryd.underlying3 hf, MapKept.run_setObj_map _ hb, Result.andThen, ChangeMaps.setBlock]
theorem look_yes {W : World} {m : Nat} {es : Array MapEntry} {cl i : Nat} {k : Int} {v : Value} (hb : W.heap[m]? = some (.map es cl)) (hf : Instr.findNow (.int .i64) (.int .i64 k) es.toList 0 = some (some (i, v))) : (Instr.lookup 72 (.map (some m)) (.int .i64 k) true).run Tryd.prog W = .ok (.tuple #[v, .bool true]) W := by
  simp [Instr.lookup, run_underlying Tryd.underlying72, MapKept.run_getObj_map hb, MapKept.run_checkKey Tryd.underlying3 (key_i k), MapKept.run_findKey Tryd.underlying3 hf, Result.andThen]
theorem look_no {W : World} {m : Nat} {es : Array MapEntry} {cl : Nat} {k : Int} (hb : W.heap[m]? = some (.map es cl)) (hf : Instr.findNow (.int .i64) (.int .i64 k) es.toList 0 = some none) : (Instr.lookup 72 (.map (some m)) (.int .i64 k) true).run Tryd.prog W = .ok (.tuple #[.agg #[.int .i64 0, .nilFunc, .nilFunc], .bool false]) W := by
  have hz : (zeroValue 53).run Tryd.prog W = .ok (.agg #[.int .i64 0, .nilFunc, .nilFunc]) W := by kernel_rfl
  simp [Instr.lookup, run_underlying Tryd.underlying72, MapKept.run_getObj_map hb, MapKept.run_checkKey Tryd.underlying3 (key_i k), MapKept.run_findKey Tryd.underlying3 hf, Result.andThen, hz]
theorem make_run (W : World) : (Instr.makeMap 72 none).run Tryd.prog W = .ok (.map (some W.heap.size)) (W.alloc (.map #[] 0)) := rfl
/-- A named function as a value. -/
def rul4 : Value := .agg #[.int .i64 0, .func (.func 40) #[] #[], .func (.func 41) #[] #[]]
def rul1 : Value := .agg #[.int .i64 1, .func (.func 42) #[] #[], .func (.func 43) #[] #[]]
def rul2 : Value := .agg #[.int .i64 1, .func (.func 44) #[] #[], .func (.func 45) #[] #[]]
def rul3 : Value := .agg #[.int .i64 1, .func (.func 46) #[] #[], .func (.func 45) #[] #[]]
def rul0 : Value := .agg #[.int .i64 0, .nilFunc, .nilFunc]
def rulA : Array MapEntry := #[⟨.int .i64 4, rul4, 0⟩, ⟨.int .i64 1, rul1, 1⟩, ⟨.int .i64 2, rul2, 2⟩, ⟨.int .i64 3, rul3, 3⟩]
theorem sblk_heap {W : World} {m cl cl' : Nat} {es es' : Array MapEntry} (hb : W.heap[m]? = some (.map es cl)) : (sblk W m es' cl').heap[m]? = some (.map es' cl') := by
  have hlt : m < W.heap.size := by
    rcases Nat.lt_or_ge m W.heap.size with h | h
    · exact h
    · rw [Array.getElem?_eq_none h] at hb; cases hb
  show (W.heap.setIfInBounds m _)[m]? = _
  simp [hlt]
theorem sblk_other {W : World} {m g cl' : Nat} {es' : Array MapEntry} (h : g ≠ m) : (sblk W m es' cl').heap[g]? = W.heap[g]? := by
  show (W.heap.setIfInBounds m _)[g]? = _
  simp [Ne.symm h]
theorem sblk_bel {B : Nat} {a W : World} {m cl' : Nat} {es' : Array MapEntry} (h : Below B a W) (hm : B ≤ m) : Below B a (sblk W m es' cl') := by
  refine ⟨h.os, h.tape, h.output, ?_, fun k hk => ?_⟩
  · show a.heap.size ≤ (W.heap.setIfInBounds m _).size
    rw [Array.size_setIfInBounds]; exact h.size
  · rw [sblk_other (by omega)]; exact h.block k hk
theorem res_rule (W : World) (tmps : Array Value) (g t : Nat) {v0 v1 v2 b : Value} (ht : tmps.getD 4 undef = .pointer (some ⟨g, 0, none⟩)) (hb : tmps.getD 5 undef = b) (h : Cb W g #[v0, v1, v2] 53) :
    (results Tryd.f22 tmps).run Tryd.prog W = .ok (.tuple #[.agg #[v0, v1, v2], b]) W := by
  have c0 : W.cell? ⟨g, 0, none⟩ = some v0 := h.cell rfl
  have c1 : W.cell? ⟨g, 1, none⟩ = some v1 := h.cell rfl
  have c2 : W.cell? ⟨g, 2, none⟩ = some v2 := h.cell rfl
  have ht' : tmps[4]?.getD undef = .pointer (some ⟨g, 0, none⟩) := by rw [← ht]; simp [Array.getD_eq_getD_getElem?]
  have hb' : tmps[5]?.getD undef = b := by rw [← hb]; simp [Array.getD_eq_getD_getElem?]
  simp [results, Tryd.results22, go_sem, ht', hb', c0, c1, c2]
set_option maxRecDepth 100000 in
theorem rule_4 (n : Int) (w : World) (n0 : 1 ≤ n) (n1 : n ≤ 32) : Calls Tryd.prog 22 #[.int .i64 4, .int .i64 n] w fun e w' => e = .returned (.tuple #[.agg #[.int .i64 0, .func (.func 40) #[] #[], .func (.func 41) #[] #[]], .bool true]) ∧ Below w.heap.size w w' := by
  obtain ⟨m, hm⟩ : ∃ m, m = w.heap.size + 1 := ⟨_, rfl⟩
  obtain ⟨W0, hW0⟩ : ∃ W0, W0 = w.alloc (.cells #[.int .i64 0, .nilFunc, .nilFunc] 53) := ⟨_, rfl⟩
  have hs0 : W0.heap.size = m := by rw [hW0, hm]; simp
  have S0 : Below w.heap.size w W0 := by rw [hW0]; exact (Below.refl _ _).alloc (Nat.le_refl _) _
  have C0 : Cb W0 w.heap.size #[.int .i64 0, .nilFunc, .nilFunc] 53 := by rw [hW0]; exact Cb.new _ _ _
  have q0 := make_run W0
  rw [hs0] at q0
  obtain ⟨W1, hW1⟩ : ∃ W1, W1 = W0.alloc (.map #[] 0) := ⟨_, rfl⟩
  rw [← hW1] at q0
  have S1 : Below w.heap.size w W1 := by rw [hW1]; exact S0.alloc S0.size _
  have C1 : Cb W1 w.heap.size #[.int .i64 0, .nilFunc, .nilFunc] 53 := by rw [hW1]; exact C0.alloc _
  have M1 : W1.heap[m]? = some (.map #[] 0) := by rw [hW1, ← hs0]; exact heap_alloc_new W0 _
  have q1 : (Instr.mapUpdate 72 (.map (some m)) (.int .i64 4) rul4).run Tryd.prog W1 = .ok () (sblk W1 m #[⟨.int .i64 4, rul4, 0⟩] 1) := ins_run (k := 4) (v := rul4) M1 (by rfl)
  obtain ⟨W2, hW2⟩ : ∃ X, X = sblk W1 m #[⟨.int .i64 4, rul4, 0⟩] 1 := ⟨_, rfl⟩
  rw [← hW2] at q1
  have S2 : Below w.heap.size w W2 := by rw [hW2]; exact sblk_bel S1 (by omega)
  have C2 : Cb W2 w.heap.size #[.int .i64 0, .nilFunc, .nilFunc] 53 := by rw [hW2]; exact C1.keep (sblk_other (by omega))
  have M2 : W2.heap[m]? = some (.map #[⟨.int .i64 4, rul4, 0⟩] 1) := by rw [hW2]; exact sblk_heap M1
  have q2 : (Instr.mapUpdate 72 (.map (some m)) (.int .i64 1) rul1).run Tryd.prog W2 = .ok () (sblk W2 m #[⟨.int .i64 4, rul4, 0⟩, ⟨.int .i64 1, rul1, 1⟩] 2) := ins_run (k := 1) (v := rul1) M2 (by rfl)
  obtain ⟨W3, hW3⟩ : ∃ X, X = sblk W2 m #[⟨.int .i64 4, rul4, 0⟩, ⟨.int .i64 1, rul1, 1⟩] 2 := ⟨_, rfl⟩
  rw [← hW3] at q2
  have S3 : Below w.heap.size w W3 := by rw [hW3]; exact sblk_bel S2 (by omega)
  have C3 : Cb W3 w.heap.size #[.int .i64 0, .nilFunc, .nilFunc] 53 := by rw [hW3]; exact C2.keep (sblk_other (by omega))
  have M3 : W3.heap[m]? = some (.map #[⟨.int .i64 4, rul4, 0⟩, ⟨.int .i64 1, rul1, 1⟩] 2) := by rw [hW3]; exact sblk_heap M2
  have q3 : (Instr.mapUpdate 72 (.map (some m)) (.int .i64 2) rul2).run Tryd.prog W3 = .ok () (sblk W3 m #[⟨.int .i64 4, rul4, 0⟩, ⟨.int .i64 1, rul1, 1⟩, ⟨.int .i64 2, rul2, 2⟩] 3) := ins_run (k := 2) (v := rul2) M3 (by rfl)
  obtain ⟨W4, hW4⟩ : ∃ X, X = sblk W3 m #[⟨.int .i64 4, rul4, 0⟩, ⟨.int .i64 1, rul1, 1⟩, ⟨.int .i64 2, rul2, 2⟩] 3 := ⟨_, rfl⟩
  rw [← hW4] at q3
  have S4 : Below w.heap.size w W4 := by rw [hW4]; exact sblk_bel S3 (by omega)
  have C4 : Cb W4 w.heap.size #[.int .i64 0, .nilFunc, .nilFunc] 53 := by rw [hW4]; exact C3.keep (sblk_other (by omega))
  have M4 : W4.heap[m]? = some (.map #[⟨.int .i64 4, rul4, 0⟩, ⟨.int .i64 1, rul1, 1⟩, ⟨.int .i64 2, rul2, 2⟩] 3) := by rw [hW4]; exact sblk_heap M3
  have q4 : (Instr.mapUpdate 72 (.map (some m)) (.int .i64 3) rul3).run Tryd.prog W4 = .ok () (sblk W4 m #[⟨.int .i64 4, rul4, 0⟩, ⟨.int .i64 1, rul1, 1⟩, ⟨.int .i64 2, rul2, 2⟩, ⟨.int .i64 3, rul3, 3⟩] 4) := ins_run (k := 3) (v := rul3) M4 (by rfl)
  obtain ⟨W5, hW5⟩ : ∃ X, X = sblk W4 m #[⟨.int .i64 4, rul4, 0⟩, ⟨.int .i64 1, rul1, 1⟩, ⟨.int .i64 2, rul2, 2⟩, ⟨.int .i64 3, rul3, 3⟩] 4 := ⟨_, rfl⟩
  rw [← hW5] at q4
  have S5 : Below w.heap.size w W5 := by rw [hW5]; exact sblk_bel S4 (by omega)
  have C5 : Cb W5 w.heap.size #[.int .i64 0, .nilFunc, .nilFunc] 53 := by rw [hW5]; exact C4.keep (sblk_other (by omega))
  have M5 : W5.heap[m]? = some (.map #[⟨.int .i64 4, rul4, 0⟩, ⟨.int .i64 1, rul1, 1⟩, ⟨.int .i64 2, rul2, 2⟩, ⟨.int .i64 3, rul3, 3⟩] 4) := by rw [hW5]; exact sblk_heap M4
  have q5 := look_yes (k := 4) (i := 0) (v := rul4) M5 (by rfl)
  have c0 := C5.cell (i := 0) rfl
  have c1 := C5.cell (i := 1) rfl
  have c2 := C5.cell (i := 2) rfl
  have f0 := C5.frozen 0
  have f1 := C5.frozen 1
  have f2 := C5.frozen 2
  have S6 : Hid (∀ a b c d e f, Below w.heap.size w ((((((W5.setCell ⟨w.heap.size, 0, none⟩ a).setCell ⟨w.heap.size, 1, none⟩ b).setCell ⟨w.heap.size, 2, none⟩ c).setCell ⟨w.heap.size, 0, none⟩ d).setCell ⟨w.heap.size, 1, none⟩ e).setCell ⟨w.heap.size, 2, none⟩ f)) := Lib.hid fun a b c d e f => (((((S5.setCell (Nat.le_refl _) _).setCell (Nat.le_refl _) _).setCell (Nat.le_refl _) _).setCell (Nat.le_refl _) _).setCell (Nat.le_refl _) _).setCell (Nat.le_refl _) _
  have C6 : Hid (∀ a b c d e f, Cb ((((((W5.setCell ⟨w.heap.size, 0, none⟩ a).setCell ⟨w.heap.size, 1, none⟩ b).setCell ⟨w.heap.size, 2, none⟩ c).setCell ⟨w.heap.size, 0, none⟩ d).setCell ⟨w.heap.size, 1, none⟩ e).setCell ⟨w.heap.size, 2, none⟩ f) w.heap.size #[d, e, f] 53) := Lib.hid fun a b c d e f => ((((((C5.set 0 a).set 1 b).set 2 c).set 0 d).set 1 e).set 2 f)
  subst hm
  simp only [rul4, rul1, rul2, rul3] at q1 q2 q3 q4 q5
  rw [hW0] at q0
  clear S0 C0 S1 C1 M1 S2 C2 M2 S3 C3 M3 S4 C4 M4 S5 C5 M5 hW0 hW1 hW2 hW3 hW4 hW5 hs0
  go_enter Tryd.func22, Tryd.ntmps22
  go_wp2
  exact bodyPost_ret (res_rule _ _ w.heap.size 53 rfl rfl (C6.out _ _ _ _ _ _)) rfl ⟨rfl, S6.out _ _ _ _ _ _⟩
set_option maxRecDepth 100000 in
theorem rule_1 (n : Int) (w : World) (n0 : 1 ≤ n) (n1 : n ≤ 32) : Calls Tryd.prog 22 #[.int .i64 1, .int .i64 n] w fun e w' => e = .returned (.tuple #[.agg #[.int .i64 1, .func (.func 42) #[] #[], .func (.func 43) #[] #[]], .bool true]) ∧ Below w.heap.size w w' := by
  obtain ⟨m, hm⟩ : ∃ m, m = w.heap.size + 1 := ⟨_, rfl⟩
  obtain ⟨W0, hW0⟩ : ∃ W0, W0 = w.alloc (.cells #[.int .i64 0, .nilFunc, .nilFunc] 53) := ⟨_, rfl⟩
  have hs0 : W0.heap.size = m := by rw [hW0, hm]; simp
  have S0 : Below w.heap.size w W0 := by rw [hW0]; exact (Below.refl _ _).alloc (Nat.le_refl _) _
  have C0 : Cb W0 w.heap.size #[.int .i64 0, .nilFunc, .nilFunc] 53 := by rw [hW0]; exact Cb.new _ _ _
  have q0 := make_run W0
  rw [hs0] at q0
  obtain ⟨W1, hW1⟩ : ∃ W1, W1 = W0.alloc (.map #[] 0) := ⟨_, rfl⟩
  rw [← hW1] at q0
  have S1 : Below w.heap.size w W1 := by rw [hW1]; exact S0.alloc S0.size _
  have C1 : Cb W1 w.heap.size #[.int .i64 0, .nilFunc, .nilFunc] 53 := by rw [hW1]; exact C0.alloc _
  have M1 : W1.heap[m]? = some (.map #[] 0) := by rw [hW1, ← hs0]; exact heap_alloc_new W0 _
  have q1 : (Instr.mapUpdate 72 (.map (some m)) (.int .i64 4) rul4).run Tryd.prog W1 = .ok () (sblk W1 m #[⟨.int .i64 4, rul4, 0⟩] 1) := ins_run (k := 4) (v := rul4) M1 (by rfl)
  obtain ⟨W2, hW2⟩ : ∃ X, X = sblk W1 m #[⟨.int .i64 4, rul4, 0⟩] 1 := ⟨_, rfl⟩
  rw [← hW2] at q1
  have S2 : Below w.heap.size w W2 := by rw [hW2]; exact sblk_bel S1 (by omega)
  have C2 : Cb W2 w.heap.size #[.int .i64 0, .nilFunc, .nilFunc] 53 := by rw [hW2]; exact C1.keep (sblk_other (by omega))
  have M2 : W2.heap[m]? = some (.map #[⟨.int .i64 4, rul4, 0⟩] 1) := by rw [hW2]; exact sblk_heap M1
  have q2 : (Instr.mapUpdate 72 (.map (some m)) (.int .i64 1) rul1).run Tryd.prog W2 = .ok () (sblk W2 m #[⟨.int .i64 4, rul4, 0⟩, ⟨.int .i64 1, rul1, 1⟩] 2) := ins_run (k := 1) (v := rul1) M2 (by rfl)
  obtain ⟨W3, hW3⟩ : ∃ X, X = sblk W2 m #[⟨.int .i64 4, rul4, 0⟩, ⟨.int .i64 1, rul1, 1⟩] 2 := ⟨_, rfl⟩
  rw [← hW3] at q2
  have S3 : Below w.heap.size w W3 := by rw [hW3]; exact sblk_bel S2 (by omega)
  have C3 : Cb W3 w.heap.size #[.int .i64 0, .nilFunc, .nilFunc] 53 := by rw [hW3]; exact C2.keep (sblk_other (by omega))
  have M3 : W3.heap[m]? = some (.map #[⟨.int .i64 4, rul4, 0⟩, ⟨.int .i64 1, rul1, 1⟩] 2) := by rw [hW3]; exact sblk_heap M2
  have q3 : (Instr.mapUpdate 72 (.map (some m)) (.int .i64 2) rul2).run Tryd.prog W3 = .ok () (sblk W3 m #[⟨.int .i64 4, rul4, 0⟩, ⟨.int .i64 1, rul1, 1⟩, ⟨.int .i64 2, rul2, 2⟩] 3) := ins_run (k := 2) (v := rul2) M3 (by rfl)
  obtain ⟨W4, hW4⟩ : ∃ X, X = sblk W3 m #[⟨.int .i64 4, rul4, 0⟩, ⟨.int .i64 1, rul1, 1⟩, ⟨.int .i64 2, rul2, 2⟩] 3 := ⟨_, rfl⟩
  rw [← hW4] at q3
  have S4 : Below w.heap.size w W4 := by rw [hW4]; exact sblk_bel S3 (by omega)
  have C4 : Cb W4 w.heap.size #[.int .i64 0, .nilFunc, .nilFunc] 53 := by rw [hW4]; exact C3.keep (sblk_other (by omega))
  have M4 : W4.heap[m]? = some (.map #[⟨.int .i64 4, rul4, 0⟩, ⟨.int .i64 1, rul1, 1⟩, ⟨.int .i64 2, rul2, 2⟩] 3) := by rw [hW4]; exact sblk_heap M3
  have q4 : (Instr.mapUpdate 72 (.map (some m)) (.int .i64 3) rul3).run Tryd.prog W4 = .ok () (sblk W4 m #[⟨.int .i64 4, rul4, 0⟩, ⟨.int .i64 1, rul1, 1⟩, ⟨.int .i64 2, rul2, 2⟩, ⟨.int .i64 3, rul3, 3⟩] 4) := ins_run (k := 3) (v := rul3) M4 (by rfl)
  obtain ⟨W5, hW5⟩ : ∃ X, X = sblk W4 m #[⟨.int .i64 4, rul4, 0⟩, ⟨.int .i64 1, rul1, 1⟩, ⟨.int .i64 2, rul2, 2⟩, ⟨.int .i64 3, rul3, 3⟩] 4 := ⟨_, rfl⟩
  rw [← hW5] at q4
  have S5 : Below w.heap.size w W5 := by rw [hW5]; exact sblk_bel S4 (by omega)
  have C5 : Cb W5 w.heap.size #[.int .i64 0, .nilFunc, .nilFunc] 53 := by rw [hW5]; exact C4.keep (sblk_other (by omega))
  have M5 : W5.heap[m]? = some (.map #[⟨.int .i64 4, rul4, 0⟩, ⟨.int .i64 1, rul1, 1⟩, ⟨.int .i64 2, rul2, 2⟩, ⟨.int .i64 3, rul3, 3⟩] 4) := by rw [hW5]; exact sblk_heap M4
  have q5 := look_yes (k := 1) (i := 1) (v := rul1) M5 (by rfl)
  have c0 := C5.cell (i := 0) rfl
  have c1 := C5.cell (i := 1) rfl
  have c2 := C5.cell (i := 2) rfl
  have f0 := C5.frozen 0
  have f1 := C5.frozen 1
  have f2 := C5.frozen 2
  have S6 : Hid (∀ a b c d e f, Below w.heap.size w ((((((W5.setCell ⟨w.heap.size, 0, none⟩ a).setCell ⟨w.heap.size, 1, none⟩ b).setCell ⟨w.heap.size, 2, none⟩ c).setCell ⟨w.heap.size, 0, none⟩ d).setCell ⟨w.heap.size, 1, none⟩ e).setCell ⟨w.heap.size, 2, none⟩ f)) := Lib.hid fun a b c d e f => (((((S5.setCell (Nat.le_refl _) _).setCell (Nat.le_refl _) _).setCell (Nat.le_refl _) _).setCell (Nat.le_refl _) _).setCell (Nat.le_refl _) _).setCell (Nat.le_refl _) _
  have C6 : Hid (∀ a b c d e f, Cb ((((((W5.setCell ⟨w.heap.size, 0, none⟩ a).setCell ⟨w.heap.size, 1, none⟩ b).setCell ⟨w.heap.size, 2, none⟩ c).setCell ⟨w.heap.size, 0, none⟩ d).setCell ⟨w.heap.size, 1, none⟩ e).setCell ⟨w.heap.size, 2, none⟩ f) w.heap.size #[d, e, f] 53) := Lib.hid fun a b c d e f => ((((((C5.set 0 a).set 1 b).set 2 c).set 0 d).set 1 e).set 2 f)
  subst hm
  simp only [rul4, rul1, rul2, rul3] at q1 q2 q3 q4 q5
  rw [hW0] at q0
  clear S0 C0 S1 C1 M1 S2 C2 M2 S3 C3 M3 S4 C4 M4 S5 C5 M5 hW0 hW1 hW2 hW3 hW4 hW5 hs0
  go_enter Tryd.func22, Tryd.ntmps22
  go_wp2
  exact bodyPost_ret (res_rule _ _ w.heap.size 53 rfl rfl (C6.out _ _ _ _ _ _)) rfl ⟨rfl, S6.out _ _ _ _ _ _⟩
set_option maxRecDepth 100000 in
theorem rule_2 (n : Int) (w : World) (n0 : 1 ≤ n) (n1 : n ≤ 32) : Calls Tryd.prog 22 #[.int .i64 2, .int .i64 n] w fun e w' => e = .returned (.tuple #[.agg #[.int .i64 1, .func (.func 44) #[] #[], .func (.func 45) #[] #[]], .bool true]) ∧ Below w.heap.size w w' := by
  obtain ⟨m, hm⟩ : ∃ m, m = w.heap.size + 1 := ⟨_, rfl⟩
  obtain ⟨W0, hW0⟩ : ∃ W0, W0 = w.alloc (.cells #[.int .i64 0, .nilFunc, .nilFunc] 53) := ⟨_, rfl⟩
  have hs0 : W0.heap.size = m := by rw [hW0, hm]; simp
  have S0 : Below w.heap.size w W0 := by rw [hW0]; exact (Below.refl _ _).alloc (Nat.le_refl _) _
  have C0 : Cb W0 w.heap.size #[.int .i64 0, .nilFunc, .nilFunc] 53 := by rw [hW0]; exact Cb.new _ _ _
  have q0 := make_run W0
  rw [hs0] at q0
  obtain ⟨W1, hW1⟩ : ∃ W1, W1 = W0.alloc (.map #[] 0) := ⟨_, rfl⟩
  rw [← hW1] at q0
  have S1 : Below w.heap.size w W1 := by rw [hW1]; exact S0.alloc S0.size _
  have C1 : Cb W1 w.heap.size #[.int .i64 0, .nilFunc, .nilFunc] 53 := by rw [hW1]; exact C0.alloc _
  have M1 : W1.heap[m]? = some (.map #[] 0) := by rw [hW1, ← hs0]; exact heap_alloc_new W0 _
  have q1 : (Instr.mapUpdate 72 (.map (some m)) (.int .i64 4) rul4).run Tryd.prog W1 = .ok () (sblk W1 m #[⟨.int .i64 4, rul4, 0⟩] 1) := ins_run (k := 4) (v := rul4) M1 (by rfl)
  obtain ⟨W2, hW2⟩ : ∃ X, X = sblk W1 m #[⟨.int .i64 4, rul4, 0⟩] 1 := ⟨_, rfl⟩
  rw [← hW2] at q1
  have S2 : Below w.heap.size w W2 := by rw [hW2]; exact sblk_bel S1 (by omega)
  have C2 : Cb W2 w.heap.size #[.int .i64 0, .nilFunc, .nilFunc] 53 := by rw [hW2]; exact C1.keep (sblk_other (by omega))
  have M2 : W2.heap[m]? = some (.map #[⟨.int .i64 4, rul4, 0⟩] 1) := by rw [hW2]; exact sblk_heap M1
  have q2 : (Instr.mapUpdate 72 (.map (some m)) (.int .i64 1) rul1).run Tryd.prog W2 = .ok () (sblk W2 m #[⟨.int .i64 4, rul4, 0⟩, ⟨.int .i64 1, rul1, 1⟩] 2) := ins_run (k := 1) (v := rul1) M2 (by rfl)
  obtain ⟨W3, hW3⟩ : ∃ X, X = sblk W2 m #[⟨.int .i64 4, rul4, 0⟩, ⟨.int .i64 1, rul1, 1⟩] 2 := ⟨_, rfl⟩
  rw [← hW3] at q2
  have S3 : Below w.heap.size w W3 := by rw [hW3]; exact sblk_bel S2 (by omega)
  have C3 : Cb W3 w.heap.size #[.int .i64 0, .nilFunc, .nilFunc] 53 := by rw [hW3]; exact C2.keep (sblk_other (by omega))
  have M3 : W3.heap[m]? = some (.map #[⟨.int .i64 4, rul4, 0⟩, ⟨.int .i64 1, rul1, 1⟩] 2) := by rw [hW3]; exact sblk_heap M2
  have q3 : (Instr.mapUpdate 72 (.map (some m)) (.int .i64 2) rul2).run Tryd.prog W3 = .ok () (sblk W3 m #[⟨.int .i64 4, rul4, 0⟩, ⟨.int .i64 1, rul1, 1⟩, ⟨.int .i64 2, rul2, 2⟩] 3) := ins_run (k := 2) (v := rul2) M3 (by rfl)
  obtain ⟨W4, hW4⟩ : ∃ X, X = sblk W3 m #[⟨.int .i64 4, rul4, 0⟩, ⟨.int .i64 1, rul1, 1⟩, ⟨.int .i64 2, rul2, 2⟩] 3 := ⟨_, rfl⟩
  rw [← hW4] at q3
  have S4 : Below w.heap.size w W4 := by rw [hW4]; exact sblk_bel S3 (by omega)
  have C4 : Cb W4 w.heap.size #[.int .i64 0, .nilFunc, .nilFunc] 53 := by rw [hW4]; exact C3.keep (sblk_other (by omega))
  have M4 : W4.heap[m]? = some (.map #[⟨.int .i64 4, rul4, 0⟩, ⟨.int .i64 1, rul1, 1⟩, ⟨.int .i64 2, rul2, 2⟩] 3) := by rw [hW4]; exact sblk_heap M3
  have q4 : (Instr.mapUpdate 72 (.map (some m)) (.int .i64 3) rul3).run Tryd.prog W4 = .ok () (sblk W4 m #[⟨.int .i64 4, rul4, 0⟩, ⟨.int .i64 1, rul1, 1⟩, ⟨.int .i64 2, rul2, 2⟩, ⟨.int .i64 3, rul3, 3⟩] 4) := ins_run (k := 3) (v := rul3) M4 (by rfl)
  obtain ⟨W5, hW5⟩ : ∃ X, X = sblk W4 m #[⟨.int .i64 4, rul4, 0⟩, ⟨.int .i64 1, rul1, 1⟩, ⟨.int .i64 2, rul2, 2⟩, ⟨.int .i64 3, rul3, 3⟩] 4 := ⟨_, rfl⟩
  rw [← hW5] at q4
  have S5 : Below w.heap.size w W5 := by rw [hW5]; exact sblk_bel S4 (by omega)
  have C5 : Cb W5 w.heap.size #[.int .i64 0, .nilFunc, .nilFunc] 53 := by rw [hW5]; exact C4.keep (sblk_other (by omega))
  have M5 : W5.heap[m]? = some (.map #[⟨.int .i64 4, rul4, 0⟩, ⟨.int .i64 1, rul1, 1⟩, ⟨.int .i64 2, rul2, 2⟩, ⟨.int .i64 3, rul3, 3⟩] 4) := by rw [hW5]; exact sblk_heap M4
  have q5 := look_yes (k := 2) (i := 2) (v := rul2) M5 (by rfl)
  have c0 := C5.cell (i := 0) rfl
  have c1 := C5.cell (i := 1) rfl
  have c2 := C5.cell (i := 2) rfl
  have f0 := C5.frozen 0
  have f1 := C5.frozen 1
  have f2 := C5.frozen 2
  have S6 : Hid (∀ a b c d e f, Below w.heap.size w ((((((W5.setCell ⟨w.heap.size, 0, none⟩ a).setCell ⟨w.heap.size, 1, none⟩ b).setCell ⟨w.heap.size, 2, none⟩ c).setCell ⟨w.heap.size, 0, none⟩ d).setCell ⟨w.heap.size, 1, none⟩ e).setCell ⟨w.heap.size, 2, none⟩ f)) := Lib.hid fun a b c d e f => (((((S5.setCell (Nat.le_refl _) _).setCell (Nat.le_refl _) _).setCell (Nat.le_refl _) _).setCell (Nat.le_refl _) _).setCell (Nat.le_refl _) _).setCell (Nat.le_refl _) _
  have C6 : Hid (∀ a b c d e f, Cb ((((((W5.setCell ⟨w.heap.size, 0, none⟩ a).setCell ⟨w.heap.size, 1, none⟩ b).setCell ⟨w.heap.size, 2, none⟩ c).setCell ⟨w.heap.size, 0, none⟩ d).setCell ⟨w.heap.size, 1, none⟩ e).setCell ⟨w.heap.size, 2, none⟩ f) w.heap.size #[d, e, f] 53) := Lib.hid fun a b c d e f => ((((((C5.set 0 a).set 1 b).set 2 c).set 0 d).set 1 e).set 2 f)
  subst hm
  simp only [rul4, rul1, rul2, rul3] at q1 q2 q3 q4 q5
  rw [hW0] at q0
  clear S0 C0 S1 C1 M1 S2 C2 M2 S3 C3 M3 S4 C4 M4 S5 C5 M5 hW0 hW1 hW2 hW3 hW4 hW5 hs0
  go_enter Tryd.func22, Tryd.ntmps22
  go_wp2
  exact bodyPost_ret (res_rule _ _ w.heap.size 53 rfl rfl (C6.out _ _ _ _ _ _)) rfl ⟨rfl, S6.out _ _ _ _ _ _⟩
set_option maxRecDepth 100000 in
theorem rule_3 (n : Int) (w : World) (n0 : 1 ≤ n) (n1 : n ≤ 32) : Calls Tryd.prog 22 #[.int .i64 3, .int .i64 n] w fun e w' => e = .returned (.tuple #[.agg #[.int .i64 1, .func (.func 46) #[] #[], .func (.func 45) #[] #[]], .bool true]) ∧ Below w.heap.size w w' := by
  obtain ⟨m, hm⟩ : ∃ m, m = w.heap.size + 1 := ⟨_, rfl⟩
  obtain ⟨W0, hW0⟩ : ∃ W0, W0 = w.alloc (.cells #[.int .i64 0, .nilFunc, .nilFunc] 53) := ⟨_, rfl⟩
  have hs0 : W0.heap.size = m := by rw [hW0, hm]; simp
  have S0 : Below w.heap.size w W0 := by rw [hW0]; exact (Below.refl _ _).alloc (Nat.le_refl _) _
  have C0 : Cb W0 w.heap.size #[.int .i64 0, .nilFunc, .nilFunc] 53 := by rw [hW0]; exact Cb.new _ _ _
  have q0 := make_run W0
  rw [hs0] at q0
  obtain ⟨W1, hW1⟩ : ∃ W1, W1 = W0.alloc (.map #[] 0) := ⟨_, rfl⟩
  rw [← hW1] at q0
  have S1 : Below w.heap.size w W1 := by rw [hW1]; exact S0.alloc S0.size _
  have C1 : Cb W1 w.heap.size #[.int .i64 0, .nilFunc, .nilFunc] 53 := by rw [hW1]; exact C0.alloc _
  have M1 : W1.heap[m]? = some (.map #[] 0) := by rw [hW1, ← hs0]; exact heap_alloc_new W0 _
  have q1 : (Instr.mapUpdate 72 (.map (some m)) (.int .i64 4) rul4).run Tryd.prog W1 = .ok () (sblk W1 m #[⟨.int .i64 4, rul4, 0⟩] 1) := ins_run (k := 4) (v := rul4) M1 (by rfl)
  obtain ⟨W2, hW2⟩ : ∃ X, X = sblk W1 m #[⟨.int .i64 4, rul4, 0⟩] 1 := ⟨_, rfl⟩
  rw [← hW2] at q1
  have S2 : Below w.heap.size w W2 := by rw [hW2]; exact sblk_bel S1 (by omega)
  have C2 : Cb W2 w.heap.size #[.int .i64 0, .nilFunc, .nilFunc] 53 := by rw [hW2]; exact C1.keep (sblk_other (by omega))
  have M2 : W2.heap[m]? = some (.map #[⟨.int .i64 4, rul4, 0⟩] 1) := by rw [hW2]; exact sblk_heap M1
  have q2 : (Instr.mapUpdate 72 (.map (some m)) (.int .i64 1) rul1).run Tryd.prog W2 = .ok () (sblk W2 m #[⟨.int .i64 4, rul4, 0⟩, ⟨.int .i64 1, rul1, 1⟩] 2) := ins_run (k := 1) (v := rul1) M2 (by rfl)
  obtain ⟨W3, hW3⟩ : ∃ X, X = sblk W2 m #[⟨.int .i64 4, rul4, 0⟩, ⟨.int .i64 1, rul1, 1⟩] 2 := ⟨_, rfl⟩
  rw [← hW3] at q2
  have S3 : Below w.heap.size w W3 := by rw [hW3]; exact sblk_bel S2 (by omega)
  have C3 : Cb W3 w.heap.size #[.int .i64 0, .nilFunc, .nilFunc] 53 := by rw [hW3]; exact C2.keep (sblk_other (by omega))
  have M3 : W3.heap[m]? = some (.map #[⟨.int .i64 4, rul4, 0⟩, ⟨.int .i64 1, rul1, 1⟩] 2) := by rw [hW3]; exact sblk_heap M2
  have q3 : (Instr.mapUpdate 72 (.map (some m)) (.int .i64 2) rul2).run Tryd.prog W3 = .ok () (sblk W3 m #[⟨.int .i64 4, rul4, 0⟩, ⟨.int .i64 1, rul1, 1⟩, ⟨.int .i64 2, rul2, 2⟩] 3) := ins_run (k := 2) (v := rul2) M3 (by rfl)
  obtain ⟨W4, hW4⟩ : ∃ X, X = sblk W3 m #[⟨.int .i64 4, rul4, 0⟩, ⟨.int .i64 1, rul1, 1⟩, ⟨.int .i64 2, rul2, 2⟩] 3 := ⟨_, rfl⟩
  rw [← hW4] at q3
  have S4 : Below w.heap.size w W4 := by rw [hW4]; exact sblk_bel S3 (by omega)
  have C4 : Cb W4 w.heap.size #[.int .i64 0, .nilFunc, .nilFunc] 53 := by rw [hW4]; exact C3.keep (sblk_other (by omega))
  have M4 : W4.heap[m]? = some (.map #[⟨.int .i64 4, rul4, 0⟩, ⟨.int .i64 1, rul1, 1⟩, ⟨.int .i64 2, rul2, 2⟩] 3) := by rw [hW4]; exact sblk_heap M3
  have q4 : (Instr.mapUpdate 72 (.map (some m)) (.int .i64 3) rul3).run Tryd.prog W4 = .ok () (sblk W4 m #[⟨.int .i64 4, rul4, 0⟩, ⟨.int .i64 1, rul1, 1⟩, ⟨.int .i64 2, rul2, 2⟩, ⟨.int .i64 3, rul3, 3⟩] 4) := ins_run (k := 3) (v := rul3) M4 (by rfl)
  obtain ⟨W5, hW5⟩ : ∃ X, X = sblk W4 m #[⟨.int .i64 4, rul4, 0⟩, ⟨.int .i64 1, rul1, 1⟩, ⟨.int .i64 2, rul2, 2⟩, ⟨.int .i64 3, rul3, 3⟩] 4 := ⟨_, rfl⟩
  rw [← hW5] at q4
  have S5 : Below w.heap.size w W5 := by rw [hW5]; exact sblk_bel S4 (by omega)
  have C5 : Cb W5 w.heap.size #[.int .i64 0, .nilFunc, .nilFunc] 53 := by rw [hW5]; exact C4.keep (sblk_other (by omega))
  have M5 : W5.heap[m]? = some (.map #[⟨.int .i64 4, rul4, 0⟩, ⟨.int .i64 1, rul1, 1⟩, ⟨.int .i64 2, rul2, 2⟩, ⟨.int .i64 3, rul3, 3⟩] 4) := by rw [hW5]; exact sblk_heap M4
  have q5 := look_yes (k := 3) (i := 3) (v := rul3) M5 (by rfl)
  have c0 := C5.cell (i := 0) rfl
  have c1 := C5.cell (i := 1) rfl
  have c2 := C5.cell (i := 2) rfl
  have f0 := C5.frozen 0
  have f1 := C5.frozen 1
  have f2 := C5.frozen 2
  have S6 : Hid (∀ a b c d e f, Below w.heap.size w ((((((W5.setCell ⟨w.heap.size, 0, none⟩ a).setCell ⟨w.heap.size, 1, none⟩ b).setCell ⟨w.heap.size, 2, none⟩ c).setCell ⟨w.heap.size, 0, none⟩ d).setCell ⟨w.heap.size, 1, none⟩ e).setCell ⟨w.heap.size, 2, none⟩ f)) := Lib.hid fun a b c d e f => (((((S5.setCell (Nat.le_refl _) _).setCell (Nat.le_refl _) _).setCell (Nat.le_refl _) _).setCell (Nat.le_refl _) _).setCell (Nat.le_refl _) _).setCell (Nat.le_refl _) _
  have C6 : Hid (∀ a b c d e f, Cb ((((((W5.setCell ⟨w.heap.size, 0, none⟩ a).setCell ⟨w.heap.size, 1, none⟩ b).setCell ⟨w.heap.size, 2, none⟩ c).setCell ⟨w.heap.size, 0, none⟩ d).setCell ⟨w.heap.size, 1, none⟩ e).setCell ⟨w.heap.size, 2, none⟩ f) w.heap.size #[d, e, f] 53) := Lib.hid fun a b c d e f => ((((((C5.set 0 a).set 1 b).set 2 c).set 0 d).set 1 e).set 2 f)
  subst hm
  simp only [rul4, rul1, rul2, rul3] at q1 q2 q3 q4 q5
  rw [hW0] at q0
  clear S0 C0 S1 C1 M1 S2 C2 M2 S3 C3 M3 S4 C4 M4 S5 C5 M5 hW0 hW1 hW2 hW3 hW4 hW5 hs0
  go_enter Tryd.func22, Tryd.ntmps22
  go_wp2
  exact bodyPost_ret (res_rule _ _ w.heap.size 53 rfl rfl (C6.out _ _ _ _ _ _)) rfl ⟨rfl, S6.out _ _ _ _ _ _⟩
set_option maxRecDepth 100000 in
theorem rule_other (k n : Int) (w : World) (n0 : 1 ≤ n) (n1 : n ≤ 32) (k1 : ¬ k = 1) (k2 : ¬ k = 2) (k3 : ¬ k = 3) (k4 : ¬ k = 4) : Calls Tryd.prog 22 #[.int .i64 k, .int .i64 n] w fun e w' => e = .returned (.tuple #[.agg #[.int .i64 0, .nilFunc, .nilFunc], .bool false]) ∧ Below w.heap.size w w' := by
  obtain ⟨m, hm⟩ : ∃ m, m = w.heap.size + 1 := ⟨_, rfl⟩
  obtain ⟨W0, hW0⟩ : ∃ W0, W0 = w.alloc (.cells #[.int .i64 0, .nilFunc, .nilFunc] 53) := ⟨_, rfl⟩
  have hs0 : W0.heap.size = m := by rw [hW0, hm]; simp
  have S0 : Below w.heap.size w W0 := by rw [hW0]; exact (Below.refl _ _).alloc (Nat.le_refl _) _
  have C0 : Cb W0 w.heap.size #[.int .i64 0, .nilFunc, .nilFunc] 53 := by rw [hW0]; exact Cb.new _ _ _
  have q0 := make_run W0
  rw [hs0] at q0
  obtain ⟨W1, hW1⟩ : ∃ W1, W1 = W0.alloc (.map #[] 0) := ⟨_, rfl⟩
  rw [← hW1] at q0
  have S1 : Below w.heap.size w W1 := by rw [hW1]; exact S0.alloc S0.size _
  have C1 : Cb W1 w.heap.size #[.int .i64 0, .nilFunc, .nilFunc] 53 := by rw [hW1]; exact C0.alloc _
  have M1 : W1.heap[m]? = some (.map #[] 0) := by rw [hW1, ← hs0]; exact heap_alloc_new W0 _
  have q1 : (Instr.mapUpdate 72 (.map (some m)) (.int .i64 4) rul4).run Tryd.prog W1 = .ok () (sblk W1 m #[⟨.int .i64 4, rul4, 0⟩] 1) := ins_run (k := 4) (v := rul4) M1 (by rfl)
  obtain ⟨W2, hW2⟩ : ∃ X, X = sblk W1 m #[⟨.int .i64 4, rul4, 0⟩] 1 := ⟨_, rfl⟩
  rw [← hW2] at q1
  have S2 : Below w.heap.size w W2 := by rw [hW2]; exact sblk_bel S1 (by omega)
  have C2 : Cb W2 w.heap.size #[.int .i64 0, .nilFunc, .nilFunc] 53 := by rw [hW2]; exact C1.keep (sblk_other (by omega))
  have M2 : W2.heap[m]? = some (.map #[⟨.int .i64 4, rul4, 0⟩] 1) := by rw [hW2]; exact sblk_heap M1
  have q2 : (Instr.mapUpdate 72 (.map (some m)) (.int .i64 1) rul1).run Tryd.prog W2 = .ok () (sblk W2 m #[⟨.int .i64 4, rul4, 0⟩, ⟨.int .i64 1, rul1, 1⟩] 2) := ins_run (k := 1) (v := rul1) M2 (by rfl)
  obtain ⟨W3, hW3⟩ : ∃ X, X = sblk W2 m #[⟨.int .i64 4, rul4, 0⟩, ⟨.int .i64 1, rul1, 1⟩] 2 := ⟨_, rfl⟩
  rw [← hW3] at q2
  have S3 : Below w.heap.size w W3 := by rw [hW3]; exact sblk_bel S2 (by omega)
  have C3 : Cb W3 w.heap.size #[.int .i64 0, .nilFunc, .nilFunc] 53 := by rw [hW3]; exact C2.keep (sblk_other (by omega))
  have M3 : W3.heap[m]? = some (.map #[⟨.int .i64 4, rul4, 0⟩, ⟨.int .i64 1, rul1, 1⟩] 2) := by rw [hW3]; exact sblk_heap M2
  have q3 : (Instr.mapUpdate 72 (.map (some m)) (.int .i64 2) rul2).run Tryd.prog W3 = .ok () (sblk W3 m #[⟨.int .i64 4, rul4, 0⟩, ⟨.int .i64 1, rul1, 1⟩, ⟨.int .i64 2, rul2, 2⟩] 3) := ins_run (k := 2) (v := rul2) M3 (by rfl)
  obtain ⟨W4, hW4⟩ : ∃ X, X = sblk W3 m #[⟨.int .i64 4, rul4, 0⟩, ⟨.int .i64 1, rul1, 1⟩, ⟨.int .i64 2, rul2, 2⟩] 3 := ⟨_, rfl⟩
  rw [← hW4] at q3
  have S4 : Below w.heap.size w W4 := by rw [hW4]; exact sblk_bel S3 (by omega)
  have C4 : Cb W4 w.heap.size #[.int .i64 0, .nilFunc, .nilFunc] 53 := by rw [hW4]; exact C3.keep (sblk_other (by omega))
  have M4 : W4.heap[m]? = some (.map #[⟨.int .i64 4, rul4, 0⟩, ⟨.int .i64 1, rul1, 1⟩, ⟨.int .i64 2, rul2, 2⟩] 3) := by rw [hW4]; exact sblk_heap M3
  have q4 : (Instr.mapUpdate 72 (.map (some m)) (.int .i64 3) rul3).run Tryd.prog W4 = .ok () (sblk W4 m #[⟨.int .i64 4, rul4, 0⟩, ⟨.int .i64 1, rul1, 1⟩, ⟨.int .i64 2, rul2, 2⟩, ⟨.int .i64 3, rul3, 3⟩] 4) := ins_run (k := 3) (v := rul3) M4 (by rfl)
  obtain ⟨W5, hW5⟩ : ∃ X, X = sblk W4 m #[⟨.int .i64 4, rul4, 0⟩, ⟨.int .i64 1, rul1, 1⟩, ⟨.int .i64 2, rul2, 2⟩, ⟨.int .i64 3, rul3, 3⟩] 4 := ⟨_, rfl⟩
  rw [← hW5] at q4
  have S5 : Below w.heap.size w W5 := by rw [hW5]; exact sblk_bel S4 (by omega)
  have C5 : Cb W5 w.heap.size #[.int .i64 0, .nilFunc, .nilFunc] 53 := by rw [hW5]; exact C4.keep (sblk_other (by omega))
  have M5 : W5.heap[m]? = some (.map #[⟨.int .i64 4, rul4, 0⟩, ⟨.int .i64 1, rul1, 1⟩, ⟨.int .i64 2, rul2, 2⟩, ⟨.int .i64 3, rul3, 3⟩] 4) := by rw [hW5]; exact sblk_heap M4
  have hq : Instr.findNow (.int .i64) (.int .i64 k) rulA.toList 0 = some none := by
    have e1 : (k == 1) = false := by simp [k1]
    have e2 : (k == 2) = false := by simp [k2]
    have e3 : (k == 3) = false := by simp [k3]
    have e4 : (k == 4) = false := by simp [k4]
    simp only [rulA, Instr.findNow, Instr.sameNow, e1, e2, e3, e4, if_true]
  have q5 := look_no M5 hq
  have c0 := C5.cell (i := 0) rfl
  have c1 := C5.cell (i := 1) rfl
  have c2 := C5.cell (i := 2) rfl
  have f0 := C5.frozen 0
  have f1 := C5.frozen 1
  have f2 := C5.frozen 2
  have S6 : Hid (∀ a b c d e f, Below w.heap.size w ((((((W5.setCell ⟨w.heap.size, 0, none⟩ a).setCell ⟨w.heap.size, 1, none⟩ b).setCell ⟨w.heap.size, 2, none⟩ c).setCell ⟨w.heap.size, 0, none⟩ d).setCell ⟨w.heap.size, 1, none⟩ e).setCell ⟨w.heap.size, 2, none⟩ f)) := Lib.hid fun a b c d e f => (((((S5.setCell (Nat.le_refl _) _).setCell (Nat.le_refl _) _).setCell (Nat.le_refl _) _).setCell (Nat.le_refl _) _).setCell (Nat.le_refl _) _).setCell (Nat.le_refl _) _
  have C6 : Hid (∀ a b c d e f, Cb ((((((W5.setCell ⟨w.heap.size, 0, none⟩ a).setCell ⟨w.heap.size, 1, none⟩ b).setCell ⟨w.heap.size, 2, none⟩ c).setCell ⟨w.heap.size, 0, none⟩ d).setCell ⟨w.heap.size, 1, none⟩ e).setCell ⟨w.heap.size, 2, none⟩ f) w.heap.size #[d, e, f] 53) := Lib.hid fun a b c d e f => ((((((C5.set 0 a).set 1 b).set 2 c).set 0 d).set 1 e).set 2 f)
  subst hm
  simp only [rul4, rul1, rul2, rul3] at q1 q2 q3 q4 q5
  rw [hW0] at q0
  clear S0 C0 S1 C1 M1 S2 C2 M2 S3 C3 M3 S4 C4 M4 S5 C5 M5 hW0 hW1 hW2 hW3 hW4 hW5 hs0
  go_enter Tryd.func22, Tryd.ntmps22
  go_wp2
  exact bodyPost_ret (res_rule _ _ w.heap.size 53 rfl rfl (C6.out _ _ _ _ _ _)) rfl ⟨rfl, S6.out _ _ _ _ _ _⟩
theorem rule_far (k n : Int) (w : World) (h : ¬ (1 ≤ n ∧ n ≤ 32)) : Calls Tryd.prog 22 #[.int .i64 k, .int .i64 n] w fun e w' => e = .returned (.tuple #[.agg #[.int .i64 0, .nilFunc, .nilFunc], .bool false]) ∧ Below w.heap.size w w' := by
  have S0 : Hid (Below w.heap.size w (w.alloc (.cells #[.int .i64 0, .nilFunc, .nilFunc] 53))) := Lib.hid ((Below.refl w.heap.size w).alloc (Nat.le_refl _) _)
  have C0 : Hid (Cb (w.alloc (.cells #[.int .i64 0, .nilFunc, .nilFunc] 53)) w.heap.size #[.int .i64 0, .nilFunc, .nilFunc] 53) := Lib.hid (Cb.new w _ _)
  by_cases h1 : 1 ≤ n
  · have h2 : ¬ n ≤ 32 := fun e => h ⟨h1, e⟩
    clear h
    go_enter Tryd.func22, Tryd.ntmps22
    go_wp2
    exact bodyPost_ret (res_rule _ _ w.heap.size 53 rfl rfl C0.out) rfl ⟨rfl, S0.out⟩
  · clear h
    go_enter Tryd.func22, Tryd.ntmps22
    go_wp2
    exact bodyPost_ret (res_rule _ _ w.heap.size 53 rfl rfl C0.out) rfl ⟨rfl, S0.out⟩
end Go.Proofs.YtlflaalefilplaaDoor
