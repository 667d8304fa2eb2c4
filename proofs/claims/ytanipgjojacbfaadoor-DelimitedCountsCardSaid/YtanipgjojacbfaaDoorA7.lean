/- Doubled marks and strings.ReplaceAll. -/
import Derived.Test.YtanipgjojacbfaaDoorA6
namespace Go.Proofs.YtanipgjojacbfaaDoor
open Go.RowKit
set_option linter.unusedVariables false

theorem rep_hit {s old new a s' : Bs} (ho : old ≠ new) (hne : old ≠ []) (hi : Lib.index s old = (a.length : Nat)) (he : s = a ++ (old ++ s')) : Lib.replaceAll s old new = a ++ (new ++ Lib.replaceAll s' old new) := by
  have hb : (old == new) = false := by simpa using ho
  have hd : s.drop (a.length + old.length) = s' := by rw [he, ← List.append_assoc, ← List.length_append, List.drop_left]
  have ht : s.take a.length = a := by rw [he, List.take_left]
  have hc := Lib.count_hit hne hi
  rw [hd] at hc
  unfold Lib.replaceAll Lib.replace Lib.replaceNum
  rw [hb]
  simp only [Bool.false_eq_true, if_false, show ((-1 : Int) < 0) from by decide, true_or, if_true]
  rw [hc, Nat.add_comm 1, Lib.replaceK_hit old new _ s a.length hi, ht, hd, List.append_assoc]
theorem rep_miss {s old new : Bs} (ho : old ≠ new) (hi : Lib.index s old = -1) : Lib.replaceAll s old new = s := by
  have hb : (old == new) = false := by simpa using ho
  unfold Lib.replaceAll Lib.replace Lib.replaceNum
  rw [hb]
  simp only [Bool.false_eq_true, if_false, show ((-1 : Int) < 0) from by decide, true_or, if_true]
  rw [Lib.count_miss hi]
  rfl
theorem split34 : ∀ v : Bs, (34 : UInt8) ∉ v ∨ ∃ a v', v = a ++ 34 :: v' ∧ (34 : UInt8) ∉ a
  | [] => .inl (by simp)
  | c :: v => by
    by_cases h : c = 34
    · exact .inr ⟨[], v, by rw [h]; rfl, by simp⟩
    · rcases split34 v with h1 | ⟨a, v', h1, h2⟩
      · exact .inl (fun hm => by rcases List.mem_cons.1 hm with e | e; exact h e.symm; exact h1 e)
      · exact .inr ⟨c :: a, v', by rw [h1]; rfl, fun hm => by rcases List.mem_cons.1 hm with e | e; exact h e.symm; exact h2 e⟩
/-- No instance begins where its first byte does not stand. -/
theorem occ_no {s sub : Bs} {i : Nat} {c : UInt8} {t : Bs} (hs : sub = c :: t) (h : s[i]? ≠ some c) : Lib.occAt s sub i = false := by
  rw [Bool.eq_false_iff]
  intro h1
  exact h (Lib.occAt_head hs h1)
theorem idx_miss {s : Bs} {c : UInt8} {t : Bs} (h : c ∉ s) : Lib.index s (c :: t) = -1 := by
  refine Lib.index_none fun j _ => occ_no rfl fun e => h (List.mem_of_getElem? e)
theorem idx_hit {a s' : Bs} {c : UInt8} {t : Bs} (h : c ∉ a) : Lib.index (a ++ (c :: t ++ s')) (c :: t) = (a.length : Nat) := by
  refine Lib.index_first (by simp) ?_ fun j hj => occ_no rfl fun e => ?_
  · unfold Lib.occAt
    rw [List.drop_left]
    exact List.isPrefixOf_iff_prefix.2 (List.prefix_append _ _)
  · rw [List.getElem?_append_left hj] at e
    exact h (List.mem_of_getElem? e)
/-- Marks are doubled. -/
theorem rep_dbl (v : Bs) : Lib.replaceAll v [34] [34, 34] = dqS v := by
  generalize hn : v.length = n
  induction n using Nat.strongRecOn generalizing v with
  | ind n ih =>
    rcases split34 v with h | ⟨a, v', rfl, h⟩
    · rw [rep_miss (by decide) (idx_miss h), dqS_plain h]
    · have h1 := ih v'.length (by rw [← hn]; simp; omega) v' rfl
      rw [rep_hit (a := a) (s' := v') (by decide) (by decide) (by have := idx_hit (s' := v') (t := []) h; simpa using this) (by simp), h1, dqS_app, dqS_plain h, dqS_cons34]
      rfl
/-- Doubled marks are made single. -/
theorem rep_half (v : Bs) : Lib.replaceAll (dqS v) [34, 34] [34] = v := by
  generalize hn : v.length = n
  induction n using Nat.strongRecOn generalizing v with
  | ind n ih =>
    rcases split34 v with h | ⟨a, v', rfl, h⟩
    · rw [dqS_plain h, rep_miss (by decide) (idx_miss h)]
    · have h1 := ih v'.length (by rw [← hn]; simp; omega) v' rfl
      rw [dqS_app, dqS_plain h, dqS_cons34, rep_hit (a := a) (s' := dqS v') (by decide) (by decide) (by have := idx_hit (s' := dqS v') (t := [34]) h; simpa using this) (by simp), h1]
      rfl
theorem cntB_le (s old : ByteArray) : Lib.countB s old ≤ s.size + 1 := by
  have := Lib.count_le s.data.toList old.data.toList
  rw [sz] at this
  exact this
/-- The library's variable that its search reads holds some number. -/
def Mx (W : World) : Prop := ∃ m : Int, W.cell? ⟨0, 0, none⟩ = some (.int .i64 m)
theorem Mx.bel {w w' : World} (h : Mx w) (hb : Below w.heap.size w w') : Mx w' := by
  obtain ⟨m, hm⟩ := h
  refine ⟨m, ?_⟩
  rcases Nat.lt_or_ge 0 w.heap.size with hl | hl
  · rw [World.cell?_of_block (hb.block _ hl)]; exact hm
  · unfold World.cell? at hm
    rw [Array.getElem?_eq_none hl] at hm
    simp at hm
theorem Mx.upd {w w' : World} {b t t' : Nat} {cs cs' : Array Value} (h : Mx w) (hu : Upd b cs' t' w w') (hc : Cb w b cs t) (hn : ∀ m : Int, cs[0]? ≠ some (.int .i64 m)) : Mx w' := by
  obtain ⟨m, hm⟩ := h
  refine ⟨m, ?_⟩
  rcases Nat.lt_or_ge 0 w.heap.size with hl | hl
  · have hne : (0 : Nat) ≠ b := by
      intro e
      rw [← e] at hc
      have h2 : cs[0]? = some (.int .i64 m) := by
        rw [← hm, Lib.cell_of_heap hc]
      exact hn m h2
    rw [World.cell?_of_block (hu.block _ hl hne)]; exact hm
  · unfold World.cell? at hm
    rw [Array.getElem?_eq_none hl] at hm
    simp at hm
theorem replace_half (v : Bs) (w : World) (hm : Mx w) (hs : v.length ≤ 65536) (x : ByteArray) (hx : x = bA (dqS v)) :
    Calls Tryd.prog 42 #[.string x, .string ⟨#[34, 34]⟩, .string ⟨#[34]⟩] w fun e w' => e = .returned (.string (bA v)) ∧ Below w.heap.size w w' := by
  subst hx
  obtain ⟨m, hm⟩ := hm
  have hd := dqS_len v
  have hc : v.count 34 ≤ v.length := List.count_le_length
  refine (Tryd.strings_ReplaceAll (bA (dqS v)) ⟨#[34, 34]⟩ ⟨#[34]⟩ m w (by rw [bA_size]; omega) hm (by decide) ?_).mono fun e w' ⟨h1, h2⟩ => ⟨?_, h2⟩
  · have h1 := cntB_le (bA (dqS v)) ⟨#[34, 34]⟩
    rw [bA_size] at *
    have h2 : (⟨#[34]⟩ : ByteArray).size = 1 := rfl
    rw [h2]
    omega
  · rw [h1]
    have := rep_half v
    show Ending.returned (.string ⟨(Lib.replaceAll (dqS v) [34, 34] [34]).toArray⟩) = _
    rw [this]; rfl
theorem replace_dbl (v : Bs) (w : World) (hm : Mx w) (hs : v.length ≤ 65536) :
    Calls Tryd.prog 42 #[.string (bA v), .string ⟨#[34]⟩, .string ⟨#[34, 34]⟩] w fun e w' => e = .returned (.string (bA (dqS v))) ∧ Below w.heap.size w w' := by
  obtain ⟨m, hm⟩ := hm
  refine (Tryd.strings_ReplaceAll (bA v) ⟨#[34]⟩ ⟨#[34, 34]⟩ m w (by rw [bA_size]; omega) hm (by decide) ?_).mono fun e w' ⟨h1, h2⟩ => ⟨?_, h2⟩
  · have h1 := cntB_le (bA v) ⟨#[34]⟩
    rw [bA_size] at *
    have h2 : (⟨#[34, 34]⟩ : ByteArray).size = 2 := rfl
    rw [h2]
    omega
  · rw [h1]
    have := rep_dbl v
    show Ending.returned (.string ⟨(Lib.replaceAll v [34] [34, 34]).toArray⟩) = _
    rw [this]; rfl
end Go.Proofs.YtanipgjojacbfaaDoor
