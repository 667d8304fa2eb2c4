/- isNode of the program. -/
import Derived.Test.YthbkdjbmkhmlnaaDoorB04
namespace Go.Proofs.YthbkdjbmkhmlnaaDoor
open Go.RowKit
set_option linter.unusedVariables false

theorem str_empty {s : ByteArray} (h : s.toList.isEmpty = true) : s = ByteArray.empty := by
  rw [Lib.toList_data] at h
  have h2 : s.data.toList = [] := List.isEmpty_iff.1 h
  have h3 : s.data = #[] := by apply Array.ext'; simpa using h2
  exact ByteArray.ext h3

set_option maxRecDepth 100000 in
set_option maxHeartbeats 4000000 in
theorem isNode_1 (s : ByteArray) (k : Int) (w : World) (hO : Og w) : Calls Tryd.prog 82 #[.agg #[.int .i64 1, .string s, .int .i64 k]] w fun e w' => e = .returned (.bool (fldB ⟨1, s, k⟩)) ∧ Below w.heap.size w w' := by
  have hN := Lib.hid (fun W => name_any s W)
  have e0 : fldB ⟨1, s, k⟩ = (nameB s && decide (0 ≤ k) && decide (k ≤ 0)) := by unfold fldB; rfl
  rw [e0]
  clear e0
  have o0 : w.cell? ⟨0, 6, none⟩ = some (.string ⟨#[]⟩) := hO.2 6 _ rfl
  have o1 : w.cell? ⟨0, 7, none⟩ = some (.int .i64 5) := hO.2 7 _ rfl
  have o2 : w.cell? ⟨0, 8, none⟩ = some (.int .i64 0) := hO.2 8 _ rfl
  have o3 : w.cell? ⟨0, 9, none⟩ = some (.bool true) := hO.2 9 _ rfl
  have o4 : w.cell? ⟨0, 10, none⟩ = some (.int .i64 0) := hO.2 10 _ rfl
  have o5 : w.cell? ⟨0, 11, none⟩ = some (.int .i64 0) := hO.2 11 _ rfl
  have hz := hO.1
  clear hO
  cases hb : nameB s
  · rw [hb] at hN
    clear hb
    go_enter Tryd.func82, Tryd.ntmps82
    go_wp2_with fail
    refine (hN.out _).mono ?_
    rintro e w1 ⟨rfl, rfl⟩
    go_wp2
    go_ret
    exact ⟨by (first | rfl | (simp; done) | (simp; omega)), ((Below.refl w.heap.size w).alloc (Nat.le_refl _) _).alloc (by simp) _⟩
  · rw [hb] at hN
    clear hb
    by_cases h1 : 0 ≤ k
    · by_cases h2 : k ≤ 0
      · rw [decide_eq_true h1, decide_eq_true h2]
        go_enter Tryd.func82, Tryd.ntmps82
        go_wp2_with fail
        refine (hN.out _).mono ?_
        rintro e w1 ⟨rfl, rfl⟩
        go_wp2
        go_ret
        exact ⟨by (first | rfl | (simp; done) | (simp; omega)), ((Below.refl w.heap.size w).alloc (Nat.le_refl _) _).alloc (by simp) _⟩
      · rw [decide_eq_true h1, decide_eq_false h2]
        go_enter Tryd.func82, Tryd.ntmps82
        go_wp2_with fail
        refine (hN.out _).mono ?_
        rintro e w1 ⟨rfl, rfl⟩
        go_wp2
        go_ret
        exact ⟨by (first | rfl | (simp; done) | (simp; omega)), ((Below.refl w.heap.size w).alloc (Nat.le_refl _) _).alloc (by simp) _⟩
    · rw [decide_eq_false h1]
      go_enter Tryd.func82, Tryd.ntmps82
      go_wp2_with fail
      refine (hN.out _).mono ?_
      rintro e w1 ⟨rfl, rfl⟩
      go_wp2
      go_ret
      exact ⟨by (first | rfl | (simp; done) | (simp; omega)), ((Below.refl w.heap.size w).alloc (Nat.le_refl _) _).alloc (by simp) _⟩

set_option maxRecDepth 100000 in
set_option maxHeartbeats 4000000 in
theorem isNode_2 (s : ByteArray) (k : Int) (w : World) (hO : Og w) : Calls Tryd.prog 82 #[.agg #[.int .i64 2, .string s, .int .i64 k]] w fun e w' => e = .returned (.bool (fldB ⟨2, s, k⟩)) ∧ Below w.heap.size w w' := by
  have hN := Lib.hid (fun W => name_any s W)
  have e0 : fldB ⟨2, s, k⟩ = (nameB s && decide (2 ≤ k) && decide (k ≤ 8)) := by unfold fldB; rfl
  rw [e0]
  clear e0
  have o0 : w.cell? ⟨0, 12, none⟩ = some (.string ⟨#[112, 111, 119, 101, 114]⟩) := hO.2 12 _ rfl
  have o1 : w.cell? ⟨0, 13, none⟩ = some (.int .i64 5) := hO.2 13 _ rfl
  have o2 : w.cell? ⟨0, 14, none⟩ = some (.int .i64 0) := hO.2 14 _ rfl
  have o3 : w.cell? ⟨0, 15, none⟩ = some (.bool true) := hO.2 15 _ rfl
  have o4 : w.cell? ⟨0, 16, none⟩ = some (.int .i64 2) := hO.2 16 _ rfl
  have o5 : w.cell? ⟨0, 17, none⟩ = some (.int .i64 8) := hO.2 17 _ rfl
  have hz := hO.1
  clear hO
  cases hb : nameB s
  · rw [hb] at hN
    clear hb
    go_enter Tryd.func82, Tryd.ntmps82
    go_wp2_with fail
    refine (hN.out _).mono ?_
    rintro e w1 ⟨rfl, rfl⟩
    go_wp2
    go_ret
    exact ⟨by (first | rfl | (simp; done) | (simp; omega)), ((Below.refl w.heap.size w).alloc (Nat.le_refl _) _).alloc (by simp) _⟩
  · rw [hb] at hN
    clear hb
    by_cases h1 : 2 ≤ k
    · by_cases h2 : k ≤ 8
      · rw [decide_eq_true h1, decide_eq_true h2]
        go_enter Tryd.func82, Tryd.ntmps82
        go_wp2_with fail
        refine (hN.out _).mono ?_
        rintro e w1 ⟨rfl, rfl⟩
        go_wp2
        go_ret
        exact ⟨by (first | rfl | (simp; done) | (simp; omega)), ((Below.refl w.heap.size w).alloc (Nat.le_refl _) _).alloc (by simp) _⟩
      · rw [decide_eq_true h1, decide_eq_false h2]
        go_enter Tryd.func82, Tryd.ntmps82
        go_wp2_with fail
        refine (hN.out _).mono ?_
        rintro e w1 ⟨rfl, rfl⟩
        go_wp2
        go_ret
        exact ⟨by (first | rfl | (simp; done) | (simp; omega)), ((Below.refl w.heap.size w).alloc (Nat.le_refl _) _).alloc (by simp) _⟩
    · rw [decide_eq_false h1]
      go_enter Tryd.func82, Tryd.ntmps82
      go_wp2_with fail
      refine (hN.out _).mono ?_
      rintro e w1 ⟨rfl, rfl⟩
      go_wp2
      go_ret
      exact ⟨by (first | rfl | (simp; done) | (simp; omega)), ((Below.refl w.heap.size w).alloc (Nat.le_refl _) _).alloc (by simp) _⟩

set_option maxRecDepth 100000 in
set_option maxHeartbeats 4000000 in
theorem isNode_3 (s : ByteArray) (k : Int) (w : World) (hO : Og w) : Calls Tryd.prog 82 #[.agg #[.int .i64 3, .string s, .int .i64 k]] w fun e w' => e = .returned (.bool (fldB ⟨3, s, k⟩)) ∧ Below w.heap.size w w' := by
  have hN := Lib.hid (fun W => name_any s W)
  have e0 : fldB ⟨3, s, k⟩ = (s.toList.isEmpty && decide (0 ≤ k) && decide (k ≤ 0)) := by unfold fldB; rfl
  rw [e0]
  clear e0
  have o0 : w.cell? ⟨0, 18, none⟩ = some (.string ⟨#[49]⟩) := hO.2 18 _ rfl
  have o1 : w.cell? ⟨0, 19, none⟩ = some (.int .i64 5) := hO.2 19 _ rfl
  have o2 : w.cell? ⟨0, 20, none⟩ = some (.int .i64 0) := hO.2 20 _ rfl
  have o3 : w.cell? ⟨0, 21, none⟩ = some (.bool false) := hO.2 21 _ rfl
  have o4 : w.cell? ⟨0, 22, none⟩ = some (.int .i64 0) := hO.2 22 _ rfl
  have o5 : w.cell? ⟨0, 23, none⟩ = some (.int .i64 0) := hO.2 23 _ rfl
  have hz := hO.1
  clear hO
  clear hN
  cases hb : s.toList.isEmpty
  · skip
    go_enter Tryd.func82, Tryd.ntmps82
    go_wp2
    go_ret
    exact ⟨by (first | rfl | (simp; done) | (simp; omega)), ((Below.refl w.heap.size w).alloc (Nat.le_refl _) _).alloc (by simp) _⟩
  · have hs := str_empty hb
    subst hs
    clear hb
    by_cases h1 : 0 ≤ k
    · by_cases h2 : k ≤ 0
      · rw [decide_eq_true h1, decide_eq_true h2]
        go_enter Tryd.func82, Tryd.ntmps82
        go_wp2
        go_ret
        exact ⟨by (first | rfl | (simp; done) | (simp; omega)), ((Below.refl w.heap.size w).alloc (Nat.le_refl _) _).alloc (by simp) _⟩
      · rw [decide_eq_true h1, decide_eq_false h2]
        go_enter Tryd.func82, Tryd.ntmps82
        go_wp2
        go_ret
        exact ⟨by (first | rfl | (simp; done) | (simp; omega)), ((Below.refl w.heap.size w).alloc (Nat.le_refl _) _).alloc (by simp) _⟩
    · rw [decide_eq_false h1]
      go_enter Tryd.func82, Tryd.ntmps82
      go_wp2
      go_ret
      exact ⟨by (first | rfl | (simp; done) | (simp; omega)), ((Below.refl w.heap.size w).alloc (Nat.le_refl _) _).alloc (by simp) _⟩

set_option maxRecDepth 100000 in
set_option maxHeartbeats 4000000 in
theorem isNode_4 (s : ByteArray) (k : Int) (w : World) (hO : Og w) : Calls Tryd.prog 82 #[.agg #[.int .i64 4, .string s, .int .i64 k]] w fun e w' => e = .returned (.bool (fldB ⟨4, s, k⟩)) ∧ Below w.heap.size w w' := by
  have hN := Lib.hid (fun W => name_any s W)
  have e0 : fldB ⟨4, s, k⟩ = (s.toList.isEmpty && decide (0 ≤ k) && decide (k ≤ 0)) := by unfold fldB; rfl
  rw [e0]
  clear e0
  have o0 : w.cell? ⟨0, 24, none⟩ = some (.string ⟨#[48]⟩) := hO.2 24 _ rfl
  have o1 : w.cell? ⟨0, 25, none⟩ = some (.int .i64 5) := hO.2 25 _ rfl
  have o2 : w.cell? ⟨0, 26, none⟩ = some (.int .i64 0) := hO.2 26 _ rfl
  have o3 : w.cell? ⟨0, 27, none⟩ = some (.bool false) := hO.2 27 _ rfl
  have o4 : w.cell? ⟨0, 28, none⟩ = some (.int .i64 0) := hO.2 28 _ rfl
  have o5 : w.cell? ⟨0, 29, none⟩ = some (.int .i64 0) := hO.2 29 _ rfl
  have hz := hO.1
  clear hO
  clear hN
  cases hb : s.toList.isEmpty
  · skip
    go_enter Tryd.func82, Tryd.ntmps82
    go_wp2
    go_ret
    exact ⟨by (first | rfl | (simp; done) | (simp; omega)), ((Below.refl w.heap.size w).alloc (Nat.le_refl _) _).alloc (by simp) _⟩
  · have hs := str_empty hb
    subst hs
    clear hb
    by_cases h1 : 0 ≤ k
    · by_cases h2 : k ≤ 0
      · rw [decide_eq_true h1, decide_eq_true h2]
        go_enter Tryd.func82, Tryd.ntmps82
        go_wp2
        go_ret
        exact ⟨by (first | rfl | (simp; done) | (simp; omega)), ((Below.refl w.heap.size w).alloc (Nat.le_refl _) _).alloc (by simp) _⟩
      · rw [decide_eq_true h1, decide_eq_false h2]
        go_enter Tryd.func82, Tryd.ntmps82
        go_wp2
        go_ret
        exact ⟨by (first | rfl | (simp; done) | (simp; omega)), ((Below.refl w.heap.size w).alloc (Nat.le_refl _) _).alloc (by simp) _⟩
    · rw [decide_eq_false h1]
      go_enter Tryd.func82, Tryd.ntmps82
      go_wp2
      go_ret
      exact ⟨by (first | rfl | (simp; done) | (simp; omega)), ((Below.refl w.heap.size w).alloc (Nat.le_refl _) _).alloc (by simp) _⟩

set_option maxRecDepth 100000 in
set_option maxHeartbeats 4000000 in
theorem isNode_5 (s : ByteArray) (k : Int) (w : World) (hO : Og w) : Calls Tryd.prog 82 #[.agg #[.int .i64 5, .string s, .int .i64 k]] w fun e w' => e = .returned (.bool (fldB ⟨5, s, k⟩)) ∧ Below w.heap.size w w' := by
  have hN := Lib.hid (fun W => name_any s W)
  have e0 : fldB ⟨5, s, k⟩ = (s.toList.isEmpty && decide (0 ≤ k) && decide (k ≤ 0)) := by unfold fldB; rfl
  rw [e0]
  clear e0
  have o0 : w.cell? ⟨0, 30, none⟩ = some (.string ⟨#[43]⟩) := hO.2 30 _ rfl
  have o1 : w.cell? ⟨0, 31, none⟩ = some (.int .i64 1) := hO.2 31 _ rfl
  have o2 : w.cell? ⟨0, 32, none⟩ = some (.int .i64 2) := hO.2 32 _ rfl
  have o3 : w.cell? ⟨0, 33, none⟩ = some (.bool false) := hO.2 33 _ rfl
  have o4 : w.cell? ⟨0, 34, none⟩ = some (.int .i64 0) := hO.2 34 _ rfl
  have o5 : w.cell? ⟨0, 35, none⟩ = some (.int .i64 0) := hO.2 35 _ rfl
  have hz := hO.1
  clear hO
  clear hN
  cases hb : s.toList.isEmpty
  · skip
    go_enter Tryd.func82, Tryd.ntmps82
    go_wp2
    go_ret
    exact ⟨by (first | rfl | (simp; done) | (simp; omega)), ((Below.refl w.heap.size w).alloc (Nat.le_refl _) _).alloc (by simp) _⟩
  · have hs := str_empty hb
    subst hs
    clear hb
    by_cases h1 : 0 ≤ k
    · by_cases h2 : k ≤ 0
      · rw [decide_eq_true h1, decide_eq_true h2]
        go_enter Tryd.func82, Tryd.ntmps82
        go_wp2
        go_ret
        exact ⟨by (first | rfl | (simp; done) | (simp; omega)), ((Below.refl w.heap.size w).alloc (Nat.le_refl _) _).alloc (by simp) _⟩
      · rw [decide_eq_true h1, decide_eq_false h2]
        go_enter Tryd.func82, Tryd.ntmps82
        go_wp2
        go_ret
        exact ⟨by (first | rfl | (simp; done) | (simp; omega)), ((Below.refl w.heap.size w).alloc (Nat.le_refl _) _).alloc (by simp) _⟩
    · rw [decide_eq_false h1]
      go_enter Tryd.func82, Tryd.ntmps82
      go_wp2
      go_ret
      exact ⟨by (first | rfl | (simp; done) | (simp; omega)), ((Below.refl w.heap.size w).alloc (Nat.le_refl _) _).alloc (by simp) _⟩

set_option maxRecDepth 100000 in
set_option maxHeartbeats 4000000 in
theorem isNode_6 (s : ByteArray) (k : Int) (w : World) (hO : Og w) : Calls Tryd.prog 82 #[.agg #[.int .i64 6, .string s, .int .i64 k]] w fun e w' => e = .returned (.bool (fldB ⟨6, s, k⟩)) ∧ Below w.heap.size w w' := by
  have hN := Lib.hid (fun W => name_any s W)
  have e0 : fldB ⟨6, s, k⟩ = (s.toList.isEmpty && decide (0 ≤ k) && decide (k ≤ 0)) := by unfold fldB; rfl
  rw [e0]
  clear e0
  have o0 : w.cell? ⟨0, 36, none⟩ = some (.string ⟨#[45]⟩) := hO.2 36 _ rfl
  have o1 : w.cell? ⟨0, 37, none⟩ = some (.int .i64 1) := hO.2 37 _ rfl
  have o2 : w.cell? ⟨0, 38, none⟩ = some (.int .i64 2) := hO.2 38 _ rfl
  have o3 : w.cell? ⟨0, 39, none⟩ = some (.bool false) := hO.2 39 _ rfl
  have o4 : w.cell? ⟨0, 40, none⟩ = some (.int .i64 0) := hO.2 40 _ rfl
  have o5 : w.cell? ⟨0, 41, none⟩ = some (.int .i64 0) := hO.2 41 _ rfl
  have hz := hO.1
  clear hO
  clear hN
  cases hb : s.toList.isEmpty
  · skip
    go_enter Tryd.func82, Tryd.ntmps82
    go_wp2
    go_ret
    exact ⟨by (first | rfl | (simp; done) | (simp; omega)), ((Below.refl w.heap.size w).alloc (Nat.le_refl _) _).alloc (by simp) _⟩
  · have hs := str_empty hb
    subst hs
    clear hb
    by_cases h1 : 0 ≤ k
    · by_cases h2 : k ≤ 0
      · rw [decide_eq_true h1, decide_eq_true h2]
        go_enter Tryd.func82, Tryd.ntmps82
        go_wp2
        go_ret
        exact ⟨by (first | rfl | (simp; done) | (simp; omega)), ((Below.refl w.heap.size w).alloc (Nat.le_refl _) _).alloc (by simp) _⟩
      · rw [decide_eq_true h1, decide_eq_false h2]
        go_enter Tryd.func82, Tryd.ntmps82
        go_wp2
        go_ret
        exact ⟨by (first | rfl | (simp; done) | (simp; omega)), ((Below.refl w.heap.size w).alloc (Nat.le_refl _) _).alloc (by simp) _⟩
    · rw [decide_eq_false h1]
      go_enter Tryd.func82, Tryd.ntmps82
      go_wp2
      go_ret
      exact ⟨by (first | rfl | (simp; done) | (simp; omega)), ((Below.refl w.heap.size w).alloc (Nat.le_refl _) _).alloc (by simp) _⟩

set_option maxRecDepth 100000 in
set_option maxHeartbeats 4000000 in
theorem isNode_7 (s : ByteArray) (k : Int) (w : World) (hO : Og w) : Calls Tryd.prog 82 #[.agg #[.int .i64 7, .string s, .int .i64 k]] w fun e w' => e = .returned (.bool (fldB ⟨7, s, k⟩)) ∧ Below w.heap.size w w' := by
  have hN := Lib.hid (fun W => name_any s W)
  have e0 : fldB ⟨7, s, k⟩ = (s.toList.isEmpty && decide (0 ≤ k) && decide (k ≤ 0)) := by unfold fldB; rfl
  rw [e0]
  clear e0
  have o0 : w.cell? ⟨0, 42, none⟩ = some (.string ⟨#[58]⟩) := hO.2 42 _ rfl
  have o1 : w.cell? ⟨0, 43, none⟩ = some (.int .i64 3) := hO.2 43 _ rfl
  have o2 : w.cell? ⟨0, 44, none⟩ = some (.int .i64 2) := hO.2 44 _ rfl
  have o3 : w.cell? ⟨0, 45, none⟩ = some (.bool false) := hO.2 45 _ rfl
  have o4 : w.cell? ⟨0, 46, none⟩ = some (.int .i64 0) := hO.2 46 _ rfl
  have o5 : w.cell? ⟨0, 47, none⟩ = some (.int .i64 0) := hO.2 47 _ rfl
  have hz := hO.1
  clear hO
  clear hN
  cases hb : s.toList.isEmpty
  · skip
    go_enter Tryd.func82, Tryd.ntmps82
    go_wp2
    go_ret
    exact ⟨by (first | rfl | (simp; done) | (simp; omega)), ((Below.refl w.heap.size w).alloc (Nat.le_refl _) _).alloc (by simp) _⟩
  · have hs := str_empty hb
    subst hs
    clear hb
    by_cases h1 : 0 ≤ k
    · by_cases h2 : k ≤ 0
      · rw [decide_eq_true h1, decide_eq_true h2]
        go_enter Tryd.func82, Tryd.ntmps82
        go_wp2
        go_ret
        exact ⟨by (first | rfl | (simp; done) | (simp; omega)), ((Below.refl w.heap.size w).alloc (Nat.le_refl _) _).alloc (by simp) _⟩
      · rw [decide_eq_true h1, decide_eq_false h2]
        go_enter Tryd.func82, Tryd.ntmps82
        go_wp2
        go_ret
        exact ⟨by (first | rfl | (simp; done) | (simp; omega)), ((Below.refl w.heap.size w).alloc (Nat.le_refl _) _).alloc (by simp) _⟩
    · rw [decide_eq_false h1]
      go_enter Tryd.func82, Tryd.ntmps82
      go_wp2
      go_ret
      exact ⟨by (first | rfl | (simp; done) | (simp; omega)), ((Below.refl w.heap.size w).alloc (Nat.le_refl _) _).alloc (by simp) _⟩

set_option maxRecDepth 100000 in
set_option maxHeartbeats 4000000 in
theorem isNode_8 (s : ByteArray) (k : Int) (w : World) (hO : Og w) : Calls Tryd.prog 82 #[.agg #[.int .i64 8, .string s, .int .i64 k]] w fun e w' => e = .returned (.bool (fldB ⟨8, s, k⟩)) ∧ Below w.heap.size w w' := by
  have hN := Lib.hid (fun W => name_any s W)
  have e0 : fldB ⟨8, s, k⟩ = (s.toList.isEmpty && decide (0 ≤ k) && decide (k ≤ 0)) := by unfold fldB; rfl
  rw [e0]
  clear e0
  have o0 : w.cell? ⟨0, 48, none⟩ = some (.string ⟨#[42]⟩) := hO.2 48 _ rfl
  have o1 : w.cell? ⟨0, 49, none⟩ = some (.int .i64 2) := hO.2 49 _ rfl
  have o2 : w.cell? ⟨0, 50, none⟩ = some (.int .i64 2) := hO.2 50 _ rfl
  have o3 : w.cell? ⟨0, 51, none⟩ = some (.bool false) := hO.2 51 _ rfl
  have o4 : w.cell? ⟨0, 52, none⟩ = some (.int .i64 0) := hO.2 52 _ rfl
  have o5 : w.cell? ⟨0, 53, none⟩ = some (.int .i64 0) := hO.2 53 _ rfl
  have hz := hO.1
  clear hO
  clear hN
  cases hb : s.toList.isEmpty
  · skip
    go_enter Tryd.func82, Tryd.ntmps82
    go_wp2
    go_ret
    exact ⟨by (first | rfl | (simp; done) | (simp; omega)), ((Below.refl w.heap.size w).alloc (Nat.le_refl _) _).alloc (by simp) _⟩
  · have hs := str_empty hb
    subst hs
    clear hb
    by_cases h1 : 0 ≤ k
    · by_cases h2 : k ≤ 0
      · rw [decide_eq_true h1, decide_eq_true h2]
        go_enter Tryd.func82, Tryd.ntmps82
        go_wp2
        go_ret
        exact ⟨by (first | rfl | (simp; done) | (simp; omega)), ((Below.refl w.heap.size w).alloc (Nat.le_refl _) _).alloc (by simp) _⟩
      · rw [decide_eq_true h1, decide_eq_false h2]
        go_enter Tryd.func82, Tryd.ntmps82
        go_wp2
        go_ret
        exact ⟨by (first | rfl | (simp; done) | (simp; omega)), ((Below.refl w.heap.size w).alloc (Nat.le_refl _) _).alloc (by simp) _⟩
    · rw [decide_eq_false h1]
      go_enter Tryd.func82, Tryd.ntmps82
      go_wp2
      go_ret
      exact ⟨by (first | rfl | (simp; done) | (simp; omega)), ((Below.refl w.heap.size w).alloc (Nat.le_refl _) _).alloc (by simp) _⟩

set_option maxRecDepth 100000 in
set_option maxHeartbeats 4000000 in
theorem isNode_9 (s : ByteArray) (k : Int) (w : World) (hO : Og w) : Calls Tryd.prog 82 #[.agg #[.int .i64 9, .string s, .int .i64 k]] w fun e w' => e = .returned (.bool (fldB ⟨9, s, k⟩)) ∧ Below w.heap.size w w' := by
  have hN := Lib.hid (fun W => name_any s W)
  have e0 : fldB ⟨9, s, k⟩ = (s.toList.isEmpty && decide (0 ≤ k) && decide (k ≤ 0)) := by unfold fldB; rfl
  rw [e0]
  clear e0
  have o0 : w.cell? ⟨0, 54, none⟩ = some (.string ⟨#[47]⟩) := hO.2 54 _ rfl
  have o1 : w.cell? ⟨0, 55, none⟩ = some (.int .i64 2) := hO.2 55 _ rfl
  have o2 : w.cell? ⟨0, 56, none⟩ = some (.int .i64 2) := hO.2 56 _ rfl
  have o3 : w.cell? ⟨0, 57, none⟩ = some (.bool false) := hO.2 57 _ rfl
  have o4 : w.cell? ⟨0, 58, none⟩ = some (.int .i64 0) := hO.2 58 _ rfl
  have o5 : w.cell? ⟨0, 59, none⟩ = some (.int .i64 0) := hO.2 59 _ rfl
  have hz := hO.1
  clear hO
  clear hN
  cases hb : s.toList.isEmpty
  · skip
    go_enter Tryd.func82, Tryd.ntmps82
    go_wp2
    go_ret
    exact ⟨by (first | rfl | (simp; done) | (simp; omega)), ((Below.refl w.heap.size w).alloc (Nat.le_refl _) _).alloc (by simp) _⟩
  · have hs := str_empty hb
    subst hs
    clear hb
    by_cases h1 : 0 ≤ k
    · by_cases h2 : k ≤ 0
      · rw [decide_eq_true h1, decide_eq_true h2]
        go_enter Tryd.func82, Tryd.ntmps82
        go_wp2
        go_ret
        exact ⟨by (first | rfl | (simp; done) | (simp; omega)), ((Below.refl w.heap.size w).alloc (Nat.le_refl _) _).alloc (by simp) _⟩
      · rw [decide_eq_true h1, decide_eq_false h2]
        go_enter Tryd.func82, Tryd.ntmps82
        go_wp2
        go_ret
        exact ⟨by (first | rfl | (simp; done) | (simp; omega)), ((Below.refl w.heap.size w).alloc (Nat.le_refl _) _).alloc (by simp) _⟩
    · rw [decide_eq_false h1]
      go_enter Tryd.func82, Tryd.ntmps82
      go_wp2
      go_ret
      exact ⟨by (first | rfl | (simp; done) | (simp; omega)), ((Below.refl w.heap.size w).alloc (Nat.le_refl _) _).alloc (by simp) _⟩

set_option maxRecDepth 100000 in
set_option maxHeartbeats 4000000 in
theorem isNode_10 (s : ByteArray) (k : Int) (w : World) (hO : Og w) : Calls Tryd.prog 82 #[.agg #[.int .i64 10, .string s, .int .i64 k]] w fun e w' => e = .returned (.bool (fldB ⟨10, s, k⟩)) ∧ Below w.heap.size w w' := by
  have hN := Lib.hid (fun W => name_any s W)
  have e0 : fldB ⟨10, s, k⟩ = (s.toList.isEmpty && decide (1 ≤ k) && decide (k ≤ 6)) := by unfold fldB; rfl
  rw [e0]
  clear e0
  have o0 : w.cell? ⟨0, 60, none⟩ = some (.string ⟨#[94]⟩) := hO.2 60 _ rfl
  have o1 : w.cell? ⟨0, 61, none⟩ = some (.int .i64 4) := hO.2 61 _ rfl
  have o2 : w.cell? ⟨0, 62, none⟩ = some (.int .i64 1) := hO.2 62 _ rfl
  have o3 : w.cell? ⟨0, 63, none⟩ = some (.bool false) := hO.2 63 _ rfl
  have o4 : w.cell? ⟨0, 64, none⟩ = some (.int .i64 1) := hO.2 64 _ rfl
  have o5 : w.cell? ⟨0, 65, none⟩ = some (.int .i64 6) := hO.2 65 _ rfl
  have hz := hO.1
  clear hO
  clear hN
  cases hb : s.toList.isEmpty
  · skip
    go_enter Tryd.func82, Tryd.ntmps82
    go_wp2
    go_ret
    exact ⟨by (first | rfl | (simp; done) | (simp; omega)), ((Below.refl w.heap.size w).alloc (Nat.le_refl _) _).alloc (by simp) _⟩
  · have hs := str_empty hb
    subst hs
    clear hb
    by_cases h1 : 1 ≤ k
    · by_cases h2 : k ≤ 6
      · rw [decide_eq_true h1, decide_eq_true h2]
        go_enter Tryd.func82, Tryd.ntmps82
        go_wp2
        go_ret
        exact ⟨by (first | rfl | (simp; done) | (simp; omega)), ((Below.refl w.heap.size w).alloc (Nat.le_refl _) _).alloc (by simp) _⟩
      · rw [decide_eq_true h1, decide_eq_false h2]
        go_enter Tryd.func82, Tryd.ntmps82
        go_wp2
        go_ret
        exact ⟨by (first | rfl | (simp; done) | (simp; omega)), ((Below.refl w.heap.size w).alloc (Nat.le_refl _) _).alloc (by simp) _⟩
    · rw [decide_eq_false h1]
      go_enter Tryd.func82, Tryd.ntmps82
      go_wp2
      go_ret
      exact ⟨by (first | rfl | (simp; done) | (simp; omega)), ((Below.refl w.heap.size w).alloc (Nat.le_refl _) _).alloc (by simp) _⟩
end Go.Proofs.YthbkdjbmkhmlnaaDoor
