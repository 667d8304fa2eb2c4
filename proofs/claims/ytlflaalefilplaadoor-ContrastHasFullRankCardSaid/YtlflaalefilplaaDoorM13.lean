/- Numbers of a coding: the program's and the reference's. -/
import Derived.Test.YtlflaalefilplaaDoorM03
import Derived.Test.YtlflaalefilplaaDoorM12
namespace Go.Proofs.YtlflaalefilplaaDoor
open Go.RowKit
set_option linter.unusedVariables false

/-- 1 for true. -/
def tru (b : Bool) : Int := if b then 1 else 0
theorem tru_1 {a b : Int} (h : a = b) : tru (a == b) = 1 := by simp [tru, h]
theorem tru_0 {a b : Int} (h : ¬ a = b) : tru (a == b) = 0 := by simp [tru, h]
/-- A number of a coding's matrix. -/
def ent (k n i j : Int) : Int :=
  if k = 4 then tru (i == j)
  else if k = 1 then tru (i == j + 1)
  else if k = 2 then (if i = n - 1 then -1 else tru (i == j))
  else if i ≤ j then -1 else if i = j + 1 then i else 0
section
variable (i j n : Int) (w : World)
theorem indicator_any : Calls Tryd.prog 40 #[.int .i64 i, .int .i64 j, .int .i64 n] w fun e w' => e = .returned (.int .i64 (tru (i == j))) ∧ w' = w := by
  by_cases h : i = j
  · rw [tru_1 h]
    subst h
    go_enter Tryd.func40, Tryd.ntmps40
    go_wp2
    go_ret
    exact ⟨rfl, rfl⟩
  · rw [tru_0 h]
    go_enter Tryd.func40, Tryd.ntmps40
    go_wp2
    go_ret
    exact ⟨rfl, rfl⟩
theorem treatment_any (h0 : 0 ≤ j) (h1 : j ≤ 1000) : Calls Tryd.prog 42 #[.int .i64 i, .int .i64 j, .int .i64 n] w fun e w' => e = .returned (.int .i64 (tru (i == j + 1))) ∧ w' = w := by
  have hI := indicator_any i (j + 1) n w
  generalize tru (i == j + 1) = v at *
  go_enter Tryd.func42, Tryd.ntmps42
  go_wp2_with fail
  refine hI.mono ?_
  rintro e w1 ⟨rfl, rfl⟩
  go_wp2
  go_ret
  exact ⟨rfl, rfl⟩
theorem sum_any (h0 : 0 ≤ n) (h1 : n ≤ 1000) : Calls Tryd.prog 44 #[.int .i64 i, .int .i64 j, .int .i64 n] w fun e w' => e = .returned (.int .i64 (if i = n - 1 then -1 else tru (i == j))) ∧ w' = w := by
  have hI := indicator_any i j n w
  generalize tru (i == j) = v at *
  by_cases h : i = n - 1
  · rw [if_pos h]
    subst h
    go_enter Tryd.func44, Tryd.ntmps44
    go_wp2
    go_ret
    exact ⟨rfl, rfl⟩
  · rw [if_neg h]
    go_enter Tryd.func44, Tryd.ntmps44
    go_wp2_with fail
    refine hI.mono ?_
    rintro e w1 ⟨rfl, rfl⟩
    go_wp2
    go_ret
    exact ⟨rfl, rfl⟩
theorem helmert_any (h0 : 0 ≤ j) (h1 : j ≤ 1000) : Calls Tryd.prog 46 #[.int .i64 i, .int .i64 j, .int .i64 n] w fun e w' => e = .returned (.int .i64 (if i ≤ j then -1 else if i = j + 1 then i else 0)) ∧ w' = w := by
  by_cases h : i ≤ j
  · rw [if_pos h]
    go_enter Tryd.func46, Tryd.ntmps46
    go_wp2
    go_ret
    exact ⟨rfl, rfl⟩
  · rw [if_neg h]
    by_cases h2 : i = j + 1
    · rw [if_pos h2]
      go_enter Tryd.func46, Tryd.ntmps46
      go_wp2
      go_ret
      exact ⟨rfl, rfl⟩
    · rw [if_neg h2]
      go_enter Tryd.func46, Tryd.ntmps46
      go_wp2
      go_ret
      exact ⟨rfl, rfl⟩
theorem truth_any (b : Bool) : Calls Tryd.prog 48 #[.bool b] w fun e w' => e = .returned (.int .i64 (tru b)) ∧ w' = w := by
  cases b
  · go_enter Tryd.func48, Tryd.ntmps48
    go_wp2
    go_ret
    exact ⟨rfl, rfl⟩
  · go_enter Tryd.func48, Tryd.ntmps48
    go_wp2
    go_ret
    exact ⟨rfl, rfl⟩
theorem columns_any (k : Int) (h0 : 0 ≤ n) (h1 : n ≤ 1000) : Calls Tryd.prog 25 #[.int .i64 k, .int .i64 n] w fun e w' => e = .returned (.int .i64 (if k = 4 then n else n - 1)) ∧ w' = w := by
  by_cases h : k = 4
  · rw [if_pos h]
    go_enter Tryd.func25, Tryd.ntmps25
    go_wp2
    go_ret
    exact ⟨rfl, rfl⟩
  · rw [if_neg h]
    go_enter Tryd.func25, Tryd.ntmps25
    go_wp2
    go_ret
    exact ⟨rfl, rfl⟩
end
end Go.Proofs.YtlflaalefilplaaDoor
namespace Go.Proofs.YtlflaalefilplaaDoor
open Go.RowKit
set_option linter.unusedVariables false

section
variable (k n i j : Int) (w : World)
theorem tru_range (b : Bool) : tru b = 0 ∨ tru b = 1 := by cases b <;> simp [tru]
theorem entry_any (hk : 1 ≤ k) (hk4 : k ≤ 4) (h0 : 0 ≤ j) (h1 : j ≤ 1000) (n0 : 0 ≤ n) (n1 : n ≤ 1000) : Calls Tryd.prog 26 #[.int .i64 k, .int .i64 n, .int .i64 i, .int .i64 j] w fun e w' => e = .returned (.int .i64 (ent k n i j)) ∧ w' = w := by
  by_cases k4 : k = 4
  · subst k4
    rw [show ent 4 n i j = tru (i == j) from rfl]
    go_enter Tryd.func26, Tryd.ntmps26
    go_wp2_with fail
    refine (truth_any _ (i == j)).mono ?_
    rintro e w1 ⟨rfl, rfl⟩
    go_wp2
    go_ret
    exact ⟨rfl, rfl⟩
  by_cases k1 : k = 1
  · subst k1
    rw [show ent 1 n i j = tru (i == j + 1) from rfl]
    go_enter Tryd.func26, Tryd.ntmps26
    go_wp2_with fail
    refine (truth_any _ (i == j + 1)).mono ?_
    rintro e w1 ⟨rfl, rfl⟩
    go_wp2
    go_ret
    exact ⟨rfl, rfl⟩
  by_cases k2 : k = 2
  · subst k2
    rw [show ent 2 n i j = if i = n - 1 then -1 else tru (i == j) from rfl]
    by_cases h : i = n - 1
    · rw [if_pos h]
      subst h
      go_enter Tryd.func26, Tryd.ntmps26
      go_wp2
      go_ret
      exact ⟨rfl, rfl⟩
    · rw [if_neg h]
      go_enter Tryd.func26, Tryd.ntmps26
      go_wp2_with fail
      refine (truth_any _ (i == j)).mono ?_
      rintro e w1 ⟨rfl, rfl⟩
      go_wp2
      go_ret
      exact ⟨rfl, rfl⟩
  · have k3 : k = 3 := by omega
    subst k3
    rw [show ent 3 n i j = if i ≤ j then -1 else if i = j + 1 then i else 0 from rfl]
    by_cases h : i ≤ j
    · rw [if_pos h]
      clear k4 k1 k2
      go_enter Tryd.func26, Tryd.ntmps26
      go_wp2
      go_ret
      exact ⟨rfl, rfl⟩
    · rw [if_neg h]
      have hv : (j + 1) * tru (i == j + 1) = if i = j + 1 then i else 0 := by
        by_cases h2 : i = j + 1
        · rw [if_pos h2, tru_1 h2, h2]; omega
        · rw [if_neg h2, tru_0 h2]; omega
      have hr : -9223372036854775808 ≤ (j + 1) * tru (i == j + 1) ∧ (j + 1) * tru (i == j + 1) ≤ 9223372036854775807 := by
        rcases tru_range (i == j + 1) with e | e <;> rw [e] <;> omega
      rw [← hv]
      have hw : IntKind.i64.wrap ((j + 1) * tru (i == j + 1)) = (j + 1) * tru (i == j + 1) := by
        rcases tru_range (i == j + 1) with e | e <;> rw [e]
        · simp
          rfl
        · rw [Int.mul_one]
          exact wrap_small _ (by omega) (by omega)
      clear k4 k1 k2 hv
      have ht := fun W => truth_any W (i == j + 1)
      generalize tru (i == j + 1) = v at *
      go_enter Tryd.func26, Tryd.ntmps26
      go_wp2_with fail
      refine (ht _).mono ?_
      rintro e w1 ⟨rfl, rfl⟩
      go_wp2
      go_ret
      exact ⟨rfl, rfl⟩
/-- There is such a coding for so many levels. -/
def posB (k n : Int) : Bool := decide (1 ≤ k) && decide (k ≤ 4) && decide (1 ≤ n) && decide (n ≤ 32)
theorem possible_any : Calls Tryd.prog 24 #[.int .i64 k, .int .i64 n] w fun e w' => e = .returned (.bool (posB k n)) ∧ w' = w := by
  have fin : ∀ b : Bool, posB k n = b → b = posB k n := fun _ h => h.symm
  by_cases k1 : 1 ≤ k
  · by_cases k4 : k ≤ 4
    · by_cases n1 : 1 ≤ n
      · by_cases n4 : n ≤ 32
        · rw [show posB k n = true by simp [posB, k1, k4, n1, n4]]
          go_enter Tryd.func24, Tryd.ntmps24
          go_wp2
          go_ret
          exact ⟨by simp [*], rfl⟩
        · rw [show posB k n = false by simp [posB, k1, k4, n1, n4]]
          go_enter Tryd.func24, Tryd.ntmps24
          go_wp2
          go_ret
          exact ⟨by simp [*], rfl⟩
      · rw [show posB k n = false by simp [posB, k1, k4, n1]]
        go_enter Tryd.func24, Tryd.ntmps24
        go_wp2
        go_ret
        exact ⟨by simp [*], rfl⟩
    · rw [show posB k n = false by simp [posB, k1, k4]]
      go_enter Tryd.func24, Tryd.ntmps24
      go_wp2
      go_ret
      exact ⟨by simp [*], rfl⟩
  · rw [show posB k n = false by simp [posB, k1]]
    go_enter Tryd.func24, Tryd.ntmps24
    go_wp2
    go_ret
    exact ⟨by simp [*], rfl⟩
end
end Go.Proofs.YtlflaalefilplaaDoor
