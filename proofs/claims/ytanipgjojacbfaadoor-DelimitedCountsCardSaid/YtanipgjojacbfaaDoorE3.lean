/- Two texts, one behind the other. -/
import Derived.Test.YtanipgjojacbfaaDoorE2
namespace Go.Proofs.YtanipgjojacbfaaDoor
open Go.RowKit Go.Lib
set_option linter.unusedVariables false

/-- The text ends with a line's end. -/
def En (r : Bs) : Prop := r.getLast? = some 10
theorem last_app (u : Bs) (c : UInt8) (k : Bs) : (u ++ c :: k).getLast? = (c :: k).getLast? := by
  rw [List.getLast?_append]
  cases h : (c :: k).getLast? with
  | none => simp at h
  | some y => rfl
theorem En.tail {u : Bs} {c : UInt8} {k : Bs} (h : En (u ++ c :: k)) (hc : c ≠ 10) : En k ∧ k ≠ [] := by
  unfold En at *
  rw [last_app] at h
  cases k with
  | nil => simp at h; exact absurd h hc
  | cons e k => rw [List.getLast?_cons_cons] at h; exact ⟨h, by simp⟩
theorem En.rest {u : Bs} {c : UInt8} {k : Bs} (h : En (u ++ c :: k)) : k = [] ∨ En k := by
  unfold En at *
  rw [last_app] at h
  cases k with
  | nil => exact .inl rfl
  | cons e k => rw [List.getLast?_cons_cons] at h; exact .inr h
theorem recS_app {d : UInt8} (hd : d ≠ 10) (x : Bs) : ∀ (n : Nat) (acc : List Bs) (r : Bs) (fs : List Bs) (q : Bs), En r → recS d n acc r = .ok fs q → recS d n acc (r ++ x) = .ok fs (q ++ x) ∧ (q = [] ∨ En q)
  | n, acc, r, fs, q, he, h => by
    rw [recS_eq] at h ⊢
    cases hf : fS d r with
    | none => rw [hf] at h; cases h
    | some p =>
      obtain ⟨v, k⟩ := p
      rw [hf] at h
      have h : contS d n (acc ++ [v]) k = .ok fs q := h
      obtain ⟨u, hu, hvu, hnl⟩ := fS_some hf
      cases k with
      | nil =>
        rw [List.append_nil] at hu
        subst hu
        exact absurd he (hnl rfl)
      | cons c k =>
        rw [fS_app hf (by simp)]
        show contS d n (acc ++ [v]) (c :: (k ++ x)) = _ ∧ _
        rw [hu] at he
        generalize acc ++ [v] = acc' at *
        rw [contS_cons] at h ⊢
        by_cases h10 : c = 10
        · rw [if_pos h10] at h ⊢
          injection h with h1 h2
          subst h1 h2
          exact ⟨rfl, he.rest⟩
        · rw [if_neg h10] at h ⊢
          obtain ⟨hek, hkn⟩ := he.tail h10
          have hhd : (k ++ x).head? = k.head? := by obtain ⟨e, k', rfl⟩ := List.exists_cons_of_ne_nil hkn; rfl
          rw [hhd]
          by_cases hcr : c = 13 ∧ k.head? = some 10
          · rw [if_pos hcr] at h ⊢
            injection h with h1 h2
            subst h1 h2
            obtain ⟨e, k', rfl⟩ := List.exists_cons_of_ne_nil hkn
            refine ⟨rfl, ?_⟩
            exact En.rest (u := []) hek
          · rw [if_neg hcr] at h ⊢
            by_cases hcd : c = d
            · rw [if_pos hcd] at h ⊢
              cases n with
              | zero => cases h
              | succ n => exact recS_app hd x n acc' k fs q hek h
            · rw [if_neg hcd] at h; cases h
theorem recsS_ge {d : UInt8} : ∀ (n : Nat) (acc : List (List Bs)) (r : Bs) (l : List (List Bs)), recsS d n acc r = .ok l → acc.length ≤ l.length
  | n, acc, [], l, h => by rw [recsS_nil] at h; injection h with h; subst h; exact Nat.le_refl _
  | 0, acc, c :: r, l, h => by cases h
  | n + 1, acc, c :: r, l, h => by
    rw [recsS_succ _ _ _ (by simp)] at h
    cases hf : recS d 31 [] (c :: r) with
    | bad e k => rw [hf] at h; cases h
    | ok fs k =>
      rw [hf] at h
      have := recsS_ge n (acc ++ [fs]) k l h
      rw [List.length_append] at this
      omega
theorem recsS_app {d : UInt8} (hd : d ≠ 10) (x : Bs) : ∀ (n : Nat) (acc : List (List Bs)) (r : Bs) (l : List (List Bs)), (r = [] ∨ En r) → recsS d n acc r = .ok l → ∃ j, l.length = acc.length + j ∧ j ≤ n ∧ recsS d n acc (r ++ x) = recsS d (n - j) l x
  | n, acc, [], l, _, h => by rw [recsS_nil] at h; injection h with h; subst h; exact ⟨0, rfl, Nat.zero_le _, rfl⟩
  | 0, acc, c :: r, l, _, h => by cases h
  | n + 1, acc, c :: r, l, he, h => by
    have he : En (c :: r) := he.resolve_left (by simp)
    rw [recsS_succ _ _ _ (by simp)] at h
    rw [recsS_succ _ _ _ (by simp)]
    cases hf : recS d 31 [] (c :: r) with
    | bad e k => rw [hf] at h; cases h
    | ok fs k =>
      rw [hf] at h
      obtain ⟨h1, h2⟩ := recS_app hd x _ _ _ _ _ he hf
      rw [h1]
      obtain ⟨j, j1, j2, j3⟩ := recsS_app hd x n (acc ++ [fs]) k l h2 h
      refine ⟨j + 1, by rw [j1, List.length_append]; simp; omega, by omega, ?_⟩
      rw [Nat.add_sub_add_right]
      exact j3
theorem recsS_pre {d : UInt8} : ∀ (n : Nat) (acc : List (List Bs)) (r : Bs) (m : List (List Bs)), recsS d n acc r = .ok m → ∀ (n' : Nat) (pre : List (List Bs)), m.length ≤ acc.length + n' → recsS d n' (pre ++ acc) r = .ok (pre ++ m)
  | n, acc, [], m, h => by rw [recsS_nil] at h; injection h with h; subst h; intro n' pre _; rw [recsS_nil]
  | 0, acc, c :: r, l, h => by cases h
  | n + 1, acc, c :: r, m, h => by
    intro n' pre hn'
    rw [recsS_succ _ _ _ (by simp)] at h
    cases hf : recS d 31 [] (c :: r) with
    | bad e k => rw [hf] at h; cases h
    | ok fs k =>
      rw [hf] at h
      have h : recsS d n (acc ++ [fs]) k = .ok m := h
      have h1 := recsS_ge n (acc ++ [fs]) k m h
      rw [List.length_append, List.length_singleton] at h1
      obtain ⟨n2, rfl⟩ : ∃ n2, n' = n2 + 1 := ⟨n' - 1, by omega⟩
      rw [recsS_succ _ _ _ (by simp), hf]
      show recsS d n2 (pre ++ acc ++ [fs]) k = _
      rw [List.append_assoc]
      exact recsS_pre n (acc ++ [fs]) k m h n2 pre (by rw [List.length_append, List.length_singleton]; omega)
theorem po_ok {t : Bs} {d : UInt8} (h : (po t d).2.2 = 0) : isD d = true ∧ parseS d t = .ok (po t d).1 := by
  unfold po at *
  split at h
  · cases h
  · rename_i h1
    split at h
    · cases h
    · rename_i h2
      rw [if_neg h1, if_neg h2]
      refine ⟨by simpa using h1, ?_⟩
      cases hp : parseS d t with
      | bad x k => rw [hp] at h; simp only at h; split at h <;> cases h
      | ok l => rfl
theorem po_join {s t : Bs} {l m : List (List Bs)} (hl : po (s ++ [10]) 44 = (l, 0, 0)) (hm : po t 44 = (m, 0, 0)) (hn : l.length + m.length ≤ 1024) (hs : s.length ≤ 500) (ht : t.length ≤ 500) : po (s ++ [10] ++ t) 44 = (l ++ m, 0, 0) := by
  have h1 := (po_ok (t := s ++ [10]) (d := 44) (by rw [hl])).2
  have h2 := (po_ok (t := t) (d := 44) (by rw [hm])).2
  rw [hl] at h1
  rw [hm] at h2
  unfold parseS at h1 h2
  obtain ⟨j, j1, j2, j3⟩ := recsS_app (d := 44) (by decide) t 1024 [] (s ++ [10]) l (.inr (List.getLast?_concat)) h1
  simp only [List.length_nil, Nat.zero_add] at j1
  have h3 := recsS_pre 1024 [] t m h2 (1024 - j) l (by rw [List.length_nil]; omega)
  rw [List.append_nil] at h3
  rw [po_yes rfl (by simp only [List.length_append, List.length_cons, List.length_nil]; omega)]
  unfold parseS
  rw [j3, h3]
end Go.Proofs.YtanipgjojacbfaaDoor
