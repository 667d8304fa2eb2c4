/- How much a text's records weigh; what is read is written and read again. -/
import Derived.Test.YtanipgjojacbfaaDoorD9
namespace Go.Proofs.YtanipgjojacbfaaDoor
open Go.RowKit Go.Lib
set_option linter.unusedVariables false

def wtR (fs : List Bs) : Nat := (fs.map (fun f => f.length + 1)).sum
def wtL (l : List (List Bs)) : Nat := (l.map wtR).sum
theorem wtR_snoc (fs : List Bs) (v : Bs) : wtR (fs ++ [v]) = wtR fs + (v.length + 1) := by unfold wtR; simp
theorem wtL_snoc (l : List (List Bs)) (r : List Bs) : wtL (l ++ [r]) = wtL l + wtR r := by unfold wtL; simp
theorem recS_wt {d : UInt8} : ∀ (n : Nat) (acc : List Bs) (r : Bs) (fs : List Bs) (q : Bs), recS d n acc r = .ok fs q →
    fs ≠ [] ∧ fs.length ≤ acc.length + n + 1 ∧ wtR fs + q.length ≤ wtR acc + r.length + 1 ∧ (q ≠ [] → wtR fs + q.length ≤ wtR acc + r.length)
  | n, acc, r, fs, q, h => by
    rw [recS_eq] at h
    cases hf : fS d r with
    | none => rw [hf] at h; cases h
    | some p =>
      obtain ⟨v, k⟩ := p
      rw [hf] at h
      obtain ⟨u, hu, hvu, _⟩ := fS_some hf
      have hl : r.length = u.length + k.length := by rw [hu, List.length_append]
      have h : contS d n (acc ++ [v]) k = .ok fs q := h
      have hw := wtR_snoc acc v
      have hal : (acc ++ [v]).length = acc.length + 1 := by simp
      have hane : acc ++ [v] ≠ [] := by simp
      generalize acc ++ [v] = acc' at *
      cases k with
      | nil =>
        injection h with h1 h2
        subst h1 h2
        refine ⟨hane, by omega, by simp at hl; simp; omega, fun h => absurd rfl h⟩
      | cons c k =>
        rw [contS_cons] at h
        rw [List.length_cons] at hl
        split at h
        · injection h with h1 h2
          subst h1 h2
          exact ⟨hane, by omega, by omega, fun _ => by omega⟩
        · split at h
          · injection h with h1 h2
            subst h1 h2
            have : k.tail.length ≤ k.length := by rw [List.length_tail]; omega
            exact ⟨hane, by omega, by omega, fun _ => by omega⟩
          · split at h
            · cases n with
              | zero => cases h
              | succ n =>
                have h : recS d n acc' k = .ok fs q := h
                obtain ⟨h1, h2, h3, h4⟩ := recS_wt n acc' k fs q h
                exact ⟨h1, by omega, by omega, fun hq => by have := h4 hq; omega⟩
            · cases h
theorem recsS_wt {d : UInt8} : ∀ (n : Nat) (acc : List (List Bs)) (r : Bs) (l : List (List Bs)), recsS d n acc r = .ok l → (∀ x ∈ l, x ∈ acc ∨ (x ≠ [] ∧ x.length ≤ 32)) ∧ wtL l ≤ wtL acc + r.length + 1
  | n, acc, [], l, h => by
    rw [recsS_nil] at h
    injection h with h
    subst h
    exact ⟨fun x hx => .inl hx, by simp⟩
  | 0, acc, c :: r, l, h => by cases h
  | n + 1, acc, c :: r, l, h => by
    rw [recsS_succ _ _ _ (by simp)] at h
    cases hf : recS d 31 [] (c :: r) with
    | bad e k => rw [hf] at h; cases h
    | ok fs k =>
      rw [hf] at h
      have h : recsS d n (acc ++ [fs]) k = .ok l := h
      obtain ⟨h1, h2, h3, h4⟩ := recS_wt _ _ _ _ _ hf
      have hw0 : wtR ([] : List Bs) = 0 := rfl
      have hs := wtL_snoc acc fs
      simp only [List.length_nil, Nat.zero_add] at h2
      have hmem : (∀ x ∈ l, x ∈ acc ++ [fs] ∨ (x ≠ [] ∧ x.length ≤ 32)) → ∀ x ∈ l, x ∈ acc ∨ (x ≠ [] ∧ x.length ≤ 32) := fun hh x hx => by
        rcases hh x hx with h | h
        · rcases List.mem_append.1 h with h | h
          · exact .inl h
          · simp at h; subst h; exact .inr ⟨h1, h2⟩
        · exact .inr h
      cases k with
      | nil =>
        rw [recsS_nil] at h
        injection h with h
        subst h
        refine ⟨hmem fun x hx => .inl hx, ?_⟩
        rw [hs]
        simp only [List.length_nil] at h3
        omega
      | cons c2 k2 =>
        obtain ⟨k1, k3⟩ := recsS_wt n (acc ++ [fs]) (c2 :: k2) l h
        refine ⟨hmem k1, ?_⟩
        have := h4 (by simp)
        omega
theorem szF_wt (d : UInt8) (f : Bs) : szF d f ≤ 3 * (f.length + 1) := by
  unfold szF
  have : f.count 34 ≤ f.length := List.count_le_length
  split <;> omega
theorem szR_wt (d : UInt8) (r : List Bs) : szR d r ≤ 3 * wtR r := by
  induction r with
  | nil => exact Nat.zero_le _
  | cons f r ih =>
    have := szF_wt d f
    unfold szR wtR at *
    rw [List.map_cons, List.sum_cons, List.map_cons, List.sum_cons]
    omega
theorem szL_wt (d : UInt8) (l : List (List Bs)) : szL d l ≤ 3 * wtL l := by
  induction l with
  | nil => exact Nat.zero_le _
  | cons f r ih =>
    have := szR_wt d f
    unfold szL wtL at *
    rw [List.map_cons, List.sum_cons, List.map_cons, List.sum_cons]
    omega
theorem wtR_mem {r : List Bs} {f : Bs} (h : f ∈ r) : f.length + 1 ≤ wtR r := by
  induction r with
  | nil => cases h
  | cons g r ih =>
    unfold wtR at *
    rw [List.map_cons, List.sum_cons]
    rcases List.mem_cons.1 h with rfl | h
    · omega
    · have := ih h; omega
theorem wtL_mem {l : List (List Bs)} {r : List Bs} (h : r ∈ l) : wtR r ≤ wtL l := by
  induction l with
  | nil => cases h
  | cons g l ih =>
    unfold wtL at *
    rw [List.map_cons, List.sum_cons]
    rcases List.mem_cons.1 h with rfl | h
    · omega
    · have := ih h; omega
/-- A short text that is read without an error. -/
theorem po_short {t : Bs} {d : UInt8} (ht : t.length ≤ 2000) (h : (po t d).2.2 = 0) : ∀ b, isD b = true → fo b (po t d).1 = (wrL b (po t d).1, 0) := by
  intro b hb
  by_cases hd : isD d = true
  · rw [po_yes hd (by omega)] at h ⊢
    cases hp : parseS d t with
    | bad x k => rw [hp] at h; simp only at h; split at h <;> cases h
    | ok l =>
      show fo b l = (wrL b l, 0)
      obtain ⟨h1, h2⟩ := recsS_wt _ _ _ _ hp
      have h3 := recs_len _ _ _ _ hp
      have h4 := szL_wt b l
      simp only [show wtL [] = 0 from rfl, List.length_nil, Nat.zero_add] at h2 h3
      have hn : l.any (fun r => decide (r.length = 0)) = false := List.any_eq_false.2 fun r hr => by
        rcases h1 r hr with h | ⟨h, _⟩
        · cases h
        · simpa using h
      have hbig : bigS b l = false := by
        unfold bigS
        simp only [Bool.or_eq_false_iff, decide_eq_false_iff_not]
        refine ⟨⟨by omega, List.any_eq_false.2 fun r hr => ?_⟩, by omega⟩
        rcases h1 r hr with h | ⟨_, h⟩
        · cases h
        · simpa using h
      unfold fo
      rw [if_neg (by rw [hb]; decide), if_neg (by rw [hn]; decide), if_neg (by rw [hbig]; decide)]
  · have hd : isD d = false := by simpa using hd
    rw [po_no1 hd] at h
    cases h
theorem po_fields {t : Bs} {d : UInt8} (ht : t.length ≤ 2000) : ∀ r ∈ (po t d).1, ∀ f ∈ r, f.length ≤ t.length := by
  unfold po
  split
  · intro r hr; cases hr
  · split
    · intro r hr; cases hr
    · cases hp : parseS d t with
      | bad x k => intro r hr; cases hr
      | ok l =>
        obtain ⟨h1, h2⟩ := recsS_wt _ _ _ _ hp
        intro r hr f hf
        have hr : r ∈ l := hr
        have h3 := wtL_mem hr
        have h4 := wtR_mem hf
        simp only [show wtL [] = 0 from rfl, Nat.zero_add] at h2
        omega
end Go.Proofs.YtanipgjojacbfaaDoor
