/- Slices of a call's own; what the reader of a record and of all records comes to. -/
import Derived.Test.YtanipgjojacbfaaDoorA8
import Derived.Laws.OwnMore
namespace Go.Proofs.YtanipgjojacbfaaDoor
open Go.RowKit
set_option linter.unusedVariables false

section
variable {w W W' : World} {b t g : Nat} {cs : Array Value} {base e size n : Nat} {v : Value} {xs : List Value}
theorem Upd.grown {row : Option Nat} (h : Upd b cs t w W) (hg : W.grownBy W' row) (hr : ∀ k, row = some k → w.heap.size ≤ k) (hb : b < w.heap.size) : Upd b cs t w W' := by
  refine ⟨hg.os.trans h.os, hg.tape.trans h.tape, hg.output.trans h.output, Nat.le_trans h.size hg.size, fun k hk hn => ?_, ?_⟩
  · exact (hg.block k (Nat.lt_of_lt_of_le hk h.size) (fun e => by have := hr k e.symm; omega)).trans (h.block k hk hn)
  · exact h.here.keep (hg.block b h.here.lt (fun e => by have := hr b e.symm; omega))
theorem own_keep (h : W.ownsRow base e size v n xs) (hk : ∀ k, v.ownBlock = some k → base ≤ k → k < W.heap.size → W'.heap[k]? = W.heap[k]?) : W'.ownsRow base e size v n xs := by
  refine ⟨h.1, ?_⟩
  have hl := h.lt
  rcases h.2 with h2 | ⟨g, cap, cur, rfl, h3, h4, rest⟩
  · exact .inl h2
  · refine .inr ⟨g, cap, cur, rfl, h3, ?_, rest⟩
    have := hl g rfl
    exact (hk g rfl this.1 this.2).trans h4
theorem own_upd (h : W.ownsRow base e size v n xs) (hu : Upd b cs t W W') (hb : b < base) : W'.ownsRow base e size v n xs :=
  own_keep h fun k _ h1 h2 => hu.block k h2 (by omega)
theorem own_bel (h : W.ownsRow base e size v n xs) (hu : Below W.heap.size W W') : W'.ownsRow base e size v n xs :=
  own_keep h fun k _ h1 h2 => hu.block k h2
theorem own_drewN (h : W.ownsRow base e size v n xs) (k : Nat) : (W.drewN k).ownsRow base e size v n xs := own_bel h (below_drewN (Below.refl _ _) k)
theorem own_set (h : W.ownsRow base e size v n xs) (p : Addr) (u : Value) (hp : p.block < base) : (W.setCell p u).ownsRow base e size v n xs :=
  own_keep h fun k _ h1 _ => Below.heap_setCell W p u k (by omega)
theorem own_less (h : W.ownsRow base e size v n xs) {B : Nat} (hB : B ≤ base) : W.ownsRow B e size v n xs := by
  refine ⟨h.1, ?_⟩
  rcases h.2 with h2 | ⟨g, cap, cur, rfl, h3, rest⟩
  · exact .inl h2
  · exact .inr ⟨g, cap, cur, rfl, Nat.le_trans hB h3, rest⟩
end
/-- A field as a value. -/
def sV (f : Bs) : Value := .string (bA f)
theorem sV_one (f : Bs) : (sV f).oneCell' = true := rfl
/-- What comes behind a field. -/
def contS (d : UInt8) (n : Nat) (acc : List Bs) : Bs → Rr
  | [] => .ok acc []
  | c :: k => if c = 10 then .ok acc k else if c = 13 ∧ k.head? = some 10 then .ok acc k.tail
      else if c = d then (match n with | 0 => .bad 2 (c :: k) | n + 1 => recS d n acc k) else .bad 3 (c :: k)
theorem contS_cons (d : UInt8) (n : Nat) (acc : List Bs) (c : UInt8) (k : Bs) : contS d n acc (c :: k) = if c = 10 then .ok acc k else if c = 13 ∧ k.head? = some 10 then .ok acc k.tail
      else if c = d then (match n with | 0 => .bad 2 (c :: k) | n + 1 => recS d n acc k) else .bad 3 (c :: k) := rfl
theorem recS_eq (d : UInt8) (n : Nat) (acc : List Bs) (r : Bs) : recS d n acc r = match fS d r with
    | none => .bad 3 []
    | some (v, k) => contS d n (acc ++ [v]) k := by
  unfold recS
  split <;> rename_i h <;> rw [h]
  · rfl
  · cases n <;> rfl
theorem contS_skip {d : UInt8} (n : Nat) (acc : List Bs) {k : Bs} (h : k.head? ≠ some d) : contS d n acc k = match skipS k with
    | some m => .ok acc (k.drop m)
    | none => .bad 3 k := by
  cases k with
  | nil => rfl
  | cons c k =>
    have hc : ¬ c = d := fun e => h (by rw [e]; rfl)
    rw [skipS_cons, contS_cons]
    by_cases h1 : c = 10
    · simp [h1]
    · by_cases h2 : c = 13 ∧ k.head? = some 10
      · rw [if_neg h1, if_pos h2, if_neg h1, if_pos h2]
        cases k with
        | nil => exact absurd h2.2 (by simp)
        | cons e k => rfl
      · rw [if_neg h1, if_neg h2, if_neg hc, if_neg h1, if_neg h2]
theorem contS_del {d : UInt8} (hd : dOk d) (n : Nat) (acc : List Bs) (k : Bs) : contS d n acc (d :: k) = match n with
    | 0 => .bad 2 (d :: k)
    | n + 1 => recS d n acc k := by
  rw [contS_cons, if_neg hd.2.2, if_neg (fun e => hd.2.1 e.1), if_pos rfl]
theorem contS_le {d : UInt8} : ∀ (n : Nat) (acc : List Bs) (k : Bs), (∀ fs q, contS d n acc k = .ok fs q → q.length ≤ k.length ∧ ∃ x, k = x ++ q) := by
  intro n
  induction n with
  | zero =>
    intro acc k fs q h
    cases k with
    | nil => cases h; exact ⟨Nat.le_refl _, [], rfl⟩
    | cons c k =>
      rw [contS_cons] at h
      split at h
      · cases h; exact ⟨by simp, [c], rfl⟩
      · split at h
        · rename_i h2
          cases h
          cases k with
          | nil => exact absurd h2.2 (by simp)
          | cons e k => exact ⟨by simp; omega, [c, e], rfl⟩
        · split at h <;> cases h
  | succ n ih =>
    intro acc k fs q h
    cases k with
    | nil => cases h; exact ⟨Nat.le_refl _, [], rfl⟩
    | cons c k =>
      rw [contS_cons] at h
      split at h
      · cases h; exact ⟨by simp, [c], rfl⟩
      · split at h
        · rename_i h2
          cases h
          cases k with
          | nil => exact absurd h2.2 (by simp)
          | cons e k => exact ⟨by simp; omega, [c, e], rfl⟩
        · split at h
          · simp only [recS_eq] at h
            cases hf : fS d k with
            | none => rw [hf] at h; cases h
            | some r =>
              obtain ⟨v, k2⟩ := r
              rw [hf] at h
              obtain ⟨u, hu, _⟩ := fS_some hf
              obtain ⟨h1, x, h2⟩ := ih _ _ _ _ h
              exact ⟨by rw [List.length_cons, hu, List.length_append]; omega, c :: (u ++ x), by rw [hu, h2]; simp⟩
          · cases h
theorem recS_le {d : UInt8} {n : Nat} {acc : List Bs} {r fs q : _} (h : recS d n acc r = .ok fs q) : q.length ≤ r.length ∧ ∃ x, r = x ++ q := by
  rw [recS_eq] at h
  cases hf : fS d r with
  | none => rw [hf] at h; cases h
  | some p =>
    obtain ⟨v, k2⟩ := p
    rw [hf] at h
    obtain ⟨u, hu, _⟩ := fS_some hf
    obtain ⟨h1, x, h2⟩ := contS_le _ _ _ _ _ h
    exact ⟨by rw [hu, List.length_append]; omega, u ++ x, by rw [hu, h2]; simp⟩
/-- The rest of a text is found where its length says. -/
theorem drop_len {t x k : Bs} (h : t = x ++ k) : t.drop (t.length - k.length) = k := by
  rw [h, List.length_append, Nat.add_sub_cancel, List.drop_left]
end Go.Proofs.YtanipgjojacbfaaDoor
