/- Texts of records, as plain lists of bytes: how they are read and how they are written. -/
import Derived.Lib.Replace
import Derived.Lib.IndexLaws
import Derived.Lib.CountLaws
namespace Go.Proofs.YtanipgjojacbfaaDoor

abbrev Bs := List UInt8
/-- The bytes that a plain field does not contain. -/
def spc (d c : UInt8) : Bool := c == d || c == 34 || c == 13 || c == 10
def plS (d : UInt8) (r : Bs) : Bs := r.takeWhile (fun c => !spc d c)
def plR (d : UInt8) (r : Bs) : Bs := r.dropWhile (fun c => !spc d c)
/-- The value of a quoted field behind its first mark, and what is left. -/
def qS : Bs → Option (Bs × Bs)
  | [] => none
  | [c] => if c = 34 then some ([], []) else none
  | c :: e :: r => if c = 34 then (if e = 34 then (qS r).map (fun p => (34 :: p.1, p.2)) else some ([], e :: r)) else (qS (e :: r)).map (fun p => (c :: p.1, p.2))
def fS (d : UInt8) : Bs → Option (Bs × Bs)
  | [] => some ([], [])
  | c :: r => if c = 34 then qS r else some (plS d (c :: r), plR d (c :: r))
theorem fS_cons (d c : UInt8) (r : Bs) : fS d (c :: r) = if c = 34 then qS r else some (plS d (c :: r), plR d (c :: r)) := rfl
inductive Rr where
  | ok (fs : List Bs) (k : Bs)
  | bad (e : Int) (k : Bs)
/-- A record, of which n fields more are allowed behind the next one. -/
def recS (d : UInt8) : Nat → List Bs → Bs → Rr
  | n, acc, r => match fS d r with
    | none => .bad 3 []
    | some (v, []) => .ok (acc ++ [v]) []
    | some (v, c :: k) => if c = 10 then .ok (acc ++ [v]) k else if c = 13 ∧ k.head? = some 10 then .ok (acc ++ [v]) k.tail
      else if c = d then (match n with | 0 => .bad 2 (c :: k) | n + 1 => recS d n (acc ++ [v]) k) else .bad 3 (c :: k)
inductive Res where
  | ok (l : List (List Bs))
  | bad (e : Int) (k : Bs)
def recsS (d : UInt8) : Nat → List (List Bs) → Bs → Res
  | _, acc, [] => .ok acc
  | 0, _, c :: r => .bad 2 (c :: r)
  | n + 1, acc, c :: r => match recS d 31 [] (c :: r) with
    | .ok fs k => recsS d n (acc ++ [fs]) k
    | .bad e k => .bad e k
def parseS (d : UInt8) (t : Bs) : Res := recsS d 1024 [] t
/-- The line in which the rest k of t begins. -/
def lnS (t k : Bs) : Nat := 1 + (t.take (t.length - k.length)).count 10
def isD (d : UInt8) : Bool := d == 44 || d == 59 || d == 9 || d == 124

/-- Doubled marks. -/
def dqS (f : Bs) : Bs := f.flatMap fun c => if c = 34 then [34, 34] else [c]
def nqS (d : UInt8) (f : Bs) : Bool := f.any (spc d)
def wrF (d : UInt8) (f : Bs) : Bs := if nqS d f then 34 :: (dqS f ++ [34]) else f
def wrFs (d : UInt8) (r : List Bs) : Bs := (r.flatMap fun f => d :: wrF d f).tail
def wrR (d : UInt8) (r : List Bs) : Bs := wrFs d r ++ [10]
def wrL (d : UInt8) (l : List (List Bs)) : Bs := l.flatMap (wrR d)

theorem dqS_nil : dqS [] = [] := rfl
theorem dqS_app (f g : Bs) : dqS (f ++ g) = dqS f ++ dqS g := by unfold dqS; rw [List.flatMap_append]
theorem dqS_plain {f : Bs} (h : (34 : UInt8) ∉ f) : dqS f = f := by
  induction f with
  | nil => rfl
  | cons c f ih =>
    have h1 : ¬ c = 34 := fun e => h (e ▸ List.mem_cons_self)
    have h2 := ih (fun hm => h (List.mem_cons_of_mem _ hm))
    unfold dqS at *
    rw [List.flatMap_cons, if_neg h1, h2]; rfl
theorem dqS_cons34 (f : Bs) : dqS (34 :: f) = 34 :: 34 :: dqS f := rfl
theorem dqS_cons {c : UInt8} (h : ¬ c = 34) (f : Bs) : dqS (c :: f) = c :: dqS f := by unfold dqS; rw [List.flatMap_cons, if_neg h]; rfl
theorem dqS_len (f : Bs) : (dqS f).length = f.length + f.count 34 := by
  induction f with
  | nil => rfl
  | cons c f ih =>
    by_cases h : c = 34
    · subst h; rw [dqS_cons34, List.count_cons_self]; simp only [List.length_cons, ih]; omega
    · rw [dqS_cons h, List.count_cons_of_ne h]; simp only [List.length_cons, ih]; omega

theorem qS_cons {c : UInt8} (h : ¬ c = 34) (r : Bs) : qS (c :: r) = (qS r).map (fun p => (c :: p.1, p.2)) := by
  cases r with
  | nil => simp [qS, h]
  | cons e r => rw [qS, if_neg h]
theorem qS_34 (r : Bs) : qS (34 :: 34 :: r) = (qS r).map (fun p => (34 :: p.1, p.2)) := by rw [qS, if_pos rfl, if_pos rfl]
theorem qS_end {k : Bs} (h : k.head? ≠ some 34) : qS (34 :: k) = some ([], k) := by
  cases k with
  | nil => rfl
  | cons e r => rw [qS, if_pos rfl, if_neg (fun e1 => h (by rw [e1]; rfl))]
theorem qS_dq (u r : Bs) : qS (dqS u ++ r) = (qS r).map (fun p => (u ++ p.1, p.2)) := by
  induction u with
  | nil => rw [dqS_nil, List.nil_append]; cases qS r <;> rfl
  | cons c u ih =>
    by_cases h : c = 34
    · subst h; rw [dqS_cons34, List.cons_append, List.cons_append, qS_34, ih]; cases qS r <;> rfl
    · rw [dqS_cons h, List.cons_append, qS_cons h, ih]; cases qS r <;> rfl
theorem qS_none {r : Bs} (h : (34 : UInt8) ∉ r) : qS r = none := by
  induction r with
  | nil => rfl
  | cons c r ih => rw [qS_cons (fun e => h (e ▸ List.mem_cons_self)), ih (fun hm => h (List.mem_cons_of_mem _ hm))]; rfl
/-- What is read of a quoted field. -/
theorem qS_some : ∀ {r v k : Bs}, qS r = some (v, k) → r = dqS v ++ 34 :: k ∧ k.head? ≠ some 34
  | [], _, _, h => by cases h
  | [c], v, k, h => by
    unfold qS at h
    split at h
    · rename_i e; subst e; cases h; exact ⟨rfl, by simp⟩
    · cases h
  | c :: e :: r, v, k, h => by
    unfold qS at h
    split at h
    · rename_i e1
      subst e1
      split at h
      · rename_i e2
        subst e2
        cases hq : qS r with
        | none => rw [hq] at h; cases h
        | some p =>
          rw [hq] at h
          obtain ⟨h1, h2⟩ := qS_some (r := r) (v := p.1) (k := p.2) hq
          cases h
          exact ⟨by rw [dqS_cons34, h1]; rfl, h2⟩
      · rename_i e2
        cases h
        exact ⟨rfl, fun e3 => e2 (by simpa using e3)⟩
    · rename_i e1
      cases hq : qS (e :: r) with
      | none => rw [hq] at h; cases h
      | some p =>
        rw [hq] at h
        obtain ⟨h1, h2⟩ := qS_some (r := e :: r) (v := p.1) (k := p.2) hq
        cases h
        exact ⟨by rw [dqS_cons e1, h1]; rfl, h2⟩
theorem plS_R (d : UInt8) (r : Bs) : plS d r ++ plR d r = r := List.takeWhile_append_dropWhile
theorem plR_head {d : UInt8} {r k : Bs} {c : UInt8} (h : plR d r = c :: k) : spc d c = true := by
  have := List.head?_dropWhile_not (fun c => !spc d c) r
  unfold plR at h
  rw [h] at this
  simpa using this
/-- What is left behind a field is an end of the text. -/
theorem fS_some {d : UInt8} {r v k : Bs} (h : fS d r = some (v, k)) : ∃ u, r = u ++ k ∧ v.length ≤ u.length ∧ (k = [] → u.getLast? ≠ some 10) := by
  cases r with
  | nil => cases h; exact ⟨[], rfl, Nat.le_refl _, fun _ => by simp⟩
  | cons c r =>
    rw [fS_cons] at h
    split at h
    · rename_i e
      subst e
      obtain ⟨h1, _⟩ := qS_some h
      refine ⟨34 :: (dqS v ++ [34]), by rw [h1]; simp, by simp [dqS_len]; omega, fun _ => ?_⟩
      rw [show (34 : UInt8) :: (dqS v ++ [34]) = (34 :: dqS v) ++ [34] from rfl, List.getLast?_concat]
      decide
    · injection h with h
      injection h with h1 h2
      refine ⟨v, by rw [← h1, ← h2]; exact (plS_R d _).symm, Nat.le_refl _, fun _ e => ?_⟩
      have hm := List.mem_of_getLast? e
      rw [← h1] at hm
      have := List.all_eq_true.1 (List.all_takeWhile (l := c :: r) (p := fun c => !spc d c)) _ hm
      simp [spc] at this
theorem fS_app {d : UInt8} {r v k x : Bs} (h : fS d r = some (v, k)) (hk : k ≠ []) : fS d (r ++ x) = some (v, k ++ x) := by
  cases r with
  | nil => cases h; exact absurd rfl hk
  | cons c r =>
    rw [fS_cons] at h
    rw [List.cons_append, fS_cons]
    split at h
    · rename_i e
      rw [if_pos e]
      obtain ⟨h1, h2⟩ := qS_some h
      obtain ⟨e', k', rfl⟩ := List.exists_cons_of_ne_nil hk
      rw [h1, List.append_assoc, qS_dq, List.cons_append, qS_end (by simpa using h2)]
      simp
    · rename_i e
      rw [if_neg e]
      injection h with h
      injection h with h1 h2
      have hx : (c :: r) ++ x = v ++ (k ++ x) := by rw [← List.append_assoc, ← h1, ← h2, plS_R]
      obtain ⟨e', k', rfl⟩ := List.exists_cons_of_ne_nil hk
      have hs := plR_head h2
      have hall : ∀ y ∈ v, (!spc d y) = true := fun y hy => by rw [← h1] at hy; exact List.all_eq_true.1 (List.all_takeWhile (l := c :: r) (p := fun c => !spc d c)) y hy
      rw [← List.cons_append, hx]
      congr 2
      · unfold plS; rw [List.takeWhile_append_of_pos hall, List.cons_append, List.takeWhile_cons_of_neg (by simpa using hs), List.append_nil]
      · unfold plR; rw [List.dropWhile_append_of_pos hall, List.cons_append, List.dropWhile_cons_of_neg (by simpa using hs)]
/-- What has been written is read. -/
theorem fS_wr {d : UInt8} {f k : Bs} (hk : ∀ c, k.head? = some c → spc d c = true ∧ c ≠ 34) (hkn : k ≠ []) : fS d (wrF d f ++ k) = some (f, k) := by
  obtain ⟨e, k', rfl⟩ := List.exists_cons_of_ne_nil hkn
  obtain ⟨hs, h34⟩ := hk e rfl
  unfold wrF
  cases hn : nqS d f with
  | true =>
    rw [if_pos rfl, List.cons_append, fS_cons]
    rw [if_pos rfl, List.append_assoc, qS_dq, List.singleton_append, qS_end (by simpa using h34)]
    simp
  | false =>
    rw [if_neg (by simp)]
    have hall : ∀ y ∈ f, (!spc d y) = true := fun y hy => by
      unfold nqS at hn
      rw [List.any_eq_false] at hn
      simpa using hn y hy
    have hgen : ∀ c r, f ++ e :: k' = c :: r → ¬ c = 34 := by
      intro c r he hc
      cases f with
      | nil => injection he with h1 h2; exact h34 (h1.trans hc)
      | cons y f' =>
        injection he with h1 h2
        have := hall y List.mem_cons_self
        rw [h1, hc] at this
        simp [spc] at this
    cases hr : f ++ e :: k' with
    | nil => simp at hr
    | cons c r =>
      rw [fS_cons, if_neg (hgen c r hr), ← hr]
      congr 2
      · unfold plS; rw [List.takeWhile_append_of_pos hall, List.takeWhile_cons_of_neg (by simpa using hs), List.append_nil]
      · unfold plR; rw [List.dropWhile_append_of_pos hall, List.dropWhile_cons_of_neg (by simpa using hs)]
theorem wrFs_one (d : UInt8) (f : Bs) : wrFs d [f] = wrF d f := by simp [wrFs]
theorem wrFs_cons (d : UInt8) (f : Bs) {r : List Bs} (h : r ≠ []) : wrFs d (f :: r) = wrF d f ++ d :: wrFs d r := by
  obtain ⟨g, r, rfl⟩ := List.exists_cons_of_ne_nil h
  simp [wrFs, List.flatMap_cons]
theorem wrFs_snoc (d : UInt8) {r : List Bs} (h : r ≠ []) (f : Bs) : wrFs d (r ++ [f]) = wrFs d r ++ d :: wrF d f := by
  obtain ⟨g, r, rfl⟩ := List.exists_cons_of_ne_nil h
  simp [wrFs, List.flatMap_cons]
def dOk (d : UInt8) : Prop := d ≠ 34 ∧ d ≠ 13 ∧ d ≠ 10
theorem dOk_of {d : UInt8} (h : isD d = true) : dOk d := by
  unfold isD at h
  simp only [Bool.or_eq_true, beq_iff_eq] at h
  rcases h with ((rfl | rfl) | rfl) | rfl <;> exact ⟨by decide, by decide, by decide⟩
theorem recS_wr {d : UInt8} (hd : dOk d) : ∀ (n : Nat) (acc r : List Bs) (k : Bs), r ≠ [] → r.length ≤ n + 1 → recS d n acc (wrFs d r ++ 10 :: k) = .ok (acc ++ r) k
  | n, acc, [], k, h, _ => absurd rfl h
  | n, acc, [f], k, _, _ => by
    unfold recS
    rw [wrFs_one, fS_wr (by intro c hc; injection hc with hc; subst hc; exact ⟨by simp [spc], by decide⟩) (by simp)]
    simp
  | 0, acc, f :: g :: r, k, _, hl => by simp at hl
  | n + 1, acc, f :: g :: r, k, _, hl => by
    have ih := recS_wr hd n (acc ++ [f]) (g :: r) k (by simp) (by simpa using hl)
    unfold recS
    rw [wrFs_cons d f (by simp), List.append_assoc, List.cons_append, fS_wr (by intro c hc; injection hc with hc; subst hc; exact ⟨by simp [spc], hd.1⟩) (by simp)]
    simp only [if_neg hd.2.2, if_true]
    rw [if_neg (fun e => hd.2.1 e.1), ih]
    simp
theorem wrR_ne (d : UInt8) (r : List Bs) (x : Bs) : ∃ c t, wrR d r ++ x = c :: t := by
  cases h : wrR d r ++ x with
  | nil => simp [wrR] at h
  | cons c t => exact ⟨c, t, rfl⟩
theorem recsS_wr {d : UInt8} (hd : dOk d) : ∀ (l : List (List Bs)) (n : Nat) (acc : List (List Bs)) (x : Bs), (∀ r ∈ l, r ≠ [] ∧ r.length ≤ 32) → recsS d (n + l.length) acc (wrL d l ++ x) = recsS d n (acc ++ l) x
  | [], n, acc, x, _ => by simp [wrL]
  | r :: l, n, acc, x, h => by
    have ih := recsS_wr hd l n (acc ++ [r]) x (fun r' h' => h r' (List.mem_cons_of_mem _ h'))
    have h1 := h r List.mem_cons_self
    have e : wrL d (r :: l) ++ x = wrR d r ++ (wrL d l ++ x) := by simp [wrL, List.flatMap_cons]
    obtain ⟨c, t, hc⟩ := wrR_ne d r (wrL d l ++ x)
    rw [e, hc, List.length_cons, ← Nat.add_assoc, recsS, ← hc]
    have hr := recS_wr hd 31 [] r (wrL d l ++ x) h1.1 h1.2
    have e2 : wrR d r ++ (wrL d l ++ x) = wrFs d r ++ 10 :: (wrL d l ++ x) := by simp [wrR]
    rw [e2, hr]
    simp only [List.nil_append]
    rw [ih]
    simp
theorem parse_wr {d : UInt8} (hd : dOk d) {l : List (List Bs)} (h : ∀ r ∈ l, r ≠ [] ∧ r.length ≤ 32) (hl : l.length ≤ 1024) : parseS d (wrL d l) = .ok l := by
  have := recsS_wr hd l (1024 - l.length) [] [] h
  rw [Nat.sub_add_cancel hl, List.append_nil] at this
  unfold parseS
  rw [this]
  unfold recsS
  rfl
end Go.Proofs.YtanipgjojacbfaaDoor
