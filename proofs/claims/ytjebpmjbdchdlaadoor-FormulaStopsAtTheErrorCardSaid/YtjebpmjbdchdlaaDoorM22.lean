/- A text that is cut where its reading stops. -/
import Derived.Test.YtjebpmjbdchdlaaDoorM07
namespace Go.Proofs.YtjebpmjbdchdlaaDoor
namespace F9
/-- The last byte is no part of a word. -/
def en (x : Bs) : Prop := ∀ c ∈ x.getLast?, innB c = false
theorem en_nil : en [] := fun c hc => by simp at hc
theorem en_suf {z x : Bs} (h : z <:+ x) (hx : en x) : en z := by
  obtain ⟨p, rfl⟩ := h
  intro c hc
  refine hx c ?_
  cases z with
  | nil => simp at hc
  | cons a t => rw [List.getLast?_append, hc]; rfl
theorem dig_inn {c : UInt8} (h : digB c = true) : innB c = true := by unfold innB; rw [h]; simp
theorem let_inn {c : UInt8} (h : letB c = true) : innB c = true := by unfold innB; rw [h]; simp
theorem take_stop {p : UInt8 → Bool} (hp : ∀ c, p c = true → innB c = true) (y : Bs) : ∀ t : Bs, t ≠ [] → en t → (t ++ y).takeWhile p = t.takeWhile p
  | [], h, _ => absurd rfl h
  | c :: t, _, he => by
    rw [List.cons_append, List.takeWhile_cons, List.takeWhile_cons]
    by_cases hc : p c = true
    · rw [if_pos hc, if_pos hc]
      by_cases ht : t = []
      · subst ht
        have := he c rfl
        rw [hp c hc] at this; cases this
      · rw [take_stop hp y t ht (en_suf (List.suffix_cons c t) he)]
    · rw [if_neg hc, if_neg hc]
theorem fw_cut {z : Bs} (h : z ≠ []) (he : en z) (y : Bs) : fw (z ++ y) = fw z := by
  cases z with
  | nil => exact absurd rfl h
  | cons c t =>
    rw [List.cons_append, fw, fw]
    have hl : ∀ {p : UInt8 → Bool}, (∀ c, p c = true → innB c = true) → p c = true → (t ++ y).takeWhile p = t.takeWhile p := fun {p} hp hc => by
      by_cases ht : t = []
      · subst ht
        have := he c rfl
        rw [hp c hc] at this; cases this
      · exact take_stop hp y t ht (en_suf (List.suffix_cons c t) he)
    by_cases h1 : letB c = true
    · rw [if_pos h1, if_pos h1, hl (fun _ h => h) (let_inn h1)]
    · rw [if_neg h1, if_neg h1]
      by_cases h2 : digB c = true
      · rw [if_pos h2, if_pos h2, hl (fun _ h => dig_inn h) h2]
      · rw [if_neg h2, if_neg h2]
theorem fw_le (r : Bs) : (fw r).length ≤ r.length := by
  have tl : ∀ (p : UInt8 → Bool) (t : Bs), (t.takeWhile p).length ≤ t.length := fun p t => (List.takeWhile_prefix p).length_le
  cases r with
  | nil => exact Nat.le_refl _
  | cons c t =>
    rw [fw]
    split
    · have := tl innB t; simp; exact this
    · split
      · have := tl digB t; simp; exact this
      · simp
theorem trm_suf : ∀ r : Bs, trm r <:+ r := fun _ => List.dropWhile_suffix _
theorem trm_app (y : Bs) (hy : trm y = y) : ∀ z : Bs, trm (z ++ y) = trm z ++ y
  | [] => hy
  | c :: t => by
    rw [List.cons_append]
    by_cases hc : c = 32
    · subst hc; rw [trm_sp, trm_sp]; exact trm_app y hy t
    · rw [trm_ne hc, trm_ne hc]; rfl
theorem trm_trm : ∀ r : Bs, trm (trm r) = trm r
  | [] => rfl
  | c :: t => by
    by_cases hc : c = 32
    · subst hc; rw [trm_sp]; exact trm_trm t
    · rw [trm_ne hc, trm_ne hc]
theorem nx_suf (r : Bs) : nx r <:+ r := (trm_suf _).trans (List.drop_suffix _ _)
theorem nx_trm (r : Bs) : trm (nx r) = nx r := trm_trm _
theorem nx_cut {z : Bs} (h : z ≠ []) (he : en z) (y : Bs) (hy : trm y = y) : nx (z ++ y) = nx z ++ y := by
  unfold nx
  rw [fw_cut h he, List.drop_append_of_le_length (fw_le z), trm_app y hy]
/-- What is left stands at the end, with no blank ahead. -/
def Lft (r' r : Bs) : Prop := r' <:+ r ∧ (trm r = r → trm r' = r')
theorem Lft.refl (r : Bs) : Lft r r := ⟨List.suffix_refl _, id⟩
theorem Lft.nx (r : Bs) : Lft (F9.nx r) r := ⟨nx_suf r, fun _ => nx_trm r⟩
theorem Lft.trans {a b c : Bs} (h : Lft a b) (g : Lft b c) : Lft a c := ⟨h.1.trans g.1, fun e => h.2 (g.2 e)⟩
theorem Lft.len {a b : Bs} (h : Lft a b) : a.length ≤ b.length := h.1.length_le
theorem expo_lft {lo hi : Nat} {r : Bs} : (∀ k r1, expo lo hi r = .ok (k, r1) → Lft r1 r) ∧ ∀ e, expo lo hi r = .error e → e.2 = r := by
  unfold expo
  split
  · split
    · split
      · refine ⟨fun k r1 h => ?_, fun e h => by simp at h⟩
        simp at h; obtain ⟨_, rfl⟩ := h; exact .nx r
      · exact ⟨fun k r1 h => by simp at h, fun e h => by simp at h; subst h; rfl⟩
    · exact ⟨fun k r1 h => by simp at h, fun e h => by simp at h; subst h; rfl⟩
  · exact ⟨fun k r1 h => by simp at h, fun e h => by simp at h; subst h; rfl⟩
theorem pw_lft {r : Bs} : (∀ k r1, pw r = .ok (k, r1) → Lft r1 r) ∧ ∀ e, pw r = .error e → Lft e.2 r := by
  unfold pw
  have n1 := Lft.nx r
  have n2 := (Lft.nx (nx r)).trans n1
  have n3 := (Lft.nx (nx (nx r))).trans n2
  split
  · split
    · split
      · have hx := expo_lft (lo := 2) (hi := 8) (r := nx (nx (nx r)))
        cases h4 : expo 2 8 (nx (nx (nx r))) with
        | error e => exact ⟨fun k r1 h => by simp at h, fun e2 h => by simp at h; subst h; rw [hx.2 _ h4]; exact n3⟩
        | ok p =>
          obtain ⟨k, r2⟩ := p
          have h5 := (hx.1 _ _ h4).trans n3
          simp only
          split
          · refine ⟨fun k r1 h => ?_, fun e h => by simp at h⟩
            simp at h; obtain ⟨_, rfl⟩ := h; exact (Lft.nx r2).trans h5
          · exact ⟨fun k r1 h => by simp at h, fun e h => by simp at h; subst h; exact h5⟩
      · exact ⟨fun k r1 h => by simp at h, fun e h => by simp at h; subst h; exact n2⟩
    · exact ⟨fun k r1 h => by simp at h, fun e h => by simp at h; subst h; exact n1⟩
  · exact ⟨fun k r1 h => by simp at h, fun e h => by simp at h; subst h; exact .refl r⟩
theorem leaf_lft {r : Bs} : (∀ k r1, leaf r = .ok (k, r1) → Lft r1 r) ∧ ∀ e, leaf r = .error e → Lft e.2 r := by
  unfold leaf
  have n1 := Lft.nx r
  have go : ∀ x : Nd, (∀ k r1, (Except.ok (x, nx r) : Rs (Nd × Bs)) = .ok (k, r1) → Lft r1 r) ∧ ∀ e, (Except.ok (x, nx r) : Rs (Nd × Bs)) = .error e → Lft e.2 r := fun x => ⟨fun k r1 h => by simp at h; obtain ⟨_, rfl⟩ := h; exact n1, fun e h => by simp at h⟩
  split
  · exact go _
  · split
    · exact go _
    · split
      · have := pw_lft (r := nx r)
        exact ⟨fun k r1 h => (this.1 k r1 h).trans n1, fun e h => (this.2 e h).trans n1⟩
      · split
        · exact go _
        · exact ⟨fun k r1 h => by simp at h, fun e h => by simp at h; subst h; exact .refl r⟩
/-- What a mode leaves, and where it fails. -/
theorem run_lft : ∀ (f : Nat) (m : Md) (r : Bs), (∀ t r', run f m r = .ok (t, r') → Lft r' r) ∧ ∀ e, run f m r = .error e → Lft e.2 r
  | 0, m, r => ⟨fun t r' h => by simp [run] at h, fun e h => by simp [run] at h; subst h; exact .refl r⟩
  | f + 1, .prim, r => by
    rw [run]
    split
    · have ih := run_lft f (.bin 1) (nx r)
      have n1 := Lft.nx r
      cases h2 : run f (.bin 1) (nx r) with
      | error e1 => exact ⟨fun t r' h => by simp at h, fun e h => by simp at h; subst h; exact (ih.2 _ h2).trans n1⟩
      | ok p =>
        obtain ⟨a, r1⟩ := p
        have h3 := (ih.1 _ _ h2).trans n1
        simp only
        split
        · exact ⟨fun t r' h => by simp at h; obtain ⟨_, rfl⟩ := h; exact (Lft.nx r1).trans h3, fun e h => by simp at h⟩
        · exact ⟨fun t r' h => by simp at h, fun e h => by simp at h; subst h; exact h3⟩
    · have ih := leaf_lft (r := r)
      cases h2 : leaf r with
      | error e1 => exact ⟨fun t r' h => by simp at h, fun e h => by simp at h; subst h; exact ih.2 _ h2⟩
      | ok p =>
        obtain ⟨a, r1⟩ := p
        exact ⟨fun t r' h => by simp at h; obtain ⟨_, rfl⟩ := h; exact ih.1 _ _ h2, fun e h => by simp at h⟩
  | f + 1, .hats a, r => by
    rw [run]
    split
    · have n1 := Lft.nx r
      have hx := expo_lft (lo := 1) (hi := 6) (r := nx r)
      cases h2 : expo 1 6 (nx r) with
      | error e1 => exact ⟨fun t r' h => by simp at h, fun e h => by simp at h; subst h; rw [hx.2 _ h2]; exact n1⟩
      | ok p =>
        obtain ⟨k, r1⟩ := p
        have h3 := (hx.1 _ _ h2).trans n1
        have ih := run_lft f (.hats (.hat k a)) r1
        exact ⟨fun t r' h => (ih.1 t r' h).trans h3, fun e h => (ih.2 e h).trans h3⟩
    · exact ⟨fun t r' h => by simp at h; obtain ⟨_, rfl⟩ := h; exact .refl r, fun e h => by simp at h⟩
  | f + 1, .loop k a, r => by
    rw [run]
    cases hb : bop r with
    | none => exact ⟨fun t r' h => by simp at h; obtain ⟨_, rfl⟩ := h; exact .refl r, fun e h => by simp at h⟩
    | some op =>
      simp only
      split
      · have n1 := Lft.nx r
        have ih := run_lft f (.bin (k + 1)) (nx r)
        cases h2 : run f (.bin (k + 1)) (nx r) with
        | error e1 => exact ⟨fun t r' h => by simp at h, fun e h => by simp at h; subst h; exact (ih.2 _ h2).trans n1⟩
        | ok p =>
          obtain ⟨b, r1⟩ := p
          have h3 := (ih.1 _ _ h2).trans n1
          have ih2 := run_lft f (.loop k (.bin op a b)) r1
          exact ⟨fun t r' h => (ih2.1 t r' h).trans h3, fun e h => (ih2.2 e h).trans h3⟩
      · exact ⟨fun t r' h => by simp at h; obtain ⟨_, rfl⟩ := h; exact .refl r, fun e h => by simp at h⟩
  | f + 1, .bin k, r => by
    rw [run]
    split
    · have ih := run_lft f .prim r
      cases h2 : run f .prim r with
      | error e1 => exact ⟨fun t r' h => by simp at h, fun e h => by simp at h; subst h; exact ih.2 _ h2⟩
      | ok p =>
        obtain ⟨b, r1⟩ := p
        have h3 := ih.1 _ _ h2
        have ih2 := run_lft f (.hats b) r1
        exact ⟨fun t r' h => (ih2.1 t r' h).trans h3, fun e h => (ih2.2 e h).trans h3⟩
    · have ih := run_lft f (.bin (k + 1)) r
      cases h2 : run f (.bin (k + 1)) r with
      | error e1 => exact ⟨fun t r' h => by simp at h, fun e h => by simp at h; subst h; exact ih.2 _ h2⟩
      | ok p =>
        obtain ⟨b, r1⟩ := p
        have h3 := ih.1 _ _ h2
        have ih2 := run_lft f (.loop k b) r1
        exact ⟨fun t r' h => (ih2.1 t r' h).trans h3, fun e h => (ih2.2 e h).trans h3⟩
/-- No fuel. -/
def Fo {α : Type} (R : Rs α) : Prop := ∃ q, R = .error (0, q)
/-- What the text with y behind it says of the text alone. -/
def Cut {α : Type} (y : Bs) (R R' : Rs (α × Bs)) : Prop :=
  (∀ e, R = .error (e, y) → (∃ a, R' = .ok (a, [])) ∨ R' = .error (3, []) ∨ Fo R') ∧
  ∀ a r, R = .ok (a, r) → y.length ≤ r.length → ∃ z', r = z' ++ y ∧ en z' ∧ (R' = .ok (a, z') ∨ Fo R')
theorem app_self {z y : Bs} (h : z ++ y = y) : z = [] := by
  have := congrArg List.length h
  rw [List.length_append] at this
  exact List.length_eq_zero_iff.1 (by omega)
theorem en_nx {z : Bs} (h : en z) : en (nx z) := en_suf (nx_suf z) h
theorem expo_cut {lo hi : Nat} {z y : Bs} (hz : en z) (hy : trm y = y) : Cut y (expo lo hi (z ++ y)) (expo lo hi z) := by
  refine ⟨fun e h => ?_, fun k r h hl => ?_⟩
  · have := (expo_lft (lo := lo) (hi := hi) (r := z ++ y)).2 _ h
    obtain rfl := app_self this.symm
    exact .inr (.inl rfl)
  · by_cases h0 : z = []
    · subst h0
      have := (expo_ok h).1
      simp at this; omega
    · unfold expo at h ⊢
      rw [fw_cut h0 hz, nx_cut h0 hz y hy] at h
      split at h
      · split at h
        · rename_i h1
          split at h
          · rename_i h2
            simp at h; obtain ⟨rfl, rfl⟩ := h
            refine ⟨nx z, rfl, en_nx hz, .inl ?_⟩
            rw [if_pos h1, if_pos h2]
          · simp at h
        · simp at h
      · simp at h
theorem pw_cut {z y : Bs} (hz : en z) (hy : trm y = y) (hy0 : y ≠ []) : Cut y (pw (z ++ y)) (pw z) := by
  by_cases h0 : z = []
  · subst h0
    refine ⟨fun e h => .inr (.inl rfl), fun k r h hl => ?_⟩
    have := (pw_ok h).1
    simp at this; omega
  unfold pw
  rw [fw_cut h0 hz, nx_cut h0 hz y hy]
  by_cases c1 : fw z = [40]
  case neg =>
    rw [if_neg c1, if_neg c1]
    refine ⟨fun e h => ?_, fun k r h => by simp at h⟩
    simp at h; exact absurd h.2 h0
  rw [if_pos c1, if_pos c1]
  have hz1 := en_nx hz
  generalize nx z = z1 at *
  by_cases h1 : z1 = []
  · subst h1
    rw [if_neg (show ¬ nameL (fw []) = true by simp [fw, nameL])]
    refine ⟨fun e h => .inr (.inl rfl), fun k r h hl => ?_⟩
    split at h
    · rename_i c2
      have l1 := nx_lt (nameL_ne c2)
      split at h
      · have l2 := nx_le (nx ([] ++ y))
        have hx := expo_lft (lo := 2) (hi := 8) (r := nx (nx ([] ++ y)))
        have l3 := nx_le (nx (nx ([] ++ y)))
        cases h4 : expo 2 8 (nx (nx ([] ++ y))) with
        | error e => rw [h4] at h; simp at h
        | ok p =>
          obtain ⟨k2, r2⟩ := p
          have l4 := (hx.1 _ _ h4).len
          rw [h4] at h
          simp only at h
          split at h
          · simp only [Except.ok.injEq, Prod.mk.injEq] at h
            obtain ⟨_, rfl⟩ := h
            have l5 := nx_le r2
            simp only [List.nil_append] at *
            omega
          · simp at h
      · simp at h
    · simp at h
  rw [fw_cut h1 hz1, nx_cut h1 hz1 y hy]
  by_cases c2 : nameL (fw z1) = true
  case neg =>
    rw [if_neg c2, if_neg c2]
    refine ⟨fun e h => ?_, fun k r h => by simp at h⟩
    simp at h; exact absurd h.2 h1
  rw [if_pos c2, if_pos c2]
  have hz2 := en_nx hz1
  generalize nx z1 = z2 at *
  by_cases h2 : z2 = []
  · subst h2
    rw [if_neg (show ¬ fw [] = [44] by simp [fw])]
    refine ⟨fun e h => .inr (.inl rfl), fun k r h hl => ?_⟩
    split at h
    · rename_i c3
      have l1 := nx_lt (r := [] ++ y) (by rw [c3]; simp)
      have hx := expo_lft (lo := 2) (hi := 8) (r := nx ([] ++ y))
      cases h4 : expo 2 8 (nx ([] ++ y)) with
      | error e => rw [h4] at h; simp at h
      | ok p =>
        obtain ⟨k2, r2⟩ := p
        have l4 := (hx.1 _ _ h4).len
        rw [h4] at h
        simp only at h
        split at h
        · simp only [Except.ok.injEq, Prod.mk.injEq] at h
          obtain ⟨_, rfl⟩ := h
          have l5 := nx_le r2
          simp only [List.nil_append] at *
          omega
        · simp at h
    · simp at h
  rw [fw_cut h2 hz2, nx_cut h2 hz2 y hy]
  by_cases c3 : fw z2 = [44]
  case neg =>
    rw [if_neg c3, if_neg c3]
    refine ⟨fun e h => ?_, fun k r h => by simp at h⟩
    simp at h; exact absurd h.2 h2
  rw [if_pos c3, if_pos c3]
  have hz3 := en_nx hz2
  generalize nx z2 = z3 at *
  have hc := expo_cut (lo := 2) (hi := 8) hz3 hy
  have hx := expo_lft (lo := 2) (hi := 8) (r := z3 ++ y)
  cases h4 : expo 2 8 (z3 ++ y) with
  | error e =>
    obtain ⟨e1, e2⟩ := e
    refine ⟨fun e h => ?_, fun k r h => by simp at h⟩
    simp at h; obtain ⟨rfl, rfl⟩ := h
    have := hx.2 _ h4
    obtain rfl := app_self this.symm
    exact .inr (.inl rfl)
  | ok p =>
    obtain ⟨k2, r2⟩ := p
    have l4 := (hx.1 _ _ h4).len
    simp only
    by_cases hl : y.length ≤ r2.length
    case neg =>
      split
      · refine ⟨fun e h => by simp at h, fun k r h hl2 => ?_⟩
        simp only [Except.ok.injEq, Prod.mk.injEq] at h
        obtain ⟨_, rfl⟩ := h
        have := nx_le r2; omega
      · refine ⟨fun e h => ?_, fun k r h => by simp at h⟩
        simp at h; obtain ⟨_, rfl⟩ := h; omega
    obtain ⟨z4, rfl, hz4, hr⟩ := hc.2 _ _ h4 hl
    rcases hr with hr | ⟨q, hr⟩
    case inr => exact absurd rfl (expo_err hr)
    rw [hr]
    simp only
    by_cases h5 : z4 = []
    · subst h5
      rw [if_neg (show ¬ fw [] = [41] by simp [fw])]
      refine ⟨fun e h => .inr (.inl rfl), fun k r h hl2 => ?_⟩
      split at h
      · rename_i c5
        simp only [Except.ok.injEq, Prod.mk.injEq] at h
        obtain ⟨_, rfl⟩ := h
        have := nx_lt (r := [] ++ y) (by rw [c5]; simp)
        simp only [List.nil_append] at *
        omega
      · simp at h
    rw [fw_cut h5 hz4, nx_cut h5 hz4 y hy]
    by_cases c5 : fw z4 = [41]
    · rw [if_pos c5, if_pos c5]
      refine ⟨fun e h => by simp at h, fun k r h hl2 => ?_⟩
      simp only [Except.ok.injEq, Prod.mk.injEq] at h
      obtain ⟨rfl, rfl⟩ := h
      exact ⟨nx z4, rfl, en_nx hz4, .inl rfl⟩
    · rw [if_neg c5, if_neg c5]
      refine ⟨fun e h => ?_, fun k r h => by simp at h⟩
      simp at h; exact absurd h.2 h5
theorem leaf_cut {z y : Bs} (hz : en z) (hy : trm y = y) (hy0 : y ≠ []) : Cut y (leaf (z ++ y)) (leaf z) := by
  by_cases h0 : z = []
  · subst h0
    refine ⟨fun e h => .inr (.inl rfl), fun k r h hl => ?_⟩
    have := (leaf_ok h).1
    simp at this; omega
  unfold leaf
  rw [fw_cut h0 hz, nx_cut h0 hz y hy]
  have hz1 := en_nx hz
  have go : ∀ x : Nd, Cut y (.ok (x, nx z ++ y)) (.ok (x, nx z)) := fun x => ⟨fun e h => by simp at h, fun k r h _ => by
    simp only [Except.ok.injEq, Prod.mk.injEq] at h
    obtain ⟨rfl, rfl⟩ := h
    exact ⟨nx z, rfl, hz1, .inl rfl⟩⟩
  split
  · exact go _
  · split
    · exact go _
    · split
      · exact pw_cut hz1 hy hy0
      · split
        · exact go _
        · refine ⟨fun e h => ?_, fun k r h => by simp at h⟩
          simp at h; exact absurd h.2 h0
theorem cut_err {α : Type} {y : Bs} {R R' : Rs (α × Bs)} (h : Cut y R R') {e : Nat} (he : R = .error (e, y)) : (∃ a, R' = .ok (a, [])) ∨ R' = .error (3, []) ∨ Fo R' := h.1 e he
/-- Reading on from nothing. -/
theorem run_nil : ∀ (g : Nat) (m : Md), (∃ a, run g m [] = .ok (a, [])) ∨ run g m [] = .error (3, []) ∨ Fo (run g m [])
  | 0, m => .inr (.inr ⟨[], rfl⟩)
  | g + 1, .prim => by
    rw [run, if_neg (by simp [fw])]
    exact .inr (.inl rfl)
  | g + 1, .hats a => by
    rw [run, if_neg (by simp [fw])]
    exact .inl ⟨a, rfl⟩
  | g + 1, .loop k a => by
    rw [run]
    exact .inl ⟨a, rfl⟩
  | g + 1, .bin k => by
    rw [run]
    split
    · rcases run_nil g .prim with ⟨a, h⟩ | h | ⟨q, h⟩
      · rw [h]; exact run_nil g (.hats a)
      · rw [h]; exact .inr (.inl rfl)
      · rw [h]; exact .inr (.inr ⟨q, rfl⟩)
    · rcases run_nil g (.bin (k + 1)) with ⟨a, h⟩ | h | ⟨q, h⟩
      · rw [h]; exact run_nil g (.loop k a)
      · rw [h]; exact .inr (.inl rfl)
      · rw [h]; exact .inr (.inr ⟨q, rfl⟩)
/-- One reading behind another. -/
def bnd {α β : Type} (R : Rs (α × Bs)) (S : α → Bs → Rs (β × Bs)) : Rs (β × Bs) := match R with
  | .error e => .error e
  | .ok (a, r) => S a r
theorem run_prim (f : Nat) (r : Bs) : run (f + 1) .prim r = if fw r = [40] then bnd (run f (.bin 1) (nx r)) (fun a r1 => if fw r1 = [41] then .ok (a, nx r1) else .error (3, r1)) else bnd (leaf r) (fun x r1 => .ok (.leaf x, r1)) := by
  rw [run]
  unfold bnd
  split
  · cases run f (.bin 1) (nx r) <;> rfl
  · cases leaf r <;> rfl
theorem run_hats (f : Nat) (a : Tr) (r : Bs) : run (f + 1) (.hats a) r = if fw r = [94] then bnd (expo 1 6 (nx r)) (fun k r1 => run f (.hats (.hat k a)) r1) else .ok (a, r) := by
  rw [run]
  unfold bnd
  split
  · cases expo 1 6 (nx r) <;> rfl
  · rfl
theorem run_loop (f k : Nat) (a : Tr) (r : Bs) : run (f + 1) (.loop k a) r = match bop r with | none => .ok (a, r) | some op => if rul op = k then bnd (run f (.bin (k + 1)) (nx r)) (fun b r1 => run f (.loop k (.bin op a b)) r1) else .ok (a, r) := by
  rw [run]
  unfold bnd
  cases bop r with
  | none => rfl
  | some op =>
    simp only
    split
    · cases run f (.bin (k + 1)) (nx r) <;> rfl
    · rfl
theorem run_bin (f k : Nat) (r : Bs) : run (f + 1) (.bin k) r = if k = 4 then bnd (run f .prim r) (fun a r1 => run f (.hats a) r1) else bnd (run f (.bin (k + 1)) r) (fun a r1 => run f (.loop k a) r1) := by
  rw [run]
  unfold bnd
  split
  · cases run f .prim r <;> rfl
  · cases run f (.bin (k + 1)) r <;> rfl
theorem cut_seq {α β : Type} {y : Bs} {R R' : Rs (α × Bs)} {S S' : α → Bs → Rs (β × Bs)} (h : Cut y R R') (hl : ∀ a r, R = .ok (a, r) → (∀ b r', S a r = .ok (b, r') → r'.length ≤ r.length) ∧ ∀ e, S a r = .error e → e.2.length ≤ r.length) (hn : ∀ a, (∃ b, S' a [] = .ok (b, [])) ∨ S' a [] = .error (3, []) ∨ Fo (S' a [])) (hs : ∀ a z, en z → Cut y (S a (z ++ y)) (S' a z)) :
    Cut y (bnd R S) (bnd R' S') := by
  unfold bnd
  cases hR : R with
  | error e =>
    obtain ⟨e1, e2⟩ := e
    refine ⟨fun e h2 => ?_, fun k r h2 => by simp at h2⟩
    simp at h2; obtain ⟨rfl, rfl⟩ := h2
    rcases h.1 _ hR with ⟨a, h3⟩ | h3 | ⟨q, h3⟩
    · rw [h3]; exact hn a
    · rw [h3]; exact .inr (.inl rfl)
    · rw [h3]; exact .inr (.inr ⟨q, rfl⟩)
  | ok p =>
    obtain ⟨a, r⟩ := p
    simp only
    have hl2 := hl a r hR
    by_cases hy : y.length ≤ r.length
    · obtain ⟨z, rfl, hz, h3⟩ := h.2 a r hR hy
      rcases h3 with h3 | ⟨q, h3⟩
      · rw [h3]; exact hs a z hz
      · rw [h3]
        refine ⟨fun e _ => .inr (.inr ⟨q, rfl⟩), fun b r2 h4 h5 => ?_⟩
        have h6 := (hs a z hz).2 b r2 h4 h5
        obtain ⟨z', e1, e2, _⟩ := h6
        exact ⟨z', e1, e2, .inr ⟨q, rfl⟩⟩
    · refine ⟨fun e h4 => ?_, fun b r2 h4 h5 => ?_⟩
      · have := hl2.2 _ h4
        simp only at this; omega
      · have := hl2.1 _ _ h4
        omega
theorem run_len (f : Nat) (m : Md) (r : Bs) : (∀ b r', run f m r = .ok (b, r') → r'.length ≤ r.length) ∧ ∀ e, run f m r = .error e → e.2.length ≤ r.length :=
  ⟨fun b r' h => ((run_lft f m r).1 b r' h).len, fun e h => ((run_lft f m r).2 e h).len⟩
theorem cut_stay {α : Type} {y z : Bs} (hz : en z) (a : α) : Cut y (.ok (a, z ++ y)) (.ok (a, z)) :=
  ⟨fun e h => by simp at h, fun b r h _ => by
    simp only [Except.ok.injEq, Prod.mk.injEq] at h
    obtain ⟨rfl, rfl⟩ := h
    exact ⟨z, rfl, hz, .inl rfl⟩⟩
/-- At the cut: what goes on behind it does not come back, and what stops there is the same. -/
theorem cut_edge {β : Type} {y : Bs} {R R' : Rs (β × Bs)} (hn : (∃ b, R' = .ok (b, [])) ∨ R' = .error (3, []) ∨ Fo R') (h : ∀ b r, R = .ok (b, r) → y.length ≤ r.length → r = y ∧ R' = .ok (b, [])) : Cut y R R' :=
  ⟨fun _ _ => hn, fun b r h1 h2 => by obtain ⟨rfl, h3⟩ := h b r h1 h2; exact ⟨[], rfl, en_nil, .inl h3⟩⟩
theorem cut_fo {α : Type} {y : Bs} {R R' : Rs (α × Bs)} (h : Fo R') (h2 : ∀ a r, R = .ok (a, r) → y.length ≤ r.length → ∃ z', r = z' ++ y ∧ en z') : Cut y R R' :=
  ⟨fun _ _ => .inr (.inr h), fun a r h3 h4 => by obtain ⟨z', e1, e2⟩ := h2 a r h3 h4; exact ⟨z', e1, e2, .inr h⟩⟩
theorem run_strict (f : Nat) (m : Md) (r : Bs) (hm : eats m = true) : ∀ t r', run f m r = .ok (t, r') → r'.length < r.length := by
  intro t r' h
  induction f generalizing m r t r' with
  | zero => simp [run] at h
  | succ f ih =>
    cases m with
    | loop k a => cases hm
    | hats a => cases hm
    | prim =>
      rw [run] at h
      split at h
      · rename_i hb
        have h1 := nx_lt (r := r) (by rw [hb]; simp)
        cases h2 : run f (.bin 1) (nx r) with
        | error e => rw [h2] at h; simp at h
        | ok p =>
          obtain ⟨a, r1⟩ := p
          have h3 := (run_len f _ _).1 _ _ h2
          rw [h2] at h
          simp only at h
          split at h
          · simp only [Except.ok.injEq, Prod.mk.injEq] at h
            obtain ⟨_, rfl⟩ := h
            have := nx_le r1; omega
          · simp at h
      · cases h2 : leaf r with
        | error e => rw [h2] at h; simp at h
        | ok p =>
          obtain ⟨a, r1⟩ := p
          have h3 := (leaf_ok h2).1
          rw [h2] at h
          simp only [Except.ok.injEq, Prod.mk.injEq] at h
          obtain ⟨_, rfl⟩ := h
          exact h3
    | bin k =>
      rw [run] at h
      split at h
      · cases h2 : run f .prim r with
        | error e => rw [h2] at h; simp at h
        | ok p =>
          obtain ⟨a, r1⟩ := p
          rw [h2] at h
          have h3 := ih _ _ rfl _ _ h2
          have h4 := (run_len f _ _).1 _ _ h
          omega
      · cases h2 : run f (.bin (k + 1)) r with
        | error e => rw [h2] at h; simp at h
        | ok p =>
          obtain ⟨a, r1⟩ := p
          rw [h2] at h
          have h3 := ih _ _ rfl _ _ h2
          have h4 := (run_len f _ _).1 _ _ h
          omega
theorem bop_cut {z : Bs} (h : z ≠ []) (he : en z) (y : Bs) : bop (z ++ y) = bop z := by unfold bop; rw [fw_cut h he]
/-- Reading a text with y behind it, and the text alone. -/
theorem run_cut (y : Bs) (hy : trm y = y) (hy0 : y ≠ []) : ∀ (f g : Nat) (m : Md) (z : Bs), en z → Cut y (run f m (z ++ y)) (run g m z)
  | 0, g, m, z, hz => by
    refine ⟨fun e h => ?_, fun a r h => by simp [run] at h⟩
    simp [run] at h
    rw [h.2]
    exact run_nil g m
  | f + 1, 0, m, z, hz => by
    refine cut_fo ⟨z, rfl⟩ fun a r h hl => ?_
    -- what is left is the text's own end
    obtain ⟨p, hp⟩ := ((run_lft (f + 1) m (z ++ y)).1 a r h).1
    rcases List.append_eq_append_iff.1 hp with ⟨c, h1, h2⟩ | ⟨c, h1, h2⟩
    · exact ⟨c, h2, en_suf ⟨p, h1.symm⟩ hz⟩
    · have : c = [] := by
        have := congrArg List.length h2
        rw [List.length_append] at this
        exact List.length_eq_zero_iff.1 (by omega)
      subst this
      exact ⟨[], by simpa using h2.symm, en_nil⟩
  | f + 1, g + 1, .prim, z, hz => by
    by_cases h0 : z = []
    · subst h0
      exact cut_edge (run_nil _ _) fun b r h hl => by
        have := run_strict _ _ _ rfl _ _ h
        simp at this; omega
    rw [run_prim, run_prim, fw_cut h0 hz, nx_cut h0 hz y hy]
    have hz1 := en_nx hz
    split
    · refine cut_seq (S := fun a r1 => if fw r1 = [41] then .ok (a, nx r1) else .error (3, r1)) (S' := fun a r1 => if fw r1 = [41] then .ok (a, nx r1) else .error (3, r1)) (run_cut y hy hy0 f g (.bin 1) (nx z) hz1) (fun a r _ => ?_) (fun a => .inr (.inl (by simp [fw]))) fun a z2 hz2 => ?_
      · refine ⟨fun b r' h => ?_, fun e h => ?_⟩
        · split at h
          · simp only [Except.ok.injEq, Prod.mk.injEq] at h
            obtain ⟨_, rfl⟩ := h; exact nx_le r
          · simp at h
        · split at h
          · simp at h
          · simp at h; subst h; exact Nat.le_refl _
      · by_cases h2 : z2 = []
        · subst h2
          refine cut_edge (.inr (.inl (by simp [fw]))) fun b r h hl => ?_
          split at h
          · rename_i c5
            simp only [Except.ok.injEq, Prod.mk.injEq] at h
            obtain ⟨_, rfl⟩ := h
            have := nx_lt (r := [] ++ y) (by rw [c5]; simp)
            simp only [List.nil_append] at *
            omega
          · simp at h
        · rw [fw_cut h2 hz2, nx_cut h2 hz2 y hy]
          split
          · exact cut_stay (en_nx hz2) a
          · refine ⟨fun e h => ?_, fun k r h => by simp at h⟩
            simp at h; exact absurd h.2 h2
    · refine cut_seq (S := fun x r1 => .ok (Tr.leaf x, r1)) (S' := fun x r1 => .ok (Tr.leaf x, r1)) (leaf_cut hz hy hy0) (fun a r _ => ?_) (fun a => .inl ⟨_, rfl⟩) fun a z2 hz2 => cut_stay hz2 _
      refine ⟨fun b r' h => ?_, fun e h => by simp at h⟩
      simp only [Except.ok.injEq, Prod.mk.injEq] at h
      obtain ⟨_, rfl⟩ := h; exact Nat.le_refl _
  | f + 1, g + 1, .hats a, z, hz => by
    by_cases h0 : z = []
    · subst h0
      refine cut_edge (run_nil _ _) fun b r h hl => ?_
      rw [run] at h
      rw [run, if_neg (show ¬ fw [] = [94] by simp [fw])]
      split at h
      · rename_i hb
        have l1 := nx_lt (r := [] ++ y) (by rw [hb]; simp)
        cases h2 : expo 1 6 (nx ([] ++ y)) with
        | error e1 => rw [h2] at h; simp at h
        | ok p =>
          obtain ⟨k, r1⟩ := p
          have l2 := (expo_ok h2).1
          rw [h2] at h
          have l3 := (run_len _ _ _).1 _ _ h
          simp only [List.nil_append] at *
          omega
      · simp only [Except.ok.injEq, Prod.mk.injEq] at h
        obtain ⟨rfl, rfl⟩ := h
        exact ⟨rfl, rfl⟩
    rw [run_hats, run_hats, fw_cut h0 hz, nx_cut h0 hz y hy]
    have hz1 := en_nx hz
    split
    · exact cut_seq (S := fun k r1 => run f (.hats (.hat k a)) r1) (S' := fun k r1 => run g (.hats (.hat k a)) r1) (expo_cut hz1 hy) (fun k r _ => run_len _ _ _) (fun k => run_nil _ _) fun k z2 hz2 => run_cut y hy hy0 f g _ z2 hz2
    · exact cut_stay hz a
  | f + 1, g + 1, .loop k a, z, hz => by
    by_cases h0 : z = []
    · subst h0
      refine cut_edge (run_nil _ _) fun b r h hl => ?_
      rw [run] at h
      rw [run]
      have stay : (Except.ok (a, [] ++ y) : Rs (Tr × Bs)) = .ok (b, r) → r = y ∧ (Except.ok (a, []) : Rs (Tr × Bs)) = .ok (b, []) := fun h => by
        simp only [Except.ok.injEq, Prod.mk.injEq] at h
        obtain ⟨rfl, rfl⟩ := h
        exact ⟨rfl, rfl⟩
      cases hb : bop ([] ++ y) with
      | none => rw [hb] at h; exact stay h
      | some op =>
        rw [hb] at h
        simp only at h
        split at h
        · have l1 := nx_lt (bop_op hb).2.2
          cases h2 : run f (.bin (k + 1)) (nx ([] ++ y)) with
          | error e1 => rw [h2] at h; simp at h
          | ok p =>
            obtain ⟨b2, r1⟩ := p
            have l2 := (run_len _ _ _).1 _ _ h2
            rw [h2] at h
            have l3 := (run_len _ _ _).1 _ _ h
            simp only [List.nil_append] at *
            omega
        · exact stay h
    rw [run_loop, run_loop, bop_cut h0 hz, nx_cut h0 hz y hy]
    have hz1 := en_nx hz
    cases hb : bop z with
    | none => exact cut_stay hz a
    | some op =>
      simp only
      split
      · exact cut_seq (S := fun b r1 => run f (.loop k (.bin op a b)) r1) (S' := fun b r1 => run g (.loop k (.bin op a b)) r1) (run_cut y hy hy0 f g _ _ hz1) (fun k r _ => run_len _ _ _) (fun k => run_nil _ _) fun b z2 hz2 => run_cut y hy hy0 f g _ z2 hz2
      · exact cut_stay hz a
  | f + 1, g + 1, .bin k, z, hz => by
    rw [run_bin, run_bin]
    split
    · exact cut_seq (S := fun b r1 => run f (.hats b) r1) (S' := fun b r1 => run g (.hats b) r1) (run_cut y hy hy0 f g _ _ hz) (fun k r _ => run_len _ _ _) (fun k => run_nil _ _) fun b z2 hz2 => run_cut y hy hy0 f g _ z2 hz2
    · exact cut_seq (S := fun b r1 => run f (.loop k b) r1) (S' := fun b r1 => run g (.loop k b) r1) (run_cut y hy hy0 f g _ _ hz) (fun k r _ => run_len _ _ _) (fun k => run_nil _ _) fun b z2 hz2 => run_cut y hy hy0 f g _ z2 hz2
/-- The right side. -/
theorem rdR_lft {f : Nat} {r : Bs} {e : Er} (h : rdR f r = .error e) : Lft e.2 r := by
  unfold rdR at h
  have hl := run_lft f (.bin 1) r
  cases h2 : run f (.bin 1) r with
  | error e1 => rw [h2] at h; simp at h; subst h; exact hl.2 _ h2
  | ok p =>
    obtain ⟨t, r1⟩ := p
    rw [h2] at h
    simp only at h
    split at h
    · simp at h
    · simp at h; subst h; exact hl.1 _ _ h2
theorem rdR_cut (y : Bs) (hy : trm y = y) (hy0 : y ≠ []) (f : Nat) (z : Bs) (hz : en z) (e : Nat) (h : rdR f (z ++ y) = .error (e, y)) : (∃ t, rdR (6 * z.length + 5) z = .ok t) ∨ rdR (6 * z.length + 5) z = .error (3, []) := by
  have hc := run_cut y hy hy0 f (6 * z.length + 5) (.bin 1) z hz
  have hfu := fuel (6 * z.length + 5) (.bin 1) z (fun k e => by injection e; omega) (fun _ _ e => by cases e) trivial (Nat.le_refl _)
  have no : ∀ {P : Prop}, Fo (run (6 * z.length + 5) (.bin 1) z) → P := fun ⟨q, hq⟩ => absurd rfl (hfu.1 _ hq)
  unfold rdR at h ⊢
  cases h2 : run f (.bin 1) (z ++ y) with
  | error e1 =>
    rw [h2] at h
    simp at h; subst h
    rcases hc.1 _ h2 with ⟨a, h3⟩ | h3 | h3
    · rw [h3]; exact .inl ⟨a, rfl⟩
    · rw [h3]; exact .inr rfl
    · exact no h3
  | ok p =>
    obtain ⟨t, r1⟩ := p
    rw [h2] at h
    simp only at h
    split at h
    · simp at h
    · simp at h; obtain ⟨_, rfl⟩ := h
      obtain ⟨z', h3, h4, h5⟩ := hc.2 _ _ h2 (Nat.le_refl _)
      obtain rfl := app_self h3.symm
      rcases h5 with h5 | h5
      · rw [h5]; exact .inl ⟨t, rfl⟩
      · exact no h5
end F9
end Go.Proofs.YtjebpmjbdchdlaaDoor
