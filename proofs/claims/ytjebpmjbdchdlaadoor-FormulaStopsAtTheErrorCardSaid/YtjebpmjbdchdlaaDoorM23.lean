/- A text that is cut at the place of its error. -/
import Derived.Test.YtjebpmjbdchdlaaDoorM21
import Derived.Test.YtjebpmjbdchdlaaDoorM22
namespace Go.Proofs.YtjebpmjbdchdlaaDoor
open Go.RowKit
set_option linter.unusedVariables false

theorem rdT_lft {l : F9.Bs} {e : F9.Er} (h : rdT l = .error e) : F9.Lft e.2 (F9.trm l) := by
  unfold rdT at h
  split at h
  · split at h
    · cases h2 : F9.rdR (6 * (F9.nx (F9.nx (F9.trm l))).length + 5) (F9.nx (F9.nx (F9.trm l))) with
      | error e1 =>
        rw [h2] at h
        simp at h; subst h
        exact (F9.rdR_lft h2).trans ((F9.Lft.nx _).trans (F9.Lft.nx _))
      | ok x => rw [h2] at h; simp at h
    · simp at h; subst h; exact F9.Lft.nx _
  · simp at h; subst h; exact F9.Lft.refl _
/-- The text ahead of an error has its own error, if it has one, at its end. -/
theorem rdT_cut (y : F9.Bs) (hy : F9.trm y = y) (hy0 : y ≠ []) (x : F9.Bs) (hx : F9.en x) (e : Nat) (h : rdT (x ++ y) = .error (e, y)) : (∃ a, rdT x = .ok a) ∨ rdT x = .error (3, []) := by
  have nil : rdT [] = .error (3, []) := rfl
  unfold rdT at h
  rw [F9.trm_app y hy] at h
  have hz := F9.en_suf (F9.trm_suf x) hx
  have hxx : rdT x = rdT x := rfl
  unfold rdT
  generalize F9.trm x = z at *
  by_cases h0 : z = []
  · subst h0
    exact .inr (by rw [if_neg (by simp [F9.fw, nameL])])
  rw [F9.fw_cut h0 hz, F9.nx_cut h0 hz y hy] at h
  by_cases c1 : nameL (F9.fw z) = true
  case neg =>
    rw [if_neg c1] at h
    simp at h; exact absurd h.2 h0
  rw [if_pos c1] at h ⊢
  have hz1 := F9.en_nx hz
  generalize F9.nx z = z1 at *
  by_cases h1 : z1 = []
  · subst h1
    exact .inr (by rw [if_neg (by simp [F9.fw])])
  rw [F9.fw_cut h1 hz1, F9.nx_cut h1 hz1 y hy] at h
  by_cases c2 : F9.fw z1 = [126]
  case neg =>
    rw [if_neg c2] at h
    simp at h; exact absurd h.2 h1
  rw [if_pos c2] at h ⊢
  have hz2 := F9.en_nx hz1
  generalize F9.nx z1 = z2 at *
  cases h2 : F9.rdR (6 * (z2 ++ y).length + 5) (z2 ++ y) with
  | ok t => rw [h2] at h; simp at h
  | error e1 =>
    rw [h2] at h
    simp at h; subst h
    rcases F9.rdR_cut y hy hy0 _ z2 hz2 e h2 with ⟨t, h3⟩ | h3
    · rw [h3]; exact .inl ⟨_, rfl⟩
    · rw [h3]; exact .inr rfl
theorem stops_L {l : F9.Bs} {er : Int} {q : Nat} {s : ByteArray} {L : List Nd} (hl : l.length ≤ 600) (hp : parV l = (er, q, s, L)) (he : er = 3 ∨ er = 1) (hq : q < l.length) (hi : F9.en (l.take q)) : (parV (l.take q)).1 = 0 ∨ (parV (l.take q)).1 = 2 ∨ ((parV (l.take q)).1 = 3 ∧ (parV (l.take q)).2.1 = q) := by
  unfold parV at hp
  rw [if_neg (by omega)] at hp
  cases hr : rdT l with
  | ok x =>
    obtain ⟨n, tr⟩ := x
    rw [hr] at hp
    simp only at hp
    split at hp <;> simp at hp <;> omega
  | error x =>
    obtain ⟨e, y⟩ := x
    rw [hr] at hp
    simp only [Prod.mk.injEq] at hp
    obtain ⟨h1, h2, _⟩ := hp
    have hlf := rdT_lft hr
    have hsuf : y <:+ l := hlf.1.trans (F9.trm_suf l)
    have hty : F9.trm y = y := hlf.2 (F9.trm_trm l)
    have hyl := hsuf.length_le
    have hy0 : y ≠ [] := by rintro rfl; simp at h2; omega
    obtain ⟨p, rfl⟩ := hsuf
    have hpl : p.length = q := by rw [List.length_append] at h2; omega
    rw [← hpl, List.take_left] at hi ⊢
    unfold parV
    rw [List.length_append] at hl
    rw [if_neg (by omega)]
    rcases rdT_cut y hty hy0 p hi e hr with ⟨⟨n, tr⟩, h3⟩ | h3
    · rw [h3]
      simp only
      split
      · exact .inr (.inl rfl)
      · exact .inl rfl
    · rw [h3]
      exact .inr (.inr ⟨rfl, by simp⟩)
theorem ext_take (t : ByteArray) (q : Nat) : (t.extract 0 q).data.toList = t.data.toList.take q := by
  rw [ByteArray.data_extract, Array.toList_extract, List.extract_eq_take_drop, List.drop_zero]; rfl
/-- .. for texts as they lie in memory: c is the byte ahead of the place. -/
theorem stops_B {t : ByteArray} {er : Int} {q : Nat} {s : ByteArray} {L : List Nd} (hl : t.size ≤ 600) (hp : parV t.data.toList = (er, q, s, L)) (he : er = 3 ∨ er = 1) (hq : q < t.size) (hi : 0 < q → ∀ c, t.data.toList[q - 1]? = some c → innB c = false) : (parV (t.extract 0 q).data.toList).1 = 0 ∨ (parV (t.extract 0 q).data.toList).1 = 2 ∨ ((parV (t.extract 0 q).data.toList).1 = 3 ∧ (parV (t.extract 0 q).data.toList).2.1 = q) := by
  have e1 : t.data.toList.length = t.size := by rw [Array.length_toList]; rfl
  rw [ext_take]
  refine stops_L (by omega) hp he (by omega) fun c hc => ?_
  rcases Nat.eq_zero_or_pos q with h0 | h0
  · subst h0; simp at hc
  · refine hi h0 c ?_
    rw [Option.mem_def, List.getLast?_eq_getElem?, List.length_take, List.getElem?_take] at hc
    have : min q t.data.toList.length - 1 = q - 1 := by omega
    rw [this, if_pos (by omega)] at hc
    exact hc
end Go.Proofs.YtjebpmjbdchdlaaDoor
