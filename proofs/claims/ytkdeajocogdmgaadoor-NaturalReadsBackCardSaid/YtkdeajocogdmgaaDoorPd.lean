/- Decimal digits, plain: what Format writes is what Parse takes, and back. -/
import Derived.Test.YtkdeajocogdmgaaDoorYc
namespace Go.Proofs.YtkdeajocogdmgaaDoor
open Go.RowKit

theorem dg_ok {u : Nat} (h : u < 10) : isDig (UInt8.ofNat (48 + u)) = true ∧ (UInt8.ofNat (48 + u)).toNat = 48 + u := by
  have e : (UInt8.ofNat (48 + u)).toNat = 48 + u := by rw [UInt8.toNat_ofNat']; omega
  refine ⟨?_, e⟩
  unfold isDig
  rw [e]; simp; omega
theorem dec_all : ∀ (N : Nat), allDig (Lib.decDigits N) = true ∧ dval (Lib.decDigits N) = N := by
  intro N
  induction N using Nat.strongRecOn with
  | _ N ih =>
    by_cases h : N < 10
    · rw [Lib.decDigits_one h]
      obtain ⟨h1, h2⟩ := dg_ok h
      refine ⟨by unfold allDig; rw [List.all_cons, h1]; rfl, ?_⟩
      simp only [dval, List.foldl_cons, List.foldl_nil, h2]; omega
    · rw [Lib.decDigits, dif_neg h]
      obtain ⟨i1, i2⟩ := ih (N / 10) (by omega)
      obtain ⟨h1, h2⟩ := dg_ok (u := N % 10) (by omega)
      refine ⟨?_, ?_⟩
      · unfold allDig at i1 ⊢
        rw [List.all_append, i1, List.all_cons, h1]; rfl
      · rw [dval_app, i2]
        simp only [dval, List.foldl_cons, List.foldl_nil, h2, List.length_singleton]; omega
theorem dec_head : ∀ (N : Nat), 0 < N → ∃ c r, Lib.decDigits N = c :: r ∧ 49 ≤ c.toNat := by
  intro N
  induction N using Nat.strongRecOn with
  | _ N ih =>
    intro h0
    by_cases h : N < 10
    · rw [Lib.decDigits_one h]
      exact ⟨_, [], rfl, by rw [(dg_ok h).2]; omega⟩
    · rw [Lib.decDigits, dif_neg h]
      obtain ⟨c, r, e, hc⟩ := ih (N / 10) (by omega) (by omega)
      exact ⟨c, _, by rw [e]; rfl, hc⟩
theorem dec_len_le {N k : Nat} (h : N < 10 ^ (k + 1)) : (Lib.decDigits N).length ≤ k + 1 := by
  rw [Lib.decDigits_length]
  have : ∀ (k u : Nat), u < 10 ^ (k + 1) → Lib.nDigits u ≤ k + 1 := by
    intro k
    induction k with
    | zero => intro u h; rw [Lib.nDigits_small (by simpa using h)]; omega
    | succ k ih =>
      intro u h
      by_cases hu : u < 10
      · rw [Lib.nDigits_small hu]; omega
      · rw [Nat.pow_succ] at h
        rw [Lib.nDigits_big hu]
        have := ih (u / 10) (by omega)
        omega
  exact this k N h
/-- A number's text. -/
def txt (N : Nat) : ByteArray := ⟨(Lib.decDigits N).toArray⟩
theorem txt_list (N : Nat) : (txt N).data.toList = Lib.decDigits N := rfl
theorem txt_size (N : Nat) : (txt N).size = (Lib.decDigits N).length := by rw [← toList_len, txt_list]
theorem isDec_txt {N : Nat} (h : (Lib.decDigits N).length ≤ 4000) : isDec (txt N) = true := by
  have h0 : 0 < (txt N).size := by rw [txt_size, Lib.decDigits_length]; exact Lib.nDigits_pos N
  rw [isDec_digs h0 (by rw [txt_size]; exact h), txt_list]
  · exact (dec_all N).1
  · rintro ⟨h1, h2⟩
    rw [getBang h0] at h2
    have hg := toList_get h0
    rw [txt_list] at hg
    rcases Nat.eq_zero_or_pos N with hN | hN
    · subst hN
      rw [txt_size, Lib.decDigits_one (by decide)] at h1
      simp at h1
    · obtain ⟨c, r, e, hc⟩ := dec_head N hN
      rw [e] at hg
      simp at hg
      rw [← hg] at h2
      omega
theorem dval_txt (N : Nat) : dval (txt N).data.toList = N := by rw [txt_list]; exact (dec_all N).2
theorem small_bn {N : Nat} {m : Nat} (h : N < 4294967296 ^ m) : (Lib.decDigits N).length ≤ 10 * m + 1 := by
  refine dec_len_le (k := 10 * m) ?_
  have h1 : 4294967296 ^ m ≤ (10 ^ 10) ^ m := Nat.pow_le_pow_left (by decide) _
  rw [← Nat.pow_mul] at h1
  have h2 : 10 ^ (10 * m) ≤ 10 ^ (10 * m + 1) := Nat.pow_le_pow_right (by decide) (by omega)
  omega
theorem small_len {N : Nat} {m : Nat} (h : N < 4294967296 ^ m) (hm : m ≤ 100) : (Lib.decDigits N).length ≤ 1001 := by
  have := small_bn h
  omega

theorem dval_pos {c : UInt8} {r : List UInt8} (ha : allDig (c :: r) = true) (hc : c.toNat ≠ 48) : 0 < dval (c :: r) := by
  have h1 : isDig c = true := by unfold allDig at ha; rw [List.all_cons, Bool.and_eq_true] at ha; exact ha.1
  unfold isDig at h1
  simp only [Bool.and_eq_true, decide_eq_true_eq] at h1
  have e : dval (c :: r) = dval [c] * 10 ^ r.length + dval r := by rw [← dval_app]; rfl
  have e2 : dval [c] = c.toNat - 48 := by simp [dval]
  have := Nat.mul_pos (show 0 < dval [c] by rw [e2]; omega) (Nat.pow_pos (n := r.length) (show 0 < 10 by decide))
  omega
theorem digit_back {c : UInt8} (h : isDig c = true) : UInt8.ofNat (48 + (c.toNat - 48)) = c := by
  unfold isDig at h
  simp only [Bool.and_eq_true, decide_eq_true_eq] at h
  rw [show 48 + (c.toNat - 48) = c.toNat by omega]
  exact UInt8.ofNat_toNat
theorem dec_back : ∀ (n : Nat) (l : List UInt8), l.length = n → allDig l = true → l ≠ [] → (1 < l.length → ∀ c r, l = c :: r → c.toNat ≠ 48) → Lib.decDigits (dval l) = l := by
  intro n
  induction n with
  | zero => intro l hl _ h0; exact absurd (List.eq_nil_of_length_eq_zero hl) h0
  | succ n ih =>
    intro l hl ha h0 hz
    obtain ⟨m, c, rfl⟩ : ∃ m c, l = m ++ [c] := ⟨l.dropLast, l.getLast h0, (List.dropLast_concat_getLast h0).symm⟩
    have hlm : m.length = n := by simpa using hl
    unfold allDig at ha
    rw [List.all_append, Bool.and_eq_true] at ha
    obtain ⟨ham, hac⟩ := ha
    have hc : isDig c = true := by simpa using hac
    have hc2 := hc
    unfold isDig at hc2
    simp only [Bool.and_eq_true, decide_eq_true_eq] at hc2
    have ev : dval (m ++ [c]) = dval m * 10 + (c.toNat - 48) := by rw [dval_app]; simp [dval]
    rw [ev]
    cases hm : m with
    | nil =>
      simp only [dval, List.foldl_nil, List.nil_append, Nat.zero_mul, Nat.zero_add]
      rw [Lib.decDigits_one (by omega), digit_back hc]
    | cons a r =>
      rw [← hm]
      have ham' : allDig m = true := ham
      have ha48 : a.toNat ≠ 48 := hz (by rw [hm]; simp) a (r ++ [c]) (by rw [hm]; rfl)
      have hpos : 0 < dval m := by rw [hm]; exact dval_pos (by rw [← hm]; exact ham') ha48
      rw [Lib.decDigits, dif_neg (by omega)]
      rw [show (dval m * 10 + (c.toNat - 48)) / 10 = dval m by omega, show (dval m * 10 + (c.toNat - 48)) % 10 = c.toNat - 48 by omega, digit_back hc]
      rw [ih m hlm ham' (by rw [hm]; simp) (fun _ c' r' e => by rw [hm] at e; injection e with e1 _; rw [← e1]; exact ha48)]
/-- What Parse takes is what Format writes. -/
theorem txt_back {s : ByteArray} (h : isDec s = true) : txt (dval s.data.toList) = s := by
  obtain ⟨h0, h4, ha⟩ := isDec_yes' h
  have hz : ¬ (1 < s.size ∧ (s.get! 0).toNat = 48) := by
    intro hc
    rw [isDec_zero hc.1 (by rw [← getBang (by omega)]; exact hc.2)] at h
    cases h
  apply ByteArray.ext
  apply Array.toList_inj.1
  show Lib.decDigits _ = _
  refine dec_back _ _ rfl ha (fun e => by have := toList_len s; rw [e] at this; simp at this; omega) ?_
  intro hl c r e hc
  rw [toList_len] at hl
  apply hz
  refine ⟨hl, ?_⟩
  rw [getBang h0]
  have hg := toList_get h0
  rw [e] at hg
  simp at hg
  rw [← hg]; exact hc
end Go.Proofs.YtkdeajocogdmgaaDoor
