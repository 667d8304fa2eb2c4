/- The reference's reader: its methods, in lists of bytes. -/
import Derived.Test.YthbkdjbmkhmlnaaDoorB10
import Derived.Test.YthbkdjbmkhmlnaaDoorB09
import Derived.Deep.CutRange
import Derived.Lib.AppendZeros
namespace Go.Proofs.YthbkdjbmkhmlnaaDoor
open Go.RowKit
set_option linter.unusedVariables false

section
variable {w0 W : World} {rb : Nat} {t : ByteArray} {r : F9.Bs} {bs : List GBk} {er : Int} {pl k : Nat}
theorem RA.takeY (h : RA w0 W rb t r bs) (ht : t.size ≤ 100000) {c : UInt8} (hc : sgnC c) (hf : F9.fw r = [c]) : Calls Tryd.prog 77 #[.pointer (some ⟨rb, 0, none⟩), .int .u8 c.toNat] W fun e w' => e = .returned (.bool true) ∧ RA w0 w' rb t (F9.nx r) bs := by
  obtain ⟨p, hp, hq, hd, hr, S⟩ := h.st ht
  have hs := (sg_fw hd hc).2 hf
  have hl := (drop_len2 hd hq).2
  have hp2 : 0 < r.length := List.length_pos_iff.2 (fw_pos' hf (by simp))
  refine (take_yes t p 0 0 rb bs [] w0 W S ht hp c.toNat hs).mono ?_
  rintro e w' ⟨rfl, S'⟩
  exact ⟨rfl, _, by omega, nx_one hd (by rw [hf]; rfl), S'⟩

theorem RA.takeN (h : RA w0 W rb t r bs) (ht : t.size ≤ 100000) {c : UInt8} (hc : sgnC c) (hf : ¬ F9.fw r = [c]) : Calls Tryd.prog 77 #[.pointer (some ⟨rb, 0, none⟩), .int .u8 c.toNat] W fun e w' => e = .returned (.bool false) ∧ RA w0 w' rb t r bs := by
  obtain ⟨p, hp, hq, hd, hr, S⟩ := h.st ht
  refine (take_no t p 0 0 rb bs [] w0 W S ht hp c.toNat (fun h => hf ((sg_fw hd hc).1 h))).mono ?_
  rintro e w' ⟨rfl, S'⟩
  exact ⟨rfl, _, hq, by rw [hd, hr], S'⟩

theorem RA.wantY (h : RA w0 W rb t r bs) (ht : t.size ≤ 100000) {c : UInt8} (hc : sgnC c) (hf : F9.fw r = [c]) : Calls Tryd.prog 46 #[.pointer (some ⟨rb, 0, none⟩), .int .u8 c.toNat] W fun e w' => e = .returned (.tuple #[]) ∧ RA w0 w' rb t (F9.nx r) bs := by
  obtain ⟨p, hp, hq, hd, hr, S⟩ := h.st ht
  have hs := (sg_fw hd hc).2 hf
  have hl := (drop_len2 hd hq).2
  have hp2 : 0 < r.length := List.length_pos_iff.2 (fw_pos' hf (by simp))
  refine (want_yes t p 0 0 rb bs [] w0 W S ht hp c.toNat hs).mono ?_
  rintro e w' ⟨rfl, S'⟩
  exact ⟨rfl, _, by omega, nx_one hd (by rw [hf]; rfl), S'⟩

theorem RA.wantN (h : RA w0 W rb t r bs) (ht : t.size ≤ 100000) {c : UInt8} (hc : sgnC c) (hf : ¬ F9.fw r = [c]) : Calls Tryd.prog 46 #[.pointer (some ⟨rb, 0, none⟩), .int .u8 c.toNat] W fun e w' => e = .returned (.tuple #[]) ∧ RD w0 w' rb t 3 (t.size - r.length) 0 bs := by
  obtain ⟨p, hp, hq, hd, hr, S⟩ := h.st ht
  have hl := (drop_len2 hd hq).1
  refine (want_no t p 0 0 rb bs [] w0 W S ht hp c.toNat (fun h => hf ((sg_fw hd hc).1 h))).mono ?_
  rintro e w' ⟨rfl, S'⟩
  rw [if_pos rfl, if_pos rfl] at S'
  exact ⟨rfl, by decide, _, by omega, hl ▸ S'⟩

theorem RA.sign (h : RA w0 W rb t r bs) (ht : t.size ≤ 100000) : Calls Tryd.prog 48 #[.pointer (some ⟨rb, 0, none⟩)] W fun e w' => e = .returned (.int .u8 (hdN r)) ∧ RA w0 w' rb t r bs := by
  obtain ⟨p, hp, hq, hd, hr, S⟩ := h.st ht
  refine (sign_any t p 0 0 rb bs [] w0 W S ht hp).mono ?_
  rintro e w' ⟨rfl, S'⟩
  exact ⟨by rw [sg_hd hd], _, hq, by rw [hd, hr], S'⟩

theorem RA.digit (h : RA w0 W rb t r bs) (ht : t.size ≤ 100000) : Calls Tryd.prog 109 #[.pointer (some ⟨rb, 0, none⟩)] W fun e w' => e = .returned (.int .i64 (dgN r)) ∧ RA w0 w' rb t r bs := by
  obtain ⟨p, hp, hq, hd, hr, S⟩ := h.st ht
  refine (digit_any t p 0 0 rb bs [] w0 W S ht hp).mono ?_
  rintro e w' ⟨rfl, S'⟩
  exact ⟨by rw [dg_is hd], _, hq, by rw [hd, hr], S'⟩

theorem RA.word_is (h : RA w0 W rb t r bs) (ht : t.size ≤ 100000) {x : F9.Bs} (hx : ∃ c s, x = c :: s ∧ letB c = true) (hf : F9.fw r = x) : Calls Tryd.prog 76 #[.pointer (some ⟨rb, 0, none⟩)] W fun e w' => e = .returned (.string ⟨x.toArray⟩) ∧ RA w0 w' rb t r bs := by
  obtain ⟨p, hp, hq, hd, hr, S⟩ := h.st ht
  refine (word_any t p 0 0 rb bs [] w0 W S ht hp).mono ?_
  rintro e w' ⟨rfl, S'⟩
  exact ⟨by rw [(wd_is hd hx).2 hf], _, hq, by rw [hd, hr], S'⟩

theorem RA.word_not (h : RA w0 W rb t r bs) (ht : t.size ≤ 100000) {x : F9.Bs} (hx : ∃ c s, x = c :: s ∧ letB c = true) (hf : ¬ F9.fw r = x) : Calls Tryd.prog 76 #[.pointer (some ⟨rb, 0, none⟩)] W fun e w' => ∃ y : ByteArray, e = .returned (.string y) ∧ ¬ y = ⟨x.toArray⟩ ∧ RA w0 w' rb t r bs := by
  obtain ⟨p, hp, hq, hd, hr, S⟩ := h.st ht
  refine (word_any t p 0 0 rb bs [] w0 W S ht hp).mono ?_
  rintro e w' ⟨rfl, S'⟩
  exact ⟨_, rfl, fun e => hf ((wd_is hd hx).1 e), _, hq, by rw [hd, hr], S'⟩

theorem RA.nameY (h : RA w0 W rb t r bs) (ht : t.size ≤ 100000) (hf : nameL (F9.fw r) = true) : Calls Tryd.prog 45 #[.pointer (some ⟨rb, 0, none⟩)] W fun e w' => e = .returned (.string ⟨(F9.fw r).toArray⟩) ∧ RA w0 w' rb t (F9.nx r) bs := by
  obtain ⟨p, hp, hq, hd, hr, S⟩ := h.st ht
  have hn := wd_name hd
  rw [hf] at hn
  have hz := wd_size t (blN t p) 0 hq
  obtain ⟨c, s, e0, hc, _⟩ := F9.name_parts hf
  have hw := (wd_is hd ⟨c, s, e0, hc⟩).2 rfl
  have hk : (F9.fw r).length = (wdB t (blN t p) 0).size := by rw [hw]; simp [ByteArray.size]
  refine (name9_yes t p 0 0 rb bs [] w0 W S ht hp hn).mono ?_
  rintro e w' ⟨rfl, S'⟩
  exact ⟨by rw [hw], _, hz, nx_one hd hk, S'⟩

theorem RA.nameN (h : RA w0 W rb t r bs) (ht : t.size ≤ 100000) (hf : nameL (F9.fw r) = false) : Calls Tryd.prog 45 #[.pointer (some ⟨rb, 0, none⟩)] W fun e w' => e = .returned (.string ByteArray.empty) ∧ RD w0 w' rb t 3 (t.size - r.length) 0 bs := by
  obtain ⟨p, hp, hq, hd, hr, S⟩ := h.st ht
  have hn := wd_name hd
  rw [hf] at hn
  have hl := (drop_len2 hd hq).1
  refine (name9_no t p 0 0 rb bs [] w0 W S ht hp hn).mono ?_
  rintro e w' ⟨rfl, S'⟩
  rw [if_pos rfl, if_pos rfl] at S'
  exact ⟨rfl, by decide, _, by omega, hl ▸ S'⟩

theorem expo_dgN {lo hi : Nat} {r : F9.Bs} : F9.expo lo hi r = if dgN r < 0 then .error (3, r) else if dgN r < lo ∨ (hi : Int) < dgN r then .error (1, r) else .ok ((dgN r).toNat, F9.nx r) := by
  unfold F9.expo dgN
  split
  · rename_i d hd
    simp only [hd]
    by_cases h : digB d = true
    · have hd2 : 48 ≤ d.toNat ∧ d.toNat ≤ 57 := by unfold digB at h; simpa using h
      rw [if_pos h, if_pos h]
      have k1 : ¬ ((d.toNat : Int) - 48 < 0) := by omega
      by_cases h3 : lo ≤ d.toNat - 48 ∧ d.toNat - 48 ≤ hi
      · have k2 : ¬ ((d.toNat : Int) - 48 < (lo : Int) ∨ (hi : Int) < (d.toNat : Int) - 48) := by omega
        have k3 : ((d.toNat : Int) - 48).toNat = d.toNat - 48 := by omega
        rw [if_pos h3, if_neg k1, if_neg k2, k3]
      · have k2 : (d.toNat : Int) - 48 < (lo : Int) ∨ (hi : Int) < (d.toNat : Int) - 48 := by omega
        rw [if_neg h3, if_neg k1, if_pos k2]
    · rw [if_neg h, if_neg h, if_pos (by omega)]
  · rename_i hne
    split
    · rename_i d hd; exact absurd hd (hne d)
    · rfl
theorem dgN_le (r : F9.Bs) : -1 ≤ dgN r ∧ dgN r ≤ 9 := by
  unfold dgN
  split
  · rename_i d hd
    split
    · rename_i h
      have hd2 : 48 ≤ d.toNat ∧ d.toNat ≤ 57 := by unfold digB at h; simpa using h
      omega
    · omega
  · omega
theorem dgN_pos {r : F9.Bs} (h : 0 ≤ dgN r) : (F9.fw r).length = 1 := by
  unfold dgN at h
  split at h
  · rename_i d hd; rw [hd]; rfl
  · omega
theorem RA.expY (h : RA w0 W rb t r bs) (ht : t.size ≤ 100000) (lo hi : Nat) {k : Nat} {r1 : F9.Bs} (he : F9.expo lo hi r = .ok (k, r1)) : Calls Tryd.prog 98 #[.pointer (some ⟨rb, 0, none⟩), .int .i64 lo, .int .i64 hi] W fun e w' => e = .returned (.int .i64 k) ∧ RA w0 w' rb t r1 bs := by
  obtain ⟨p, hp, hq, hd, hr, S⟩ := h.st ht
  rw [expo_dgN] at he
  have hb := dgN_le r
  split at he
  · cases he
  · rename_i h0
    split at he
    · cases he
    · rename_i h1
      injection he with he
      injection he with h2 h3
      subst h2 h3
      have hl := (drop_len2 hd hq).2
      have hk := dgN_pos (by omega : 0 ≤ dgN r)
      have hp2 : 0 < r.length := by
        rcases Nat.eq_zero_or_pos r.length with h | h
        · rw [List.length_eq_zero_iff.1 h] at hk; cases hk
        · exact h
      refine (exponent_any t p 0 0 rb bs [] w0 W S ht hp lo hi).mono ?_
      rintro e w' ⟨rfl, S'⟩
      rw [dg_is hd, show exE (dgN r) lo hi = 0 by unfold exE; rw [if_neg h0, if_neg h1], erX_0, plX_0] at S'
      rw [dg_is hd]
      exact ⟨by rw [Int.toNat_of_nonneg (by omega)], _, by omega, nx_one hd hk, S'⟩

theorem RA.expN (h : RA w0 W rb t r bs) (ht : t.size ≤ 100000) (lo hi : Nat) {x : F9.Er} (he : F9.expo lo hi r = .error x) : Calls Tryd.prog 98 #[.pointer (some ⟨rb, 0, none⟩), .int .i64 lo, .int .i64 hi] W fun e w' => ∃ v : Int, e = .returned (.int .i64 v) ∧ RD w0 w' rb t x.1 (t.size - x.2.length) 1 bs := by
  obtain ⟨p, hp, hq, hd, hr, S⟩ := h.st ht
  have hl := (drop_len2 hd hq).1
  have hx : exE (dgN r) lo hi = (x.1 : Int) ∧ x.2 = r ∧ ¬ (x.1 : Int) = 0 := by
    rw [expo_dgN] at he
    unfold exE
    split at he
    · rename_i h0
      injection he with he; subst he
      rw [if_pos h0]; exact ⟨rfl, rfl, by show ¬ ((3 : Nat) : Int) = 0; decide⟩
    · rename_i h0
      split at he
      · rename_i h1
        injection he with he; subst he
        rw [if_neg h0, if_pos h1]; exact ⟨rfl, rfl, by show ¬ ((1 : Nat) : Int) = 0; decide⟩
      · cases he
  obtain ⟨h1, h2, h3⟩ := hx
  refine (exponent_any t p 0 0 rb bs [] w0 W S ht hp lo hi).mono ?_
  rintro e w' ⟨rfl, S'⟩
  rw [dg_is hd, h1] at S'
  refine ⟨_, rfl, h3, blN t p + 1, by omega, ?_⟩
  rw [h2]
  unfold erX plX at S'
  rw [if_pos rfl, if_pos ⟨rfl, h3⟩, hl] at S'
  rw [hl]
  exact S'

theorem RD.sign (h : RD w0 W rb t er pl k bs) (hk : k ≤ 50) (ht : t.size ≤ 100000) : Calls Tryd.prog 48 #[.pointer (some ⟨rb, 0, none⟩)] W fun e w' => e = .returned (.int .u8 0) ∧ RD w0 w' rb t er pl k bs := by
  obtain ⟨he, p, hp, S⟩ := h
  have hb := bl_le ht (show p ≤ 100100 by omega)
  have hb2 : blN t p ≤ t.size + k := by
    rcases Nat.lt_or_ge t.size p with h | h
    · rw [bl_end (by omega)]; exact hp
    · have := hb.2.2 h; omega
  refine (sign_any t p er pl rb bs [] w0 W S ht (by omega)).mono ?_
  rintro e w' ⟨rfl, S'⟩
  exact ⟨by rw [sg_err he]; rfl, he, _, hb2, S'⟩

theorem RD.take (h : RD w0 W rb t er pl k bs) (hk : k ≤ 50) (ht : t.size ≤ 100000) {c : UInt8} (hc : sgnC c) : Calls Tryd.prog 77 #[.pointer (some ⟨rb, 0, none⟩), .int .u8 c.toNat] W fun e w' => e = .returned (.bool false) ∧ RD w0 w' rb t er pl k bs := by
  obtain ⟨he, p, hp, S⟩ := h
  have hb := bl_le ht (show p ≤ 100100 by omega)
  have hb2 : blN t p ≤ t.size + k := by
    rcases Nat.lt_or_ge t.size p with h | h
    · rw [bl_end (by omega)]; exact hp
    · have := hb.2.2 h; omega
  refine (take_no t p er pl rb bs [] w0 W S ht (by omega) c.toNat (by rw [sg_err he]; exact fun h => hc.2.2 h.symm)).mono ?_
  rintro e w' ⟨rfl, S'⟩
  exact ⟨rfl, he, _, hb2, S'⟩

theorem RD.want (h : RD w0 W rb t er pl k bs) (hk : k ≤ 50) (ht : t.size ≤ 100000) {c : UInt8} (hc : sgnC c) : Calls Tryd.prog 46 #[.pointer (some ⟨rb, 0, none⟩), .int .u8 c.toNat] W fun e w' => e = .returned (.tuple #[]) ∧ RD w0 w' rb t er pl k bs := by
  obtain ⟨he, p, hp, S⟩ := h
  have hb := bl_le ht (show p ≤ 100100 by omega)
  have hb2 : blN t p ≤ t.size + k := by
    rcases Nat.lt_or_ge t.size p with h | h
    · rw [bl_end (by omega)]; exact hp
    · have := hb.2.2 h; omega
  refine (want_no t p er pl rb bs [] w0 W S ht (by omega) c.toNat (by rw [sg_err he]; exact fun h => hc.2.2 h.symm)).mono ?_
  rintro e w' ⟨rfl, S'⟩
  rw [if_neg he, if_neg he] at S'
  exact ⟨rfl, he, _, hb2, S'⟩

theorem RD.digit (h : RD w0 W rb t er pl k bs) (hk : k ≤ 50) (ht : t.size ≤ 100000) : Calls Tryd.prog 109 #[.pointer (some ⟨rb, 0, none⟩)] W fun e w' => e = .returned (.int .i64 (-1)) ∧ RD w0 w' rb t er pl k bs := by
  obtain ⟨he, p, hp, S⟩ := h
  have hb := bl_le ht (show p ≤ 100100 by omega)
  have hb2 : blN t p ≤ t.size + k := by
    rcases Nat.lt_or_ge t.size p with h | h
    · rw [bl_end (by omega)]; exact hp
    · have := hb.2.2 h; omega
  refine (digit_any t p er pl rb bs [] w0 W S ht (by omega)).mono ?_
  rintro e w' ⟨rfl, S'⟩
  exact ⟨by unfold dgV; rw [sg_err he, if_neg (by omega)], he, _, hb2, S'⟩

theorem RD.word (h : RD w0 W rb t er pl k bs) (hk : k ≤ 50) (ht : t.size ≤ 100000) : Calls Tryd.prog 76 #[.pointer (some ⟨rb, 0, none⟩)] W fun e w' => e = .returned (.string ByteArray.empty) ∧ RD w0 w' rb t er pl k bs := by
  obtain ⟨he, p, hp, S⟩ := h
  have hb := bl_le ht (show p ≤ 100100 by omega)
  have hb2 : blN t p ≤ t.size + k := by
    rcases Nat.lt_or_ge t.size p with h | h
    · rw [bl_end (by omega)]; exact hp
    · have := hb.2.2 h; omega
  have hw : wdB t (blN t p) er = ByteArray.empty := by
    unfold wdB sgC
    rw [if_neg he]; rfl
  refine (word_any t p er pl rb bs [] w0 W S ht (by omega)).mono ?_
  rintro e w' ⟨rfl, S'⟩
  exact ⟨by rw [hw], he, _, hb2, S'⟩

theorem RD.name (h : RD w0 W rb t er pl k bs) (hk : k ≤ 50) (ht : t.size ≤ 100000) : Calls Tryd.prog 45 #[.pointer (some ⟨rb, 0, none⟩)] W fun e w' => e = .returned (.string ByteArray.empty) ∧ RD w0 w' rb t er pl k bs := by
  obtain ⟨he, p, hp, S⟩ := h
  have hb := bl_le ht (show p ≤ 100100 by omega)
  have hb2 : blN t p ≤ t.size + k := by
    rcases Nat.lt_or_ge t.size p with h | h
    · rw [bl_end (by omega)]; exact hp
    · have := hb.2.2 h; omega
  have hw : wdB t (blN t p) er = ByteArray.empty := by
    unfold wdB sgC
    rw [if_neg he]; rfl
  refine (name9_no t p er pl rb bs [] w0 W S ht (by omega) (by rw [hw]; rfl)).mono ?_
  rintro e w' ⟨rfl, S'⟩
  rw [if_neg he, if_neg he] at S'
  exact ⟨rfl, he, _, hb2, S'⟩

theorem RD.fail (h : RD w0 W rb t er pl k bs) (hk : k ≤ 50) (ht : t.size ≤ 100000) (x : Int) : Calls Tryd.prog 49 #[.pointer (some ⟨rb, 0, none⟩), .int .i64 x] W fun e w' => e = .returned (.tuple #[]) ∧ RD w0 w' rb t er pl k bs := by
  obtain ⟨he, p, hp, S⟩ := h
  refine (fail_any t p er pl rb bs [] w0 W S x).mono ?_
  rintro e w' ⟨rfl, S'⟩
  rw [if_neg he, if_neg he] at S'
  exact ⟨rfl, he, _, hp, S'⟩

theorem RD.exp (h : RD w0 W rb t er pl k bs) (hk : k ≤ 50) (ht : t.size ≤ 100000) (lo hi : Nat) : Calls Tryd.prog 98 #[.pointer (some ⟨rb, 0, none⟩), .int .i64 lo, .int .i64 hi] W fun e w' => e = .returned (.int .i64 (-1)) ∧ RD w0 w' rb t er pl (k + 1) bs := by
  obtain ⟨he, p, hp, S⟩ := h
  have hb := bl_le ht (show p ≤ 100100 by omega)
  have hb2 : blN t p ≤ t.size + k := by
    rcases Nat.lt_or_ge t.size p with h | h
    · rw [bl_end (by omega)]; exact hp
    · have := hb.2.2 h; omega
  refine (exponent_any t p er pl rb bs [] w0 W S ht (by omega) lo hi).mono ?_
  rintro e w' ⟨rfl, S'⟩
  have hv : dgV t (blN t p) er = -1 := by unfold dgV; rw [sg_err he, if_neg (by omega)]
  rw [hv] at S' ⊢
  rw [show erX er (exE (-1) lo hi) = er by unfold erX; rw [if_neg he], show plX er (exE (-1) lo hi) (blN t p) pl = pl by unfold plX; rw [if_neg (fun h => he h.1)]] at S'
  exact ⟨rfl, he, _, by omega, S'⟩

end
end Go.Proofs.YthbkdjbmkhmlnaaDoor
namespace Go.Proofs.YthbkdjbmkhmlnaaDoor
open Go.RowKit
set_option linter.unusedVariables false

/-- What the reading from the left ends with. -/
def Ev (s : Bool) (N : List F9.Nd) (W : List Nat) (r : F9.Bs) (X : F9.Rs (List F9.Nd)) : Prop := ∃ c, ∀ g, F9.mach (g + c) s N W r = X
section
variable {N : List F9.Nd} {W : List Nat} {r : F9.Bs} {X : F9.Rs (List F9.Nd)}
theorem Ev.one {s : Bool} {Y : Nat → F9.Rs (List F9.Nd)} (h : Ev s N W r X) (e : ∀ f, F9.mach (f + 1) s N W r = Y f) : ∃ c, ∀ g, Y (g + c) = X := by
  obtain ⟨c, h⟩ := h
  refine ⟨c, fun g => ?_⟩
  have := h (g + 1)
  rw [show g + 1 + c = (g + c) + 1 by omega, e] at this
  exact this
theorem Ev.paren (h : Ev false N W r X) (hb : F9.fw r = [40]) : Ev false N (0 :: W) (F9.nx r) X := h.one (Y := fun f => F9.mach f false N (0 :: W) (F9.nx r)) (fun f => by rw [F9.mach, if_pos hb])
theorem Ev.leaf_ok (h : Ev false N W r X) (hb : ¬ F9.fw r = [40]) {x : F9.Nd} {r1 : F9.Bs} (hl : F9.leaf r = .ok (x, r1)) : Ev true (N ++ [x]) W r1 X := h.one (Y := fun f => F9.mach f true (N ++ [x]) W r1) (fun f => by rw [F9.mach, if_neg hb, hl])
theorem Ev.leaf_err (h : Ev false N W r X) (hb : ¬ F9.fw r = [40]) {e : F9.Er} (hl : F9.leaf r = .error e) : X = .error e := by
  obtain ⟨c, hc⟩ := h.one (Y := fun _ => .error e) (fun f => by rw [F9.mach, if_neg hb, hl])
  exact (hc 0).symm
theorem Ev.hat_ok (h : Ev true N W r X) (hb : F9.fw r = [94]) {k : Nat} {r1 : F9.Bs} (he : F9.expo 1 6 (F9.nx r) = .ok (k, r1)) : Ev true (N ++ [⟨10, [], k⟩]) W r1 X := h.one (Y := fun f => F9.mach f true (N ++ [(⟨10, [], k⟩ : F9.Nd)]) W r1) (fun f => by rw [F9.mach, if_pos hb, he])
theorem Ev.hat_err (h : Ev true N W r X) (hb : F9.fw r = [94]) {e : F9.Er} (he : F9.expo 1 6 (F9.nx r) = .error e) : X = .error e := by
  obtain ⟨c, hc⟩ := h.one (Y := fun _ => .error e) (fun f => by rw [F9.mach, if_pos hb, he])
  exact (hc 0).symm
theorem Ev.close_no (h : Ev true N W r X) (h1 : ¬ F9.fw r = [94]) (hb : F9.fw r = [41]) (hf : (F9.fin 1 N W).2 = []) : X = .error (3, r) := by
  obtain ⟨c, hc⟩ := h.one (Y := fun _ => .error (3, r)) (fun f => by rw [F9.mach, if_neg h1, if_pos hb, hf])
  exact (hc 0).symm
theorem Ev.close_yes (h : Ev true N W r X) (h1 : ¬ F9.fw r = [94]) (hb : F9.fw r = [41]) {w : Nat} {W1 : List Nat} (hf : (F9.fin 1 N W).2 = w :: W1) : Ev true (F9.fin 1 N W).1 W1 (F9.nx r) X := h.one (Y := fun f => F9.mach f true (F9.fin 1 N W).1 W1 (F9.nx r)) (fun f => by rw [F9.mach, if_neg h1, if_pos hb, hf])
theorem Ev.bin (h : Ev true N W r X) (h1 : ¬ F9.fw r = [94]) (h2 : ¬ F9.fw r = [41]) {op : Nat} (hb : F9.bop r = some op) : Ev false (F9.fin (F9.rul op) N W).1 (op :: (F9.fin (F9.rul op) N W).2) (F9.nx r) X := h.one (Y := fun f => F9.mach f false (F9.fin (F9.rul op) N W).1 (op :: (F9.fin (F9.rul op) N W).2) (F9.nx r)) (fun f => by rw [F9.mach, if_neg h1, if_neg h2, hb])
theorem Ev.end_ok (h : Ev true N W r X) (h1 : ¬ F9.fw r = [94]) (h2 : ¬ F9.fw r = [41]) (hb : F9.bop r = none) (hr : F9.fw r = []) (hf : (F9.fin 1 N W).2 = []) : X = .ok (F9.fin 1 N W).1 := by
  obtain ⟨c, hc⟩ := h.one (Y := fun _ => .ok (F9.fin 1 N W).1) (fun f => by rw [F9.mach, if_neg h1, if_neg h2, hb]; simp [hr, hf])
  exact (hc 0).symm
theorem Ev.end_no (h : Ev true N W r X) (h1 : ¬ F9.fw r = [94]) (h2 : ¬ F9.fw r = [41]) (hb : F9.bop r = none) (hn : ¬ (F9.fw r = [] ∧ (F9.fin 1 N W).2 = [])) : X = .error (3, r) := by
  obtain ⟨c, hc⟩ := h.one (Y := fun _ => .error (3, r)) (fun f => by rw [F9.mach, if_neg h1, if_neg h2, hb]; simp only; rw [if_neg hn])
  exact (hc 0).symm
end
/-- What waits are open brackets and operations with two operands. -/
def okW (W : List Nat) : Prop := ∀ w ∈ W, w = 0 ∨ (5 ≤ w ∧ w ≤ 9)
theorem fin_ok (k : Nat) : ∀ (W : List Nat) (N : List F9.Nd), okW W → okW (F9.fin k N W).2 ∧ (F9.fin k N W).1.length + (F9.fin k N W).2.length = N.length + W.length
  | [], N, h => ⟨h, rfl⟩
  | w :: W, N, h => by
    rw [F9.fin]
    split
    · obtain ⟨h1, h2⟩ := fin_ok k W (N ++ [⟨w, [], 0⟩]) (fun v hv => h v (List.mem_cons_of_mem _ hv))
      refine ⟨h1, ?_⟩
      rw [h2]; simp; omega
    · exact ⟨h, rfl⟩
end Go.Proofs.YthbkdjbmkhmlnaaDoor
namespace Go.Proofs.YthbkdjbmkhmlnaaDoor
open Go.RowKit
set_option linter.unusedVariables false

theorem noLof {xs : List Value} (h : xs.all (fun v => match v with | .int .u32 _ => false | _ => true) = true) : NoL xs.toArray := by
  refine NoLl.arr fun v hv z e => ?_
  have := List.all_eq_true.1 h v hv
  rw [e] at this
  cases this
theorem permT {α : Type} (p : α) (A B : List α) : (p :: (A ++ B)).Perm ((p :: B) ++ A) := List.perm_append_comm.cons p
theorem permU {α : Type} (p : α) (A B : List α) : ((p :: B) ++ A).Perm (p :: (A ++ B)) := List.perm_append_comm.cons p
theorem all_take {α : Type} (C : Cod α) : ∀ (L : List α) (m : Nat), (C.all L).take (m * C.sz) = C.all (L.take m)
  | [], m => by simp [Cod.all]
  | x :: l, 0 => by simp [Cod.all]
  | x :: l, m + 1 => by
    have : C.all (x :: l) = C.cs x ++ C.all l := rfl
    have e : C.all ((x :: l).take (m + 1)) = C.cs x ++ C.all (l.take m) := rfl
    rw [this, e, Nat.add_mul, Nat.one_mul, List.take_append, C.len, List.take_of_length_le (by rw [C.len]; omega), show m * C.sz + C.sz - C.sz = m * C.sz by omega, all_take C l m]
theorem OBi.cut {ob : List GBk} {l : Sl Int} (h : OBi ob l) {m : Nat} (hm : m ≤ l.L.length) : OBi ob ⟨l.A, l.c, l.L.take m⟩ := by
  obtain ⟨h1, h2, h3⟩ := h
  have hl : (l.L.take m).length = m := by rw [List.length_take]; omega
  refine ⟨all_len intC _, all_noL intC _, ?_⟩
  rcases h3 with ⟨hv, h0, rfl⟩ | ⟨g, cap, cur, hv, hle, hcap, hcs, htk, rfl⟩
  · injection hv with hA _ hc
    exact .inl ⟨by unfold Sl.v; rw [hA, hc, hl, show m = 0 by omega], by rw [hl]; omega, rfl⟩
  · injection hv with hA _ hc
    refine .inr ⟨g, cap, cur, by unfold Sl.v; rw [hA, hc], by rw [hl]; omega, hcap, hcs, ?_, rfl⟩
    rw [hl]
    have := all_take intC l.L m
    rw [← htk, List.take_take] at this
    rw [← this]
    congr 1
    show m * 1 = min (m * 1) (l.L.length * 1)
    omega
section
variable {w W : World} {bs ob : List GBk} {rs : List GRd}
theorem OBi.lr {l : Sl Int} (h : OBi ob l) (S : St w W (bs ++ ob) rs) : LR intC W l.A l.L.length l.L ∧ l.L.length ≤ l.c := by
  have G := h.gro S
  obtain ⟨A, c, hv, hl⟩ := G.lr
  injection hv with h1 h2 h3
  refine ⟨by rw [h1]; exact hl, ?_⟩
  obtain ⟨_, _, ⟨hv, h0, _⟩ | ⟨g, cap, cur, hv, hle, _⟩⟩ := h
  · omega
  · injection hv with _ _ h5; omega
theorem OBn.lr {l : Sl Nd} (h : OBn ob l) (S : St w W (bs ++ ob) rs) : LR ndC W l.A l.L.length l.L ∧ l.L.length ≤ l.c := by
  have G := h.gro S
  obtain ⟨A, c, hv, hl⟩ := G.lr
  injection hv with h1 h2 h3
  refine ⟨by rw [h1]; exact hl, ?_⟩
  obtain ⟨_, _, ⟨hv, h0, _⟩ | ⟨g, cap, cur, hv, hle, _⟩⟩ := h
  · omega
  · injection hv with _ _ h5; omega
end
section
variable {fs : List GBk} {w0 W : World} {rb : Nat} {t nm : ByteArray} {r : F9.Bs} {N : List F9.Nd} {Wt : List Nat}
end
end Go.Proofs.YthbkdjbmkhmlnaaDoor
namespace Go.Proofs.YthbkdjbmkhmlnaaDoor
open Go.RowKit
set_option linter.unusedVariables false

theorem og_rul {W : World} (h : Og W) {q : Nat} (hq : q = 0 ∨ (5 ≤ q ∧ q ≤ 9)) : W.cell? ⟨0, q * 6 + 1, none⟩ = some (.int .i64 (F9.rul q : Nat)) := by
  have hc : q = 0 ∨ q = 5 ∨ q = 6 ∨ q = 7 ∨ q = 8 ∨ q = 9 := by omega
  rcases hc with rfl | rfl | rfl | rfl | rfl | rfl
  all_goals exact h.2 _ _ rfl
theorem wtL_cons (w : Nat) (W : List Nat) : wtL (w :: W) = wtL W ++ [(w : Int)] := by unfold wtL; simp
theorem wtL_len (W : List Nat) : (wtL W).length = W.length := by unfold wtL; simp
section
variable {fs : List GBk} {w0 W : World} {rb : Nat} {t nm : ByteArray} {r : F9.Bs} {N : List F9.Nd} {Wt : List Nat}
end
end Go.Proofs.YthbkdjbmkhmlnaaDoor
namespace Go.Proofs.YthbkdjbmkhmlnaaDoor
open Go.RowKit
set_option linter.unusedVariables false

section
variable {fs : List GBk} {w0 W : World} {rb : Nat} {t nm : ByteArray} {r : F9.Bs} {N : List F9.Nd} {Wt : List Nat}
end
end Go.Proofs.YthbkdjbmkhmlnaaDoor
namespace Go.Proofs.YthbkdjbmkhmlnaaDoor
open Go.RowKit
set_option linter.unusedVariables false

theorem expo_parts {lo hi : Nat} {r : F9.Bs} {k : Nat} {r1 : F9.Bs} (he : F9.expo lo hi r = .ok (k, r1)) : ∃ d : UInt8, F9.fw r = [d] ∧ digB d = true ∧ d.toNat = 48 + k ∧ k ≤ 9 ∧ lo ≤ k ∧ k ≤ hi ∧ r1 = F9.nx r := by
  unfold F9.expo at he
  split at he
  · rename_i d hd
    split at he
    · rename_i h
      have hd2 : 48 ≤ d.toNat ∧ d.toNat ≤ 57 := by unfold digB at h; simpa using h
      split at he
      · rename_i h2
        injection he with he
        injection he with h3 h4
        exact ⟨d, hd, h, by omega, by omega, by omega, by omega, h4.symm⟩
      · cases he
    · cases he
  · cases he
theorem expo_bad {lo hi : Nat} {r : F9.Bs} {x : F9.Er} (he : F9.expo lo hi r = .error x) : x.2 = r ∧ ((x.1 = 3 ∧ ∀ d, F9.fw r = [d] → digB d = false) ∨ (x.1 = 1 ∧ ∃ d : UInt8, ∃ k : Nat, F9.fw r = [d] ∧ digB d = true ∧ d.toNat = 48 + k ∧ k ≤ 9 ∧ ¬ (lo ≤ k ∧ k ≤ hi))) := by
  unfold F9.expo at he
  split at he
  · rename_i d hd
    split at he
    · rename_i h
      have hd2 : 48 ≤ d.toNat ∧ d.toNat ≤ 57 := by unfold digB at h; simpa using h
      split at he
      · cases he
      · rename_i h2
        injection he with he
        subst he
        exact ⟨rfl, .inr ⟨rfl, d, d.toNat - 48, hd, h, by omega, by omega, h2⟩⟩
    · rename_i h
      injection he with he
      subst he
      exact ⟨rfl, .inl ⟨rfl, fun d' e => by rw [hd] at e; injection e with e; subst e; simpa using h⟩⟩
  · rename_i hn
    injection he with he
    subst he
    exact ⟨rfl, .inl ⟨rfl, fun d e => absurd e (hn d)⟩⟩
section
variable {fs : List GBk} {w0 W : World} {rb : Nat} {t nm : ByteArray} {r : F9.Bs} {N : List F9.Nd} {Wt : List Nat}
end
end Go.Proofs.YthbkdjbmkhmlnaaDoor
namespace Go.Proofs.YthbkdjbmkhmlnaaDoor
open Go.RowKit
set_option linter.unusedVariables false

theorem nod_10 (k : Nat) : nodB ⟨((10 : Nat) : Int), ⟨([] : F9.Bs).toArray⟩, (k : Int)⟩ = (decide (1 ≤ k) && decide (k ≤ 6)) := by
  show (decide ((1 : Int) ≤ 10) && decide ((10 : Int) ≤ 10) && fldB ⟨10, ⟨#[]⟩, (k : Int)⟩) = _
  rw [fld10]
  have e : (⟨#[]⟩ : ByteArray).toList.isEmpty = true := by rw [ByteArray.toList_eq]; rfl
  rw [e, Bool.eq_iff_iff]
  simp
  omega
theorem nod_2 {x : F9.Bs} (hx : nameL x = true) (k : Nat) : nodB ⟨((2 : Nat) : Int), ⟨x.toArray⟩, (k : Int)⟩ = (decide (2 ≤ k) && decide (k ≤ 8)) := by
  show (decide ((1 : Int) ≤ 2) && decide ((2 : Int) ≤ 10) && fldB ⟨2, ⟨x.toArray⟩, (k : Int)⟩) = _
  rw [fld2]
  have e : nameB ⟨x.toArray⟩ = true := by unfold nameB; exact hx
  rw [e, Bool.eq_iff_iff]
  simp
  omega
section
variable {fs : List GBk} {w0 W : World} {rb : Nat} {t nm : ByteArray} {r : F9.Bs} {N : List F9.Nd} {Wt : List Nat}
end
end Go.Proofs.YthbkdjbmkhmlnaaDoor
namespace Go.Proofs.YthbkdjbmkhmlnaaDoor
open Go.RowKit
set_option linter.unusedVariables false

/-- The place of the program's reader in a world. -/
def posP (b : Nat) (W : World) : Nat := match W.cell? ⟨b, 2, none⟩ with
  | some (.int _ z) => z.toNat
  | _ => 0
section
variable {fs : List GBk} {w0 W : World} {rb : Nat} {t nm : ByteArray} {r : F9.Bs} {N : List F9.Nd} {Wt : List Nat} {X : F9.Rs (List F9.Nd)}
theorem word_eq {x : ByteArray} {p : Nat} (h : RI t r x p) (l : F9.Bs) : (x.toList == l) = decide (F9.fw r = l) := by
  rw [ByteArray.toList_eq, h.2.2, Bool.eq_iff_iff, beq_iff_eq, decide_eq_true_eq]

end
end Go.Proofs.YthbkdjbmkhmlnaaDoor
namespace Go.Proofs.YthbkdjbmkhmlnaaDoor
open Go.RowKit
set_option linter.unusedVariables false

/-- A text as a formula: its response, its tree. -/
def rdT (l : F9.Bs) : F9.Rs (F9.Bs × F9.Tr) :=
  if nameL (F9.fw (F9.trm l)) then
    if F9.fw (F9.nx (F9.trm l)) = [126] then
      match F9.rdR (6 * (F9.nx (F9.nx (F9.trm l))).length + 5) (F9.nx (F9.nx (F9.trm l))) with
      | .error e => .error e
      | .ok x => .ok (F9.fw (F9.trm l), x)
    else .error (3, F9.nx (F9.trm l))
  else .error (3, F9.trm l)
section
variable {fs : List GBk} {w0 W : World} {rb : Nat} {t nm : ByteArray} {r : F9.Bs} {N : List F9.Nd} {Wt : List Nat} {X : F9.Rs (List F9.Nd)}
end
end Go.Proofs.YthbkdjbmkhmlnaaDoor
namespace Go.Proofs.YthbkdjbmkhmlnaaDoor
open Go.RowKit
set_option linter.unusedVariables false

theorem run_nil_zeros {P : Program} (w : World) (t tn ty e : TypeId) (z : Value) (sz bytes : Nat) (k kn : IntKind) (ht : P.underlying t = some (.slice e)) (htn : P.underlying tn = some (.int kn)) (hi : (P.info? e).map (fun i => (i.zero, i.size, i.bytes)) = some (some z, sz, bytes))
    (n : Nat) (h0 : 0 < n) (hs : 0 < sz) (h48 : n * bytes ≤ 140737488355328 ∧ n ≤ 9223372036854775807) :
    (Builtin.append_ #[t, tn] ty #[.slice none 0 0, .int k n]).run P w =
      .ok (.slice (some ⟨w.heap.size, 0, none⟩) n (grownCap w n 0 e)) (w.drew.alloc (.cells (Builtin.zeroCells z.cells n ++ Builtin.zeroCells z.cells (grownCap w n 0 e - n)) e)) := by
  obtain ⟨i0, hi0, hzz⟩ := Option.map_eq_some_iff.1 hi
  simp only [Prod.mk.injEq] at hzz
  obtain ⟨hz0, hz1, hz2⟩ := hzz
  exact Lib.run_append_nil_zeros w t tn ty e i0 z k kn ht htn hi0 hz0 n h0 (by omega) (by have := h48.2; omega) (by rw [hz2]; have := h48.1; omega)

/-- The lists, one behind the other. -/
def ncatL (Ls : List (Sl Nd)) (i : Nat) : List Nd := ((Ls.take i).map (fun l => l.L)).flatten
theorem ncat_succ {Ls : List (Sl Nd)} {i : Nat} {x : Sl Nd} (h : Ls[i]? = some x) : ncatL Ls (i + 1) = ncatL Ls i ++ x.L := by
  unfold ncatL
  rw [List.take_add_one, h]; simp
theorem ncat_le (Ls : List (Sl Nd)) (i : Nat) : (ncatL Ls i).length ≤ ((Ls.map (fun l => l.L)).flatten).length := by
  unfold ncatL
  have e : (Ls.map (fun l => l.L)).flatten = ((Ls.take i).map (fun l => l.L)).flatten ++ ((Ls.drop i).map (fun l => l.L)).flatten := by
    rw [← List.flatten_append, ← List.map_append, List.take_append_drop]
  rw [e, List.length_append]
  exact Nat.le_add_right _ _
end Go.Proofs.YthbkdjbmkhmlnaaDoor
namespace Go.Proofs.YthbkdjbmkhmlnaaDoor
open Go.RowKit
set_option linter.unusedVariables false

/-- Each operation of a list finds its operands. -/
def okP : List F9.Nd → Nat → Prop
  | [], _ => True
  | x :: l, m => F9.ari x.op ≤ m ∧ okP l (m - F9.ari x.op + 1)
theorem ari_lf {x : F9.Nd} (h : F9.lfN x) : F9.ari x.op = 0 := by
  unfold F9.ari
  rcases h with h | h | h
  · rw [h.1]; rfl
  · rw [h.1]; rfl
  · rcases h.1 with h | h <;> rw [h] <;> rfl
theorem okP_post : ∀ (t : F9.Tr), t.wf → ∀ (l : List F9.Nd) (m : Nat), okP l (m + 1) → okP (t.post ++ l) m
  | .leaf x, h, l, m, hl => by
    have e := ari_lf h
    show F9.ari x.op ≤ m ∧ okP l (m - F9.ari x.op + 1)
    rw [e]; exact ⟨Nat.zero_le _, hl⟩
  | .hat k a, h, l, m, hl => by
    rw [F9.Tr.post, List.append_assoc]
    refine okP_post a h.2.2 _ _ ?_
    exact ⟨by show 1 ≤ m + 1; omega, by show okP l (m + 1 - 1 + 1); rw [Nat.add_sub_cancel]; exact hl⟩
  | .bin op a b, h, l, m, hl => by
    have e : F9.ari op = 2 := by unfold F9.ari; rw [if_pos ⟨h.1, h.2.1⟩]
    rw [F9.Tr.post, List.append_assoc, List.append_assoc]
    refine okP_post a h.2.2.1 _ _ (okP_post b h.2.2.2 _ _ ?_)
    refine ⟨by show F9.ari op ≤ _; rw [e]; omega, ?_⟩
    show okP l (m + 1 + 1 - F9.ari op + 1)
    rw [e]
    exact hl
theorem po1_len (L : List (List F9.Nd)) (x : F9.Nd) : (F9.po1 L x).flatten.length = L.flatten.length + 1 := by
  unfold F9.po1
  have e : L.flatten = (L.take (L.length - F9.ari x.op)).flatten ++ (L.drop (L.length - F9.ari x.op)).flatten := by
    rw [← List.flatten_append, List.take_append_drop]
  rw [List.flatten_append, List.length_append]
  conv => rhs; rw [e]
  rw [List.length_append]
  simp
  omega
theorem po1_cnt (L : List (List F9.Nd)) (x : F9.Nd) : (F9.po1 L x).length = L.length - F9.ari x.op + 1 := by
  unfold F9.po1
  rw [List.length_append, List.length_take]
  simp
/-- Nodes of a tree. -/
theorem post_op : ∀ (t : F9.Tr), t.wf → ∀ x ∈ t.post, 1 ≤ x.op ∧ x.op ≤ 10
  | .leaf x, h, y, hy => by
    obtain rfl := List.mem_singleton.1 hy
    rcases h with h | h | h
    · omega
    · omega
    · omega
  | .hat k a, h, y, hy => by
    rcases List.mem_append.1 hy with hy | hy
    · exact post_op a h.2.2 y hy
    · obtain rfl := List.mem_singleton.1 hy
      exact ⟨by show 1 ≤ 10; decide, by show 10 ≤ 10; decide⟩
  | .bin op a b, h, y, hy => by
    rcases List.mem_append.1 hy with hy | hy
    · rcases List.mem_append.1 hy with hy | hy
      · exact post_op a h.2.2.1 y hy
      · exact post_op b h.2.2.2 y hy
    · obtain rfl := List.mem_singleton.1 hy
      have h1 := h.1
      have h2 := h.2.1
      exact ⟨by show 1 ≤ op; omega, by show op ≤ 10; omega⟩
theorem ari_eq {q : Nat} (h1 : 1 ≤ q) (h2 : q ≤ 10) : ariB (q : Int) = (F9.ari q : Nat) := by
  have hc : q = 1 ∨ q = 2 ∨ q = 3 ∨ q = 4 ∨ q = 5 ∨ q = 6 ∨ q = 7 ∨ q = 8 ∨ q = 9 ∨ q = 10 := by omega
  rcases hc with rfl | rfl | rfl | rfl | rfl | rfl | rfl | rfl | rfl | rfl <;> rfl
section
variable {α : Type} {C : Cod α} {w W W' : World} {bs ob : List GBk} {rs : List GRd} {e : Nat} {v : Value} {L : List α}
theorem Gro.one {g : Nat} {y : α} (S : St w W ((g, (C.cs y).toArray, e) :: bs) rs) (hy : C.In w bs rs y) : Gro C w W bs rs e (.slice (some ⟨g, 0, none⟩) 1 1) [y] := by
  refine ⟨⟨by rw [all_one, C.len]; simp, all_noL C _, .inr ⟨g, 1, (C.cs y).toArray, rfl, Nat.le_refl _, by decide, by simp [C.len], ?_, S⟩⟩, fun x hx => by rw [List.mem_singleton.1 hx]; exact hy⟩
  rw [all_one]
  show (C.cs y).take (1 * C.sz) = C.cs y
  exact List.take_of_length_le (by rw [C.len]; omega)
theorem Gro.cut {A : Option Addr} {n c m : Nat} (h : Gro C w W bs rs e (.slice A n c) L) (hn : L.length = n) (hm : m ≤ n) : Gro C w W bs rs e (.slice A m c) (L.take m) := by
  subst hn
  have hl : (L.take m).length = m := by rw [List.length_take]; omega
  obtain ⟨⟨h1, h2, h3⟩, h4⟩ := h
  refine ⟨⟨all_len C _, all_noL C _, ?_⟩, fun x hx => h4 x (List.mem_of_mem_take hx)⟩
  rw [hl]
  rcases h3 with ⟨hv, h0, S⟩ | ⟨g, cap, cur, hv, hle, hcap, hcs, htk, S⟩
  · injection hv with hA hn0 hc
    exact .inl ⟨by rw [hA, hc, show m = 0 by omega], by omega, S⟩
  · injection hv with hA _ hc
    refine .inr ⟨g, cap, cur, by rw [hA, hc], by omega, hcap, hcs, ?_, S⟩
    have := all_take C L m
    rw [← htk, List.take_take] at this
    rw [← this]
    congr 1
    have := Nat.mul_le_mul_right C.sz hm
    omega
theorem Gro.join {bs' : List GBk} (h : Gro C w W bs [] e v L) (S : St W W' bs' []) : Gro C w W' (bs ++ bs') [] e v L := by
  obtain ⟨ob, h1, h2⟩ := h.1.open_
  refine ⟨Apd.close h1 ?_, fun x hx => C.mono (h.2 x hx) (fun p hp => List.mem_append_left _ hp) (fun p hp => hp)⟩
  have h3 := h2.join S
  refine h3.prm ?_
  rw [List.append_assoc, List.append_assoc]
  exact List.Perm.append_left bs List.perm_append_comm
theorem Gro.lenc {A : Option Addr} {n c : Nat} (h : Gro C w W bs rs e (.slice A n c) L) : LR C W A n L ∧ n ≤ c ∧ L.length = n := by
  obtain ⟨A1, c1, hv, hl⟩ := h.lr
  injection hv with h1 h2 h3
  subst h1 h2 h3
  refine ⟨hl, ?_, rfl⟩
  obtain ⟨⟨_, _, ⟨hv, h0, _⟩ | ⟨g, cap, cur, hv, hle, _⟩⟩, _⟩ := h
  · omega
  · injection hv with _ _ h5; omega
end
theorem OBn.li {w : World} {bs ob : List GBk} {rs : List GRd} {l : Sl Nd} (h : OBn ob l) (hm : ∀ p ∈ ob, p ∈ bs) : LI ndC w bs rs l.A l.L.length l.L := by
  obtain ⟨h1, h2, ⟨hv, h3, rfl⟩ | ⟨g, cap, cur, hv, h3, h4, h5, h6, rfl⟩⟩ := h
  · exact ⟨rfl, .inl h3, fun x _ => nd_in x⟩
  · injection hv with hA _ _
    refine ⟨rfl, .inr (.inr ⟨g, cur, _, hA, hm _ List.mem_cons_self, fun j u hu => ?_⟩), fun x _ => nd_in x⟩
    rw [← h6, List.getElem?_take] at hu
    split at hu
    · simpa using hu
    · cases hu
theorem OBn.cap {ob : List GBk} {l : Sl Nd} (h : OBn ob l) : l.L.length ≤ l.c := by
  obtain ⟨h1, h2, ⟨hv, h3, rfl⟩ | ⟨g, cap, cur, hv, h3, h4, h5, h6, rfl⟩⟩ := h
  · omega
  · injection hv with _ _ hc; omega

end Go.Proofs.YthbkdjbmkhmlnaaDoor
namespace Go.Proofs.YthbkdjbmkhmlnaaDoor
open Go.RowKit
set_option linter.unusedVariables false

set_option maxRecDepth 100000 in
set_option maxHeartbeats 4000000 in
theorem oper_any (x : Nd) (Ls : List (Sl Nd)) (A : Option Addr) (n c : Nat) (w : World) (h : LR (slC ndC) w A n Ls) (hn : n ≤ 100) (hb : ((Ls.map (fun l => l.L)).flatten).length ≤ 200000) : Calls Tryd.prog 80 #[.agg #[.int .i64 x.o, .string x.s, .int .i64 x.k], .slice A n c] w fun e w' => ∃ (l : Sl Nd) (ob : List GBk), e = .returned l.v ∧ l.L = x :: (Ls.map (fun l => l.L)).flatten ∧ OBn ob l ∧ St w w' ob [] := by
  have hfull : Hid (ncatL Ls n = (Ls.map (fun l => l.L)).flatten) := Lib.hid (by unfold ncatL; rw [List.take_of_length_le (by rw [h.len]; exact Nat.le_refl _)])
  have hle := Lib.hid (ncat_le Ls)
  have S0 := (St.new w).alloc #[.int .i64 x.o, .string x.s, .int .i64 x.k] 39 (noLof rfl)
  obtain ⟨T, hT⟩ : ∃ T, T = (Ls.map (fun l => l.L)).flatten := ⟨_, rfl⟩
  rw [← hT] at hfull hb ⊢
  rw [← hT] at hle
  replace hT := Lib.hid hT
  replace h := Lib.hid h
  have hbb := Lib.hid hb
  replace hn := Lib.hid hn
  obtain ⟨bx, hbx⟩ : ∃ b, b = w.heap.size := ⟨_, rfl⟩
  obtain ⟨W1, hW1⟩ : ∃ V, V = w.alloc (.cells #[.int .i64 x.o, .string x.s, .int .i64 x.k] 39) := ⟨_, rfl⟩
  rw [← hW1, ← hbx] at S0
  replace S0 := Lib.hid S0
  clear hb
  go_enter Tryd.func80, Tryd.ntmps80
  go_upto_region 1 with fail
  rw [← hW1, ← hbx]
  clear hW1 hbx
  have b0 := S0.out.cl 0 0 rfl rfl
  have b1 := S0.out.cl 0 1 rfl rfl
  have b2 := S0.out.cl 0 2 rfl rfl
  have bl := S0.out.lt 0 rfl
  have G0 := Lib.hid (((Gro.one (C := ndC) (y := x) (S0.out.alloc (ndC.cs x).toArray 39 (all_one ndC x ▸ all_noL ndC [x]).arr) (nd_in x)).sub (fun _ _ => nd_in _)))
  clear S0
  go_wp2
  clear b0 b1 b2 bl
  go_loopw [5, 6] (fun av iv wr => ∃ i : Nat, i ≤ n ∧ iv = .int .i64 i ∧ Gro ndC w wr [] [] 39 av (x :: ncatL Ls i)) (fun _ iv _ => n - (intOf iv).toNat)
  case atStart => exact ⟨0, Nat.zero_le _, rfl, G0.out⟩
  case round =>
    clear G0
    obtain ⟨i, hin, rfl, G⟩ := hrel
    by_cases hlt : i < n
    · have hW := h.out.bel G.st.bel
      obtain ⟨b, o, y, rfl, hx, _, hat, hcs⟩ := hW.get hlt
      have e0 : wr.cell? ⟨b, o + i, none⟩ = some (.slice y.A y.L.length y.c) := by
        have := hcs 0 _ rfl
        rwa [show o + i * (slC ndC).sz + 0 = o + i by show o + i * 1 + 0 = o + i; omega] at this
      have hsu := ncat_succ hx
      have hs6 : Hid ((x :: ncatL Ls i).length + y.L.length ≤ 200001) := Lib.hid (by
        have h1 := hle.out (i + 1)
        rw [hsu, List.length_append] at h1
        have := hbb.out
        rw [List.length_cons]
        omega)
      have hat1 := Lib.hid hat.1
      replace hsu := Lib.hid hsu
      have g1 : (i : Int) < (n : Int) := by omega
      have g2 : (0 : Int) ≤ (i : Int) := by omega
      have hih := Lib.hid hlt
      have hbn := hn.out
      replace G := Lib.hid G
      clear hcs hat hx hin hlt hW
      go_wp2_with (at_builtin; refine Gro.wpm rfl (.tmp 15) (.tmp 19) 22 rfl (.agg #[.int .i64 0, .string ⟨#[]⟩, .int .i64 0]) 32 Tryd.underlying22 (by kernel_rfl) rfl (fun v hv z e => by simp [Value.cells] at hv; subst e; simp at hv) rfl G.out y.L y.A y.c rfl hat1.out (fun y _ => nd_in y) (by have := hs6.out; omega) (by have := hs6.out; unfold maxLen; omega) ?_)
      intro av1 w6 G2
      rw [← hsu.out] at G2
      replace G2 := Lib.hid G2
      clear G hat1 hs6 hsu e0
      have hlt := hih.out
      go_wp2
      go_roundw
      case rel => exact ⟨i + 1, by omega, by go_num, G2.out⟩
      case measure => simp [intOf]; omega
    · obtain rfl : n = i := by omega
      have hf := hfull.out
      rw [hf] at G
      obtain ⟨l, ob, hv, hL, hO, S⟩ := G.opn
      subst hv
      replace S := Lib.hid S
      replace hL := Lib.hid hL
      replace hO := Lib.hid hO
      have g1 : ¬ (n : Int) < (n : Int) := by omega
      clear hin hlt hf G
      go_wp2
      go_ret
      exact ⟨l, rfl, hL.out, ob, hO.out, S.out⟩

/-- The operation of a sign, if it is one of this level. -/
def levV (b k : Nat) : Nat :=
  if k = 1 then (if b = 43 then 5 else if b = 45 then 6 else 0)
  else if k = 2 then (if b = 42 then 8 else if b = 47 then 9 else 0)
  else if k = 3 then (if b = 58 then 7 else 0) else 0
theorem lev_is (r : F9.Bs) {k : Nat} (h1 : 1 ≤ k) (h3 : k ≤ 3) : levV (hdN r) k = match F9.bop r with
    | some op => if F9.rul op = k then op else 0
    | none => 0 := by
  rw [lev_bop]
  generalize hdN r = b
  unfold levV
  have hc : k = 1 ∨ k = 2 ∨ k = 3 := by omega
  by_cases a1 : b = 43
  · subst a1; rcases hc with rfl | rfl | rfl <;> rfl
  by_cases a2 : b = 45
  · subst a2; rcases hc with rfl | rfl | rfl <;> rfl
  by_cases a3 : b = 58
  · subst a3; rcases hc with rfl | rfl | rfl <;> rfl
  by_cases a4 : b = 42
  · subst a4; rcases hc with rfl | rfl | rfl <;> rfl
  by_cases a5 : b = 47
  · subst a5; rcases hc with rfl | rfl | rfl <;> rfl
  rw [if_neg a1, if_neg a2, if_neg a3, if_neg a4, if_neg a5]
  simp [a1, a2, a3, a4, a5]
set_option maxRecDepth 100000 in
set_option maxHeartbeats 4000000 in
theorem level_any (b k : Nat) (hk : 1 ≤ k ∧ k ≤ 3) (w : World) : Calls Tryd.prog 79 #[.int .u8 b, .int .i64 k] w fun e w' => e = .returned (.int .i64 (levV b k : Nat)) ∧ w' = w := by
  have hc : k = 1 ∨ k = 2 ∨ k = 3 := by omega
  clear hk
  unfold levV
  rcases hc with rfl | rfl | rfl
  · simp only [if_true]
    by_cases a1 : b = 43
    · subst a1
      rw [if_pos rfl]
      go_enter Tryd.func79, Tryd.ntmps79
      go_wp2
      go_ret
      exact ⟨rfl, rfl⟩
    · rw [if_neg a1]
      have g1 : ((b : Int) == 43) = false := by rw [beq_eq_false_iff_ne]; omega
      have g2 : ¬ (b : Int) = 43 := by omega
      by_cases a2 : b = 45
      · subst a2
        rw [if_pos rfl]
        clear g1 g2 a1
        go_enter Tryd.func79, Tryd.ntmps79
        go_wp2
        go_ret
        exact ⟨rfl, rfl⟩
      · rw [if_neg a2]
        have g3 : ((b : Int) == 45) = false := by rw [beq_eq_false_iff_ne]; omega
        have g4 : ¬ (b : Int) = 45 := by omega
        clear a1 a2
        go_enter Tryd.func79, Tryd.ntmps79
        go_wp2
        go_ret
        exact ⟨rfl, rfl⟩
  · simp only [show ((2 : Nat) = 1) = False by simp, if_true, if_false]
    by_cases a1 : b = 42
    · subst a1
      rw [if_pos rfl]
      go_enter Tryd.func79, Tryd.ntmps79
      go_wp2
      go_ret
      exact ⟨rfl, rfl⟩
    · rw [if_neg a1]
      have g1 : ((b : Int) == 42) = false := by rw [beq_eq_false_iff_ne]; omega
      have g2 : ¬ (b : Int) = 42 := by omega
      by_cases a2 : b = 47
      · subst a2
        rw [if_pos rfl]
        clear g1 g2 a1
        go_enter Tryd.func79, Tryd.ntmps79
        go_wp2
        go_ret
        exact ⟨rfl, rfl⟩
      · rw [if_neg a2]
        have g3 : ((b : Int) == 47) = false := by rw [beq_eq_false_iff_ne]; omega
        have g4 : ¬ (b : Int) = 47 := by omega
        clear a1 a2
        go_enter Tryd.func79, Tryd.ntmps79
        go_wp2
        go_ret
        exact ⟨rfl, rfl⟩
  · simp only [show ((3 : Nat) = 1) = False by simp, show ((3 : Nat) = 2) = False by simp, if_true, if_false]
    by_cases a1 : b = 58
    · subst a1
      rw [if_pos rfl]
      go_enter Tryd.func79, Tryd.ntmps79
      go_wp2
      go_ret
      exact ⟨rfl, rfl⟩
    · rw [if_neg a1]
      have g1 : ((b : Int) == 58) = false := by rw [beq_eq_false_iff_ne]; omega
      have g2 : ¬ (b : Int) = 58 := by omega
      clear a1
      go_enter Tryd.func79, Tryd.ntmps79
      go_wp2
      go_ret
      exact ⟨rfl, rfl⟩
end Go.Proofs.YthbkdjbmkhmlnaaDoor
namespace Go.Proofs.YthbkdjbmkhmlnaaDoor
open Go.RowKit
set_option linter.unusedVariables false

theorem permZ {α : Type} (p q : α) (B : List α) : (q :: p :: B).Perm (p :: (B ++ [q])) := (List.Perm.swap p q B).trans (List.Perm.cons p (List.perm_append_comm (l₁ := [q])))
theorem OBn.one (g : Nat) (y : Nd) : OBn [(g, (ndC.cs y).toArray, 39)] ⟨some ⟨g, 0, none⟩, 1, [y]⟩ := by
  refine ⟨rfl, all_noL ndC _, .inr ⟨g, 1, (ndC.cs y).toArray, rfl, Nat.le_refl _, by decide, by simp [ndC.len, nd_sz], ?_, rfl⟩⟩
  rw [all_one]
  show (ndC.cs y).take (1 * 3) = ndC.cs y
  rfl
/-- What a reading of the reference gives: a list of nodes of its own. -/
def ROk (w0 w' : World) (rb : Nat) (t : ByteArray) (e : Ending) (bs : List GBk) (L : List Nd) (r' : F9.Bs) : Prop := ∃ (l : Sl Nd) (ob : List GBk), e = .returned l.v ∧ l.L = L ∧ OBn ob l ∧ RA w0 w' rb t r' (bs ++ ob)
def RBad (w0 w' : World) (rb : Nat) (t : ByteArray) (e : Ending) (bs : List GBk) (m : Nat) (er : Int) (pl : Nat) : Prop := ∃ (l : Sl Nd) (ob : List GBk), e = .returned l.v ∧ l.L.length ≤ m ∧ OBn ob l ∧ RD w0 w' rb t er pl 1 (bs ++ ob)
def Res (w0 w' : World) (rb : Nat) (t : ByteArray) (e : Ending) (bs : List GBk) (m : Nat) (X : F9.Rs (F9.Tr × F9.Bs)) : Prop := match X with
  | .ok (a, r') => ROk w0 w' rb t e bs (a.pre.map toNd) r' ∧ a.pre.length + r'.length ≤ m
  | .error x => RBad w0 w' rb t e bs (m + 1) x.1 (t.size - x.2.length)
section
variable {w0 W : World} {rb : Nat} {t : ByteArray} {r : F9.Bs} {bs : List GBk} {er : Int} {pl k : Nat}
theorem RA.put (h : RA w0 W rb t r bs) (y : Nd) : RA w0 (W.alloc (.cells (ndC.cs y).toArray 39)) rb t r (bs ++ [(W.heap.size, (ndC.cs y).toArray, 39)]) := by
  obtain ⟨p, h1, h2, S⟩ := h
  exact ⟨p, h1, h2, (S.alloc _ _ (all_one ndC y ▸ all_noL ndC [y]).arr).prm (permZ _ _ _)⟩
theorem RD.put (h : RD w0 W rb t er pl k bs) (y : Nd) : RD w0 (W.alloc (.cells (ndC.cs y).toArray 39)) rb t er pl k (bs ++ [(W.heap.size, (ndC.cs y).toArray, 39)]) := by
  obtain ⟨he, p, h1, S⟩ := h
  exact ⟨he, p, h1, (S.alloc _ _ (all_one ndC y ▸ all_noL ndC [y]).arr).prm (permZ _ _ _)⟩
theorem RD.mono (h : RD w0 W rb t er pl k bs) {k' : Nat} (hk : k ≤ k') : RD w0 W rb t er pl k' bs := by
  obtain ⟨he, p, h1, S⟩ := h
  exact ⟨he, p, by omega, S⟩
theorem RA.call (h : RA w0 W rb t r bs) {W' : World} (hb : Below W.heap.size W W') : RA w0 W' rb t r bs := by
  obtain ⟨p, h1, h2, S⟩ := h
  exact ⟨p, h1, h2, S.call hb⟩
theorem RD.call (h : RD w0 W rb t er pl k bs) {W' : World} (hb : Below W.heap.size W W') : RD w0 W' rb t er pl k bs := by
  obtain ⟨he, p, h1, S⟩ := h
  exact ⟨he, p, h1, S.call hb⟩
theorem RA.bel (h : RA w0 W rb t r bs) : Below w0.heap.size w0 W := by
  obtain ⟨p, h1, h2, S⟩ := h
  exact S.bel
/-- Behind a look at the next sign: the place is that of the sign. -/
def RP (w0 W : World) (rb : Nat) (t : ByteArray) (r : F9.Bs) (p : Nat) (bs : List GBk) : Prop := p ≤ t.size ∧ t.data.toList.drop p = r ∧ F9.trm r = r ∧ St w0 W ((rb, r9C t p 0 0, 77) :: bs) []
theorem RP.ra {p : Nat} (h : RP w0 W rb t r p bs) : RA w0 W rb t r bs := ⟨p, h.1, by rw [h.2.1, h.2.2.1], h.2.2.2⟩
theorem RA.digitP (h : RA w0 W rb t r bs) (ht : t.size ≤ 100000) : Calls Tryd.prog 109 #[.pointer (some ⟨rb, 0, none⟩)] W fun e w' => e = .returned (.int .i64 (dgN r)) ∧ ∃ p, RP w0 w' rb t r p bs := by
  obtain ⟨p, hp, hq, hd, hr, S⟩ := h.st ht
  refine (digit_any t p 0 0 rb bs [] w0 W S ht hp).mono ?_
  rintro e w' ⟨rfl, S'⟩
  exact ⟨by rw [dg_is hd], _, hq, hd, hr, S'⟩
theorem RA.wordP (h : RA w0 W rb t r bs) (ht : t.size ≤ 100000) {x : F9.Bs} (hx : ∃ c s, x = c :: s ∧ letB c = true) (hf : F9.fw r = x) : Calls Tryd.prog 76 #[.pointer (some ⟨rb, 0, none⟩)] W fun e w' => e = .returned (.string ⟨x.toArray⟩) ∧ ∃ p, RP w0 w' rb t r p bs := by
  obtain ⟨p, hp, hq, hd, hr, S⟩ := h.st ht
  refine (word_any t p 0 0 rb bs [] w0 W S ht hp).mono ?_
  rintro e w' ⟨rfl, S'⟩
  exact ⟨by rw [(wd_is hd hx).2 hf], _, hq, hd, hr, S'⟩
/-- The place goes on by some bytes. -/
theorem RP.on {p n : Nat} (h : RP w0 W rb t r p bs) (hn : (F9.fw r).length = n) (h0 : 0 < n) : RA w0 (W.setCell ⟨rb, 1, none⟩ (.int .i64 ((p + n : Nat) : Int))) rb t (F9.nx r) bs ∧ W.frozen? ⟨rb, 1, none⟩ = false ∧ rb < W.heap.size ∧ W.cell? ⟨rb, 1, none⟩ = some (.int .i64 p) := by
  obtain ⟨h1, h2, h3, S⟩ := h
  have hl := (drop_len2 h2 h1).2
  have hf := fw_len r
  exact ⟨⟨p + n, by omega, nx_one h2 hn, S.set 0 1 (.int .i64 ((p + n : Nat) : Int)) rfl (fun _ => by simp)⟩, S.f 0 1 rfl, S.lt 0 rfl, S.cl 0 1 rfl rfl⟩
end
theorem dg0 {r : F9.Bs} : dgN r = 0 ↔ F9.fw r = [48] := by
  unfold dgN
  split
  · rename_i d hd
    rw [hd]
    split
    · rename_i h
      have hd2 : 48 ≤ d.toNat ∧ d.toNat ≤ 57 := by unfold digB at h; simpa using h
      constructor
      · intro e; have : d.toNat = (48 : UInt8).toNat := by show d.toNat = 48; omega
        rw [UInt8.toNat_inj.1 this]
      · intro e; injection e with e _; subst e; rfl
    · rename_i h
      constructor
      · intro e; cases e
      · intro e; injection e with e _; subst e; exact absurd rfl h
  · rename_i hn
    constructor
    · intro e; cases e
    · intro e; exact absurd e (hn 48)
theorem dg1 {r : F9.Bs} : dgN r = 1 ↔ F9.fw r = [49] := by
  unfold dgN
  split
  · rename_i d hd
    rw [hd]
    split
    · rename_i h
      have hd2 : 48 ≤ d.toNat ∧ d.toNat ≤ 57 := by unfold digB at h; simpa using h
      constructor
      · intro e; have : d.toNat = (49 : UInt8).toNat := by show d.toNat = 49; omega
        rw [UInt8.toNat_inj.1 this]
      · intro e; injection e with e _; subst e; rfl
    · rename_i h
      constructor
      · intro e; cases e
      · intro e; injection e with e _; subst e; exact absurd rfl h
  · rename_i hn
    constructor
    · intro e; cases e
    · intro e; exact absurd e (hn 49)
section
variable {w0 W : World} {rb : Nat} {t : ByteArray} {r : F9.Bs} {bs : List GBk} {er : Int} {pl k : Nat}
set_option maxRecDepth 100000 in
set_option maxHeartbeats 4000000 in
theorem RD.primary (h : RD w0 W rb t er pl 1 bs) (ht : t.size ≤ 100000) : Calls Tryd.prog 97 #[.pointer (some ⟨rb, 0, none⟩)] W fun e w' => RBad w0 w' rb t e bs 1 er pl := by
  replace ht := Lib.hid ht
  replace h := Lib.hid h
  go_enter Tryd.func97, Tryd.ntmps97
  go_wp2_with fail
  refine (h.out.take (c := 40) (by omega) ht.out ⟨rfl, rfl, by decide⟩).mono ?_
  rintro e w1 ⟨rfl, R1⟩
  replace R1 := Lib.hid R1
  clear h
  go_wp2_with fail
  refine (R1.out.digit (by omega) ht.out).mono ?_
  rintro e w2 ⟨rfl, R2⟩
  replace R2 := Lib.hid R2
  clear R1
  go_wp2_with fail
  refine (R2.out.word (by omega) ht.out).mono ?_
  rintro e w3 ⟨rfl, R3⟩
  replace R3 := Lib.hid R3
  clear R2
  go_wp2_with fail
  refine (R3.out.name (by omega) ht.out).mono ?_
  rintro e w4 ⟨rfl, R4⟩
  replace R4 := Lib.hid R4
  clear R3
  have RF := Lib.hid (R4.out.put ⟨1, ByteArray.empty, 0⟩)
  clear R4
  go_wp2
  go_ret
  exact ⟨⟨some ⟨w4.heap.size, 0, none⟩, 1, [⟨1, ByteArray.empty, 0⟩]⟩, [(w4.heap.size, (ndC.cs ⟨1, ByteArray.empty, 0⟩).toArray, 39)], rfl, Nat.le_refl _, OBn.one _ _, RF.out⟩

end
end Go.Proofs.YthbkdjbmkhmlnaaDoor
namespace Go.Proofs.YthbkdjbmkhmlnaaDoor
open Go.RowKit
set_option linter.unusedVariables false

section
variable {w0 W : World} {rb : Nat} {t : ByteArray} {r : F9.Bs} {bs : List GBk} {er : Int} {pl k : Nat}
set_option maxRecDepth 100000 in
set_option maxHeartbeats 4000000 in
theorem RD.raised (h : RD w0 W rb t er pl 1 bs) (ht : t.size ≤ 100000) : Calls Tryd.prog 78 #[.pointer (some ⟨rb, 0, none⟩)] W fun e w' => RBad w0 w' rb t e bs 1 er pl := by
  replace ht := Lib.hid ht
  replace h := Lib.hid h
  go_enter Tryd.func78, Tryd.ntmps78
  go_wp2_with fail
  refine (h.out.primary ht.out).mono ?_
  rintro e w1 ⟨l, ob, rfl, hl, hO, R⟩
  have hv : l.v = .slice l.A l.L.length l.c := rfl
  rw [hv]
  replace hl := Lib.hid hl
  replace hO := Lib.hid hO
  replace R := Lib.hid R
  clear h hv
  go_wp2
  go_loopg [3] 0 (fun k v wr => v = .slice l.A l.L.length l.c ∧ RD w0 wr rb t er pl 1 (bs ++ ob))
  case atStart => exact ⟨rfl, R.out⟩
  case round =>
    clear R
    obtain ⟨rfl, R⟩ := hrel
    replace R := Lib.hid R
    go_wp2_with fail
    refine (R.out.take (c := 94) (by omega) ht.out ⟨rfl, rfl, by decide⟩).mono ?_
    rintro e w2 ⟨rfl, R2⟩
    replace R2 := Lib.hid R2
    clear R
    go_wp2
    go_ret
    exact ⟨l, ob, rfl, hl.out, hO.out, R2.out⟩

set_option maxRecDepth 100000 in
set_option maxHeartbeats 4000000 in
theorem RD.bin4 (h : RD w0 W rb t er pl 1 bs) (ht : t.size ≤ 100000) : Calls Tryd.prog 47 #[.pointer (some ⟨rb, 0, none⟩), .int .i64 4] W fun e w' => RBad w0 w' rb t e bs 1 er pl := by
  replace ht := Lib.hid ht
  replace h := Lib.hid h
  go_enter Tryd.func47, Tryd.ntmps47
  go_wp2_with fail
  refine (h.out.raised ht.out).mono ?_
  rintro e w1 ⟨l, ob, rfl, hl, hO, R⟩
  have hv : l.v = .slice l.A l.L.length l.c := rfl
  rw [hv]
  replace hl := Lib.hid hl
  replace hO := Lib.hid hO
  replace R := Lib.hid R
  clear h hv
  go_wp2
  go_ret
  exact ⟨l, ob, rfl, hl.out, hO.out, R.out⟩

set_option maxRecDepth 100000 in
set_option maxHeartbeats 4000000 in
theorem RD.binS (j j1 : Nat) (hj1 : j1 = j + 1) (hj : 1 ≤ j ∧ j ≤ 3) (ht : t.size ≤ 100000) (ih : ∀ V bs, RD w0 V rb t er pl 1 bs → Calls Tryd.prog 47 #[.pointer (some ⟨rb, 0, none⟩), .int .i64 (j1 : Int)] V fun e w' => RBad w0 w' rb t e bs 1 er pl) (h : RD w0 W rb t er pl 1 bs) : Calls Tryd.prog 47 #[.pointer (some ⟨rb, 0, none⟩), .int .i64 j] W fun e w' => RBad w0 w' rb t e bs 1 er pl := by
  replace ht := Lib.hid ht
  replace h := Lib.hid h
  replace ih := Lib.hid ih
  have hL := Lib.hid (fun V => level_any 0 j hj V)
  have h0 : levV 0 j = 0 := by
    unfold levV
    have hc : j = 1 ∨ j = 2 ∨ j = 3 := by omega
    rcases hc with rfl | rfl | rfl <;> rfl
  rw [h0] at hL
  have g1 : (j : Int) + 1 = (j1 : Int) := by omega
  have g2 : ¬ (j : Int) = 4 := by omega
  have g3 : ((j : Int) == 4) = false := by rw [beq_eq_false_iff_ne]; omega
  have g4 : j1 ≤ 4 := by omega
  clear h0 hj hj1
  go_enter Tryd.func47, Tryd.ntmps47
  go_wp2_with fail
  refine (ih.out _ _ h.out).mono ?_
  rintro e w1 ⟨l, ob, rfl, hl, hO, R⟩
  have hv : l.v = .slice l.A l.L.length l.c := rfl
  rw [hv]
  replace hl := Lib.hid hl
  replace hO := Lib.hid hO
  replace R := Lib.hid R
  clear h hv ih
  go_wp2_with fail
  refine (R.out.sign (by omega) ht.out).mono ?_
  rintro e w2 ⟨rfl, R2⟩
  replace R2 := Lib.hid R2
  clear R
  go_wp2_with fail
  refine (hL.out _).mono ?_
  rintro e w3 ⟨rfl, rfl⟩
  go_wp2
  go_loopg [5, 6] 0 (fun k v o wr => v = .slice l.A l.L.length l.c ∧ o = .int .i64 0 ∧ RD w0 wr rb t er pl 1 (bs ++ ob))
  case atStart => exact ⟨rfl, rfl, R2.out⟩
  case round =>
    clear R2
    obtain ⟨rfl, rfl, R⟩ := hrel
    replace R := Lib.hid R
    go_wp2
    go_ret
    exact ⟨l, ob, rfl, hl.out, hO.out, R.out⟩

theorem RD.binary (ht : t.size ≤ 100000) {j : Nat} (h1 : 1 ≤ j) (h4 : j ≤ 4) (h : RD w0 W rb t er pl 1 bs) : Calls Tryd.prog 47 #[.pointer (some ⟨rb, 0, none⟩), .int .i64 j] W fun e w' => RBad w0 w' rb t e bs 1 er pl := by
  have q4 : ∀ V bs, RD w0 V rb t er pl 1 bs → Calls Tryd.prog 47 #[.pointer (some ⟨rb, 0, none⟩), .int .i64 ((4 : Nat) : Int)] V fun e w' => RBad w0 w' rb t e bs 1 er pl := fun V bs h => h.bin4 ht
  have q3 := fun V bs (h : RD w0 V rb t er pl 1 bs) => RD.binS 3 4 rfl (by omega) ht q4 h
  have q2 := fun V bs (h : RD w0 V rb t er pl 1 bs) => RD.binS 2 3 rfl (by omega) ht q3 h
  have q1 := fun V bs (h : RD w0 V rb t er pl 1 bs) => RD.binS 1 2 rfl (by omega) ht q2 h
  have hc : j = 1 ∨ j = 2 ∨ j = 3 ∨ j = 4 := by omega
  rcases hc with rfl | rfl | rfl | rfl
  · exact q1 W bs h
  · exact q2 W bs h
  · exact q3 W bs h
  · exact q4 W bs h
end
end Go.Proofs.YthbkdjbmkhmlnaaDoor
