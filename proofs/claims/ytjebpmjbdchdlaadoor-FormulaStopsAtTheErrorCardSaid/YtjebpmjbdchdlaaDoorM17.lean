/- The reference's reader: exponent. -/
import Derived.Test.YtjebpmjbdchdlaaDoorM16
import Derived.Test.YtjebpmjbdchdlaaDoorM08
import Derived.Test.YtjebpmjbdchdlaaDoorM10
namespace Go.Proofs.YtjebpmjbdchdlaaDoor
open Go.RowKit
set_option linter.unusedVariables false

/-- What is wrong with a number of one digit: 3 that there is none, 1 that it is out of its range. -/
def exE (v lo hi : Int) : Int := if v < 0 then 3 else if v < lo ∨ hi < v then 1 else 0
def erX (er x : Int) : Int := if er = 0 then x else er
def plX (er x : Int) (q pl : Nat) : Nat := if er = 0 ∧ ¬ x = 0 then q else pl
theorem plX_ne {er x : Int} {q pl : Nat} (h : ¬ x = 0) : plX er x q pl = if er = 0 then q else pl := by
  unfold plX; simp [h]
theorem plX_0 {er : Int} {q pl : Nat} : plX er 0 q pl = pl := by unfold plX; simp
theorem erX_0 {er : Int} : erX er 0 = er := by unfold erX; split <;> simp_all

set_option maxRecDepth 100000 in
set_option maxHeartbeats 4000000 in
theorem exponent_any (t : ByteArray) (p : Nat) (er : Int) (pl : Nat) (rb : Nat) (bs : List GBk) (rs : List GRd) (w0 w : World) (S0 : St w0 w ((rb, r9C t p er pl, 40) :: bs) rs) (ht : t.size ≤ 100000) (hp : p ≤ 100100) (lo hi : Int) : Calls Tryd.prog 48 #[.pointer (some ⟨rb, 0, none⟩), .int .i64 lo, .int .i64 hi] w fun E w' => E = .returned (.int .i64 (dgV t (blN t p) er)) ∧ St w0 w' ((rb, r9C t (blN t p + 1) (erX er (exE (dgV t (blN t p) er) lo hi)) (plX er (exE (dgV t (blN t p) er) lo hi) (blN t p) pl), 40) :: bs) rs := by
  have hD : Hid (∀ W, St w0 W ((rb, r9C t p er pl, 40) :: bs) rs → Calls Tryd.prog 66 #[.pointer (some ⟨rb, 0, none⟩)] W fun E w' => E = .returned (.int .i64 (dgV t (blN t p) er)) ∧ St w0 w' ((rb, r9C t (blN t p) er pl, 40) :: bs) rs) := Lib.hid fun W hW => digit_any t p er pl rb bs rs w0 W hW ht hp
  have hF : Hid (∀ x : Int, ¬ x = 0 → ∀ W, St w0 W ((rb, r9C t (blN t p) er pl, 40) :: bs) rs → Calls Tryd.prog 15 #[.pointer (some ⟨rb, 0, none⟩), .int .i64 x] W fun E w' => E = .returned (.tuple #[]) ∧ St w0 w' ((rb, r9C t (blN t p) (erX er x) (plX er x (blN t p) pl), 40) :: bs) rs) := Lib.hid fun x hx W hW => by
    rw [plX_ne hx]; exact fail_any t (blN t p) er pl rb bs rs w0 W hW x
  have hbl := bl_le ht hp
  generalize dgV t (blN t p) er = v at *
  generalize blN t p = q at *
  have hq5 : q ≤ 100100 := by omega
  replace S0 := Lib.hid S0
  clear ht hp hbl
  by_cases h1 : v < 0
  · rw [show exE v lo hi = 3 by unfold exE; rw [if_pos h1]]
    have hF1 := Lib.hid (hF.out 3 (by decide))
    generalize erX er 3 = e2 at *
    generalize plX er 3 q pl = p2 at *
    clear hF
    go_enter Tryd.func48, Tryd.ntmps48
    go_wp2_with fail
    refine (hD.out _ S0.out).mono ?_
    rintro e w1 ⟨rfl, S⟩
    clear S0 hD
    replace S := Lib.hid S
    go_wp2_with fail
    refine (hF1.out _ S.out).mono ?_
    rintro e w2 ⟨rfl, S2⟩
    clear S hF1
    have S := S2
    clear S2
    have c_1 := S.cl 0 1 rfl rfl
    have f_1 := S.f 0 1 rfl
    have hlt0 := S.lt 0 rfl
    have S6 := Lib.hid (S.set 0 1 (.int .i64 ((q + 1 : Nat) : Int)) rfl (fun _ => by simp))
    replace S := Lib.hid S
    go_wp2
    go_ret
    exact ⟨rfl, S6.out⟩
  · by_cases h2 : v < lo
    · rw [show exE v lo hi = 1 by unfold exE; rw [if_neg h1, if_pos (.inl h2)]]
      have hF1 := Lib.hid (hF.out 1 (by decide))
      generalize erX er 1 = e2 at *
      generalize plX er 1 q pl = p2 at *
      clear hF
      go_enter Tryd.func48, Tryd.ntmps48
      go_wp2_with fail
      refine (hD.out _ S0.out).mono ?_
      rintro e w1 ⟨rfl, S⟩
      clear S0 hD
      replace S := Lib.hid S
      go_wp2_with fail
      refine (hF1.out _ S.out).mono ?_
      rintro e w2 ⟨rfl, S2⟩
      clear S hF1
      have S := S2
      clear S2
      have c_1 := S.cl 0 1 rfl rfl
      have f_1 := S.f 0 1 rfl
      have hlt0 := S.lt 0 rfl
      have S6 := Lib.hid (S.set 0 1 (.int .i64 ((q + 1 : Nat) : Int)) rfl (fun _ => by simp))
      replace S := Lib.hid S
      go_wp2
      go_ret
      exact ⟨rfl, S6.out⟩
    · by_cases h3 : hi < v
      · rw [show exE v lo hi = 1 by unfold exE; rw [if_neg h1, if_pos (.inr h3)]]
        have hF1 := Lib.hid (hF.out 1 (by decide))
        generalize erX er 1 = e2 at *
        generalize plX er 1 q pl = p2 at *
        clear hF
        go_enter Tryd.func48, Tryd.ntmps48
        go_wp2_with fail
        refine (hD.out _ S0.out).mono ?_
        rintro e w1 ⟨rfl, S⟩
        clear S0 hD
        replace S := Lib.hid S
        go_wp2_with fail
        refine (hF1.out _ S.out).mono ?_
        rintro e w2 ⟨rfl, S2⟩
        clear S hF1
        have S := S2
        clear S2
        have c_1 := S.cl 0 1 rfl rfl
        have f_1 := S.f 0 1 rfl
        have hlt0 := S.lt 0 rfl
        have S6 := Lib.hid (S.set 0 1 (.int .i64 ((q + 1 : Nat) : Int)) rfl (fun _ => by simp))
        replace S := Lib.hid S
        go_wp2
        go_ret
        exact ⟨rfl, S6.out⟩
      · rw [show exE v lo hi = 0 by unfold exE; rw [if_neg h1, if_neg (by omega)], erX_0, plX_0]
        clear hF
        go_enter Tryd.func48, Tryd.ntmps48
        go_wp2_with fail
        refine (hD.out _ S0.out).mono ?_
        rintro e w1 ⟨rfl, S⟩
        clear S0 hD
        have c_1 := S.cl 0 1 rfl rfl
        have f_1 := S.f 0 1 rfl
        have hlt0 := S.lt 0 rfl
        have S6 := Lib.hid (S.set 0 1 (.int .i64 ((q + 1 : Nat) : Int)) rfl (fun _ => by simp))
        replace S := Lib.hid S
        go_wp2
        go_ret
        exact ⟨rfl, S6.out⟩
end Go.Proofs.YtjebpmjbdchdlaaDoor
namespace Go.Proofs.YtjebpmjbdchdlaaDoor
open Go.RowKit
set_option linter.unusedVariables false

theorem bl_drop (t : ByteArray) (p : Nat) : t.data.toList.drop (blN t p) = F9.trm (t.data.toList.drop p) := by
  unfold blN F9.trm
  rw [← List.drop_drop]
  generalize t.data.toList.drop p = l
  induction l with
  | nil => rfl
  | cons c s ih =>
    rw [List.takeWhile_cons, List.dropWhile_cons]
    split
    · rw [List.length_cons, List.drop_succ_cons]; exact ih
    · rfl
theorem head_drop {α : Type} (l : List α) (q : Nat) : l[q]? = (l.drop q).head? := by rw [List.head?_drop]
/-- The first byte as a number. -/
def hdN (r : F9.Bs) : Nat := (r.head?.map (fun c => c.toNat)).getD 0
theorem sg_hd {t : ByteArray} {q : Nat} {r : F9.Bs} (h : t.data.toList.drop q = r) : sgV t q 0 = hdN r := by
  unfold sgV hdN
  rw [if_pos rfl, head_drop, h]
theorem fw_hd {c : UInt8} (h1 : letB c = false) (h2 : digB c = false) (r : F9.Bs) : F9.fw r = [c] ↔ r.head? = some c := by
  cases r with
  | nil => simp [F9.fw]
  | cons d s =>
    rw [F9.fw]
    split
    · rename_i h
      constructor
      · intro e; injection e with e _; subst e; rw [h1] at h; cases h
      · intro e; simp at e; subst e; rw [h1] at h; cases h
    · split
      · rename_i h
        constructor
        · intro e; injection e with e _; subst e; rw [h2] at h; cases h
        · intro e; simp at e; subst e; rw [h2] at h; cases h
      · simp
theorem hd_is {c : UInt8} (h0 : ¬ c.toNat = 0) (r : F9.Bs) : hdN r = c.toNat ↔ r.head? = some c := by
  unfold hdN
  cases r with
  | nil => simp; omega
  | cons d s =>
    simp only [List.head?_cons, Option.map_some, Option.getD_some, Option.some.injEq]
    exact ⟨fun e => UInt8.toNat_inj.1 e, fun e => by rw [e]⟩
theorem hd_lt (r : F9.Bs) : hdN r < 256 := by
  unfold hdN
  cases r with
  | nil => simp
  | cons d s => exact UInt8.toNat_lt d
/-- A sign that is neither a letter nor a digit. -/
def sgnC (c : UInt8) : Prop := letB c = false ∧ digB c = false ∧ ¬ c.toNat = 0
theorem sg_fw {t : ByteArray} {q : Nat} {r : F9.Bs} (h : t.data.toList.drop q = r) {c : UInt8} (hc : sgnC c) : sgV t q 0 = c.toNat ↔ F9.fw r = [c] := by
  rw [sg_hd h, hd_is hc.2.2, fw_hd hc.1 hc.2.1]
theorem nx_one {t : ByteArray} {q : Nat} {r : F9.Bs} (h : t.data.toList.drop q = r) {k : Nat} (hk : (F9.fw r).length = k) : F9.trm (t.data.toList.drop (q + k)) = F9.nx r := by
  unfold F9.nx
  rw [hk, ← h, List.drop_drop]
theorem drop_len2 {t : ByteArray} {q : Nat} {r : F9.Bs} (h : t.data.toList.drop q = r) (hq : q ≤ t.size) : q = t.size - r.length ∧ q + r.length = t.size := by
  rw [← h, List.length_drop, toList_len]; omega
theorem fw_pos' {r : F9.Bs} {x : F9.Bs} (h : F9.fw r = x) (hx : ¬ x = []) : ¬ r = [] := fun e => hx (by rw [← h, e]; rfl)
/-- A word of one digit. -/
def dgN (r : F9.Bs) : Int := match F9.fw r with
  | [d] => if digB d then (d.toNat : Int) - 48 else -1
  | _ => -1
theorem dg_is {t : ByteArray} {q : Nat} {r : F9.Bs} (h : t.data.toList.drop q = r) : dgV t q 0 = dgN r := by
  unfold dgV dgN
  rw [sg_hd h]
  have hn : nxD t (q + 1) = match r.drop 1 with | d :: _ => digB d | [] => false := by
    unfold nxD
    rw [head_drop, ← List.drop_drop, h]
    cases r.drop 1 <;> rfl
  rw [hn]
  clear hn h
  cases r with
  | nil => rfl
  | cons d s =>
    show (if 48 ≤ d.toNat ∧ d.toNat ≤ 57 ∧ (match s with | d :: _ => digB d | [] => false) = false then (d.toNat : Int) - 48 else -1) = _
    by_cases hd : digB d = true
    · have hl := F9.dig_let hd
      have hd2 : 48 ≤ d.toNat ∧ d.toNat ≤ 57 := by unfold digB at hd; simpa using hd
      have hf : F9.fw (d :: s) = d :: s.takeWhile digB := by rw [F9.fw, if_neg (by rw [hl]; simp), if_pos hd]
      rw [hf]
      cases s with
      | nil => simp [hd, hd2]
      | cons e s =>
        simp only [List.takeWhile_cons]
        by_cases he : digB e = true
        · simp [he]
        · simp [hd, hd2, he]
    · have hd2 : ¬ (48 ≤ d.toNat ∧ d.toNat ≤ 57) := by
        intro h; apply hd; unfold digB; simp [h]
      rw [if_neg (fun h => hd2 ⟨h.1, h.2.1⟩), F9.fw, if_neg hd]
      by_cases hl : letB d = true
      · rw [if_pos hl]
        split
        · rename_i d' e; injection e with e _; subst e; rw [if_neg hd]
        · rfl
      · rw [if_neg hl]
        simp [hd]
/-- A word that begins with a letter. -/
theorem wd_fw {t : ByteArray} {q : Nat} {r : F9.Bs} (h : t.data.toList.drop q = r) : (wdB t q 0).data.toList = if letB (r.head?.getD 0) then F9.fw r else [] := by
  unfold wdB sgC wdL
  rw [if_pos rfl, head_drop, h]
  cases r with
  | nil => simp; rfl
  | cons d s =>
    change (if letB d = true then (⟨((d :: s).takeWhile innB).toArray⟩ : ByteArray) else ByteArray.empty).data.toList = if letB d = true then F9.fw (d :: s) else []
    by_cases hl : letB d = true
    · rw [if_pos hl, if_pos hl, F9.fw, if_pos hl]
      show (d :: s).takeWhile innB = _
      rw [List.takeWhile_cons, if_pos (letB_inn hl)]
    · rw [if_neg hl, if_neg hl]; rfl
theorem wd_name {t : ByteArray} {q : Nat} {r : F9.Bs} (h : t.data.toList.drop q = r) : nameB (wdB t q 0) = nameL (F9.fw r) := by
  unfold nameB
  rw [wd_fw h]
  cases r with
  | nil => rfl
  | cons d s =>
    change nameL (if letB d = true then F9.fw (d :: s) else []) = _
    by_cases hl : letB d = true
    · rw [if_pos hl]
    · rw [if_neg hl, F9.fw, if_neg hl]
      split
      · simp [nameL, hl]
      · simp [nameL, hl]
theorem wd_is {t : ByteArray} {q : Nat} {r : F9.Bs} (h : t.data.toList.drop q = r) {x : F9.Bs} (hx : ∃ c s, x = c :: s ∧ letB c = true) : wdB t q 0 = ⟨x.toArray⟩ ↔ F9.fw r = x := by
  have e := wd_fw h
  obtain ⟨c, s, rfl, hc⟩ := hx
  constructor
  · intro h2
    rw [h2] at e
    split at e
    · rw [← e]
    · simp at e
  · intro h2
    have hd : letB (r.head?.getD 0) = true := by
      cases r with
      | nil => simp [F9.fw] at h2
      | cons d s' =>
        have : d = c := by
          rw [F9.fw] at h2
          split at h2
          · injection h2
          · split at h2
            · injection h2
            · injection h2
        simp [this, hc]
    rw [if_pos hd, h2] at e
    apply ByteArray.ext; apply Array.ext'
    rw [e]
theorem lev_bop (r : F9.Bs) : F9.bop r = if hdN r = 43 then some 5 else if hdN r = 45 then some 6 else if hdN r = 58 then some 7 else if hdN r = 42 then some 8 else if hdN r = 47 then some 9 else none := by
  have e : ∀ c : UInt8, sgnC c → (F9.fw r = [c] ↔ hdN r = c.toNat) := fun c hc => by rw [hd_is hc.2.2, fw_hd hc.1 hc.2.1]
  have e1 := e 43 ⟨rfl, rfl, by decide⟩
  have e2 := e 45 ⟨rfl, rfl, by decide⟩
  have e3 := e 58 ⟨rfl, rfl, by decide⟩
  have e4 := e 42 ⟨rfl, rfl, by decide⟩
  have e5 := e 47 ⟨rfl, rfl, by decide⟩
  have t1 : (43 : UInt8).toNat = 43 := rfl
  have t2 : (45 : UInt8).toNat = 45 := rfl
  have t3 : (58 : UInt8).toNat = 58 := rfl
  have t4 : (42 : UInt8).toNat = 42 := rfl
  have t5 : (47 : UInt8).toNat = 47 := rfl
  rw [t1] at e1; rw [t2] at e2; rw [t3] at e3; rw [t4] at e4; rw [t5] at e5
  simp only [← e1, ← e2, ← e3, ← e4, ← e5]
  clear e1 e2 e3 e4 e5
  unfold F9.bop
  by_cases a1 : F9.fw r = [43]
  · simp [a1]
  by_cases a2 : F9.fw r = [45]
  · simp [a2]
  by_cases a3 : F9.fw r = [58]
  · simp [a3]
  by_cases a4 : F9.fw r = [42]
  · simp [a4]
  by_cases a5 : F9.fw r = [47]
  · simp [a5]
  rw [if_neg a1, if_neg a2, if_neg a3, if_neg a4, if_neg a5]
  split <;> simp_all
/-- The reference's reader where nothing is wrong: what is left; behind an error. -/
def RA (w0 W : World) (rb : Nat) (t : ByteArray) (r : F9.Bs) (bs : List GBk) : Prop :=
  ∃ p, p ≤ t.size ∧ F9.trm (t.data.toList.drop p) = r ∧ St w0 W ((rb, r9C t p 0 0, 40) :: bs) []
def RD (w0 W : World) (rb : Nat) (t : ByteArray) (er : Int) (pl k : Nat) (bs : List GBk) : Prop :=
  ¬ er = 0 ∧ ∃ p, p ≤ t.size + k ∧ St w0 W ((rb, r9C t p er pl, 40) :: bs) []
section
variable {w0 W : World} {rb : Nat} {t : ByteArray} {r : F9.Bs} {bs : List GBk} {er : Int} {pl : Nat}
theorem trm_trm (l : F9.Bs) : F9.trm (F9.trm l) = F9.trm l := by
  unfold F9.trm
  induction l with
  | nil => rfl
  | cons c s ih =>
    rw [List.dropWhile_cons]
    split
    · exact ih
    · rename_i h; rw [List.dropWhile_cons, if_neg h]
theorem RA.st (h : RA w0 W rb t r bs) (ht : t.size ≤ 100000) : ∃ p, p ≤ 100100 ∧ blN t p ≤ t.size ∧ t.data.toList.drop (blN t p) = r ∧ F9.trm r = r ∧ St w0 W ((rb, r9C t p 0 0, 40) :: bs) [] := by
  obtain ⟨p, h1, h2, h3⟩ := h
  exact ⟨p, by omega, (bl_le ht (by omega)).2.2 h1, by rw [bl_drop, h2], by rw [← h2, trm_trm], h3⟩
end
end Go.Proofs.YtjebpmjbdchdlaaDoor
namespace Go.Proofs.YtjebpmjbdchdlaaDoor
open Go.RowKit
set_option linter.unusedVariables false

section
variable {w0 W : World} {rb : Nat} {t : ByteArray} {r : F9.Bs} {bs : List GBk} {er : Int} {pl k : Nat}
theorem RA.takeY (h : RA w0 W rb t r bs) (ht : t.size ≤ 100000) {c : UInt8} (hc : sgnC c) (hf : F9.fw r = [c]) : Calls Tryd.prog 27 #[.pointer (some ⟨rb, 0, none⟩), .int .u8 c.toNat] W fun e w' => e = .returned (.bool true) ∧ RA w0 w' rb t (F9.nx r) bs := by
  obtain ⟨p, hp, hq, hd, hr, S⟩ := h.st ht
  have hs := (sg_fw hd hc).2 hf
  have hl := (drop_len2 hd hq).2
  have hp2 : 0 < r.length := List.length_pos_iff.2 (fw_pos' hf (by simp))
  refine (take_yes t p 0 0 rb bs [] w0 W S ht hp c.toNat hs).mono ?_
  rintro e w' ⟨rfl, S'⟩
  exact ⟨rfl, _, by omega, nx_one hd (by rw [hf]; rfl), S'⟩

theorem RA.takeN (h : RA w0 W rb t r bs) (ht : t.size ≤ 100000) {c : UInt8} (hc : sgnC c) (hf : ¬ F9.fw r = [c]) : Calls Tryd.prog 27 #[.pointer (some ⟨rb, 0, none⟩), .int .u8 c.toNat] W fun e w' => e = .returned (.bool false) ∧ RA w0 w' rb t r bs := by
  obtain ⟨p, hp, hq, hd, hr, S⟩ := h.st ht
  refine (take_no t p 0 0 rb bs [] w0 W S ht hp c.toNat (fun h => hf ((sg_fw hd hc).1 h))).mono ?_
  rintro e w' ⟨rfl, S'⟩
  exact ⟨rfl, _, hq, by rw [hd, hr], S'⟩

theorem RA.wantY (h : RA w0 W rb t r bs) (ht : t.size ≤ 100000) {c : UInt8} (hc : sgnC c) (hf : F9.fw r = [c]) : Calls Tryd.prog 12 #[.pointer (some ⟨rb, 0, none⟩), .int .u8 c.toNat] W fun e w' => e = .returned (.tuple #[]) ∧ RA w0 w' rb t (F9.nx r) bs := by
  obtain ⟨p, hp, hq, hd, hr, S⟩ := h.st ht
  have hs := (sg_fw hd hc).2 hf
  have hl := (drop_len2 hd hq).2
  have hp2 : 0 < r.length := List.length_pos_iff.2 (fw_pos' hf (by simp))
  refine (want_yes t p 0 0 rb bs [] w0 W S ht hp c.toNat hs).mono ?_
  rintro e w' ⟨rfl, S'⟩
  exact ⟨rfl, _, by omega, nx_one hd (by rw [hf]; rfl), S'⟩

theorem RA.wantN (h : RA w0 W rb t r bs) (ht : t.size ≤ 100000) {c : UInt8} (hc : sgnC c) (hf : ¬ F9.fw r = [c]) : Calls Tryd.prog 12 #[.pointer (some ⟨rb, 0, none⟩), .int .u8 c.toNat] W fun e w' => e = .returned (.tuple #[]) ∧ RD w0 w' rb t 3 (t.size - r.length) 0 bs := by
  obtain ⟨p, hp, hq, hd, hr, S⟩ := h.st ht
  have hl := (drop_len2 hd hq).1
  refine (want_no t p 0 0 rb bs [] w0 W S ht hp c.toNat (fun h => hf ((sg_fw hd hc).1 h))).mono ?_
  rintro e w' ⟨rfl, S'⟩
  rw [if_pos rfl, if_pos rfl] at S'
  exact ⟨rfl, by decide, _, by omega, hl ▸ S'⟩

theorem RA.sign (h : RA w0 W rb t r bs) (ht : t.size ≤ 100000) : Calls Tryd.prog 14 #[.pointer (some ⟨rb, 0, none⟩)] W fun e w' => e = .returned (.int .u8 (hdN r)) ∧ RA w0 w' rb t r bs := by
  obtain ⟨p, hp, hq, hd, hr, S⟩ := h.st ht
  refine (sign_any t p 0 0 rb bs [] w0 W S ht hp).mono ?_
  rintro e w' ⟨rfl, S'⟩
  exact ⟨by rw [sg_hd hd], _, hq, by rw [hd, hr], S'⟩

theorem RA.digit (h : RA w0 W rb t r bs) (ht : t.size ≤ 100000) : Calls Tryd.prog 66 #[.pointer (some ⟨rb, 0, none⟩)] W fun e w' => e = .returned (.int .i64 (dgN r)) ∧ RA w0 w' rb t r bs := by
  obtain ⟨p, hp, hq, hd, hr, S⟩ := h.st ht
  refine (digit_any t p 0 0 rb bs [] w0 W S ht hp).mono ?_
  rintro e w' ⟨rfl, S'⟩
  exact ⟨by rw [dg_is hd], _, hq, by rw [hd, hr], S'⟩

theorem RA.word_is (h : RA w0 W rb t r bs) (ht : t.size ≤ 100000) {x : F9.Bs} (hx : ∃ c s, x = c :: s ∧ letB c = true) (hf : F9.fw r = x) : Calls Tryd.prog 25 #[.pointer (some ⟨rb, 0, none⟩)] W fun e w' => e = .returned (.string ⟨x.toArray⟩) ∧ RA w0 w' rb t r bs := by
  obtain ⟨p, hp, hq, hd, hr, S⟩ := h.st ht
  refine (word_any t p 0 0 rb bs [] w0 W S ht hp).mono ?_
  rintro e w' ⟨rfl, S'⟩
  exact ⟨by rw [(wd_is hd hx).2 hf], _, hq, by rw [hd, hr], S'⟩

theorem RA.word_not (h : RA w0 W rb t r bs) (ht : t.size ≤ 100000) {x : F9.Bs} (hx : ∃ c s, x = c :: s ∧ letB c = true) (hf : ¬ F9.fw r = x) : Calls Tryd.prog 25 #[.pointer (some ⟨rb, 0, none⟩)] W fun e w' => ∃ y : ByteArray, e = .returned (.string y) ∧ ¬ y = ⟨x.toArray⟩ ∧ RA w0 w' rb t r bs := by
  obtain ⟨p, hp, hq, hd, hr, S⟩ := h.st ht
  refine (word_any t p 0 0 rb bs [] w0 W S ht hp).mono ?_
  rintro e w' ⟨rfl, S'⟩
  exact ⟨_, rfl, fun e => hf ((wd_is hd hx).1 e), _, hq, by rw [hd, hr], S'⟩

theorem RA.nameY (h : RA w0 W rb t r bs) (ht : t.size ≤ 100000) (hf : nameL (F9.fw r) = true) : Calls Tryd.prog 11 #[.pointer (some ⟨rb, 0, none⟩)] W fun e w' => e = .returned (.string ⟨(F9.fw r).toArray⟩) ∧ RA w0 w' rb t (F9.nx r) bs := by
  obtain ⟨p, hp, hq, hd, hr, S⟩ := h.st ht
  have hn := wd_name hd
  rw [hf] at hn
  have hz := wd_size t (blN t p) 0 hq
  obtain ⟨c, s, e0, hc, _⟩ := F9.name_parts hf
  have hw := (wd_is hd ⟨c, s, e0, hc⟩).2 rfl
  have hk : (F9.fw r).length = (wdB t (blN t p) 0).size := by rw [hw]; simp [ByteArray.size]
  refine (name9_yes t p 0 0 rb bs [] w0 W S ht hp hn).mono ?_
  rintro e w' ⟨rfl, S'⟩
  exact ⟨by rw [hw], _, hz, nx_one hd hk, S'⟩

theorem RA.nameN (h : RA w0 W rb t r bs) (ht : t.size ≤ 100000) (hf : nameL (F9.fw r) = false) : Calls Tryd.prog 11 #[.pointer (some ⟨rb, 0, none⟩)] W fun e w' => e = .returned (.string ByteArray.empty) ∧ RD w0 w' rb t 3 (t.size - r.length) 0 bs := by
  obtain ⟨p, hp, hq, hd, hr, S⟩ := h.st ht
  have hn := wd_name hd
  rw [hf] at hn
  have hl := (drop_len2 hd hq).1
  refine (name9_no t p 0 0 rb bs [] w0 W S ht hp hn).mono ?_
  rintro e w' ⟨rfl, S'⟩
  rw [if_pos rfl, if_pos rfl] at S'
  exact ⟨rfl, by decide, _, by omega, hl ▸ S'⟩

theorem expo_dgN {lo hi : Nat} {r : F9.Bs} : F9.expo lo hi r = if dgN r < 0 then .error (3, r) else if dgN r < lo ∨ (hi : Int) < dgN r then .error (1, r) else .ok ((dgN r).toNat, F9.nx r) := by
  unfold F9.expo dgN
  split
  · rename_i d hd
    simp only [hd]
    by_cases h : digB d = true
    · have hd2 : 48 ≤ d.toNat ∧ d.toNat ≤ 57 := by unfold digB at h; simpa using h
      rw [if_pos h, if_pos h]
      have k1 : ¬ ((d.toNat : Int) - 48 < 0) := by omega
      by_cases h3 : lo ≤ d.toNat - 48 ∧ d.toNat - 48 ≤ hi
      · have k2 : ¬ ((d.toNat : Int) - 48 < (lo : Int) ∨ (hi : Int) < (d.toNat : Int) - 48) := by omega
        have k3 : ((d.toNat : Int) - 48).toNat = d.toNat - 48 := by omega
        rw [if_pos h3, if_neg k1, if_neg k2, k3]
      · have k2 : (d.toNat : Int) - 48 < (lo : Int) ∨ (hi : Int) < (d.toNat : Int) - 48 := by omega
        rw [if_neg h3, if_neg k1, if_pos k2]
    · rw [if_neg h, if_neg h, if_pos (by omega)]
  · rename_i hne
    split
    · rename_i d hd; exact absurd hd (hne d)
    · rfl
theorem dgN_le (r : F9.Bs) : -1 ≤ dgN r ∧ dgN r ≤ 9 := by
  unfold dgN
  split
  · rename_i d hd
    split
    · rename_i h
      have hd2 : 48 ≤ d.toNat ∧ d.toNat ≤ 57 := by unfold digB at h; simpa using h
      omega
    · omega
  · omega
theorem dgN_pos {r : F9.Bs} (h : 0 ≤ dgN r) : (F9.fw r).length = 1 := by
  unfold dgN at h
  split at h
  · rename_i d hd; rw [hd]; rfl
  · omega
theorem RA.expY (h : RA w0 W rb t r bs) (ht : t.size ≤ 100000) (lo hi : Nat) {k : Nat} {r1 : F9.Bs} (he : F9.expo lo hi r = .ok (k, r1)) : Calls Tryd.prog 48 #[.pointer (some ⟨rb, 0, none⟩), .int .i64 lo, .int .i64 hi] W fun e w' => e = .returned (.int .i64 k) ∧ RA w0 w' rb t r1 bs := by
  obtain ⟨p, hp, hq, hd, hr, S⟩ := h.st ht
  rw [expo_dgN] at he
  have hb := dgN_le r
  split at he
  · cases he
  · rename_i h0
    split at he
    · cases he
    · rename_i h1
      injection he with he
      injection he with h2 h3
      subst h2 h3
      have hl := (drop_len2 hd hq).2
      have hk := dgN_pos (by omega : 0 ≤ dgN r)
      have hp2 : 0 < r.length := by
        rcases Nat.eq_zero_or_pos r.length with h | h
        · rw [List.length_eq_zero_iff.1 h] at hk; cases hk
        · exact h
      refine (exponent_any t p 0 0 rb bs [] w0 W S ht hp lo hi).mono ?_
      rintro e w' ⟨rfl, S'⟩
      rw [dg_is hd, show exE (dgN r) lo hi = 0 by unfold exE; rw [if_neg h0, if_neg h1], erX_0, plX_0] at S'
      rw [dg_is hd]
      exact ⟨by rw [Int.toNat_of_nonneg (by omega)], _, by omega, nx_one hd hk, S'⟩

theorem RA.expN (h : RA w0 W rb t r bs) (ht : t.size ≤ 100000) (lo hi : Nat) {x : F9.Er} (he : F9.expo lo hi r = .error x) : Calls Tryd.prog 48 #[.pointer (some ⟨rb, 0, none⟩), .int .i64 lo, .int .i64 hi] W fun e w' => ∃ v : Int, e = .returned (.int .i64 v) ∧ RD w0 w' rb t x.1 (t.size - x.2.length) 1 bs := by
  obtain ⟨p, hp, hq, hd, hr, S⟩ := h.st ht
  have hl := (drop_len2 hd hq).1
  have hx : exE (dgN r) lo hi = (x.1 : Int) ∧ x.2 = r ∧ ¬ (x.1 : Int) = 0 := by
    rw [expo_dgN] at he
    unfold exE
    split at he
    · rename_i h0
      injection he with he; subst he
      rw [if_pos h0]; exact ⟨rfl, rfl, by show ¬ ((3 : Nat) : Int) = 0; decide⟩
    · rename_i h0
      split at he
      · rename_i h1
        injection he with he; subst he
        rw [if_neg h0, if_pos h1]; exact ⟨rfl, rfl, by show ¬ ((1 : Nat) : Int) = 0; decide⟩
      · cases he
  obtain ⟨h1, h2, h3⟩ := hx
  refine (exponent_any t p 0 0 rb bs [] w0 W S ht hp lo hi).mono ?_
  rintro e w' ⟨rfl, S'⟩
  rw [dg_is hd, h1] at S'
  refine ⟨_, rfl, h3, blN t p + 1, by omega, ?_⟩
  rw [h2]
  unfold erX plX at S'
  rw [if_pos rfl, if_pos ⟨rfl, h3⟩, hl] at S'
  rw [hl]
  exact S'

theorem RD.sign (h : RD w0 W rb t er pl k bs) (hk : k ≤ 50) (ht : t.size ≤ 100000) : Calls Tryd.prog 14 #[.pointer (some ⟨rb, 0, none⟩)] W fun e w' => e = .returned (.int .u8 0) ∧ RD w0 w' rb t er pl k bs := by
  obtain ⟨he, p, hp, S⟩ := h
  have hb := bl_le ht (show p ≤ 100100 by omega)
  have hb2 : blN t p ≤ t.size + k := by
    rcases Nat.lt_or_ge t.size p with h | h
    · rw [bl_end (by omega)]; exact hp
    · have := hb.2.2 h; omega
  refine (sign_any t p er pl rb bs [] w0 W S ht (by omega)).mono ?_
  rintro e w' ⟨rfl, S'⟩
  exact ⟨by rw [sg_err he]; rfl, he, _, hb2, S'⟩

theorem RD.take (h : RD w0 W rb t er pl k bs) (hk : k ≤ 50) (ht : t.size ≤ 100000) {c : UInt8} (hc : sgnC c) : Calls Tryd.prog 27 #[.pointer (some ⟨rb, 0, none⟩), .int .u8 c.toNat] W fun e w' => e = .returned (.bool false) ∧ RD w0 w' rb t er pl k bs := by
  obtain ⟨he, p, hp, S⟩ := h
  have hb := bl_le ht (show p ≤ 100100 by omega)
  have hb2 : blN t p ≤ t.size + k := by
    rcases Nat.lt_or_ge t.size p with h | h
    · rw [bl_end (by omega)]; exact hp
    · have := hb.2.2 h; omega
  refine (take_no t p er pl rb bs [] w0 W S ht (by omega) c.toNat (by rw [sg_err he]; exact fun h => hc.2.2 h.symm)).mono ?_
  rintro e w' ⟨rfl, S'⟩
  exact ⟨rfl, he, _, hb2, S'⟩

theorem RD.want (h : RD w0 W rb t er pl k bs) (hk : k ≤ 50) (ht : t.size ≤ 100000) {c : UInt8} (hc : sgnC c) : Calls Tryd.prog 12 #[.pointer (some ⟨rb, 0, none⟩), .int .u8 c.toNat] W fun e w' => e = .returned (.tuple #[]) ∧ RD w0 w' rb t er pl k bs := by
  obtain ⟨he, p, hp, S⟩ := h
  have hb := bl_le ht (show p ≤ 100100 by omega)
  have hb2 : blN t p ≤ t.size + k := by
    rcases Nat.lt_or_ge t.size p with h | h
    · rw [bl_end (by omega)]; exact hp
    · have := hb.2.2 h; omega
  refine (want_no t p er pl rb bs [] w0 W S ht (by omega) c.toNat (by rw [sg_err he]; exact fun h => hc.2.2 h.symm)).mono ?_
  rintro e w' ⟨rfl, S'⟩
  rw [if_neg he, if_neg he] at S'
  exact ⟨rfl, he, _, hb2, S'⟩

theorem RD.digit (h : RD w0 W rb t er pl k bs) (hk : k ≤ 50) (ht : t.size ≤ 100000) : Calls Tryd.prog 66 #[.pointer (some ⟨rb, 0, none⟩)] W fun e w' => e = .returned (.int .i64 (-1)) ∧ RD w0 w' rb t er pl k bs := by
  obtain ⟨he, p, hp, S⟩ := h
  have hb := bl_le ht (show p ≤ 100100 by omega)
  have hb2 : blN t p ≤ t.size + k := by
    rcases Nat.lt_or_ge t.size p with h | h
    · rw [bl_end (by omega)]; exact hp
    · have := hb.2.2 h; omega
  refine (digit_any t p er pl rb bs [] w0 W S ht (by omega)).mono ?_
  rintro e w' ⟨rfl, S'⟩
  exact ⟨by unfold dgV; rw [sg_err he, if_neg (by omega)], he, _, hb2, S'⟩

theorem RD.word (h : RD w0 W rb t er pl k bs) (hk : k ≤ 50) (ht : t.size ≤ 100000) : Calls Tryd.prog 25 #[.pointer (some ⟨rb, 0, none⟩)] W fun e w' => e = .returned (.string ByteArray.empty) ∧ RD w0 w' rb t er pl k bs := by
  obtain ⟨he, p, hp, S⟩ := h
  have hb := bl_le ht (show p ≤ 100100 by omega)
  have hb2 : blN t p ≤ t.size + k := by
    rcases Nat.lt_or_ge t.size p with h | h
    · rw [bl_end (by omega)]; exact hp
    · have := hb.2.2 h; omega
  have hw : wdB t (blN t p) er = ByteArray.empty := by
    unfold wdB sgC
    rw [if_neg he]; rfl
  refine (word_any t p er pl rb bs [] w0 W S ht (by omega)).mono ?_
  rintro e w' ⟨rfl, S'⟩
  exact ⟨by rw [hw], he, _, hb2, S'⟩

theorem RD.name (h : RD w0 W rb t er pl k bs) (hk : k ≤ 50) (ht : t.size ≤ 100000) : Calls Tryd.prog 11 #[.pointer (some ⟨rb, 0, none⟩)] W fun e w' => e = .returned (.string ByteArray.empty) ∧ RD w0 w' rb t er pl k bs := by
  obtain ⟨he, p, hp, S⟩ := h
  have hb := bl_le ht (show p ≤ 100100 by omega)
  have hb2 : blN t p ≤ t.size + k := by
    rcases Nat.lt_or_ge t.size p with h | h
    · rw [bl_end (by omega)]; exact hp
    · have := hb.2.2 h; omega
  have hw : wdB t (blN t p) er = ByteArray.empty := by
    unfold wdB sgC
    rw [if_neg he]; rfl
  refine (name9_no t p er pl rb bs [] w0 W S ht (by omega) (by rw [hw]; rfl)).mono ?_
  rintro e w' ⟨rfl, S'⟩
  rw [if_neg he, if_neg he] at S'
  exact ⟨rfl, he, _, hb2, S'⟩

theorem RD.fail (h : RD w0 W rb t er pl k bs) (hk : k ≤ 50) (ht : t.size ≤ 100000) (x : Int) : Calls Tryd.prog 15 #[.pointer (some ⟨rb, 0, none⟩), .int .i64 x] W fun e w' => e = .returned (.tuple #[]) ∧ RD w0 w' rb t er pl k bs := by
  obtain ⟨he, p, hp, S⟩ := h
  refine (fail_any t p er pl rb bs [] w0 W S x).mono ?_
  rintro e w' ⟨rfl, S'⟩
  rw [if_neg he, if_neg he] at S'
  exact ⟨rfl, he, _, hp, S'⟩

theorem RD.exp (h : RD w0 W rb t er pl k bs) (hk : k ≤ 50) (ht : t.size ≤ 100000) (lo hi : Nat) : Calls Tryd.prog 48 #[.pointer (some ⟨rb, 0, none⟩), .int .i64 lo, .int .i64 hi] W fun e w' => e = .returned (.int .i64 (-1)) ∧ RD w0 w' rb t er pl (k + 1) bs := by
  obtain ⟨he, p, hp, S⟩ := h
  have hb := bl_le ht (show p ≤ 100100 by omega)
  have hb2 : blN t p ≤ t.size + k := by
    rcases Nat.lt_or_ge t.size p with h | h
    · rw [bl_end (by omega)]; exact hp
    · have := hb.2.2 h; omega
  refine (exponent_any t p er pl rb bs [] w0 W S ht (by omega) lo hi).mono ?_
  rintro e w' ⟨rfl, S'⟩
  have hv : dgV t (blN t p) er = -1 := by unfold dgV; rw [sg_err he, if_neg (by omega)]
  rw [hv] at S' ⊢
  rw [show erX er (exE (-1) lo hi) = er by unfold erX; rw [if_neg he], show plX er (exE (-1) lo hi) (blN t p) pl = pl by unfold plX; rw [if_neg (fun h => he h.1)]] at S'
  exact ⟨rfl, he, _, by omega, S'⟩

end
end Go.Proofs.YtjebpmjbdchdlaaDoor
namespace Go.Proofs.YtjebpmjbdchdlaaDoor
open Go.RowKit
set_option linter.unusedVariables false

set_option maxRecDepth 100000 in
set_option maxHeartbeats 4000000 in
theorem oper_any (x : Nd) (Ls : List (Sl Nd)) (A : Option Addr) (n c : Nat) (w : World) (h : LR (slC ndC) w A n Ls) (hn : n ≤ 100) (hb : ((Ls.map (fun l => l.L)).flatten).length ≤ 200000) : Calls Tryd.prog 30 #[.agg #[.int .i64 x.o, .string x.s, .int .i64 x.k], .slice A n c] w fun e w' => ∃ (l : Sl Nd) (ob : List GBk), e = .returned l.v ∧ l.L = x :: (Ls.map (fun l => l.L)).flatten ∧ OBn ob l ∧ St w w' ob [] := by
  have hfull : Hid (ncatL Ls n = (Ls.map (fun l => l.L)).flatten) := Lib.hid (by unfold ncatL; rw [List.take_of_length_le (by rw [h.len]; exact Nat.le_refl _)])
  have hle := Lib.hid (ncat_le Ls)
  have S0 := (St.new w).alloc #[.int .i64 x.o, .string x.s, .int .i64 x.k] 53 (noLof rfl)
  obtain ⟨T, hT⟩ : ∃ T, T = (Ls.map (fun l => l.L)).flatten := ⟨_, rfl⟩
  rw [← hT] at hfull hb ⊢
  rw [← hT] at hle
  replace hT := Lib.hid hT
  replace h := Lib.hid h
  have hbb := Lib.hid hb
  replace hn := Lib.hid hn
  obtain ⟨bx, hbx⟩ : ∃ b, b = w.heap.size := ⟨_, rfl⟩
  obtain ⟨W1, hW1⟩ : ∃ V, V = w.alloc (.cells #[.int .i64 x.o, .string x.s, .int .i64 x.k] 53) := ⟨_, rfl⟩
  rw [← hW1, ← hbx] at S0
  replace S0 := Lib.hid S0
  clear hb
  go_enter Tryd.func30, Tryd.ntmps30
  go_upto_region 1 with fail
  rw [← hW1, ← hbx]
  clear hW1 hbx
  have b0 := S0.out.cl 0 0 rfl rfl
  have b1 := S0.out.cl 0 1 rfl rfl
  have b2 := S0.out.cl 0 2 rfl rfl
  have bl := S0.out.lt 0 rfl
  have G0 := Lib.hid (((Gro.one (C := ndC) (y := x) (S0.out.alloc (ndC.cs x).toArray 53 (all_one ndC x ▸ all_noL ndC [x]).arr) (nd_in x)).sub (fun _ _ => nd_in _)))
  clear S0
  go_wp2
  clear b0 b1 b2 bl
  go_loopw [5, 6] (fun av iv wr => ∃ i : Nat, i ≤ n ∧ iv = .int .i64 i ∧ Gro ndC w wr [] [] 53 av (x :: ncatL Ls i)) (fun _ iv _ => n - (intOf iv).toNat)
  case atStart => exact ⟨0, Nat.zero_le _, rfl, G0.out⟩
  case round =>
    clear G0
    obtain ⟨i, hin, rfl, G⟩ := hrel
    by_cases hlt : i < n
    · have hW := h.out.bel G.st.bel
      obtain ⟨b, o, y, rfl, hx, _, hat, hcs⟩ := hW.get hlt
      have e0 : wr.cell? ⟨b, o + i, none⟩ = some (.slice y.A y.L.length y.c) := by
        have := hcs 0 _ rfl
        rwa [show o + i * (slC ndC).sz + 0 = o + i by show o + i * 1 + 0 = o + i; omega] at this
      have hsu := ncat_succ hx
      have hs6 : Hid ((x :: ncatL Ls i).length + y.L.length ≤ 200001) := Lib.hid (by
        have h1 := hle.out (i + 1)
        rw [hsu, List.length_append] at h1
        have := hbb.out
        rw [List.length_cons]
        omega)
      have hat1 := Lib.hid hat.1
      replace hsu := Lib.hid hsu
      have g1 : (i : Int) < (n : Int) := by omega
      have g2 : (0 : Int) ≤ (i : Int) := by omega
      have hih := Lib.hid hlt
      have hbn := hn.out
      replace G := Lib.hid G
      clear hcs hat hx hin hlt hW
      go_wp2_with (at_builtin; refine Gro.wpm rfl (.tmp 15) (.tmp 19) 23 rfl (.agg #[.int .i64 0, .string ⟨#[]⟩, .int .i64 0]) 32 Tryd.underlying23 (by kernel_rfl) rfl (fun v hv z e => by simp [Value.cells] at hv; subst e; simp at hv) rfl G.out y.L y.A y.c rfl hat1.out (fun y _ => nd_in y) (by have := hs6.out; omega) (by have := hs6.out; unfold maxLen; omega) ?_)
      intro av1 w6 G2
      rw [← hsu.out] at G2
      replace G2 := Lib.hid G2
      clear G hat1 hs6 hsu e0
      have hlt := hih.out
      go_wp2
      go_roundw
      case rel => exact ⟨i + 1, by omega, by go_num, G2.out⟩
      case measure => simp [intOf]; omega
    · obtain rfl : n = i := by omega
      have hf := hfull.out
      rw [hf] at G
      obtain ⟨l, ob, hv, hL, hO, S⟩ := G.opn
      subst hv
      replace S := Lib.hid S
      replace hL := Lib.hid hL
      replace hO := Lib.hid hO
      have g1 : ¬ (n : Int) < (n : Int) := by omega
      clear hin hlt hf G
      go_wp2
      go_ret
      exact ⟨l, rfl, hL.out, ob, hO.out, S.out⟩

/-- The operation of a sign, if it is one of this level. -/
def levV (b k : Nat) : Nat :=
  if k = 1 then (if b = 43 then 5 else if b = 45 then 6 else 0)
  else if k = 2 then (if b = 42 then 8 else if b = 47 then 9 else 0)
  else if k = 3 then (if b = 58 then 7 else 0) else 0
theorem lev_is (r : F9.Bs) {k : Nat} (h1 : 1 ≤ k) (h3 : k ≤ 3) : levV (hdN r) k = match F9.bop r with
    | some op => if F9.rul op = k then op else 0
    | none => 0 := by
  rw [lev_bop]
  generalize hdN r = b
  unfold levV
  have hc : k = 1 ∨ k = 2 ∨ k = 3 := by omega
  by_cases a1 : b = 43
  · subst a1; rcases hc with rfl | rfl | rfl <;> rfl
  by_cases a2 : b = 45
  · subst a2; rcases hc with rfl | rfl | rfl <;> rfl
  by_cases a3 : b = 58
  · subst a3; rcases hc with rfl | rfl | rfl <;> rfl
  by_cases a4 : b = 42
  · subst a4; rcases hc with rfl | rfl | rfl <;> rfl
  by_cases a5 : b = 47
  · subst a5; rcases hc with rfl | rfl | rfl <;> rfl
  rw [if_neg a1, if_neg a2, if_neg a3, if_neg a4, if_neg a5]
  simp [a1, a2, a3, a4, a5]
set_option maxRecDepth 100000 in
set_option maxHeartbeats 4000000 in
theorem level_any (b k : Nat) (hk : 1 ≤ k ∧ k ≤ 3) (w : World) : Calls Tryd.prog 29 #[.int .u8 b, .int .i64 k] w fun e w' => e = .returned (.int .i64 (levV b k : Nat)) ∧ w' = w := by
  have hc : k = 1 ∨ k = 2 ∨ k = 3 := by omega
  clear hk
  unfold levV
  rcases hc with rfl | rfl | rfl
  · simp only [if_true]
    by_cases a1 : b = 43
    · subst a1
      rw [if_pos rfl]
      go_enter Tryd.func29, Tryd.ntmps29
      go_wp2
      go_ret
      exact ⟨rfl, rfl⟩
    · rw [if_neg a1]
      have g1 : ((b : Int) == 43) = false := by rw [beq_eq_false_iff_ne]; omega
      have g2 : ¬ (b : Int) = 43 := by omega
      by_cases a2 : b = 45
      · subst a2
        rw [if_pos rfl]
        clear g1 g2 a1
        go_enter Tryd.func29, Tryd.ntmps29
        go_wp2
        go_ret
        exact ⟨rfl, rfl⟩
      · rw [if_neg a2]
        have g3 : ((b : Int) == 45) = false := by rw [beq_eq_false_iff_ne]; omega
        have g4 : ¬ (b : Int) = 45 := by omega
        clear a1 a2
        go_enter Tryd.func29, Tryd.ntmps29
        go_wp2
        go_ret
        exact ⟨rfl, rfl⟩
  · simp only [show ((2 : Nat) = 1) = False by simp, if_true, if_false]
    by_cases a1 : b = 42
    · subst a1
      rw [if_pos rfl]
      go_enter Tryd.func29, Tryd.ntmps29
      go_wp2
      go_ret
      exact ⟨rfl, rfl⟩
    · rw [if_neg a1]
      have g1 : ((b : Int) == 42) = false := by rw [beq_eq_false_iff_ne]; omega
      have g2 : ¬ (b : Int) = 42 := by omega
      by_cases a2 : b = 47
      · subst a2
        rw [if_pos rfl]
        clear g1 g2 a1
        go_enter Tryd.func29, Tryd.ntmps29
        go_wp2
        go_ret
        exact ⟨rfl, rfl⟩
      · rw [if_neg a2]
        have g3 : ((b : Int) == 47) = false := by rw [beq_eq_false_iff_ne]; omega
        have g4 : ¬ (b : Int) = 47 := by omega
        clear a1 a2
        go_enter Tryd.func29, Tryd.ntmps29
        go_wp2
        go_ret
        exact ⟨rfl, rfl⟩
  · simp only [show ((3 : Nat) = 1) = False by simp, show ((3 : Nat) = 2) = False by simp, if_true, if_false]
    by_cases a1 : b = 58
    · subst a1
      rw [if_pos rfl]
      go_enter Tryd.func29, Tryd.ntmps29
      go_wp2
      go_ret
      exact ⟨rfl, rfl⟩
    · rw [if_neg a1]
      have g1 : ((b : Int) == 58) = false := by rw [beq_eq_false_iff_ne]; omega
      have g2 : ¬ (b : Int) = 58 := by omega
      clear a1
      go_enter Tryd.func29, Tryd.ntmps29
      go_wp2
      go_ret
      exact ⟨rfl, rfl⟩
end Go.Proofs.YtjebpmjbdchdlaaDoor
namespace Go.Proofs.YtjebpmjbdchdlaaDoor
open Go.RowKit
set_option linter.unusedVariables false

theorem permZ {α : Type} (p q : α) (B : List α) : (q :: p :: B).Perm (p :: (B ++ [q])) := (List.Perm.swap p q B).trans (List.Perm.cons p (List.perm_append_comm (l₁ := [q])))
theorem OBn.one (g : Nat) (y : Nd) : OBn [(g, (ndC.cs y).toArray, 53)] ⟨some ⟨g, 0, none⟩, 1, [y]⟩ := by
  refine ⟨rfl, all_noL ndC _, .inr ⟨g, 1, (ndC.cs y).toArray, rfl, Nat.le_refl _, by decide, by simp [ndC.len, nd_sz], ?_, rfl⟩⟩
  rw [all_one]
  show (ndC.cs y).take (1 * 3) = ndC.cs y
  rfl
/-- What a reading of the reference gives: a list of nodes of its own. -/
def ROk (w0 w' : World) (rb : Nat) (t : ByteArray) (e : Ending) (bs : List GBk) (L : List Nd) (r' : F9.Bs) : Prop := ∃ (l : Sl Nd) (ob : List GBk), e = .returned l.v ∧ l.L = L ∧ OBn ob l ∧ RA w0 w' rb t r' (bs ++ ob)
def RBad (w0 w' : World) (rb : Nat) (t : ByteArray) (e : Ending) (bs : List GBk) (m : Nat) (er : Int) (pl : Nat) : Prop := ∃ (l : Sl Nd) (ob : List GBk), e = .returned l.v ∧ l.L.length ≤ m ∧ OBn ob l ∧ RD w0 w' rb t er pl 1 (bs ++ ob)
def Res (w0 w' : World) (rb : Nat) (t : ByteArray) (e : Ending) (bs : List GBk) (m : Nat) (X : F9.Rs (F9.Tr × F9.Bs)) : Prop := match X with
  | .ok (a, r') => ROk w0 w' rb t e bs (a.pre.map toNd) r' ∧ a.pre.length + r'.length ≤ m
  | .error x => RBad w0 w' rb t e bs (m + 1) x.1 (t.size - x.2.length)
section
variable {w0 W : World} {rb : Nat} {t : ByteArray} {r : F9.Bs} {bs : List GBk} {er : Int} {pl k : Nat}
theorem RA.put (h : RA w0 W rb t r bs) (y : Nd) : RA w0 (W.alloc (.cells (ndC.cs y).toArray 53)) rb t r (bs ++ [(W.heap.size, (ndC.cs y).toArray, 53)]) := by
  obtain ⟨p, h1, h2, S⟩ := h
  exact ⟨p, h1, h2, (S.alloc _ _ (all_one ndC y ▸ all_noL ndC [y]).arr).prm (permZ _ _ _)⟩
theorem RD.put (h : RD w0 W rb t er pl k bs) (y : Nd) : RD w0 (W.alloc (.cells (ndC.cs y).toArray 53)) rb t er pl k (bs ++ [(W.heap.size, (ndC.cs y).toArray, 53)]) := by
  obtain ⟨he, p, h1, S⟩ := h
  exact ⟨he, p, h1, (S.alloc _ _ (all_one ndC y ▸ all_noL ndC [y]).arr).prm (permZ _ _ _)⟩
theorem RD.mono (h : RD w0 W rb t er pl k bs) {k' : Nat} (hk : k ≤ k') : RD w0 W rb t er pl k' bs := by
  obtain ⟨he, p, h1, S⟩ := h
  exact ⟨he, p, by omega, S⟩
theorem RA.call (h : RA w0 W rb t r bs) {W' : World} (hb : Below W.heap.size W W') : RA w0 W' rb t r bs := by
  obtain ⟨p, h1, h2, S⟩ := h
  exact ⟨p, h1, h2, S.call hb⟩
theorem RD.call (h : RD w0 W rb t er pl k bs) {W' : World} (hb : Below W.heap.size W W') : RD w0 W' rb t er pl k bs := by
  obtain ⟨he, p, h1, S⟩ := h
  exact ⟨he, p, h1, S.call hb⟩
theorem RA.bel (h : RA w0 W rb t r bs) : Below w0.heap.size w0 W := by
  obtain ⟨p, h1, h2, S⟩ := h
  exact S.bel
/-- Behind a look at the next sign: the place is that of the sign. -/
def RP (w0 W : World) (rb : Nat) (t : ByteArray) (r : F9.Bs) (p : Nat) (bs : List GBk) : Prop := p ≤ t.size ∧ t.data.toList.drop p = r ∧ F9.trm r = r ∧ St w0 W ((rb, r9C t p 0 0, 40) :: bs) []
theorem RP.ra {p : Nat} (h : RP w0 W rb t r p bs) : RA w0 W rb t r bs := ⟨p, h.1, by rw [h.2.1, h.2.2.1], h.2.2.2⟩
theorem RA.digitP (h : RA w0 W rb t r bs) (ht : t.size ≤ 100000) : Calls Tryd.prog 66 #[.pointer (some ⟨rb, 0, none⟩)] W fun e w' => e = .returned (.int .i64 (dgN r)) ∧ ∃ p, RP w0 w' rb t r p bs := by
  obtain ⟨p, hp, hq, hd, hr, S⟩ := h.st ht
  refine (digit_any t p 0 0 rb bs [] w0 W S ht hp).mono ?_
  rintro e w' ⟨rfl, S'⟩
  exact ⟨by rw [dg_is hd], _, hq, hd, hr, S'⟩
theorem RA.wordP (h : RA w0 W rb t r bs) (ht : t.size ≤ 100000) {x : F9.Bs} (hx : ∃ c s, x = c :: s ∧ letB c = true) (hf : F9.fw r = x) : Calls Tryd.prog 25 #[.pointer (some ⟨rb, 0, none⟩)] W fun e w' => e = .returned (.string ⟨x.toArray⟩) ∧ ∃ p, RP w0 w' rb t r p bs := by
  obtain ⟨p, hp, hq, hd, hr, S⟩ := h.st ht
  refine (word_any t p 0 0 rb bs [] w0 W S ht hp).mono ?_
  rintro e w' ⟨rfl, S'⟩
  exact ⟨by rw [(wd_is hd hx).2 hf], _, hq, hd, hr, S'⟩
/-- The place goes on by some bytes. -/
theorem RP.on {p n : Nat} (h : RP w0 W rb t r p bs) (hn : (F9.fw r).length = n) (h0 : 0 < n) : RA w0 (W.setCell ⟨rb, 1, none⟩ (.int .i64 ((p + n : Nat) : Int))) rb t (F9.nx r) bs ∧ W.frozen? ⟨rb, 1, none⟩ = false ∧ rb < W.heap.size ∧ W.cell? ⟨rb, 1, none⟩ = some (.int .i64 p) := by
  obtain ⟨h1, h2, h3, S⟩ := h
  have hl := (drop_len2 h2 h1).2
  have hf := fw_len r
  exact ⟨⟨p + n, by omega, nx_one h2 hn, S.set 0 1 (.int .i64 ((p + n : Nat) : Int)) rfl (fun _ => by simp)⟩, S.f 0 1 rfl, S.lt 0 rfl, S.cl 0 1 rfl rfl⟩
end
theorem dg0 {r : F9.Bs} : dgN r = 0 ↔ F9.fw r = [48] := by
  unfold dgN
  split
  · rename_i d hd
    rw [hd]
    split
    · rename_i h
      have hd2 : 48 ≤ d.toNat ∧ d.toNat ≤ 57 := by unfold digB at h; simpa using h
      constructor
      · intro e; have : d.toNat = (48 : UInt8).toNat := by show d.toNat = 48; omega
        rw [UInt8.toNat_inj.1 this]
      · intro e; injection e with e _; subst e; rfl
    · rename_i h
      constructor
      · intro e; cases e
      · intro e; injection e with e _; subst e; exact absurd rfl h
  · rename_i hn
    constructor
    · intro e; cases e
    · intro e; exact absurd e (hn 48)
theorem dg1 {r : F9.Bs} : dgN r = 1 ↔ F9.fw r = [49] := by
  unfold dgN
  split
  · rename_i d hd
    rw [hd]
    split
    · rename_i h
      have hd2 : 48 ≤ d.toNat ∧ d.toNat ≤ 57 := by unfold digB at h; simpa using h
      constructor
      · intro e; have : d.toNat = (49 : UInt8).toNat := by show d.toNat = 49; omega
        rw [UInt8.toNat_inj.1 this]
      · intro e; injection e with e _; subst e; rfl
    · rename_i h
      constructor
      · intro e; cases e
      · intro e; injection e with e _; subst e; exact absurd rfl h
  · rename_i hn
    constructor
    · intro e; cases e
    · intro e; exact absurd e (hn 49)
section
variable {w0 W : World} {rb : Nat} {t : ByteArray} {r : F9.Bs} {bs : List GBk} {er : Int} {pl k : Nat}
set_option maxRecDepth 100000 in
set_option maxHeartbeats 4000000 in
theorem RD.primary (h : RD w0 W rb t er pl 1 bs) (ht : t.size ≤ 100000) : Calls Tryd.prog 47 #[.pointer (some ⟨rb, 0, none⟩)] W fun e w' => RBad w0 w' rb t e bs 1 er pl := by
  replace ht := Lib.hid ht
  replace h := Lib.hid h
  go_enter Tryd.func47, Tryd.ntmps47
  go_wp2_with fail
  refine (h.out.take (c := 40) (by omega) ht.out ⟨rfl, rfl, by decide⟩).mono ?_
  rintro e w1 ⟨rfl, R1⟩
  replace R1 := Lib.hid R1
  clear h
  go_wp2_with fail
  refine (R1.out.digit (by omega) ht.out).mono ?_
  rintro e w2 ⟨rfl, R2⟩
  replace R2 := Lib.hid R2
  clear R1
  go_wp2_with fail
  refine (R2.out.word (by omega) ht.out).mono ?_
  rintro e w3 ⟨rfl, R3⟩
  replace R3 := Lib.hid R3
  clear R2
  go_wp2_with fail
  refine (R3.out.name (by omega) ht.out).mono ?_
  rintro e w4 ⟨rfl, R4⟩
  replace R4 := Lib.hid R4
  clear R3
  have RF := Lib.hid (R4.out.put ⟨1, ByteArray.empty, 0⟩)
  clear R4
  go_wp2
  go_ret
  exact ⟨⟨some ⟨w4.heap.size, 0, none⟩, 1, [⟨1, ByteArray.empty, 0⟩]⟩, [(w4.heap.size, (ndC.cs ⟨1, ByteArray.empty, 0⟩).toArray, 53)], rfl, Nat.le_refl _, OBn.one _ _, RF.out⟩

end
end Go.Proofs.YtjebpmjbdchdlaaDoor
namespace Go.Proofs.YtjebpmjbdchdlaaDoor
open Go.RowKit
set_option linter.unusedVariables false

section
variable {w0 W : World} {rb : Nat} {t : ByteArray} {r : F9.Bs} {bs : List GBk} {er : Int} {pl k : Nat}
set_option maxRecDepth 100000 in
set_option maxHeartbeats 4000000 in
theorem RD.raised (h : RD w0 W rb t er pl 1 bs) (ht : t.size ≤ 100000) : Calls Tryd.prog 28 #[.pointer (some ⟨rb, 0, none⟩)] W fun e w' => RBad w0 w' rb t e bs 1 er pl := by
  replace ht := Lib.hid ht
  replace h := Lib.hid h
  go_enter Tryd.func28, Tryd.ntmps28
  go_wp2_with fail
  refine (h.out.primary ht.out).mono ?_
  rintro e w1 ⟨l, ob, rfl, hl, hO, R⟩
  have hv : l.v = .slice l.A l.L.length l.c := rfl
  rw [hv]
  replace hl := Lib.hid hl
  replace hO := Lib.hid hO
  replace R := Lib.hid R
  clear h hv
  go_wp2
  go_loopg [3] 0 (fun k v wr => v = .slice l.A l.L.length l.c ∧ RD w0 wr rb t er pl 1 (bs ++ ob))
  case atStart => exact ⟨rfl, R.out⟩
  case round =>
    clear R
    obtain ⟨rfl, R⟩ := hrel
    replace R := Lib.hid R
    go_wp2_with fail
    refine (R.out.take (c := 94) (by omega) ht.out ⟨rfl, rfl, by decide⟩).mono ?_
    rintro e w2 ⟨rfl, R2⟩
    replace R2 := Lib.hid R2
    clear R
    go_wp2
    go_ret
    exact ⟨l, ob, rfl, hl.out, hO.out, R2.out⟩

set_option maxRecDepth 100000 in
set_option maxHeartbeats 4000000 in
theorem RD.bin4 (h : RD w0 W rb t er pl 1 bs) (ht : t.size ≤ 100000) : Calls Tryd.prog 13 #[.pointer (some ⟨rb, 0, none⟩), .int .i64 4] W fun e w' => RBad w0 w' rb t e bs 1 er pl := by
  replace ht := Lib.hid ht
  replace h := Lib.hid h
  go_enter Tryd.func13, Tryd.ntmps13
  go_wp2_with fail
  refine (h.out.raised ht.out).mono ?_
  rintro e w1 ⟨l, ob, rfl, hl, hO, R⟩
  have hv : l.v = .slice l.A l.L.length l.c := rfl
  rw [hv]
  replace hl := Lib.hid hl
  replace hO := Lib.hid hO
  replace R := Lib.hid R
  clear h hv
  go_wp2
  go_ret
  exact ⟨l, ob, rfl, hl.out, hO.out, R.out⟩

set_option maxRecDepth 100000 in
set_option maxHeartbeats 4000000 in
theorem RD.binS (j j1 : Nat) (hj1 : j1 = j + 1) (hj : 1 ≤ j ∧ j ≤ 3) (ht : t.size ≤ 100000) (ih : ∀ V bs, RD w0 V rb t er pl 1 bs → Calls Tryd.prog 13 #[.pointer (some ⟨rb, 0, none⟩), .int .i64 (j1 : Int)] V fun e w' => RBad w0 w' rb t e bs 1 er pl) (h : RD w0 W rb t er pl 1 bs) : Calls Tryd.prog 13 #[.pointer (some ⟨rb, 0, none⟩), .int .i64 j] W fun e w' => RBad w0 w' rb t e bs 1 er pl := by
  replace ht := Lib.hid ht
  replace h := Lib.hid h
  replace ih := Lib.hid ih
  have hL := Lib.hid (fun V => level_any 0 j hj V)
  have h0 : levV 0 j = 0 := by
    unfold levV
    have hc : j = 1 ∨ j = 2 ∨ j = 3 := by omega
    rcases hc with rfl | rfl | rfl <;> rfl
  rw [h0] at hL
  have g1 : (j : Int) + 1 = (j1 : Int) := by omega
  have g2 : ¬ (j : Int) = 4 := by omega
  have g3 : ((j : Int) == 4) = false := by rw [beq_eq_false_iff_ne]; omega
  have g4 : j1 ≤ 4 := by omega
  clear h0 hj hj1
  go_enter Tryd.func13, Tryd.ntmps13
  go_wp2_with fail
  refine (ih.out _ _ h.out).mono ?_
  rintro e w1 ⟨l, ob, rfl, hl, hO, R⟩
  have hv : l.v = .slice l.A l.L.length l.c := rfl
  rw [hv]
  replace hl := Lib.hid hl
  replace hO := Lib.hid hO
  replace R := Lib.hid R
  clear h hv ih
  go_wp2_with fail
  refine (R.out.sign (by omega) ht.out).mono ?_
  rintro e w2 ⟨rfl, R2⟩
  replace R2 := Lib.hid R2
  clear R
  go_wp2_with fail
  refine (hL.out _).mono ?_
  rintro e w3 ⟨rfl, rfl⟩
  go_wp2
  go_loopg [5, 6] 0 (fun k v o wr => v = .slice l.A l.L.length l.c ∧ o = .int .i64 0 ∧ RD w0 wr rb t er pl 1 (bs ++ ob))
  case atStart => exact ⟨rfl, rfl, R2.out⟩
  case round =>
    clear R2
    obtain ⟨rfl, rfl, R⟩ := hrel
    replace R := Lib.hid R
    go_wp2
    go_ret
    exact ⟨l, ob, rfl, hl.out, hO.out, R.out⟩

theorem RD.binary (ht : t.size ≤ 100000) {j : Nat} (h1 : 1 ≤ j) (h4 : j ≤ 4) (h : RD w0 W rb t er pl 1 bs) : Calls Tryd.prog 13 #[.pointer (some ⟨rb, 0, none⟩), .int .i64 j] W fun e w' => RBad w0 w' rb t e bs 1 er pl := by
  have q4 : ∀ V bs, RD w0 V rb t er pl 1 bs → Calls Tryd.prog 13 #[.pointer (some ⟨rb, 0, none⟩), .int .i64 ((4 : Nat) : Int)] V fun e w' => RBad w0 w' rb t e bs 1 er pl := fun V bs h => h.bin4 ht
  have q3 := fun V bs (h : RD w0 V rb t er pl 1 bs) => RD.binS 3 4 rfl (by omega) ht q4 h
  have q2 := fun V bs (h : RD w0 V rb t er pl 1 bs) => RD.binS 2 3 rfl (by omega) ht q3 h
  have q1 := fun V bs (h : RD w0 V rb t er pl 1 bs) => RD.binS 1 2 rfl (by omega) ht q2 h
  have hc : j = 1 ∨ j = 2 ∨ j = 3 ∨ j = 4 := by omega
  rcases hc with rfl | rfl | rfl | rfl
  · exact q1 W bs h
  · exact q2 W bs h
  · exact q3 W bs h
  · exact q4 W bs h
end
end Go.Proofs.YtjebpmjbdchdlaaDoor
