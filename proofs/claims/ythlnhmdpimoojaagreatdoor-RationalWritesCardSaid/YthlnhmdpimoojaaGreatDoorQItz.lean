/- Contracts of Format. Contract of Parse. -/
import Derived.Test.YthlnhmdpimoojaaGreatDoorQIaz
import Derived.Test.YthlnhmdpimoojaaGreatDoorQLaz
import Derived.Test.YthlnhmdpimoojaaGreatDoorSh
namespace Go.Proofs.YthlnhmdpimoojaaGreatDoor
open Go.RowKit

/-- An integer's text. -/
def itxt (z : Int) : ByteArray := if ng z = true then (⟨#[45]⟩ : ByteArray) ++ txt z.natAbs else txt z.natAbs
set_option maxHeartbeats 4000000 in
theorem formatI_any (b : Bool) (A : Option Addr) (n c : Nat) (xs : List Nat) (w : World) (h : Rd w A n c xs) (hn : n ≤ 100) (htab : Tab w) :
    Calls Tryz.prog 27 #[.agg #[.bool b, .slice A n c]] w fun e w' => e = .returned (.string (itxt (iv b xs))) ∧ Below w.heap.size w w' := by
  have X := Bx.new w b A n c
  have Bw := (Below.refl w.heap.size w).alloc (Nat.le_refl _) (.cells #[.bool b, .slice A n c] 24)
  have hk := knownI_any b A n c xs _ (h.below Bw) (by omega)
  have l1 := iv_abs (b := b) h.sm (Nat.le_of_eq h.len)
  generalize iv b xs = z at hk l1 ⊢
  have hlt : (txt z.natAbs).size ≤ 2000 := by
    have := small_len (limbs_len_le.1 l1) hn
    rw [txt_size]; omega
  have hlt2 : ¬ 9223372036854775807 < 1 + (txt z.natAbs).size := by omega
  have hcons : ng z = true → itxt z = (⟨#[45]⟩ : ByteArray) ++ txt z.natAbs := fun h => by unfold itxt; rw [h]; rfl
  have hcons2 : ng z = false → itxt z = txt z.natAbs := fun h => by unfold itxt; rw [h]; rfl
  generalize itxt z = S at hcons hcons2 ⊢
  have hf := fun W A1 n1 c1 (h : Rd W A1 n1 c1 (limbs z.natAbs)) (hn : n1 ≤ 1000) (ht : Tab W) => format_n A1 n1 c1 z.natAbs W h hn ht
  generalize txt z.natAbs = T at hlt hlt2 hcons hcons2 hf
  replace hf := Lib.hid hf
  replace hk := Lib.hid hk
  replace l1 := Lib.hid l1
  replace X := Lib.hid X
  replace Bw := Lib.hid Bw
  replace htab := Lib.hid htab
  clear h
  cases hq : ng z
  · replace hcons := Lib.hid (hcons2 hq)
    clear hcons2
    replace hq := Lib.hid hq
    go_enter Tryz.func27, Tryz.ntmps27
    go_wp2_with (go_at_call 76; refine hk.out.mono ?_; rintro e w1 ⟨A1, n1, c1, rfl, Q1, B1⟩; rw [hq.out]; refine Hid.out ?_)
    refine Lib.hid ?_
    have hn1 : n1 ≤ 1000 := by have := l1.out; have := Q1.len; omega
    have X1 := X.out.bel B1
    have Bz := Lib.hid (put_below (.bool false) (.slice A1 n1 c1) (Bw.out.trans (B1.mono Bw.out.size)) (Nat.le_refl w.heap.size))
    have hT := Lib.hid (tab_below htab.out Bz.out)
    obtain ⟨a0, a1, a2, a3⟩ := X1.at_
    have X2 := X1.put false A1 n1 c1
    obtain ⟨d0, d1, d2, d3⟩ := X2.at_
    have Q2 := Lib.hid (Q1.put X1 (.bool false) (.slice A1 n1 c1))
    have X3 := Lib.hid X2
    clear X1 Q1 B1 X2
    go_wp2_with (go_at_call 77; refine (hf.out _ _ _ _ Q2.out (by omega) hT.out).mono ?_; rintro e w2 ⟨rfl, B2'⟩; refine Hid.out ?_)
    refine Lib.hid ?_
    have X4 := X3.out.bel B2'
    have By := Lib.hid (Bz.out.trans (B2'.mono Bz.out.size))
    clear d0 d1 d2 d3 a0 a1 a2 a3 B2' Q2
    obtain ⟨d0, d1, d2, d3⟩ := X4.at_
    clear X4
    go_wp2
    go_ret
    exact ⟨by rw [hcons.out]; rfl, By.out⟩
  · replace hcons := Lib.hid (hcons hq)
    clear hcons2
    replace hq := Lib.hid hq
    go_enter Tryz.func27, Tryz.ntmps27
    go_wp2_with (go_at_call 76; refine hk.out.mono ?_; rintro e w1 ⟨A1, n1, c1, rfl, Q1, B1⟩; rw [hq.out]; refine Hid.out ?_)
    refine Lib.hid ?_
    have hn1 : n1 ≤ 1000 := by have := l1.out; have := Q1.len; omega
    have X1 := X.out.bel B1
    have Bz := Lib.hid (put_below (.bool true) (.slice A1 n1 c1) (Bw.out.trans (B1.mono Bw.out.size)) (Nat.le_refl w.heap.size))
    have hT := Lib.hid (tab_below htab.out Bz.out)
    obtain ⟨a0, a1, a2, a3⟩ := X1.at_
    have X2 := X1.put true A1 n1 c1
    obtain ⟨d0, d1, d2, d3⟩ := X2.at_
    have Q2 := Lib.hid (Q1.put X1 (.bool true) (.slice A1 n1 c1))
    have X3 := Lib.hid X2
    clear X1 Q1 B1 X2
    go_wp2_with (go_at_call 77; refine (hf.out _ _ _ _ Q2.out (by omega) hT.out).mono ?_; rintro e w2 ⟨rfl, B2'⟩; refine Hid.out ?_)
    refine Lib.hid ?_
    have X4 := X3.out.bel B2'
    have By := Lib.hid (Bz.out.trans (B2'.mono Bz.out.size))
    clear d0 d1 d2 d3 a0 a1 a2 a3 B2' Q2
    obtain ⟨d0, d1, d2, d3⟩ := X4.at_
    clear X4
    go_wp2
    go_ret
    exact ⟨by rw [hcons.out]; rfl, By.out⟩

set_option maxHeartbeats 4000000 in
theorem rformatI_any (b : Bool) (A : Option Addr) (n c : Nat) (xs : List Nat) (w : World) (h : Rd w A n c xs) (hn : n ≤ 100) :
    Calls Tryz.prog 30 #[.agg #[.bool b, .slice A n c]] w fun e w' => e = .returned (.string (itxt (iv b xs))) ∧ Below w.heap.size w w' := by
  have X := Bx.new w b A n c
  have Bw := (Below.refl w.heap.size w).alloc (Nat.le_refl _) (.cells #[.bool b, .slice A n c] 24)
  have hk := takeI_any b A n c xs _ (h.below Bw) (by omega)
  have l1 := iv_abs (b := b) h.sm (Nat.le_of_eq h.len)
  generalize iv b xs = z at hk l1 ⊢
  have hlt : (txt z.natAbs).size ≤ 2000 := by
    have := small_len (limbs_len_le.1 l1) hn
    rw [txt_size]; omega
  have hlt2 : ¬ 9223372036854775807 < 1 + (txt z.natAbs).size := by omega
  have hcons : ng z = true → itxt z = (⟨#[45]⟩ : ByteArray) ++ txt z.natAbs := fun h => by unfold itxt; rw [h]; rfl
  have hcons2 : ng z = false → itxt z = txt z.natAbs := fun h => by unfold itxt; rw [h]; rfl
  generalize itxt z = S at hcons hcons2 ⊢
  have hf := fun W A1 n1 c1 (h : Rd W A1 n1 c1 (limbs z.natAbs)) (hn : n1 ≤ 1000) => rformat_n A1 n1 c1 z.natAbs W h hn
  generalize txt z.natAbs = T at hlt hlt2 hcons hcons2 hf
  replace hf := Lib.hid hf
  replace hk := Lib.hid hk
  replace l1 := Lib.hid l1
  replace X := Lib.hid X
  replace Bw := Lib.hid Bw

  clear h
  cases hq : ng z
  · replace hcons := Lib.hid (hcons2 hq)
    clear hcons2
    replace hq := Lib.hid hq
    go_enter Tryz.func30, Tryz.ntmps30
    go_wp2_with (go_at_call 80; refine hk.out.mono ?_; rintro e w1 ⟨A1, n1, c1, rfl, Q1, B1⟩; rw [hq.out]; refine Hid.out ?_)
    refine Lib.hid ?_
    have hn1 : n1 ≤ 1000 := by have := l1.out; have := Q1.len; omega
    have X1 := X.out.bel B1
    have Bz := Lib.hid (put_below (.bool false) (.slice A1 n1 c1) (Bw.out.trans (B1.mono Bw.out.size)) (Nat.le_refl w.heap.size))
    obtain ⟨a0, a1, a2, a3⟩ := X1.at_
    have X2 := X1.put false A1 n1 c1
    obtain ⟨d0, d1, d2, d3⟩ := X2.at_
    have Q2 := Lib.hid (Q1.put X1 (.bool false) (.slice A1 n1 c1))
    have X3 := Lib.hid X2
    clear X1 Q1 B1 X2
    go_wp2_with (go_at_call 31; refine (hf.out _ _ _ _ Q2.out (by omega)).mono ?_; rintro e w2 ⟨rfl, B2'⟩; refine Hid.out ?_)
    refine Lib.hid ?_
    have X4 := X3.out.bel B2'
    have By := Lib.hid (Bz.out.trans (B2'.mono Bz.out.size))
    clear d0 d1 d2 d3 a0 a1 a2 a3 B2' Q2
    obtain ⟨d0, d1, d2, d3⟩ := X4.at_
    clear X4
    go_wp2
    go_ret
    exact ⟨by rw [hcons.out]; rfl, By.out⟩
  · replace hcons := Lib.hid (hcons hq)
    clear hcons2
    replace hq := Lib.hid hq
    go_enter Tryz.func30, Tryz.ntmps30
    go_wp2_with (go_at_call 80; refine hk.out.mono ?_; rintro e w1 ⟨A1, n1, c1, rfl, Q1, B1⟩; rw [hq.out]; refine Hid.out ?_)
    refine Lib.hid ?_
    have hn1 : n1 ≤ 1000 := by have := l1.out; have := Q1.len; omega
    have X1 := X.out.bel B1
    have Bz := Lib.hid (put_below (.bool true) (.slice A1 n1 c1) (Bw.out.trans (B1.mono Bw.out.size)) (Nat.le_refl w.heap.size))
    obtain ⟨a0, a1, a2, a3⟩ := X1.at_
    have X2 := X1.put true A1 n1 c1
    obtain ⟨d0, d1, d2, d3⟩ := X2.at_
    have Q2 := Lib.hid (Q1.put X1 (.bool true) (.slice A1 n1 c1))
    have X3 := Lib.hid X2
    clear X1 Q1 B1 X2
    go_wp2_with (go_at_call 31; refine (hf.out _ _ _ _ Q2.out (by omega)).mono ?_; rintro e w2 ⟨rfl, B2'⟩; refine Hid.out ?_)
    refine Lib.hid ?_
    have X4 := X3.out.bel B2'
    have By := Lib.hid (Bz.out.trans (B2'.mono Bz.out.size))
    clear d0 d1 d2 d3 a0 a1 a2 a3 B2' Q2
    obtain ⟨d0, d1, d2, d3⟩ := X4.at_
    clear X4
    go_wp2
    go_ret
    exact ⟨by rw [hcons.out]; rfl, By.out⟩
end Go.Proofs.YthlnhmdpimoojaaGreatDoor

namespace Go.Proofs.YthlnhmdpimoojaaGreatDoor
open Go.RowKit

/-- Does a text begin with a minus sign? What stands behind it. -/
def hm (s : ByteArray) : Bool := Lib.hasPrefix s.data.toList [45]
def rest (s : ByteArray) : ByteArray := ⟨(Lib.trimPrefix s.data.toList [45]).toArray⟩
def pok (s : ByteArray) : Bool := isDec (rest s) && !(hm s && dval (rest s).data.toList == 0)
def pval (s : ByteArray) : Int := if pok s = true then sg (hm s) (dval (rest s).data.toList) else 0
/-- What Parse leaves. -/
def RetP2 (s : ByteArray) (w : World) (e : Ending) (w' : World) : Prop := ∃ A n c, e = .returned (.tuple #[.agg #[.bool (ng (pval s)), .slice A n c], .bool (pok s)]) ∧ Rd w' A n c (limbs (pval s).natAbs) ∧ Below w.heap.size w w' ∧ n ≤ 445
theorem retP2_no {s : ByteArray} {w w' : World} {A : Option Addr} {c : Nat} (h : pok s = false) (hB : Below w.heap.size w w') : RetP2 s w (.returned (.tuple #[.agg #[.bool false, .slice A 0 c], .bool false])) w' := by
  have e : pval s = 0 := by unfold pval; rw [h]; rfl
  unfold RetP2
  rw [h, e]
  exact ⟨A, 0, c, rfl, by rw [show (0 : Int).natAbs = 0 from rfl, limbs_zero]; exact Rd.nil_ _ _ _, hB, by omega⟩
theorem retP2_yes {s : ByteArray} {w w' : World} {A : Option Addr} {n c : Nat} {z : Int} (h : pok s = true) (hz : sg (hm s) (dval (rest s).data.toList) = z) (R : Rd w' A n c (limbs z.natAbs)) (hB : Below w.heap.size w w') (hn : n ≤ 445) : RetP2 s w (.returned (.tuple #[.agg #[.bool (ng z), .slice A n c], .bool true])) w' := by
  have e : pval s = z := by unfold pval; rw [h, if_pos rfl]; exact hz
  unfold RetP2
  rw [h, e]
  exact ⟨A, n, c, rfl, R, hB, hn⟩
theorem hm_no {s : ByteArray} (h : hm s = false) : rest s = s := by
  unfold rest Lib.trimPrefix
  unfold hm at h
  rw [h]
  rfl
theorem hm_size {s : ByteArray} (h : hm s = true) : ∃ (h0 : 0 < s.size), s[0].toNat = 45 := by
  unfold hm Lib.hasPrefix at h
  cases hl : s.data.toList with
  | nil => rw [hl] at h; cases h
  | cons c r =>
    have h0 : 0 < s.size := by rw [← toList_len, hl]; simp
    refine ⟨h0, ?_⟩
    have hg := toList_get h0
    rw [hl] at hg h
    simp at hg
    simp [List.isPrefixOf] at h
    rw [← hg, ← h]; rfl
theorem hm_not {s : ByteArray} (h : hm s = false) (h0 : 0 < s.size) : s[0].toNat ≠ 45 := by
  intro hc
  unfold hm Lib.hasPrefix at h
  cases hl : s.data.toList with
  | nil => have := toList_len s; rw [hl] at this; simp at this; omega
  | cons c r =>
    have hg := toList_get h0
    rw [hl] at hg h
    simp at hg
    rw [← hg] at hc
    have : c = 45 := by apply UInt8.toNat_inj.1; rw [hc]; rfl
    subst this
    simp [List.isPrefixOf] at h
theorem hm_rest {s : ByteArray} (h : hm s = true) : rest s = s.extract 1 s.size := by
  apply ByteArray.ext
  apply Array.toList_inj.1
  rw [ext_drop]
  unfold rest Lib.trimPrefix
  unfold hm at h
  rw [h]
  rfl
theorem res_parse (W : World) (tmps : Array Value) (g : Nat) (q : Bool) {b : Bool} {A : Option Addr} {n c : Nat} (ht : tmps.getD 2 undef = .pointer (some ⟨g, 0, none⟩)) (ht3 : tmps.getD 3 undef = .bool q) (h : Bx W g b A n c) :
    (results Tryz.f103 tmps).run Tryz.prog W = .ok (.tuple #[.agg #[.bool b, .slice A n c], .bool q]) W := by
  obtain ⟨c0, c1, _⟩ := h.at_
  have e1 : tmps[2]?.getD undef = .pointer (some ⟨g, 0, none⟩) := by rw [← ht]; simp [Array.getD_eq_getD_getElem?]
  have e3 : tmps[3]?.getD undef = .bool q := by rw [← ht3]; simp [Array.getD_eq_getD_getElem?]
  simp [results, Tryz.results103, go_sem, e1, e3, c0, c1]

set_option maxHeartbeats 4000000 in
theorem parseI_any (s : ByteArray) (w : World) : Calls Tryz.prog 103 #[.string s] w (RetP2 s w) := by
  have X := Lib.hid (Bx.new w false none 0 0)
  have Bw := Lib.hid ((Below.refl w.heap.size w).alloc (Nat.le_refl _) (.cells #[.bool false, .slice none 0 0] 24))
  have hcut := fun W => Tryz.strings_CutPrefix s ⟨#[45]⟩ W
  have hcut2 : Hid (∀ W, Calls Tryz.prog 14 #[.string s, .string ⟨#[45]⟩] W fun e w' => e = .returned (.tuple #[.string (rest s), .bool (hm s)]) ∧ w' = W) := Lib.hid hcut
  clear hcut
  obtain ⟨T, hT⟩ : ∃ T, rest s = T := ⟨_, rfl⟩
  obtain ⟨q, hq⟩ : ∃ q, hm s = q := ⟨_, rfl⟩
  obtain ⟨N, hN⟩ : ∃ N, dval T.data.toList = N := ⟨_, rfl⟩
  rw [hT, hq] at hcut2
  cases hd : isDec T
  · have hno : Hid (pok s = false) := Lib.hid (by unfold pok; rw [hT, hd]; rfl)
    have hp := Lib.hid (fun W => parse_no T W hd)
    clear hd hT hq hN
    go_enter Tryz.func103, Tryz.ntmps103
    go_wp2_with (go_at_call 14; refine (hcut2.out _).mono ?_; rintro e w' ⟨rfl, hw⟩; subst hw)
    refine (hp.out _).mono ?_
    rintro e w1 ⟨A1, c1, rfl, B1⟩
    have X1 := X.out.bel B1
    have Bz := Lib.hid (put_below (.bool false) (.slice none 0 0) (Bw.out.trans (B1.mono Bw.out.size)) (Nat.le_refl w.heap.size))
    obtain ⟨a0, a1, a2, a3⟩ := X1.at_
    have X2 := Lib.hid (X1.put false none 0 0)
    clear X1 B1
    go_wp2
    refine bodyPost_ret (res_parse _ _ w.heap.size false rfl rfl X2.out) rfl ?_
    exact retP2_no hno.out Bz.out
  · have hp := fun W => parse_yes T W hd
    rw [hN] at hp
    replace hp := Lib.hid hp
    have hlen : (limbs N).length ≤ 445 := by
      obtain ⟨_, h4, ha⟩ := isDec_yes' hd
      rw [← hN]; exact dec_len ha (by rw [toList_len]; exact h4)
    by_cases hbad : q = true ∧ N = 0
    · obtain ⟨hq1, hN0⟩ := hbad
      have hno : Hid (pok s = false) := Lib.hid (by unfold pok; rw [hT, hd, hq, hN, hq1, hN0]; rfl)
      rw [hN0, limbs_zero] at hp
      rw [hq1] at hcut2
      clear hd hT hq hN hN0 hq1 hlen
      go_enter Tryz.func103, Tryz.ntmps103
      go_wp2_with (go_at_call 14; refine (hcut2.out _).mono ?_; rintro e w' ⟨rfl, hw⟩; subst hw)
      refine (hp.out _).mono ?_
      rintro e w1 ⟨A1, n1, c1, rfl, R1, B1, l1⟩
      obtain rfl : n1 = 0 := R1.len.symm
      have X1 := X.out.bel B1
      have Bz := Lib.hid (put_below (.bool false) (.slice none 0 0) (Bw.out.trans (B1.mono Bw.out.size)) (Nat.le_refl w.heap.size))
      obtain ⟨a0, a1, a2, a3⟩ := X1.at_
      have X2 := Lib.hid (X1.put false none 0 0)
      clear X1 B1 R1
      go_wp2
      refine bodyPost_ret (res_parse _ _ w.heap.size false rfl rfl X2.out) rfl ?_
      exact retP2_no hno.out Bz.out
    · have hyes : Hid (pok s = true) := Lib.hid (by
        unfold pok; rw [hT, hd, hq, hN]
        cases q
        · rfl
        · have : (N == 0) = false := by rw [beq_eq_false_iff_ne]; exact fun h => hbad ⟨rfl, h⟩
          rw [this]; rfl)
      have hz : Hid (sg (hm s) (dval (rest s).data.toList) = sg q N) := Lib.hid (by rw [hT, hq, hN])
      have hcase : Hid (∀ W A n c, Rd W A n c (limbs N) → q = false ∨ (q = true ∧ ((n : Int) == 0) = false)) := Lib.hid (fun W A n c h => by
        cases q
        · exact .inl rfl
        · refine .inr ⟨rfl, ?_⟩
          rw [beq_eq_false_iff_ne]
          intro hn
          have := h.len
          have hN0 : 0 < N := by rcases Nat.eq_zero_or_pos N with h | h; exact absurd ⟨rfl, h⟩ hbad; exact h
          rw [limbs_pos hN0] at this
          simp at this
          omega)
      have hl2 : Hid ((limbs (sg q N).natAbs).length ≤ 445) := Lib.hid (by rw [abs_sg]; exact hlen)
      have hsg := Lib.hid (fun W A n c (h : Rd W A n c (limbs N)) => signedI_any q A n c N W h)
      generalize sg q N = z at hz hl2 hsg
      clear hd hT hq hN hbad hlen
      go_enter Tryz.func103, Tryz.ntmps103
      go_wp2_with (go_at_call 14; refine (hcut2.out _).mono ?_; rintro e w' ⟨rfl, hw⟩; subst hw)
      refine (hp.out _).mono ?_
      rintro e w1 ⟨A1, n1, c1, rfl, R1, B1, l1⟩
      have hc := hcase.out _ _ _ _ R1
      have X1 := Lib.hid (X.out.bel B1)
      have Bw1 := Lib.hid (Bw.out.trans (B1.mono Bw.out.size))
      replace R1 := Lib.hid R1
      clear B1 hcase
      rcases hc with rfl | ⟨rfl, hn0⟩
      all_goals
        go_wp2_with (go_at_call 61; refine (hsg.out _ _ _ _ (by exact R1.out)).mono ?_; rintro e w2 ⟨A2, n2, c2, rfl, Q2, B2'⟩; refine Hid.out ?_)
        refine Lib.hid ?_
        have hn2 : n2 ≤ 445 := by have := hl2.out; have := Q2.len; omega
        have X2 := X1.out.bel B2'
        obtain ⟨a0, a1, a2, a3⟩ := X2.at_
        have X3 := Lib.hid (X2.put (ng z) A2 n2 c2)
        have Q3 := Lib.hid (Q2.put X2 (.bool (ng z)) (.slice A2 n2 c2))
        have Bz := Lib.hid (put_below (.bool (ng z)) (.slice A2 n2 c2) (Bw1.out.trans (B2'.mono Bw1.out.size)) (Nat.le_refl w.heap.size))
        clear X2 Q2 B2'
        go_wp2
        refine bodyPost_ret (res_parse _ _ w.heap.size true rfl rfl X3.out) rfl ?_
        exact retP2_yes hyes.out hz.out Q3.out Bz.out hn2
end Go.Proofs.YthlnhmdpimoojaaGreatDoor
