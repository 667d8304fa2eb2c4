/- The reference's reader: binary. -/
import Derived.Test.YthbkdjbmkhmlnaaDoorB12
import Derived.Test.YthbkdjbmkhmlnaaDoorB11
namespace Go.Proofs.YthbkdjbmkhmlnaaDoor
open Go.RowKit
set_option linter.unusedVariables false

section
variable {w0 W W' : World} {rb : Nat} {t : ByteArray} {r : F9.Bs} {bs ob ob2 : List GBk} {er : Int} {pl k : Nat}
theorem RA.signP (h : RA w0 W rb t r bs) (ht : t.size ≤ 100000) : Calls Tryd.prog 48 #[.pointer (some ⟨rb, 0, none⟩)] W fun e w' => e = .returned (.int .u8 (hdN r)) ∧ ∃ p, RP w0 w' rb t r p bs := by
  obtain ⟨p, hp, hq, hd, hr, S⟩ := h.st ht
  refine (sign_any t p 0 0 rb bs [] w0 W S ht hp).mono ?_
  rintro e w' ⟨rfl, S'⟩
  exact ⟨by rw [sg_hd hd], _, hq, hd, hr, S'⟩
theorem RP.call {p : Nat} (h : RP w0 W rb t r p bs) (hb : Below W.heap.size W W') : RP w0 W' rb t r p bs := ⟨h.1, h.2.1, h.2.2.1, h.2.2.2.call hb⟩
theorem RA.pre (h : RA w0 W rb t r (bs ++ ob)) : RA w0 W rb t r bs := by
  obtain ⟨p, h1, h2, S⟩ := h
  exact ⟨p, h1, h2, S.sl (List.Sublist.cons_cons _ (List.sublist_append_left bs ob))⟩
theorem RD.pre (h : RD w0 W rb t er pl k (bs ++ ob)) : RD w0 W rb t er pl k bs := by
  obtain ⟨he, p, h1, S⟩ := h
  exact ⟨he, p, h1, S.sl (List.Sublist.cons_cons _ (List.sublist_append_left bs ob))⟩
theorem lev_0 (j : Nat) (hj : 1 ≤ j ∧ j ≤ 3) : levV 0 j = 0 := by
  unfold levV
  have hc : j = 1 ∨ j = 2 ∨ j = 3 := by omega
  rcases hc with rfl | rfl | rfl <;> rfl
theorem lev_le (b j : Nat) : levV b j ≤ 9 := by
  unfold levV
  split
  · split
    · omega
    · split <;> omega
  · split
    · split
      · omega
      · split <;> omega
    · split
      · split <;> omega
      · omega

set_option maxRecDepth 100000 in
set_option maxHeartbeats 4000000 in
theorem RA.binS {f j j1 : Nat} (hj1 : j1 = j + 1) (hj : 1 ≤ j ∧ j ≤ 3) (hB : ∀ g, g ≤ f → BinC w0 rb t g) (hr : 6 * r.length + (6 - j1) ≤ f) (h : RA w0 W rb t r bs) (ht : t.size ≤ 100000) : Calls Tryd.prog 47 #[.pointer (some ⟨rb, 0, none⟩), .int .i64 j] W fun e w' => Res w0 w' rb t e bs r.length (F9.run (f + 1) (.bin j) r) := by
  have hP := Lib.hid (hB f (Nat.le_refl _) j1 r bs W (by omega) (by omega) hr h)
  obtain ⟨m, hm⟩ : ∃ m, m = r.length := ⟨_, rfl⟩
  have hrl : r.length ≤ 100000 := by
    obtain ⟨p, _, hq, hd, _, _⟩ := h.st ht
    have := (drop_len2 hd hq).2
    omega
  obtain ⟨X, hX⟩ : ∃ X, X = F9.run (f + 1) (.bin j) r := ⟨_, rfl⟩
  rw [← hX]
  have hne : ¬ j = 4 := by omega
  rw [F9.run, if_neg hne, ← hj1] at hX
  rw [← hm] at hP hrl ⊢
  have hpre : Hid ((∀ x, F9.run f (.bin j1) r = .error x → X = .error x) ∧ ∀ a r1, F9.run f (.bin j1) r = .ok (a, r1) → F9.run f (.loop j a) r1 = X) := Lib.hid ⟨fun x hx => by rw [hX, hx], fun a r1 hx => by rw [hX, hx]⟩
  have hff := Lib.hid (And.intro hr (show j1 ≤ 4 ∧ 2 ≤ j1 by omega))
  have hL := Lib.hid (fun b V => level_any b j hj V)
  have hl0 := Lib.hid (lev_0 j hj)
  have hBB := Lib.hid hB
  have hjj := Lib.hid hj
  replace ht := Lib.hid ht
  replace hm := Lib.hid hm
  have hml := Lib.hid hrl
  have g1 : (j : Int) + 1 = (j1 : Int) := by omega
  have g2 : ¬ (j : Int) = 4 := by omega
  have g3 : ((j : Int) == 4) = false := by rw [beq_eq_false_iff_ne]; omega
  have g4 : j1 ≤ 4 := by omega
  replace hj1 := Lib.hid hj1
  clear hX hB h hr hrl hj hne
  generalize F9.run f (.bin j1) r = Y at *
  go_enter Tryd.func47, Tryd.ntmps47
  go_wp2_with fail
  refine hP.out.mono ?_
  intro e w1 hR
  have hst1 : Hid (∃ l0 : Sl Nd, e = .returned (.slice l0.A l0.L.length l0.c) ∧ ((∃ (a : F9.Tr) (r2 : F9.Bs) (l : Sl Nd) (ob : List GBk), l0 = l ∧ l.L = a.pre.map toNd ∧ OBn ob l ∧ RA w0 w1 rb t r2 (bs ++ ob) ∧ F9.run f (.loop j a) r2 = X ∧ 6 * r2.length + 1 ≤ f ∧ a.pre.length + r2.length ≤ m ∧ r2.length < m + 1) ∨ (∃ (x : F9.Er) (l : Sl Nd) (ob : List GBk), X = .error x ∧ l0 = l ∧ l.L.length ≤ m + 1 ∧ OBn ob l ∧ RD w0 w1 rb t x.1 (t.size - x.2.length) 1 (bs ++ ob)))) := Lib.hid (by
    cases hY : Y with
    | error x =>
      rw [hY] at hR
      obtain ⟨l, ob, a1, a2, a3, a4⟩ := hR
      exact ⟨l, a1, .inr ⟨x, l, ob, hpre.out.1 x hY, rfl, a2, a3, a4⟩⟩
    | ok y =>
      obtain ⟨a, r1⟩ := y
      rw [hY] at hR
      obtain ⟨⟨l, ob, a1, a2, a3, a4⟩, a5⟩ := hR
      exact ⟨l, a1, .inl ⟨a, r1, l, ob, rfl, a2, a3, a4, hpre.out.2 a r1 hY, by (have := hm.out; have := hff.out; omega), a5, by omega⟩⟩)
  clear hR hpre hP hff hm
  obtain ⟨l0, rfl, hst0⟩ := hst1.out
  have hst2 : Hid (∃ b : Nat, Calls Tryd.prog 48 #[.pointer (some ⟨rb, 0, none⟩)] w1 fun e w' => e = .returned (.int .u8 (b : Int)) ∧ ((∃ (a : F9.Tr) (r2 : F9.Bs) (p : Nat) (ob : List GBk), l0.L = a.pre.map toNd ∧ b = hdN r2 ∧ OBn ob l0 ∧ RP w0 w' rb t r2 p (bs ++ ob) ∧ F9.run f (.loop j a) r2 = X ∧ 6 * r2.length + 1 ≤ f ∧ a.pre.length + r2.length ≤ m ∧ r2.length < m + 1) ∨ (∃ (x : F9.Er) (ob : List GBk), X = .error x ∧ b = 0 ∧ l0.L.length ≤ m + 1 ∧ OBn ob l0 ∧ RD w0 w' rb t x.1 (t.size - x.2.length) 1 (bs ++ ob)))) := Lib.hid (by
    rcases hst0 with ⟨a, r2, l, ob, rfl, b1, b2, b3, b4⟩ | ⟨x, l, ob, b0, rfl, b1, b2, b3⟩
    · refine ⟨hdN r2, (b3.signP ht.out).mono ?_⟩
      rintro e w' ⟨rfl, p, R⟩
      exact ⟨rfl, .inl ⟨a, r2, p, ob, b1, rfl, b2, R, b4⟩⟩
    · refine ⟨0, (b3.sign (by omega) ht.out).mono ?_⟩
      rintro e w' ⟨rfl, R⟩
      exact ⟨rfl, .inr ⟨x, ob, b0, rfl, b1, b2, R⟩⟩)
  clear hst0 hst1
  obtain ⟨b, hS⟩ := hst2.out
  clear hst2
  replace hS := Lib.hid hS
  go_wp2_with fail
  refine hS.out.mono ?_
  rintro e w2 ⟨rfl, hst⟩
  replace hst := Lib.hid hst
  clear hS
  go_wp2_with fail
  refine (hL.out b _).mono ?_
  rintro e w3 ⟨rfl, rfl⟩
  obtain ⟨lv, hlv⟩ : ∃ v, v = levV b j := ⟨_, rfl⟩
  rw [← hlv]
  replace hlv := Lib.hid hlv
  go_wp2
  go_loopg [5, 6] (m + 1) (fun k v ov wr => (∃ (a : F9.Tr) (r2 : F9.Bs) (g p : Nat) (l : Sl Nd) (ob : List GBk), v = .slice l.A l.L.length l.c ∧ ov = .int .i64 (levV (hdN r2) j : Nat) ∧ l.L = a.pre.map toNd ∧ OBn ob l ∧ RP w0 wr rb t r2 p (bs ++ ob) ∧ F9.run g (.loop j a) r2 = X ∧ 6 * r2.length + 1 ≤ g ∧ g ≤ f ∧ a.pre.length + r2.length ≤ m ∧ r2.length < k) ∨ (∃ (x : F9.Er) (l : Sl Nd) (ob : List GBk), X = .error x ∧ v = .slice l.A l.L.length l.c ∧ ov = .int .i64 0 ∧ l.L.length ≤ m + 1 ∧ OBn ob l ∧ RD w0 wr rb t x.1 (t.size - x.2.length) 1 (bs ++ ob)))
  case atStart =>
    rcases hst.out with ⟨a, r2, p, ob, b1, rfl, b2, b3, b4, b5, b6, b7⟩ | ⟨x, ob, b0, rfl, b1, b2, b3⟩
    · exact .inl ⟨a, r2, f, p, l0, ob, rfl, by rw [hlv.out], b1, b2, b3, b4, b5, Nat.le_refl _, b6, b7⟩
    · exact .inr ⟨x, l0, ob, b0, rfl, by rw [hlv.out, hl0.out]; rfl, b1, b2, b3⟩
  case round =>
    clear hst hlv
    rcases hrel with ⟨a, r2, g, p, l, ob, rfl, rfl, hLL, hO, R, hrun, hg, hgf, hbd, hk⟩ | ⟨x, l, ob, hX, rfl, rfl, hLL, hO, R⟩
    · obtain ⟨g0, rfl⟩ : ∃ g0, g = g0 + 1 := ⟨g - 1, by omega⟩
      rw [F9.run] at hrun
      have hlev := lev_is r2 hjj.out.1 hjj.out.2
      obtain ⟨op, hop⟩ : ∃ op, op = levV (hdN r2) j := ⟨_, rfl⟩
      rw [← hop] at hlev ⊢
      have hop9 : op ≤ 9 := by rw [hop]; exact lev_le _ _
      replace hop := Lib.hid hop
      by_cases h0 : op = 0
      · have hXX : X = .ok (a, r2) := by
          rw [h0] at hlev
          cases hbo : F9.bop r2 with
          | none => rw [hbo] at hrun; exact hrun.symm
          | some o2 =>
            rw [hbo] at hlev hrun
            simp only at hlev hrun
            have := (F9.bop_op hbo).1
            by_cases hk2 : F9.rul o2 = j
            · rw [if_pos hk2] at hlev; omega
            · rw [if_neg hk2] at hrun; exact hrun.symm
        subst h0
        subst hXX
        replace hLL := Lib.hid hLL
        replace hO := Lib.hid hO
        replace hbd := Lib.hid hbd
        have R2 := Lib.hid R.ra
        clear hrun hlev hg hgf hk R
        go_wp2
        go_ret
        exact ⟨⟨l, ob, rfl, hLL.out, hO.out, R2.out⟩, hbd.out⟩
      · have hbo : F9.bop r2 = some op ∧ F9.rul op = j := by
          cases hbo : F9.bop r2 with
          | none => rw [hbo] at hlev; exact absurd hlev h0
          | some o2 =>
            rw [hbo] at hlev
            simp only at hlev
            by_cases hk2 : F9.rul o2 = j
            · rw [if_pos hk2] at hlev; subst hlev; exact ⟨rfl, hk2⟩
            · rw [if_neg hk2] at hlev; exact absurd hlev h0
        rw [hbo.1] at hrun
        simp only at hrun
        rw [if_pos hbo.2, ← hj1.out] at hrun
        have hf1 : (F9.fw r2).length = 1 := by
          have hb1 := hbo.1
          unfold F9.bop at hb1
          split at hb1 <;> first | (rename_i hh; rw [hh]; rfl) | cases hb1
        have hnl := F9.nx_lt (F9.bop_op hbo.1).2.2
        obtain ⟨RR, f_1, bl, c_1⟩ := R.on hf1 (by decide)
        have hp5 : p ≤ 100000 := by have := R.1; have := ht.out; omega
        have hBn := Lib.hid (fun V (hV : RA w0 V rb t (F9.nx r2) (bs ++ ob)) => hBB.out g0 (by omega) j1 (F9.nx r2) (bs ++ ob) V (by have := hjj.out; have := hj1.out; omega) g4 (by have := hjj.out; have := hj1.out; omega) hV)
        have hop0 : (0 : Int) < (op : Int) := by omega
        have hlr : Hid (∀ V, RA w0 V rb t (F9.nx r2) (bs ++ ob) → LR ndC V l.A l.L.length l.L ∧ l.L.length ≤ l.c) := Lib.hid fun V hV => hV.lr hO
        have R1 : Hid (RA w0 (wr.setCell ⟨rb, 1, none⟩ (.int .i64 ((p : Int) + 1))) rb t (F9.nx r2) (bs ++ ob)) := Lib.hid RR
        have hlrl : Hid (LR ndC (wr.setCell ⟨rb, 1, none⟩ (.int .i64 ((p : Int) + 1))) l.A l.L.length l.L ∧ l.L.length ≤ l.c) := Lib.hid (hlr.out _ RR)
        have hnum : Hid (a.pre.length + r2.length ≤ m ∧ (F9.nx r2).length < r2.length ∧ 6 * r2.length ≤ g0 ∧ g0 + 1 ≤ f ∧ r2.length < gk ∧ l.L.length = a.pre.length ∧ m ≤ 100000) := Lib.hid (by
          have e1 : l.L.length = a.pre.length := by rw [hLL, List.length_map]
          have := hml.out
          omega)
        have hbo9 := Lib.hid (F9.bop_op hbo.1)
        replace hLL := Lib.hid hLL
        replace hO := Lib.hid hO
        clear hlev h0 hbo hf1 hg hgf hbd hk R RR hnl
        go_upto_region 8 with fail
        clear f_1 bl c_1
        obtain ⟨W9, hW9⟩ : ∃ V, V = wr.setCell ⟨rb, 1, none⟩ (.int .i64 ((p : Int) + 1)) := ⟨_, rfl⟩
        rw [← hW9] at R1 hlrl ⊢
        clear hW9 hlr
        go_wp2_with fail
        refine (hBn.out _ R1.out).mono ?_
        intro e w4 hR
        cases hq : F9.run g0 (.bin j1) (F9.nx r2) with
        | error x =>
          rw [hq] at hrun hR
          obtain ⟨lm, obm, rfl, hLm, hOm, R4⟩ := hR
          have hXX := Lib.hid (show X = .error x from hrun.symm)
          have hlr := Lib.hid (R4.pre.lr hO.out)
          have hlm := Lib.hid (R4.lr hOm)
          have hbl : Hid (l.L.length + lm.L.length ≤ 200000 ∧ l.L.length + lm.L.length + 1 ≤ m + 1) := Lib.hid (by have := hnum.out; omega)
          rw [List.append_assoc] at R4
          replace R4 := Lib.hid R4
          have hv : lm.v = .slice lm.A lm.L.length lm.c := rfl
          rw [hv]
          clear hv hrun hq hLm hOm hBn R1 hlrl hLL
          have hlb2 := Lib.hid (oper_any ⟨(op : Int), ByteArray.empty, 0⟩ [l, lm] (some ⟨w4.heap.size, 0, none⟩) 2 2 (w4.alloc (.cells #[.slice l.A l.L.length l.c, .slice lm.A lm.L.length lm.c] 22)) (LR.two2 (Cb.new _ _ _) (hlr.out.1.bel ((Below.refl _ _).alloc (Nat.le_refl _) _)) hlr.out.2 (hlm.out.1.bel ((Below.refl _ _).alloc (Nat.le_refl _) _)) hlm.out.2) (by decide) (by have := hbl.out; simp; omega))
          have RC := Lib.hid (R4.out.call ((Below.refl _ _).alloc (Nat.le_refl _) (.cells #[.slice l.A l.L.length l.c, .slice lm.A lm.L.length lm.c] 22)))
          clear hlr hlm R4
          go_wp2_with fail
          refine hlb2.out.mono ?_
          rintro e w9 ⟨l2, ob2, rfl, hL2, hO2, S2⟩
          have hv : l2.v = .slice l2.A l2.L.length l2.c := rfl
          rw [hv]
          clear hv
          have RJ := Lib.hid (RC.out.join S2)
          have hL3 : Hid (l2.L = ⟨(op : Int), ByteArray.empty, 0⟩ :: (l.L ++ lm.L)) := Lib.hid (by rw [hL2]; simp)
          replace hO2 := Lib.hid hO2
          clear S2 hL2 RC hlb2
          go_wp2_with fail
          refine (RJ.out.sign (by omega) ht.out).mono ?_
          rintro e w5 ⟨rfl, R5⟩
          replace R5 := Lib.hid R5
          clear RJ
          go_wp2_with fail
          refine (hL.out 0 _).mono ?_
          rintro e w6 ⟨rfl, rfl⟩
          rw [hl0.out]
          go_wp2
          go_roundg 0
          case measure => (have := hnum.out; omega)
          case rel => exact .inr ⟨x, l2, ob2, hXX.out, rfl, rfl, by (have h7 := hL3.out; have h8 := congrArg List.length h7; simp at h8; have := hbl.out; omega), hO2.out, R5.out⟩
        | ok y =>
          obtain ⟨bt, r3⟩ := y
          rw [hq] at hrun hR
          obtain ⟨⟨lm, obm, rfl, hLm, hOm, R4⟩, hb2⟩ := hR
          have hXX := Lib.hid (show F9.run g0 (.loop j (.bin op a bt)) r3 = X from hrun)
          have hlr := Lib.hid (R4.pre.lr hO.out)
          have hlm := Lib.hid (R4.lr hOm)
          have hml2 : lm.L.length = bt.pre.length := by rw [hLm, List.length_map]
          have hbl : Hid (l.L.length + lm.L.length ≤ 200000) := Lib.hid (by have := hnum.out; omega)
          have hn2 : Hid (6 * r3.length + 1 ≤ g0 ∧ g0 ≤ f ∧ r3.length + 1 < gk ∧ a.pre.length + bt.pre.length + 1 + r3.length ≤ m) := Lib.hid (by have := hnum.out; omega)
          rw [List.append_assoc] at R4
          replace R4 := Lib.hid R4
          replace hLm := Lib.hid hLm
          have hv : lm.v = .slice lm.A lm.L.length lm.c := rfl
          rw [hv]
          clear hv hrun hq hOm hBn R1 hlrl hb2 hml2
          have hlb2 := Lib.hid (oper_any ⟨(op : Int), ByteArray.empty, 0⟩ [l, lm] (some ⟨w4.heap.size, 0, none⟩) 2 2 (w4.alloc (.cells #[.slice l.A l.L.length l.c, .slice lm.A lm.L.length lm.c] 22)) (LR.two2 (Cb.new _ _ _) (hlr.out.1.bel ((Below.refl _ _).alloc (Nat.le_refl _) _)) hlr.out.2 (hlm.out.1.bel ((Below.refl _ _).alloc (Nat.le_refl _) _)) hlm.out.2) (by decide) (by have := hbl.out; simp; omega))
          have RC := Lib.hid (R4.out.call ((Below.refl _ _).alloc (Nat.le_refl _) (.cells #[.slice l.A l.L.length l.c, .slice lm.A lm.L.length lm.c] 22)))
          clear hlr hlm R4
          go_wp2_with fail
          refine hlb2.out.mono ?_
          rintro e w9 ⟨l2, ob2, rfl, hL2, hO2, S2⟩
          have hv : l2.v = .slice l2.A l2.L.length l2.c := rfl
          rw [hv]
          clear hv
          have RJ := Lib.hid (RC.out.join S2)
          have hL3 : Hid (l2.L = ⟨(op : Int), ByteArray.empty, 0⟩ :: (l.L ++ lm.L)) := Lib.hid (by rw [hL2]; simp)
          replace hO2 := Lib.hid hO2
          clear S2 hL2 RC hlb2
          go_wp2_with fail
          refine (RJ.out.signP ht.out).mono ?_
          rintro e w5 ⟨rfl, p5, R5⟩
          replace R5 := Lib.hid R5
          clear RJ
          go_wp2_with fail
          refine (hL.out _ _).mono ?_
          rintro e w6 ⟨rfl, rfl⟩
          obtain ⟨lv5, hlv5⟩ : ∃ v, v = levV (hdN r3) j := ⟨_, rfl⟩
          rw [← hlv5]
          replace hlv5 := Lib.hid hlv5
          go_wp2
          go_roundg (r3.length + 1)
          case measure => exact hn2.out.2.2.1
          case rel => exact .inl ⟨.bin op a bt, r3, g0, p5, l2, ob2, rfl, by rw [hlv5.out], by rw [hL3.out, hLL.out, hLm.out, F9.Tr.pre, List.map_cons, List.map_append]; rfl, hO2.out, R5.out, hXX.out, hn2.out.1, hn2.out.2.1, by (have h7 : (F9.Tr.bin op a bt).pre.length = 1 + a.pre.length + bt.pre.length := by rw [F9.Tr.pre, List.length_cons, List.length_append]; omega); rw [h7]; have := hn2.out; omega, Nat.lt_succ_self _⟩
    · subst hX
      replace R := Lib.hid R
      replace hO := Lib.hid hO
      replace hLL := Lib.hid hLL
      go_wp2
      go_ret
      exact ⟨l, ob, rfl, hLL.out, hO.out, R.out⟩
set_option maxRecDepth 100000 in
set_option maxHeartbeats 4000000 in
theorem bin4_any {m : Nat} {X : F9.Rs (F9.Tr × F9.Bs)} (hR : Calls Tryd.prog 78 #[.pointer (some ⟨rb, 0, none⟩)] W fun e w' => Res w0 w' rb t e bs m X) : Calls Tryd.prog 47 #[.pointer (some ⟨rb, 0, none⟩), .int .i64 4] W fun e w' => Res w0 w' rb t e bs m X := by
  replace hR := Lib.hid hR
  go_enter Tryd.func47, Tryd.ntmps47
  go_wp2_with fail
  refine hR.out.mono ?_
  intro e w1 hS
  have hst : Hid (∃ l : Sl Nd, e = .returned (.slice l.A l.L.length l.c) ∧ Res w0 w1 rb t (.returned (.slice l.A l.L.length l.c)) bs m X) := Lib.hid (by
    cases X with
    | error x =>
      obtain ⟨l, ob, rfl, a2⟩ := hS
      exact ⟨l, rfl, l, ob, rfl, a2⟩
    | ok y =>
      obtain ⟨a, r1⟩ := y
      obtain ⟨⟨l, ob, rfl, a2⟩, a3⟩ := hS
      exact ⟨l, rfl, ⟨l, ob, rfl, a2⟩, a3⟩)
  clear hS hR
  obtain ⟨l, rfl, hS⟩ := hst.out
  replace hS := Lib.hid hS
  clear hst
  go_wp2
  go_ret
  exact hS.out
/-- The contract of binary, at every fuel. -/
theorem bin_all (w0 : World) (rb : Nat) (t : ByteArray) (ht : t.size ≤ 100000) : ∀ f, BinC w0 rb t f := by
  intro f
  induction f using Nat.strongRecOn with
  | _ f ih =>
    intro j r bs V h1 h4 hf h
    by_cases hj : j = 4
    · subst hj
      obtain ⟨f0, rfl⟩ : ∃ f0, f = f0 + 2 := ⟨f - 2, by omega⟩
      exact bin4_any (RA.raised (ih f0 (by omega)) (by omega) h ht)
    · obtain ⟨f0, rfl⟩ : ∃ f0, f = f0 + 1 := ⟨f - 1, by omega⟩
      exact RA.binS rfl (by omega) (fun g hg => ih g (by omega)) (by omega) h ht
end
end Go.Proofs.YthbkdjbmkhmlnaaDoor
namespace Go.Proofs.YthbkdjbmkhmlnaaDoor
open Go.RowKit
set_option linter.unusedVariables false

/-- What a text is read as: the error, its place, the response, the nodes. -/
def parV (l : F9.Bs) : Int × Nat × ByteArray × List Nd :=
  if 65536 < l.length then (2, 0, ⟨#[]⟩, [])
  else match rdT l with
    | .error x => ((x.1 : Int), l.length - x.2.length, ⟨#[]⟩, [])
    | .ok (n, tr) => if 64 < tr.pre.length then (2, 0, ⟨#[]⟩, []) else (0, 0, ⟨n.toArray⟩, tr.pre.map toNd)
theorem rdT_wf {l : F9.Bs} {n : F9.Bs} {tr : F9.Tr} (h : rdT l = .ok (n, tr)) : tr.wf ∧ nameL n = true := by
  unfold rdT at h
  split at h
  · rename_i h1
    split at h
    · generalize F9.nx (F9.nx (F9.trm l)) = r2 at h
      have hfu := F9.fuel (6 * r2.length + 5) (.bin 1) r2 (fun k e => by injection e; omega) (fun _ _ e => by cases e) trivial (Nat.le_refl _)
      unfold F9.rdR at h
      cases hz : F9.run (6 * r2.length + 5) (.bin 1) r2 with
      | error y => rw [hz] at h; cases h
      | ok y =>
        obtain ⟨t1, r3⟩ := y
        have hw := (hfu.2 t1 r3 hz).1
        rw [hz] at h
        simp only at h
        by_cases hx : F9.fw r3 = []
        · rw [if_pos hx] at h
          simp only at h
          injection h with h
          injection h with ha hb
          subst ha hb
          exact ⟨hw, h1⟩
        · rw [if_neg hx] at h
          cases h
    · cases h
  · cases h
theorem rdT_err {l : F9.Bs} {x : F9.Er} (h : rdT l = .error x) : ¬ x.1 = 0 := by
  unfold rdT at h
  split at h
  · split at h
    · generalize F9.nx (F9.nx (F9.trm l)) = r2 at h
      have hfu := F9.fuel (6 * r2.length + 5) (.bin 1) r2 (fun k e => by injection e; omega) (fun _ _ e => by cases e) trivial (Nat.le_refl _)
      unfold F9.rdR at h
      cases hz : F9.run (6 * r2.length + 5) (.bin 1) r2 with
      | error y => rw [hz] at h; simp only at h; injection h with h; subst h; exact hfu.1 _ hz
      | ok y =>
        obtain ⟨t1, r3⟩ := y
        rw [hz] at h
        simp only at h
        by_cases hx : F9.fw r3 = []
        · rw [if_pos hx] at h; cases h
        · rw [if_neg hx] at h; simp only at h; injection h with h; subst h; simp
    · injection h with h; subst h; simp
  · injection h with h; subst h; simp
theorem LR_far {W : World} {g ty : Nat} {cs : Array Value} {A : Option Addr} {n : Nat} {L : List Nd} (h : LR ndC W A n L) (hc : Cb W g cs ty) (hs : cs.size ≤ 2) (i : Nat) (v : Value) : LR ndC (W.setCell ⟨g, i, none⟩ v) A n L := by
  refine ⟨h.len, ?_, fun x _ => ⟨trivial, trivial, trivial⟩⟩
  rcases h.mem with h0 | ⟨b, o, hA, hlt, hcs⟩
  · exact .inl h0
  · rcases Nat.eq_zero_or_pos n with h0 | h0
    · exact .inl h0
    have hl0 : 0 < L.length := by rw [h.len]; exact h0
    have hx : L[0]? = some L[0] := List.getElem?_eq_getElem hl0
    have hne : b ≠ g := by
      rintro rfl
      have h2 := hcs 0 _ hx 2 _ rfl
      rw [cell_of_row W b _ _ ty (0, 0) hc, Array.getElem?_eq_none (by omega)] at h2
      cases h2
    refine .inr ⟨b, o, hA, by simpa using hlt, fun k x hk j u hu => ?_⟩
    rw [World.cell?_of_block (Below.heap_setCell _ _ _ _ hne)]
    exact hcs k x hk j u hu
/-- What is returned for a text. -/
def ParR (t : ByteArray) (w : World) (e : Ending) (w' : World) : Prop := ∃ (s : ByteArray) (l : Sl Nd) (q : Nat) (er : Int), e = .returned (.tuple #[.agg #[.string s, l.v], .int .i64 q, .int .i64 er]) ∧ parV t.data.toList = (er, q, s, l.L) ∧ l.L.length ≤ l.c ∧ LR ndC w' l.A l.L.length l.L ∧ Below w.heap.size w w'
end Go.Proofs.YthbkdjbmkhmlnaaDoor
namespace Go.Proofs.YthbkdjbmkhmlnaaDoor
open Go.RowKit
set_option linter.unusedVariables false

theorem res_rp (W : World) (tmps : Array Value) (g : Nat) {v0 v1 a b : Value} (h2 : tmps.getD 2 undef = .pointer (some ⟨g, 0, none⟩)) (h3 : tmps.getD 3 undef = a) (h4 : tmps.getD 4 undef = b) (h : Cb W g #[v0, v1] 24) :
    (results Tryd.f23 tmps).run Tryd.prog W = .ok (.tuple #[.agg #[v0, v1], a, b]) W := by
  have c0 : W.cell? ⟨g, 0, none⟩ = some v0 := h.cell rfl
  have c1 : W.cell? ⟨g, 1, none⟩ = some v1 := h.cell rfl
  have h2' : tmps[2]?.getD undef = .pointer (some ⟨g, 0, none⟩) := by rw [← h2]; simp [Array.getD_eq_getD_getElem?]
  have h3' : tmps[3]?.getD undef = a := by rw [← h3]; simp [Array.getD_eq_getD_getElem?]
  have h4' : tmps[4]?.getD undef = b := by rw [← h4]; simp [Array.getD_eq_getD_getElem?]
  simp [results, Tryd.results23, go_sem, h2', h3', h4', c0, c1]
theorem parE {l : F9.Bs} (h : ¬ 65536 < l.length) {x : F9.Er} (hx : rdT l = .error x) : parV l = ((x.1 : Int), l.length - x.2.length, ⟨#[]⟩, []) := by
  unfold parV; rw [if_neg h, hx]
theorem parO {l : F9.Bs} (h : ¬ 65536 < l.length) {n : F9.Bs} {tr : F9.Tr} (hx : rdT l = .ok (n, tr)) (h64 : ¬ 64 < tr.pre.length) : parV l = (0, 0, ⟨n.toArray⟩, tr.pre.map toNd) := by
  unfold parV; rw [if_neg h, hx]; simp only; rw [if_neg h64]
theorem parO2 {l : F9.Bs} (h : ¬ 65536 < l.length) {n : F9.Bs} {tr : F9.Tr} (hx : rdT l = .ok (n, tr)) (h64 : 64 < tr.pre.length) : parV l = (2, 0, ⟨#[]⟩, []) := by
  unfold parV; rw [if_neg h, hx]; simp only; rw [if_pos h64]
section
variable {w0 W W' : World} {rb : Nat} {t : ByteArray} {r : F9.Bs} {bs ob ob2 : List GBk} {er : Int} {pl k : Nat}
theorem RA.setb {g ty : Nat} {cs : Array Value} (h : RA w0 W rb t r ((g, cs, ty) :: bs)) (i : Nat) (v : Value) (hv : ∀ z, v ≠ .int .u32 z) : RA w0 (W.setCell ⟨g, i, none⟩ v) rb t r ((g, cs.setIfInBounds i v, ty) :: bs) := by
  obtain ⟨p, h1, h2, S⟩ := h
  exact ⟨p, h1, h2, S.set 1 i v rfl hv⟩
theorem RD.setb {g ty : Nat} {cs : Array Value} (h : RD w0 W rb t er pl k ((g, cs, ty) :: bs)) (i : Nat) (v : Value) (hv : ∀ z, v ≠ .int .u32 z) : RD w0 (W.setCell ⟨g, i, none⟩ v) rb t er pl k ((g, cs.setIfInBounds i v, ty) :: bs) := by
  obtain ⟨he, p, h1, S⟩ := h
  exact ⟨he, p, h1, S.set 1 i v rfl hv⟩
theorem RA.cb {g ty : Nat} {cs : Array Value} (h : RA w0 W rb t r ((g, cs, ty) :: bs)) : Cb W g cs ty := by
  obtain ⟨p, h1, h2, S⟩ := h
  exact S.cb 1 rfl
theorem RD.cb {g ty : Nat} {cs : Array Value} (h : RD w0 W rb t er pl k ((g, cs, ty) :: bs)) : Cb W g cs ty := by
  obtain ⟨he, p, h1, S⟩ := h
  exact S.cb 1 rfl
theorem RP.fail {p : Nat} (h : RP w0 W rb t r p bs) : Calls Tryd.prog 49 #[.pointer (some ⟨rb, 0, none⟩), .int .i64 3] W fun e w' => e = .returned (.tuple #[]) ∧ RD w0 w' rb t 3 (t.size - r.length) 0 bs := by
  obtain ⟨h1, h2, h3, S⟩ := h
  have hl := (drop_len2 h2 h1).1
  refine (fail_any t p 0 0 rb bs [] w0 W S 3).mono ?_
  rintro e w' ⟨rfl, S'⟩
  rw [if_pos rfl, if_pos rfl] at S'
  exact ⟨rfl, by decide, p, by omega, hl ▸ S'⟩
theorem RP.setb {p g ty : Nat} {cs : Array Value} (h : RP w0 W rb t r p ((g, cs, ty) :: bs)) (i : Nat) (v : Value) (hv : ∀ z, v ≠ .int .u32 z) : RP w0 (W.setCell ⟨g, i, none⟩ v) rb t r p ((g, cs.setIfInBounds i v, ty) :: bs) := ⟨h.1, h.2.1, h.2.2.1, h.2.2.2.set 1 i v rfl hv⟩
theorem RA.more (h : RA w0 W rb t r bs) (cs : Array Value) (ty : Nat) (hn : NoL cs) : RA w0 (W.alloc (.cells cs ty)) rb t r ((W.heap.size, cs, ty) :: bs) := by
  obtain ⟨p, h1, h2, S⟩ := h
  exact ⟨p, h1, h2, (S.alloc cs ty hn).swap⟩
theorem RD.more (h : RD w0 W rb t er pl k bs) (cs : Array Value) (ty : Nat) (hn : NoL cs) : RD w0 (W.alloc (.cells cs ty)) rb t er pl k ((W.heap.size, cs, ty) :: bs) := by
  obtain ⟨he, p, h1, S⟩ := h
  exact ⟨he, p, h1, (S.alloc cs ty hn).swap⟩
end
set_option maxRecDepth 100000 in
set_option maxHeartbeats 4000000 in
theorem rparse_any (t : ByteArray) (w : World) (ht : t.size ≤ 1000000) : Calls Tryd.prog 23 #[.string t] w fun e w' => ParR t w e w' := by
  have hlen : t.data.toList.length = t.size := toList_len t
  by_cases hb : 65536 < t.size
  · have g1 : (65536 : Int) < (t.size : Int) := by omega
    have hp : Hid (parV t.data.toList = (2, 0, ⟨#[]⟩, [])) := Lib.hid (by unfold parV; rw [hlen, if_pos hb])
    have S0 := Lib.hid ((St.new w).alloc #[.string ⟨#[]⟩, .slice none 0 0] 24 (noLof rfl))
    clear hlen hb
    go_enter Tryd.func23, Tryd.ntmps23
    go_wp2
    exact bodyPost_ret (res_rp _ _ w.heap.size (v0 := .string ⟨#[]⟩) (v1 := .slice none 0 0) (a := .int .i64 0) (b := .int .i64 2) rfl rfl rfl (S0.out.cb 0 rfl)) rfl ⟨⟨#[]⟩, ⟨none, 0, []⟩, 0, 2, rfl, hp.out, Nat.le_refl _, LR.nil_ _ _ _, S0.out.bel⟩
  · have g1 : ¬ (65536 : Int) < (t.size : Int) := by omega
    have hspec := Lib.hid (show ¬ 65536 < t.data.toList.length by rw [hlen]; exact hb)
    have ht2 : t.size ≤ 100000 := by omega
    clear ht
    have ht := Lib.hid ht2
    clear ht2
    have S1 := ((St.new w).alloc #[.string ⟨#[]⟩, .slice none 0 0] 24 (noLof rfl))
    have S2 := S1.allocAt (w.heap.size + 1) (r9C t 0 0 0) 77 (noLof rfl) (by simp)
    obtain ⟨fb, hfb⟩ : ∃ b, b = w.heap.size := ⟨_, rfl⟩
    obtain ⟨rb, hrb⟩ : ∃ b, b = w.heap.size + 1 := ⟨_, rfl⟩
    rw [← hrb, ← hfb] at S2
    have R0 : Hid (RA w _ rb t (F9.trm t.data.toList) [(fb, #[.string ⟨#[]⟩, .slice none 0 0], 24)]) := Lib.hid ⟨0, Nat.zero_le _, by rw [List.drop_zero], S2⟩
    clear S1 S2 hb
    obtain ⟨r0, hr0⟩ : ∃ r0, r0 = F9.trm t.data.toList := ⟨_, rfl⟩
    rw [← hr0] at R0
    cases h1 : nameL (F9.fw r0) with
    | false =>
      have hsp : Hid (parV t.data.toList = (3, t.size - r0.length, ⟨#[]⟩, [])) := Lib.hid (by
        rw [parE hspec.out (show rdT t.data.toList = .error (3, r0) by unfold rdT; rw [← hr0, if_neg (by rw [h1]; simp)]), hlen]
        rfl)
      obtain ⟨pl, hpl0⟩ : ∃ pl, pl = t.size - r0.length := ⟨_, rfl⟩
      rw [← hpl0] at hsp
      replace h1 := Lib.hid h1
      clear hspec hlen hr0
      replace hpl0 := Lib.hid hpl0
      go_enter Tryd.func23, Tryd.ntmps23
      go_upto_region 4 with fail
      rw [← hrb, ← hfb]
      clear hrb hfb
      go_wp2_with fail
      refine (R0.out.nameN ht.out h1.out).mono ?_
      rw [← hpl0.out]
      rintro e w3 ⟨rfl, R3⟩
      have R4 := Lib.hid (R3.more #[.string ⟨#[]⟩, .slice none 0 0] 24 (noLof rfl))
      clear R0 h1 R3
      obtain ⟨ec, hec⟩ : ∃ ec : Int, ec = 3 := ⟨_, rfl⟩
      rw [← hec] at hsp R4
      clear hec
      go_wp2_with fail
      refine (R4.out.want (c := 126) (by omega) ht.out ⟨rfl, rfl, by decide⟩).mono ?_
      rintro e w5 ⟨rfl, R5⟩
      replace R5 := Lib.hid R5
      clear R4
      have hB0 := Lib.hid (RD.binary ht.out (j := 1) (by decide) (by decide) (R5.out.mono (Nat.zero_le 1)))
      clear R5
      go_wp2_with fail
      refine hB0.out.mono ?_
      rintro e w6 ⟨l, ob, rfl, hl, hO, R6⟩
      have hv : l.v = .slice l.A l.L.length l.c := rfl
      rw [hv]
      have fb1 := R6.cb.frozen 1
      have cb1 := R6.cb.cell (i := 1) rfl
      have lb1 := R6.cb.lt
      have RS1 := Lib.hid (R6.setb 1 (.slice l.A l.L.length l.c) (fun _ => by simp))
      clear hv hl hO R6 hB0
      go_wp2_with fail
      refine (RS1.out.sign (by omega) ht.out).mono ?_
      rintro e w7 ⟨rfl, R7⟩
      obtain ⟨he, p, hp, S⟩ := R7
      have c_1 := S.cl 0 1 rfl rfl
      have lrb := S.lt 0 rfl
      have R7 := Lib.hid (show RD w w7 rb t ec pl 1 _ from ⟨he, p, hp, S⟩)
      clear fb1 cb1 lb1 RS1 S he
      by_cases hpl : p < t.size
      · have g1 : (p : Int) < (t.size : Int) := by omega
        clear hpl hp
        go_wp2_with fail
        refine (R7.out.fail (by omega) ht.out 3).mono ?_
        rintro e w8 ⟨rfl, R8⟩
        clear R7 c_1 lrb
        have RR := Lib.hid R8
        clear R8
        obtain ⟨he, p2, hp2, S⟩ := RR.out
        have c_2 := S.cl 0 2 rfl rfl
        have c_3 := S.cl 0 3 rfl rfl
        have lrb := S.lt 0 rfl
        have f_0 := S.f 2 0 rfl
        have f_1 := S.f 2 1 rfl
        have b_0 := S.cl 2 0 rfl rfl
        have b_1 := S.cl 2 1 rfl rfl
        have bl := S.lt 2 rfl
        have S4 := Lib.hid ((S.set 2 0 (.string ⟨#[]⟩) rfl (fun _ => by simp)).set 2 1 (.slice none 0 0) rfl (fun _ => by simp))
        have he1 : (ec == 0) = false := by rw [beq_eq_false_iff_ne]; exact he
        clear S RR hp2 he
        go_upto_region 10 with fail
        go_region
        go_wp2
        exact bodyPost_ret (res_rp _ _ fb (v0 := .string ⟨#[]⟩) (v1 := .slice none 0 0) (a := .int .i64 pl) (b := .int .i64 ec) rfl rfl rfl (S4.out.drew.cb 2 rfl)) rfl ⟨⟨#[]⟩, ⟨none, 0, []⟩, pl, ec, rfl, hsp.out, Nat.le_refl _, LR.nil_ _ _ _, S4.out.bel.drew⟩
      · have g1 : ¬ (p : Int) < (t.size : Int) := by omega
        have RR := Lib.hid R7.out
        clear hpl hp R7 lrb
        obtain ⟨he, p2, hp2, S⟩ := RR.out
        have c_2 := S.cl 0 2 rfl rfl
        have c_3 := S.cl 0 3 rfl rfl
        have lrb := S.lt 0 rfl
        have f_0 := S.f 2 0 rfl
        have f_1 := S.f 2 1 rfl
        have b_0 := S.cl 2 0 rfl rfl
        have b_1 := S.cl 2 1 rfl rfl
        have bl := S.lt 2 rfl
        have S4 := Lib.hid ((S.set 2 0 (.string ⟨#[]⟩) rfl (fun _ => by simp)).set 2 1 (.slice none 0 0) rfl (fun _ => by simp))
        have he1 : (ec == 0) = false := by rw [beq_eq_false_iff_ne]; exact he
        clear S RR hp2 he
        go_upto_region 10 with fail
        go_region
        go_wp2
        exact bodyPost_ret (res_rp _ _ fb (v0 := .string ⟨#[]⟩) (v1 := .slice none 0 0) (a := .int .i64 pl) (b := .int .i64 ec) rfl rfl rfl (S4.out.drew.cb 2 rfl)) rfl ⟨⟨#[]⟩, ⟨none, 0, []⟩, pl, ec, rfl, hsp.out, Nat.le_refl _, LR.nil_ _ _ _, S4.out.bel.drew⟩
    | true =>
      obtain ⟨ns, hns⟩ : ∃ s : ByteArray, s = ⟨(F9.fw r0).toArray⟩ := ⟨_, rfl⟩
      by_cases h2 : F9.fw (F9.nx r0) = [126]
      · obtain ⟨r2, hr2⟩ : ∃ r2, r2 = F9.nx (F9.nx r0) := ⟨_, rfl⟩
        have hB := Lib.hid (fun bs V (hV : RA w V rb t r2 bs) => bin_all w rb t ht.out (6 * r2.length + 5) 1 r2 bs V (by decide) (by decide) (Nat.le_refl _) hV)
        have hrd : ∀ Y, F9.rdR (6 * r2.length + 5) r2 = Y → rdT t.data.toList = match Y with | .error x => .error x | .ok tr => .ok (F9.fw r0, tr) := fun Y hY => by
          unfold rdT
          rw [← hr0, if_pos h1, if_pos h2, ← hr2, hY]
          cases Y <;> rfl
        have hru : ∀ Y, F9.run (6 * r2.length + 5) (.bin 1) r2 = Y → F9.rdR (6 * r2.length + 5) r2 = match Y with | .error x => .error x | .ok (tr, r1) => if F9.fw r1 = [] then .ok tr else .error (3, r1) := fun Y hY => by
          unfold F9.rdR
          rw [hY]
          cases Y <;> rfl
        cases hq : F9.run (6 * r2.length + 5) (.bin 1) r2 with
        | error x =>
          have hx := hrd _ (hru _ hq)
          have hsp := Lib.hid (parE hspec.out hx)
          rw [hlen] at hsp
          rw [hq] at hB
          obtain ⟨pl, hpl0⟩ : ∃ pl, pl = t.size - x.2.length := ⟨_, rfl⟩
          obtain ⟨ec, hec⟩ : ∃ ec : Int, ec = (x.1 : Int) := ⟨_, rfl⟩
          rw [← hpl0, ← hec] at hsp
          have hBe : Hid (∀ bs V, RA w V rb t r2 bs → Calls Tryd.prog 47 #[.pointer (some ⟨rb, 0, none⟩), .int .i64 1] V fun e w' => RBad w w' rb t e bs (r2.length + 1) ec pl) := Lib.hid fun bs V hV => by rw [hec, hpl0]; exact hB.out bs V hV
          replace h1 := Lib.hid h1
          replace h2 := Lib.hid h2
          replace hr2 := Lib.hid hr2
          replace hns := Lib.hid hns
          clear hspec hlen hr0 hrd hru hq hx hB hpl0 hec
          go_enter Tryd.func23, Tryd.ntmps23
          go_upto_region 4 with fail
          rw [← hrb, ← hfb]
          clear hrb hfb
          go_wp2_with fail
          refine (R0.out.nameY ht.out h1.out).mono ?_
          rw [← hns.out]
          rintro e w3 ⟨rfl, R3⟩
          have R4 := Lib.hid (R3.more #[.string ns, .slice none 0 0] 24 (noLof rfl))
          clear R0 h1 R3
          go_wp2_with fail
          refine (R4.out.wantY ht.out (c := 126) ⟨rfl, rfl, by decide⟩ h2.out).mono ?_
          rw [← hr2.out]
          rintro e w5 ⟨rfl, R5⟩
          replace R5 := Lib.hid R5
          clear R4 h2
          have hB0 := Lib.hid (hBe.out _ _ R5.out)
          clear R5 hBe
          go_wp2_with fail
          refine hB0.out.mono ?_
          rintro e w6 ⟨l, ob, rfl, hl, hO, R6⟩
          have hv : l.v = .slice l.A l.L.length l.c := rfl
          rw [hv]
          have fb1 := R6.cb.frozen 1
          have cb1 := R6.cb.cell (i := 1) rfl
          have lb1 := R6.cb.lt
          have RS1 := Lib.hid (R6.setb 1 (.slice l.A l.L.length l.c) (fun _ => by simp))
          clear hv hl hO R6 hB0
          go_wp2_with fail
          refine (RS1.out.sign (by omega) ht.out).mono ?_
          rintro e w7 ⟨rfl, R7⟩
          obtain ⟨he, p, hp, S⟩ := R7
          have c_1 := S.cl 0 1 rfl rfl
          have lrb := S.lt 0 rfl
          have R7 := Lib.hid (show RD w w7 rb t ec pl 1 _ from ⟨he, p, hp, S⟩)
          clear fb1 cb1 lb1 RS1 S he
          by_cases hpl : p < t.size
          · have g1 : (p : Int) < (t.size : Int) := by omega
            clear hpl hp
            go_wp2_with fail
            refine (R7.out.fail (by omega) ht.out 3).mono ?_
            rintro e w8 ⟨rfl, R8⟩
            clear R7 c_1 lrb
            have RR := Lib.hid R8
            clear R8
            obtain ⟨he, p2, hp2, S⟩ := RR.out
            have c_2 := S.cl 0 2 rfl rfl
            have c_3 := S.cl 0 3 rfl rfl
            have lrb := S.lt 0 rfl
            have f_0 := S.f 2 0 rfl
            have f_1 := S.f 2 1 rfl
            have b_0 := S.cl 2 0 rfl rfl
            have b_1 := S.cl 2 1 rfl rfl
            have bl := S.lt 2 rfl
            have S4 := Lib.hid ((S.set 2 0 (.string ⟨#[]⟩) rfl (fun _ => by simp)).set 2 1 (.slice none 0 0) rfl (fun _ => by simp))
            have he1 : (ec == 0) = false := by rw [beq_eq_false_iff_ne]; exact he
            clear S RR hp2 he
            go_upto_region 10 with fail
            go_region
            go_wp2
            exact bodyPost_ret (res_rp _ _ fb (v0 := .string ⟨#[]⟩) (v1 := .slice none 0 0) (a := .int .i64 pl) (b := .int .i64 ec) rfl rfl rfl (S4.out.drew.cb 2 rfl)) rfl ⟨⟨#[]⟩, ⟨none, 0, []⟩, pl, ec, rfl, hsp.out, Nat.le_refl _, LR.nil_ _ _ _, S4.out.bel.drew⟩
          · have g1 : ¬ (p : Int) < (t.size : Int) := by omega
            have RR := Lib.hid R7.out
            clear hpl hp R7 lrb
            obtain ⟨he, p2, hp2, S⟩ := RR.out
            have c_2 := S.cl 0 2 rfl rfl
            have c_3 := S.cl 0 3 rfl rfl
            have lrb := S.lt 0 rfl
            have f_0 := S.f 2 0 rfl
            have f_1 := S.f 2 1 rfl
            have b_0 := S.cl 2 0 rfl rfl
            have b_1 := S.cl 2 1 rfl rfl
            have bl := S.lt 2 rfl
            have S4 := Lib.hid ((S.set 2 0 (.string ⟨#[]⟩) rfl (fun _ => by simp)).set 2 1 (.slice none 0 0) rfl (fun _ => by simp))
            have he1 : (ec == 0) = false := by rw [beq_eq_false_iff_ne]; exact he
            clear S RR hp2 he
            go_upto_region 10 with fail
            go_region
            go_wp2
            exact bodyPost_ret (res_rp _ _ fb (v0 := .string ⟨#[]⟩) (v1 := .slice none 0 0) (a := .int .i64 pl) (b := .int .i64 ec) rfl rfl rfl (S4.out.drew.cb 2 rfl)) rfl ⟨⟨#[]⟩, ⟨none, 0, []⟩, pl, ec, rfl, hsp.out, Nat.le_refl _, LR.nil_ _ _ _, S4.out.bel.drew⟩
        | ok y =>
          obtain ⟨tr, r1⟩ := y
          have hx := hrd _ (hru _ hq)
          rw [hq] at hB
          replace h1 := Lib.hid h1
          replace h2 := Lib.hid h2
          replace hr2 := Lib.hid hr2
          replace hns := Lib.hid hns
          by_cases h3 : F9.fw r1 = []
          · simp only [if_pos h3] at hx
            have hr1 : r1 = [] := by
              cases r1 with
              | nil => rfl
              | cons c s => exact absurd (F9.fw_pos (r := c :: s) (by simp)) (by rw [h3]; simp)
            subst hr1
            have hxx := Lib.hid hx
            clear hr0 hrd hru hq hx h3 hlen
            go_enter Tryd.func23, Tryd.ntmps23
            go_upto_region 4 with fail
            rw [← hrb, ← hfb]
            clear hrb hfb
            go_wp2_with fail
            refine (R0.out.nameY ht.out h1.out).mono ?_
            rw [← hns.out]
            rintro e w3 ⟨rfl, R3⟩
            have R4 := Lib.hid (R3.more #[.string ns, .slice none 0 0] 24 (noLof rfl))
            clear R0 h1 R3
            go_wp2_with fail
            refine (R4.out.wantY ht.out (c := 126) ⟨rfl, rfl, by decide⟩ h2.out).mono ?_
            rw [← hr2.out]
            rintro e w5 ⟨rfl, R5⟩
            replace R5 := Lib.hid R5
            clear R4 h2
            have hB0 := Lib.hid (hB.out _ _ R5.out)
            clear R5 hB
            go_wp2_with fail
            refine hB0.out.mono ?_
            rintro e w6 ⟨⟨l, ob, rfl, hLL, hO, R6⟩, hbd⟩
            have hv : l.v = .slice l.A l.L.length l.c := rfl
            rw [hv]
            replace hLL := Lib.hid hLL
            have fb1 := R6.cb.frozen 1
            have cb1 := R6.cb.cell (i := 1) rfl
            have lb1 := R6.cb.lt
            have RS1 := Lib.hid (R6.setb 1 (.slice l.A l.L.length l.c) (fun _ => by simp))
            clear hv R6 hB0 hbd
            go_wp2_with fail
            refine (RS1.out.signP ht.out).mono ?_
            rintro e w7 ⟨rfl, p, R7⟩
            have c_1 := R7.2.2.2.cl 0 1 rfl rfl
            have lrb := R7.2.2.2.lt 0 rfl
            have hps := (drop_len2 R7.2.1 R7.1).2
            clear fb1 cb1 lb1 RS1
            have hz0 : hdN ([] : F9.Bs) = 0 := rfl
            rw [hz0]
            have hp2 : p = t.size := by simpa using hps
            have g2 : ¬ (p : Int) < (t.size : Int) := by omega
            have c_2 := R7.2.2.2.cl 0 2 rfl rfl
            have d_0 := R7.2.2.2.cl 1 0 rfl rfl
            have d_1 := R7.2.2.2.cl 1 1 rfl rfl
            have ld := R7.2.2.2.lt 1 rfl
            have f_0 := R7.2.2.2.f 2 0 rfl
            have f_1 := R7.2.2.2.f 2 1 rfl
            have b_0 := R7.2.2.2.cl 2 0 rfl rfl
            have b_1 := R7.2.2.2.cl 2 1 rfl rfl
            have bl := R7.2.2.2.lt 2 rfl
            have hlr := RA.lr (bs := [(w3.heap.size, #[.string ns, .slice l.A l.L.length l.c], 24), (fb, #[.string ⟨#[]⟩, .slice none 0 0], 24)]) (ob := ob) (by exact R7.ra) hO
            have hle : l.L.length = tr.pre.length := by rw [hLL.out, List.length_map]
            by_cases h64 : 64 < tr.pre.length
            · have hsp := Lib.hid (parO2 hspec.out hxx.out h64)
              have g3 : (64 : Int) < (l.L.length : Int) := by omega
              have S4 := Lib.hid ((R7.2.2.2.set 2 0 (.string ⟨#[]⟩) rfl (fun _ => by simp)).set 2 1 (.slice none 0 0) rfl (fun _ => by simp))
              clear hps hp2 R7 hLL hO hlr hle h64 hspec hz0 hxx
              go_wp2
              exact bodyPost_ret (res_rp _ _ fb (v0 := .string ⟨#[]⟩) (v1 := .slice none 0 0) (a := .int .i64 0) (b := .int .i64 2) rfl rfl rfl (S4.out.cb 2 rfl)) rfl ⟨⟨#[]⟩, ⟨none, 0, []⟩, 0, 2, rfl, hsp.out, Nat.le_refl _, LR.nil_ _ _ _, S4.out.bel⟩
            · have hsp := Lib.hid (parO hspec.out hxx.out h64)
              have g3 : ¬ (64 : Int) < (l.L.length : Int) := by omega
              have S4 := ((R7.2.2.2.set 2 0 (.string ns) rfl (fun _ => by simp)).set 2 1 (.slice l.A l.L.length l.c) rfl (fun _ => by simp))
              have hlr8 := Lib.hid (LR_far (LR_far hlr.1 (R7.2.2.2.cb 2 rfl) (Nat.le_refl _) 0 (.string ns)) ((R7.2.2.2.set 2 0 (.string ns) rfl (fun _ => by simp)).cb 2 rfl) (by simp) 1 (.slice l.A l.L.length l.c))
              have hcap := Lib.hid hlr.2
              replace S4 := Lib.hid S4
              clear hps hp2 R7 hO hlr hle h64 hspec hz0 hxx
              go_wp2
              exact bodyPost_ret (res_rp _ _ fb (v0 := .string ns) (v1 := .slice l.A l.L.length l.c) (a := .int .i64 0) (b := .int .i64 0) rfl rfl rfl (S4.out.cb 2 rfl)) rfl ⟨ns, l, 0, 0, rfl, by rw [hLL.out, hns.out]; exact hsp.out, hcap.out, hlr8.out, S4.out.bel⟩
          · simp only [if_neg h3] at hx
            have hne : 0 < r1.length := by
              cases r1 with
              | nil => exact absurd rfl h3
              | cons c s => simp
            have hsp := Lib.hid (parE hspec.out hx)
            rw [hlen] at hsp
            obtain ⟨pl, hpl0⟩ : ∃ pl, pl = t.size - r1.length := ⟨_, rfl⟩
            obtain ⟨ec, hec⟩ : ∃ ec : Int, ec = 3 := ⟨_, rfl⟩
            have hsp2 : Hid (parV t.data.toList = (ec, pl, ⟨#[]⟩, [])) := Lib.hid (by rw [hec, hpl0]; exact hsp.out)
            clear hsp
            have hsp := hsp2
            clear hsp2
            replace hec := Lib.hid hec
            replace hpl0 := Lib.hid hpl0
            clear hspec hr0 hrd hru hq hx h3 hlen
            go_enter Tryd.func23, Tryd.ntmps23
            go_upto_region 4 with fail
            rw [← hrb, ← hfb]
            clear hrb hfb
            go_wp2_with fail
            refine (R0.out.nameY ht.out h1.out).mono ?_
            rw [← hns.out]
            rintro e w3 ⟨rfl, R3⟩
            have R4 := Lib.hid (R3.more #[.string ns, .slice none 0 0] 24 (noLof rfl))
            clear R0 h1 R3
            go_wp2_with fail
            refine (R4.out.wantY ht.out (c := 126) ⟨rfl, rfl, by decide⟩ h2.out).mono ?_
            rw [← hr2.out]
            rintro e w5 ⟨rfl, R5⟩
            replace R5 := Lib.hid R5
            clear R4 h2
            have hB0 := Lib.hid (hB.out _ _ R5.out)
            clear R5 hB
            go_wp2_with fail
            refine hB0.out.mono ?_
            rintro e w6 ⟨⟨l, ob, rfl, hLL, hO, R6⟩, hbd⟩
            have hv : l.v = .slice l.A l.L.length l.c := rfl
            rw [hv]
            replace hLL := Lib.hid hLL
            have fb1 := R6.cb.frozen 1
            have cb1 := R6.cb.cell (i := 1) rfl
            have lb1 := R6.cb.lt
            have RS1 := Lib.hid (R6.setb 1 (.slice l.A l.L.length l.c) (fun _ => by simp))
            clear hv R6 hB0 hbd
            go_wp2_with fail
            refine (RS1.out.signP ht.out).mono ?_
            rintro e w7 ⟨rfl, p, R7⟩
            have c_1 := R7.2.2.2.cl 0 1 rfl rfl
            have lrb := R7.2.2.2.lt 0 rfl
            have hps := (drop_len2 R7.2.1 R7.1).2
            clear fb1 cb1 lb1 RS1
            have g2 : (p : Int) < (t.size : Int) := by omega
            have hF := R7.fail
            have hF2 : Hid (Calls Tryd.prog 49 #[.pointer (some ⟨rb, 0, none⟩), .int .i64 3] w7 fun e w' => e = .returned (.tuple #[]) ∧ RD w w' rb t ec pl 0 ((w3.heap.size, #[.string ns, .slice l.A l.L.length l.c], 24) :: (fb, #[.string ⟨#[]⟩, .slice none 0 0], 24) :: ob)) := Lib.hid (hF.mono (by rintro e w' ⟨rfl, R⟩; rw [hec.out, hpl0.out]; exact ⟨rfl, R⟩))
            generalize hdN r1 = bb at *
            clear hps hne R7 hLL hO hF
            by_cases hbb : bb = 0
            · subst hbb
              go_wp2_with fail
              refine (hF2.out).mono ?_
              rintro e w8 ⟨rfl, R8⟩
              have RR := Lib.hid R8
              clear R8 hF2 c_1 lrb
              obtain ⟨he, p2, hp2, S⟩ := RR.out
              have c_2 := S.cl 0 2 rfl rfl
              have c_3 := S.cl 0 3 rfl rfl
              have lrb := S.lt 0 rfl
              have f_0 := S.f 2 0 rfl
              have f_1 := S.f 2 1 rfl
              have b_0 := S.cl 2 0 rfl rfl
              have b_1 := S.cl 2 1 rfl rfl
              have bl := S.lt 2 rfl
              have S4 := Lib.hid ((S.set 2 0 (.string ⟨#[]⟩) rfl (fun _ => by simp)).set 2 1 (.slice none 0 0) rfl (fun _ => by simp))
              have he1 : (ec == 0) = false := by rw [beq_eq_false_iff_ne]; exact he
              clear S RR hp2 he
              go_upto_region 10 with fail
              go_region
              go_wp2
              exact bodyPost_ret (res_rp _ _ fb (v0 := .string ⟨#[]⟩) (v1 := .slice none 0 0) (a := .int .i64 pl) (b := .int .i64 ec) rfl rfl rfl (S4.out.drew.cb 2 rfl)) rfl ⟨⟨#[]⟩, ⟨none, 0, []⟩, pl, ec, rfl, hsp.out, Nat.le_refl _, LR.nil_ _ _ _, S4.out.bel.drew⟩
            · have g4 : ((bb : Int) == 0) = false := by rw [beq_eq_false_iff_ne]; omega
              have g5 : ¬ (bb : Int) = 0 := by omega
              clear hbb
              go_wp2_with fail
              refine (hF2.out).mono ?_
              rintro e w8 ⟨rfl, R8⟩
              have RR := Lib.hid R8
              clear R8 hF2 c_1 lrb
              obtain ⟨he, p2, hp2, S⟩ := RR.out
              have c_2 := S.cl 0 2 rfl rfl
              have c_3 := S.cl 0 3 rfl rfl
              have lrb := S.lt 0 rfl
              have f_0 := S.f 2 0 rfl
              have f_1 := S.f 2 1 rfl
              have b_0 := S.cl 2 0 rfl rfl
              have b_1 := S.cl 2 1 rfl rfl
              have bl := S.lt 2 rfl
              have S4 := Lib.hid ((S.set 2 0 (.string ⟨#[]⟩) rfl (fun _ => by simp)).set 2 1 (.slice none 0 0) rfl (fun _ => by simp))
              have he1 : (ec == 0) = false := by rw [beq_eq_false_iff_ne]; exact he
              clear S RR hp2 he
              go_upto_region 10 with fail
              go_region
              go_wp2
              exact bodyPost_ret (res_rp _ _ fb (v0 := .string ⟨#[]⟩) (v1 := .slice none 0 0) (a := .int .i64 pl) (b := .int .i64 ec) rfl rfl rfl (S4.out.drew.cb 2 rfl)) rfl ⟨⟨#[]⟩, ⟨none, 0, []⟩, pl, ec, rfl, hsp.out, Nat.le_refl _, LR.nil_ _ _ _, S4.out.bel.drew⟩
      · have hsp : Hid (parV t.data.toList = (3, t.size - (F9.nx r0).length, ⟨#[]⟩, [])) := Lib.hid (by
          rw [parE hspec.out (show rdT t.data.toList = .error (3, F9.nx r0) by unfold rdT; rw [← hr0, if_pos h1, if_neg h2]), hlen]
          rfl)
        obtain ⟨pl, hpl0⟩ : ∃ pl, pl = t.size - (F9.nx r0).length := ⟨_, rfl⟩
        rw [← hpl0] at hsp
        obtain ⟨ec, hec⟩ : ∃ ec : Int, ec = 3 := ⟨_, rfl⟩
        rw [← hec] at hsp
        replace h1 := Lib.hid h1
        replace h2 := Lib.hid h2
        clear hspec hlen hr0
        replace hpl0 := Lib.hid hpl0
        replace hec := Lib.hid hec
        replace hns := Lib.hid hns
        go_enter Tryd.func23, Tryd.ntmps23
        go_upto_region 4 with fail
        rw [← hrb, ← hfb]
        clear hrb hfb
        go_wp2_with fail
        refine (R0.out.nameY ht.out h1.out).mono ?_
        rw [← hns.out]
        rintro e w3 ⟨rfl, R3⟩
        have R4 := Lib.hid (R3.more #[.string ns, .slice none 0 0] 24 (noLof rfl))
        clear R0 h1 R3
        go_wp2_with fail
        refine (R4.out.wantN ht.out (c := 126) ⟨rfl, rfl, by decide⟩ h2.out).mono ?_
        rw [← hpl0.out, ← hec.out]
        rintro e w5 ⟨rfl, R5⟩
        replace R5 := Lib.hid R5
        clear R4 h2
        have hB0 := Lib.hid (RD.binary ht.out (j := 1) (by decide) (by decide) (R5.out.mono (Nat.zero_le 1)))
        clear R5
        go_wp2_with fail
        refine hB0.out.mono ?_
        rintro e w6 ⟨l, ob, rfl, hl, hO, R6⟩
        have hv : l.v = .slice l.A l.L.length l.c := rfl
        rw [hv]
        have fb1 := R6.cb.frozen 1
        have cb1 := R6.cb.cell (i := 1) rfl
        have lb1 := R6.cb.lt
        have RS1 := Lib.hid (R6.setb 1 (.slice l.A l.L.length l.c) (fun _ => by simp))
        clear hv hl hO R6 hB0
        go_wp2_with fail
        refine (RS1.out.sign (by omega) ht.out).mono ?_
        rintro e w7 ⟨rfl, R7⟩
        obtain ⟨he, p, hp, S⟩ := R7
        have c_1 := S.cl 0 1 rfl rfl
        have lrb := S.lt 0 rfl
        have R7 := Lib.hid (show RD w w7 rb t ec pl 1 _ from ⟨he, p, hp, S⟩)
        clear fb1 cb1 lb1 RS1 S he
        by_cases hpl : p < t.size
        · have g1 : (p : Int) < (t.size : Int) := by omega
          clear hpl hp
          go_wp2_with fail
          refine (R7.out.fail (by omega) ht.out 3).mono ?_
          rintro e w8 ⟨rfl, R8⟩
          clear R7 c_1 lrb
          have RR := Lib.hid R8
          clear R8
          obtain ⟨he, p2, hp2, S⟩ := RR.out
          have c_2 := S.cl 0 2 rfl rfl
          have c_3 := S.cl 0 3 rfl rfl
          have lrb := S.lt 0 rfl
          have f_0 := S.f 2 0 rfl
          have f_1 := S.f 2 1 rfl
          have b_0 := S.cl 2 0 rfl rfl
          have b_1 := S.cl 2 1 rfl rfl
          have bl := S.lt 2 rfl
          have S4 := Lib.hid ((S.set 2 0 (.string ⟨#[]⟩) rfl (fun _ => by simp)).set 2 1 (.slice none 0 0) rfl (fun _ => by simp))
          have he1 : (ec == 0) = false := by rw [beq_eq_false_iff_ne]; exact he
          clear S RR hp2 he
          go_upto_region 10 with fail
          go_region
          go_wp2
          exact bodyPost_ret (res_rp _ _ fb (v0 := .string ⟨#[]⟩) (v1 := .slice none 0 0) (a := .int .i64 pl) (b := .int .i64 ec) rfl rfl rfl (S4.out.drew.cb 2 rfl)) rfl ⟨⟨#[]⟩, ⟨none, 0, []⟩, pl, ec, rfl, hsp.out, Nat.le_refl _, LR.nil_ _ _ _, S4.out.bel.drew⟩
        · have g1 : ¬ (p : Int) < (t.size : Int) := by omega
          have RR := Lib.hid R7.out
          clear hpl hp R7 lrb
          obtain ⟨he, p2, hp2, S⟩ := RR.out
          have c_2 := S.cl 0 2 rfl rfl
          have c_3 := S.cl 0 3 rfl rfl
          have lrb := S.lt 0 rfl
          have f_0 := S.f 2 0 rfl
          have f_1 := S.f 2 1 rfl
          have b_0 := S.cl 2 0 rfl rfl
          have b_1 := S.cl 2 1 rfl rfl
          have bl := S.lt 2 rfl
          have S4 := Lib.hid ((S.set 2 0 (.string ⟨#[]⟩) rfl (fun _ => by simp)).set 2 1 (.slice none 0 0) rfl (fun _ => by simp))
          have he1 : (ec == 0) = false := by rw [beq_eq_false_iff_ne]; exact he
          clear S RR hp2 he
          go_upto_region 10 with fail
          go_region
          go_wp2
          exact bodyPost_ret (res_rp _ _ fb (v0 := .string ⟨#[]⟩) (v1 := .slice none 0 0) (a := .int .i64 pl) (b := .int .i64 ec) rfl rfl rfl (S4.out.drew.cb 2 rfl)) rfl ⟨⟨#[]⟩, ⟨none, 0, []⟩, pl, ec, rfl, hsp.out, Nat.le_refl _, LR.nil_ _ _ _, S4.out.bel.drew⟩

end Go.Proofs.YthbkdjbmkhmlnaaDoor
