/- The reference's reader: primary, raised. -/
import Derived.Test.YtjebpmjbdchdlaaDoorM18
namespace Go.Proofs.YtjebpmjbdchdlaaDoor
open Go.RowKit
set_option linter.unusedVariables false

theorem St.sl {w W : World} {bs bs' : List GBk} {rs : List GRd} (h : St w W bs rs) (hs : bs'.Sublist bs) : St w W bs' rs := ⟨h.bel, fun p hp => h.bk p (hs.subset hp), h.nd.sublist hs, h.rd⟩
theorem LR.one1 {W : World} {g ty : Nat} {l : Sl Nd} (hc : Cb W g #[.slice l.A l.L.length l.c] ty) (h : LR ndC W l.A l.L.length l.L) (hl : l.L.length ≤ l.c) : LR (slC ndC) W (some ⟨g, 0, none⟩) 1 [l] := by
  refine ⟨rfl, .inr ⟨g, 0, rfl, hc.lt, fun i x hx k v hv => ?_⟩, fun x hx => by rw [List.mem_singleton.1 hx]; exact ⟨h, hl⟩⟩
  match i, k with
  | 0, 0 =>
    have e : l = x := by simpa using hx
    subst e
    have hv2 : l.v = v := by (have h3 : ([l.v] : List Value)[0]? = some v := hv); simpa using h3
    subst hv2
    exact hc.cell rfl
  | 0, k + 1 => have hv2 : ([x.v] : List Value)[k + 1]? = some v := hv; simp at hv2
  | i + 1, _ => simp at hx
theorem LR.two2 {W : World} {g ty : Nat} {l m : Sl Nd} (hc : Cb W g #[.slice l.A l.L.length l.c, .slice m.A m.L.length m.c] ty) (h : LR ndC W l.A l.L.length l.L) (hl : l.L.length ≤ l.c) (h' : LR ndC W m.A m.L.length m.L) (hl' : m.L.length ≤ m.c) : LR (slC ndC) W (some ⟨g, 0, none⟩) 2 [l, m] := by
  refine ⟨rfl, .inr ⟨g, 0, rfl, hc.lt, fun i x hx k v hv => ?_⟩, fun x hx => by
    rcases List.mem_cons.1 hx with rfl | hx
    · exact ⟨h, hl⟩
    · rw [List.mem_singleton.1 hx]; exact ⟨h', hl'⟩⟩
  match i, k with
  | 0, 0 =>
    have e : l = x := by simpa using hx
    subst e
    have hv2 : l.v = v := by (have h3 : ([l.v] : List Value)[0]? = some v := hv); simpa using h3
    subst hv2
    exact hc.cell rfl
  | 1, 0 =>
    have e : m = x := by simpa using hx
    subst e
    have hv2 : m.v = v := by (have h3 : ([m.v] : List Value)[0]? = some v := hv); simpa using h3
    subst hv2
    exact hc.cell rfl
  | 0, k + 1 => have hv2 : ([x.v] : List Value)[k + 1]? = some v := hv; simp at hv2
  | 1, k + 1 => have hv2 : ([x.v] : List Value)[k + 1]? = some v := hv; simp at hv2
  | i + 2, _ => simp at hx
section
variable {w0 W W' : World} {rb : Nat} {t : ByteArray} {r : F9.Bs} {bs ob ob2 : List GBk} {er : Int} {pl k : Nat}
theorem sub_mid (p : GBk) (bs ob ob2 : List GBk) : (p :: (bs ++ ob2)).Sublist (p :: ((bs ++ ob) ++ ob2)) := by
  refine List.Sublist.cons_cons p ?_
  exact (List.sublist_append_left bs ob).append_right ob2
theorem RA.join (h : RA w0 W rb t r (bs ++ ob)) (S : St W W' ob2 []) : RA w0 W' rb t r (bs ++ ob2) := by
  obtain ⟨p, h1, h2, S0⟩ := h
  exact ⟨p, h1, h2, (S0.join S).sl (sub_mid _ bs ob ob2)⟩
theorem RD.join (h : RD w0 W rb t er pl k (bs ++ ob)) (S : St W W' ob2 []) : RD w0 W' rb t er pl k (bs ++ ob2) := by
  obtain ⟨he, p, h1, S0⟩ := h
  exact ⟨he, p, h1, (S0.join S).sl (sub_mid _ bs ob ob2)⟩
theorem RA.lr {l : Sl Nd} (h : RA w0 W rb t r (bs ++ ob)) (hO : OBn ob l) : LR ndC W l.A l.L.length l.L ∧ l.L.length ≤ l.c := by
  obtain ⟨p, h1, h2, S⟩ := h
  exact hO.lr (bs := (rb, r9C t p 0 0, 40) :: bs) S
theorem RD.lr {l : Sl Nd} (h : RD w0 W rb t er pl k (bs ++ ob)) (hO : OBn ob l) : LR ndC W l.A l.L.length l.L ∧ l.L.length ≤ l.c := by
  obtain ⟨he, p, h1, S⟩ := h
  exact hO.lr (bs := (rb, r9C t p er pl, 40) :: bs) S
theorem RA.leaf (h : RA w0 W rb t r bs) (ht : t.size ≤ 100000) (h0 : ¬ F9.fw r = [40]) : Calls Tryd.prog 47 #[.pointer (some ⟨rb, 0, none⟩)] W fun e w' => ResL w0 w' rb t e bs (F9.leaf r) := by
  by_cases h1 : F9.fw r = [48]
  · exact h.leaf0 ht h0 h1
  by_cases h2 : F9.fw r = [49]
  · exact h.leaf1 ht h0 h2
  by_cases h3 : F9.fw r = [112, 111, 119, 101, 114]
  · by_cases h4 : F9.fw (F9.nx r) = [40]
    · cases h5 : nameL (F9.fw (F9.nx (F9.nx r))) with
      | false => exact h.pow2 ht h0 h1 h2 h3 h4 h5
      | true =>
        by_cases h6 : F9.fw (F9.nx (F9.nx (F9.nx r))) = [44]
        · cases h7 : F9.expo 2 8 (F9.nx (F9.nx (F9.nx (F9.nx r)))) with
          | error x => exact h.pow4 ht h0 h1 h2 h3 h4 h5 h6 h7
          | ok y =>
            obtain ⟨kk, r1⟩ := y
            by_cases h8 : F9.fw r1 = [41]
            · exact h.pow6 ht h0 h1 h2 h3 h4 h5 h6 h7 h8
            · exact h.pow5 ht h0 h1 h2 h3 h4 h5 h6 h7 h8
        · exact h.pow3 ht h0 h1 h2 h3 h4 h5 h6
    · exact h.pow1 ht h0 h1 h2 h3 h4
  cases h4 : nameL (F9.fw r) with
  | true => exact h.leafN ht h0 h1 h2 h3 h4
  | false => exact h.leafNo ht h0 h1 h2 h3 h4
theorem RA.primary {f : Nat} (hB : BinC w0 rb t f) (hr : 6 * r.length ≤ f) (h : RA w0 W rb t r bs) (ht : t.size ≤ 100000) : Calls Tryd.prog 47 #[.pointer (some ⟨rb, 0, none⟩)] W fun e w' => Res w0 w' rb t e bs r.length (F9.run (f + 1) .prim r) := by
  by_cases h0 : F9.fw r = [40]
  · exact RA.primB hB hr h ht h0
  · refine (h.leaf ht h0).mono fun e w' hR => ?_
    cases hq : F9.leaf r with
    | error x =>
      rw [show F9.run (f + 1) .prim r = .error x by rw [F9.run, if_neg h0, hq]]
      rw [hq] at hR
      obtain ⟨l, ob, a1, a2, a3⟩ := hR
      exact ⟨l, ob, a1, by omega, a3⟩
    | ok y =>
      obtain ⟨x, r1⟩ := y
      rw [show F9.run (f + 1) .prim r = .ok (.leaf x, r1) by rw [F9.run, if_neg h0, hq]]
      rw [hq] at hR
      refine ⟨hR, ?_⟩
      have := (F9.leaf_ok hq).1
      show 1 + r1.length ≤ _
      omega

set_option maxRecDepth 100000 in
set_option maxHeartbeats 4000000 in
theorem RA.raised {f : Nat} (hB : BinC w0 rb t f) (hr : 6 * r.length ≤ f) (h : RA w0 W rb t r bs) (ht : t.size ≤ 100000) : Calls Tryd.prog 28 #[.pointer (some ⟨rb, 0, none⟩)] W fun e w' => Res w0 w' rb t e bs r.length (F9.run (f + 2) (.bin 4) r) := by
  have hP := Lib.hid (RA.primary hB hr h ht)
  obtain ⟨m, hm⟩ : ∃ m, m = r.length := ⟨_, rfl⟩
  have hrl : r.length ≤ 100000 := by
    obtain ⟨p, _, hq, hd, _, _⟩ := h.st ht
    have := (drop_len2 hd hq).2
    omega
  have hrun : F9.run (f + 2) (.bin 4) r = match F9.run (f + 1) .prim r with
    | .error e => .error e
    | .ok (a, r1) => F9.run (f + 1) (.hats a) r1 := by rw [F9.run, if_pos rfl]; rfl
  obtain ⟨X, hX⟩ : ∃ X, X = F9.run (f + 2) (.bin 4) r := ⟨_, rfl⟩
  rw [← hX]
  rw [hrun] at hX
  rw [← hm] at hP hrl ⊢
  have hpre : Hid ((∀ x, F9.run (f + 1) .prim r = .error x → X = .error x) ∧ ∀ a r1, F9.run (f + 1) .prim r = .ok (a, r1) → F9.run (f + 1) (.hats a) r1 = X) := Lib.hid ⟨fun x hx => by rw [hX, hx], fun a r1 hx => by rw [hX, hx]⟩
  have hff := Lib.hid hr
  replace ht := Lib.hid ht
  replace hm := Lib.hid hm
  have hml := Lib.hid hrl
  clear hX hrun hB h hr hrl
  generalize F9.run (f + 1) .prim r = Y at *
  go_enter Tryd.func28, Tryd.ntmps28
  go_wp2_with fail
  refine hP.out.mono ?_
  intro e w1 hR
  obtain ⟨l0, hl0, hst⟩ : ∃ l0 : Sl Nd, e = .returned (.slice l0.A l0.L.length l0.c) ∧ ((∃ (a : F9.Tr) (r2 : F9.Bs) (g : Nat) (l : Sl Nd) (ob : List GBk), l0 = l ∧ l.L = a.pre.map toNd ∧ OBn ob l ∧ RA w0 w1 rb t r2 (bs ++ ob) ∧ F9.run g (.hats a) r2 = X ∧ 6 * r2.length + 1 ≤ g ∧ a.pre.length + r2.length ≤ m ∧ r2.length < m + 1) ∨ (∃ (x : F9.Er) (l : Sl Nd) (ob : List GBk), X = .error x ∧ l0 = l ∧ l.L.length ≤ m + 1 ∧ OBn ob l ∧ RD w0 w1 rb t x.1 (t.size - x.2.length) 1 (bs ++ ob))) := by
    cases hY : Y with
    | error x =>
      rw [hY] at hR
      obtain ⟨l, ob, a1, a2, a3, a4⟩ := hR
      exact ⟨l, a1, .inr ⟨x, l, ob, hpre.out.1 x hY, rfl, a2, a3, a4⟩⟩
    | ok y =>
      obtain ⟨a, r1⟩ := y
      rw [hY] at hR
      obtain ⟨⟨l, ob, a1, a2, a3, a4⟩, a5⟩ := hR
      exact ⟨l, a1, .inl ⟨a, r1, f + 1, l, ob, rfl, a2, a3, a4, hpre.out.2 a r1 hY, by (have := hm.out; have := hff.out; omega), a5, by omega⟩⟩
  subst hl0
  replace hst := Lib.hid hst
  clear hR hpre hP hff hm
  go_wp2
  go_loopg [3] (m + 1) (fun k v wr => (∃ (a : F9.Tr) (r2 : F9.Bs) (g : Nat) (l : Sl Nd) (ob : List GBk), v = .slice l.A l.L.length l.c ∧ l.L = a.pre.map toNd ∧ OBn ob l ∧ RA w0 wr rb t r2 (bs ++ ob) ∧ F9.run g (.hats a) r2 = X ∧ 6 * r2.length + 1 ≤ g ∧ a.pre.length + r2.length ≤ m ∧ r2.length < k) ∨ (∃ (x : F9.Er) (l : Sl Nd) (ob : List GBk), X = .error x ∧ v = .slice l.A l.L.length l.c ∧ l.L.length ≤ m + 1 ∧ OBn ob l ∧ RD w0 wr rb t x.1 (t.size - x.2.length) 1 (bs ++ ob)))
  case atStart =>
    rcases hst.out with ⟨a, r2, g, l, ob, rfl, b1⟩ | ⟨x, l, ob, b0, rfl, b1⟩
    · exact .inl ⟨a, r2, g, l0, ob, rfl, b1⟩
    · exact .inr ⟨x, l0, ob, b0, rfl, b1⟩
  case round =>
    clear hst
    rcases hrel with ⟨a, r2, g, l, ob, rfl, hL, hO, R, hrun, hg, hbd, hk⟩ | ⟨x, l, ob, hX, rfl, hL, hO, R⟩
    · obtain ⟨g1, rfl⟩ : ∃ g1, g = g1 + 1 := ⟨g - 1, by omega⟩
      rw [F9.run] at hrun
      have hlb : Hid (l.L.length ≤ 100000) := Lib.hid (by rw [hL, List.length_map]; have := hml.out; omega)
      by_cases h1 : F9.fw r2 = [94]
      · rw [if_pos h1] at hrun
        have hnl := F9.nx_lt (r := r2) (by rw [h1]; simp)
        cases he : F9.expo 1 6 (F9.nx r2) with
        | error x =>
          rw [he] at hrun
          have hX := Lib.hid hrun.symm
          have hl3 : Hid (l.L.length + 1 ≤ m) := Lib.hid (by rw [hL, List.length_map]; omega)
          have hk2 := Lib.hid hk
          replace h1 := Lib.hid h1
          replace he := Lib.hid he
          replace R := Lib.hid R
          replace hO := Lib.hid hO
          clear hrun hg hbd hnl hL hk
          go_wp2_with fail
          refine (R.out.takeY ht.out (c := 94) ⟨rfl, rfl, by decide⟩ h1.out).mono ?_
          rintro e w2 ⟨rfl, R2⟩
          replace R2 := Lib.hid R2
          clear R h1
          go_wp2_with fail
          refine (R2.out.expN ht.out 1 6 he.out).mono ?_
          rintro e w3 ⟨ev, rfl, R3⟩
          replace R3 := Lib.hid R3
          clear R2 he
          have hlr := R3.out.lr hO.out
          have hlr2 := Lib.hid (hlr.1.bel ((Below.refl _ _).alloc (Nat.le_refl _) (.cells #[.slice l.A l.L.length l.c] 23)))
          have hlc := Lib.hid hlr.2
          have hOp := Lib.hid (oper_any ⟨10, ByteArray.empty, ev⟩ [l] (some ⟨w3.heap.size, 0, none⟩) 1 1 (w3.alloc (.cells #[.slice l.A l.L.length l.c] 23)) (LR.one1 (Cb.new _ _ _) hlr2.out hlc.out) (by decide) (by have := hlb.out; simp; omega))
          have RC := Lib.hid (R3.out.call ((Below.refl _ _).alloc (Nat.le_refl _) (.cells #[.slice l.A l.L.length l.c] 23)))
          clear hlr hlr2 hlc R3
          go_wp2_with fail
          refine hOp.out.mono ?_
          rintro e w9 ⟨l2, ob2, rfl, hL2, hO2, S2⟩
          have hv : l2.v = .slice l2.A l2.L.length l2.c := rfl
          rw [hv]
          clear hv
          have RJ := Lib.hid (RC.out.join S2)
          have hL3 : Hid (l2.L = ⟨10, ByteArray.empty, ev⟩ :: l.L) := Lib.hid (by rw [hL2]; simp)
          replace hO2 := Lib.hid hO2
          clear S2 hL2 RC hOp
          go_wp2
          go_roundg 0
          case measure => (have := hk2.out; omega)
          case rel => exact .inr ⟨x, l2, ob2, hX.out, rfl, by rw [hL3.out]; have := hl3.out; simp; omega, hO2.out, RJ.out⟩
        | ok y =>
          obtain ⟨kk, r3⟩ := y
          rw [he] at hrun
          have hX := Lib.hid hrun
          have he2 := (F9.expo_ok he).1
          have hg2 : Hid (6 * r3.length + 1 ≤ g1 ∧ r3.length + 1 < gk ∧ a.pre.length + 1 + r3.length ≤ m) := Lib.hid (by omega)
          replace h1 := Lib.hid h1
          replace he := Lib.hid he
          replace R := Lib.hid R
          replace hO := Lib.hid hO
          replace hL := Lib.hid hL
          clear hrun hg hbd hnl hk he2
          go_wp2_with fail
          refine (R.out.takeY ht.out (c := 94) ⟨rfl, rfl, by decide⟩ h1.out).mono ?_
          rintro e w2 ⟨rfl, R2⟩
          replace R2 := Lib.hid R2
          clear R h1
          go_wp2_with fail
          refine (R2.out.expY ht.out 1 6 he.out).mono ?_
          rintro e w3 ⟨rfl, R3⟩
          replace R3 := Lib.hid R3
          clear R2 he
          have hlr := R3.out.lr hO.out
          have hlr2 := Lib.hid (hlr.1.bel ((Below.refl _ _).alloc (Nat.le_refl _) (.cells #[.slice l.A l.L.length l.c] 23)))
          have hlc := Lib.hid hlr.2
          have hOp := Lib.hid (oper_any ⟨10, ByteArray.empty, (kk : Int)⟩ [l] (some ⟨w3.heap.size, 0, none⟩) 1 1 (w3.alloc (.cells #[.slice l.A l.L.length l.c] 23)) (LR.one1 (Cb.new _ _ _) hlr2.out hlc.out) (by decide) (by have := hlb.out; simp; omega))
          have RC := Lib.hid (R3.out.call ((Below.refl _ _).alloc (Nat.le_refl _) (.cells #[.slice l.A l.L.length l.c] 23)))
          clear hlr hlr2 hlc R3
          go_wp2_with fail
          refine hOp.out.mono ?_
          rintro e w9 ⟨l2, ob2, rfl, hL2, hO2, S2⟩
          have hv : l2.v = .slice l2.A l2.L.length l2.c := rfl
          rw [hv]
          clear hv
          have RJ := Lib.hid (RC.out.join S2)
          have hL3 : Hid (l2.L = ⟨10, ByteArray.empty, (kk : Int)⟩ :: l.L) := Lib.hid (by rw [hL2]; simp)
          replace hO2 := Lib.hid hO2
          clear S2 hL2 RC hOp
          go_wp2
          go_roundg (r3.length + 1)
          case measure => exact hg2.out.2.1
          case rel => exact .inl ⟨.hat kk a, r3, g1, l2, ob2, rfl, by rw [hL3.out, hL.out]; rfl, hO2.out, RJ.out, hX.out, hg2.out.1, by show (_ :: a.pre).length + _ ≤ _; rw [List.length_cons]; exact hg2.out.2.2, Nat.lt_succ_self _⟩
      · rw [if_neg h1] at hrun
        replace h1 := Lib.hid h1
        replace R := Lib.hid R
        replace hO := Lib.hid hO
        replace hL := Lib.hid hL
        replace hbd := Lib.hid hbd
        subst hrun
        clear hg hk
        go_wp2_with fail
        refine (R.out.takeN ht.out (c := 94) ⟨rfl, rfl, by decide⟩ h1.out).mono ?_
        rintro e w2 ⟨rfl, R2⟩
        replace R2 := Lib.hid R2
        clear R h1
        go_wp2
        go_ret
        exact ⟨⟨l, ob, rfl, hL.out, hO.out, R2.out⟩, hbd.out⟩
    · subst hX
      replace R := Lib.hid R
      replace hO := Lib.hid hO
      replace hL := Lib.hid hL
      go_wp2_with fail
      refine (R.out.take (c := 94) (by omega) ht.out ⟨rfl, rfl, by decide⟩).mono ?_
      rintro e w2 ⟨rfl, R2⟩
      replace R2 := Lib.hid R2
      clear R
      go_wp2
      go_ret
      exact ⟨l, ob, rfl, hL.out, hO.out, R2.out⟩
end
end Go.Proofs.YtjebpmjbdchdlaaDoor
namespace Go.Proofs.YtjebpmjbdchdlaaDoor
open Go.RowKit
set_option linter.unusedVariables false

section
variable {w0 W W' : World} {rb : Nat} {t : ByteArray} {r : F9.Bs} {bs ob ob2 : List GBk} {er : Int} {pl k : Nat}
theorem RA.signP (h : RA w0 W rb t r bs) (ht : t.size ≤ 100000) : Calls Tryd.prog 14 #[.pointer (some ⟨rb, 0, none⟩)] W fun e w' => e = .returned (.int .u8 (hdN r)) ∧ ∃ p, RP w0 w' rb t r p bs := by
  obtain ⟨p, hp, hq, hd, hr, S⟩ := h.st ht
  refine (sign_any t p 0 0 rb bs [] w0 W S ht hp).mono ?_
  rintro e w' ⟨rfl, S'⟩
  exact ⟨by rw [sg_hd hd], _, hq, hd, hr, S'⟩
theorem RP.call {p : Nat} (h : RP w0 W rb t r p bs) (hb : Below W.heap.size W W') : RP w0 W' rb t r p bs := ⟨h.1, h.2.1, h.2.2.1, h.2.2.2.call hb⟩
theorem RA.pre (h : RA w0 W rb t r (bs ++ ob)) : RA w0 W rb t r bs := by
  obtain ⟨p, h1, h2, S⟩ := h
  exact ⟨p, h1, h2, S.sl (List.Sublist.cons_cons _ (List.sublist_append_left bs ob))⟩
theorem RD.pre (h : RD w0 W rb t er pl k (bs ++ ob)) : RD w0 W rb t er pl k bs := by
  obtain ⟨he, p, h1, S⟩ := h
  exact ⟨he, p, h1, S.sl (List.Sublist.cons_cons _ (List.sublist_append_left bs ob))⟩
theorem lev_0 (j : Nat) (hj : 1 ≤ j ∧ j ≤ 3) : levV 0 j = 0 := by
  unfold levV
  have hc : j = 1 ∨ j = 2 ∨ j = 3 := by omega
  rcases hc with rfl | rfl | rfl <;> rfl
theorem lev_le (b j : Nat) : levV b j ≤ 9 := by
  unfold levV
  split
  · split
    · omega
    · split <;> omega
  · split
    · split
      · omega
      · split <;> omega
    · split
      · split <;> omega
      · omega

set_option maxRecDepth 100000 in
set_option maxHeartbeats 4000000 in
theorem RA.binS {f j j1 : Nat} (hj1 : j1 = j + 1) (hj : 1 ≤ j ∧ j ≤ 3) (hB : ∀ g, g ≤ f → BinC w0 rb t g) (hr : 6 * r.length + (6 - j1) ≤ f) (h : RA w0 W rb t r bs) (ht : t.size ≤ 100000) : Calls Tryd.prog 13 #[.pointer (some ⟨rb, 0, none⟩), .int .i64 j] W fun e w' => Res w0 w' rb t e bs r.length (F9.run (f + 1) (.bin j) r) := by
  have hP := Lib.hid (hB f (Nat.le_refl _) j1 r bs W (by omega) (by omega) hr h)
  obtain ⟨m, hm⟩ : ∃ m, m = r.length := ⟨_, rfl⟩
  have hrl : r.length ≤ 100000 := by
    obtain ⟨p, _, hq, hd, _, _⟩ := h.st ht
    have := (drop_len2 hd hq).2
    omega
  obtain ⟨X, hX⟩ : ∃ X, X = F9.run (f + 1) (.bin j) r := ⟨_, rfl⟩
  rw [← hX]
  have hne : ¬ j = 4 := by omega
  rw [F9.run, if_neg hne, ← hj1] at hX
  rw [← hm] at hP hrl ⊢
  have hpre : Hid ((∀ x, F9.run f (.bin j1) r = .error x → X = .error x) ∧ ∀ a r1, F9.run f (.bin j1) r = .ok (a, r1) → F9.run f (.loop j a) r1 = X) := Lib.hid ⟨fun x hx => by rw [hX, hx], fun a r1 hx => by rw [hX, hx]⟩
  have hff := Lib.hid (And.intro hr (show j1 ≤ 4 ∧ 2 ≤ j1 by omega))
  have hL := Lib.hid (fun b V => level_any b j hj V)
  have hl0 := Lib.hid (lev_0 j hj)
  have hBB := Lib.hid hB
  have hjj := Lib.hid hj
  replace ht := Lib.hid ht
  replace hm := Lib.hid hm
  have hml := Lib.hid hrl
  have g1 : (j : Int) + 1 = (j1 : Int) := by omega
  have g2 : ¬ (j : Int) = 4 := by omega
  have g3 : ((j : Int) == 4) = false := by rw [beq_eq_false_iff_ne]; omega
  have g4 : j1 ≤ 4 := by omega
  replace hj1 := Lib.hid hj1
  clear hX hB h hr hrl hj hne
  generalize F9.run f (.bin j1) r = Y at *
  go_enter Tryd.func13, Tryd.ntmps13
  go_wp2_with fail
  refine hP.out.mono ?_
  intro e w1 hR
  have hst1 : Hid (∃ l0 : Sl Nd, e = .returned (.slice l0.A l0.L.length l0.c) ∧ ((∃ (a : F9.Tr) (r2 : F9.Bs) (l : Sl Nd) (ob : List GBk), l0 = l ∧ l.L = a.pre.map toNd ∧ OBn ob l ∧ RA w0 w1 rb t r2 (bs ++ ob) ∧ F9.run f (.loop j a) r2 = X ∧ 6 * r2.length + 1 ≤ f ∧ a.pre.length + r2.length ≤ m ∧ r2.length < m + 1) ∨ (∃ (x : F9.Er) (l : Sl Nd) (ob : List GBk), X = .error x ∧ l0 = l ∧ l.L.length ≤ m + 1 ∧ OBn ob l ∧ RD w0 w1 rb t x.1 (t.size - x.2.length) 1 (bs ++ ob)))) := Lib.hid (by
    cases hY : Y with
    | error x =>
      rw [hY] at hR
      obtain ⟨l, ob, a1, a2, a3, a4⟩ := hR
      exact ⟨l, a1, .inr ⟨x, l, ob, hpre.out.1 x hY, rfl, a2, a3, a4⟩⟩
    | ok y =>
      obtain ⟨a, r1⟩ := y
      rw [hY] at hR
      obtain ⟨⟨l, ob, a1, a2, a3, a4⟩, a5⟩ := hR
      exact ⟨l, a1, .inl ⟨a, r1, l, ob, rfl, a2, a3, a4, hpre.out.2 a r1 hY, by (have := hm.out; have := hff.out; omega), a5, by omega⟩⟩)
  clear hR hpre hP hff hm
  obtain ⟨l0, rfl, hst0⟩ := hst1.out
  have hst2 : Hid (∃ b : Nat, Calls Tryd.prog 14 #[.pointer (some ⟨rb, 0, none⟩)] w1 fun e w' => e = .returned (.int .u8 (b : Int)) ∧ ((∃ (a : F9.Tr) (r2 : F9.Bs) (p : Nat) (ob : List GBk), l0.L = a.pre.map toNd ∧ b = hdN r2 ∧ OBn ob l0 ∧ RP w0 w' rb t r2 p (bs ++ ob) ∧ F9.run f (.loop j a) r2 = X ∧ 6 * r2.length + 1 ≤ f ∧ a.pre.length + r2.length ≤ m ∧ r2.length < m + 1) ∨ (∃ (x : F9.Er) (ob : List GBk), X = .error x ∧ b = 0 ∧ l0.L.length ≤ m + 1 ∧ OBn ob l0 ∧ RD w0 w' rb t x.1 (t.size - x.2.length) 1 (bs ++ ob)))) := Lib.hid (by
    rcases hst0 with ⟨a, r2, l, ob, rfl, b1, b2, b3, b4⟩ | ⟨x, l, ob, b0, rfl, b1, b2, b3⟩
    · refine ⟨hdN r2, (b3.signP ht.out).mono ?_⟩
      rintro e w' ⟨rfl, p, R⟩
      exact ⟨rfl, .inl ⟨a, r2, p, ob, b1, rfl, b2, R, b4⟩⟩
    · refine ⟨0, (b3.sign (by omega) ht.out).mono ?_⟩
      rintro e w' ⟨rfl, R⟩
      exact ⟨rfl, .inr ⟨x, ob, b0, rfl, b1, b2, R⟩⟩)
  clear hst0 hst1
  obtain ⟨b, hS⟩ := hst2.out
  clear hst2
  replace hS := Lib.hid hS
  go_wp2_with fail
  refine hS.out.mono ?_
  rintro e w2 ⟨rfl, hst⟩
  replace hst := Lib.hid hst
  clear hS
  go_wp2_with fail
  refine (hL.out b _).mono ?_
  rintro e w3 ⟨rfl, rfl⟩
  obtain ⟨lv, hlv⟩ : ∃ v, v = levV b j := ⟨_, rfl⟩
  rw [← hlv]
  replace hlv := Lib.hid hlv
  go_wp2
  go_loopg [5, 6] (m + 1) (fun k v ov wr => (∃ (a : F9.Tr) (r2 : F9.Bs) (g p : Nat) (l : Sl Nd) (ob : List GBk), v = .slice l.A l.L.length l.c ∧ ov = .int .i64 (levV (hdN r2) j : Nat) ∧ l.L = a.pre.map toNd ∧ OBn ob l ∧ RP w0 wr rb t r2 p (bs ++ ob) ∧ F9.run g (.loop j a) r2 = X ∧ 6 * r2.length + 1 ≤ g ∧ g ≤ f ∧ a.pre.length + r2.length ≤ m ∧ r2.length < k) ∨ (∃ (x : F9.Er) (l : Sl Nd) (ob : List GBk), X = .error x ∧ v = .slice l.A l.L.length l.c ∧ ov = .int .i64 0 ∧ l.L.length ≤ m + 1 ∧ OBn ob l ∧ RD w0 wr rb t x.1 (t.size - x.2.length) 1 (bs ++ ob)))
  case atStart =>
    rcases hst.out with ⟨a, r2, p, ob, b1, rfl, b2, b3, b4, b5, b6, b7⟩ | ⟨x, ob, b0, rfl, b1, b2, b3⟩
    · exact .inl ⟨a, r2, f, p, l0, ob, rfl, by rw [hlv.out], b1, b2, b3, b4, b5, Nat.le_refl _, b6, b7⟩
    · exact .inr ⟨x, l0, ob, b0, rfl, by rw [hlv.out, hl0.out]; rfl, b1, b2, b3⟩
  case round =>
    clear hst hlv
    rcases hrel with ⟨a, r2, g, p, l, ob, rfl, rfl, hLL, hO, R, hrun, hg, hgf, hbd, hk⟩ | ⟨x, l, ob, hX, rfl, rfl, hLL, hO, R⟩
    · obtain ⟨g0, rfl⟩ : ∃ g0, g = g0 + 1 := ⟨g - 1, by omega⟩
      rw [F9.run] at hrun
      have hlev := lev_is r2 hjj.out.1 hjj.out.2
      obtain ⟨op, hop⟩ : ∃ op, op = levV (hdN r2) j := ⟨_, rfl⟩
      rw [← hop] at hlev ⊢
      have hop9 : op ≤ 9 := by rw [hop]; exact lev_le _ _
      replace hop := Lib.hid hop
      by_cases h0 : op = 0
      · have hXX : X = .ok (a, r2) := by
          rw [h0] at hlev
          cases hbo : F9.bop r2 with
          | none => rw [hbo] at hrun; exact hrun.symm
          | some o2 =>
            rw [hbo] at hlev hrun
            simp only at hlev hrun
            have := (F9.bop_op hbo).1
            by_cases hk2 : F9.rul o2 = j
            · rw [if_pos hk2] at hlev; omega
            · rw [if_neg hk2] at hrun; exact hrun.symm
        subst h0
        subst hXX
        replace hLL := Lib.hid hLL
        replace hO := Lib.hid hO
        replace hbd := Lib.hid hbd
        have R2 := Lib.hid R.ra
        clear hrun hlev hg hgf hk R
        go_wp2
        go_ret
        exact ⟨⟨l, ob, rfl, hLL.out, hO.out, R2.out⟩, hbd.out⟩
      · have hbo : F9.bop r2 = some op ∧ F9.rul op = j := by
          cases hbo : F9.bop r2 with
          | none => rw [hbo] at hlev; exact absurd hlev h0
          | some o2 =>
            rw [hbo] at hlev
            simp only at hlev
            by_cases hk2 : F9.rul o2 = j
            · rw [if_pos hk2] at hlev; subst hlev; exact ⟨rfl, hk2⟩
            · rw [if_neg hk2] at hlev; exact absurd hlev h0
        rw [hbo.1] at hrun
        simp only at hrun
        rw [if_pos hbo.2, ← hj1.out] at hrun
        have hf1 : (F9.fw r2).length = 1 := by
          have hb1 := hbo.1
          unfold F9.bop at hb1
          split at hb1 <;> first | (rename_i hh; rw [hh]; rfl) | cases hb1
        have hnl := F9.nx_lt (F9.bop_op hbo.1).2.2
        obtain ⟨RR, f_1, bl, c_1⟩ := R.on hf1 (by decide)
        have hp5 : p ≤ 100000 := by have := R.1; have := ht.out; omega
        have hBn := Lib.hid (fun V (hV : RA w0 V rb t (F9.nx r2) (bs ++ ob)) => hBB.out g0 (by omega) j1 (F9.nx r2) (bs ++ ob) V (by have := hjj.out; have := hj1.out; omega) g4 (by have := hjj.out; have := hj1.out; omega) hV)
        have hop0 : (0 : Int) < (op : Int) := by omega
        have hlr : Hid (∀ V, RA w0 V rb t (F9.nx r2) (bs ++ ob) → LR ndC V l.A l.L.length l.L ∧ l.L.length ≤ l.c) := Lib.hid fun V hV => hV.lr hO
        have R1 : Hid (RA w0 (wr.setCell ⟨rb, 1, none⟩ (.int .i64 ((p : Int) + 1))) rb t (F9.nx r2) (bs ++ ob)) := Lib.hid RR
        have hlrl : Hid (LR ndC (wr.setCell ⟨rb, 1, none⟩ (.int .i64 ((p : Int) + 1))) l.A l.L.length l.L ∧ l.L.length ≤ l.c) := Lib.hid (hlr.out _ RR)
        have hnum : Hid (a.pre.length + r2.length ≤ m ∧ (F9.nx r2).length < r2.length ∧ 6 * r2.length ≤ g0 ∧ g0 + 1 ≤ f ∧ r2.length < gk ∧ l.L.length = a.pre.length ∧ m ≤ 100000) := Lib.hid (by
          have e1 : l.L.length = a.pre.length := by rw [hLL, List.length_map]
          have := hml.out
          omega)
        have hbo9 := Lib.hid (F9.bop_op hbo.1)
        replace hLL := Lib.hid hLL
        replace hO := Lib.hid hO
        clear hlev h0 hbo hf1 hg hgf hbd hk R RR hnl
        go_upto_region 8 with fail
        clear f_1 bl c_1
        obtain ⟨W9, hW9⟩ : ∃ V, V = wr.setCell ⟨rb, 1, none⟩ (.int .i64 ((p : Int) + 1)) := ⟨_, rfl⟩
        rw [← hW9] at R1 hlrl ⊢
        clear hW9 hlr
        go_wp2_with fail
        refine (hBn.out _ R1.out).mono ?_
        intro e w4 hR
        cases hq : F9.run g0 (.bin j1) (F9.nx r2) with
        | error x =>
          rw [hq] at hrun hR
          obtain ⟨lm, obm, rfl, hLm, hOm, R4⟩ := hR
          have hXX := Lib.hid (show X = .error x from hrun.symm)
          have hlr := Lib.hid (R4.pre.lr hO.out)
          have hlm := Lib.hid (R4.lr hOm)
          have hbl : Hid (l.L.length + lm.L.length ≤ 200000 ∧ l.L.length + lm.L.length + 1 ≤ m + 1) := Lib.hid (by have := hnum.out; omega)
          rw [List.append_assoc] at R4
          replace R4 := Lib.hid R4
          have hv : lm.v = .slice lm.A lm.L.length lm.c := rfl
          rw [hv]
          clear hv hrun hq hLm hOm hBn R1 hlrl hLL
          have hlb2 := Lib.hid (oper_any ⟨(op : Int), ByteArray.empty, 0⟩ [l, lm] (some ⟨w4.heap.size, 0, none⟩) 2 2 (w4.alloc (.cells #[.slice l.A l.L.length l.c, .slice lm.A lm.L.length lm.c] 23)) (LR.two2 (Cb.new _ _ _) (hlr.out.1.bel ((Below.refl _ _).alloc (Nat.le_refl _) _)) hlr.out.2 (hlm.out.1.bel ((Below.refl _ _).alloc (Nat.le_refl _) _)) hlm.out.2) (by decide) (by have := hbl.out; simp; omega))
          have RC := Lib.hid (R4.out.call ((Below.refl _ _).alloc (Nat.le_refl _) (.cells #[.slice l.A l.L.length l.c, .slice lm.A lm.L.length lm.c] 23)))
          clear hlr hlm R4
          go_wp2_with fail
          refine hlb2.out.mono ?_
          rintro e w9 ⟨l2, ob2, rfl, hL2, hO2, S2⟩
          have hv : l2.v = .slice l2.A l2.L.length l2.c := rfl
          rw [hv]
          clear hv
          have RJ := Lib.hid (RC.out.join S2)
          have hL3 : Hid (l2.L = ⟨(op : Int), ByteArray.empty, 0⟩ :: (l.L ++ lm.L)) := Lib.hid (by rw [hL2]; simp)
          replace hO2 := Lib.hid hO2
          clear S2 hL2 RC hlb2
          go_wp2_with fail
          refine (RJ.out.sign (by omega) ht.out).mono ?_
          rintro e w5 ⟨rfl, R5⟩
          replace R5 := Lib.hid R5
          clear RJ
          go_wp2_with fail
          refine (hL.out 0 _).mono ?_
          rintro e w6 ⟨rfl, rfl⟩
          rw [hl0.out]
          go_wp2
          go_roundg 0
          case measure => (have := hnum.out; omega)
          case rel => exact .inr ⟨x, l2, ob2, hXX.out, rfl, rfl, by (have h7 := hL3.out; have h8 := congrArg List.length h7; simp at h8; have := hbl.out; omega), hO2.out, R5.out⟩
        | ok y =>
          obtain ⟨bt, r3⟩ := y
          rw [hq] at hrun hR
          obtain ⟨⟨lm, obm, rfl, hLm, hOm, R4⟩, hb2⟩ := hR
          have hXX := Lib.hid (show F9.run g0 (.loop j (.bin op a bt)) r3 = X from hrun)
          have hlr := Lib.hid (R4.pre.lr hO.out)
          have hlm := Lib.hid (R4.lr hOm)
          have hml2 : lm.L.length = bt.pre.length := by rw [hLm, List.length_map]
          have hbl : Hid (l.L.length + lm.L.length ≤ 200000) := Lib.hid (by have := hnum.out; omega)
          have hn2 : Hid (6 * r3.length + 1 ≤ g0 ∧ g0 ≤ f ∧ r3.length + 1 < gk ∧ a.pre.length + bt.pre.length + 1 + r3.length ≤ m) := Lib.hid (by have := hnum.out; omega)
          rw [List.append_assoc] at R4
          replace R4 := Lib.hid R4
          replace hLm := Lib.hid hLm
          have hv : lm.v = .slice lm.A lm.L.length lm.c := rfl
          rw [hv]
          clear hv hrun hq hOm hBn R1 hlrl hb2 hml2
          have hlb2 := Lib.hid (oper_any ⟨(op : Int), ByteArray.empty, 0⟩ [l, lm] (some ⟨w4.heap.size, 0, none⟩) 2 2 (w4.alloc (.cells #[.slice l.A l.L.length l.c, .slice lm.A lm.L.length lm.c] 23)) (LR.two2 (Cb.new _ _ _) (hlr.out.1.bel ((Below.refl _ _).alloc (Nat.le_refl _) _)) hlr.out.2 (hlm.out.1.bel ((Below.refl _ _).alloc (Nat.le_refl _) _)) hlm.out.2) (by decide) (by have := hbl.out; simp; omega))
          have RC := Lib.hid (R4.out.call ((Below.refl _ _).alloc (Nat.le_refl _) (.cells #[.slice l.A l.L.length l.c, .slice lm.A lm.L.length lm.c] 23)))
          clear hlr hlm R4
          go_wp2_with fail
          refine hlb2.out.mono ?_
          rintro e w9 ⟨l2, ob2, rfl, hL2, hO2, S2⟩
          have hv : l2.v = .slice l2.A l2.L.length l2.c := rfl
          rw [hv]
          clear hv
          have RJ := Lib.hid (RC.out.join S2)
          have hL3 : Hid (l2.L = ⟨(op : Int), ByteArray.empty, 0⟩ :: (l.L ++ lm.L)) := Lib.hid (by rw [hL2]; simp)
          replace hO2 := Lib.hid hO2
          clear S2 hL2 RC hlb2
          go_wp2_with fail
          refine (RJ.out.signP ht.out).mono ?_
          rintro e w5 ⟨rfl, p5, R5⟩
          replace R5 := Lib.hid R5
          clear RJ
          go_wp2_with fail
          refine (hL.out _ _).mono ?_
          rintro e w6 ⟨rfl, rfl⟩
          obtain ⟨lv5, hlv5⟩ : ∃ v, v = levV (hdN r3) j := ⟨_, rfl⟩
          rw [← hlv5]
          replace hlv5 := Lib.hid hlv5
          go_wp2
          go_roundg (r3.length + 1)
          case measure => exact hn2.out.2.2.1
          case rel => exact .inl ⟨.bin op a bt, r3, g0, p5, l2, ob2, rfl, by rw [hlv5.out], by rw [hL3.out, hLL.out, hLm.out, F9.Tr.pre, List.map_cons, List.map_append]; rfl, hO2.out, R5.out, hXX.out, hn2.out.1, hn2.out.2.1, by (have h7 : (F9.Tr.bin op a bt).pre.length = 1 + a.pre.length + bt.pre.length := by rw [F9.Tr.pre, List.length_cons, List.length_append]; omega); rw [h7]; have := hn2.out; omega, Nat.lt_succ_self _⟩
    · subst hX
      replace R := Lib.hid R
      replace hO := Lib.hid hO
      replace hLL := Lib.hid hLL
      go_wp2
      go_ret
      exact ⟨l, ob, rfl, hLL.out, hO.out, R.out⟩
set_option maxRecDepth 100000 in
set_option maxHeartbeats 4000000 in
theorem bin4_any {m : Nat} {X : F9.Rs (F9.Tr × F9.Bs)} (hR : Calls Tryd.prog 28 #[.pointer (some ⟨rb, 0, none⟩)] W fun e w' => Res w0 w' rb t e bs m X) : Calls Tryd.prog 13 #[.pointer (some ⟨rb, 0, none⟩), .int .i64 4] W fun e w' => Res w0 w' rb t e bs m X := by
  replace hR := Lib.hid hR
  go_enter Tryd.func13, Tryd.ntmps13
  go_wp2_with fail
  refine hR.out.mono ?_
  intro e w1 hS
  have hst : Hid (∃ l : Sl Nd, e = .returned (.slice l.A l.L.length l.c) ∧ Res w0 w1 rb t (.returned (.slice l.A l.L.length l.c)) bs m X) := Lib.hid (by
    cases X with
    | error x =>
      obtain ⟨l, ob, rfl, a2⟩ := hS
      exact ⟨l, rfl, l, ob, rfl, a2⟩
    | ok y =>
      obtain ⟨a, r1⟩ := y
      obtain ⟨⟨l, ob, rfl, a2⟩, a3⟩ := hS
      exact ⟨l, rfl, ⟨l, ob, rfl, a2⟩, a3⟩)
  clear hS hR
  obtain ⟨l, rfl, hS⟩ := hst.out
  replace hS := Lib.hid hS
  clear hst
  go_wp2
  go_ret
  exact hS.out
/-- The contract of binary, at every fuel. -/
theorem bin_all (w0 : World) (rb : Nat) (t : ByteArray) (ht : t.size ≤ 100000) : ∀ f, BinC w0 rb t f := by
  intro f
  induction f using Nat.strongRecOn with
  | _ f ih =>
    intro j r bs V h1 h4 hf h
    by_cases hj : j = 4
    · subst hj
      obtain ⟨f0, rfl⟩ : ∃ f0, f = f0 + 2 := ⟨f - 2, by omega⟩
      exact bin4_any (RA.raised (ih f0 (by omega)) (by omega) h ht)
    · obtain ⟨f0, rfl⟩ : ∃ f0, f = f0 + 1 := ⟨f - 1, by omega⟩
      exact RA.binS rfl (by omega) (fun g hg => ih g (by omega)) (by omega) h ht
end
end Go.Proofs.YtjebpmjbdchdlaaDoor
