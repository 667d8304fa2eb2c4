/- The reference: a field. -/
import Derived.Test.YtanipgjojacbfaaDoorC3
namespace Go.Proofs.YtanipgjojacbfaaDoor
open Go.RowKit
set_option linter.unusedVariables false

set_option maxRecDepth 100000 in
set_option maxHeartbeats 4000000 in
theorem rfield_any (s : ByteArray) (d : UInt8) (p b : Nat) (w : World) (h : Cb w b (rrC s d p) rrT) (hp : p ≤ s.size) (hs : s.size ≤ 65536) :
    Calls Tryd.prog 35 #[.pointer (some ⟨b, 0, none⟩)] w (QuoR s d b (fS d (s.data.toList.drop p)) w) := by
  have hU := Lib.hid (Upd.refl h)
  have hS := Lib.hid (fun c W => rSpecial_any d c W)
  have hsh := Lib.hid hs
  have hph := Lib.hid hp
  have hp0 : (0 : Int) ≤ (p : Int) := by omega
  have hpz : (p : Int) ≤ 65536 := by omega
  have c0 := rr0 h
  have c1 := rr1 h
  by_cases hh : (s.data.toList.drop p).head? = some 34
  · obtain ⟨k, hk⟩ : ∃ k, s.data.toList.drop p = 34 :: k := by
      cases hd : s.data.toList.drop p with
      | nil => rw [hd] at hh; simp at hh
      | cons e k => rw [hd] at hh; exact ⟨k, by rw [show e = 34 by simpa using hh]⟩
    obtain ⟨hlt, hc, hk2⟩ := at_drop hk
    have hl1 : Hid (lnP s (p + 1) = lnP s p) := Lib.hid (lnP_app s (u := [34]) (k := k) hk)
    have hfs : Hid (fS d (s.data.toList.drop p) = qS (s.data.toList.drop (p + 1))) := Lib.hid (by rw [hk, fS_cons, if_pos rfl, hk2])
    rw [hfs.out]
    have hR : Hid (∀ W, Upd b (rrC s d (p + 1)) rrT w W → Calls Tryd.prog 51 #[.pointer (some ⟨b, 0, none⟩)] W (QuoR s d b (qS (s.data.toList.drop (p + 1))) w)) := Lib.hid fun W hu => by
      refine (rquoted_any s d (p + 1) b W hu.here (by omega) hs).mono fun e w' hh => ?_
      unfold QuoR at *
      cases hq : qS (s.data.toList.drop (p + 1)) with
      | none => rw [hq] at hh; exact ⟨hh.1, hu.trans hh.2⟩
      | some r => rw [hq] at hh; exact ⟨hh.1, hu.trans hh.2⟩
    have hno : Hid (∀ e w', QuoR s d b (qS (s.data.toList.drop (p + 1))) w e w' → ∃ x y, e = .returned (.tuple #[.string x, .bool y])) := Lib.hid fun e w' hr => by
      unfold QuoR at hr
      split at hr
      · exact ⟨_, _, hr.1⟩
      · exact ⟨_, _, hr.1⟩
    generalize QuoR s d b (qS (s.data.toList.drop (p + 1))) w = Q at *
    have g1 : (p : Int) < (s.size : Int) := by omega
    have g2 : (((34 : UInt8).toNat : Int) == 34) = true := rfl
    have hlh := Lib.hid hlt
    clear h hh hk hk2 hfs hp hs
    go_enter Tryd.func35, Tryd.ntmps35
    go_wp2
    go_quiet (fail)
    have hU1 := Lib.hid (hU.out.drewN nq)
    generalize w.drewN nq = w1 at *
    have c1 := rr1 hU1.out.here
    have f1 := hU1.out.here.frozen 1
    have hU2 := Lib.hid (upd_at hU1.out hl1.out)
    have hR1 := Lib.hid (hR.out _ hU2.out)
    clear hU
    go_wp2_with fail
    refine hR1.out.mono ?_
    intro e w3 hr
    obtain ⟨x, y, rfl⟩ := hno.out e w3 hr
    replace hr := Lib.hid hr
    clear c0 c1 f1 hU2 hR hR1
    go_wp2
    exact hr.out
  · have hfs : Hid (fS d (s.data.toList.drop p) = some (plS d (s.data.toList.drop p), plR d (s.data.toList.drop p))) := Lib.hid (by
      cases hr : s.data.toList.drop p with
      | nil => rfl
      | cons c r => rw [hr] at hh; rw [fS_cons, if_neg (fun e => hh (by rw [e]; rfl))])
    generalize hQ : QuoR s d b (fS d (s.data.toList.drop p)) w = Q
    have hq : Hid (∀ w', Upd b (rrC s d (s.size - (plR d (s.data.toList.drop p)).length)) rrT w w' → Q (.returned (.tuple #[.string (bA (plS d (s.data.toList.drop p))), .bool true])) w') := Lib.hid fun w' hu => by
      rw [← hQ, hfs.out]; exact ⟨rfl, hu⟩
    clear hQ hfs
    have key : Hid (∀ i W, p ≤ i → i ≤ s.size → Upd b (rrC s d i) rrT w W → plS d (s.data.toList.drop p) = (s.data.toList.drop p).take (i - p) → plR d (s.data.toList.drop p) = s.data.toList.drop i → Q (.returned (.tuple #[.string (s.extract p i), .bool true])) W) := Lib.hid fun i W h1 h2 hu h3 h4 => by
      have := hq.out W (by rw [h4, List.length_drop, sz, show s.size - (s.size - i) = i by omega]; exact hu)
      rw [bA_ext, ← h3]
      exact this
    have hR1 : Hid ((∃ c k, s.data.toList.drop p = c :: k ∧ ¬ c = 34) ∨ s.data.toList.drop p = []) := Lib.hid (by
      cases hr : s.data.toList.drop p with
      | nil => exact .inr rfl
      | cons c r => rw [hr] at hh; exact .inl ⟨c, r, rfl, fun e => hh (by rw [e]; rfl)⟩)
    clear hq hh h hp hs
    go_enter Tryd.func35, Tryd.ntmps35
    go_wp2
    rcases hR1.out with ⟨c, k, hd, h34⟩ | hd
    · obtain ⟨hlt, hc, hk⟩ := at_drop hd
      have g1 : ((c.toNat : Int) == 34) = false := u8ne (d := 34) h34
      replace hd := Lib.hid hd
      replace h34 := Lib.hid h34
      replace hk := Lib.hid hk
      clear hR1
      go_quiet (fail)
      clear hc g1
      replace hlt := Lib.hid hlt
      have hU1 := Lib.hid (hU.out.drewN nq)
      generalize w.drewN nq = w1 at *
      have c1 := rr1 hU1.out.here
      clear c0 hU
      go_wp2
      go_loopw [] (fun wr => ∃ i, p ≤ i ∧ i ≤ s.size ∧ Upd b (rrC s d i) rrT w wr ∧ plS d (s.data.toList.drop p) = (s.data.toList.drop p).take (i - p) ++ plS d (s.data.toList.drop i) ∧ plR d (s.data.toList.drop p) = plR d (s.data.toList.drop i)) (fun wr => s.size - posR wr b)
      case atStart => exact ⟨p, Nat.le_refl _, hph.out, hU1.out, by rw [Nat.sub_self, List.take_zero, List.nil_append], rfl⟩
      case round =>
        clear hU1 c1
        obtain ⟨i, hpi, his, hu, hpl, hpr⟩ := hrel
        have c0 := rr0 hu.here
        have c1 := rr1 hu.here
        have c3 := rr3 hu.here
        have hmeas := Lib.hid (posR_of hu.here)
        replace hu := Lib.hid hu
        have hi0 : (0 : Int) ≤ (i : Int) := by omega
        have hiz : (i : Int) ≤ 65536 := by have := hsh.out; omega
        have hpiz : (p : Int) ≤ (i : Int) := by omega
        have hisz : (i : Int) ≤ (s.size : Int) := by omega
        have fin : Hid (plS d (s.data.toList.drop i) = [] → plR d (s.data.toList.drop i) = s.data.toList.drop i → ∀ W, Upd b (rrC s d i) rrT w W → Q (.returned (.tuple #[.string (s.extract p i), .bool true])) W) := Lib.hid fun e1 e2 W h => key.out i W hpi his h (by rw [hpl, e1, List.append_nil]) (by rw [hpr, e2])
        cases hdi : s.data.toList.drop i with
        | nil =>
          have g1 : ¬ i < s.size := by have := drop_nil his hdi; omega
          have hf := Lib.hid (fin.out (by rw [hdi]; rfl) (by rw [hdi]; rfl))
          clear hdi hpl hpr fin key
          go_wp2
          go_quiet (fail)
          have hu1 := Lib.hid (hu.out.drewN nq)
          generalize wr.drewN nq = w2 at *
          have c0 := rr0 hu1.out.here
          have c1 := rr1 hu1.out.here
          go_wp2
          go_quiet (fail)
          have hf2 := Lib.hid (hf.out _ (hu1.out.drewN nq))
          generalize w2.drewN nq = w3 at *
          go_wp2
          exact hf2.out
        | cons e k2 =>
          obtain ⟨hlt2, he2, hk2⟩ := at_drop hdi
          have hSe := Lib.hid (fun W => hS.out e W)
          cases hsp : spc d e with
          | true =>
            rw [hsp] at hSe
            have hf := Lib.hid (fin.out (by rw [hdi]; unfold plS; rw [List.takeWhile_cons_of_neg (by simp [hsp])]) (by rw [hdi]; unfold plR; rw [List.dropWhile_cons_of_neg (by simp [hsp])]))
            clear hdi hpl hpr fin key hk2 hsp
            go_wp2
            go_quiet ((go_at_call 43; exact Calls.quiet_of_same (hSe.out _)))
            have hu1 := Lib.hid (hu.out.drewN nq)
            generalize wr.drewN nq = w2 at *
            have c0 := rr0 hu1.out.here
            have c1 := rr1 hu1.out.here
            go_wp2
            go_quiet (fail)
            have hf2 := Lib.hid (hf.out _ (hu1.out.drewN nq))
            generalize w2.drewN nq = w3 at *
            go_wp2
            exact hf2.out
          | false =>
            rw [hsp] at hSe
            have hne10 : ¬ e = 10 := fun x => by rw [x] at hsp; simp [spc] at hsp
            have hl1 : Hid (lnP s (i + 1) = lnP s i) := Lib.hid (by
              have := lnP_app s (u := [e]) (k := k2) hdi
              rw [List.count_cons_of_ne hne10] at this
              exact this)
            have hpl2 : Hid (plS d (s.data.toList.drop p) = (s.data.toList.drop p).take (i + 1 - p) ++ plS d (s.data.toList.drop (i + 1))) := Lib.hid (by
              rw [hpl, hk2, show i + 1 - p = (i - p) + 1 by omega, List.take_add_one]
              have : (s.data.toList.drop p)[i - p]? = some e := by
                rw [List.getElem?_drop, Nat.add_sub_cancel' hpi]
                have := congrArg List.head? hdi
                rw [List.head?_drop] at this
                exact this
              rw [this, hdi]
              have : plS d (e :: k2) = e :: plS d k2 := by unfold plS; rw [List.takeWhile_cons_of_pos (by simp [hsp])]
              rw [this]
              simp)
            have hpr2 : Hid (plR d (s.data.toList.drop p) = plR d (s.data.toList.drop (i + 1))) := Lib.hid (by
              rw [hpr, hk2, hdi]
              unfold plR
              rw [List.dropWhile_cons_of_pos (by simp [hsp])])
            have hih := Lib.hid hlt2
            have hpih := Lib.hid hpi
            clear hdi hpl hpr fin key hk2 hsp hne10 hpi his
            go_wp2
            go_quiet ((go_at_call 43; exact Calls.quiet_of_same (hSe.out _)))
            have hu1 := Lib.hid (hu.out.drewN nq)
            generalize wr.drewN nq = w2 at *
            have c1 := rr1 hu1.out.here
            have f1 := hu1.out.here.frozen 1
            have hu2 := Lib.hid (upd_at hu1.out hl1.out)
            clear c0 hu1
            go_wp2
            go_roundw
            case rel => exact ⟨i + 1, by have := hpih.out; omega, hih.out, hu2.out, hpl2.out, hpr2.out⟩
            case measure => rw [posR_of hu2.out.here, hmeas.out]; have := hih.out; omega
    · have he := drop_nil hph.out hd
      have g1 : ¬ p < s.size := by omega
      replace he := Lib.hid he
      replace hd := Lib.hid hd
      clear hR1
      go_quiet (fail)
      clear g1
      have hU1 := Lib.hid (hU.out.drewN nq)
      generalize w.drewN nq = w1 at *
      have c1 := rr1 hU1.out.here
      clear c0 hU
      go_wp2
      go_loopw [] (fun wr => ∃ i, p ≤ i ∧ i ≤ s.size ∧ Upd b (rrC s d i) rrT w wr ∧ plS d (s.data.toList.drop p) = (s.data.toList.drop p).take (i - p) ++ plS d (s.data.toList.drop i) ∧ plR d (s.data.toList.drop p) = plR d (s.data.toList.drop i)) (fun wr => s.size - posR wr b)
      case atStart => exact ⟨p, Nat.le_refl _, hph.out, hU1.out, by rw [Nat.sub_self, List.take_zero, List.nil_append], rfl⟩
      case round =>
        clear hU1 c1
        obtain ⟨i, hpi, his, hu, hpl, hpr⟩ := hrel
        have c0 := rr0 hu.here
        have c1 := rr1 hu.here
        have c3 := rr3 hu.here
        have hmeas := Lib.hid (posR_of hu.here)
        replace hu := Lib.hid hu
        have hi0 : (0 : Int) ≤ (i : Int) := by omega
        have hiz : (i : Int) ≤ 65536 := by have := hsh.out; omega
        have hpiz : (p : Int) ≤ (i : Int) := by omega
        have hisz : (i : Int) ≤ (s.size : Int) := by omega
        have fin : Hid (plS d (s.data.toList.drop i) = [] → plR d (s.data.toList.drop i) = s.data.toList.drop i → ∀ W, Upd b (rrC s d i) rrT w W → Q (.returned (.tuple #[.string (s.extract p i), .bool true])) W) := Lib.hid fun e1 e2 W h => key.out i W hpi his h (by rw [hpl, e1, List.append_nil]) (by rw [hpr, e2])
        cases hdi : s.data.toList.drop i with
        | nil =>
          have g1 : ¬ i < s.size := by have := drop_nil his hdi; omega
          have hf := Lib.hid (fin.out (by rw [hdi]; rfl) (by rw [hdi]; rfl))
          clear hdi hpl hpr fin key
          go_wp2
          go_quiet (fail)
          have hu1 := Lib.hid (hu.out.drewN nq)
          generalize wr.drewN nq = w2 at *
          have c0 := rr0 hu1.out.here
          have c1 := rr1 hu1.out.here
          go_wp2
          go_quiet (fail)
          have hf2 := Lib.hid (hf.out _ (hu1.out.drewN nq))
          generalize w2.drewN nq = w3 at *
          go_wp2
          exact hf2.out
        | cons e k2 =>
          obtain ⟨hlt2, he2, hk2⟩ := at_drop hdi
          have hSe := Lib.hid (fun W => hS.out e W)
          cases hsp : spc d e with
          | true =>
            rw [hsp] at hSe
            have hf := Lib.hid (fin.out (by rw [hdi]; unfold plS; rw [List.takeWhile_cons_of_neg (by simp [hsp])]) (by rw [hdi]; unfold plR; rw [List.dropWhile_cons_of_neg (by simp [hsp])]))
            clear hdi hpl hpr fin key hk2 hsp
            go_wp2
            go_quiet ((go_at_call 43; exact Calls.quiet_of_same (hSe.out _)))
            have hu1 := Lib.hid (hu.out.drewN nq)
            generalize wr.drewN nq = w2 at *
            have c0 := rr0 hu1.out.here
            have c1 := rr1 hu1.out.here
            go_wp2
            go_quiet (fail)
            have hf2 := Lib.hid (hf.out _ (hu1.out.drewN nq))
            generalize w2.drewN nq = w3 at *
            go_wp2
            exact hf2.out
          | false =>
            rw [hsp] at hSe
            have hne10 : ¬ e = 10 := fun x => by rw [x] at hsp; simp [spc] at hsp
            have hl1 : Hid (lnP s (i + 1) = lnP s i) := Lib.hid (by
              have := lnP_app s (u := [e]) (k := k2) hdi
              rw [List.count_cons_of_ne hne10] at this
              exact this)
            have hpl2 : Hid (plS d (s.data.toList.drop p) = (s.data.toList.drop p).take (i + 1 - p) ++ plS d (s.data.toList.drop (i + 1))) := Lib.hid (by
              rw [hpl, hk2, show i + 1 - p = (i - p) + 1 by omega, List.take_add_one]
              have : (s.data.toList.drop p)[i - p]? = some e := by
                rw [List.getElem?_drop, Nat.add_sub_cancel' hpi]
                have := congrArg List.head? hdi
                rw [List.head?_drop] at this
                exact this
              rw [this, hdi]
              have : plS d (e :: k2) = e :: plS d k2 := by unfold plS; rw [List.takeWhile_cons_of_pos (by simp [hsp])]
              rw [this]
              simp)
            have hpr2 : Hid (plR d (s.data.toList.drop p) = plR d (s.data.toList.drop (i + 1))) := Lib.hid (by
              rw [hpr, hk2, hdi]
              unfold plR
              rw [List.dropWhile_cons_of_pos (by simp [hsp])])
            have hih := Lib.hid hlt2
            have hpih := Lib.hid hpi
            clear hdi hpl hpr fin key hk2 hsp hne10 hpi his
            go_wp2
            go_quiet ((go_at_call 43; exact Calls.quiet_of_same (hSe.out _)))
            have hu1 := Lib.hid (hu.out.drewN nq)
            generalize wr.drewN nq = w2 at *
            have c1 := rr1 hu1.out.here
            have f1 := hu1.out.here.frozen 1
            have hu2 := Lib.hid (upd_at hu1.out hl1.out)
            clear c0 hu1
            go_wp2
            go_roundw
            case rel => exact ⟨i + 1, by have := hpih.out; omega, hih.out, hu2.out, hpl2.out, hpr2.out⟩
            case measure => rw [posR_of hu2.out.here, hmeas.out]; have := hih.out; omega
end Go.Proofs.YtanipgjojacbfaaDoor
