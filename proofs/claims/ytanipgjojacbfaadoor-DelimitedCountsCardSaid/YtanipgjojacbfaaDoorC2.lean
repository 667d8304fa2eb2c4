/- The reference: the end of a line. -/
import Derived.Test.YtanipgjojacbfaaDoorC1
namespace Go.Proofs.YtanipgjojacbfaaDoor
open Go.RowKit
set_option linter.unusedVariables false

theorem endS_cons (c : UInt8) (r : Bs) : endS (c :: r) = if c = 10 then some 1 else if c = 13 ∧ r.head? = some 10 then some 2 else none := rfl

theorem upd_line {s : ByteArray} {d : UInt8} {b p : Nat} {w W : World} (h : Upd b (rrC s d p) rrT w W) (k : Nat) (hl : lnP s (p + k) = lnP s p + 1) : Upd b (rrC s d (p + k)) rrT w ((W.setCell ⟨b, 1, none⟩ (.int .i64 ((p : Int) + (k : Nat)))).setCell ⟨b, 2, none⟩ (.int .i64 (((lnP s p : Nat) : Int) + 1))).drew := by
  have h1 := ((h.set 1 (.int .i64 ((p + k : Nat) : Int))).set 2 (.int .i64 ((lnP s p + 1 : Nat) : Int))).bel ((Below.refl _ _).drew)
  have h2 : rrC s d (p + k) = ((rrC s d p).setIfInBounds 1 (.int .i64 ((p + k : Nat) : Int))).setIfInBounds 2 (.int .i64 ((lnP s p + 1 : Nat) : Int)) := by
    unfold rrC
    rw [hl]
    rfl
  rw [h2, ← Int.natCast_add, show ((lnP s p : Nat) : Int) + 1 = ((lnP s p + 1 : Nat) : Int) by omega]
  exact h1

set_option maxRecDepth 100000 in
set_option maxHeartbeats 2000000 in
theorem rend_any (s : ByteArray) (d : UInt8) (p b : Nat) (w : World) (h : Cb w b (rrC s d p) rrT) (hp : p ≤ s.size) (hs : s.size ≤ 65536) :
    Calls Tryd.prog 36 #[.pointer (some ⟨b, 0, none⟩)] w fun e w' => match endS (s.data.toList.drop p) with
      | some n => e = .returned (.bool true) ∧ Upd b (rrC s d (p + n)) rrT w w'
      | none => e = .returned (.bool false) ∧ Upd b (rrC s d p) rrT w w' := by
  generalize hQ : (fun (e : Ending) (w' : World) => match endS (s.data.toList.drop p) with
      | some n => e = Ending.returned (.bool true) ∧ Upd b (rrC s d (p + n)) rrT w w'
      | none => e = Ending.returned (.bool false) ∧ Upd b (rrC s d p) rrT w w') = Q
  have c0 := rr0 h
  have c1 := rr1 h
  have c2 := rr2 h
  have hU := Lib.hid (Upd.refl h)
  have hn : Hid (endS (s.data.toList.drop p) = none → ∀ w', Upd b (rrC s d p) rrT w w' → Q (.returned (.bool false)) w') := Lib.hid fun e w' hu => by subst hQ; simp only [e]; exact ⟨trivial, hu⟩
  have hy : Hid (∀ n, endS (s.data.toList.drop p) = some n → ∀ w', Upd b (rrC s d (p + n)) rrT w w' → Q (.returned (.bool true)) w') := Lib.hid fun n e w' hu => by subst hQ; simp only [e]; exact ⟨trivial, hu⟩
  replace hQ := Lib.hid hQ
  have hpz : (p : Int) ≤ 65536 := by omega
  have hp0 : (0 : Int) ≤ (p : Int) := by omega
  cases hd : s.data.toList.drop p with
  | nil =>
    have he := drop_nil hp hd
    have hq := Lib.hid (hn.out (by rw [hd]; rfl))
    have g1 : ¬ (p : Int) < (s.size : Int) := by omega
    have g2 : ¬ (p : Int) + 1 < (s.size : Int) := by omega
    have g3 : ¬ p < s.size := by omega
    have g4 : ¬ p + 1 < s.size := by omega
    have g5 : decide ((p : Int) + 1 < (s.size : Int)) = false := by simp; omega
    have hw : IntKind.i64.wrap ((p : Int) + 1) = (p : Int) + 1 := IntWalk.i64_in _ (by omega)
    clear hd he hn hy h hp hs
    go_enter Tryd.func36, Tryd.ntmps36
    go_wp2
    go_quiet (fail)
    have hU1 := Lib.hid (hU.out.drewN nq)
    generalize w.drewN nq = w1 at *
    have c0 := rr0 hU1.out.here
    have c1 := rr1 hU1.out.here
    go_wp2
    go_quiet (fail)
    have hU2 := Lib.hid (hU1.out.drewN nq)
    generalize w1.drewN nq = w2 at *
    go_wp2
    exact hq.out _ hU2.out
  | cons c k =>
    obtain ⟨hlt, hc, hk⟩ := at_drop hd
    have g1 : (p : Int) < (s.size : Int) := by omega
    have hw : IntKind.i64.wrap ((p : Int) + 1) = (p : Int) + 1 := IntWalk.i64_in _ (by omega)
    by_cases h10 : c = 10
    · have hq := Lib.hid (hy.out 1 (by rw [hd, h10]; rfl))
      subst h10
      have g2 : (((10 : UInt8).toNat : Int) == 10) = true := rfl
      have hln := lnP_le s p
      have hlz : ((lnP s p : Nat) : Int) ≤ 65537 := by omega
      have hl0 : (0 : Int) ≤ ((lnP s p : Nat) : Int) := by omega
      have hw2 : IntKind.i64.wrap (((lnP s p : Nat) : Int) + 1) = ((lnP s p : Nat) : Int) + 1 := IntWalk.i64_in _ (by omega)
      have hl1 : Hid (lnP s (p + 1) = lnP s p + 1) := Lib.hid (lnP_app s (u := [10]) (k := k) hd)
      clear hd hn hy h hp hs hk hln
      go_enter Tryd.func36, Tryd.ntmps36
      go_wp2
      go_quiet (fail)
      have hU1 := Lib.hid (hU.out.drewN nq)
      generalize w.drewN nq = w1 at *
      have c1 := rr1 hU1.out.here
      have c2 := rr2 hU1.out.here
      have f1 := hU1.out.here.frozen 1
      have f2 := hU1.out.here.frozen 2
      go_upto_region 2 with fail
      go_region
      have hU2 : Hid (Upd b (rrC s d (p + 1)) rrT w ((w1.setCell ⟨b, 1, none⟩ (.int .i64 ((p : Int) + 1))).setCell ⟨b, 2, none⟩ (.int .i64 (((lnP s p : Nat) : Int) + 1))).drew) := Lib.hid (upd_line hU1.out 1 hl1.out)
      generalize ((w1.setCell ⟨b, 1, none⟩ (.int .i64 ((p : Int) + 1))).setCell ⟨b, 2, none⟩ (.int .i64 (((lnP s p : Nat) : Int) + 1))).drew = w2 at *
      go_wp2
      exact hq.out _ hU2.out
    · have g2 : ((c.toNat : Int) == 10) = false := u8ne (d := 10) h10
      have hw1 : IntKind.i64.wrap ((p : Int) + 1) = (p : Int) + 1 := hw
      cases hk2 : k with
      | nil =>
        have he : p + 1 = s.size := drop_nil (by omega) (by rw [hk, hk2])
        have hq := Lib.hid (hn.out (by rw [hd, hk2, endS_cons, if_neg h10, if_neg (by simp)]))
        have g3 : ¬ (p : Int) + 1 < (s.size : Int) := by omega
        have g4 : decide ((p : Int) + 1 < (s.size : Int)) = false := by simp; omega
        clear hd he hn hy h hp hs hk hk2 h10
        go_enter Tryd.func36, Tryd.ntmps36
        go_wp2
        go_quiet (fail)
        have hU1 := Lib.hid (hU.out.drewN nq)
        generalize w.drewN nq = w1 at *
        have c0 := rr0 hU1.out.here
        have c1 := rr1 hU1.out.here
        go_wp2
        go_quiet (fail)
        have hU2 := Lib.hid (hU1.out.drewN nq)
        generalize w1.drewN nq = w2 at *
        go_wp2
        exact hq.out _ hU2.out
      | cons e k2 =>
        obtain ⟨hlt2, hc2, hk3⟩ := at_drop (hk.trans hk2)
        have g3 : (p : Int) + 1 < (s.size : Int) := by omega
        have g4 : decide ((p : Int) + 1 < (s.size : Int)) = true := by simp; omega
        have g5 : ((p : Int) + 1).toNat = p + 1 := by omega
        have g6 : (0 : Int) ≤ (p : Int) + 1 := by omega
        by_cases h13 : c = 13
        · have g7 : ((c.toNat : Int) == 13) = true := u8eq (d := 13) h13
          by_cases e10 : e = 10
          · have g8 : ((e.toNat : Int) == 10) = true := u8eq (d := 10) e10
            have hq := Lib.hid (hy.out 2 (by rw [hd, hk2, endS_cons, if_neg h10, if_pos ⟨h13, by rw [e10]; rfl⟩]))
            have hln := lnP_le s p
            have hlz : ((lnP s p : Nat) : Int) ≤ 65537 := by omega
            have hl0 : (0 : Int) ≤ ((lnP s p : Nat) : Int) := by omega
            have hw2 : IntKind.i64.wrap (((lnP s p : Nat) : Int) + 1) = ((lnP s p : Nat) : Int) + 1 := IntWalk.i64_in _ (by omega)
            have hw3 : IntKind.i64.wrap ((p : Int) + 2) = (p : Int) + 2 := IntWalk.i64_in _ (by omega)
            have hl1 : Hid (lnP s (p + 2) = lnP s p + 1) := Lib.hid (by
              have := lnP_app s (u := [c, e]) (k := k2) (by rw [hd, hk2]; rfl)
              rw [h13, e10] at this
              exact this)
            clear hd hn hy h hp hs hk hk2 hk3 h10 h13 e10 hln
            go_enter Tryd.func36, Tryd.ntmps36
            go_wp2
            go_quiet (fail)
            have hU1 := Lib.hid (hU.out.drewN nq)
            generalize w.drewN nq = w1 at *
            have c0 := rr0 hU1.out.here
            have c1 := rr1 hU1.out.here
            go_wp2
            go_quiet (fail)
            have hU2 := Lib.hid (hU1.out.drewN nq)
            generalize w1.drewN nq = w2 at *
            have c1 := rr1 hU2.out.here
            have c2 := rr2 hU2.out.here
            have f1 := hU2.out.here.frozen 1
            have f2 := hU2.out.here.frozen 2
            go_upto_region 5 with fail
            go_region
            have hU3 : Hid (Upd b (rrC s d (p + 2)) rrT w ((w2.setCell ⟨b, 1, none⟩ (.int .i64 ((p : Int) + 2))).setCell ⟨b, 2, none⟩ (.int .i64 (((lnP s p : Nat) : Int) + 1))).drew) := Lib.hid (upd_line hU2.out 2 hl1.out)
            generalize ((w2.setCell ⟨b, 1, none⟩ (.int .i64 ((p : Int) + 2))).setCell ⟨b, 2, none⟩ (.int .i64 (((lnP s p : Nat) : Int) + 1))).drew = w3 at *
            go_wp2
            exact hq.out _ hU3.out
          · have g8 : ((e.toNat : Int) == 10) = false := u8ne (d := 10) e10
            have hq := Lib.hid (hn.out (by rw [hd, hk2, endS_cons, if_neg h10, if_neg (fun x => e10 (by simpa using x.2))]))
            clear hd hn hy h hp hs hk hk2 hk3 h10 h13 e10
            go_enter Tryd.func36, Tryd.ntmps36
            go_wp2
            go_quiet (fail)
            have hU1 := Lib.hid (hU.out.drewN nq)
            generalize w.drewN nq = w1 at *
            have c0 := rr0 hU1.out.here
            have c1 := rr1 hU1.out.here
            go_wp2
            go_quiet (fail)
            have hU2 := Lib.hid (hU1.out.drewN nq)
            generalize w1.drewN nq = w2 at *
            go_wp2
            exact hq.out _ hU2.out
        · have g7 : ((c.toNat : Int) == 13) = false := u8ne (d := 13) h13
          have hq := Lib.hid (hn.out (by rw [hd, hk2, endS_cons, if_neg h10, if_neg (fun x => h13 x.1)]))
          clear hd hn hy h hp hs hk hk2 hk3 h10 h13
          go_enter Tryd.func36, Tryd.ntmps36
          go_wp2
          go_quiet (fail)
          have hU1 := Lib.hid (hU.out.drewN nq)
          generalize w.drewN nq = w1 at *
          have c0 := rr0 hU1.out.here
          have c1 := rr1 hU1.out.here
          go_wp2
          go_quiet (fail)
          have hU2 := Lib.hid (hU1.out.drewN nq)
          generalize w1.drewN nq = w2 at *
          go_wp2
          exact hq.out _ hU2.out
end Go.Proofs.YtanipgjojacbfaaDoor
