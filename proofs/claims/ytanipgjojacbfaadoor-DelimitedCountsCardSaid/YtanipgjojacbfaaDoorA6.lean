/- The end of a line; a quoted field. -/
import Derived.Test.YtanipgjojacbfaaDoorA5
import Derived.Recover
namespace Go.Proofs.YtanipgjojacbfaaDoor
open Go.RowKit
set_option linter.unusedVariables false

/-- How many bytes the end of a line has. -/
def skipS : Bs → Option Nat
  | [] => some 0
  | c :: r => if c = 10 then some 1 else if c = 13 ∧ r.head? = some 10 then some 2 else none
theorem skipS_cons (c : UInt8) (r : Bs) : skipS (c :: r) = if c = 10 then some 1 else if c = 13 ∧ r.head? = some 10 then some 2 else none := rfl
theorem skip_le {r : Bs} {n : Nat} (h : skipS r = some n) : n ≤ r.length := by
  cases r with
  | nil => cases h; exact Nat.le_refl _
  | cons c r =>
    rw [skipS_cons] at h
    split at h
    · cases h; simp
    · by_cases h2 : c = 13 ∧ r.head? = some 10
      · rw [if_pos h2] at h
        cases h
        cases r with
        | nil => exact absurd h2.2 (by simp)
        | cons e r => simp
      · rw [if_neg h2] at h; cases h
/-- What a panic with a place leaves. -/
def Pan (t : Nat) (p : Nat) : Ending := .panicked [{ v := .iface t (.int .i64 (p : Int)), recovered := false }]
abbrev tMis : Nat := 42
abbrev tExc : Nat := 44

theorem pre1 (c : UInt8) (r : Bs) : Lib.hasPrefix r [c] = (r.head? == some c) := by
  cases r with
  | nil => rfl
  | cons e r => 
    unfold Lib.hasPrefix
    simp only [List.isPrefixOf, List.head?_cons, Bool.and_true]
    by_cases h : c = e
    · subst h; simp
    · have h2 : (c == e) = false := by simpa using h
      have h3 : (some e == some c) = false := by
        rw [beq_eq_false_iff_ne]; intro x; injection x with x; exact h x.symm
      rw [h2, h3]
theorem pre2 (c e : UInt8) (r : Bs) : Lib.hasPrefix r [c, e] = ((r.head? == some c) && (r.tail.head? == some e)) := by
  cases r with
  | nil => rfl
  | cons x r =>
    have h := pre1 e r
    have h' := pre1 c (x :: r)
    unfold Lib.hasPrefix at *
    rw [List.isPrefixOf] at h' ⊢
    rw [h, List.tail_cons, ← h']
    simp [List.isPrefixOf]

set_option maxRecDepth 100000 in
set_option maxHeartbeats 2000000 in
theorem skip_any (s : ByteArray) (d : UInt8) (p b : Nat) (w : World) (h : Cb w b (rdC s d p) rdT) (hp : p ≤ s.size) (hs : s.size ≤ 65536) :
    Calls Tryd.prog 50 #[.pointer (some ⟨b, 0, none⟩)] w fun e w' => match skipS (s.data.toList.drop p) with
      | some n => e = .returned (.tuple #[]) ∧ Upd b (rdC s d (p + n)) rdT w w'
      | none => e = Pan tMis p ∧ Upd b (rdC s d p) rdT w w' := by
  have hW := Lib.hid (fun x W hW => startsWith_any s d p b x W hW hp hs)
  have hl : (s.data.toList.drop p).length = s.size - p := by rw [List.length_drop, sz]
  have hU := Lib.hid (Upd.refl h)
  have hpz : (p : Int) ≤ 65536 := by omega
  have hp0 : (0 : Int) ≤ (p : Int) := by omega
  have h1 := Lib.hid (pre1 10 (s.data.toList.drop p))
  have h2 := Lib.hid (pre2 13 10 (s.data.toList.drop p))
  generalize s.data.toList.drop p = r at *
  have hW1 : Hid (∀ W, Cb W b (rdC s d p) rdT → Calls Tryd.prog 49 #[.pointer (some ⟨b, 0, none⟩), .string ⟨#[10]⟩] W fun e w' => e = .returned (.bool (r.head? == some 10)) ∧ ∃ q, w' = W.drewN q) := Lib.hid fun W hU => (hW.out ⟨#[10]⟩ W hU).mono fun e w' ⟨e1, e2⟩ => ⟨e1.trans (congrArg (fun z => Ending.returned (.bool z)) h1.out), e2⟩
  have hW2 : Hid (∀ W, Cb W b (rdC s d p) rdT → Calls Tryd.prog 49 #[.pointer (some ⟨b, 0, none⟩), .string ⟨#[13, 10]⟩] W fun e w' => e = .returned (.bool ((r.head? == some 13) && (r.tail.head? == some 10))) ∧ ∃ q, w' = W.drewN q) := Lib.hid fun W hU => (hW.out ⟨#[13, 10]⟩ W hU).mono fun e w' ⟨e1, e2⟩ => ⟨e1.trans (congrArg (fun z => Ending.returned (.bool z)) h2.out), e2⟩
  clear h hW
  generalize hQ : (fun (e : Ending) (w' : World) => match skipS r with
      | some n => e = Ending.returned (.tuple #[]) ∧ Upd b (rdC s d (p + n)) rdT w w'
      | none => e = Pan tMis p ∧ Upd b (rdC s d p) rdT w w') = Q
  have hq1 : Hid (r.head? = some 10 → ∀ w', Upd b (rdC s d (p + 1)) rdT w w' → Q (.returned (.tuple #[])) w') := Lib.hid fun e w' hu => by
    subst hQ
    cases r with
    | nil => simp at e
    | cons c r =>
      obtain rfl : c = 10 := by simpa using e
      exact ⟨rfl, hu⟩
  have hq2 : Hid (¬ r.head? = some 10 → r.head? = some 13 → r.tail.head? = some 10 → ∀ w', Upd b (rdC s d (p + 2)) rdT w w' → Q (.returned (.tuple #[])) w') := Lib.hid fun e1 e2 e3 w' hu => by
    subst hQ
    cases r with
    | nil => simp at e2
    | cons c r =>
      obtain rfl : c = 13 := by simpa using e2
      have e3' : r.head? = some 10 := e3
      rw [show skipS (13 :: r) = some 2 by rw [skipS_cons, if_neg (by decide), if_pos ⟨rfl, e3'⟩]]
      exact ⟨rfl, hu⟩
  have hq3 : Hid (r = [] → ∀ w', Upd b (rdC s d p) rdT w w' → Q (.returned (.tuple #[])) w') := Lib.hid fun e1 w' hu => by
    subst hQ e1
    exact ⟨rfl, hu⟩
  have hq4 : Hid (¬ r.head? = some 10 → ¬ (r.head? = some 13 ∧ r.tail.head? = some 10) → ¬ r = [] → ∀ w', Upd b (rdC s d p) rdT w w' → Q (Pan tMis p) w') := Lib.hid fun e1 e2 e3 w' hu => by
    subst hQ
    cases r with
    | nil => exact absurd rfl e3
    | cons c r =>
      have a1 : ¬ c = 10 := fun e => e1 (by rw [e]; rfl)
      have a2 : ¬ (c = 13 ∧ r.head? = some 10) := fun e => e2 ⟨by rw [e.1]; rfl, e.2⟩
      rw [show skipS (c :: r) = none by rw [skipS_cons, if_neg a1, if_neg a2]]
      exact ⟨rfl, hu⟩
  replace hQ := Lib.hid hQ
  go_enter Tryd.func50, Tryd.ntmps50
  go_wp2_with fail
  refine (hW1.out _ hU.out.here).mono ?_
  rintro e w1 ⟨rfl, q, hw⟩
  have hU1 := Lib.hid (hU.out.drewN q)
  rw [← hw] at hU1
  replace hw := Lib.hid hw
  clear hU h1 h2
  by_cases a1 : r.head? = some 10
  · have g1 : (r.head? == some 10) = true := by rw [a1]; rfl
    have hq := Lib.hid (hq1.out a1)
    have hU2 := Lib.hid (hU1.out.set 2 (.int .i64 ((p : Int) + 1)))
    have c2 := rd2 hU1.out.here
    have f2 := hU1.out.here.frozen 2
    clear a1 hq1 hq2 hq3 hq4
    rw [g1]
    go_wp2
    exact bodyPost_ret (results_none rfl _ _ _) rfl (hq.out _ hU2.out)
  · have g1 : (r.head? == some 10) = false := by simpa using a1
    rw [g1]
    replace a1 := Lib.hid a1
    go_wp2_with fail
    refine (hW2.out _ hU1.out.here).mono ?_
    rintro e w2 ⟨rfl, q2, hw2⟩
    have hU2 := Lib.hid (hU1.out.drewN q2)
    rw [← hw2] at hU2
    replace hw2 := Lib.hid hw2
    clear hU1 g1 hw
    by_cases a2 : r.head? = some 13 ∧ r.tail.head? = some 10
    · have g1 : ((r.head? == some 13) && (r.tail.head? == some 10)) = true := by rw [a2.1, a2.2]; rfl
      have hq := Lib.hid (hq2.out a1.out a2.1 a2.2)
      have hU3 := Lib.hid (hU2.out.set 2 (.int .i64 ((p : Int) + 2)))
      have c2 := rd2 hU2.out.here
      have f2 := hU2.out.here.frozen 2
      clear a1 a2 hq1 hq2 hq3 hq4
      rw [g1]
      go_wp2
      exact bodyPost_ret (results_none rfl _ _ _) rfl (hq.out _ hU3.out)
    · have g1 : ((r.head? == some 13) && (r.tail.head? == some 10)) = false := by
        rw [Bool.eq_false_iff]; intro h; rw [Bool.and_eq_true, beq_iff_eq, beq_iff_eq] at h; exact a2 h
      rw [g1]
      have c2 := rd2 hU2.out.here
      have c0 := rd0 hU2.out.here
      by_cases a3 : r = []
      · have hpe : (p : Int) = (s.size : Int) := by rw [a3] at hl; simp at hl; omega
        have hq := Lib.hid (hq3.out a3)
        have hlt : ¬ ((p : Int) < (s.size : Int)) := by omega
        replace hpe := Lib.hid hpe
        clear a1 a2 hq1 hq2 hq3 hq4
        go_wp2
        go_quiet (fail)
        have hU3 := Lib.hid (hU2.out.drewN nq)
        go_wp2
        exact bodyPost_ret (results_none rfl _ _ _) rfl (hq.out _ hU3.out)
      · have hlt : (p : Int) < (s.size : Int) := by
          have : 0 < r.length := List.length_pos_iff.2 a3
          omega
        have hq := Lib.hid (hq4.out a1.out a2 a3)
        clear a1 a2 a3 hq1 hq2 hq3 hq4
        go_wp2
        go_quiet (fail)
        have hU3 := Lib.hid (hU2.out.drewN nq)
        go_wp2
        exact ⟨rfl, hq.out _ hU3.out⟩
end Go.Proofs.YtanipgjojacbfaaDoor
