/- The law that Parse answers as the reference does. -/
import Derived.Test.YtanipgjojacbfaaDoorC7
namespace Go.Proofs.YtanipgjojacbfaaDoor
open Go.RowKit
set_option linter.unusedVariables false

/-- What Parse returns. -/
def po (t : Bs) (d : UInt8) : List (List Bs) × Nat × Int :=
  if isD d = false then ([], 0, 1) else if 65536 < t.length then ([], 0, 2) else match parseS d t with
    | .ok l => (l, 0, 0)
    | .bad x k => ([], lnS t k, if x = 3 then 3 else 2)
def PoR (t : Bs) (d : UInt8) (w : World) : Ending → World → Prop := ParR (po t d).1 (po t d).2.1 (po t d).2.2 w
theorem po_no1 {t : Bs} {d : UInt8} (h : isD d = false) : po t d = ([], 0, 1) := by unfold po; rw [if_pos h]
theorem po_no2 {t : Bs} {d : UInt8} (h : isD d = true) (h2 : 65536 < t.length) : po t d = ([], 0, 2) := by unfold po; rw [if_neg (by rw [h]; decide), if_pos h2]
theorem po_yes {t : Bs} {d : UInt8} (h : isD d = true) (h2 : ¬ 65536 < t.length) : po t d = match parseS d t with
    | .ok l => (l, 0, 0)
    | .bad x k => ([], lnS t k, if x = 3 then 3 else 2) := by
  unfold po; rw [if_neg (by rw [h]; decide), if_neg h2]
theorem parse_any (s : ByteArray) (d : UInt8) (w : World) (hm : Mx w) : Calls Tryd.prog 11 #[.string s, .int .u8 d.toNat] w (PoR s.data.toList d w) := by
  unfold PoR
  cases hd : isD d with
  | false => rw [po_no1 hd]; exact parse_no1 s d w hd
  | true =>
    by_cases hs : 65536 < s.size
    · rw [po_no2 hd (by rw [sz]; exact hs)]; exact parse_no2 s d w hd hs
    · rw [po_yes hd (by rw [sz]; exact hs)]
      have h := parse_yes s d w hd (by omega) hm
      cases hp : parseS d s.data.toList with
      | ok l => rw [hp] at h; exact h
      | bad x k => rw [hp] at h; exact h
theorem rparse_any (s : ByteArray) (d : UInt8) (w : World) : Calls Tryd.prog 12 #[.string s, .int .u8 d.toNat] w (PoR s.data.toList d w) := by
  unfold PoR
  cases hd : isD d with
  | false => rw [po_no1 hd]; exact rparse_no1 s d w hd
  | true =>
    by_cases hs : 65536 < s.size
    · rw [po_no2 hd (by rw [sz]; exact hs)]; exact rparse_no2 s d w hd hs
    · rw [po_yes hd (by rw [sz]; exact hs)]
      have h := rparse_yes s d w hd (by omega)
      cases hp : parseS d s.data.toList with
      | ok l => rw [hp] at h; exact h
      | bad x k => rw [hp] at h; exact h
theorem recs_len {d : UInt8} : ∀ (n : Nat) (acc : List (List Bs)) (r : Bs) (l : List (List Bs)), recsS d n acc r = .ok l → l.length ≤ acc.length + n
  | n, acc, [], l, h => by rw [recsS_nil] at h; cases h; omega
  | 0, acc, c :: r, l, h => by cases h
  | n + 1, acc, c :: r, l, h => by
    rw [recsS_succ d n acc (by simp)] at h
    cases hr : recS d 31 [] (c :: r) with
    | bad x k => rw [hr] at h; cases h
    | ok fs k =>
      rw [hr] at h
      have := recs_len n _ _ _ h
      rw [List.length_append] at this
      simp at this
      omega

/-- Parse of the first example. -/
def exT : Bs := [97, 44, 34, 98, 32, 34, 34, 99, 34, 34, 10, 34, 44, 10]
def exF : List Bs := [[97], [98, 32, 34, 99, 34, 10], []]
theorem ex1 : po exT 44 = ([exF], 0, 0) := by rfl
theorem ex2 : po [97, 34, 98] 44 = ([], 1, 3) := by rfl
theorem lit_sr (W : World) (xs : List Bs) (hb : xs.length ≤ maxLen) : SR (W.alloc (.cells (xs.map sV).toArray tStr)) (some ⟨W.heap.size, 0, none⟩) xs.length xs := by
  have h := World.ownsRow_lit (base := 0) (e := tStr) (size := 1) W (xs.map sV).toArray xs.length (Nat.zero_le _) hb (by simp)
  exact own_sr (base := 0) (c := xs.length) (by simpa using h)

set_option maxRecDepth 100000 in
set_option maxHeartbeats 4000000 in
theorem awake_any (w : World) (hm : Mx w) : Calls Tryd.prog 10 #[] w fun e w' => e = .returned (.bool true) ∧ Below w.heap.size w w' := by
  have hP1 : Hid (∀ W, Mx W → Calls Tryd.prog 11 #[.string ⟨#[97, 44, 34, 98, 32, 34, 34, 99, 34, 34, 10, 34, 44, 10]⟩, .int .u8 44] W (ParR [exF] 0 0 W)) := Lib.hid fun W h => by
    have := parse_any (bA exT) 44 W h
    unfold PoR at this
    rw [bA_list, ex1] at this
    exact this
  have hP2 : Hid (∀ W, Mx W → Calls Tryd.prog 11 #[.string ⟨#[97, 34, 98]⟩, .int .u8 44] W (ParR [] 1 3 W)) := Lib.hid fun W h => by
    have := parse_any (bA [97, 34, 98]) 44 W h
    unfold PoR at this
    rw [bA_list, ex2] at this
    exact this
  have hL : Hid (∀ (r : Row) W, SR W r.A r.fs.length r.fs → r.fs = exF → Calls Tryd.prog 17 #[.slice r.A r.fs.length r.c, .slice (some ⟨W.heap.size, 0, none⟩) 3 3] (W.alloc (.cells #[.string ⟨#[97]⟩, .string ⟨#[98, 32, 34, 99, 34, 10]⟩, .string ⟨#[]⟩] tStr)) fun e w' => e = .returned (.bool true) ∧ ∃ q, w' = (W.alloc (.cells #[.string ⟨#[97]⟩, .string ⟨#[98, 32, 34, 99, 34, 10]⟩, .string ⟨#[]⟩] tStr)).drewN q) := Lib.hid fun r W h he => by
    have h2 := lit_sr W exF (by decide)
    have := sameList_any r.fs exF r.A (some ⟨W.heap.size, 0, none⟩) r.fs.length r.c 3 3 (W.alloc (.cells (exF.map sV).toArray tStr)) (h.bel ((Below.refl _ _).alloc (Nat.le_refl _) _)) h2 (by rw [he]; decide) (by decide)
    rw [decide_eq_true he] at this
    exact this
  have hmh := Lib.hid hm
  clear hm
  go_enter Tryd.func10, Tryd.ntmps10
  go_wp2_with fail
  refine (hP1.out _ hmh.out).mono ?_
  rintro e w1 ⟨R, A, c, rfl, hl, hR, hb⟩
  have hm1 := Lib.hid (hmh.out.bel hb)
  have hmr := Lib.hid hl.mr
  replace hb := Lib.hid hb
  have hRl : R.length = 1 := by have := congrArg List.length hR; simpa using this
  rw [hRl] at hmr ⊢
  obtain ⟨r, rfl⟩ : ∃ r, R = [r] := by
    cases R with
    | nil => cases hRl
    | cons r R => cases R with
      | nil => exact ⟨r, rfl⟩
      | cons => simp at hRl
  have hrf : Hid (r.fs = exF) := Lib.hid (by simpa using hR)
  clear hl hR hRl
  go_wp2_with fail
  refine (hP2.out _ hm1.out).mono ?_
  rintro e w2 ⟨R2, A2, c2, rfl, hl, hR, hb2⟩
  have hmr2 := Lib.hid (hmr.out.bel hb2)
  have hb3 := Lib.hid (hb.out.trans (hb2.mono hb.out.size))
  clear hl hR hb2 hmr hb hm1 hP1 hP2
  obtain ⟨b1, o1, r', rfl, hx, hrR, e1⟩ := hmr2.out.get (i := 0) (by decide)
  obtain rfl : r' = r := by simpa using hx.symm
  have hL1 := Lib.hid (hL.out r' w2 (hmr2.out.row r' hrR) hrf.out)
  clear hx hrR hmr2 hL
  rw [Nat.add_zero] at e1
  go_wp2_with fail
  refine hL1.out.mono ?_
  rintro e w3 ⟨rfl, q, hw⟩
  have hb4 : Hid (Below w.heap.size w w3) := Lib.hid (by rw [hw]; exact below_drewN (hb3.out.alloc hb3.out.size _) q)
  replace hw := Lib.hid hw
  clear hL1 e1
  go_wp2
  go_ret
  exact ⟨rfl, hb4.out⟩

set_option maxRecDepth 100000 in
set_option maxHeartbeats 4000000 in
theorem law_parses (s : ByteArray) (d : UInt8) (w : World) (hs : s.size ≤ 9223372036854775807) (hm : Mx w) : Calls Tryd.prog 3 #[.string s, .int .u8 d.toNat] w fun e w' => e = .returned (.bool true) ∧ Below w.heap.size w w' := by
  have hA := Lib.hid (fun W h => awake_any W h)
  have hmh := Lib.hid hm
  have hsz : (s.size : Int) ≤ 9223372036854775807 := by omega
  by_cases hbig : 1000 < s.size ∧ (s.size ≤ 65536 ∨ 65546 < s.size)
  · have g1 : (1000 : Int) < (s.size : Int) := by omega
    have hA1 := Lib.hid (hA.out w hm)
    by_cases h2 : s.size ≤ 65536
    · have g2 : (s.size : Int) ≤ 65536 := by omega
      clear hm hbig hs h2
      go_enter Tryd.func3, Tryd.ntmps3
      go_wp2_with fail
      refine hA1.out.mono ?_
      rintro e w1 ⟨rfl, hb⟩
      replace hb := Lib.hid hb
      go_wp2
      go_ret
      exact ⟨rfl, hb.out⟩
    · have g2 : ¬ (s.size : Int) ≤ 65536 := by omega
      have g3 : (65546 : Int) < (s.size : Int) := by omega
      clear hm hbig hs h2
      go_enter Tryd.func3, Tryd.ntmps3
      go_wp2_with fail
      refine hA1.out.mono ?_
      rintro e w1 ⟨rfl, hb⟩
      replace hb := Lib.hid hb
      go_wp2
      go_ret
      exact ⟨rfl, hb.out⟩
  · have hP := Lib.hid (fun W h => parse_any s d W h)
    have hR := Lib.hid (fun W => rparse_any s d W)
    have hlenR : Hid (∀ R : List Row, R.map Row.fs = (po s.data.toList d).1 → R.length ≤ 65536) := Lib.hid fun R h => by
      have h1 : R.length = (po s.data.toList d).1.length := by rw [← h, List.length_map]
      rw [h1]
      unfold po
      split
      · exact Nat.zero_le _
      · split
        · exact Nat.zero_le _
        · cases hp : parseS d s.data.toList with
          | ok l => have := recs_len _ _ _ _ hp; simp at this; show l.length ≤ _; omega
          | bad x k => exact Nat.zero_le _
    have hfl : Hid (∀ W b A c R, LstM W b A c R → ∀ r ∈ R, r.fs.length ≤ 9223372036854775807) := Lib.hid fun W b A c R h r hr => by
      rcases (h.2 r hr).1.2 with ⟨_, h2⟩ | ⟨g, cap, cur, _, _, _, h5, h6, _⟩
      · omega
      · unfold maxLen at h6; omega
    unfold PoR at hP hR
    generalize (po s.data.toList d).1 = l at *
    generalize (po s.data.toList d).2.1 = ln at *
    generalize (po s.data.toList d).2.2 = x at *
    have hcond : ∀ (Q : Prop), (¬ (1000 : Int) < (s.size : Int) → Q) → ((1000 : Int) < (s.size : Int) → ¬ (s.size : Int) ≤ 65536 → ¬ (65546 : Int) < (s.size : Int) → Q) → Q := fun Q h1 h2 => by
      by_cases h3 : 1000 < s.size
      · exact h2 (by omega) (by omega) (by omega)
      · exact h1 (by omega)
    replace hcond := Lib.hid hcond
    clear hm hbig hs
    refine hcond.out _ (fun g1 => ?_) (fun g1 g2 g3 => ?_)
    all_goals
      clear hcond
      go_enter Tryd.func3, Tryd.ntmps3
      go_wp2_with fail
      refine (hP.out _ hmh.out).mono ?_
      rintro e w1 ⟨R1, A1, c1, rfl, hl1, hR1, hb1⟩
      replace hb1 := Lib.hid hb1
      replace hl1 := Lib.hid hl1
      replace hR1 := Lib.hid hR1
      go_wp2_with fail
      refine (hR.out _).mono ?_
      rintro e w2 ⟨R2, A2, c2, rfl, hl2, hR2, hb2⟩
      have hb3 := Lib.hid (hb1.out.trans (hb2.mono hb1.out.size))
      have hm3 := Lib.hid (hmh.out.bel hb3.out)
      have hA1 := Lib.hid (hA.out w2 hm3.out)
      have hmr1 := Lib.hid (hl1.out.mr.bel hb2)
      have hmr2 := Lib.hid hl2.mr
      have hSm : Hid (∀ W, Below w2.heap.size w2 W → Calls Tryd.prog 13 #[.slice A1 R1.length c1, .slice A2 R2.length c2] W fun e w' => e = .returned (.bool true) ∧ ∃ q, w' = W.drewN q) := Lib.hid fun W hW => by
        have := same_any R1 R2 A1 A2 R1.length c1 R2.length c2 W (hmr1.out.bel hW) (hmr2.out.bel hW) (by have := hlenR.out R1 hR1.out; omega) (by have := hlenR.out R2 hR2; omega) (hfl.out _ _ _ _ _ hl1.out) (hfl.out _ _ _ _ _ hl2)
        rw [decide_eq_true (hR1.out.trans hR2.symm)] at this
        exact this
      clear hb2 hl2 hR2
      go_wp2_with fail
      refine hA1.out.mono ?_
      rintro e w3 ⟨rfl, hb4⟩
      have hS3 := Lib.hid (hSm.out _ hb4)
      have hb5 := Lib.hid (hb3.out.trans (hb4.mono hb3.out.size))
      clear hb4 hSm
      go_wp2_with fail
      refine hS3.out.mono ?_
      rintro e w4 ⟨rfl, q, hw⟩
      have hb6 : Hid (Below w.heap.size w w4) := Lib.hid (by rw [hw]; exact below_drewN hb5.out q)
      replace hw := Lib.hid hw
      clear hS3
      go_wp2
      go_ret
      exact ⟨rfl, hb6.out⟩
end Go.Proofs.YtanipgjojacbfaaDoor
