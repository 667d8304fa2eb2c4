/- The walk of the law NaturalWrites. -/
import Derived.Test.YtkdeajocogdmgaaDoorYg
import Derived.Test.YtkdeajocogdmgaaDoorPd
import Derived.Test.YtkdeajocogdmgaaDoorWl
namespace Go.Proofs.YtkdeajocogdmgaaDoor
open Go.RowKit

/-- The list that Parse gives. -/
def plist (s : ByteArray) : List Nat := if isDec s = true then limbs (dval s.data.toList) else []
theorem plist_len (s : ByteArray) : (plist s).length ≤ 445 := by
  unfold plist
  split
  · rename_i h
    obtain ⟨_, h4, ha⟩ := isDec_yes' h
    exact dec_len ha (by rw [toList_len]; exact h4)
  · simp
theorem parse_p (s : ByteArray) (w : World) : Calls Tryd.prog 14 #[.string s] w fun e w' => ∃ A n c, e = .returned (.tuple #[.slice A n c, .bool (isDec s)]) ∧ Rd w' A n c (plist s) ∧ Below w.heap.size w w' ∧ n ≤ 445 :=
  (parse_any s w).mono fun _ _ ⟨A, n, c, he, R, B⟩ => ⟨A, n, c, he, R, B, by have := plist_len s; have := R.len; unfold plist at *; omega⟩
theorem rparse_p (s : ByteArray) (w : World) : Calls Tryd.prog 15 #[.string s] w fun e w' => ∃ A n c, e = .returned (.tuple #[.slice A n c, .bool (isDec s)]) ∧ Rd w' A n c (plist s) ∧ Below w.heap.size w w' ∧ n ≤ 445 :=
  (rparse_any s w).mono fun _ _ ⟨A, n, c, he, R, B⟩ => ⟨A, n, c, he, R, B, by have := plist_len s; have := R.len; unfold plist at *; omega⟩
abbrev Tab (w : World) : Prop := Lib.TabIs Tryd.prog w "internal/strconv.uint64pow10" .u64 Lib.pow10Tab
theorem tab_below {w w' : World} (h : Tab w) (hB : Below w.heap.size w w') : Tab w' := ((Lib.tabBelow_of_tabIs h).on hB).here

set_option maxHeartbeats 4000000 in
theorem law_writes (A : Option Addr) (n c : Nat) (xs : List Nat) (s : ByteArray) (w : World) (h1 : Rd w A n c xs) (m1 : n ≤ 9223372036854775807) (ms : s.size ≤ 9223372036854775807) (htab : Tab w) :
    Calls Tryd.prog 3 #[.slice A n c, .string s] w fun e w' => e = .returned (.bool true) ∧ Below w.heap.size w w' := by
  have hL := light_any A n c w m1
  by_cases hl : n ≤ 12
  case neg =>
    rw [decide_eq_false hl] at hL
    replace hL := Lib.hid hL
    clear hl m1 h1 htab ms
    go_enter Tryd.func3, Tryd.ntmps3
    go_wp2_with fail
    refine (hL.out).mono ?_
    rintro e w' ⟨rfl, hw⟩
    have hw := hw.symm
    subst hw
    go_wp2_with fail
    refine (awake_any _).mono ?_
    rintro e w1 ⟨rfl, bb⟩
    replace bb := Lib.hid bb
    go_wp2
    go_ret
    exact ⟨rfl, bb.out⟩
  rw [decide_eq_true hl] at hL
  replace hL := Lib.hid hL
  clear m1
  obtain hs | ⟨hs1, hs2, hs3⟩ | hs : (s.size : Int) ≤ 100 ∨ ((100 : Int) < s.size ∧ (4000 : Int) < s.size ∧ (s.size : Int) ≤ 4010) ∨ ((100 : Int) < s.size ∧ ((s.size : Int) ≤ 4000 ∨ (4000 : Int) < s.size ∧ (4010 : Int) < s.size)) := by omega
  case' inr.inr =>
    obtain ⟨hs1, hs2 | ⟨hs2, hs3⟩⟩ := hs
    all_goals
      clear h1 htab ms hl
      go_enter Tryd.func3, Tryd.ntmps3
      go_wp2_with fail
      refine (hL.out).mono ?_
      rintro e w' ⟨rfl, hw⟩
      have hw := hw.symm
      subst hw
      go_wp2_with fail
      refine (awake_any _).mono ?_
      rintro e w1 ⟨rfl, bb⟩
      replace bb := Lib.hid bb
      go_wp2
      go_ret
      exact ⟨rfl, bb.out⟩
  all_goals
    replace h1 := Lib.hid h1
    replace htab := Lib.hid htab
    have Bw := Lib.hid (Below.refl w.heap.size w)
    go_enter Tryd.func3, Tryd.ntmps3
    go_wp2_with fail
    refine (hL.out).mono ?_
    rintro e w' ⟨rfl, hw⟩
    have hw := hw.symm
    subst hw
    go_wp2_with fail
    refine (parse_p s _).mono ?_
    rintro e w1 ⟨A1, n1, c1, rfl, R1, bb, l1⟩
    replace h1 := Lib.hid (h1.out.below bb)
    replace htab := Lib.hid (tab_below htab.out bb)
    replace Bw := Lib.hid (Bw.out.trans (bb.mono Bw.out.size))
    clear bb
    replace R1 := Lib.hid R1
    go_wp2_with fail
    refine (rparse_p s _).mono ?_
    rintro e w2 ⟨A2, n2, c2, rfl, R2, bb, l2⟩
    replace h1 := Lib.hid (h1.out.below bb)
    replace R1 := Lib.hid (R1.out.below bb)
    replace htab := Lib.hid (tab_below htab.out bb)
    replace Bw := Lib.hid (Bw.out.trans (bb.mono Bw.out.size))
    clear bb
    replace R2 := Lib.hid R2
    go_wp2_with fail
    refine (awake_any _).mono ?_
    rintro e w3 ⟨rfl, bb⟩
    replace h1 := Lib.hid (h1.out.below bb)
    replace R1 := Lib.hid (R1.out.below bb)
    replace R2 := Lib.hid (R2.out.below bb)
    replace htab := Lib.hid (tab_below htab.out bb)
    replace Bw := Lib.hid (Bw.out.trans (bb.mono Bw.out.size))
    clear bb
    go_wp2_with fail
    refine (format_any A n c xs _ h1.out (by omega) htab.out).mono ?_
    rintro e w4 ⟨rfl, bb⟩
    replace h1 := Lib.hid (h1.out.below bb)
    replace R1 := Lib.hid (R1.out.below bb)
    replace R2 := Lib.hid (R2.out.below bb)
    replace Bw := Lib.hid (Bw.out.trans (bb.mono Bw.out.size))
    clear bb
    go_wp2_with fail
    refine (rformat_any A n c xs _ h1.out (by omega)).mono ?_
    rintro e w5 ⟨rfl, bb⟩
    replace R1 := Lib.hid (R1.out.below bb)
    replace R2 := Lib.hid (R2.out.below bb)
    replace Bw := Lib.hid (Bw.out.trans (bb.mono Bw.out.size))
    clear bb
    generalize (⟨(Lib.decDigits (num xs)).toArray⟩ : ByteArray) = T
    go_wp2_with fail
    refine (same_b _ _ _ _ _ _ _ _ _ R1.out R2.out (by omega) rfl).mono ?_
    rintro e w6 ⟨rfl, bb⟩
    replace Bw := Lib.hid (Bw.out.trans (bb.mono Bw.out.size))
    clear bb
    generalize isDec s = q
    go_wp2
    all_goals (go_ret; exact ⟨by simp, Bw.out⟩)
end Go.Proofs.YtkdeajocogdmgaaDoor
