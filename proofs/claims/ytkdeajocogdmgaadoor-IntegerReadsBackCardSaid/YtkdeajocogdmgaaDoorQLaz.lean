/- The walk of the law NaturalWrites. The walk of the law NaturalReadsBack. -/
import Derived.Test.YtkdeajocogdmgaaDoorQYgz
import Derived.Test.YtkdeajocogdmgaaDoorQWjz
namespace Go.Proofs.YtkdeajocogdmgaaDoor
open Go.RowKit

/-- The list that Parse gives. -/
def plist (s : ByteArray) : List Nat := if isDec s = true then limbs (dval s.data.toList) else []
theorem plist_len (s : ByteArray) : (plist s).length ≤ 445 := by
  unfold plist
  split
  · rename_i h
    obtain ⟨_, h4, ha⟩ := isDec_yes' h
    exact dec_len ha (by rw [toList_len]; exact h4)
  · simp
theorem parse_p (s : ByteArray) (w : World) : Calls Tryd.prog 14 #[.string s] w fun e w' => ∃ A n c, e = .returned (.tuple #[.slice A n c, .bool (isDec s)]) ∧ Rd w' A n c (plist s) ∧ Below w.heap.size w w' ∧ n ≤ 445 :=
  (parse_any s w).mono fun _ _ ⟨A, n, c, he, R, B⟩ => ⟨A, n, c, he, R, B, by have := plist_len s; have := R.len; unfold plist at *; omega⟩
theorem rparse_p (s : ByteArray) (w : World) : Calls Tryd.prog 15 #[.string s] w fun e w' => ∃ A n c, e = .returned (.tuple #[.slice A n c, .bool (isDec s)]) ∧ Rd w' A n c (plist s) ∧ Below w.heap.size w w' ∧ n ≤ 445 :=
  (rparse_any s w).mono fun _ _ ⟨A, n, c, he, R, B⟩ => ⟨A, n, c, he, R, B, by have := plist_len s; have := R.len; unfold plist at *; omega⟩
abbrev Tab (w : World) : Prop := Lib.TabIs Tryd.prog w "internal/strconv.uint64pow10" .u64 Lib.pow10Tab
theorem tab_below {w w' : World} (h : Tab w) (hB : Below w.heap.size w w') : Tab w' := ((Lib.tabBelow_of_tabIs h).on hB).here

set_option maxHeartbeats 4000000 in
theorem law_writes (A : Option Addr) (n c : Nat) (xs : List Nat) (s : ByteArray) (w : World) (h1 : Rd w A n c xs) (m1 : n ≤ 9223372036854775807) (ms : s.size ≤ 9223372036854775807) (htab : Tab w) :
    Calls Tryd.prog 3 #[.slice A n c, .string s] w fun e w' => e = .returned (.bool true) ∧ Below w.heap.size w w' := by
  have hL := light_any A n c w m1
  by_cases hl : n ≤ 12
  case neg =>
    rw [decide_eq_false hl] at hL
    replace hL := Lib.hid hL
    clear hl m1 h1 htab ms
    go_enter Tryd.func3, Tryd.ntmps3
    go_wp2_with fail
    refine (hL.out).mono ?_
    rintro e w' ⟨rfl, hw⟩
    have hw := hw.symm
    subst hw
    go_wp2_with fail
    refine (awake_any _).mono ?_
    rintro e w1 ⟨rfl, bb⟩
    replace bb := Lib.hid bb
    go_wp2
    go_ret
    exact ⟨rfl, bb.out⟩
  rw [decide_eq_true hl] at hL
  replace hL := Lib.hid hL
  clear m1
  obtain hs | ⟨hs1, hs2, hs3⟩ | hs : (s.size : Int) ≤ 100 ∨ ((100 : Int) < s.size ∧ (4000 : Int) < s.size ∧ (s.size : Int) ≤ 4010) ∨ ((100 : Int) < s.size ∧ ((s.size : Int) ≤ 4000 ∨ (4000 : Int) < s.size ∧ (4010 : Int) < s.size)) := by omega
  case' inr.inr =>
    obtain ⟨hs1, hs2 | ⟨hs2, hs3⟩⟩ := hs
    all_goals
      clear h1 htab ms hl
      go_enter Tryd.func3, Tryd.ntmps3
      go_wp2_with fail
      refine (hL.out).mono ?_
      rintro e w' ⟨rfl, hw⟩
      have hw := hw.symm
      subst hw
      go_wp2_with fail
      refine (awake_any _).mono ?_
      rintro e w1 ⟨rfl, bb⟩
      replace bb := Lib.hid bb
      go_wp2
      go_ret
      exact ⟨rfl, bb.out⟩
  all_goals
    replace h1 := Lib.hid h1
    replace htab := Lib.hid htab
    have Bw := Lib.hid (Below.refl w.heap.size w)
    go_enter Tryd.func3, Tryd.ntmps3
    go_wp2_with fail
    refine (hL.out).mono ?_
    rintro e w' ⟨rfl, hw⟩
    have hw := hw.symm
    subst hw
    go_wp2_with fail
    refine (parse_p s _).mono ?_
    rintro e w1 ⟨A1, n1, c1, rfl, R1, bb, l1⟩
    replace h1 := Lib.hid (h1.out.below bb)
    replace htab := Lib.hid (tab_below htab.out bb)
    replace Bw := Lib.hid (Bw.out.trans (bb.mono Bw.out.size))
    clear bb
    replace R1 := Lib.hid R1
    go_wp2_with fail
    refine (rparse_p s _).mono ?_
    rintro e w2 ⟨A2, n2, c2, rfl, R2, bb, l2⟩
    replace h1 := Lib.hid (h1.out.below bb)
    replace R1 := Lib.hid (R1.out.below bb)
    replace htab := Lib.hid (tab_below htab.out bb)
    replace Bw := Lib.hid (Bw.out.trans (bb.mono Bw.out.size))
    clear bb
    replace R2 := Lib.hid R2
    go_wp2_with fail
    refine (awake_any _).mono ?_
    rintro e w3 ⟨rfl, bb⟩
    replace h1 := Lib.hid (h1.out.below bb)
    replace R1 := Lib.hid (R1.out.below bb)
    replace R2 := Lib.hid (R2.out.below bb)
    replace htab := Lib.hid (tab_below htab.out bb)
    replace Bw := Lib.hid (Bw.out.trans (bb.mono Bw.out.size))
    clear bb
    go_wp2_with fail
    refine (format_any A n c xs _ h1.out (by omega) htab.out).mono ?_
    rintro e w4 ⟨rfl, bb⟩
    replace h1 := Lib.hid (h1.out.below bb)
    replace R1 := Lib.hid (R1.out.below bb)
    replace R2 := Lib.hid (R2.out.below bb)
    replace Bw := Lib.hid (Bw.out.trans (bb.mono Bw.out.size))
    clear bb
    go_wp2_with fail
    refine (rformat_any A n c xs _ h1.out (by omega)).mono ?_
    rintro e w5 ⟨rfl, bb⟩
    replace R1 := Lib.hid (R1.out.below bb)
    replace R2 := Lib.hid (R2.out.below bb)
    replace Bw := Lib.hid (Bw.out.trans (bb.mono Bw.out.size))
    clear bb
    generalize (⟨(Lib.decDigits (num xs)).toArray⟩ : ByteArray) = T
    go_wp2_with fail
    refine (same_b _ _ _ _ _ _ _ _ _ R1.out R2.out (by omega) rfl).mono ?_
    rintro e w6 ⟨rfl, bb⟩
    replace Bw := Lib.hid (Bw.out.trans (bb.mono Bw.out.size))
    clear bb
    generalize isDec s = q
    go_wp2
    all_goals (go_ret; exact ⟨by simp, Bw.out⟩)
end Go.Proofs.YtkdeajocogdmgaaDoor

namespace Go.Proofs.YtkdeajocogdmgaaDoor
open Go.RowKit

theorem format_n (A : Option Addr) (n c N : Nat) (w : World) (h : Rd w A n c (limbs N)) (hn : n ≤ 1000) (htab : Tab w) :
    Calls Tryd.prog 16 #[.slice A n c] w fun e w' => e = .returned (.string (txt N)) ∧ Below w.heap.size w w' := by
  have := format_any A n c (limbs N) w h hn htab
  rw [num_limbs] at this
  exact this
theorem rformat_n (A : Option Addr) (n c N : Nat) (w : World) (h : Rd w A n c (limbs N)) (hn : n ≤ 1000) :
    Calls Tryd.prog 17 #[.slice A n c] w fun e w' => e = .returned (.string (txt N)) ∧ Below w.heap.size w w' := by
  have := rformat_any A n c (limbs N) w h hn
  rw [num_limbs] at this
  exact this
theorem parse_txt (N m : Nat) (hN : N < 4294967296 ^ m) (hm : m ≤ 100) (w : World) : Calls Tryd.prog 14 #[.string (txt N)] w fun e w' => ∃ A n c, e = .returned (.tuple #[.slice A n c, .bool true]) ∧ Rd w' A n c (limbs N) ∧ Below w.heap.size w w' ∧ n ≤ 445 := by
  have h := isDec_txt (N := N) (by have := small_len hN hm; omega)
  have := parse_p (txt N) w
  unfold plist at this
  rw [h, if_pos rfl, dval_txt] at this
  exact this
theorem parse_yes (s : ByteArray) (w : World) (h : isDec s = true) : Calls Tryd.prog 14 #[.string s] w fun e w' => ∃ A n c, e = .returned (.tuple #[.slice A n c, .bool true]) ∧ Rd w' A n c (limbs (dval s.data.toList)) ∧ Below w.heap.size w w' ∧ n ≤ 445 := by
  have := parse_p s w
  unfold plist at this
  rw [h, if_pos rfl] at this
  exact this
theorem parse_no (s : ByteArray) (w : World) (h : isDec s = false) : Calls Tryd.prog 14 #[.string s] w fun e w' => ∃ A c, e = .returned (.tuple #[.slice A 0 c, .bool false]) ∧ Below w.heap.size w w' := by
  have := parse_p s w
  unfold plist at this
  rw [h] at this
  refine this.mono ?_
  rintro e w' ⟨A, n, c, he, R, B, _⟩
  obtain rfl : n = 0 := by have := R.len; simpa using this.symm
  exact ⟨A, c, he, B⟩

set_option maxHeartbeats 4000000 in
theorem law_reads (A : Option Addr) (n c : Nat) (xs : List Nat) (s : ByteArray) (w : World) (h1 : Rd w A n c xs) (m1 : n ≤ 9223372036854775807) (ms : s.size ≤ 9223372036854775807) (htab : Tab w) :
    Calls Tryd.prog 4 #[.slice A n c, .string s] w fun e w' => e = .returned (.bool true) ∧ Below w.heap.size w w' := by
  have hL := light_any A n c w m1
  by_cases hl : n ≤ 12
  case neg =>
    rw [decide_eq_false hl] at hL
    replace hL := Lib.hid hL
    clear hl m1 h1 htab ms
    go_enter Tryd.func4, Tryd.ntmps4
    go_wp2_with fail
    refine (hL.out).mono ?_
    rintro e w' ⟨rfl, hw⟩
    have hw := hw.symm
    subst hw
    go_wp2_with fail
    refine (awake_any _).mono ?_
    rintro e w1 ⟨rfl, bb⟩
    replace bb := Lib.hid bb
    go_wp2
    go_ret
    exact ⟨rfl, bb.out⟩
  rw [decide_eq_true hl] at hL
  replace hL := Lib.hid hL
  clear m1
  have hV := rvalid_any A n c xs w h1 (by omega)
  cases hv : vldB xs
  · rw [hv] at hV
    replace hV := Lib.hid hV
    clear hv hl h1 htab ms
    go_enter Tryd.func4, Tryd.ntmps4
    go_wp2_with fail
    refine (hL.out).mono ?_
    rintro e w' ⟨rfl, hw⟩
    have hw := hw.symm
    subst hw
    go_wp2_with fail
    refine (hV.out).mono ?_
    rintro e w' ⟨rfl, hw⟩
    have hw := hw.symm
    subst hw
    go_wp2_with fail
    refine (awake_any _).mono ?_
    rintro e w1 ⟨rfl, bb⟩
    replace bb := Lib.hid bb
    go_wp2
    go_ret
    exact ⟨rfl, bb.out⟩
  rw [hv] at hV
  replace hV := Lib.hid hV
  obtain hs | hs : (s.size : Int) ≤ 100 ∨ (100 : Int) < s.size := by omega
  case' inr =>
    clear hv hl h1 htab ms
    go_enter Tryd.func4, Tryd.ntmps4
    go_wp2_with fail
    refine (hL.out).mono ?_
    rintro e w' ⟨rfl, hw⟩
    have hw := hw.symm
    subst hw
    go_wp2_with fail
    refine (hV.out).mono ?_
    rintro e w' ⟨rfl, hw⟩
    have hw := hw.symm
    subst hw
    go_wp2_with fail
    refine (awake_any _).mono ?_
    rintro e w1 ⟨rfl, bb⟩
    replace bb := Lib.hid bb
    go_wp2
    go_ret
    exact ⟨rfl, bb.out⟩
  have R_a := rd_limbs h1 hv
  have hN := lt_of_len R_a.len
  obtain ⟨N, hNe⟩ : ∃ N, val xs = N := ⟨_, rfl⟩
  rw [hNe] at R_a hN
  clear h1 hv hNe
  replace R_a := Lib.hid R_a
  have hpt := Lib.hid (parse_txt N n hN (by omega))
  have htab := Lib.hid htab
  have Bw := Lib.hid (Below.refl w.heap.size w)
  clear hN
  cases hd : isDec s
  · replace hd := Lib.hid hd
    go_enter Tryd.func4, Tryd.ntmps4
    go_wp2_with fail
    refine (hL.out).mono ?_
    rintro e w' ⟨rfl, hw⟩
    have hw := hw.symm
    subst hw
    go_wp2_with fail
    refine (hV.out).mono ?_
    rintro e w' ⟨rfl, hw⟩
    have hw := hw.symm
    subst hw
    go_wp2_with fail
    refine (format_n _ _ _ _ _ R_a.out (by omega) htab.out).mono ?_
    rintro e w1 ⟨rfl, bb⟩
    replace R_a := Lib.hid (R_a.out.below bb)
    replace Bw := Lib.hid (Bw.out.trans (bb.mono Bw.out.size))
    clear bb
    go_wp2_with fail
    refine (hpt.out _).mono ?_
    rintro e w2 ⟨A1, n1, c1, rfl, R1, bb, l1⟩
    replace R_a := Lib.hid (R_a.out.below bb)
    replace Bw := Lib.hid (Bw.out.trans (bb.mono Bw.out.size))
    clear bb
    replace R1 := Lib.hid R1
    go_wp2_with fail
    refine (parse_no s _ hd.out).mono ?_
    rintro e w3 ⟨A2, c2, rfl, bb⟩
    replace R_a := Lib.hid (R_a.out.below bb)
    replace R1 := Lib.hid (R1.out.below bb)
    replace Bw := Lib.hid (Bw.out.trans (bb.mono Bw.out.size))
    clear bb
    go_wp2_with fail
    refine (same_b _ _ _ _ _ _ _ _ _ R_a.out R1.out (by omega) rfl).mono ?_
    rintro e w4 ⟨rfl, bb⟩
    replace Bw := Lib.hid (Bw.out.trans (bb.mono Bw.out.size))
    clear bb
    go_wp2_with fail
    refine (awake_any _).mono ?_
    rintro e w5 ⟨rfl, bb⟩
    replace Bw := Lib.hid (Bw.out.trans (bb.mono Bw.out.size))
    clear bb
    go_wp2
    go_ret
    exact ⟨rfl, Bw.out⟩
  · have hback := Lib.hid (txt_back hd)
    replace hd := Lib.hid hd
    go_enter Tryd.func4, Tryd.ntmps4
    go_wp2_with fail
    refine (hL.out).mono ?_
    rintro e w' ⟨rfl, hw⟩
    have hw := hw.symm
    subst hw
    go_wp2_with fail
    refine (hV.out).mono ?_
    rintro e w' ⟨rfl, hw⟩
    have hw := hw.symm
    subst hw
    go_wp2_with fail
    refine (format_n _ _ _ _ _ R_a.out (by omega) htab.out).mono ?_
    rintro e w1 ⟨rfl, bb⟩
    replace R_a := Lib.hid (R_a.out.below bb)
    replace htab := Lib.hid (tab_below htab.out bb)
    replace Bw := Lib.hid (Bw.out.trans (bb.mono Bw.out.size))
    clear bb
    go_wp2_with fail
    refine (hpt.out _).mono ?_
    rintro e w2 ⟨A1, n1, c1, rfl, R1, bb, l1⟩
    replace R_a := Lib.hid (R_a.out.below bb)
    replace htab := Lib.hid (tab_below htab.out bb)
    replace Bw := Lib.hid (Bw.out.trans (bb.mono Bw.out.size))
    clear bb
    replace R1 := Lib.hid R1
    go_wp2_with fail
    refine (parse_yes s _ hd.out).mono ?_
    rintro e w3 ⟨A2, n2, c2, rfl, R2, bb, l2⟩
    replace R_a := Lib.hid (R_a.out.below bb)
    replace R1 := Lib.hid (R1.out.below bb)
    replace htab := Lib.hid (tab_below htab.out bb)
    replace Bw := Lib.hid (Bw.out.trans (bb.mono Bw.out.size))
    clear bb
    replace R2 := Lib.hid R2
    go_wp2_with fail
    refine (same_b _ _ _ _ _ _ _ _ _ R_a.out R1.out (by omega) rfl).mono ?_
    rintro e w4 ⟨rfl, bb⟩
    replace R2 := Lib.hid (R2.out.below bb)
    replace htab := Lib.hid (tab_below htab.out bb)
    replace Bw := Lib.hid (Bw.out.trans (bb.mono Bw.out.size))
    clear bb
    go_wp2_with fail
    refine (format_n _ _ _ _ _ R2.out (by omega) htab.out).mono ?_
    rintro e w5 ⟨rfl, bb⟩
    rw [hback.out]
    replace Bw := Lib.hid (Bw.out.trans (bb.mono Bw.out.size))
    clear bb
    go_wp2_with fail
    refine (awake_any _).mono ?_
    rintro e w6 ⟨rfl, bb⟩
    replace Bw := Lib.hid (Bw.out.trans (bb.mono Bw.out.size))
    clear bb
    go_wp2
    go_ret
    exact ⟨rfl, Bw.out⟩
end Go.Proofs.YtkdeajocogdmgaaDoor
