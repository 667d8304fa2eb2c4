/- The walk of the law NaturalWrites. The walk of the law NaturalReadsBack. -/
import Derived.Test.YthlnhmdpimoojaaGreatDoorQYgz
import Derived.Test.YthlnhmdpimoojaaGreatDoorQWjz
namespace Go.Proofs.YthlnhmdpimoojaaGreatDoor
open Go.RowKit

/-- The list that Parse gives. -/
def plist (s : ByteArray) : List Nat := if isDec s = true then limbs (dval s.data.toList) else []
theorem plist_len (s : ByteArray) : (plist s).length ≤ 445 := by
  unfold plist
  split
  · rename_i h
    obtain ⟨_, h4, ha⟩ := isDec_yes' h
    exact dec_len ha (by rw [toList_len]; exact h4)
  · simp
theorem parse_p (s : ByteArray) (w : World) : Calls Tryz.prog 141 #[.string s] w fun e w' => ∃ A n c, e = .returned (.tuple #[.slice A n c, .bool (isDec s)]) ∧ Rd w' A n c (plist s) ∧ Below w.heap.size w w' ∧ n ≤ 445 :=
  (parse_any s w).mono fun _ _ ⟨A, n, c, he, R, B⟩ => ⟨A, n, c, he, R, B, by have := plist_len s; have := R.len; unfold plist at *; omega⟩
theorem rparse_p (s : ByteArray) (w : World) : Calls Tryz.prog 21 #[.string s] w fun e w' => ∃ A n c, e = .returned (.tuple #[.slice A n c, .bool (isDec s)]) ∧ Rd w' A n c (plist s) ∧ Below w.heap.size w w' ∧ n ≤ 445 :=
  (rparse_any s w).mono fun _ _ ⟨A, n, c, he, R, B⟩ => ⟨A, n, c, he, R, B, by have := plist_len s; have := R.len; unfold plist at *; omega⟩
abbrev Tab (w : World) : Prop := Lib.TabIs Tryz.prog w "internal/strconv.uint64pow10" .u64 Lib.pow10Tab
theorem tab_below {w w' : World} (h : Tab w) (hB : Below w.heap.size w w') : Tab w' := ((Lib.tabBelow_of_tabIs h).on hB).here

end Go.Proofs.YthlnhmdpimoojaaGreatDoor

namespace Go.Proofs.YthlnhmdpimoojaaGreatDoor
open Go.RowKit

theorem format_n (A : Option Addr) (n c N : Nat) (w : World) (h : Rd w A n c (limbs N)) (hn : n ≤ 1000) (htab : Tab w) :
    Calls Tryz.prog 77 #[.slice A n c] w fun e w' => e = .returned (.string (txt N)) ∧ Below w.heap.size w w' := by
  have := format_any A n c (limbs N) w h hn htab
  rw [num_limbs] at this
  exact this
theorem rformat_n (A : Option Addr) (n c N : Nat) (w : World) (h : Rd w A n c (limbs N)) (hn : n ≤ 1000) :
    Calls Tryz.prog 31 #[.slice A n c] w fun e w' => e = .returned (.string (txt N)) ∧ Below w.heap.size w w' := by
  have := rformat_any A n c (limbs N) w h hn
  rw [num_limbs] at this
  exact this
theorem parse_yes (s : ByteArray) (w : World) (h : isDec s = true) : Calls Tryz.prog 141 #[.string s] w fun e w' => ∃ A n c, e = .returned (.tuple #[.slice A n c, .bool true]) ∧ Rd w' A n c (limbs (dval s.data.toList)) ∧ Below w.heap.size w w' ∧ n ≤ 445 := by
  have := parse_p s w
  unfold plist at this
  rw [h, if_pos rfl] at this
  exact this
theorem parse_no (s : ByteArray) (w : World) (h : isDec s = false) : Calls Tryz.prog 141 #[.string s] w fun e w' => ∃ A c, e = .returned (.tuple #[.slice A 0 c, .bool false]) ∧ Below w.heap.size w w' := by
  have := parse_p s w
  unfold plist at this
  rw [h] at this
  refine this.mono ?_
  rintro e w' ⟨A, n, c, he, R, B, _⟩
  obtain rfl : n = 0 := by have := R.len; simpa using this.symm
  exact ⟨A, c, he, B⟩

end Go.Proofs.YthlnhmdpimoojaaGreatDoor
