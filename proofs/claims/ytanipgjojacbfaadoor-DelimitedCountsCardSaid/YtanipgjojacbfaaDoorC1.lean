/- The reference: its reader, its small functions, the end of a line. -/
import Derived.Test.YtanipgjojacbfaaDoorB4
namespace Go.Proofs.YtanipgjojacbfaaDoor
open Go.RowKit
set_option linter.unusedVariables false

theorem u8eq {c d : UInt8} (h : c = d) : ((c.toNat : Int) == (d.toNat : Int)) = true := by rw [h]; simp
theorem u8ne {c d : UInt8} (h : ¬ c = d) : ((c.toNat : Int) == (d.toNat : Int)) = false := by
  rw [beq_eq_false_iff_ne]; intro e; exact h (UInt8.toNat_inj.1 (by omega))
theorem u8ne' {c d : UInt8} (h : ¬ c = d) : ((c.toNat : Int) != (d.toNat : Int)) = true := by
  have := u8ne h
  simp only [bne, this, Bool.not_false]
theorem u8eq' {c d : UInt8} (h : c = d) : ((c.toNat : Int) != (d.toNat : Int)) = false := by
  have := u8eq h
  simp only [bne, this, Bool.not_true]

set_option maxRecDepth 100000 in
set_option maxHeartbeats 2000000 in
theorem rDelim_any (d : UInt8) (w : World) : Calls Tryd.prog 22 #[.int .u8 d.toNat] w fun e w' => e = .returned (.bool (isD d)) ∧ w' = w := by
  by_cases h1 : d = 44
  · have g1 : ((d.toNat : Int) == 44) = true := u8eq (d := 44) h1
    have hx : Hid (isD d = true) := Lib.hid (by rw [h1]; rfl)
    clear h1
    go_enter Tryd.func22, Tryd.ntmps22
    go_wp2
    go_ret
    exact ⟨by rw [hx.out]; rfl, rfl⟩
  have g1 : ((d.toNat : Int) == 44) = false := u8ne (d := 44) h1
  by_cases h2 : d = 59
  · have g2 : ((d.toNat : Int) == 59) = true := u8eq (d := 59) h2
    have hx : Hid (isD d = true) := Lib.hid (by rw [h2]; rfl)
    clear h1 h2
    go_enter Tryd.func22, Tryd.ntmps22
    go_wp2
    go_ret
    exact ⟨by rw [hx.out]; rfl, rfl⟩
  have g2 : ((d.toNat : Int) == 59) = false := u8ne (d := 59) h2
  by_cases h3 : d = 9
  · have g3 : ((d.toNat : Int) == 9) = true := u8eq (d := 9) h3
    have hx : Hid (isD d = true) := Lib.hid (by rw [h3]; rfl)
    clear h1 h2 h3
    go_enter Tryd.func22, Tryd.ntmps22
    go_wp2
    go_ret
    exact ⟨by rw [hx.out]; rfl, rfl⟩
  have g3 : ((d.toNat : Int) == 9) = false := u8ne (d := 9) h3
  by_cases h4 : d = 124
  · have g4 : ((d.toNat : Int) == 124) = true := u8eq (d := 124) h4
    have hx : Hid (isD d = true) := Lib.hid (by rw [h4]; rfl)
    clear h1 h2 h3 h4
    go_enter Tryd.func22, Tryd.ntmps22
    go_wp2
    go_ret
    exact ⟨by rw [hx.out]; rfl, rfl⟩
  have g4 : ((d.toNat : Int) == 124) = false := u8ne (d := 124) h4
  have hx : Hid (isD d = false) := Lib.hid (by
    rw [Bool.eq_false_iff]
    intro h
    rcases isD_cases h with e | e | e | e
    · exact h1 e
    · exact h2 e
    · exact h3 e
    · exact h4 e)
  clear h1 h2 h3 h4
  go_enter Tryd.func22, Tryd.ntmps22
  go_wp2
  go_ret
  exact ⟨by rw [hx.out]; rfl, rfl⟩

theorem spc_false {d c : UInt8} (h1 : ¬ c = d) (h2 : ¬ c = 34) (h3 : ¬ c = 13) (h4 : ¬ c = 10) : spc d c = false := by
  unfold spc; simp [h1, h2, h3, h4]
set_option maxRecDepth 100000 in
set_option maxHeartbeats 2000000 in
theorem rSpecial_any (d c : UInt8) (w : World) : Calls Tryd.prog 43 #[.int .u8 c.toNat, .int .u8 d.toNat] w fun e w' => e = .returned (.bool (spc d c)) ∧ w' = w := by
  by_cases h1 : c = d
  · have g1 := u8eq h1
    have hx : Hid (spc d c = true) := Lib.hid (by rw [h1]; simp [spc])
    clear h1
    go_enter Tryd.func43, Tryd.ntmps43
    go_wp2
    go_ret
    exact ⟨by rw [hx.out]; rfl, rfl⟩
  have g1 := u8ne h1
  by_cases h2 : c = 34
  · have g2 : ((c.toNat : Int) == 34) = true := u8eq (d := 34) h2
    have hx : Hid (spc d c = true) := Lib.hid (by rw [h2]; simp [spc])
    clear h1 h2
    go_enter Tryd.func43, Tryd.ntmps43
    go_wp2
    go_ret
    exact ⟨by rw [hx.out]; rfl, rfl⟩
  have g2 : ((c.toNat : Int) == 34) = false := u8ne (d := 34) h2
  by_cases h3 : c = 13
  · have g3 : ((c.toNat : Int) == 13) = true := u8eq (d := 13) h3
    have hx : Hid (spc d c = true) := Lib.hid (by rw [h3]; simp [spc])
    clear h1 h2 h3
    go_enter Tryd.func43, Tryd.ntmps43
    go_wp2
    go_ret
    exact ⟨by rw [hx.out]; rfl, rfl⟩
  have g3 : ((c.toNat : Int) == 13) = false := u8ne (d := 13) h3
  by_cases h4 : c = 10
  · have g4 : ((c.toNat : Int) == 10) = true := u8eq (d := 10) h4
    have hx : Hid (spc d c = true) := Lib.hid (by rw [h4]; simp [spc])
    clear h1 h2 h3 h4
    go_enter Tryd.func43, Tryd.ntmps43
    go_wp2
    go_ret
    exact ⟨by rw [hx.out]; rfl, rfl⟩
  have g4 : ((c.toNat : Int) == 10) = false := u8ne (d := 10) h4
  have hx := Lib.hid (spc_false h1 h2 h3 h4)
  clear h1 h2 h3 h4
  go_enter Tryd.func43, Tryd.ntmps43
  go_wp2
  go_ret
  exact ⟨by rw [hx.out]; rfl, rfl⟩

/-- The line in which the place p lies. -/
def lnP (s : ByteArray) (p : Nat) : Nat := 1 + (s.data.toList.take p).count 10
abbrev rrC (s : ByteArray) (d : UInt8) (p : Nat) : Array Value := #[.string s, .int .i64 p, .int .i64 ((lnP s p : Nat) : Int), .int .u8 d.toNat]
abbrev rrT : Nat := 50
section
variable {W : World} {b : Nat} {s : ByteArray} {d : UInt8} {p : Nat}
theorem rr0 (h : Cb W b (rrC s d p) rrT) : W.cell? ⟨b, 0, none⟩ = some (.string s) := h.cell 0 rfl
theorem rr1 (h : Cb W b (rrC s d p) rrT) : W.cell? ⟨b, 1, none⟩ = some (.int .i64 p) := h.cell 1 rfl
theorem rr2 (h : Cb W b (rrC s d p) rrT) : W.cell? ⟨b, 2, none⟩ = some (.int .i64 ((lnP s p : Nat) : Int)) := h.cell 2 rfl
theorem rr3 (h : Cb W b (rrC s d p) rrT) : W.cell? ⟨b, 3, none⟩ = some (.int .u8 d.toNat) := h.cell 3 rfl
end
theorem lnP_le (s : ByteArray) (p : Nat) : lnP s p ≤ 1 + s.size := by
  unfold lnP
  have h1 : (s.data.toList.take p).count 10 ≤ (s.data.toList.take p).length := List.count_le_length
  rw [List.length_take, sz] at h1
  omega
theorem lnP_app (s : ByteArray) {p : Nat} {u k : Bs} (h : s.data.toList.drop p = u ++ k) : lnP s (p + u.length) = lnP s p + u.count 10 := by
  unfold lnP
  rw [List.take_add, h, List.take_left, List.count_append, Nat.add_assoc]
theorem at_drop {s : ByteArray} {p : Nat} {c : UInt8} {k : Bs} (h : s.data.toList.drop p = c :: k) : ∃ hp : p < s.size, s[p] = c ∧ s.data.toList.drop (p + 1) = k := by
  have hl : p < s.data.toList.length := by
    rcases Nat.lt_or_ge p s.data.toList.length with h1 | h1
    · exact h1
    · rw [List.drop_eq_nil_of_le h1] at h; cases h
  rw [List.drop_eq_getElem_cons hl] at h
  injection h with h1 h2
  exact ⟨by rw [← sz]; exact hl, h1, h2⟩
theorem drop_nil {s : ByteArray} {p : Nat} (hp : p ≤ s.size) (h : s.data.toList.drop p = []) : p = s.size := by
  have := congrArg List.length h
  rw [List.length_drop, sz] at this
  simp at this
  omega
/-- The end of a line that is there. -/
def endS : Bs → Option Nat
  | [] => none
  | c :: r => if c = 10 then some 1 else if c = 13 ∧ r.head? = some 10 then some 2 else none
end Go.Proofs.YtanipgjojacbfaaDoor
