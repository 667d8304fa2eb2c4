import Derived.Test.YtkdeajocogdmgaaDoorWl
namespace Go.Proofs.YtkdeajocogdmgaaDoor
open Go.RowKit

/-- A byte that is a decimal digit. -/
def isDig (c : UInt8) : Bool := decide (48 ≤ c.toNat) && decide (c.toNat ≤ 57)
def allDig (l : List UInt8) : Bool := l.all isDig
/-- What Parse takes. -/
def isDec (s : ByteArray) : Bool := decide (0 < s.size) && decide (s.size ≤ 4000) && !(decide (1 < s.size) && decide ((s.get! 0).toNat = 48)) && allDig s.data.toList

theorem getBang {s : ByteArray} {k : Nat} (h : k < s.size) : s.get! k = s[k] := by
  show s.data[k]! = _
  rw [getElem!_pos]; rfl
theorem toList_get {s : ByteArray} {k : Nat} (h : k < s.size) : s.data.toList[k]? = some s[k] := by
  rw [Array.getElem?_toList, Array.getElem?_eq_getElem h]; rfl
theorem toList_len (s : ByteArray) : s.data.toList.length = s.size := Array.length_toList
theorem allDig_step {s : ByteArray} {k : Nat} (h : k < s.size) (ha : allDig (s.data.toList.take k) = true) (hd : isDig s[k] = true) : allDig (s.data.toList.take (k + 1)) = true := by
  unfold allDig at *
  rw [List.take_add_one, toList_get h, List.all_append, ha]
  simpa using hd
theorem allDig_no {s : ByteArray} {k : Nat} (h : k < s.size) (hd : isDig s[k] = false) : allDig s.data.toList = false := by
  unfold allDig
  rw [List.all_eq_false]
  exact ⟨s[k], List.mem_of_getElem? (toList_get h), by rw [hd]; simp⟩

theorem isDec_size {s : ByteArray} (h : s.size = 0 ∨ 4000 < s.size) : isDec s = false := by
  unfold isDec
  rcases h with h | h
  · have : decide (0 < s.size) = false := by rw [decide_eq_false_iff_not]; omega
    rw [this]; rfl
  · have : decide (s.size ≤ 4000) = false := by rw [decide_eq_false_iff_not]; omega
    rw [this]; simp
theorem isDec_zero {s : ByteArray} (h : 1 < s.size) (hz : s[0].toNat = 48) : isDec s = false := by
  unfold isDec
  have h1 : decide (1 < s.size) = true := by rw [decide_eq_true_eq]; omega
  have h2 : decide ((s.get! 0).toNat = 48) = true := by rw [getBang (by omega)]; simpa using hz
  rw [h1, h2]; simp
theorem isDec_digs {s : ByteArray} (h0 : 0 < s.size) (h1 : s.size ≤ 4000) (h2 : ¬ (1 < s.size ∧ (s.get! 0).toNat = 48)) : isDec s = allDig s.data.toList := by
  unfold isDec
  have a0 : decide (0 < s.size) = true := by simpa using h0
  have a1 : decide (s.size ≤ 4000) = true := by simpa using h1
  have a2 : (decide (1 < s.size) && decide ((s.get! 0).toNat = 48)) = false := by
    rw [Bool.eq_false_iff]; intro h; rw [Bool.and_eq_true, decide_eq_true_eq, decide_eq_true_eq] at h; exact h2 h
  rw [a0, a1, a2]; rfl

set_option maxHeartbeats 1000000 in
theorem isDec_no (s : ByteArray) (w : World) (h : s.size = 0 ∨ 4000 < s.size ∨ (1 < s.size ∧ (s.get! 0).toNat = 48)) :
    Calls Tryd.prog 53 #[.string s] w fun e w' => e = .returned (.bool false) ∧ w' = w := by
  by_cases h0 : s.size = 0
  · have hs : s = ByteArray.empty := ByteArray.ext (by apply Array.eq_empty_of_size_eq_zero; exact h0)
    subst hs
    go_enter Tryd.func53, Tryd.ntmps53
    go_wp2
    go_ret
    exact ⟨rfl, rfl⟩
  by_cases h1 : 4000 < s.size
  · have g1 : ((s.size : Int) == 0) = false := by rw [beq_eq_false_iff_ne]; omega
    have g2 : 4000 < (s.size : Int) := by omega
    go_enter Tryd.func53, Tryd.ntmps53
    go_wp2
    all_goals (go_ret; exact ⟨rfl, rfl⟩)
  obtain ⟨h2, h3⟩ : 1 < s.size ∧ (s.get! 0).toNat = 48 := by omega
  rw [getBang (by omega)] at h3
  have g1 : ((s.size : Int) == 0) = false := by rw [beq_eq_false_iff_ne]; omega
  have g2 : (s.size : Int) ≤ 4000 := by omega
  have g3 : 1 < (s.size : Int) := by omega
  have g4 : ((s[0].toNat : Int) == 48) = true := by rw [h3]; rfl
  replace h3 := Lib.hid h3
  go_enter Tryd.func53, Tryd.ntmps53
  go_wp2
  all_goals (go_ret; exact ⟨rfl, rfl⟩)

set_option maxHeartbeats 2000000 in
theorem isDec_yes (s : ByteArray) (w : World) (h0 : 0 < s.size) (h1 : s.size ≤ 4000) (h2 : ¬ (1 < s.size ∧ (s.get! 0).toNat = 48)) :
    Calls Tryd.prog 53 #[.string s] w fun e w' => e = .returned (.bool (allDig s.data.toList)) ∧ w' = w := by
  obtain ⟨d, hd⟩ : ∃ d, allDig s.data.toList = d := ⟨_, rfl⟩
  rw [hd]
  replace hd := Lib.hid hd
  rw [getBang h0] at h2
  have g1 : ((s.size : Int) == 0) = false := by rw [beq_eq_false_iff_ne]; omega
  have g2 : (s.size : Int) ≤ 4000 := by omega
  have g0 : (0 : Int) < (s.size : Int) := by omega
  have hsz : (s.size : Int) ≤ 1 ∨ (1 < (s.size : Int) ∧ ((s[0].toNat : Int) == 48) = false) := by
    by_cases h : s.size = 1
    · left; omega
    · right; refine ⟨by omega, ?_⟩
      have : s[0].toNat ≠ 48 := fun h' => h2 ⟨by omega, h'⟩
      rw [beq_eq_false_iff_ne]; omega
  replace h2 := Lib.hid h2
  rcases hsz with g3 | ⟨g3, g4⟩
  all_goals
    go_enter Tryd.func53, Tryd.ntmps53
    go_wp2
    go_loopw [24] (fun iv wr => ∃ k, k ≤ s.size ∧ iv = .int .i64 ((k : Nat) : Int) ∧ allDig (s.data.toList.take k) = true ∧ wr = w)
      (fun iv _ => s.size - (intOf iv).toNat)
    case atStart => exact ⟨0, by omega, rfl, rfl, rfl⟩
    case round =>
      obtain ⟨k, hk, rfl, ha, rfl⟩ := hrel
      replace ha := Lib.hid ha
      by_cases hlt : k < s.size
      · have b1 : (k : Int) < (s.size : Int) := by omega
        have b0 : (0 : Int) ≤ (k : Int) := by omega
        have b2 : (k : Int) ≤ 4000 := by omega
        have hget := toList_get hlt
        obtain ⟨c, hc⟩ : ∃ c, s[k] = c := ⟨_, rfl⟩
        by_cases hdg : isDig c = true
        · have hd1 : (48 : Int) ≤ (c.toNat : Int) := by unfold isDig at hdg; simp at hdg; omega
          have hd2 : (c.toNat : Int) ≤ 57 := by unfold isDig at hdg; simp at hdg; omega
          replace hdg := Lib.hid hdg
          rw [← hc] at hd1 hd2
          replace hc := Lib.hid hc
          go_wp2
          go_roundw
          case rel => exact ⟨k + 1, by omega, by congr 1, allDig_step hlt ha.out (by rw [hc.out]; exact hdg.out), by first | rfl | trivial⟩
          case measure => simp [intOf]; omega
        · have hdn : (c.toNat : Int) < 48 ∨ ((48 : Int) ≤ (c.toNat : Int) ∧ 57 < (c.toNat : Int)) := by unfold isDig at hdg; simp at hdg; omega
          have hno : d = false := by rw [← hd.out]; exact allDig_no hlt (by rw [hc]; simpa using hdg)
          subst hno
          clear hdg
          rw [← hc] at hdn
          replace hc := Lib.hid hc
          rcases hdn with hd1 | ⟨hd1, hd2⟩
          all_goals
            go_wp2
            go_ret
            exact ⟨rfl, rfl⟩
      · have b1 : (s.size : Int) ≤ (k : Int) := by omega
        replace hk := Lib.hid hk
        clear hlt
        go_wp2
        go_ret
        refine ⟨?_, rfl⟩
        have := ha.out
        rw [List.take_of_length_le (by rw [toList_len]; omega), hd.out] at this
        rw [this]
        rfl

theorem isDec_any (s : ByteArray) (w : World) :
    Calls Tryd.prog 53 #[.string s] w fun e w' => e = .returned (.bool (isDec s)) ∧ w' = w := by
  by_cases h : s.size = 0 ∨ 4000 < s.size ∨ (1 < s.size ∧ (s.get! 0).toNat = 48)
  · have : isDec s = false := by
      rcases h with h | h | ⟨h, h'⟩
      · exact isDec_size (.inl h)
      · exact isDec_size (.inr h)
      · exact isDec_zero h (by rw [← getBang (by omega)]; exact h')
    rw [this]; exact isDec_no s w h
  · rw [isDec_digs (by omega) (by omega) (by omega)]
    exact isDec_yes s w (by omega) (by omega) (by omega)

end Go.Proofs.YtkdeajocogdmgaaDoor
