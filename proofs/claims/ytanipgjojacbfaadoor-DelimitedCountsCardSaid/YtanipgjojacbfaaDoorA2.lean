/- Small functions of the program: startsWith, isDelimiter, lineOf, special. -/
import Derived.Test.YtanipgjojacbfaaDoorA1
namespace Go.Proofs.YtanipgjojacbfaaDoor
open Go.RowKit
set_option linter.unusedVariables false

theorem hpx (s x : ByteArray) (p : Nat) (_ : p ≤ s.size) : Lib.hasPrefix (s.extract p s.size).data.toList x.data.toList = Lib.hasPrefix (s.data.toList.drop p) x.data.toList := by
  rw [Lib.extract_data, List.take_of_length_le]
  rw [List.length_drop, Array.length_toList]; exact Nat.le_refl _

set_option maxRecDepth 100000 in
set_option maxHeartbeats 4000000 in
theorem startsWith_any (s : ByteArray) (d : UInt8) (p b : Nat) (x : ByteArray) (w : World) (h : Cb w b (rdC s d p) rdT) (hp : p ≤ s.size) (hs : s.size ≤ 65536) :
    Calls Tryd.prog 49 #[.pointer (some ⟨b, 0, none⟩), .string x] w fun e w' => e = .returned (.bool (Lib.hasPrefix (s.data.toList.drop p) x.data.toList)) ∧ ∃ q, w' = w.drewN q := by
  have c0 := rd0 h
  have c2 := rd2 h
  have hx := Lib.hid (hpx s x p hp)
  have hH := Lib.hid (fun W => Tryd.strings_HasPrefix (s.extract p s.size) x W)
  have hpz : (p : Int) ≤ (s.size : Int) := by omega
  have hp0 : (0 : Int) ≤ (p : Int) := by omega
  clear h
  go_enter Tryd.func49, Tryd.ntmps49
  go_wp2
  go_quiet ((go_at_call 60; exact Calls.quiet_of_same (hH.out _)))
  go_wp2
  go_ret
  exact ⟨by rw [hx.out]; rfl, _, rfl⟩

theorem isD_idx (d : UInt8) : decide ((0 : Int) ≤ Lib.indexByte [44, 59, 9, 124] d) = isD d := by
  rw [← Lib.contains_iff_indexByte]
  unfold isD
  simp [Bool.or_assoc]
  rfl
set_option maxRecDepth 100000 in
set_option maxHeartbeats 4000000 in
theorem isDelimiter_any (d : UInt8) (w : World) :
    Calls Tryd.prog 18 #[.int .u8 d.toNat] w fun e w' => e = .returned (.bool (isD d)) ∧ w' = w := by
  have hx := Lib.hid (isD_idx d)
  have hH : Hid (∀ W, Calls Tryd.prog 32 #[.string ⟨#[44, 59, 9, 124]⟩, .int .u8 d.toNat] W fun e w' => e = .returned (.int .i64 (Lib.indexByte [44, 59, 9, 124] d)) ∧ W = w') := Lib.hid fun W => (Tryd.strings_IndexByte ⟨#[44, 59, 9, 124]⟩ d.toNat W).mono fun e w' h => ⟨by rw [h.1]; simp, h.2.symm⟩
  generalize hz : Lib.indexByte [44, 59, 9, 124] d = z at *
  go_enter Tryd.func18, Tryd.ntmps18
  go_wp2_with fail
  refine (hH.out _).mono ?_
  rintro e w' ⟨rfl, rfl⟩
  go_wp2
  go_ret
  exact ⟨by rw [← hx.out]; rfl, rfl⟩

set_option maxRecDepth 100000 in
set_option maxHeartbeats 4000000 in
theorem lineOf_any (s : ByteArray) (p : Nat) (w : World) (hp : p ≤ s.size) (hs : s.size ≤ 65536) :
    Calls Tryd.prog 20 #[.string s, .int .i64 p] w fun e w' => e = .returned (.int .i64 (1 + (s.data.toList.take p).count 10 : Nat)) ∧ w' = w := by
  have hx : Hid ((s.extract 0 p).data.toList = s.data.toList.take p) := Lib.hid (by rw [Lib.extract_data]; simp)
  have hH := Lib.hid (fun W => Tryd.strings_Count_one (s.extract 0 p) 10 W)
  rw [hx.out] at hH
  have hc : (s.data.toList.take p).count 10 ≤ p := Nat.le_trans List.count_le_length (by rw [List.length_take]; exact Nat.min_le_left _ _)
  unfold Lib.countByte at hH
  generalize (s.data.toList.take p).count 10 = k at *
  have hpz : (p : Int) ≤ (s.size : Int) := by omega
  have hp0 : (0 : Int) ≤ (p : Int) := by omega
  clear hx
  go_enter Tryd.func20, Tryd.ntmps20
  go_wp2_with fail
  refine (hH.out _).mono ?_
  rintro e w' ⟨rfl, hw⟩
  subst hw
  go_wp2
  go_ret
  exact ⟨by go_num, rfl⟩

/-- The bytes that are looked for. -/
def spB (d : UInt8) : ByteArray := ⟨#[34, 13, 10, d]⟩
set_option maxRecDepth 100000 in
set_option maxHeartbeats 4000000 in
theorem special_any (d : UInt8) (w : World) (hd : isD d = true) :
    Calls Tryd.prog 54 #[.int .u8 d.toNat] w fun e w' => e = .returned (.string (spB d)) ∧ w' = w := by
  rcases isD_cases hd with rfl | rfl | rfl | rfl
  all_goals
    go_enter Tryd.func54, Tryd.ntmps54
    go_wp2
    go_ret
    exact ⟨rfl, rfl⟩
end Go.Proofs.YtanipgjojacbfaaDoor
