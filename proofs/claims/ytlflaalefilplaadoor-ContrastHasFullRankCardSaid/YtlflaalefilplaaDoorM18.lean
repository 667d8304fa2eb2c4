/- Names of a coding's columns. -/
import Derived.Test.YtlflaalefilplaaDoorM17
import Derived.Test.YtlflaalefilplaaDoorM07
import Derived.Test.YtlflaalefilplaaDoorM08
namespace Go.Proofs.YtlflaalefilplaaDoor
open Go.RowKit
set_option linter.unusedVariables false

/-- The name of a column. -/
def nmB (k : Int) (L : List ByteArray) (j : Nat) : ByteArray :=
  if k = 4 then ⟨#[61]⟩ ++ (L[j]?.getD ByteArray.empty)
  else if k = 1 then ⟨#[61]⟩ ++ (L[j + 1]?.getD ByteArray.empty)
  else ⟨#[46]⟩ ++ ⟨(Lib.decDigits (j + 1)).toArray⟩
def nmL (k : Int) (L : List ByteArray) : List ByteArray := (List.range (cols k L.length)).map (nmB k L)
theorem nmL_len {k : Int} {L : List ByteArray} : (nmL k L).length = cols k L.length := by simp [nmL]
theorem nmL_take {k : Int} {L : List ByteArray} {j : Nat} (h : j < cols k L.length) : (nmL k L).take (j + 1) = (nmL k L).take j ++ [nmB k L j] := by
  have hl : j < (nmL k L).length := by simp [nmL, h]
  rw [List.take_add_one, List.getElem?_eq_getElem hl]
  simp [nmL]
section
variable {w W : World} {A : Option Addr} {n : Nat}
theorem str_get {L : List ByteArray} (h : LR strC W A n L) {i : Nat} (hi : i < n) : ∃ b o c, A = some ⟨b, o, none⟩ ∧ L[i]? = some c ∧ c ∈ L ∧ W.cell? ⟨b, o + i, none⟩ = some (.string c) := by
  obtain ⟨b, o, c, h1, h2, h3, _, h5⟩ := h.get hi
  have := h5 0 _ rfl
  rw [show strC.sz = 1 from rfl, Nat.mul_one, Nat.add_zero] at this
  exact ⟨b, o, c, h1, h2, h3, this⟩
end
theorem own_any (L : List ByteArray) (A : Option Addr) (n c : Nat) (j : Nat) (w : World) (h : LR strC w A n L) (hj : j < n) (hs : ∀ s ∈ L, s.size ≤ 1000) : Calls Tryd.prog 41 #[.int .i64 j, .slice A n c] w fun e w' => e = .returned (.string (⟨#[61]⟩ ++ (L[j]?.getD ByteArray.empty))) ∧ w' = w := by
  obtain ⟨b, o, x, rfl, hx, hxm, e0⟩ := str_get h hj
  have g1 : (j : Int) < (n : Int) := by omega
  have g2 : (0 : Int) ≤ (j : Int) := by omega
  have hsz := hs x hxm
  rw [hx]
  clear h hj hs hx hxm
  go_enter Tryd.func41, Tryd.ntmps41
  go_wp2
  go_ret
  exact ⟨rfl, rfl⟩
theorem next_any (L : List ByteArray) (A : Option Addr) (n c : Nat) (j : Nat) (w : World) (h : LR strC w A n L) (hj : j + 1 < n) (hn : n ≤ 1000) (hs : ∀ s ∈ L, s.size ≤ 1000) : Calls Tryd.prog 43 #[.int .i64 j, .slice A n c] w fun e w' => e = .returned (.string (⟨#[61]⟩ ++ (L[j + 1]?.getD ByteArray.empty))) ∧ w' = w := by
  have hO := own_any L A n c (j + 1) w h hj hs
  rw [show ((j + 1 : Nat) : Int) = (j : Int) + 1 by omega] at hO
  have hj2 : (j : Int) ≤ 1000 := by omega
  generalize (⟨#[61]⟩ ++ (L[j + 1]?.getD ByteArray.empty) : ByteArray) = v at *
  replace hO := Lib.hid hO
  clear h hj hs hn
  go_enter Tryd.func43, Tryd.ntmps43
  go_wp2_with fail
  refine hO.out.mono ?_
  rintro e w1 ⟨rfl, rfl⟩
  go_wp2
  go_ret
  exact ⟨rfl, rfl⟩
theorem place_any (A : Option Addr) (n c : Nat) (j : Nat) (w : World) (hj : j ≤ 50) : Calls Tryd.prog 45 #[.int .i64 j, .slice A n c] w fun e w' => e = .returned (.string (⟨#[46]⟩ ++ ⟨(Lib.decDigits (j + 1)).toArray⟩)) ∧ w' = w := by
  have hO := Tryd.strconv_Itoa_small (j + 1) (by omega) w
  rw [show ((j + 1 : Nat) : Int) = (j : Int) + 1 by omega] at hO
  have hl : (⟨(Lib.decDigits (j + 1)).toArray⟩ : ByteArray).size ≤ 10 := by
    have : (Lib.decDigits (j + 1)).length ≤ 2 := dec_len_le (k := 1) (by omega)
    show (Lib.decDigits (j + 1)).toArray.size ≤ 10
    simp; omega
  have hj2 : (j : Int) ≤ 1000 := by omega
  generalize (⟨(Lib.decDigits (j + 1)).toArray⟩ : ByteArray) = v at *
  replace hO := Lib.hid hO
  clear hj
  go_enter Tryd.func45, Tryd.ntmps45
  go_wp2_with fail
  refine hO.out.mono ?_
  rintro e w1 ⟨rfl, rfl⟩
  go_wp2
  go_ret
  exact ⟨rfl, rfl⟩
end Go.Proofs.YtlflaalefilplaaDoor
