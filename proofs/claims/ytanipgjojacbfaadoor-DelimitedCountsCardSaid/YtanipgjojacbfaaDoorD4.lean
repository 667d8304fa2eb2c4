/- The reference: a field as it is written. -/
import Derived.Test.YtanipgjojacbfaaDoorD3
namespace Go.Proofs.YtanipgjojacbfaaDoor
open Go.RowKit Go.Lib
set_option linter.unusedVariables false

theorem dqS_snoc34 (u : Bs) : dqS (u ++ [34]) = dqS u ++ [34, 34] := by rw [dqS_app]; simp [dqS]
theorem dqS_snoc (u : Bs) {c : UInt8} (h : ¬ c = 34) : dqS (u ++ [c]) = dqS u ++ [c] := by rw [dqS_app, dqS_cons h]; rfl

theorem bA_idx (f : Bs) (i : Nat) (h : i < (bA f).size) (h2 : i < f.length) : (bA f)[i] = f[i] := rfl

set_option maxRecDepth 100000 in
set_option maxHeartbeats 4000000 in
theorem rquote_any (f : Bs) (d : UInt8) (w : World) (hf : f.length ≤ 65536) :
    Calls Tryd.prog 31 #[.string (bA f), .int .u8 d.toNat] w fun e w' => e = .returned (.string (bA (wrF d f))) ∧ w' = w := by
  have hS := Lib.hid (fun c W => rSpecial_any d c W)
  have hsz : ((bA f).size : Int) = (f.length : Int) := by rw [bA_size]
  have hfz : (f.length : Int) ≤ 65536 := by omega
  have hfh := Lib.hid hf
  clear hf
  go_enter Tryd.func31, Tryd.ntmps31
  go_wp2
  go_loopw [5, 6, 7] (fun ov nv iv wr => ∃ i : Nat, i ≤ f.length ∧ ov = .string (bA (dqS (f.take i))) ∧ nv = .bool ((f.take i).any (spc d)) ∧ iv = .int .i64 i ∧ wr = w) (fun _ _ iv _ => f.length - (intOf iv).toNat)
  case atStart => exact ⟨0, Nat.zero_le _, rfl, rfl, rfl, rfl⟩
  case round =>
    obtain ⟨i, hin, rfl, rfl, rfl, rfl⟩ := hrel
    by_cases hlt : i < f.length
    · obtain ⟨c, hc⟩ : ∃ c, f[i] = c := ⟨_, rfl⟩
      have hci : f[i]? = some c := by rw [List.getElem?_eq_getElem hlt, hc]
      obtain ⟨hlt', hidx⟩ : ∃ h : i < (bA f).size, (bA f)[i] = c := ⟨by rw [bA_size]; exact hlt, by rw [← hc]; exact bA_idx f i (by rw [bA_size]; exact hlt) hlt⟩
      have htk : f.take (i + 1) = f.take i ++ [c] := by rw [List.take_add_one, hci]; rfl
      have hany : Hid ((f.take (i + 1)).any (spc d) = ((f.take i).any (spc d) || spc d c)) := Lib.hid (by rw [htk, List.any_append]; simp)
      have hex : (bA f).extract i (i + 1) = bA [c] := by
        rw [bA_ext, bA_list, Nat.add_sub_cancel_left, List.take_one, List.head?_drop, hci]; rfl
      have hdl : (dqS (f.take i)).length ≤ 131072 := by
        have h1 := dqS_len (f.take i)
        have h2 : (f.take i).count 34 ≤ (f.take i).length := List.count_le_length
        rw [List.length_take] at h1 h2
        have := hfh.out
        omega
      have g2 : (i : Int) < (f.length : Int) := by omega
      have g2' : (i : Int) < ((bA f).size : Int) := by omega
      have g3 : (0 : Int) ≤ (i : Int) := by omega
      have g4 : ((i : Int) + 1).toNat = i + 1 := by omega
      have g5 : (i : Int) + 1 ≤ ((bA f).size : Int) := by omega
      have g6 : (i : Int) ≤ 65536 := by omega
      have g7 : (i : Int) + 1 ≤ (f.length : Int) := by omega
      have hSc := Lib.hid (fun W => hS.out c W)
      have hlh := Lib.hid hlt
      replace hci := Lib.hid hci
      replace htk := Lib.hid htk
      clear hin hlt hc
      generalize hN : (f.take i).any (spc d) = N at *
      replace hN := Lib.hid hN
      by_cases h34 : c = 34
      · have k1 : ((c.toNat : Int) == 34) = true := u8eq (d := 34) h34
        have hdq : Hid (dqS (f.take (i + 1)) = dqS (f.take i) ++ [34, c]) := Lib.hid (by rw [htk.out, h34]; exact dqS_snoc34 _)
        generalize dqS (f.take i) = U at *
        have h1 : bA U ++ (⟨#[34]⟩ : ByteArray) = bA (U ++ [34]) := bA_app U [34]
        have h2 : bA (U ++ [34]) ++ bA [c] = bA (U ++ [34, c]) := (bA_app _ _).trans (by simp)
        have s1 : ¬ 9223372036854775807 < (bA U).size + (⟨#[34]⟩ : ByteArray).size := by rw [bA_size]; show ¬ _ < U.length + 1; omega
        have s1' : ¬ 9223372036854775807 < (bA U).size + 1 := s1
        have s2 : ¬ 9223372036854775807 < (bA (U ++ [34])).size + (bA [c]).size := by rw [bA_size, bA_size, List.length_append]; show ¬ _ < U.length + 1 + 1; omega
        replace h34 := Lib.hid h34
        cases N with
        | true =>
          go_wp2
          go_roundw
          case rel => exact ⟨i + 1, by have := hlh.out; omega, by rw [hdq.out], by rw [hany.out]; rfl, by go_num, by first | rfl | trivial⟩
          case measure => simp [intOf]; have := hlh.out; omega
        | false =>
          go_wp2_with fail
          refine (hSc.out _).mono ?_
          rintro e w2 ⟨rfl, hw⟩
          subst hw
          generalize hsp : spc d c = B at *
          replace hsp := Lib.hid hsp
          go_wp2
          go_roundw
          case rel => exact ⟨i + 1, by have := hlh.out; omega, by rw [hdq.out], by rw [hany.out]; rfl, by go_num, by first | rfl | trivial⟩
          case measure => simp [intOf]; have := hlh.out; omega
      · have k1 : ((c.toNat : Int) == 34) = false := u8ne (d := 34) h34
        have hdq : Hid (dqS (f.take (i + 1)) = dqS (f.take i) ++ [c]) := Lib.hid (by rw [htk.out]; exact dqS_snoc _ h34)
        generalize dqS (f.take i) = U at *
        have h2 : bA U ++ bA [c] = bA (U ++ [c]) := bA_app _ _
        have s2 : ¬ 9223372036854775807 < (bA U).size + (bA [c]).size := by rw [bA_size, bA_size]; show ¬ _ < U.length + 1; omega
        replace h34 := Lib.hid h34
        cases N with
        | true =>
          go_wp2
          go_roundw
          case rel => exact ⟨i + 1, by have := hlh.out; omega, by rw [hdq.out], by rw [hany.out]; rfl, by go_num, by first | rfl | trivial⟩
          case measure => simp [intOf]; have := hlh.out; omega
        | false =>
          go_wp2_with fail
          refine (hSc.out _).mono ?_
          rintro e w2 ⟨rfl, hw⟩
          subst hw
          generalize hsp : spc d c = B at *
          replace hsp := Lib.hid hsp
          go_wp2
          go_roundw
          case rel => exact ⟨i + 1, by have := hlh.out; omega, by rw [hdq.out], by rw [hany.out]; rfl, by go_num, by first | rfl | trivial⟩
          case measure => simp [intOf]; have := hlh.out; omega
    · obtain rfl : i = f.length := by omega
      have hlf : (dqS f).length ≤ 131072 := by
        have h1 := dqS_len f
        have h2 : f.count 34 ≤ f.length := List.count_le_length
        have := hfh.out
        omega
      rw [List.take_length]
      cases hq : f.any (spc d) with
      | false =>
        have hw : Hid (wrF d f = f) := Lib.hid (by unfold wrF nqS; rw [hq]; rfl)
        clear hq hlf hin hlt
        go_wp2
        go_ret
        exact ⟨by rw [hw.out]; rfl, rfl⟩
      | true =>
        have hw : Hid (wrF d f = [34] ++ dqS f ++ [34]) := Lib.hid (by unfold wrF nqS; rw [hq]; rfl)
        have h1 : (⟨#[34]⟩ : ByteArray) ++ bA (dqS f) = bA ([34] ++ dqS f) := bA_app [34] (dqS f)
        have h2 : bA ([34] ++ dqS f) ++ (⟨#[34]⟩ : ByteArray) = bA ([34] ++ dqS f ++ [34]) := bA_app ([34] ++ dqS f) [34]
        have s1 : ¬ 9223372036854775807 < (⟨#[34]⟩ : ByteArray).size + (bA (dqS f)).size := by rw [bA_size]; show ¬ _ < 1 + (dqS f).length; omega
        have s2 : ¬ 9223372036854775807 < (bA ([34] ++ dqS f)).size + (⟨#[34]⟩ : ByteArray).size := by rw [bA_size, List.length_append]; show ¬ _ < 1 + (dqS f).length + 1; omega
        have s3 : ¬ 9223372036854775807 < 1 + (bA (dqS f)).size := s1
        have s4 : ¬ 9223372036854775807 < (bA ([34] ++ dqS f)).size + 1 := s2
        generalize hv1 : [34] ++ dqS f = v1 at *
        replace hv1 := Lib.hid hv1
        clear hq hlf hin hlt
        go_wp2
        go_ret
        exact ⟨by rw [hw.out]; rfl, rfl⟩
end Go.Proofs.YtanipgjojacbfaaDoor
