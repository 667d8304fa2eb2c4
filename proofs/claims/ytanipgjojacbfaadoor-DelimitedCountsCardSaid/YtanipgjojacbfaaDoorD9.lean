/- The law NamesTheLine. -/
import Derived.Test.YtanipgjojacbfaaDoorD8
namespace Go.Proofs.YtanipgjojacbfaaDoor
open Go.RowKit Go.Lib
set_option linter.unusedVariables false

theorem bA_eta (s : ByteArray) : ∃ x, s = bA x := ⟨s.data.toList, by cases s; simp [bA]⟩
/-- What is read of a plain word before a mark. -/
theorem fS_word {u : Bs} (hu : u ≠ []) (h : ∀ c ∈ u, 97 ≤ c.toNat) (v : Bs) : fS 44 (u ++ 34 :: v) = some (u, 34 :: v) := by
  have hall : ∀ c ∈ u, (!spc 44 c) = true := fun c hc => by
    have := h c hc
    simp only [spc, Bool.not_eq_true', Bool.or_eq_false_iff, beq_eq_false_iff_ne]
    refine ⟨⟨⟨?_, ?_⟩, ?_⟩, ?_⟩ <;> (rintro rfl; revert this; decide)
  obtain ⟨c, t, rfl⟩ := List.exists_cons_of_ne_nil hu
  have hc := h c List.mem_cons_self
  have hne : ¬ c = 34 := by rintro rfl; revert hc; decide
  rw [List.cons_append, fS_cons, if_neg hne, ← List.cons_append]
  congr 2
  · unfold plS; rw [List.takeWhile_append_of_pos hall, List.takeWhile_cons_of_neg (by decide), List.append_nil]
  · unfold plR; rw [List.dropWhile_append_of_pos hall, List.dropWhile_cons_of_neg (by decide)]
theorem recS_word {u : Bs} (hu : u ≠ []) (h : ∀ c ∈ u, 97 ≤ c.toNat) (n : Nat) (v : Bs) : recS 44 n [] (u ++ 34 :: v) = .bad 3 (34 :: v) := by
  unfold recS
  rw [fS_word hu h]
  rfl
theorem po_word {l : List (List Bs)} {u v : Bs} (hl : ∀ r ∈ l, r ≠ [] ∧ r.length ≤ 32) (hn : l.length < 1024) (hu : u ≠ []) (h : ∀ c ∈ u, 97 ≤ c.toNat) (hs : (wrL 44 l).length + u.length + v.length + 1 ≤ 65536) :
    po (wrL 44 l ++ u ++ [34] ++ v) 44 = ([], 1 + (wrL 44 l).count 10, 3) := by
  have e : wrL 44 l ++ u ++ [34] ++ v = wrL 44 l ++ (u ++ 34 :: v) := by simp
  have hp : parseS 44 (wrL 44 l ++ (u ++ 34 :: v)) = .bad 3 (34 :: v) := by
    have h1 := recsS_wr (dOk_of (d := 44) rfl) l (1023 - l.length + 1) [] (u ++ 34 :: v) hl
    rw [show 1023 - l.length + 1 + l.length = 1024 by omega] at h1
    unfold parseS
    rw [h1, recsS_succ _ _ _ (by simp), recS_word hu h]
  rw [po_yes rfl (by simp only [List.length_append, List.length_cons, List.length_nil]; omega), e, hp]
  have hc : u.count 10 = 0 := List.count_eq_zero.2 fun hm => by have := h _ hm; revert this; decide
  show ([], lnS _ _, _) = _
  unfold lnS
  rw [show wrL 44 l ++ (u ++ 34 :: v) = (wrL 44 l ++ u) ++ 34 :: v by simp, List.length_append, Nat.add_sub_cancel, List.take_left, List.count_append, hc]
  rfl

set_option maxRecDepth 100000 in
set_option maxHeartbeats 4000000 in
theorem law_names (R : List Row) (A : Option Addr) (c : Nat) (su sv : ByteArray) (w : World) (h : MR w A R.length R) (hR : R.length ≤ 9223372036854775807) (hRf : ∀ r ∈ R, r.fs.length ≤ 9223372036854775807 ∧ ∀ f ∈ r.fs, f.length ≤ 9223372036854775807) (hsu : su.size ≤ 9223372036854775807) (hsv : sv.size ≤ 9223372036854775807) (hm : Mx w) :
    Calls Tryd.prog 9 #[.slice A R.length c, .string su, .string sv] w fun e w' => e = .returned (.bool true) ∧ Below w.heap.size w w' := by
  have hL := Lib.hid (light_any R A c w h hR hRf)
  have hA := Lib.hid (fun W h => awake_any W h)
  have hmh := Lib.hid hm
  obtain ⟨U, rfl⟩ := bA_eta su
  obtain ⟨V, rfl⟩ := bA_eta sv
  have hu1 : ((bA U).size : Int) = (U.length : Int) := by rw [bA_size]
  have hv1 : ((bA V).size : Int) = (V.length : Int) := by rw [bA_size]
  rw [bA_size] at hsu hsv
  have hu2 : (U.length : Int) ≤ 9223372036854775807 := by omega
  have hv2 : (V.length : Int) ≤ 9223372036854775807 := by omega
  cases hl : ltB R with
  | false =>
    rw [hl] at hL
    generalize R.length = n at *
    clear h hR hRf hm hl
    go_enter Tryd.func9, Tryd.ntmps9
    go_wp2_with fail
    refine hL.out.mono ?_
    rintro e w1 ⟨rfl, hw⟩
    subst hw
    have hA1 := Lib.hid (hA.out _ hmh.out)
    go_wp2_with fail
    refine hA1.out.mono ?_
    rintro e w2 ⟨rfl, hb⟩
    replace hb := Lib.hid hb
    go_wp2
    go_ret
    exact ⟨rfl, hb.out⟩
  | true =>
    rw [hl] at hL
    have hlt := ltB_true hl
    by_cases k1 : 20 < U.length
    · have k1' : (20 : Int) < (U.length : Int) := by omega
      generalize R.length = n at *
      clear h hR hRf hm hl
      go_enter Tryd.func9, Tryd.ntmps9
      go_wp2_with fail
      refine hL.out.mono ?_
      rintro e w1 ⟨rfl, hw⟩
      subst hw
      have hA1 := Lib.hid (hA.out _ hmh.out)
      go_wp2_with fail
      refine hA1.out.mono ?_
      rintro e w2 ⟨rfl, hb⟩
      replace hb := Lib.hid hb
      go_wp2
      go_ret
      exact ⟨rfl, hb.out⟩
    have k1' : ¬ (20 : Int) < (U.length : Int) := by omega
    by_cases k2 : 100 < V.length
    · have k2' : (100 : Int) < (V.length : Int) := by omega
      generalize R.length = n at *
      clear h hR hRf hm hl
      go_enter Tryd.func9, Tryd.ntmps9
      go_wp2_with fail
      refine hL.out.mono ?_
      rintro e w1 ⟨rfl, hw⟩
      subst hw
      have hA1 := Lib.hid (hA.out _ hmh.out)
      go_wp2_with fail
      refine hA1.out.mono ?_
      rintro e w2 ⟨rfl, hb⟩
      replace hb := Lib.hid hb
      go_wp2
      go_ret
      exact ⟨rfl, hb.out⟩
    have k2' : ¬ (100 : Int) < (V.length : Int) := by omega
    by_cases k3 : U = []
    · have k3' : (bA U).toList.isEmpty = true := by rw [bA_toList, k3]; rfl
      replace k3 := Lib.hid k3
      generalize R.length = n at *
      clear h hR hRf hm hl
      go_enter Tryd.func9, Tryd.ntmps9
      go_wp2_with fail
      refine hL.out.mono ?_
      rintro e w1 ⟨rfl, hw⟩
      subst hw
      have hA1 := Lib.hid (hA.out _ hmh.out)
      go_wp2_with fail
      refine hA1.out.mono ?_
      rintro e w2 ⟨rfl, hb⟩
      replace hb := Lib.hid hb
      go_wp2
      go_ret
      exact ⟨rfl, hb.out⟩
    have k3' : (bA U).toList.isEmpty = false := by rw [bA_toList]; cases U with
      | nil => exact absurd rfl k3
      | cons => rfl
    have hG := Lib.hid (rformat_any R A c 44 w h hR (fun r hr => (hRf r hr).1) (fun r hr f hf => by have := (hlt.2 r hr).2 f hf; omega))
    have hP : Hid ((fo 44 (R.map Row.fs)).2 = 0 → (∀ c ∈ U, 97 ≤ c.toNat) → (fo 44 (R.map Row.fs)).1.length + U.length + V.length + 1 ≤ 65536 → ∀ W, Mx W → Calls Tryd.prog 11 #[.string (bA ((fo 44 (R.map Row.fs)).1 ++ U ++ [34] ++ V)), .int .u8 44] W (ParR [] (1 + (fo 44 (R.map Row.fs)).1.count 10) 3 W)) := Lib.hid fun h0 hc hz W hW => by
      have := parse_any (bA ((fo 44 (R.map Row.fs)).1 ++ U ++ [34] ++ V)) 44 W hW
      unfold PoR at this
      obtain ⟨h1, h2, h3, h4⟩ := fo_ok h0
      obtain ⟨q1, q2, q3⟩ := fo_small h4
      rw [bA_list, h2, po_word (fun r hr => ⟨h3 r hr, q2 r hr⟩) (by rw [List.length_map]; omega) k3 hc (by rw [h2] at hz; exact hz)] at this
      rw [h2]
      exact this
    have hT : Hid ((fo 44 (R.map Row.fs)).1.length ≤ 65536) := Lib.hid (by
      by_cases h0 : (fo 44 (R.map Row.fs)).2 = 0
      · obtain ⟨h1, h2, h3, h4⟩ := fo_ok h0
        rw [h2, wrL_len 44 h3]
        exact (fo_small h4).2.2
      · rw [fo_bad h0]; exact Nat.zero_le _)
    have hn40 : (R.length : Int) ≤ 40 := by omega
    generalize (fo 44 (R.map Row.fs)).1 = T at *
    generalize (fo 44 (R.map Row.fs)).2 = E at *
    generalize R.length = n at *
    have hnn : ((n : Int) == 1024) = false := by simp; omega
    replace k1 := Lib.hid k1
    replace k2 := Lib.hid k2
    clear h hR hRf hm hl hlt hu2 hv2 hsu hsv k3
    have hu3 : (U.length : Int) ≤ 20 := by omega
    have hv3 : (V.length : Int) ≤ 100 := by omega
    go_enter Tryd.func9, Tryd.ntmps9
    go_wp2_with fail
    refine hL.out.mono ?_
    rintro e w1 ⟨rfl, hw⟩
    subst hw
    have hA1 := Lib.hid (hA.out _ hmh.out)
    clear hL
    go_wp2
    go_loopw [7] (fun iv wr => ∃ i : Nat, i ≤ U.length ∧ iv = .int .i64 i ∧ wr = w1 ∧ ∀ c ∈ U.take i, 97 ≤ c.toNat) (fun iv _ => U.length - (intOf iv).toNat)
    case atStart => exact ⟨0, Nat.zero_le _, rfl, rfl, fun c hc => by simp at hc⟩
    case round =>
      obtain ⟨i, hin, rfl, rfl, hall⟩ := hrel
      by_cases hlt : i < U.length
      · obtain ⟨c, hc⟩ : ∃ c, U[i] = c := ⟨_, rfl⟩
        have hci : U[i]? = some c := by rw [List.getElem?_eq_getElem hlt, hc]
        obtain ⟨hlt', hidx⟩ : ∃ h : i < (bA U).size, (bA U)[i] = c := ⟨by rw [bA_size]; exact hlt, by rw [← hc]; exact bA_idx U i (by rw [bA_size]; exact hlt) hlt⟩
        have htk : U.take (i + 1) = U.take i ++ [c] := by rw [List.take_add_one, hci]; rfl
        have g2 : (i : Int) < (U.length : Int) := by omega
        have g2' : (i : Int) < ((bA U).size : Int) := by omega
        have g3 : (0 : Int) ≤ (i : Int) := by omega
        have g6 : (i : Int) ≤ 65536 := by omega
        have hlh := Lib.hid hlt
        clear hin hlt hc hci
        by_cases h1 : c.toNat < 97
        · have h1' : (c.toNat : Int) < 97 := by omega
          go_wp2_with fail
          refine hA1.out.mono ?_
          rintro e w2 ⟨rfl, hb⟩
          replace hb := Lib.hid hb
          clear hidx
          go_wp2
          go_ret
          exact ⟨rfl, hb.out⟩
        have h1' : ¬ (c.toNat : Int) < 97 := by omega
        by_cases h2 : 122 < c.toNat
        · have h2' : 122 < (c.toNat : Int) := by omega
          go_wp2_with fail
          refine hA1.out.mono ?_
          rintro e w2 ⟨rfl, hb⟩
          replace hb := Lib.hid hb
          clear hidx
          go_wp2
          go_ret
          exact ⟨rfl, hb.out⟩
        have h2' : ¬ 122 < (c.toNat : Int) := by omega
        have hall2 : Hid (∀ c ∈ U.take (i + 1), 97 ≤ c.toNat) := Lib.hid (by
          rw [htk]
          intro x hx
          rcases List.mem_append.1 hx with hx | hx
          · exact hall x hx
          · simp at hx; subst hx; omega)
        clear hall htk h1 h2
        go_wp2
        go_roundw
        case rel => exact ⟨i + 1, by have := hlh.out; omega, by go_num, by first | rfl | trivial, hall2.out⟩
        case measure => simp [intOf]; have := hlh.out; omega
      · obtain rfl : i = U.length := by omega
        rw [List.take_length] at hall
        replace hall := Lib.hid hall
        clear hin hlt
        go_wp2_with fail
        refine hG.out.mono ?_
        rintro e w2 ⟨rfl, hb⟩
        have hA2 := Lib.hid (hA.out _ (hmh.out.bel hb))
        have hm2 := Lib.hid (hmh.out.bel hb)
        replace hb := Lib.hid hb
        clear hG hA1
        by_cases hE : E = 0
        · subst hE
          have hTz : ((bA T).size : Int) = (T.length : Int) := by rw [bA_size]
          have hTy : (T.length : Int) ≤ 65536 := by have := hT.out; omega
          by_cases hbig : 65536 < T.length + U.length + V.length + 1
          · have hbig' : (65536 : Int) < (T.length : Int) + (U.length : Int) + (V.length : Int) + 1 := by omega
            go_wp2_with fail
            refine hA2.out.mono ?_
            rintro e w4 ⟨rfl, hb4⟩
            have hb5 := Lib.hid (hb.out.trans (hb4.mono hb.out.size))
            clear hb4 hb
            go_wp2
            go_ret
            exact ⟨rfl, hb5.out⟩
          · have hbig' : (decide ((65536 : Int) < (T.length : Int) + (U.length : Int) + (V.length : Int) + 1)) = false := decide_eq_false (by omega)
            have hP1 := Lib.hid (fun W hW => hP.out rfl hall.out (by omega) W hW)
            replace hbig := Lib.hid hbig
            clear hP hall hA2
            go_wp2
            go_loopw [10, 11] (fun kv iv wx => ∃ i : Nat, i ≤ T.length ∧ kv = .int .i64 ((1 + (T.take i).count 10 : Nat) : Int) ∧ iv = .int .i64 i ∧ wx = w2) (fun _ iv _ => T.length - (intOf iv).toNat)
            case atStart => exact ⟨0, Nat.zero_le _, rfl, rfl, rfl⟩
            case round =>
              obtain ⟨i, hin, rfl, rfl, hw⟩ := hrel
              obtain rfl := hw
              by_cases hlt : i < T.length
              · obtain ⟨c, hc⟩ : ∃ c, T[i] = c := ⟨_, rfl⟩
                have hci : T[i]? = some c := by rw [List.getElem?_eq_getElem hlt, hc]
                obtain ⟨hlt', hidx⟩ : ∃ h : i < (bA T).size, (bA T)[i] = c := ⟨by rw [bA_size]; exact hlt, by rw [← hc]; exact bA_idx T i (by rw [bA_size]; exact hlt) hlt⟩
                have htk : T.take (i + 1) = T.take i ++ [c] := by rw [List.take_add_one, hci]; rfl
                have g2 : (i : Int) < (T.length : Int) := by omega
                have g2' : (i : Int) < ((bA T).size : Int) := by omega
                have g3 : (0 : Int) ≤ (i : Int) := by omega
                have g6 : (i : Int) ≤ 65536 := by omega
                have hlh := Lib.hid hlt
                have hkc : (T.take i).count 10 ≤ i := Nat.le_trans List.count_le_length (by rw [List.length_take]; exact Nat.min_le_left _ _)
                have hk2 : Hid ((T.take (i + 1)).count 10 = (T.take i).count 10 + if c = 10 then 1 else 0) := Lib.hid (by
                  rw [htk, List.count_append]
                  congr 1
                  by_cases h : c = 10
                  · subst h; rfl
                  · rw [if_neg h, List.count_cons_of_ne h]; rfl)
                generalize (T.take i).count 10 = k at *
                have g7 : ((1 + k : Nat) : Int) ≤ 65537 := by omega
                have g8 : (0 : Int) ≤ ((1 + k : Nat) : Int) := by omega
                obtain ⟨K, hK⟩ : ∃ K, K = 1 + k := ⟨_, rfl⟩
                rw [← hK] at g7 g8 ⊢
                replace hK := Lib.hid hK
                clear hin hlt hc hci htk hkc
                by_cases h10 : c = 10
                · have k5 : ((c.toNat : Int) == 10) = true := u8eq (d := 10) h10
                  have hk3 : Hid (1 + (T.take (i + 1)).count 10 = K + 1) := Lib.hid (by rw [hk2.out, if_pos h10, hK.out]; omega)
                  replace h10 := Lib.hid h10
                  go_wp2
                  go_roundw
                  case rel => exact ⟨i + 1, by have := hlh.out; omega, by rw [hk3.out]; go_num, by go_num, by first | rfl | trivial⟩
                  case measure => simp [intOf]; have := hlh.out; omega
                · have k5 : ((c.toNat : Int) == 10) = false := u8ne (d := 10) h10
                  have hk3 : Hid (1 + (T.take (i + 1)).count 10 = K) := Lib.hid (by rw [hk2.out, if_neg h10, hK.out]; omega)
                  replace h10 := Lib.hid h10
                  go_wp2
                  go_roundw
                  case rel => exact ⟨i + 1, by have := hlh.out; omega, by rw [hk3.out], by go_num, by first | rfl | trivial⟩
                  case measure => simp [intOf]; have := hlh.out; omega
              · obtain rfl : i = T.length := by omega
                rw [List.take_length]
                generalize 1 + T.count 10 = K at *
                have hPm := Lib.hid (hP1.out _ hm2.out)
                have h1 : bA T ++ bA U = bA (T ++ U) := bA_app T U
                have h2 : bA (T ++ U) ++ (⟨#[34]⟩ : ByteArray) = bA (T ++ U ++ [34]) := bA_app _ [34]
                have h3 : bA (T ++ U ++ [34]) ++ bA V = bA (T ++ U ++ [34] ++ V) := bA_app _ V
                have s1 : ¬ 9223372036854775807 < (bA T).size + (bA U).size := by omega
                have s2 : ¬ 9223372036854775807 < (bA (T ++ U)).size + 1 := by rw [bA_size, List.length_append]; omega
                have s3 : ¬ 9223372036854775807 < (bA (T ++ U ++ [34])).size + (bA V).size := by rw [bA_size, List.length_append, List.length_append]; simp only [List.length_cons, List.length_nil]; omega
                generalize T ++ U ++ [34] ++ V = X3 at *
                generalize T ++ U ++ [34] = X2 at *
                generalize T ++ U = X1 at *
                have hkk : ((K : Int) == (K : Int)) = true := beq_self_eq_true _
                clear hin hlt hP1
                go_wp2_with fail
                refine hPm.out.mono ?_
                rintro e w3 ⟨R2, A2, c2, rfl, hl2, hR2, hb2⟩
                have hb3 := Lib.hid (hb.out.trans (hb2.mono hb.out.size))
                have hA3 := Lib.hid (hA.out w3 (hmh.out.bel hb3.out))
                clear hb2 hl2 hR2 hb
                go_wp2_with fail
                refine hA3.out.mono ?_
                rintro e w4 ⟨rfl, hb4⟩
                have hb5 := Lib.hid (hb3.out.trans (hb4.mono hb3.out.size))
                clear hb4 hb3
                go_wp2
                go_ret
                exact ⟨rfl, hb5.out⟩
        · have hT0 : ¬ E = 0 := hE
          clear hP
          go_wp2_with fail
          refine hA2.out.mono ?_
          rintro e w4 ⟨rfl, hb4⟩
          have hb5 := Lib.hid (hb.out.trans (hb4.mono hb.out.size))
          clear hb4 hb
          go_wp2
          go_ret
          exact ⟨rfl, hb5.out⟩
end Go.Proofs.YtanipgjojacbfaaDoor
