/- The law FormulaStopsAtTheError. -/
import Derived.Test.YtjebpmjbdchdlaaDoorM23
namespace Go.Proofs.YtjebpmjbdchdlaaDoor
open Go.RowKit
set_option linter.unusedVariables false

/-- Part of a word, by its number. -/
def innN (n : Int) : Bool := (((decide (97 ≤ n) && decide (n ≤ 122)) || (decide (65 ≤ n) && decide (n ≤ 90))) || (decide (48 ≤ n) && decide (n ≤ 57)) || n == 95) || n == 46
set_option maxRecDepth 100000 in
set_option maxHeartbeats 4000000 in
theorem inner_any (n : Int) (w : World) : Calls Tryd.prog 7 #[.int .u8 n] w fun e w' => e = .returned (.bool (innN n)) ∧ w' = w := by
  have fin : ∀ b : Bool, (b = true ↔ innN n = true) → Ending.returned (.bool b) = Ending.returned (.bool (innN n)) := fun b h => by rw [Bool.eq_iff_iff.2 h]
  have hI : Hid (innN n = true ↔ ((((97 ≤ n ∧ n ≤ 122) ∨ (65 ≤ n ∧ n ≤ 90)) ∨ (48 ≤ n ∧ n ≤ 57)) ∨ n = 95) ∨ n = 46) := Lib.hid (by unfold innN; simp only [Bool.or_eq_true, Bool.and_eq_true, decide_eq_true_eq, beq_iff_eq])
  generalize innN n = v at *
  replace fin := Lib.hid fin
  go_enter Tryd.func7, Tryd.ntmps7
  go_wp2
  all_goals go_ret
  all_goals refine ⟨fin.out _ ?_, rfl⟩
  all_goals have hI := hI.out
  all_goals clear fin
  all_goals (try simp [hI])
  all_goals omega
theorem inn_byte (c : UInt8) : innN c.toNat = innB c := by
  unfold innN innB letB digB
  have e1 : (((c.toNat : Nat) : Int) == 95) = (c == 95) := by
    rw [Bool.eq_iff_iff, beq_iff_eq, beq_iff_eq]
    constructor
    · intro h; exact UInt8.toNat.inj (by show c.toNat = 95; omega)
    · rintro rfl; rfl
  have e2 : (((c.toNat : Nat) : Int) == 46) = (c == 46) := by
    rw [Bool.eq_iff_iff, beq_iff_eq, beq_iff_eq]
    constructor
    · intro h; exact UInt8.toNat.inj (by show c.toNat = 46; omega)
    · rintro rfl; rfl
  rw [e1, e2]
  congr 2
  congr 1
  · congr 1 <;> congr 1 <;> rw [decide_eq_decide] <;> omega
  · congr 1 <;> rw [decide_eq_decide] <;> omega
/-- What the parsing of a text gives, beside what is read. -/
theorem par_er (l : F9.Bs) : ∃ er : Int, (parV l).1 = er ∧ 0 ≤ er ∧ (parV l).2.1 ≤ l.length := by
  refine ⟨_, rfl, ?_, ?_⟩
  · unfold parV
    split
    · decide
    · split
      · exact Int.natCast_nonneg _
      · split <;> simp
  · unfold parV
    split
    · exact Nat.zero_le _
    · split
      · exact Nat.sub_le _ _
      · split <;> exact Nat.zero_le _
set_option maxRecDepth 100000 in
set_option maxHeartbeats 4000000 in
theorem law_stops (t : ByteArray) (w : World) (ht : t.size ≤ 9223372036854775807) (hO : Og w) : Calls Tryd.prog 3 #[.string t] w fun e w' => e = .returned (.bool true) ∧ Below w.heap.size w w' := by
  have hb := Lib.hid hO
  have hz0 := hO.1
  have S0 := Lib.hid (St.new w)
  clear hO
  by_cases h1 : t.size ≤ 600
  · have g1 : ¬ 600 < (t.size : Int) := by omega
    have hbig : t.size ≤ 1000000 := by omega
    replace h1 := Lib.hid h1
    go_enter Tryd.func3, Tryd.ntmps3
    go_wp2_with fail
    refine (parse_any t w hbig hb.out).mono ?_
    rintro e w1 ⟨s, l, q, er, rfl, p1, p2, p3, hB⟩
    have hv : (l.v : Value) = .slice l.A l.L.length l.c := rfl
    rw [hv]
    have S1 := Lib.hid ((S0.out.call hB).alloc #[.string s, .slice l.A l.L.length l.c] 25 (noLof rfl))
    clear S0 hB p3 hv
    go_wp2_with fail
    refine (rparse_any t _ hbig).mono ?_
    rintro e w2 ⟨s2, l2, q2, er2, rfl, r1, r2, r3, hB⟩
    rw [p1] at r1
    simp only [Prod.mk.injEq] at r1
    obtain ⟨rfl, rfl, rfl, hLL⟩ := r1
    have hv : (l2.v : Value) = .slice l2.A l.L.length l2.c := by rw [hLL]; rfl
    rw [hv]
    have S2 := Lib.hid ((S1.out.call hB).alloc #[.string s, .slice l2.A l.L.length l2.c] 25 (noLof rfl))
    have hq : q ≤ t.size := by
      obtain ⟨_, _, _, h⟩ := par_er t.data.toList
      rw [p1, toList_len] at h
      exact h
    have hp := Lib.hid p1
    clear S1 hB r3 hv p1 p2 r2 hLL
    replace hq := Lib.hid hq
    have aw := Lib.hid (fun W (S : Below w.heap.size w W) => awake_any W (hb.out.bel S))
    by_cases he : er = 3 ∨ er = 1
    · by_cases hlt : q < t.size
      · have g2 : ¬ (t.size : Int) ≤ (q : Int) := by omega
        have hlt2 := Lib.hid hlt
        rcases he with rfl | rfl
        · by_cases h0 : q = 0
          · subst h0
            have g3 : ¬ t = ByteArray.empty := by
              intro h
              have := hlt2.out
              rw [h] at this
              exact absurd this (by decide)
            have hst : Hid ((parV ByteArray.empty.data.toList).1 = 0 ∨ (parV ByteArray.empty.data.toList).1 = 2 ∨ ((parV ByteArray.empty.data.toList).1 = 3 ∧ (parV ByteArray.empty.data.toList).2.1 = 0)) := Lib.hid (.inr (.inr ⟨by rfl, by rfl⟩))
            have hsz : Hid (ByteArray.empty.size ≤ 1000000) := Lib.hid (by decide)
            clear hq hlt hp
            go_wp2_with fail
            refine (parse_any ByteArray.empty _ hsz.out (hb.out.bel S2.out.bel)).mono ?_
            rintro e w3 ⟨s3, l3, q3, er3, rfl, p1, p2, p3, hB⟩
            have hv : (l3.v : Value) = .slice l3.A l3.L.length l3.c := rfl
            rw [hv]
            have S3 := Lib.hid ((S2.out.call hB).alloc #[.string s3, .slice l3.A l3.L.length l3.c] 25 (noLof rfl))
            have hst := hst.out
            rw [p1] at hst
            simp only at hst
            clear S2 hB p1 p2 p3 hv
            rcases hst with rfl | rfl | ⟨rfl, rfl⟩
            · go_wp2_with fail
              refine (aw.out _ S3.out.bel).mono ?_
              rintro e w4 ⟨rfl, hB⟩
              have hB4 := Lib.hid (S3.out.bel.trans (hB.mono S3.out.bel.size))
              clear S3 hB
              go_wp2
              go_ret
              exact ⟨rfl, hB4.out⟩
            · go_wp2_with fail
              refine (aw.out _ S3.out.bel).mono ?_
              rintro e w4 ⟨rfl, hB⟩
              have hB4 := Lib.hid (S3.out.bel.trans (hB.mono S3.out.bel.size))
              clear S3 hB
              go_wp2
              go_ret
              exact ⟨rfl, hB4.out⟩
            · go_wp2_with fail
              refine (aw.out _ S3.out.bel).mono ?_
              rintro e w4 ⟨rfl, hB⟩
              have hB4 := Lib.hid (S3.out.bel.trans (hB.mono S3.out.bel.size))
              clear S3 hB
              go_wp2
              go_ret
              exact ⟨rfl, hB4.out⟩
          · have g3 : (0 : Int) < (q : Int) := by omega
            have hqt : q - 1 < t.size := by omega
            have hqe : t.data.toList[q - 1]? = some t[q - 1] := by
              rw [List.getElem?_eq_getElem (by rw [toList_len]; exact hqt)]
              rfl
            have hin := Lib.hid (inn_byte t[q - 1])
            have hstp := Lib.hid (fun hi => stops_B (q := q) h1.out hp.out (.inl rfl) hlt hi)
            have hsz : Hid ((t.extract 0 q).size ≤ 1000000) := Lib.hid (by rw [ByteArray.size_extract]; omega)
            replace hqe := Lib.hid hqe
            clear hq hp
            go_wp2_with fail
            refine (inner_any _ _).mono ?_
            rintro e w9 ⟨rfl, rfl⟩
            rw [hin.out]
            cases hc : innB t[q - 1]
            · have hst := Lib.hid (hstp.out fun _ c hcc => by rw [hqe.out] at hcc; injection hcc with hcc; rw [← hcc]; exact hc)
              clear hstp hqe hin
              go_wp2_with fail
              refine (parse_any (t.extract 0 q) _ hsz.out (hb.out.bel S2.out.bel)).mono ?_
              rintro e w3 ⟨s3, l3, q3, er3, rfl, p1, p2, p3, hB⟩
              have hv : (l3.v : Value) = .slice l3.A l3.L.length l3.c := rfl
              rw [hv]
              have S3 := Lib.hid ((S2.out.call hB).alloc #[.string s3, .slice l3.A l3.L.length l3.c] 25 (noLof rfl))
              have hst := hst.out
              rw [p1] at hst
              simp only at hst
              clear S2 hB p1 p2 p3 hv
              rcases hst with rfl | rfl | ⟨rfl, rfl⟩
              · go_wp2_with fail
                refine (aw.out _ S3.out.bel).mono ?_
                rintro e w4 ⟨rfl, hB⟩
                have hB4 := Lib.hid (S3.out.bel.trans (hB.mono S3.out.bel.size))
                clear S3 hB
                go_wp2
                go_ret
                exact ⟨rfl, hB4.out⟩
              · go_wp2_with fail
                refine (aw.out _ S3.out.bel).mono ?_
                rintro e w4 ⟨rfl, hB⟩
                have hB4 := Lib.hid (S3.out.bel.trans (hB.mono S3.out.bel.size))
                clear S3 hB
                go_wp2
                go_ret
                exact ⟨rfl, hB4.out⟩
              · go_wp2_with fail
                refine (aw.out _ S3.out.bel).mono ?_
                rintro e w4 ⟨rfl, hB⟩
                have hB4 := Lib.hid (S3.out.bel.trans (hB.mono S3.out.bel.size))
                clear S3 hB
                go_wp2
                go_ret
                exact ⟨rfl, hB4.out⟩
            · clear hstp hqe hin
              go_wp2_with fail
              refine (aw.out _ S2.out.bel).mono ?_
              rintro e w3 ⟨rfl, hB⟩
              have hB4 := Lib.hid (S2.out.bel.trans (hB.mono S2.out.bel.size))
              clear S2 hB
              go_wp2
              go_ret
              exact ⟨rfl, hB4.out⟩
        · by_cases h0 : q = 0
          · subst h0
            have g3 : ¬ t = ByteArray.empty := by
              intro h
              have := hlt2.out
              rw [h] at this
              exact absurd this (by decide)
            have hst : Hid ((parV ByteArray.empty.data.toList).1 = 0 ∨ (parV ByteArray.empty.data.toList).1 = 2 ∨ ((parV ByteArray.empty.data.toList).1 = 3 ∧ (parV ByteArray.empty.data.toList).2.1 = 0)) := Lib.hid (.inr (.inr ⟨by rfl, by rfl⟩))
            have hsz : Hid (ByteArray.empty.size ≤ 1000000) := Lib.hid (by decide)
            clear hq hlt hp
            go_wp2_with fail
            refine (parse_any ByteArray.empty _ hsz.out (hb.out.bel S2.out.bel)).mono ?_
            rintro e w3 ⟨s3, l3, q3, er3, rfl, p1, p2, p3, hB⟩
            have hv : (l3.v : Value) = .slice l3.A l3.L.length l3.c := rfl
            rw [hv]
            have S3 := Lib.hid ((S2.out.call hB).alloc #[.string s3, .slice l3.A l3.L.length l3.c] 25 (noLof rfl))
            have hst := hst.out
            rw [p1] at hst
            simp only at hst
            clear S2 hB p1 p2 p3 hv
            rcases hst with rfl | rfl | ⟨rfl, rfl⟩
            · go_wp2_with fail
              refine (aw.out _ S3.out.bel).mono ?_
              rintro e w4 ⟨rfl, hB⟩
              have hB4 := Lib.hid (S3.out.bel.trans (hB.mono S3.out.bel.size))
              clear S3 hB
              go_wp2
              go_ret
              exact ⟨rfl, hB4.out⟩
            · go_wp2_with fail
              refine (aw.out _ S3.out.bel).mono ?_
              rintro e w4 ⟨rfl, hB⟩
              have hB4 := Lib.hid (S3.out.bel.trans (hB.mono S3.out.bel.size))
              clear S3 hB
              go_wp2
              go_ret
              exact ⟨rfl, hB4.out⟩
            · go_wp2_with fail
              refine (aw.out _ S3.out.bel).mono ?_
              rintro e w4 ⟨rfl, hB⟩
              have hB4 := Lib.hid (S3.out.bel.trans (hB.mono S3.out.bel.size))
              clear S3 hB
              go_wp2
              go_ret
              exact ⟨rfl, hB4.out⟩
          · have g3 : (0 : Int) < (q : Int) := by omega
            have hqt : q - 1 < t.size := by omega
            have hqe : t.data.toList[q - 1]? = some t[q - 1] := by
              rw [List.getElem?_eq_getElem (by rw [toList_len]; exact hqt)]
              rfl
            have hin := Lib.hid (inn_byte t[q - 1])
            have hstp := Lib.hid (fun hi => stops_B (q := q) h1.out hp.out (.inr rfl) hlt hi)
            have hsz : Hid ((t.extract 0 q).size ≤ 1000000) := Lib.hid (by rw [ByteArray.size_extract]; omega)
            replace hqe := Lib.hid hqe
            clear hq hp
            go_wp2_with fail
            refine (inner_any _ _).mono ?_
            rintro e w9 ⟨rfl, rfl⟩
            rw [hin.out]
            cases hc : innB t[q - 1]
            · have hst := Lib.hid (hstp.out fun _ c hcc => by rw [hqe.out] at hcc; injection hcc with hcc; rw [← hcc]; exact hc)
              clear hstp hqe hin
              go_wp2_with fail
              refine (parse_any (t.extract 0 q) _ hsz.out (hb.out.bel S2.out.bel)).mono ?_
              rintro e w3 ⟨s3, l3, q3, er3, rfl, p1, p2, p3, hB⟩
              have hv : (l3.v : Value) = .slice l3.A l3.L.length l3.c := rfl
              rw [hv]
              have S3 := Lib.hid ((S2.out.call hB).alloc #[.string s3, .slice l3.A l3.L.length l3.c] 25 (noLof rfl))
              have hst := hst.out
              rw [p1] at hst
              simp only at hst
              clear S2 hB p1 p2 p3 hv
              rcases hst with rfl | rfl | ⟨rfl, rfl⟩
              · go_wp2_with fail
                refine (aw.out _ S3.out.bel).mono ?_
                rintro e w4 ⟨rfl, hB⟩
                have hB4 := Lib.hid (S3.out.bel.trans (hB.mono S3.out.bel.size))
                clear S3 hB
                go_wp2
                go_ret
                exact ⟨rfl, hB4.out⟩
              · go_wp2_with fail
                refine (aw.out _ S3.out.bel).mono ?_
                rintro e w4 ⟨rfl, hB⟩
                have hB4 := Lib.hid (S3.out.bel.trans (hB.mono S3.out.bel.size))
                clear S3 hB
                go_wp2
                go_ret
                exact ⟨rfl, hB4.out⟩
              · go_wp2_with fail
                refine (aw.out _ S3.out.bel).mono ?_
                rintro e w4 ⟨rfl, hB⟩
                have hB4 := Lib.hid (S3.out.bel.trans (hB.mono S3.out.bel.size))
                clear S3 hB
                go_wp2
                go_ret
                exact ⟨rfl, hB4.out⟩
            · clear hstp hqe hin
              go_wp2_with fail
              refine (aw.out _ S2.out.bel).mono ?_
              rintro e w3 ⟨rfl, hB⟩
              have hB4 := Lib.hid (S2.out.bel.trans (hB.mono S2.out.bel.size))
              clear S2 hB
              go_wp2
              go_ret
              exact ⟨rfl, hB4.out⟩
      · have g2 : (t.size : Int) ≤ (q : Int) := by omega
        rcases he with rfl | rfl
        · clear hq hp
          go_wp2_with fail
          refine (aw.out _ S2.out.bel).mono ?_
          rintro e w3 ⟨rfl, hB⟩
          have hB4 := Lib.hid (S2.out.bel.trans (hB.mono S2.out.bel.size))
          clear S2 hB
          go_wp2
          go_ret
          exact ⟨rfl, hB4.out⟩
        · clear hq hp
          go_wp2_with fail
          refine (aw.out _ S2.out.bel).mono ?_
          rintro e w3 ⟨rfl, hB⟩
          have hB4 := Lib.hid (S2.out.bel.trans (hB.mono S2.out.bel.size))
          clear S2 hB
          go_wp2
          go_ret
          exact ⟨rfl, hB4.out⟩
    · have e3 : ¬ er = 3 := fun h => he (.inl h)
      have e1 : ¬ er = 1 := fun h => he (.inr h)
      clear he
      go_wp2_with fail
      refine (aw.out _ S2.out.bel).mono ?_
      rintro e w3 ⟨rfl, hB⟩
      have hB4 := Lib.hid (S2.out.bel.trans (hB.mono S2.out.bel.size))
      clear S2 hB
      go_wp2
      go_ret
      exact ⟨rfl, hB4.out⟩
  · have g1 : 600 < (t.size : Int) := by omega
    clear h1
    go_enter Tryd.func3, Tryd.ntmps3
    go_wp2_with fail
    refine (awake_any w hb.out).mono ?_
    rintro e w1 ⟨rfl, hB⟩
    replace hB := Lib.hid hB
    go_wp2
    go_ret
    exact ⟨rfl, hB.out⟩
end Go.Proofs.YtjebpmjbdchdlaaDoor
