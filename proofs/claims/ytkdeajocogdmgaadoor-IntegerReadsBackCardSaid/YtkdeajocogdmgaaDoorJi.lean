/- The walk of the law IntegerReadsBack. -/
import Derived.Test.YtkdeajocogdmgaaDoorQJaz
namespace Go.Proofs.YtkdeajocogdmgaaDoor
open Go.RowKit

theorem itxt_pos {x : Int} (h : ng x = false) : itxt x = txt x.natAbs := by unfold itxt; rw [h]; rfl
theorem itxt_neg {x : Int} (h : ng x = true) : itxt x = (⟨#[45]⟩ : ByteArray) ++ txt x.natAbs := by unfold itxt; rw [h]; rfl
theorem hm_txt (N : Nat) : hm (txt N) = false := by
  unfold hm Lib.hasPrefix
  rw [txt_list]
  cases hl : Lib.decDigits N with
  | nil => have := dec_all N; have h2 := Lib.decDigits_length N; rw [hl] at h2; have := Lib.nDigits_pos N; simp at h2; omega
  | cons c r =>
    have ha := (dec_all N).1
    rw [hl] at ha
    unfold allDig at ha
    rw [List.all_cons, Bool.and_eq_true] at ha
    have hc := ha.1
    unfold isDig at hc
    simp only [Bool.and_eq_true, decide_eq_true_eq] at hc
    have : c ≠ 45 := fun h => by rw [h] at hc; exact absurd hc.1 (by decide)
    simp [List.isPrefixOf]
    exact fun h => this h.symm
theorem hm_minus (T : ByteArray) : hm ((⟨#[45]⟩ : ByteArray) ++ T) = true ∧ rest ((⟨#[45]⟩ : ByteArray) ++ T) = T := by
  have hl : ((⟨#[45]⟩ : ByteArray) ++ T).data.toList = 45 :: T.data.toList := by rw [ByteArray.data_append]; simp
  have h1 : hm ((⟨#[45]⟩ : ByteArray) ++ T) = true := by unfold hm Lib.hasPrefix; rw [hl]; simp [List.isPrefixOf]
  refine ⟨h1, ?_⟩
  unfold rest Lib.trimPrefix
  unfold hm at h1
  rw [h1, hl]
  rfl
theorem pok_itxt {x : Int} {m : Nat} (hx : x.natAbs < 4294967296 ^ m) (hm' : m ≤ 100) : pok (itxt x) = true ∧ pval (itxt x) = x := by
  have hd := isDec_txt (N := x.natAbs) (by have := small_len hx hm'; omega)
  have hz := sg_ng x
  cases hg : ng x
  · rw [itxt_pos hg]
    have hp : pok (txt x.natAbs) = true := by unfold pok; rw [hm_no (hm_txt _), hd, hm_txt]; rfl
    refine ⟨hp, ?_⟩
    unfold pval
    rw [hp, if_pos rfl, hm_no (hm_txt _), hm_txt, dval_txt]
    rw [hg] at hz; exact hz
  · rw [itxt_neg hg]
    obtain ⟨e1, e2⟩ := hm_minus (txt x.natAbs)
    have hpos : (x.natAbs == 0) = false := by
      rw [beq_eq_false_iff_ne]
      unfold ng at hg
      rw [decide_eq_true_iff] at hg
      omega
    have hp : pok ((⟨#[45]⟩ : ByteArray) ++ txt x.natAbs) = true := by unfold pok; rw [e1, e2, hd, dval_txt, hpos]; rfl
    refine ⟨hp, ?_⟩
    unfold pval
    rw [hp, if_pos rfl, e1, e2, dval_txt]
    rw [hg] at hz; exact hz
theorem parse_itxt (x : Int) (m : Nat) (hx : x.natAbs < 4294967296 ^ m) (hm' : m ≤ 100) (w : World) :
    Calls Tryd.prog 45 #[.string (itxt x)] w fun e w' => ∃ A n c, e = .returned (.tuple #[.agg #[.bool (ng x), .slice A n c], .bool true]) ∧ Rd w' A n c (limbs x.natAbs) ∧ Below w.heap.size w w' ∧ n ≤ 445 := by
  have := parseI_any (itxt x) w
  unfold RetP2 at this
  rwa [(pok_itxt hx hm').1, (pok_itxt hx hm').2] at this

set_option maxHeartbeats 16000000 in
theorem lawI_reads (b1 : Bool) (A1 : Option Addr) (n1 c1 : Nat) (xs : List Nat) (v : Int) (w : World) (h1 : Rd w A1 n1 c1 xs) (m1 : n1 ≤ 9223372036854775807) (v0 : -9223372036854775808 ≤ v) (v1 : v ≤ 9223372036854775807) (htab : Tab w) :
    Calls Tryd.prog 11 #[.agg #[.bool b1, .slice A1 n1 c1], .int .i64 v] w fun e w' => e = .returned (.bool true) ∧ Below w.heap.size w w' := by
  have X := Bx.new w b1 A1 n1 c1
  have Bw := (Below.refl w.heap.size w).alloc (Nat.le_refl _) (.cells #[.bool b1, .slice A1 n1 c1] 31)
  have R1 := Lib.hid (h1.below Bw)
  have hT := Lib.hid (tab_below htab Bw)
  have L1 := fun W => lightI_any b1 A1 n1 c1 W m1
  clear htab m1
  replace X := Lib.hid X
  replace Bw := Lib.hid Bw
  by_cases l1 : n1 ≤ 10
  case neg =>
    rw [decide_eq_false l1] at L1
    replace L1 := Lib.hid L1
    clear l1 h1
    go_enter Tryd.func11, Tryd.ntmps11
    go_wp2_with fail
    refine (L1.out _).mono ?_
    rintro e w1 ⟨rfl, bb⟩
    replace X := Lib.hid (X.out.bel bb)
    replace Bw := Lib.hid (Bw.out.trans (bb.mono Bw.out.size))
    replace R1 := Lib.hid (R1.out.below bb)
    replace hT := Lib.hid (tab_below hT.out bb)
    clear bb
    (try clear e0 e1)
    obtain ⟨e0, e1, -⟩ := X.out.at_
    go_wp2_with fail
    refine (awakeI_any _ hT.out).mono ?_
    rintro e w8 ⟨rfl, bb⟩
    replace X := Lib.hid (X.out.bel bb)
    replace Bw := Lib.hid (Bw.out.trans (bb.mono Bw.out.size))
    replace R1 := Lib.hid (R1.out.below bb)
    replace hT := Lib.hid (tab_below hT.out bb)
    clear bb
    (try clear e0 e1)
    obtain ⟨e0, e1, -⟩ := X.out.at_
    go_wp2
    go_ret
    exact ⟨rfl, Bw.out⟩
  rw [decide_eq_true l1] at L1
  replace L1 := Lib.hid L1
  have V1 := fun W (h : Rd W A1 n1 c1 xs) => rvalidI_any b1 A1 n1 c1 xs W h (by omega)
  cases hv : vldI b1 xs
  · rw [hv] at V1
    replace V1 := Lib.hid V1
    clear hv l1 h1
    go_enter Tryd.func11, Tryd.ntmps11
    go_wp2_with fail
    refine (L1.out _).mono ?_
    rintro e w1 ⟨rfl, bb⟩
    replace X := Lib.hid (X.out.bel bb)
    replace Bw := Lib.hid (Bw.out.trans (bb.mono Bw.out.size))
    replace R1 := Lib.hid (R1.out.below bb)
    replace hT := Lib.hid (tab_below hT.out bb)
    clear bb
    (try clear e0 e1)
    obtain ⟨e0, e1, -⟩ := X.out.at_
    go_wp2_with fail
    refine (V1.out _ R1.out).mono ?_
    rintro e w2 ⟨rfl, bb⟩
    replace X := Lib.hid (X.out.bel bb)
    replace Bw := Lib.hid (Bw.out.trans (bb.mono Bw.out.size))
    replace R1 := Lib.hid (R1.out.below bb)
    replace hT := Lib.hid (tab_below hT.out bb)
    clear bb
    (try clear e0 e1)
    obtain ⟨e0, e1, -⟩ := X.out.at_
    go_wp2_with fail
    refine (awakeI_any _ hT.out).mono ?_
    rintro e w8 ⟨rfl, bb⟩
    replace X := Lib.hid (X.out.bel bb)
    replace Bw := Lib.hid (Bw.out.trans (bb.mono Bw.out.size))
    replace R1 := Lib.hid (R1.out.below bb)
    replace hT := Lib.hid (tab_below hT.out bb)
    clear bb
    (try clear e0 e1)
    obtain ⟨e0, e1, -⟩ := X.out.at_
    go_wp2
    go_ret
    exact ⟨rfl, Bw.out⟩
  rw [hv] at V1
  obtain ⟨eb1, ex1⟩ := canon h1.sm hv
  clear hv h1
  generalize iv b1 xs = x at eb1 ex1
  subst eb1 ex1
  have hxl := rd_lt R1.out l1
  have hF := fun W (h : Rd W A1 n1 c1 (limbs x.natAbs)) (ht : Tab W) => format_z x A1 n1 c1 W (itxt x) h (by omega) ht rfl
  have hP := fun W => parse_itxt x 10 hxl (by omega) W
  have hI := fun W (h : Rd W A1 n1 c1 (limbs x.natAbs)) => toInt_any (ng x) A1 n1 c1 (limbs x.natAbs) W h (by omega)
  rw [iv_z] at hI
  have hI2 := fun W A n c (h : Rd W A n c (limbs v.natAbs)) (hn : n ≤ 900) => toInt_any (ng v) A n c (limbs v.natAbs) W h (by omega)
  rw [iv_z, (tk_yes v0 v1).1, (tk_yes v0 v1).2] at hI2
  generalize itxt x = S at hF hP
  replace V1 := Lib.hid V1
  replace hF := Lib.hid hF
  replace hP := Lib.hid hP
  replace hI2 := Lib.hid hI2
  clear hxl
  by_cases hfit : -9223372036854775808 ≤ x ∧ x ≤ 9223372036854775807
  · obtain ⟨hx0, hx1⟩ := hfit
    rw [(tk_yes hx0 hx1).1, (tk_yes hx0 hx1).2] at hI
    replace hI := Lib.hid hI
    go_enter Tryd.func11, Tryd.ntmps11
    go_wp2_with fail
    refine (L1.out _).mono ?_
    rintro e w1 ⟨rfl, bb⟩
    replace X := Lib.hid (X.out.bel bb)
    replace Bw := Lib.hid (Bw.out.trans (bb.mono Bw.out.size))
    replace R1 := Lib.hid (R1.out.below bb)
    replace hT := Lib.hid (tab_below hT.out bb)
    clear bb
    (try clear e0 e1)
    obtain ⟨e0, e1, -⟩ := X.out.at_
    go_wp2_with fail
    refine (V1.out _ R1.out).mono ?_
    rintro e w2 ⟨rfl, bb⟩
    replace X := Lib.hid (X.out.bel bb)
    replace Bw := Lib.hid (Bw.out.trans (bb.mono Bw.out.size))
    replace R1 := Lib.hid (R1.out.below bb)
    replace hT := Lib.hid (tab_below hT.out bb)
    clear bb
    (try clear e0 e1)
    obtain ⟨e0, e1, -⟩ := X.out.at_
    go_wp2_with fail
    refine (fromInt_b v _ v0 v1).mono ?_
    rintro e w3 ⟨A_f, n_f, c_f, rfl, R_f, bb, l_f⟩
    replace X := Lib.hid (X.out.bel bb)
    replace Bw := Lib.hid (Bw.out.trans (bb.mono Bw.out.size))
    replace R1 := Lib.hid (R1.out.below bb)
    replace hT := Lib.hid (tab_below hT.out bb)
    replace R_f := Lib.hid R_f
    clear bb
    (try clear e0 e1)
    obtain ⟨e0, e1, -⟩ := X.out.at_
    go_wp2_with fail
    refine (hI2.out _ _ _ _ R_f.out (by omega)).mono ?_
    rintro e w4 ⟨rfl, bb⟩
    replace X := Lib.hid (X.out.bel bb)
    replace Bw := Lib.hid (Bw.out.trans (bb.mono Bw.out.size))
    replace R1 := Lib.hid (R1.out.below bb)
    replace hT := Lib.hid (tab_below hT.out bb)
    clear bb
    (try clear e0 e1)
    obtain ⟨e0, e1, -⟩ := X.out.at_
    go_wp2_with fail
    refine (hF.out _ R1.out hT.out).mono ?_
    rintro e w5 ⟨rfl, bb⟩
    replace X := Lib.hid (X.out.bel bb)
    replace Bw := Lib.hid (Bw.out.trans (bb.mono Bw.out.size))
    replace R1 := Lib.hid (R1.out.below bb)
    replace hT := Lib.hid (tab_below hT.out bb)
    clear bb
    (try clear e0 e1)
    obtain ⟨e0, e1, -⟩ := X.out.at_
    go_wp2_with fail
    refine (hP.out _).mono ?_
    rintro e w6 ⟨A_p, n_p, c_p, rfl, R_p, bb, l_p⟩
    have G1 := Bx.new w6 (ng x) A_p n_p c_p
    have b3 := (Below.refl w6.heap.size w6).alloc (Nat.le_refl _) (.cells #[.bool (ng x), .slice A_p n_p c_p] 31)
    replace R_p := Lib.hid (R_p.below b3)
    have b2 := bb.trans (b3.mono bb.size)
    clear bb b3
    have bb := b2
    clear b2
    replace X := Lib.hid (X.out.bel bb)
    replace Bw := Lib.hid (Bw.out.trans (bb.mono Bw.out.size))
    replace R1 := Lib.hid (R1.out.below bb)
    replace hT := Lib.hid (tab_below hT.out bb)
    replace G1 := Lib.hid G1
    clear bb
    (try clear e0 e1)
    obtain ⟨e0, e1, -⟩ := X.out.at_
    go_wp2_with fail
    refine (hI.out _ R1.out).mono ?_
    rintro e w7 ⟨rfl, bb⟩
    replace X := Lib.hid (X.out.bel bb)
    replace Bw := Lib.hid (Bw.out.trans (bb.mono Bw.out.size))
    replace R1 := Lib.hid (R1.out.below bb)
    replace R_p := Lib.hid (R_p.out.below bb)
    replace hT := Lib.hid (tab_below hT.out bb)
    replace G1 := Lib.hid (G1.out.bel bb)
    clear bb
    (try clear e0 e1)
    obtain ⟨e0, e1, -⟩ := X.out.at_
    replace X := Lib.hid (Bx.drew X.out)
    replace G1 := Lib.hid (Bx.drew G1.out)
    replace Bw := Lib.hid Bw.out.drew
    replace R1 := Lib.hid (Rd.drew1 R1.out)
    replace R_p := Lib.hid (Rd.drew1 R_p.out)
    replace hT := Lib.hid (tab_drew hT.out)
    go_wp2_with fail
    refine wp_region_held_drew (S := (fun w' => w'.cell? ⟨w.heap.size, 0, none⟩ = some (.bool (ng x)) ∧ w'.cell? ⟨w.heap.size, 1, none⟩ = some (.slice A1 n1 c1))) (by kernel_rfl) ?_ (fun hHeld => ?_)
    · exact ⟨e0, e1⟩
    refine wpAnyH_take (i := 0) (v := ?v0b) rfl (by kernel_rfl) (by kernel_rfl) (by kernel_rfl) (fun _ _ _ h => h) (Or.inl ⟨by kernel_rfl, ?h0b⟩) hHeld ?r0b
    case h0b => (intro w hSw; (try dsimp only at hSw); go_simp; try with_reducible rfl)
    refine wpAnyH_take (i := 1) (v := ?v1b) rfl (by kernel_rfl) (by kernel_rfl) (by kernel_rfl) (fun _ _ _ h => h) (Or.inl ⟨by kernel_rfl, ?h1b⟩) hHeld ?r1b
    case h1b => (intro w hSw; (try dsimp only at hSw); go_simp; try with_reducible rfl)
    refine wpAnyH_take (i := 2) (v := ?v2b) rfl (by kernel_rfl) (by kernel_rfl) (by kernel_rfl) (fun _ _ _ h => h) (Or.inl ⟨by kernel_rfl, ?h2b⟩) hHeld ?r2b
    case h2b => (intro w hSw; (try dsimp only at hSw); go_simp; try with_reducible rfl)
    refine wpAnyH_take (i := 4) (v := ?v4b) rfl (by kernel_rfl) (by kernel_rfl) (by kernel_rfl) (fun _ _ _ h => h) (Or.inl ⟨by kernel_rfl, ?h4b⟩) hHeld ?r4b
    case h4b => (intro w hSw; (try dsimp only at hSw); go_simp; try with_reducible rfl)
    refine wpAnyH_ready (rs := [3]) (by kernel_rfl) (by simp) ?_
    refine AllReadyH.cons rfl (fun K hK => ?_) AllReadyH.nil
    go_simp
    refine (fromInt_b x _ (by omega) (by omega)).mono ?_; rintro e w11 ⟨A_g, n_g, c_g, rfl, R_g, bb, l_g⟩; replace X := Lib.hid (X.out.bel bb); replace R1 := Lib.hid (R1.out.below bb); replace R_p := Lib.hid (R_p.out.below bb); replace hT := Lib.hid (tab_below hT.out bb); replace Bw := Lib.hid (Bw.out.trans (bb.mono Bw.out.size)); replace G1 := Lib.hid (G1.out.bel bb); clear e0 e1; obtain ⟨e0, e1, -⟩ := X.out.at_; clear bb; replace R_g := Lib.hid R_g
    refine hK.out _ _ ⟨e0, e1⟩ (fun hHeld => ?_)
    clear hK K
    refine wpAnyH_ready (rs := [5]) (by kernel_rfl) (by simp) ?_
    refine AllReadyH.cons rfl (fun K hK => ?_) AllReadyH.nil
    go_simp
    refine (same_z _ _ _ _ _ _ _ _ _ (by exact R_g.out) (by exact R1.out) (by omega) (rfl)).mono ?_; rintro e w12 ⟨rfl, bb⟩; replace X := Lib.hid (X.out.bel bb); replace R1 := Lib.hid (R1.out.below bb); replace R_p := Lib.hid (R_p.out.below bb); (try (replace R_g := Lib.hid (R_g.out.below bb))); replace hT := Lib.hid (tab_below hT.out bb); replace Bw := Lib.hid (Bw.out.trans (bb.mono Bw.out.size)); replace G1 := Lib.hid (G1.out.bel bb); clear e0 e1; obtain ⟨e0, e1, -⟩ := X.out.at_; clear bb
    refine hK.out _ _ ⟨e0, e1⟩ (fun hHeld => ?_)
    clear hK K
    refine wpAnyH_take (i := 6) (v := ?v6b) rfl (by kernel_rfl) (by kernel_rfl) (by kernel_rfl) (fun _ _ _ h => h) (Or.inl ⟨by kernel_rfl, ?h6b⟩) hHeld ?r6b
    case h6b => (intro w hSw; (try dsimp only at hSw); go_simp; try with_reducible rfl)
    refine wpAnyH_take (i := 7) (v := ?v7b) rfl (by kernel_rfl) (by kernel_rfl) (by kernel_rfl) (fun _ _ _ h => h) (Or.inl ⟨by kernel_rfl, ?h7b⟩) hHeld ?r7b
    case h7b => (intro w hSw; (try dsimp only at hSw); go_simp; try with_reducible rfl)
    refine wpAnyH_take (i := 8) (v := ?v8b) rfl (by kernel_rfl) (by kernel_rfl) (by kernel_rfl) (fun _ _ _ h => h) (Or.inl ⟨by kernel_rfl, ?h8b⟩) hHeld ?r8b
    case h8b => (intro w hSw; (try dsimp only at hSw); go_simp; try with_reducible rfl)
    refine wpAnyH_take (i := 9) (v := ?v9b) rfl (by kernel_rfl) (by kernel_rfl) (by kernel_rfl) (fun _ _ _ h => h) (Or.inl ⟨by kernel_rfl, ?h9b⟩) hHeld ?r9b
    case h9b => (intro w hSw; (try dsimp only at hSw); go_simp; try with_reducible rfl)
    refine wpAnyH_take (i := 10) (v := ?v10b) rfl (by kernel_rfl) (by kernel_rfl) (by kernel_rfl) (fun _ _ _ h => h) (Or.inl ⟨by kernel_rfl, ?h10b⟩) hHeld ?r10b
    case h10b => (intro w hSw; (try dsimp only at hSw); go_simp; try with_reducible rfl)
    refine wpAnyH_take (i := 11) (v := ?v11b) rfl (by kernel_rfl) (by kernel_rfl) (by kernel_rfl) (fun _ _ _ h => h) (Or.inl ⟨by kernel_rfl, ?h11b⟩) hHeld ?r11b
    case h11b => (intro w hSw; (try dsimp only at hSw); go_simp; try with_reducible rfl)
    refine wpAnyH_take (i := 12) (v := undef) rfl (by kernel_rfl) (by kernel_rfl) (by kernel_rfl) (fun _ _ _ h => h) (Or.inr ⟨by kernel_rfl, rfl⟩) hHeld ?_
    refine wpAnyH_ready (rs := [13]) (by kernel_rfl) (by simp) ?_
    refine AllReadyH.cons rfl (fun K hK => ?_) AllReadyH.nil
    rw [if_neg (Bool.eq_false_iff.1 (by kernel_rfl))]
    refine hK.out _ _ ⟨e0, e1⟩ (fun hHeld => ?_)
    clear hK K
    refine wpAnyH_ready (rs := [14]) (by kernel_rfl) (by simp) ?_
    refine AllReadyH.cons rfl (fun K hK => ?_) AllReadyH.nil
    rw [if_neg (Bool.eq_false_iff.1 (by kernel_rfl))]
    refine hK.out _ _ ⟨e0, e1⟩ (fun hHeld => ?_)
    clear hK K
    refine wpAnyH_take (i := 15) (v := undef) rfl (by kernel_rfl) (by kernel_rfl) (by kernel_rfl) (fun _ _ _ h => h) (Or.inr ⟨by kernel_rfl, rfl⟩) hHeld ?_
    refine wpAnyH_take (i := 16) (v := undef) rfl (by kernel_rfl) (by kernel_rfl) (by kernel_rfl) (fun _ _ _ h => h) (Or.inr ⟨by kernel_rfl, rfl⟩) hHeld ?_
    refine wpAnyH_take (i := 17) (v := undef) rfl (by kernel_rfl) (by kernel_rfl) (by kernel_rfl) (fun _ _ _ h => h) (Or.inr ⟨by kernel_rfl, rfl⟩) hHeld ?_
    refine wpAnyH_ready (rs := [18]) (by kernel_rfl) (by simp) ?_
    refine AllReadyH.cons rfl (fun K hK => ?_) AllReadyH.nil
    rw [if_neg (Bool.eq_false_iff.1 (by kernel_rfl))]
    refine hK.out _ _ ⟨e0, e1⟩ (fun hHeld => ?_)
    clear hK K
    refine wpAnyH_ready (rs := [19]) (by kernel_rfl) (by simp) ?_
    refine AllReadyH.cons rfl (fun K hK => ?_) AllReadyH.nil
    rw [if_neg (Bool.eq_false_iff.1 (by kernel_rfl))]
    refine hK.out _ _ ⟨e0, e1⟩ (fun hHeld => ?_)
    clear hK K
    refine wpAnyH_take (i := 20) (v := undef) rfl (by kernel_rfl) (by kernel_rfl) (by kernel_rfl) (fun _ _ _ h => h) (Or.inr ⟨by kernel_rfl, rfl⟩) hHeld ?_
    refine wpAnyH_take (i := 21) (v := undef) rfl (by kernel_rfl) (by kernel_rfl) (by kernel_rfl) (fun _ _ _ h => h) (Or.inr ⟨by kernel_rfl, rfl⟩) hHeld ?_
    refine wpAnyH_take (i := 22) (v := ?v22b) rfl (by kernel_rfl) (by kernel_rfl) (by kernel_rfl) (fun _ _ _ h => h) (Or.inl ⟨by kernel_rfl, ?h22b⟩) hHeld ?r22b
    case h22b => (intro w hSw; (try dsimp only at hSw); go_simp; try with_reducible rfl)
    refine wpAnyH_take (i := 23) (v := ?v23b) rfl (by kernel_rfl) (by kernel_rfl) (by kernel_rfl) (fun _ _ _ h => h) (Or.inl ⟨by kernel_rfl, ?h23b⟩) hHeld ?r23b
    case h23b => (intro w hSw; (try dsimp only at hSw); go_simp; try with_reducible rfl)
    refine wpAnyH_done (by kernel_rfl) ?_ _
    go_simp
    all_goals
      go_wp2_with fail
      refine (awakeI_any _ hT.out).mono ?_
      rintro e w9 ⟨rfl, bb⟩
      replace X := Lib.hid (X.out.bel bb)
      replace Bw := Lib.hid (Bw.out.trans (bb.mono Bw.out.size))
      replace R1 := Lib.hid (R1.out.below bb)
      replace R_p := Lib.hid (R_p.out.below bb)
      replace hT := Lib.hid (tab_below hT.out bb)
      replace G1 := Lib.hid (G1.out.bel bb)
      clear bb
      (try clear e0 e1)
      obtain ⟨e0, e1, -⟩ := X.out.at_
      obtain ⟨f0, f1, -⟩ := G1.out.at_
      go_wp2_with fail
      refine (same_z x _ _ _ x _ _ _ _ R1.out R_p.out (by omega) rfl).mono ?_
      rintro e w10 ⟨rfl, bb⟩
      replace X := Lib.hid (X.out.bel bb)
      replace Bw := Lib.hid (Bw.out.trans (bb.mono Bw.out.size))
      replace R1 := Lib.hid (R1.out.below bb)
      replace R_p := Lib.hid (R_p.out.below bb)
      replace hT := Lib.hid (tab_below hT.out bb)
      clear f0 f1
      clear bb
      (try clear e0 e1)
      obtain ⟨e0, e1, -⟩ := X.out.at_
      go_wp2
      go_ret
      exact ⟨rfl, Bw.out⟩
  · by_cases hbig : 9223372036854775807 < x
    · rw [(tk_no (.inr hbig)).1, (tk_no (.inr hbig)).2] at hI
      replace hI := Lib.hid hI
      replace hbig := Lib.hid hbig
      go_enter Tryd.func11, Tryd.ntmps11
      go_wp2_with fail
      refine (L1.out _).mono ?_
      rintro e w1 ⟨rfl, bb⟩
      replace X := Lib.hid (X.out.bel bb)
      replace Bw := Lib.hid (Bw.out.trans (bb.mono Bw.out.size))
      replace R1 := Lib.hid (R1.out.below bb)
      replace hT := Lib.hid (tab_below hT.out bb)
      clear bb
      (try clear e0 e1)
      obtain ⟨e0, e1, -⟩ := X.out.at_
      go_wp2_with fail
      refine (V1.out _ R1.out).mono ?_
      rintro e w2 ⟨rfl, bb⟩
      replace X := Lib.hid (X.out.bel bb)
      replace Bw := Lib.hid (Bw.out.trans (bb.mono Bw.out.size))
      replace R1 := Lib.hid (R1.out.below bb)
      replace hT := Lib.hid (tab_below hT.out bb)
      clear bb
      (try clear e0 e1)
      obtain ⟨e0, e1, -⟩ := X.out.at_
      go_wp2_with fail
      refine (fromInt_b v _ v0 v1).mono ?_
      rintro e w3 ⟨A_f, n_f, c_f, rfl, R_f, bb, l_f⟩
      replace X := Lib.hid (X.out.bel bb)
      replace Bw := Lib.hid (Bw.out.trans (bb.mono Bw.out.size))
      replace R1 := Lib.hid (R1.out.below bb)
      replace hT := Lib.hid (tab_below hT.out bb)
      replace R_f := Lib.hid R_f
      clear bb
      (try clear e0 e1)
      obtain ⟨e0, e1, -⟩ := X.out.at_
      go_wp2_with fail
      refine (hI2.out _ _ _ _ R_f.out (by omega)).mono ?_
      rintro e w4 ⟨rfl, bb⟩
      replace X := Lib.hid (X.out.bel bb)
      replace Bw := Lib.hid (Bw.out.trans (bb.mono Bw.out.size))
      replace R1 := Lib.hid (R1.out.below bb)
      replace hT := Lib.hid (tab_below hT.out bb)
      clear bb
      (try clear e0 e1)
      obtain ⟨e0, e1, -⟩ := X.out.at_
      go_wp2_with fail
      refine (hF.out _ R1.out hT.out).mono ?_
      rintro e w5 ⟨rfl, bb⟩
      replace X := Lib.hid (X.out.bel bb)
      replace Bw := Lib.hid (Bw.out.trans (bb.mono Bw.out.size))
      replace R1 := Lib.hid (R1.out.below bb)
      replace hT := Lib.hid (tab_below hT.out bb)
      clear bb
      (try clear e0 e1)
      obtain ⟨e0, e1, -⟩ := X.out.at_
      go_wp2_with fail
      refine (hP.out _).mono ?_
      rintro e w6 ⟨A_p, n_p, c_p, rfl, R_p, bb, l_p⟩
      have G1 := Bx.new w6 (ng x) A_p n_p c_p
      have b3 := (Below.refl w6.heap.size w6).alloc (Nat.le_refl _) (.cells #[.bool (ng x), .slice A_p n_p c_p] 31)
      replace R_p := Lib.hid (R_p.below b3)
      have b2 := bb.trans (b3.mono bb.size)
      clear bb b3
      have bb := b2
      clear b2
      replace X := Lib.hid (X.out.bel bb)
      replace Bw := Lib.hid (Bw.out.trans (bb.mono Bw.out.size))
      replace R1 := Lib.hid (R1.out.below bb)
      replace hT := Lib.hid (tab_below hT.out bb)
      replace G1 := Lib.hid G1
      clear bb
      (try clear e0 e1)
      obtain ⟨e0, e1, -⟩ := X.out.at_
      go_wp2_with fail
      refine (hI.out _ R1.out).mono ?_
      rintro e w7 ⟨rfl, bb⟩
      replace X := Lib.hid (X.out.bel bb)
      replace Bw := Lib.hid (Bw.out.trans (bb.mono Bw.out.size))
      replace R1 := Lib.hid (R1.out.below bb)
      replace R_p := Lib.hid (R_p.out.below bb)
      replace hT := Lib.hid (tab_below hT.out bb)
      replace G1 := Lib.hid (G1.out.bel bb)
      clear bb
      (try clear e0 e1)
      obtain ⟨e0, e1, -⟩ := X.out.at_
      replace X := Lib.hid (Bx.drew X.out)
      replace G1 := Lib.hid (Bx.drew G1.out)
      replace Bw := Lib.hid Bw.out.drew
      replace R1 := Lib.hid (Rd.drew1 R1.out)
      replace R_p := Lib.hid (Rd.drew1 R_p.out)
      replace hT := Lib.hid (tab_drew hT.out)
      go_wp2_with fail
      refine wp_region_held_drew (S := (fun w' => w'.cell? ⟨w.heap.size, 0, none⟩ = some (.bool (ng x)) ∧ w'.cell? ⟨w.heap.size, 1, none⟩ = some (.slice A1 n1 c1))) (by kernel_rfl) ?_ (fun hHeld => ?_)
      · exact ⟨e0, e1⟩
      refine wpAnyH_take (i := 0) (v := ?v0c) rfl (by kernel_rfl) (by kernel_rfl) (by kernel_rfl) (fun _ _ _ h => h) (Or.inl ⟨by kernel_rfl, ?h0c⟩) hHeld ?r0c
      case h0c => (intro w hSw; (try dsimp only at hSw); go_simp; try with_reducible rfl)
      refine wpAnyH_take (i := 1) (v := ?v1c) rfl (by kernel_rfl) (by kernel_rfl) (by kernel_rfl) (fun _ _ _ h => h) (Or.inl ⟨by kernel_rfl, ?h1c⟩) hHeld ?r1c
      case h1c => (intro w hSw; (try dsimp only at hSw); go_simp; try with_reducible rfl)
      refine wpAnyH_take (i := 2) (v := undef) rfl (by kernel_rfl) (by kernel_rfl) (by kernel_rfl) (fun _ _ _ h => h) (Or.inr ⟨by kernel_rfl, rfl⟩) hHeld ?_
      refine wpAnyH_take (i := 4) (v := undef) rfl (by kernel_rfl) (by kernel_rfl) (by kernel_rfl) (fun _ _ _ h => h) (Or.inr ⟨by kernel_rfl, rfl⟩) hHeld ?_
      refine wpAnyH_ready (rs := [3]) (by kernel_rfl) (by simp) ?_
      refine AllReadyH.cons rfl (fun K hK => ?_) AllReadyH.nil
      rw [if_neg (Bool.eq_false_iff.1 (by kernel_rfl))]
      refine hK.out _ _ ⟨e0, e1⟩ (fun hHeld => ?_)
      clear hK K
      refine wpAnyH_ready (rs := [5]) (by kernel_rfl) (by simp) ?_
      refine AllReadyH.cons rfl (fun K hK => ?_) AllReadyH.nil
      rw [if_neg (Bool.eq_false_iff.1 (by kernel_rfl))]
      refine hK.out _ _ ⟨e0, e1⟩ (fun hHeld => ?_)
      clear hK K
      refine wpAnyH_take (i := 6) (v := undef) rfl (by kernel_rfl) (by kernel_rfl) (by kernel_rfl) (fun _ _ _ h => h) (Or.inr ⟨by kernel_rfl, rfl⟩) hHeld ?_
      refine wpAnyH_take (i := 7) (v := ?v7c) rfl (by kernel_rfl) (by kernel_rfl) (by kernel_rfl) (fun _ _ _ h => h) (Or.inl ⟨by kernel_rfl, ?h7c⟩) hHeld ?r7c
      case h7c => (intro w hSw; (try dsimp only at hSw); go_simp; try with_reducible rfl)
      refine wpAnyH_take (i := 8) (v := ?v8c) rfl (by kernel_rfl) (by kernel_rfl) (by kernel_rfl) (fun _ _ _ h => h) (Or.inl ⟨by kernel_rfl, ?h8c⟩) hHeld ?r8c
      case h8c => (intro w hSw; (try dsimp only at hSw); go_simp; try with_reducible rfl)
      refine wpAnyH_take (i := 9) (v := ?v9c) rfl (by kernel_rfl) (by kernel_rfl) (by kernel_rfl) (fun _ _ _ h => h) (Or.inl ⟨by kernel_rfl, ?h9c⟩) hHeld ?r9c
      case h9c => (intro w hSw; (try dsimp only at hSw); go_simp; try with_reducible rfl)
      refine wpAnyH_take (i := 10) (v := ?v10c) rfl (by kernel_rfl) (by kernel_rfl) (by kernel_rfl) (fun _ _ _ h => h) (Or.inl ⟨by kernel_rfl, ?h10c⟩) hHeld ?r10c
      case h10c => (intro w hSw; (try dsimp only at hSw); go_simp; try with_reducible rfl)
      refine wpAnyH_take (i := 11) (v := ?v11c) rfl (by kernel_rfl) (by kernel_rfl) (by kernel_rfl) (fun _ _ _ h => h) (Or.inl ⟨by kernel_rfl, ?h11c⟩) hHeld ?r11c
      case h11c => (intro w hSw; (try dsimp only at hSw); go_simp; try with_reducible rfl)
      refine wpAnyH_take (i := 12) (v := ?v12c) rfl (by kernel_rfl) (by kernel_rfl) (by kernel_rfl) (fun _ _ _ h => h) (Or.inl ⟨by kernel_rfl, ?h12c⟩) hHeld ?r12c
      case h12c => (intro w hSw; (try dsimp only at hSw); go_simp; try with_reducible rfl)
      refine wpAnyH_ready (rs := [13]) (by kernel_rfl) (by simp) ?_
      refine AllReadyH.cons rfl (fun K hK => ?_) AllReadyH.nil
      go_simp
      refine (fromInt_b 9223372036854775807 _ (by omega) (by omega)).mono ?_; rintro e w11 ⟨A_g, n_g, c_g, rfl, R_g, bb, l_g⟩; replace X := Lib.hid (X.out.bel bb); replace R1 := Lib.hid (R1.out.below bb); replace R_p := Lib.hid (R_p.out.below bb); replace hT := Lib.hid (tab_below hT.out bb); replace Bw := Lib.hid (Bw.out.trans (bb.mono Bw.out.size)); replace G1 := Lib.hid (G1.out.bel bb); clear e0 e1; obtain ⟨e0, e1, -⟩ := X.out.at_; clear bb; replace R_g := Lib.hid R_g
      refine hK.out _ _ ⟨e0, e1⟩ (fun hHeld => ?_)
      clear hK K
      refine wpAnyH_ready (rs := [14]) (by kernel_rfl) (by simp) ?_
      refine AllReadyH.cons rfl (fun K hK => ?_) AllReadyH.nil
      go_simp
      refine (compare_z _ _ _ _ _ _ _ _ _ (1) (by exact R1.out) (by exact R_g.out) (by omega) (by omega) (cmpi_gt hbig.out)).mono ?_; rintro e w12 ⟨rfl, bb⟩; replace X := Lib.hid (X.out.bel bb); replace R1 := Lib.hid (R1.out.below bb); replace R_p := Lib.hid (R_p.out.below bb); (try (replace R_g := Lib.hid (R_g.out.below bb))); replace hT := Lib.hid (tab_below hT.out bb); replace Bw := Lib.hid (Bw.out.trans (bb.mono Bw.out.size)); replace G1 := Lib.hid (G1.out.bel bb); clear e0 e1; obtain ⟨e0, e1, -⟩ := X.out.at_; clear bb
      refine hK.out _ _ ⟨e0, e1⟩ (fun hHeld => ?_)
      clear hK K
      refine wpAnyH_take (i := 15) (v := ?v15c) rfl (by kernel_rfl) (by kernel_rfl) (by kernel_rfl) (fun _ _ _ h => h) (Or.inl ⟨by kernel_rfl, ?h15c⟩) hHeld ?r15c
      case h15c => (intro w hSw; (try dsimp only at hSw); go_simp; try with_reducible rfl)
      refine wpAnyH_take (i := 16) (v := ?v16c) rfl (by kernel_rfl) (by kernel_rfl) (by kernel_rfl) (fun _ _ _ h => h) (Or.inl ⟨by kernel_rfl, ?h16c⟩) hHeld ?r16c
      case h16c => (intro w hSw; (try dsimp only at hSw); go_simp; try with_reducible rfl)
      refine wpAnyH_take (i := 17) (v := undef) rfl (by kernel_rfl) (by kernel_rfl) (by kernel_rfl) (fun _ _ _ h => h) (Or.inr ⟨by kernel_rfl, rfl⟩) hHeld ?_
      refine wpAnyH_ready (rs := [18]) (by kernel_rfl) (by simp) ?_
      refine AllReadyH.cons rfl (fun K hK => ?_) AllReadyH.nil
      rw [if_neg (Bool.eq_false_iff.1 (by kernel_rfl))]
      refine hK.out _ _ ⟨e0, e1⟩ (fun hHeld => ?_)
      clear hK K
      refine wpAnyH_ready (rs := [19]) (by kernel_rfl) (by simp) ?_
      refine AllReadyH.cons rfl (fun K hK => ?_) AllReadyH.nil
      rw [if_neg (Bool.eq_false_iff.1 (by kernel_rfl))]
      refine hK.out _ _ ⟨e0, e1⟩ (fun hHeld => ?_)
      clear hK K
      refine wpAnyH_take (i := 20) (v := undef) rfl (by kernel_rfl) (by kernel_rfl) (by kernel_rfl) (fun _ _ _ h => h) (Or.inr ⟨by kernel_rfl, rfl⟩) hHeld ?_
      refine wpAnyH_take (i := 21) (v := ?v21c) rfl (by kernel_rfl) (by kernel_rfl) (by kernel_rfl) (fun _ _ _ h => h) (Or.inl ⟨by kernel_rfl, ?h21c⟩) hHeld ?r21c
      case h21c => (intro w hSw; (try dsimp only at hSw); go_simp; try with_reducible rfl)
      refine wpAnyH_take (i := 22) (v := ?v22c) rfl (by kernel_rfl) (by kernel_rfl) (by kernel_rfl) (fun _ _ _ h => h) (Or.inl ⟨by kernel_rfl, ?h22c⟩) hHeld ?r22c
      case h22c => (intro w hSw; (try dsimp only at hSw); go_simp; try with_reducible rfl)
      refine wpAnyH_take (i := 23) (v := ?v23c) rfl (by kernel_rfl) (by kernel_rfl) (by kernel_rfl) (fun _ _ _ h => h) (Or.inl ⟨by kernel_rfl, ?h23c⟩) hHeld ?r23c
      case h23c => (intro w hSw; (try dsimp only at hSw); go_simp; try with_reducible rfl)
      refine wpAnyH_done (by kernel_rfl) ?_ _
      go_simp
      all_goals
        go_wp2_with fail
        refine (awakeI_any _ hT.out).mono ?_
        rintro e w9 ⟨rfl, bb⟩
        replace X := Lib.hid (X.out.bel bb)
        replace Bw := Lib.hid (Bw.out.trans (bb.mono Bw.out.size))
        replace R1 := Lib.hid (R1.out.below bb)
        replace R_p := Lib.hid (R_p.out.below bb)
        replace hT := Lib.hid (tab_below hT.out bb)
        replace G1 := Lib.hid (G1.out.bel bb)
        clear bb
        (try clear e0 e1)
        obtain ⟨e0, e1, -⟩ := X.out.at_
        obtain ⟨f0, f1, -⟩ := G1.out.at_
        go_wp2_with fail
        refine (same_z x _ _ _ x _ _ _ _ R1.out R_p.out (by omega) rfl).mono ?_
        rintro e w10 ⟨rfl, bb⟩
        replace X := Lib.hid (X.out.bel bb)
        replace Bw := Lib.hid (Bw.out.trans (bb.mono Bw.out.size))
        replace R1 := Lib.hid (R1.out.below bb)
        replace R_p := Lib.hid (R_p.out.below bb)
        replace hT := Lib.hid (tab_below hT.out bb)
        clear f0 f1
        clear bb
        (try clear e0 e1)
        obtain ⟨e0, e1, -⟩ := X.out.at_
        go_wp2
        go_ret
        exact ⟨rfl, Bw.out⟩
    · have hsm : x < -9223372036854775808 := by omega
      clear hfit hbig
      rw [(tk_no (.inl hsm)).1, (tk_no (.inl hsm)).2] at hI
      replace hI := Lib.hid hI
      replace hsm := Lib.hid hsm
      go_enter Tryd.func11, Tryd.ntmps11
      go_wp2_with fail
      refine (L1.out _).mono ?_
      rintro e w1 ⟨rfl, bb⟩
      replace X := Lib.hid (X.out.bel bb)
      replace Bw := Lib.hid (Bw.out.trans (bb.mono Bw.out.size))
      replace R1 := Lib.hid (R1.out.below bb)
      replace hT := Lib.hid (tab_below hT.out bb)
      clear bb
      (try clear e0 e1)
      obtain ⟨e0, e1, -⟩ := X.out.at_
      go_wp2_with fail
      refine (V1.out _ R1.out).mono ?_
      rintro e w2 ⟨rfl, bb⟩
      replace X := Lib.hid (X.out.bel bb)
      replace Bw := Lib.hid (Bw.out.trans (bb.mono Bw.out.size))
      replace R1 := Lib.hid (R1.out.below bb)
      replace hT := Lib.hid (tab_below hT.out bb)
      clear bb
      (try clear e0 e1)
      obtain ⟨e0, e1, -⟩ := X.out.at_
      go_wp2_with fail
      refine (fromInt_b v _ v0 v1).mono ?_
      rintro e w3 ⟨A_f, n_f, c_f, rfl, R_f, bb, l_f⟩
      replace X := Lib.hid (X.out.bel bb)
      replace Bw := Lib.hid (Bw.out.trans (bb.mono Bw.out.size))
      replace R1 := Lib.hid (R1.out.below bb)
      replace hT := Lib.hid (tab_below hT.out bb)
      replace R_f := Lib.hid R_f
      clear bb
      (try clear e0 e1)
      obtain ⟨e0, e1, -⟩ := X.out.at_
      go_wp2_with fail
      refine (hI2.out _ _ _ _ R_f.out (by omega)).mono ?_
      rintro e w4 ⟨rfl, bb⟩
      replace X := Lib.hid (X.out.bel bb)
      replace Bw := Lib.hid (Bw.out.trans (bb.mono Bw.out.size))
      replace R1 := Lib.hid (R1.out.below bb)
      replace hT := Lib.hid (tab_below hT.out bb)
      clear bb
      (try clear e0 e1)
      obtain ⟨e0, e1, -⟩ := X.out.at_
      go_wp2_with fail
      refine (hF.out _ R1.out hT.out).mono ?_
      rintro e w5 ⟨rfl, bb⟩
      replace X := Lib.hid (X.out.bel bb)
      replace Bw := Lib.hid (Bw.out.trans (bb.mono Bw.out.size))
      replace R1 := Lib.hid (R1.out.below bb)
      replace hT := Lib.hid (tab_below hT.out bb)
      clear bb
      (try clear e0 e1)
      obtain ⟨e0, e1, -⟩ := X.out.at_
      go_wp2_with fail
      refine (hP.out _).mono ?_
      rintro e w6 ⟨A_p, n_p, c_p, rfl, R_p, bb, l_p⟩
      have G1 := Bx.new w6 (ng x) A_p n_p c_p
      have b3 := (Below.refl w6.heap.size w6).alloc (Nat.le_refl _) (.cells #[.bool (ng x), .slice A_p n_p c_p] 31)
      replace R_p := Lib.hid (R_p.below b3)
      have b2 := bb.trans (b3.mono bb.size)
      clear bb b3
      have bb := b2
      clear b2
      replace X := Lib.hid (X.out.bel bb)
      replace Bw := Lib.hid (Bw.out.trans (bb.mono Bw.out.size))
      replace R1 := Lib.hid (R1.out.below bb)
      replace hT := Lib.hid (tab_below hT.out bb)
      replace G1 := Lib.hid G1
      clear bb
      (try clear e0 e1)
      obtain ⟨e0, e1, -⟩ := X.out.at_
      go_wp2_with fail
      refine (hI.out _ R1.out).mono ?_
      rintro e w7 ⟨rfl, bb⟩
      replace X := Lib.hid (X.out.bel bb)
      replace Bw := Lib.hid (Bw.out.trans (bb.mono Bw.out.size))
      replace R1 := Lib.hid (R1.out.below bb)
      replace R_p := Lib.hid (R_p.out.below bb)
      replace hT := Lib.hid (tab_below hT.out bb)
      replace G1 := Lib.hid (G1.out.bel bb)
      clear bb
      (try clear e0 e1)
      obtain ⟨e0, e1, -⟩ := X.out.at_
      replace X := Lib.hid (Bx.drew X.out)
      replace G1 := Lib.hid (Bx.drew G1.out)
      replace Bw := Lib.hid Bw.out.drew
      replace R1 := Lib.hid (Rd.drew1 R1.out)
      replace R_p := Lib.hid (Rd.drew1 R_p.out)
      replace hT := Lib.hid (tab_drew hT.out)
      go_wp2_with fail
      refine wp_region_held_drew (S := (fun w' => w'.cell? ⟨w.heap.size, 0, none⟩ = some (.bool (ng x)) ∧ w'.cell? ⟨w.heap.size, 1, none⟩ = some (.slice A1 n1 c1))) (by kernel_rfl) ?_ (fun hHeld => ?_)
      · exact ⟨e0, e1⟩
      refine wpAnyH_take (i := 0) (v := ?v0d) rfl (by kernel_rfl) (by kernel_rfl) (by kernel_rfl) (fun _ _ _ h => h) (Or.inl ⟨by kernel_rfl, ?h0d⟩) hHeld ?r0d
      case h0d => (intro w hSw; (try dsimp only at hSw); go_simp; try with_reducible rfl)
      refine wpAnyH_take (i := 1) (v := ?v1d) rfl (by kernel_rfl) (by kernel_rfl) (by kernel_rfl) (fun _ _ _ h => h) (Or.inl ⟨by kernel_rfl, ?h1d⟩) hHeld ?r1d
      case h1d => (intro w hSw; (try dsimp only at hSw); go_simp; try with_reducible rfl)
      refine wpAnyH_take (i := 2) (v := undef) rfl (by kernel_rfl) (by kernel_rfl) (by kernel_rfl) (fun _ _ _ h => h) (Or.inr ⟨by kernel_rfl, rfl⟩) hHeld ?_
      refine wpAnyH_take (i := 4) (v := undef) rfl (by kernel_rfl) (by kernel_rfl) (by kernel_rfl) (fun _ _ _ h => h) (Or.inr ⟨by kernel_rfl, rfl⟩) hHeld ?_
      refine wpAnyH_ready (rs := [3]) (by kernel_rfl) (by simp) ?_
      refine AllReadyH.cons rfl (fun K hK => ?_) AllReadyH.nil
      rw [if_neg (Bool.eq_false_iff.1 (by kernel_rfl))]
      refine hK.out _ _ ⟨e0, e1⟩ (fun hHeld => ?_)
      clear hK K
      refine wpAnyH_ready (rs := [5]) (by kernel_rfl) (by simp) ?_
      refine AllReadyH.cons rfl (fun K hK => ?_) AllReadyH.nil
      rw [if_neg (Bool.eq_false_iff.1 (by kernel_rfl))]
      refine hK.out _ _ ⟨e0, e1⟩ (fun hHeld => ?_)
      clear hK K
      refine wpAnyH_take (i := 6) (v := undef) rfl (by kernel_rfl) (by kernel_rfl) (by kernel_rfl) (fun _ _ _ h => h) (Or.inr ⟨by kernel_rfl, rfl⟩) hHeld ?_
      refine wpAnyH_take (i := 7) (v := ?v7d) rfl (by kernel_rfl) (by kernel_rfl) (by kernel_rfl) (fun _ _ _ h => h) (Or.inl ⟨by kernel_rfl, ?h7d⟩) hHeld ?r7d
      case h7d => (intro w hSw; (try dsimp only at hSw); go_simp; try with_reducible rfl)
      refine wpAnyH_take (i := 8) (v := ?v8d) rfl (by kernel_rfl) (by kernel_rfl) (by kernel_rfl) (fun _ _ _ h => h) (Or.inl ⟨by kernel_rfl, ?h8d⟩) hHeld ?r8d
      case h8d => (intro w hSw; (try dsimp only at hSw); go_simp; try with_reducible rfl)
      refine wpAnyH_take (i := 9) (v := ?v9d) rfl (by kernel_rfl) (by kernel_rfl) (by kernel_rfl) (fun _ _ _ h => h) (Or.inl ⟨by kernel_rfl, ?h9d⟩) hHeld ?r9d
      case h9d => (intro w hSw; (try dsimp only at hSw); go_simp; try with_reducible rfl)
      refine wpAnyH_take (i := 10) (v := ?v10d) rfl (by kernel_rfl) (by kernel_rfl) (by kernel_rfl) (fun _ _ _ h => h) (Or.inl ⟨by kernel_rfl, ?h10d⟩) hHeld ?r10d
      case h10d => (intro w hSw; (try dsimp only at hSw); go_simp; try with_reducible rfl)
      refine wpAnyH_take (i := 11) (v := ?v11d) rfl (by kernel_rfl) (by kernel_rfl) (by kernel_rfl) (fun _ _ _ h => h) (Or.inl ⟨by kernel_rfl, ?h11d⟩) hHeld ?r11d
      case h11d => (intro w hSw; (try dsimp only at hSw); go_simp; try with_reducible rfl)
      refine wpAnyH_take (i := 12) (v := ?v12d) rfl (by kernel_rfl) (by kernel_rfl) (by kernel_rfl) (fun _ _ _ h => h) (Or.inl ⟨by kernel_rfl, ?h12d⟩) hHeld ?r12d
      case h12d => (intro w hSw; (try dsimp only at hSw); go_simp; try with_reducible rfl)
      refine wpAnyH_ready (rs := [13]) (by kernel_rfl) (by simp) ?_
      refine AllReadyH.cons rfl (fun K hK => ?_) AllReadyH.nil
      go_simp
      refine (fromInt_b 9223372036854775807 _ (by omega) (by omega)).mono ?_; rintro e w11 ⟨A_g, n_g, c_g, rfl, R_g, bb, l_g⟩; replace X := Lib.hid (X.out.bel bb); replace R1 := Lib.hid (R1.out.below bb); replace R_p := Lib.hid (R_p.out.below bb); (try (replace R_h := Lib.hid (R_h.out.below bb))); replace hT := Lib.hid (tab_below hT.out bb); replace Bw := Lib.hid (Bw.out.trans (bb.mono Bw.out.size)); replace G1 := Lib.hid (G1.out.bel bb); clear e0 e1; obtain ⟨e0, e1, -⟩ := X.out.at_; clear bb; replace R_g := Lib.hid R_g
      refine hK.out _ _ ⟨e0, e1⟩ (fun hHeld => ?_)
      clear hK K
      refine wpAnyH_ready (rs := [14]) (by kernel_rfl) (by simp) ?_
      refine AllReadyH.cons rfl (fun K hK => ?_) AllReadyH.nil
      go_simp
      refine (compare_z _ _ _ _ _ _ _ _ _ (-1) (by exact R1.out) (by exact R_g.out) (by omega) (by omega) (cmpi_lt (by have := hsm.out; omega))).mono ?_; rintro e w12 ⟨rfl, bb⟩; replace X := Lib.hid (X.out.bel bb); replace R1 := Lib.hid (R1.out.below bb); replace R_p := Lib.hid (R_p.out.below bb); (try (replace R_g := Lib.hid (R_g.out.below bb))); (try (replace R_h := Lib.hid (R_h.out.below bb))); replace hT := Lib.hid (tab_below hT.out bb); replace Bw := Lib.hid (Bw.out.trans (bb.mono Bw.out.size)); replace G1 := Lib.hid (G1.out.bel bb); clear e0 e1; obtain ⟨e0, e1, -⟩ := X.out.at_; clear bb
      refine hK.out _ _ ⟨e0, e1⟩ (fun hHeld => ?_)
      clear hK K
      refine wpAnyH_take (i := 15) (v := ?v15d) rfl (by kernel_rfl) (by kernel_rfl) (by kernel_rfl) (fun _ _ _ h => h) (Or.inl ⟨by kernel_rfl, ?h15d⟩) hHeld ?r15d
      case h15d => (intro w hSw; (try dsimp only at hSw); go_simp; try with_reducible rfl)
      refine wpAnyH_take (i := 16) (v := ?v16d) rfl (by kernel_rfl) (by kernel_rfl) (by kernel_rfl) (fun _ _ _ h => h) (Or.inl ⟨by kernel_rfl, ?h16d⟩) hHeld ?r16d
      case h16d => (intro w hSw; (try dsimp only at hSw); go_simp; try with_reducible rfl)
      refine wpAnyH_take (i := 17) (v := ?v17d) rfl (by kernel_rfl) (by kernel_rfl) (by kernel_rfl) (fun _ _ _ h => h) (Or.inl ⟨by kernel_rfl, ?h17d⟩) hHeld ?r17d
      case h17d => (intro w hSw; (try dsimp only at hSw); go_simp; try with_reducible rfl)
      refine wpAnyH_ready (rs := [18]) (by kernel_rfl) (by simp) ?_
      refine AllReadyH.cons rfl (fun K hK => ?_) AllReadyH.nil
      go_simp
      refine (fromInt_b (-9223372036854775808) _ (by omega) (by omega)).mono ?_; rintro e w13 ⟨A_h, n_h, c_h, rfl, R_h, bb, l_h⟩; replace X := Lib.hid (X.out.bel bb); replace R1 := Lib.hid (R1.out.below bb); replace R_p := Lib.hid (R_p.out.below bb); (try (replace R_g := Lib.hid (R_g.out.below bb))); replace hT := Lib.hid (tab_below hT.out bb); replace Bw := Lib.hid (Bw.out.trans (bb.mono Bw.out.size)); replace G1 := Lib.hid (G1.out.bel bb); clear e0 e1; obtain ⟨e0, e1, -⟩ := X.out.at_; clear bb; replace R_h := Lib.hid R_h
      refine hK.out _ _ ⟨e0, e1⟩ (fun hHeld => ?_)
      clear hK K
      refine wpAnyH_ready (rs := [19]) (by kernel_rfl) (by simp) ?_
      refine AllReadyH.cons rfl (fun K hK => ?_) AllReadyH.nil
      go_simp
      refine (compare_z _ _ _ _ _ _ _ _ _ (-1) (by exact R1.out) (by exact R_h.out) (by omega) (by omega) (cmpi_lt hsm.out)).mono ?_; rintro e w14 ⟨rfl, bb⟩; replace X := Lib.hid (X.out.bel bb); replace R1 := Lib.hid (R1.out.below bb); replace R_p := Lib.hid (R_p.out.below bb); (try (replace R_g := Lib.hid (R_g.out.below bb))); (try (replace R_h := Lib.hid (R_h.out.below bb))); replace hT := Lib.hid (tab_below hT.out bb); replace Bw := Lib.hid (Bw.out.trans (bb.mono Bw.out.size)); replace G1 := Lib.hid (G1.out.bel bb); clear e0 e1; obtain ⟨e0, e1, -⟩ := X.out.at_; clear bb
      refine hK.out _ _ ⟨e0, e1⟩ (fun hHeld => ?_)
      clear hK K
      refine wpAnyH_take (i := 20) (v := ?v20d) rfl (by kernel_rfl) (by kernel_rfl) (by kernel_rfl) (fun _ _ _ h => h) (Or.inl ⟨by kernel_rfl, ?h20d⟩) hHeld ?r20d
      case h20d => (intro w hSw; (try dsimp only at hSw); go_simp; try with_reducible rfl)
      refine wpAnyH_take (i := 21) (v := ?v21d) rfl (by kernel_rfl) (by kernel_rfl) (by kernel_rfl) (fun _ _ _ h => h) (Or.inl ⟨by kernel_rfl, ?h21d⟩) hHeld ?r21d
      case h21d => (intro w hSw; (try dsimp only at hSw); go_simp; try with_reducible rfl)
      refine wpAnyH_take (i := 22) (v := ?v22d) rfl (by kernel_rfl) (by kernel_rfl) (by kernel_rfl) (fun _ _ _ h => h) (Or.inl ⟨by kernel_rfl, ?h22d⟩) hHeld ?r22d
      case h22d => (intro w hSw; (try dsimp only at hSw); go_simp; try with_reducible rfl)
      refine wpAnyH_take (i := 23) (v := ?v23d) rfl (by kernel_rfl) (by kernel_rfl) (by kernel_rfl) (fun _ _ _ h => h) (Or.inl ⟨by kernel_rfl, ?h23d⟩) hHeld ?r23d
      case h23d => (intro w hSw; (try dsimp only at hSw); go_simp; try with_reducible rfl)
      refine wpAnyH_done (by kernel_rfl) ?_ _
      go_simp
      all_goals
        go_wp2_with fail
        refine (awakeI_any _ hT.out).mono ?_
        rintro e w9 ⟨rfl, bb⟩
        replace X := Lib.hid (X.out.bel bb)
        replace Bw := Lib.hid (Bw.out.trans (bb.mono Bw.out.size))
        replace R1 := Lib.hid (R1.out.below bb)
        replace R_p := Lib.hid (R_p.out.below bb)
        replace hT := Lib.hid (tab_below hT.out bb)
        replace G1 := Lib.hid (G1.out.bel bb)
        clear bb
        (try clear e0 e1)
        obtain ⟨e0, e1, -⟩ := X.out.at_
        obtain ⟨f0, f1, -⟩ := G1.out.at_
        go_wp2_with fail
        refine (same_z x _ _ _ x _ _ _ _ R1.out R_p.out (by omega) rfl).mono ?_
        rintro e w10 ⟨rfl, bb⟩
        replace X := Lib.hid (X.out.bel bb)
        replace Bw := Lib.hid (Bw.out.trans (bb.mono Bw.out.size))
        replace R1 := Lib.hid (R1.out.below bb)
        replace R_p := Lib.hid (R_p.out.below bb)
        replace hT := Lib.hid (tab_below hT.out bb)
        clear f0 f1
        clear bb
        (try clear e0 e1)
        obtain ⟨e0, e1, -⟩ := X.out.at_
        go_wp2
        go_ret
        exact ⟨rfl, Bw.out⟩
end Go.Proofs.YtkdeajocogdmgaaDoor
