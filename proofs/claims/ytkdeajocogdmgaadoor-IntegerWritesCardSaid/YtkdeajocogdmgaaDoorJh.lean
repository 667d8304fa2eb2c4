/- The walk of the law IntegerWrites. -/
import Derived.Test.YtkdeajocogdmgaaDoorQJaz
namespace Go.Proofs.YtkdeajocogdmgaaDoor
open Go.RowKit

set_option maxHeartbeats 16000000 in
theorem lawI_writes (b1 : Bool) (A1 : Option Addr) (n1 c1 : Nat) (xs : List Nat) (s : ByteArray) (w : World) (h1 : Rd w A1 n1 c1 xs) (m1 : n1 ≤ 9223372036854775807) (ms : s.size ≤ 9223372036854775807) (htab : Tab w) :
    Calls Tryd.prog 7 #[.agg #[.bool b1, .slice A1 n1 c1], .string s] w fun e w' => e = .returned (.bool true) ∧ Below w.heap.size w w' := by
  have X := Bx.new w b1 A1 n1 c1
  have Bw := (Below.refl w.heap.size w).alloc (Nat.le_refl _) (.cells #[.bool b1, .slice A1 n1 c1] 31)
  have R1 := Lib.hid (h1.below Bw)
  have hT := Lib.hid (tab_below htab Bw)
  have L1 := fun W => lightI_any b1 A1 n1 c1 W m1
  clear htab m1
  replace X := Lib.hid X
  replace Bw := Lib.hid Bw
  by_cases l1 : n1 ≤ 10
  case neg =>
    rw [decide_eq_false l1] at L1
    replace L1 := Lib.hid L1
    clear l1 h1 ms
    go_enter Tryd.func7, Tryd.ntmps7
    go_wp2_with fail
    refine (L1.out _).mono ?_
    rintro e w1 ⟨rfl, bb⟩
    replace X := Lib.hid (X.out.bel bb)
    replace Bw := Lib.hid (Bw.out.trans (bb.mono Bw.out.size))
    replace R1 := Lib.hid (R1.out.below bb)
    replace hT := Lib.hid (tab_below hT.out bb)
    clear bb
    (try clear e0 e1)
    obtain ⟨e0, e1, -⟩ := X.out.at_
    go_wp2_with fail
    refine (awakeI_any _ hT.out).mono ?_
    rintro e w8 ⟨rfl, bb⟩
    replace X := Lib.hid (X.out.bel bb)
    replace Bw := Lib.hid (Bw.out.trans (bb.mono Bw.out.size))
    replace R1 := Lib.hid (R1.out.below bb)
    replace hT := Lib.hid (tab_below hT.out bb)
    clear bb
    (try clear e0 e1)
    obtain ⟨e0, e1, -⟩ := X.out.at_
    go_wp2
    go_ret
    exact ⟨rfl, Bw.out⟩
  rw [decide_eq_true l1] at L1
  replace L1 := Lib.hid L1
  obtain hs | hs : (100 : Int) < s.size ∨ (s.size : Int) ≤ 100 := by omega
  case' inl =>
    clear l1 h1 ms
    go_enter Tryd.func7, Tryd.ntmps7
    go_wp2_with fail
    refine (L1.out _).mono ?_
    rintro e w1 ⟨rfl, bb⟩
    replace X := Lib.hid (X.out.bel bb)
    replace Bw := Lib.hid (Bw.out.trans (bb.mono Bw.out.size))
    replace R1 := Lib.hid (R1.out.below bb)
    replace hT := Lib.hid (tab_below hT.out bb)
    clear bb
    (try clear e0 e1)
    obtain ⟨e0, e1, -⟩ := X.out.at_
    go_wp2_with fail
    refine (awakeI_any _ hT.out).mono ?_
    rintro e w8 ⟨rfl, bb⟩
    replace X := Lib.hid (X.out.bel bb)
    replace Bw := Lib.hid (Bw.out.trans (bb.mono Bw.out.size))
    replace R1 := Lib.hid (R1.out.below bb)
    replace hT := Lib.hid (tab_below hT.out bb)
    clear bb
    (try clear e0 e1)
    obtain ⟨e0, e1, -⟩ := X.out.at_
    go_wp2
    go_ret
    exact ⟨rfl, Bw.out⟩
  have hF := fun W (h : Rd W A1 n1 c1 xs) (ht : Tab W) => formatI_any b1 A1 n1 c1 xs W h (by omega) ht
  have hF2 := fun W (h : Rd W A1 n1 c1 xs) => rformatI_any b1 A1 n1 c1 xs W h (by omega)
  have hP := fun W => parseI_any s W
  have hP2 := fun W => rparseI_any s W ms
  unfold RetP2 at hP hP2
  generalize itxt (iv b1 xs) = S at hF hF2
  generalize pval s = z at hP hP2
  generalize pok s = q at hP hP2
  replace hF := Lib.hid hF
  replace hF2 := Lib.hid hF2
  replace hP := Lib.hid hP
  replace hP2 := Lib.hid hP2
  clear h1 ms
  go_enter Tryd.func7, Tryd.ntmps7
  go_wp2_with fail
  refine (L1.out _).mono ?_
  rintro e w1 ⟨rfl, bb⟩
  replace X := Lib.hid (X.out.bel bb)
  replace Bw := Lib.hid (Bw.out.trans (bb.mono Bw.out.size))
  replace R1 := Lib.hid (R1.out.below bb)
  replace hT := Lib.hid (tab_below hT.out bb)
  clear bb
  (try clear e0 e1)
  obtain ⟨e0, e1, -⟩ := X.out.at_
  go_wp2_with fail
  refine (hP.out _).mono ?_
  rintro e w4 ⟨A_p, n_p, c_p, rfl, R_p, bb, l_p⟩
  have G1 := Bx.new w4 (ng z) A_p n_p c_p
  have b3 := (Below.refl w4.heap.size w4).alloc (Nat.le_refl _) (.cells #[.bool (ng z), .slice A_p n_p c_p] 31)
  replace R_p := Lib.hid (R_p.below b3)
  have b2 := bb.trans (b3.mono bb.size)
  clear bb b3
  have bb := b2
  clear b2
  replace X := Lib.hid (X.out.bel bb)
  replace Bw := Lib.hid (Bw.out.trans (bb.mono Bw.out.size))
  replace R1 := Lib.hid (R1.out.below bb)
  replace hT := Lib.hid (tab_below hT.out bb)
  replace G1 := Lib.hid G1
  clear bb
  (try clear e0 e1)
  obtain ⟨e0, e1, -⟩ := X.out.at_
  go_wp2_with fail
  refine (hP2.out _).mono ?_
  rintro e w5 ⟨A_q, n_q, c_q, rfl, R_q, bb, l_q⟩
  have G2 := Bx.new w5 (ng z) A_q n_q c_q
  have b3 := (Below.refl w5.heap.size w5).alloc (Nat.le_refl _) (.cells #[.bool (ng z), .slice A_q n_q c_q] 31)
  replace R_q := Lib.hid (R_q.below b3)
  have b2 := bb.trans (b3.mono bb.size)
  clear bb b3
  have bb := b2
  clear b2
  replace X := Lib.hid (X.out.bel bb)
  replace Bw := Lib.hid (Bw.out.trans (bb.mono Bw.out.size))
  replace R1 := Lib.hid (R1.out.below bb)
  replace R_p := Lib.hid (R_p.out.below bb)
  replace G1 := Lib.hid (G1.out.bel bb)
  replace hT := Lib.hid (tab_below hT.out bb)
  replace G2 := Lib.hid G2
  clear bb
  (try clear e0 e1)
  obtain ⟨e0, e1, -⟩ := X.out.at_
  replace X := Lib.hid (Bx.drew X.out)
  replace G1 := Lib.hid (Bx.drew G1.out)
  replace G2 := Lib.hid (Bx.drew G2.out)
  replace Bw := Lib.hid Bw.out.drew
  replace R1 := Lib.hid (Rd.drew1 R1.out)
  replace R_p := Lib.hid (Rd.drew1 R_p.out)
  replace R_q := Lib.hid (Rd.drew1 R_q.out)
  replace hT := Lib.hid (tab_drew hT.out)
  obtain ⟨f0, f1, -⟩ := G1.out.at_
  obtain ⟨g0, g1, -⟩ := G2.out.at_
  go_wp2_with fail
  go_region_held3 (fun w' => w'.cell? ⟨w.heap.size, 0, none⟩ = some (.bool b1) ∧ w'.cell? ⟨w.heap.size, 1, none⟩ = some (.slice A1 n1 c1) ∧ w'.cell? ⟨w4.heap.size, 0, none⟩ = some (.bool (ng z)) ∧ w'.cell? ⟨w4.heap.size, 1, none⟩ = some (.slice A_p n_p c_p) ∧ w'.cell? ⟨w5.heap.size, 0, none⟩ = some (.bool (ng z)) ∧ w'.cell? ⟨w5.heap.size, 1, none⟩ = some (.slice A_q n_q c_q))
    (first | exact ⟨e0, e1, f0, f1, g0, g1⟩)
    (first
      | (go_at_call 21; refine (awakeI_any _ (by exact hT.out)).mono ?_; rintro e w11 ⟨rfl, bb⟩; replace X := Lib.hid (X.out.bel bb); replace R1 := Lib.hid (R1.out.below bb); replace R_p := Lib.hid (R_p.out.below bb); replace R_q := Lib.hid (R_q.out.below bb); replace hT := Lib.hid (tab_below hT.out bb); replace Bw := Lib.hid (Bw.out.trans (bb.mono Bw.out.size)); clear e0 e1 f0 f1 g0 g1; obtain ⟨e0, e1, -⟩ := X.out.at_; replace G1 := Lib.hid (G1.out.bel bb); obtain ⟨f0, f1, -⟩ := G1.out.at_; replace G2 := Lib.hid (G2.out.bel bb); obtain ⟨g0, g1, -⟩ := G2.out.at_; clear bb)
      | (go_at_call_of 47 #[Value.agg #[.bool b1, .slice A1 n1 c1]]; refine (hF.out _ (by exact R1.out) (by exact hT.out)).mono ?_; rintro e w12 ⟨rfl, bb⟩; replace X := Lib.hid (X.out.bel bb); replace R1 := Lib.hid (R1.out.below bb); replace R_p := Lib.hid (R_p.out.below bb); replace R_q := Lib.hid (R_q.out.below bb); replace hT := Lib.hid (tab_below hT.out bb); replace Bw := Lib.hid (Bw.out.trans (bb.mono Bw.out.size)); clear e0 e1 f0 f1 g0 g1; obtain ⟨e0, e1, -⟩ := X.out.at_; replace G1 := Lib.hid (G1.out.bel bb); obtain ⟨f0, f1, -⟩ := G1.out.at_; replace G2 := Lib.hid (G2.out.bel bb); obtain ⟨g0, g1, -⟩ := G2.out.at_; clear bb)
      | (go_at_call_of 48 #[Value.agg #[.bool b1, .slice A1 n1 c1]]; refine (hF2.out _ (by exact R1.out)).mono ?_; rintro e w13 ⟨rfl, bb⟩; replace X := Lib.hid (X.out.bel bb); replace R1 := Lib.hid (R1.out.below bb); replace R_p := Lib.hid (R_p.out.below bb); replace R_q := Lib.hid (R_q.out.below bb); replace hT := Lib.hid (tab_below hT.out bb); replace Bw := Lib.hid (Bw.out.trans (bb.mono Bw.out.size)); clear e0 e1 f0 f1 g0 g1; obtain ⟨e0, e1, -⟩ := X.out.at_; replace G1 := Lib.hid (G1.out.bel bb); obtain ⟨f0, f1, -⟩ := G1.out.at_; replace G2 := Lib.hid (G2.out.bel bb); obtain ⟨g0, g1, -⟩ := G2.out.at_; clear bb)
      | (go_at_call_of 26 #[Value.agg #[.bool (ng (z)), .slice A_p n_p c_p], Value.agg #[.bool (ng (z)), .slice A_q n_q c_q]]; refine (same_z _ _ _ _ _ _ _ _ _ (by exact R_p.out) (by exact R_q.out) (by omega) (rfl)).mono ?_; rintro e w14 ⟨rfl, bb⟩; replace X := Lib.hid (X.out.bel bb); replace R1 := Lib.hid (R1.out.below bb); replace R_p := Lib.hid (R_p.out.below bb); replace R_q := Lib.hid (R_q.out.below bb); replace hT := Lib.hid (tab_below hT.out bb); replace Bw := Lib.hid (Bw.out.trans (bb.mono Bw.out.size)); clear e0 e1 f0 f1 g0 g1; obtain ⟨e0, e1, -⟩ := X.out.at_; replace G1 := Lib.hid (G1.out.bel bb); obtain ⟨f0, f1, -⟩ := G1.out.at_; replace G2 := Lib.hid (G2.out.bel bb); obtain ⟨g0, g1, -⟩ := G2.out.at_; clear bb))
  all_goals
    have Bz := Lib.hid Bw.out
    go_wp2
    go_ret
    exact ⟨by simp, Bz.out⟩
end Go.Proofs.YtkdeajocogdmgaaDoor
