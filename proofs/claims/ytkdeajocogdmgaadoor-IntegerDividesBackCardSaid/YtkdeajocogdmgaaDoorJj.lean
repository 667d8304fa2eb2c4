/- The walk of the law IntegerDividesBack. -/
import Derived.Test.YtkdeajocogdmgaaDoorQJaz
namespace Go.Proofs.YtkdeajocogdmgaaDoor
open Go.RowKit

theorem Int.emod_lt_of_ne (x : Int) {y : Int} (h : y ≠ 0) : x % y < (y.natAbs : Int) := by
  rcases Int.lt_or_gt_of_ne h with h | h
  · rw [← Int.emod_neg]
    have := Int.emod_lt_of_pos x (b := -y) (by omega)
    omega
  · have := Int.emod_lt_of_pos x h
    omega

set_option maxHeartbeats 16000000 in
theorem lawI_div (b1 : Bool) (A1 : Option Addr) (n1 c1 : Nat) (xs : List Nat) (b2 : Bool) (A2 : Option Addr) (n2 c2 : Nat) (ys : List Nat) (w : World) (h1 : Rd w A1 n1 c1 xs) (m1 : n1 ≤ 9223372036854775807) (h2 : Rd w A2 n2 c2 ys) (m2 : n2 ≤ 9223372036854775807) (htab : Tab w) :
    Calls Tryd.prog 10 #[.agg #[.bool b1, .slice A1 n1 c1], .agg #[.bool b2, .slice A2 n2 c2]] w fun e w' => e = .returned (.bool true) ∧ Below w.heap.size w w' := by
  have X := B2.new w b1 A1 n1 c1 b2 A2 n2 c2
  have R1 := Lib.hid (h1.below X.bel)
  have R2 := Lib.hid (h2.below X.bel)
  have hT := Lib.hid (tab_below htab X.bel)
  have hf := fairI_any b1 A1 n1 c1 xs b2 A2 n2 c2 ys b1 A1 n1 c1 xs _ R1.out m1 R2.out m2 R1.out m1
  clear htab
  replace X := Lib.hid X
  cases hF : fairI n1 n2 n1 b1 xs b2 ys b1 xs
  · rw [hF] at hf
    replace hf := Lib.hid hf
    clear hF h1 h2 m1 m2 R1 R2
    go_enter Tryd.func10, Tryd.ntmps10
    go_wp2_with fail
    refine hf.out.mono ?_
    rintro e w1 ⟨rfl, bb⟩
    replace X := Lib.hid (X.out.on bb)
    replace hT := Lib.hid (tab_below hT.out bb)
    clear bb hf
    go_wp2_with fail
    refine (awakeI_any _ hT.out).mono ?_
    rintro e w2 ⟨rfl, bb⟩
    replace X := Lib.hid (X.out.on bb)
    clear bb
    go_wp2
    go_ret
    exact ⟨rfl, X.out.bel⟩
  rw [hF] at hf
  obtain ⟨l1, l2, _, v1, v2, _⟩ := fairI_yes hF
  obtain ⟨eb1, ex1⟩ := canon h1.sm v1
  obtain ⟨eb2, ex2⟩ := canon h2.sm v2
  clear hF v1 v2 m1 m2 h1 h2
  generalize iv b1 xs = x at eb1 ex1
  generalize iv b2 ys = y at eb2 ex2
  subst eb1 ex1 eb2 ex2
  replace hf := Lib.hid hf
  by_cases hn0 : n2 = 0
  · subst hn0
    clear R1 R2 l1 l2
    go_enter Tryd.func10, Tryd.ntmps10
    go_wp2_with fail
    refine hf.out.mono ?_
    rintro e w1 ⟨rfl, bb⟩
    replace X := Lib.hid (X.out.on bb)
    replace hT := Lib.hid (tab_below hT.out bb)
    obtain ⟨e2, e3, -⟩ := X.out.x2.at_
    clear bb hf
    go_wp2_with fail
    refine (awakeI_any _ hT.out).mono ?_
    rintro e w2 ⟨rfl, bb⟩
    replace X := Lib.hid (X.out.on bb)
    clear bb e2 e3
    go_wp2
    go_ret
    exact ⟨rfl, X.out.bel⟩
  have hz : y ≠ 0 := by
    rintro rfl
    have := R2.out.len
    rw [show (0 : Int).natAbs = 0 from rfl, limbs_zero] at this
    exact hn0 this.symm
  have hn : ((n2 : Int) == 0) = false := by rw [beq_eq_false_iff_ne]; omega
  replace hn0 := Lib.hid hn0
  have hD := fun W (h : Rd W A1 n1 c1 (limbs x.natAbs)) (h' : Rd W A2 n2 c2 (limbs y.natAbs)) => div_z x A1 n1 c1 y A2 n2 c2 W 10 h h' l1 l2 (by omega) hz
  have hC := fun W A n c (h : Rd W A n c (limbs (x % y).natAbs)) (h' : Rd W A2 n2 c2 (limbs y.natAbs)) (hn : n ≤ 10) => compare_z (x % y) A n c (y.natAbs : Int) A2 n2 c2 W (-1) h h' (by omega) (by omega) (cmpi_lt (Int.emod_lt_of_ne x hz))
  rw [show ng (y.natAbs : Int) = false from decide_eq_false (by omega)] at hC
  have hid : x / y * y + x % y = x := by rw [Int.mul_comm]; exact Int.mul_ediv_add_emod x y
  obtain ⟨sr, hsr⟩ : ∃ k, (x % y).sign = k := ⟨_, rfl⟩
  have hs0 : (0 : Int) ≤ sr := by
    rw [← hsr]
    rcases Int.lt_or_eq_of_le (Int.emod_nonneg x hz) with h | h
    · rw [Int.sign_eq_one_of_pos h]; omega
    · rw [← h]; exact Int.le_refl 0
  generalize x / y = q at hD hid
  generalize x % y = r at hD hid hC hsr
  replace hD := Lib.hid hD
  replace hC := Lib.hid hC
  replace hid := Lib.hid hid
  replace hsr := Lib.hid hsr
  clear hz
  go_enter Tryd.func10, Tryd.ntmps10
  go_wp2_with fail
  refine hf.out.mono ?_
  rintro e w1 ⟨rfl, bb⟩
  replace X := Lib.hid (X.out.on bb)
  replace R1 := Lib.hid (R1.out.below bb)
  replace R2 := Lib.hid (R2.out.below bb)
  replace hT := Lib.hid (tab_below hT.out bb)
  obtain ⟨e0, e1, -⟩ := X.out.x1.at_
  obtain ⟨e2, e3, -⟩ := X.out.x2.at_
  clear bb hf
  go_wp2_with fail
  refine (hD.out _ R1.out R2.out).mono ?_
  rintro e w4 ⟨A_q, n_q, c_q, A_r, n_r, c_r, rfl, R_q, R_r, bb, l_q, l_r⟩
  have X4 := X.out.on bb
  have D2 := B2.new w4 (ng q) A_q n_q c_q (ng r) A_r n_r c_r
  obtain ⟨u2, u3, -⟩ := (X4.on D2.bel).x2.at_
  clear D2
  have D := B3.new w4 (ng q) A_q n_q c_q (ng r) A_r n_r c_r false A2 n2 c2
  replace X := Lib.hid ((X4.on D.bel).drew)
  replace R1 := Lib.hid (Rd.drew1 ((R1.out.below bb).below D.bel))
  replace R2 := Lib.hid (Rd.drew1 ((R2.out.below bb).below D.bel))
  replace R_q := Lib.hid (Rd.drew1 (R_q.below D.bel))
  replace R_r := Lib.hid (Rd.drew1 (R_r.below D.bel))
  replace hT := Lib.hid (tab_drew (tab_below (tab_below hT.out bb) D.bel))
  replace D := Lib.hid D.drew
  clear bb e0 e1 e2 e3 X4
  go_wp2_with fail
  clear u2 u3
  obtain ⟨e0, e1, -⟩ := X.out.x1.at_
  obtain ⟨e2, e3, -⟩ := X.out.x2.at_
  obtain ⟨f0, f1, -⟩ := D.out.x1.at_
  obtain ⟨f2, f3, -⟩ := D.out.x2.at_
  obtain ⟨f4, f5, -⟩ := D.out.x3.at_
  go_region_held3 (fun w' => w'.cell? ⟨w.heap.size, 0, none⟩ = some (.bool (ng x)) ∧ w'.cell? ⟨w.heap.size, 1, none⟩ = some (.slice A1 n1 c1) ∧ w'.cell? ⟨w.heap.size + 1, 0, none⟩ = some (.bool (ng y)) ∧ w'.cell? ⟨w.heap.size + 1, 1, none⟩ = some (.slice A2 n2 c2) ∧ w'.cell? ⟨w4.heap.size, 0, none⟩ = some (.bool (ng q)) ∧ w'.cell? ⟨w4.heap.size, 1, none⟩ = some (.slice A_q n_q c_q) ∧ w'.cell? ⟨w4.heap.size + 1, 0, none⟩ = some (.bool (ng r)) ∧ w'.cell? ⟨w4.heap.size + 1, 1, none⟩ = some (.slice A_r n_r c_r) ∧ w'.cell? ⟨w4.heap.size + 1 + 1, 0, none⟩ = some (.bool false) ∧ w'.cell? ⟨w4.heap.size + 1 + 1, 1, none⟩ = some (.slice A2 n2 c2))
    (first | exact ⟨e0, e1, e2, e3, f0, f1, f2, f3, f4, f5⟩)
    (first
      | (go_at_call 21; refine (awakeI_any _ (by exact hT.out)).mono ?_; rintro e w11 ⟨rfl, bb⟩; replace X := Lib.hid (X.out.on bb); replace R1 := Lib.hid (R1.out.below bb); replace R2 := Lib.hid (R2.out.below bb); replace R_q := Lib.hid (R_q.out.below bb); replace R_r := Lib.hid (R_r.out.below bb); (try (replace R_qy := Lib.hid (R_qy.out.below bb))); (try (replace R_s := Lib.hid (R_s.out.below bb))); replace hT := Lib.hid (tab_below hT.out bb); clear e0 e1 e2 e3 f0 f1 f2 f3 f4 f5; obtain ⟨e0, e1, -⟩ := X.out.x1.at_; obtain ⟨e2, e3, -⟩ := X.out.x2.at_; replace D := Lib.hid (D.out.on bb); obtain ⟨f0, f1, -⟩ := D.out.x1.at_; obtain ⟨f2, f3, -⟩ := D.out.x2.at_; obtain ⟨f4, f5, -⟩ := D.out.x3.at_; clear bb)
      | (go_at_call_of 41 #[Value.agg #[.bool (ng (q)), .slice A_q n_q c_q], Value.agg #[.bool (ng (y)), .slice A2 n2 c2]]; refine (mul_z _ _ _ _ _ _ _ _ _ 11 (by exact R_q.out) (by exact R2.out) (by omega) (by omega) (by omega)).mono ?_; rintro e w12 ⟨A_qy, n_qy, c_qy, rfl, R_qy, bb, l_qy⟩; replace X := Lib.hid (X.out.on bb); replace R1 := Lib.hid (R1.out.below bb); replace R2 := Lib.hid (R2.out.below bb); replace R_q := Lib.hid (R_q.out.below bb); replace R_r := Lib.hid (R_r.out.below bb); (try (replace R_s := Lib.hid (R_s.out.below bb))); replace hT := Lib.hid (tab_below hT.out bb); clear e0 e1 e2 e3 f0 f1 f2 f3 f4 f5; obtain ⟨e0, e1, -⟩ := X.out.x1.at_; obtain ⟨e2, e3, -⟩ := X.out.x2.at_; replace D := Lib.hid (D.out.on bb); obtain ⟨f0, f1, -⟩ := D.out.x1.at_; obtain ⟨f2, f3, -⟩ := D.out.x2.at_; obtain ⟨f4, f5, -⟩ := D.out.x3.at_; clear bb; replace R_qy := Lib.hid R_qy)
      | (go_at_call_of 37 #[Value.agg #[.bool (ng ((q) * (y))), .slice A_qy n_qy c_qy], Value.agg #[.bool (ng (r)), .slice A_r n_r c_r]]; refine (add_z _ _ _ _ _ _ _ _ _ 22 (by exact R_qy.out) (by exact R_r.out) (by omega) (by omega) (by omega)).mono ?_; rintro e w13 ⟨A_s, n_s, c_s, rfl, R_s, bb, l_s⟩; replace X := Lib.hid (X.out.on bb); replace R1 := Lib.hid (R1.out.below bb); replace R2 := Lib.hid (R2.out.below bb); replace R_q := Lib.hid (R_q.out.below bb); replace R_r := Lib.hid (R_r.out.below bb); (try (replace R_qy := Lib.hid (R_qy.out.below bb))); replace hT := Lib.hid (tab_below hT.out bb); clear e0 e1 e2 e3 f0 f1 f2 f3 f4 f5; obtain ⟨e0, e1, -⟩ := X.out.x1.at_; obtain ⟨e2, e3, -⟩ := X.out.x2.at_; replace D := Lib.hid (D.out.on bb); obtain ⟨f0, f1, -⟩ := D.out.x1.at_; obtain ⟨f2, f3, -⟩ := D.out.x2.at_; obtain ⟨f4, f5, -⟩ := D.out.x3.at_; clear bb; replace R_s := Lib.hid R_s)
      | (go_at_call_of 26 #[Value.agg #[.bool (ng (((q) * (y)) + (r))), .slice A_s n_s c_s], Value.agg #[.bool (ng (x)), .slice A1 n1 c1]]; refine (same_z _ _ _ _ _ _ _ _ _ (by exact R_s.out) (by exact R1.out) (by omega) (hid.out)).mono ?_; rintro e w14 ⟨rfl, bb⟩; replace X := Lib.hid (X.out.on bb); replace R1 := Lib.hid (R1.out.below bb); replace R2 := Lib.hid (R2.out.below bb); replace R_q := Lib.hid (R_q.out.below bb); replace R_r := Lib.hid (R_r.out.below bb); (try (replace R_qy := Lib.hid (R_qy.out.below bb))); (try (replace R_s := Lib.hid (R_s.out.below bb))); replace hT := Lib.hid (tab_below hT.out bb); clear e0 e1 e2 e3 f0 f1 f2 f3 f4 f5; obtain ⟨e0, e1, -⟩ := X.out.x1.at_; obtain ⟨e2, e3, -⟩ := X.out.x2.at_; replace D := Lib.hid (D.out.on bb); obtain ⟨f0, f1, -⟩ := D.out.x1.at_; obtain ⟨f2, f3, -⟩ := D.out.x2.at_; obtain ⟨f4, f5, -⟩ := D.out.x3.at_; clear bb)
      | (go_at_call_of 29 #[Value.agg #[.bool (ng (r)), .slice A_r n_r c_r]]; refine (sign_z _ _ _ _ _ (sr) (by exact R_r.out) (by omega) (hsr.out)).mono ?_; rintro e w15 ⟨rfl, bb⟩; replace X := Lib.hid (X.out.on bb); replace R1 := Lib.hid (R1.out.below bb); replace R2 := Lib.hid (R2.out.below bb); replace R_q := Lib.hid (R_q.out.below bb); replace R_r := Lib.hid (R_r.out.below bb); (try (replace R_qy := Lib.hid (R_qy.out.below bb))); (try (replace R_s := Lib.hid (R_s.out.below bb))); replace hT := Lib.hid (tab_below hT.out bb); clear e0 e1 e2 e3 f0 f1 f2 f3 f4 f5; obtain ⟨e0, e1, -⟩ := X.out.x1.at_; obtain ⟨e2, e3, -⟩ := X.out.x2.at_; replace D := Lib.hid (D.out.on bb); obtain ⟨f0, f1, -⟩ := D.out.x1.at_; obtain ⟨f2, f3, -⟩ := D.out.x2.at_; obtain ⟨f4, f5, -⟩ := D.out.x3.at_; clear bb)
      | (go_at_call_of 33 #[Value.agg #[.bool (ng r), .slice A_r n_r c_r], Value.agg #[.bool false, .slice A2 n2 c2]]; refine (hC.out _ _ _ _ (by exact R_r.out) (by exact R2.out) (by omega)).mono ?_; rintro e w16 ⟨rfl, bb⟩; replace X := Lib.hid (X.out.on bb); replace R1 := Lib.hid (R1.out.below bb); replace R2 := Lib.hid (R2.out.below bb); replace R_q := Lib.hid (R_q.out.below bb); replace R_r := Lib.hid (R_r.out.below bb); (try (replace R_qy := Lib.hid (R_qy.out.below bb))); (try (replace R_s := Lib.hid (R_s.out.below bb))); replace hT := Lib.hid (tab_below hT.out bb); clear e0 e1 e2 e3 f0 f1 f2 f3 f4 f5; obtain ⟨e0, e1, -⟩ := X.out.x1.at_; obtain ⟨e2, e3, -⟩ := X.out.x2.at_; replace D := Lib.hid (D.out.on bb); obtain ⟨f0, f1, -⟩ := D.out.x1.at_; obtain ⟨f2, f3, -⟩ := D.out.x2.at_; obtain ⟨f4, f5, -⟩ := D.out.x3.at_; clear bb))
  all_goals
    have Bz := Lib.hid X.out.bel
    go_wp2
    go_ret
    exact ⟨rfl, Bz.out⟩
end Go.Proofs.YtkdeajocogdmgaaDoor
