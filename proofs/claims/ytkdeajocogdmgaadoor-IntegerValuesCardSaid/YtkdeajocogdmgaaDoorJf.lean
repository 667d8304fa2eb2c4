/- The walk of the law IntegerValues. -/
import Derived.Test.YtkdeajocogdmgaaDoorQJaz
namespace Go.Proofs.YtkdeajocogdmgaaDoor
open Go.RowKit

set_option maxHeartbeats 16000000 in
theorem lawI_values (b1 : Bool) (A1 : Option Addr) (n1 c1 : Nat) (xs : List Nat) (b2 : Bool) (A2 : Option Addr) (n2 c2 : Nat) (ys : List Nat) (v : Int) (w : World) (h1 : Rd w A1 n1 c1 xs) (m1 : n1 ≤ 9223372036854775807) (h2 : Rd w A2 n2 c2 ys) (m2 : n2 ≤ 9223372036854775807) (v0 : -9223372036854775808 ≤ v) (v1 : v ≤ 9223372036854775807) (htab : Tab w) :
    Calls Tryd.prog 5 #[.agg #[.bool b1, .slice A1 n1 c1], .agg #[.bool b2, .slice A2 n2 c2], .int .i64 v] w fun e w' => e = .returned (.bool true) ∧ Below w.heap.size w w' := by
  have X := B2.new w b1 A1 n1 c1 b2 A2 n2 c2
  have R1 := Lib.hid (h1.below X.bel)
  have R2 := Lib.hid (h2.below X.bel)
  have hT := Lib.hid (tab_below htab X.bel)
  have L1 := fun W => lightI_any b1 A1 n1 c1 W m1
  have L2 := fun W => lightI_any b2 A2 n2 c2 W m2
  clear htab m1 m2
  replace X := Lib.hid X
  by_cases l1 : n1 ≤ 10
  case neg =>
    rw [decide_eq_false l1] at L1
    replace L1 := Lib.hid L1
    clear l1 h1 h2
    go_enter Tryd.func5, Tryd.ntmps5
    go_wp2_with fail
    refine (L1.out _).mono ?_
    rintro e w1 ⟨rfl, bb⟩
    replace X := Lib.hid (X.out.on bb)
    replace R1 := Lib.hid (R1.out.below bb)
    replace R2 := Lib.hid (R2.out.below bb)
    replace hT := Lib.hid (tab_below hT.out bb)
    clear bb
    try clear e0 e1 e2 e3
    obtain ⟨e0, e1, -⟩ := X.out.x1.at_
    obtain ⟨e2, e3, -⟩ := X.out.x2.at_
    go_wp2_with fail
    refine (awakeI_any _ hT.out).mono ?_
    rintro e w8 ⟨rfl, bb⟩
    replace X := Lib.hid (X.out.on bb)
    clear bb
    go_wp2
    go_ret
    exact ⟨rfl, X.out.bel⟩
  rw [decide_eq_true l1] at L1
  replace L1 := Lib.hid L1
  by_cases l2 : n2 ≤ 10
  case neg =>
    rw [decide_eq_false l2] at L2
    replace L2 := Lib.hid L2
    clear l1 l2 h1 h2
    go_enter Tryd.func5, Tryd.ntmps5
    go_wp2_with fail
    refine (L1.out _).mono ?_
    rintro e w1 ⟨rfl, bb⟩
    replace X := Lib.hid (X.out.on bb)
    replace R1 := Lib.hid (R1.out.below bb)
    replace R2 := Lib.hid (R2.out.below bb)
    replace hT := Lib.hid (tab_below hT.out bb)
    clear bb
    try clear e0 e1 e2 e3
    obtain ⟨e0, e1, -⟩ := X.out.x1.at_
    obtain ⟨e2, e3, -⟩ := X.out.x2.at_
    go_wp2_with fail
    refine (L2.out _).mono ?_
    rintro e w2 ⟨rfl, bb⟩
    replace X := Lib.hid (X.out.on bb)
    replace R1 := Lib.hid (R1.out.below bb)
    replace R2 := Lib.hid (R2.out.below bb)
    replace hT := Lib.hid (tab_below hT.out bb)
    clear bb
    try clear e0 e1 e2 e3
    obtain ⟨e0, e1, -⟩ := X.out.x1.at_
    obtain ⟨e2, e3, -⟩ := X.out.x2.at_
    go_wp2_with fail
    refine (awakeI_any _ hT.out).mono ?_
    rintro e w8 ⟨rfl, bb⟩
    replace X := Lib.hid (X.out.on bb)
    clear bb
    go_wp2
    go_ret
    exact ⟨rfl, X.out.bel⟩
  rw [decide_eq_true l2] at L2
  replace L2 := Lib.hid L2
  have hV := fun W (h : Rd W A1 n1 c1 xs) => validI_any b1 A1 n1 c1 xs W h (by omega)
  have hW := fun W (h : Rd W A1 n1 c1 xs) => rvalidI_any b1 A1 n1 c1 xs W h (by omega)
  have hS := fun W (h : Rd W A1 n1 c1 xs) => signI_any b1 A1 n1 c1 xs W h (by omega)
  have hS2 := fun W (h : Rd W A1 n1 c1 xs) => rsignI_any b1 A1 n1 c1 xs W h (by omega)
  have hN := fun W (h : Rd W A1 n1 c1 xs) => neg_r b1 A1 n1 c1 xs W 10 h l1 (by omega)
  have hN2 := fun W (h : Rd W A1 n1 c1 xs) => rneg_r b1 A1 n1 c1 xs W 10 h l1 (by omega)
  have hC := fun W (h : Rd W A1 n1 c1 xs) (h' : Rd W A2 n2 c2 ys) => compareI_any b1 A1 n1 c1 xs b2 A2 n2 c2 ys W h h' (by omega) (by omega)
  have hC2 := fun W (h : Rd W A1 n1 c1 xs) (h' : Rd W A2 n2 c2 ys) => rcompareI_any b1 A1 n1 c1 xs b2 A2 n2 c2 ys W h h' (by omega) (by omega)
  have hI := fun W (h : Rd W A1 n1 c1 xs) => toInt_any b1 A1 n1 c1 xs W h (by omega)
  have hI2 := fun W (h : Rd W A1 n1 c1 xs) => rtoInt_any b1 A1 n1 c1 xs W h (by omega)
  generalize vldI b1 xs = qv at hV hW
  generalize -(iv b1 xs) = mx at hN hN2
  generalize (iv b1 xs).sign = sx at hS hS2
  generalize cmpi (iv b1 xs) (iv b2 ys) = kc at hC hC2
  generalize ti (iv b1 xs) = ta at hI hI2
  generalize tk (iv b1 xs) = tq at hI hI2
  replace hV := Lib.hid hV
  replace hW := Lib.hid hW
  replace hS := Lib.hid hS
  replace hS2 := Lib.hid hS2
  replace hN := Lib.hid hN
  replace hN2 := Lib.hid hN2
  replace hC := Lib.hid hC
  replace hC2 := Lib.hid hC2
  replace hI := Lib.hid hI
  replace hI2 := Lib.hid hI2
  clear h1 h2
  go_enter Tryd.func5, Tryd.ntmps5
  go_wp2_with fail
  refine (L1.out _).mono ?_
  rintro e w1 ⟨rfl, bb⟩
  replace X := Lib.hid (X.out.on bb)
  replace R1 := Lib.hid (R1.out.below bb)
  replace R2 := Lib.hid (R2.out.below bb)
  replace hT := Lib.hid (tab_below hT.out bb)
  clear bb
  try clear e0 e1 e2 e3
  obtain ⟨e0, e1, -⟩ := X.out.x1.at_
  obtain ⟨e2, e3, -⟩ := X.out.x2.at_
  go_wp2_with fail
  refine (L2.out _).mono ?_
  rintro e w2 ⟨rfl, bb⟩
  replace X := Lib.hid (X.out.on bb)
  replace R1 := Lib.hid (R1.out.below bb)
  replace R2 := Lib.hid (R2.out.below bb)
  replace hT := Lib.hid (tab_below hT.out bb)
  clear bb
  try clear e0 e1 e2 e3
  obtain ⟨e0, e1, -⟩ := X.out.x1.at_
  obtain ⟨e2, e3, -⟩ := X.out.x2.at_
  go_wp2_with fail
  refine (hI.out _ R1.out).mono ?_
  rintro e w4 ⟨rfl, bb⟩
  replace X := Lib.hid (X.out.on bb)
  replace R1 := Lib.hid (R1.out.below bb)
  replace R2 := Lib.hid (R2.out.below bb)
  replace hT := Lib.hid (tab_below hT.out bb)
  clear bb e0 e1 e2 e3
  obtain ⟨e0, e1, -⟩ := X.out.x1.at_
  obtain ⟨e2, e3, -⟩ := X.out.x2.at_
  go_wp2_with fail
  refine (hI2.out _ R1.out).mono ?_
  rintro e w5 ⟨rfl, bb⟩
  replace X := Lib.hid (X.out.on bb)
  replace R1 := Lib.hid (R1.out.below bb)
  replace R2 := Lib.hid (R2.out.below bb)
  replace hT := Lib.hid (tab_below hT.out bb)
  clear bb e0 e1 e2 e3
  obtain ⟨e0, e1, -⟩ := X.out.x1.at_
  obtain ⟨e2, e3, -⟩ := X.out.x2.at_
  replace X := Lib.hid X.out.drew
  replace R1 := Lib.hid (Rd.drew1 R1.out)
  replace R2 := Lib.hid (Rd.drew1 R2.out)
  replace hT := Lib.hid (tab_drew hT.out)
  go_wp2_with fail
  go_region_held3 (fun w' => w'.cell? ⟨w.heap.size, 0, none⟩ = some (.bool b1) ∧ w'.cell? ⟨w.heap.size, 1, none⟩ = some (.slice A1 n1 c1) ∧ w'.cell? ⟨w.heap.size + 1, 0, none⟩ = some (.bool b2) ∧ w'.cell? ⟨w.heap.size + 1, 1, none⟩ = some (.slice A2 n2 c2))
    (first | exact ⟨e0, e1, e2, e3⟩)
    (first
      | (go_at_call 21; refine (awakeI_any _ (by exact hT.out)).mono ?_; rintro e w11 ⟨rfl, bb⟩; replace X := Lib.hid (X.out.on bb); replace R1 := Lib.hid (R1.out.below bb); replace R2 := Lib.hid (R2.out.below bb); (try (replace R_f := Lib.hid (R_f.out.below bb))); (try (replace R_g := Lib.hid (R_g.out.below bb))); (try (replace R_i := Lib.hid (R_i.out.below bb))); (try (replace R_j := Lib.hid (R_j.out.below bb))); replace hT := Lib.hid (tab_below hT.out bb); clear e0 e1 e2 e3; obtain ⟨e0, e1, -⟩ := X.out.x1.at_; obtain ⟨e2, e3, -⟩ := X.out.x2.at_; clear bb)
      | (go_at_call_of 24 #[Value.agg #[.bool b1, .slice A1 n1 c1]]; refine (hV.out _ (by exact R1.out)).mono ?_; rintro e w12 ⟨rfl, bb⟩; replace X := Lib.hid (X.out.on bb); replace R1 := Lib.hid (R1.out.below bb); replace R2 := Lib.hid (R2.out.below bb); (try (replace R_f := Lib.hid (R_f.out.below bb))); (try (replace R_g := Lib.hid (R_g.out.below bb))); (try (replace R_i := Lib.hid (R_i.out.below bb))); (try (replace R_j := Lib.hid (R_j.out.below bb))); replace hT := Lib.hid (tab_below hT.out bb); clear e0 e1 e2 e3; obtain ⟨e0, e1, -⟩ := X.out.x1.at_; obtain ⟨e2, e3, -⟩ := X.out.x2.at_; clear bb)
      | (go_at_call_of 25 #[Value.agg #[.bool b1, .slice A1 n1 c1]]; refine (hW.out _ (by exact R1.out)).mono ?_; rintro e w13 ⟨rfl, bb⟩; replace X := Lib.hid (X.out.on bb); replace R1 := Lib.hid (R1.out.below bb); replace R2 := Lib.hid (R2.out.below bb); (try (replace R_f := Lib.hid (R_f.out.below bb))); (try (replace R_g := Lib.hid (R_g.out.below bb))); (try (replace R_i := Lib.hid (R_i.out.below bb))); (try (replace R_j := Lib.hid (R_j.out.below bb))); replace hT := Lib.hid (tab_below hT.out bb); clear e0 e1 e2 e3; obtain ⟨e0, e1, -⟩ := X.out.x1.at_; obtain ⟨e2, e3, -⟩ := X.out.x2.at_; clear bb)
      | (go_at_call_of 27 #[Value.int .i64 v]; refine (fromInt_b v _ (by omega) (by omega)).mono ?_; rintro e w15 ⟨A_f, n_f, c_f, rfl, R_f, bb, l_f⟩; replace X := Lib.hid (X.out.on bb); replace R1 := Lib.hid (R1.out.below bb); replace R2 := Lib.hid (R2.out.below bb); (try (replace R_g := Lib.hid (R_g.out.below bb))); (try (replace R_i := Lib.hid (R_i.out.below bb))); (try (replace R_j := Lib.hid (R_j.out.below bb))); replace hT := Lib.hid (tab_below hT.out bb); clear e0 e1 e2 e3; obtain ⟨e0, e1, -⟩ := X.out.x1.at_; obtain ⟨e2, e3, -⟩ := X.out.x2.at_; clear bb; replace R_f := Lib.hid R_f)
      | (go_at_call_of 28 #[Value.int .i64 v]; refine (rfromInt_b v _ (by omega) (by omega)).mono ?_; rintro e w16 ⟨A_g, n_g, c_g, rfl, R_g, bb, l_g⟩; replace X := Lib.hid (X.out.on bb); replace R1 := Lib.hid (R1.out.below bb); replace R2 := Lib.hid (R2.out.below bb); (try (replace R_f := Lib.hid (R_f.out.below bb))); (try (replace R_i := Lib.hid (R_i.out.below bb))); (try (replace R_j := Lib.hid (R_j.out.below bb))); replace hT := Lib.hid (tab_below hT.out bb); clear e0 e1 e2 e3; obtain ⟨e0, e1, -⟩ := X.out.x1.at_; obtain ⟨e2, e3, -⟩ := X.out.x2.at_; clear bb; replace R_g := Lib.hid R_g)
      | (go_at_call_of 26 #[Value.agg #[.bool (ng (v)), .slice A_f n_f c_f], Value.agg #[.bool (ng (v)), .slice A_g n_g c_g]]; refine (same_z _ _ _ _ _ _ _ _ _ (by exact R_f.out) (by exact R_g.out) (by omega) (rfl)).mono ?_; rintro e w17 ⟨rfl, bb⟩; replace X := Lib.hid (X.out.on bb); replace R1 := Lib.hid (R1.out.below bb); replace R2 := Lib.hid (R2.out.below bb); (try (replace R_f := Lib.hid (R_f.out.below bb))); (try (replace R_g := Lib.hid (R_g.out.below bb))); (try (replace R_i := Lib.hid (R_i.out.below bb))); (try (replace R_j := Lib.hid (R_j.out.below bb))); replace hT := Lib.hid (tab_below hT.out bb); clear e0 e1 e2 e3; obtain ⟨e0, e1, -⟩ := X.out.x1.at_; obtain ⟨e2, e3, -⟩ := X.out.x2.at_; clear bb)
      | (go_at_call_of 29 #[Value.agg #[.bool b1, .slice A1 n1 c1]]; refine (hS.out _ (by exact R1.out)).mono ?_; rintro e w18 ⟨rfl, bb⟩; replace X := Lib.hid (X.out.on bb); replace R1 := Lib.hid (R1.out.below bb); replace R2 := Lib.hid (R2.out.below bb); (try (replace R_f := Lib.hid (R_f.out.below bb))); (try (replace R_g := Lib.hid (R_g.out.below bb))); (try (replace R_i := Lib.hid (R_i.out.below bb))); (try (replace R_j := Lib.hid (R_j.out.below bb))); replace hT := Lib.hid (tab_below hT.out bb); clear e0 e1 e2 e3; obtain ⟨e0, e1, -⟩ := X.out.x1.at_; obtain ⟨e2, e3, -⟩ := X.out.x2.at_; clear bb)
      | (go_at_call_of 30 #[Value.agg #[.bool b1, .slice A1 n1 c1]]; refine (hS2.out _ (by exact R1.out)).mono ?_; rintro e w19 ⟨rfl, bb⟩; replace X := Lib.hid (X.out.on bb); replace R1 := Lib.hid (R1.out.below bb); replace R2 := Lib.hid (R2.out.below bb); (try (replace R_f := Lib.hid (R_f.out.below bb))); (try (replace R_g := Lib.hid (R_g.out.below bb))); (try (replace R_i := Lib.hid (R_i.out.below bb))); (try (replace R_j := Lib.hid (R_j.out.below bb))); replace hT := Lib.hid (tab_below hT.out bb); clear e0 e1 e2 e3; obtain ⟨e0, e1, -⟩ := X.out.x1.at_; obtain ⟨e2, e3, -⟩ := X.out.x2.at_; clear bb)
      | (go_at_call_of 31 #[Value.agg #[.bool b1, .slice A1 n1 c1]]; refine (hN.out _ (by exact R1.out)).mono ?_; rintro e w20 ⟨A_i, n_i, c_i, rfl, R_i, bb, l_i⟩; replace X := Lib.hid (X.out.on bb); replace R1 := Lib.hid (R1.out.below bb); replace R2 := Lib.hid (R2.out.below bb); (try (replace R_f := Lib.hid (R_f.out.below bb))); (try (replace R_g := Lib.hid (R_g.out.below bb))); (try (replace R_j := Lib.hid (R_j.out.below bb))); replace hT := Lib.hid (tab_below hT.out bb); clear e0 e1 e2 e3; obtain ⟨e0, e1, -⟩ := X.out.x1.at_; obtain ⟨e2, e3, -⟩ := X.out.x2.at_; clear bb; replace R_i := Lib.hid R_i)
      | (go_at_call_of 32 #[Value.agg #[.bool b1, .slice A1 n1 c1]]; refine (hN2.out _ (by exact R1.out)).mono ?_; rintro e w21 ⟨A_j, n_j, c_j, rfl, R_j, bb, l_j⟩; replace X := Lib.hid (X.out.on bb); replace R1 := Lib.hid (R1.out.below bb); replace R2 := Lib.hid (R2.out.below bb); (try (replace R_f := Lib.hid (R_f.out.below bb))); (try (replace R_g := Lib.hid (R_g.out.below bb))); (try (replace R_i := Lib.hid (R_i.out.below bb))); replace hT := Lib.hid (tab_below hT.out bb); clear e0 e1 e2 e3; obtain ⟨e0, e1, -⟩ := X.out.x1.at_; obtain ⟨e2, e3, -⟩ := X.out.x2.at_; clear bb; replace R_j := Lib.hid R_j)
      | (go_at_call_of 26 #[Value.agg #[.bool (ng (mx)), .slice A_i n_i c_i], Value.agg #[.bool (ng (mx)), .slice A_j n_j c_j]]; refine (same_z _ _ _ _ _ _ _ _ _ (by exact R_i.out) (by exact R_j.out) (by omega) (rfl)).mono ?_; rintro e w22 ⟨rfl, bb⟩; replace X := Lib.hid (X.out.on bb); replace R1 := Lib.hid (R1.out.below bb); replace R2 := Lib.hid (R2.out.below bb); (try (replace R_f := Lib.hid (R_f.out.below bb))); (try (replace R_g := Lib.hid (R_g.out.below bb))); (try (replace R_i := Lib.hid (R_i.out.below bb))); (try (replace R_j := Lib.hid (R_j.out.below bb))); replace hT := Lib.hid (tab_below hT.out bb); clear e0 e1 e2 e3; obtain ⟨e0, e1, -⟩ := X.out.x1.at_; obtain ⟨e2, e3, -⟩ := X.out.x2.at_; clear bb)
      | (go_at_call_of 33 #[Value.agg #[.bool b1, .slice A1 n1 c1], Value.agg #[.bool b2, .slice A2 n2 c2]]; refine (hC.out _ (by exact R1.out) (by exact R2.out)).mono ?_; rintro e w23 ⟨rfl, bb⟩; replace X := Lib.hid (X.out.on bb); replace R1 := Lib.hid (R1.out.below bb); replace R2 := Lib.hid (R2.out.below bb); (try (replace R_f := Lib.hid (R_f.out.below bb))); (try (replace R_g := Lib.hid (R_g.out.below bb))); (try (replace R_i := Lib.hid (R_i.out.below bb))); (try (replace R_j := Lib.hid (R_j.out.below bb))); replace hT := Lib.hid (tab_below hT.out bb); clear e0 e1 e2 e3; obtain ⟨e0, e1, -⟩ := X.out.x1.at_; obtain ⟨e2, e3, -⟩ := X.out.x2.at_; clear bb)
      | (go_at_call_of 34 #[Value.agg #[.bool b1, .slice A1 n1 c1], Value.agg #[.bool b2, .slice A2 n2 c2]]; refine (hC2.out _ (by exact R1.out) (by exact R2.out)).mono ?_; rintro e w24 ⟨rfl, bb⟩; replace X := Lib.hid (X.out.on bb); replace R1 := Lib.hid (R1.out.below bb); replace R2 := Lib.hid (R2.out.below bb); (try (replace R_f := Lib.hid (R_f.out.below bb))); (try (replace R_g := Lib.hid (R_g.out.below bb))); (try (replace R_i := Lib.hid (R_i.out.below bb))); (try (replace R_j := Lib.hid (R_j.out.below bb))); replace hT := Lib.hid (tab_below hT.out bb); clear e0 e1 e2 e3; obtain ⟨e0, e1, -⟩ := X.out.x1.at_; obtain ⟨e2, e3, -⟩ := X.out.x2.at_; clear bb))
  all_goals
    have Bz := Lib.hid X.out.bel
    go_wp2
    go_ret
    exact ⟨by simp, Bz.out⟩
end Go.Proofs.YtkdeajocogdmgaaDoor
