/- The walk of the law IntegerCalculates. -/
import Derived.Test.YtkdeajocogdmgaaDoorQJaz
namespace Go.Proofs.YtkdeajocogdmgaaDoor
open Go.RowKit

theorem gcd_len {x y : Int} {p : Nat} (hx : x.natAbs < 4294967296 ^ p) (hy : y.natAbs < 4294967296 ^ p) : (limbs (Int.gcd x y)).length ≤ p + p := by
  apply len_of_lt
  rw [Nat.pow_add]
  have h5 : 0 < 4294967296 ^ p := Nat.pow_pos (by decide)
  have h6 : 4294967296 ^ p * 1 ≤ 4294967296 ^ p * 4294967296 ^ p := Nat.mul_le_mul_left _ h5
  have : Int.gcd x y ≤ 4294967296 ^ p - 1 := by
    show Nat.gcd x.natAbs y.natAbs ≤ _
    rcases Nat.eq_zero_or_pos x.natAbs with h | h
    · rw [h, Nat.gcd_zero_left]; omega
    · have := Nat.gcd_le_left y.natAbs h; omega
  omega
theorem same_zero (w : World) : Calls Tryd.prog 26 #[.agg #[.bool false, .slice none 0 0], .agg #[.bool false, .slice none 0 0]] w fun e w' => e = .returned (.bool true) ∧ Below w.heap.size w w' :=
  sameI_true 0 none 0 0 none 0 0 w (by rw [show (0 : Int).natAbs = 0 from rfl, limbs_zero]; exact Rd.nil_ _ _ _) (by rw [show (0 : Int).natAbs = 0 from rfl, limbs_zero]; exact Rd.nil_ _ _ _) (by omega)

set_option maxHeartbeats 16000000 in
theorem lawI_calc (b1 : Bool) (A1 : Option Addr) (n1 c1 : Nat) (xs : List Nat) (b2 : Bool) (A2 : Option Addr) (n2 c2 : Nat) (ys : List Nat) (w : World) (h1 : Rd w A1 n1 c1 xs) (m1 : n1 ≤ 9223372036854775807) (h2 : Rd w A2 n2 c2 ys) (m2 : n2 ≤ 9223372036854775807) (htab : Tab w) :
    Calls Tryd.prog 6 #[.agg #[.bool b1, .slice A1 n1 c1], .agg #[.bool b2, .slice A2 n2 c2]] w fun e w' => e = .returned (.bool true) ∧ Below w.heap.size w w' := by
  have X := B2.new w b1 A1 n1 c1 b2 A2 n2 c2
  have R1 := Lib.hid (h1.below X.bel)
  have R2 := Lib.hid (h2.below X.bel)
  have hT := Lib.hid (tab_below htab X.bel)
  have L1 := fun W => lightI_any b1 A1 n1 c1 W m1
  have L2 := fun W => lightI_any b2 A2 n2 c2 W m2
  clear htab m1 m2
  replace X := Lib.hid X
  by_cases l1 : n1 ≤ 10
  case neg =>
    rw [decide_eq_false l1] at L1
    replace L1 := Lib.hid L1
    clear l1 h1 h2
    go_enter Tryd.func6, Tryd.ntmps6
    go_wp2_with fail
    refine (L1.out _).mono ?_
    rintro e w1 ⟨rfl, bb⟩
    replace X := Lib.hid (X.out.on bb)
    replace R1 := Lib.hid (R1.out.below bb)
    replace R2 := Lib.hid (R2.out.below bb)
    replace hT := Lib.hid (tab_below hT.out bb)
    clear bb
    try clear e0 e1 e2 e3
    obtain ⟨e0, e1, -⟩ := X.out.x1.at_
    obtain ⟨e2, e3, -⟩ := X.out.x2.at_
    go_wp2_with fail
    refine (awakeI_any _ hT.out).mono ?_
    rintro e w8 ⟨rfl, bb⟩
    replace X := Lib.hid (X.out.on bb)
    clear bb
    go_wp2
    go_ret
    exact ⟨rfl, X.out.bel⟩
  rw [decide_eq_true l1] at L1
  replace L1 := Lib.hid L1
  by_cases l2 : n2 ≤ 10
  case neg =>
    rw [decide_eq_false l2] at L2
    replace L2 := Lib.hid L2
    clear l1 l2 h1 h2
    go_enter Tryd.func6, Tryd.ntmps6
    go_wp2_with fail
    refine (L1.out _).mono ?_
    rintro e w1 ⟨rfl, bb⟩
    replace X := Lib.hid (X.out.on bb)
    replace R1 := Lib.hid (R1.out.below bb)
    replace R2 := Lib.hid (R2.out.below bb)
    replace hT := Lib.hid (tab_below hT.out bb)
    clear bb
    try clear e0 e1 e2 e3
    obtain ⟨e0, e1, -⟩ := X.out.x1.at_
    obtain ⟨e2, e3, -⟩ := X.out.x2.at_
    go_wp2_with fail
    refine (L2.out _).mono ?_
    rintro e w2 ⟨rfl, bb⟩
    replace X := Lib.hid (X.out.on bb)
    replace R1 := Lib.hid (R1.out.below bb)
    replace R2 := Lib.hid (R2.out.below bb)
    replace hT := Lib.hid (tab_below hT.out bb)
    clear bb
    try clear e0 e1 e2 e3
    obtain ⟨e0, e1, -⟩ := X.out.x1.at_
    obtain ⟨e2, e3, -⟩ := X.out.x2.at_
    go_wp2_with fail
    refine (awakeI_any _ hT.out).mono ?_
    rintro e w8 ⟨rfl, bb⟩
    replace X := Lib.hid (X.out.on bb)
    clear bb
    go_wp2
    go_ret
    exact ⟨rfl, X.out.bel⟩
  rw [decide_eq_true l2] at L2
  replace L2 := Lib.hid L2
  have hAdd := fun W (h : Rd W A1 n1 c1 xs) (h' : Rd W A2 n2 c2 ys) => add_r b1 A1 n1 c1 xs b2 A2 n2 c2 ys W 10 h h' l1 l2 (by omega)
  have hAdd2 := fun W (h : Rd W A1 n1 c1 xs) (h' : Rd W A2 n2 c2 ys) => radd_r b1 A1 n1 c1 xs b2 A2 n2 c2 ys W 10 h h' l1 l2 (by omega)
  have hSub := fun W (h : Rd W A1 n1 c1 xs) (h' : Rd W A2 n2 c2 ys) => sub_r b1 A1 n1 c1 xs b2 A2 n2 c2 ys W 10 h h' l1 l2 (by omega)
  have hSub2 := fun W (h : Rd W A1 n1 c1 xs) (h' : Rd W A2 n2 c2 ys) => rsub_r b1 A1 n1 c1 xs b2 A2 n2 c2 ys W 10 h h' l1 l2 (by omega)
  have hMul := fun W (h : Rd W A1 n1 c1 xs) (h' : Rd W A2 n2 c2 ys) => mul_r b1 A1 n1 c1 xs b2 A2 n2 c2 ys W 10 h h' l1 l2 (by omega)
  have hMul2 := fun W (h : Rd W A1 n1 c1 xs) (h' : Rd W A2 n2 c2 ys) => rmul_r b1 A1 n1 c1 xs b2 A2 n2 c2 ys W 10 h h' l1 l2 (by omega)
  have hG := fun W (h : Rd W A1 n1 c1 xs) (h' : Rd W A2 n2 c2 ys) => gcdI_any b1 A1 n1 c1 xs b2 A2 n2 c2 ys W h h' (by omega) (by omega)
  have hG2 := fun W (h : Rd W A1 n1 c1 xs) (h' : Rd W A2 n2 c2 ys) => rgcdI_any b1 A1 n1 c1 xs b2 A2 n2 c2 ys W h h' (by omega) (by omega)
  have lg : (limbs (Int.gcd (iv b1 xs) (iv b2 ys))).length ≤ 20 := gcd_len (p := 10) (iv_lt (p := 10) h1.sm (by have := h1.len; omega)) (iv_lt (p := 10) h2.sm (by have := h2.len; omega))
  generalize iv b1 xs + iv b2 ys = zadd at hAdd hAdd2
  generalize iv b1 xs - iv b2 ys = zsub at hSub hSub2
  generalize iv b1 xs * iv b2 ys = zmul at hMul hMul2
  generalize Int.gcd (iv b1 xs) (iv b2 ys) = zg at hG hG2 lg
  replace hAdd := Lib.hid hAdd
  replace hAdd2 := Lib.hid hAdd2
  replace hSub := Lib.hid hSub
  replace hSub2 := Lib.hid hSub2
  replace hMul := Lib.hid hMul
  replace hMul2 := Lib.hid hMul2
  replace hG := Lib.hid hG
  replace hG2 := Lib.hid hG2
  replace lg := Lib.hid lg
  by_cases hz : iv b2 ys = 0
  · have hD := fun W (h : Rd W A1 n1 c1 xs) (h' : Rd W A2 n2 c2 ys) => divI_zero b1 A1 n1 c1 xs b2 A2 n2 c2 ys W h h' (by omega) (by omega) hz
    have hD2 := fun W (h : Rd W A1 n1 c1 xs) (h' : Rd W A2 n2 c2 ys) => rdivI_zero b1 A1 n1 c1 xs b2 A2 n2 c2 ys W h h' (by omega) (by omega) hz
    replace hD := Lib.hid hD
    replace hD2 := Lib.hid hD2
    clear h1 h2 hz
    go_enter Tryd.func6, Tryd.ntmps6
    go_wp2_with fail
    refine (L1.out _).mono ?_
    rintro e w1 ⟨rfl, bb⟩
    replace X := Lib.hid (X.out.on bb)
    replace R1 := Lib.hid (R1.out.below bb)
    replace R2 := Lib.hid (R2.out.below bb)
    replace hT := Lib.hid (tab_below hT.out bb)
    clear bb
    try clear e0 e1 e2 e3
    obtain ⟨e0, e1, -⟩ := X.out.x1.at_
    obtain ⟨e2, e3, -⟩ := X.out.x2.at_
    go_wp2_with fail
    refine (L2.out _).mono ?_
    rintro e w2 ⟨rfl, bb⟩
    replace X := Lib.hid (X.out.on bb)
    replace R1 := Lib.hid (R1.out.below bb)
    replace R2 := Lib.hid (R2.out.below bb)
    replace hT := Lib.hid (tab_below hT.out bb)
    clear bb
    try clear e0 e1 e2 e3
    obtain ⟨e0, e1, -⟩ := X.out.x1.at_
    obtain ⟨e2, e3, -⟩ := X.out.x2.at_
    go_wp2_with fail
    refine (hD.out _ R1.out R2.out).mono ?_
    rintro e w4 ⟨rfl, bb⟩
    have D1 := B2.new w4 false none 0 0 false none 0 0
    have b2 := bb.trans (D1.bel.mono bb.size)
    clear bb
    have bb := b2
    clear b2
    replace X := Lib.hid (X.out.on bb)
    replace R1 := Lib.hid (R1.out.below bb)
    replace R2 := Lib.hid (R2.out.below bb)
    replace hT := Lib.hid (tab_below hT.out bb)
    replace D1 := Lib.hid D1
    clear bb e0 e1 e2 e3
    obtain ⟨e0, e1, -⟩ := X.out.x1.at_
    obtain ⟨e2, e3, -⟩ := X.out.x2.at_
    go_wp2_with fail
    refine (hD2.out _ R1.out R2.out).mono ?_
    rintro e w5 ⟨rfl, bb⟩
    have D2 := B2.new w5 false none 0 0 false none 0 0
    have b2 := bb.trans (D2.bel.mono bb.size)
    clear bb
    have bb := b2
    clear b2
    replace X := Lib.hid (X.out.on bb)
    replace R1 := Lib.hid (R1.out.below bb)
    replace R2 := Lib.hid (R2.out.below bb)
    replace hT := Lib.hid (tab_below hT.out bb)
    replace D1 := Lib.hid (D1.out.on bb)
    replace D2 := Lib.hid D2
    clear bb e0 e1 e2 e3
    obtain ⟨e0, e1, -⟩ := X.out.x1.at_
    obtain ⟨e2, e3, -⟩ := X.out.x2.at_
    replace X := Lib.hid X.out.drew
    replace D1 := Lib.hid D1.out.drew
    replace D2 := Lib.hid D2.out.drew
    replace R1 := Lib.hid (Rd.drew1 R1.out)
    replace R2 := Lib.hid (Rd.drew1 R2.out)
    replace hT := Lib.hid (tab_drew hT.out)
    obtain ⟨f0, f1, -⟩ := D1.out.x1.at_
    obtain ⟨f2, f3, -⟩ := D1.out.x2.at_
    obtain ⟨g0, g1, -⟩ := D2.out.x1.at_
    obtain ⟨g2, g3, -⟩ := D2.out.x2.at_
    go_wp2_with fail
    go_region_held3 (fun w' => w'.cell? ⟨w.heap.size, 0, none⟩ = some (.bool b1) ∧ w'.cell? ⟨w.heap.size, 1, none⟩ = some (.slice A1 n1 c1) ∧ w'.cell? ⟨w.heap.size + 1, 0, none⟩ = some (.bool b2) ∧ w'.cell? ⟨w.heap.size + 1, 1, none⟩ = some (.slice A2 n2 c2) ∧ w'.cell? ⟨w4.heap.size, 0, none⟩ = some (.bool (false)) ∧ w'.cell? ⟨w4.heap.size, 1, none⟩ = some (.slice none 0 0) ∧ w'.cell? ⟨w4.heap.size + 1, 0, none⟩ = some (.bool (false)) ∧ w'.cell? ⟨w4.heap.size + 1, 1, none⟩ = some (.slice none 0 0) ∧ w'.cell? ⟨w5.heap.size, 0, none⟩ = some (.bool (false)) ∧ w'.cell? ⟨w5.heap.size, 1, none⟩ = some (.slice none 0 0) ∧ w'.cell? ⟨w5.heap.size + 1, 0, none⟩ = some (.bool (false)) ∧ w'.cell? ⟨w5.heap.size + 1, 1, none⟩ = some (.slice none 0 0))
      (first | exact ⟨e0, e1, e2, e3, f0, f1, f2, f3, g0, g1, g2, g3⟩)
      (first
        | (go_at_call 21; refine (awakeI_any _ (by exact hT.out)).mono ?_; rintro e w11 ⟨rfl, bb⟩; replace X := Lib.hid (X.out.on bb); replace R1 := Lib.hid (R1.out.below bb); replace R2 := Lib.hid (R2.out.below bb); (try (replace R_uadd := Lib.hid (R_uadd.out.below bb))); (try (replace R_vadd := Lib.hid (R_vadd.out.below bb))); (try (replace R_usub := Lib.hid (R_usub.out.below bb))); (try (replace R_vsub := Lib.hid (R_vsub.out.below bb))); (try (replace R_umul := Lib.hid (R_umul.out.below bb))); (try (replace R_vmul := Lib.hid (R_vmul.out.below bb))); (try (replace R_ga := Lib.hid (R_ga.out.below bb))); (try (replace R_gb := Lib.hid (R_gb.out.below bb))); replace hT := Lib.hid (tab_below hT.out bb); clear e0 e1 e2 e3 f0 f1 f2 f3 g0 g1 g2 g3; obtain ⟨e0, e1, -⟩ := X.out.x1.at_; obtain ⟨e2, e3, -⟩ := X.out.x2.at_; replace D1 := Lib.hid (D1.out.on bb); replace D2 := Lib.hid (D2.out.on bb); obtain ⟨f0, f1, -⟩ := D1.out.x1.at_; obtain ⟨f2, f3, -⟩ := D1.out.x2.at_; obtain ⟨g0, g1, -⟩ := D2.out.x1.at_; obtain ⟨g2, g3, -⟩ := D2.out.x2.at_; clear bb)
        | (go_at_call_of 37 #[Value.agg #[.bool b1, .slice A1 n1 c1], Value.agg #[.bool b2, .slice A2 n2 c2]]; refine (hAdd.out _ (by exact R1.out) (by exact R2.out)).mono ?_; rintro e w12 ⟨A_uadd, n_uadd, c_uadd, rfl, R_uadd, bb, l_uadd⟩; replace X := Lib.hid (X.out.on bb); replace R1 := Lib.hid (R1.out.below bb); replace R2 := Lib.hid (R2.out.below bb); (try (replace R_vadd := Lib.hid (R_vadd.out.below bb))); (try (replace R_usub := Lib.hid (R_usub.out.below bb))); (try (replace R_vsub := Lib.hid (R_vsub.out.below bb))); (try (replace R_umul := Lib.hid (R_umul.out.below bb))); (try (replace R_vmul := Lib.hid (R_vmul.out.below bb))); (try (replace R_ga := Lib.hid (R_ga.out.below bb))); (try (replace R_gb := Lib.hid (R_gb.out.below bb))); replace hT := Lib.hid (tab_below hT.out bb); clear e0 e1 e2 e3 f0 f1 f2 f3 g0 g1 g2 g3; obtain ⟨e0, e1, -⟩ := X.out.x1.at_; obtain ⟨e2, e3, -⟩ := X.out.x2.at_; replace D1 := Lib.hid (D1.out.on bb); replace D2 := Lib.hid (D2.out.on bb); obtain ⟨f0, f1, -⟩ := D1.out.x1.at_; obtain ⟨f2, f3, -⟩ := D1.out.x2.at_; obtain ⟨g0, g1, -⟩ := D2.out.x1.at_; obtain ⟨g2, g3, -⟩ := D2.out.x2.at_; clear bb; replace R_uadd := Lib.hid R_uadd)
        | (go_at_call_of 38 #[Value.agg #[.bool b1, .slice A1 n1 c1], Value.agg #[.bool b2, .slice A2 n2 c2]]; refine (hAdd2.out _ (by exact R1.out) (by exact R2.out)).mono ?_; rintro e w13 ⟨A_vadd, n_vadd, c_vadd, rfl, R_vadd, bb, l_vadd⟩; replace X := Lib.hid (X.out.on bb); replace R1 := Lib.hid (R1.out.below bb); replace R2 := Lib.hid (R2.out.below bb); (try (replace R_uadd := Lib.hid (R_uadd.out.below bb))); (try (replace R_usub := Lib.hid (R_usub.out.below bb))); (try (replace R_vsub := Lib.hid (R_vsub.out.below bb))); (try (replace R_umul := Lib.hid (R_umul.out.below bb))); (try (replace R_vmul := Lib.hid (R_vmul.out.below bb))); (try (replace R_ga := Lib.hid (R_ga.out.below bb))); (try (replace R_gb := Lib.hid (R_gb.out.below bb))); replace hT := Lib.hid (tab_below hT.out bb); clear e0 e1 e2 e3 f0 f1 f2 f3 g0 g1 g2 g3; obtain ⟨e0, e1, -⟩ := X.out.x1.at_; obtain ⟨e2, e3, -⟩ := X.out.x2.at_; replace D1 := Lib.hid (D1.out.on bb); replace D2 := Lib.hid (D2.out.on bb); obtain ⟨f0, f1, -⟩ := D1.out.x1.at_; obtain ⟨f2, f3, -⟩ := D1.out.x2.at_; obtain ⟨g0, g1, -⟩ := D2.out.x1.at_; obtain ⟨g2, g3, -⟩ := D2.out.x2.at_; clear bb; replace R_vadd := Lib.hid R_vadd)
        | (go_at_call_of 26 #[Value.agg #[.bool (ng (zadd)), .slice A_uadd n_uadd c_uadd], Value.agg #[.bool (ng (zadd)), .slice A_vadd n_vadd c_vadd]]; refine (same_z _ _ _ _ _ _ _ _ _ (by exact R_uadd.out) (by exact R_vadd.out) (by omega) (rfl)).mono ?_; rintro e w14 ⟨rfl, bb⟩; replace X := Lib.hid (X.out.on bb); replace R1 := Lib.hid (R1.out.below bb); replace R2 := Lib.hid (R2.out.below bb); (try (replace R_uadd := Lib.hid (R_uadd.out.below bb))); (try (replace R_vadd := Lib.hid (R_vadd.out.below bb))); (try (replace R_usub := Lib.hid (R_usub.out.below bb))); (try (replace R_vsub := Lib.hid (R_vsub.out.below bb))); (try (replace R_umul := Lib.hid (R_umul.out.below bb))); (try (replace R_vmul := Lib.hid (R_vmul.out.below bb))); (try (replace R_ga := Lib.hid (R_ga.out.below bb))); (try (replace R_gb := Lib.hid (R_gb.out.below bb))); replace hT := Lib.hid (tab_below hT.out bb); clear e0 e1 e2 e3 f0 f1 f2 f3 g0 g1 g2 g3; obtain ⟨e0, e1, -⟩ := X.out.x1.at_; obtain ⟨e2, e3, -⟩ := X.out.x2.at_; replace D1 := Lib.hid (D1.out.on bb); replace D2 := Lib.hid (D2.out.on bb); obtain ⟨f0, f1, -⟩ := D1.out.x1.at_; obtain ⟨f2, f3, -⟩ := D1.out.x2.at_; obtain ⟨g0, g1, -⟩ := D2.out.x1.at_; obtain ⟨g2, g3, -⟩ := D2.out.x2.at_; clear bb)
        | (go_at_call_of 39 #[Value.agg #[.bool b1, .slice A1 n1 c1], Value.agg #[.bool b2, .slice A2 n2 c2]]; refine (hSub.out _ (by exact R1.out) (by exact R2.out)).mono ?_; rintro e w15 ⟨A_usub, n_usub, c_usub, rfl, R_usub, bb, l_usub⟩; replace X := Lib.hid (X.out.on bb); replace R1 := Lib.hid (R1.out.below bb); replace R2 := Lib.hid (R2.out.below bb); (try (replace R_uadd := Lib.hid (R_uadd.out.below bb))); (try (replace R_vadd := Lib.hid (R_vadd.out.below bb))); (try (replace R_vsub := Lib.hid (R_vsub.out.below bb))); (try (replace R_umul := Lib.hid (R_umul.out.below bb))); (try (replace R_vmul := Lib.hid (R_vmul.out.below bb))); (try (replace R_ga := Lib.hid (R_ga.out.below bb))); (try (replace R_gb := Lib.hid (R_gb.out.below bb))); replace hT := Lib.hid (tab_below hT.out bb); clear e0 e1 e2 e3 f0 f1 f2 f3 g0 g1 g2 g3; obtain ⟨e0, e1, -⟩ := X.out.x1.at_; obtain ⟨e2, e3, -⟩ := X.out.x2.at_; replace D1 := Lib.hid (D1.out.on bb); replace D2 := Lib.hid (D2.out.on bb); obtain ⟨f0, f1, -⟩ := D1.out.x1.at_; obtain ⟨f2, f3, -⟩ := D1.out.x2.at_; obtain ⟨g0, g1, -⟩ := D2.out.x1.at_; obtain ⟨g2, g3, -⟩ := D2.out.x2.at_; clear bb; replace R_usub := Lib.hid R_usub)
        | (go_at_call_of 40 #[Value.agg #[.bool b1, .slice A1 n1 c1], Value.agg #[.bool b2, .slice A2 n2 c2]]; refine (hSub2.out _ (by exact R1.out) (by exact R2.out)).mono ?_; rintro e w16 ⟨A_vsub, n_vsub, c_vsub, rfl, R_vsub, bb, l_vsub⟩; replace X := Lib.hid (X.out.on bb); replace R1 := Lib.hid (R1.out.below bb); replace R2 := Lib.hid (R2.out.below bb); (try (replace R_uadd := Lib.hid (R_uadd.out.below bb))); (try (replace R_vadd := Lib.hid (R_vadd.out.below bb))); (try (replace R_usub := Lib.hid (R_usub.out.below bb))); (try (replace R_umul := Lib.hid (R_umul.out.below bb))); (try (replace R_vmul := Lib.hid (R_vmul.out.below bb))); (try (replace R_ga := Lib.hid (R_ga.out.below bb))); (try (replace R_gb := Lib.hid (R_gb.out.below bb))); replace hT := Lib.hid (tab_below hT.out bb); clear e0 e1 e2 e3 f0 f1 f2 f3 g0 g1 g2 g3; obtain ⟨e0, e1, -⟩ := X.out.x1.at_; obtain ⟨e2, e3, -⟩ := X.out.x2.at_; replace D1 := Lib.hid (D1.out.on bb); replace D2 := Lib.hid (D2.out.on bb); obtain ⟨f0, f1, -⟩ := D1.out.x1.at_; obtain ⟨f2, f3, -⟩ := D1.out.x2.at_; obtain ⟨g0, g1, -⟩ := D2.out.x1.at_; obtain ⟨g2, g3, -⟩ := D2.out.x2.at_; clear bb; replace R_vsub := Lib.hid R_vsub)
        | (go_at_call_of 26 #[Value.agg #[.bool (ng (zsub)), .slice A_usub n_usub c_usub], Value.agg #[.bool (ng (zsub)), .slice A_vsub n_vsub c_vsub]]; refine (same_z _ _ _ _ _ _ _ _ _ (by exact R_usub.out) (by exact R_vsub.out) (by omega) (rfl)).mono ?_; rintro e w17 ⟨rfl, bb⟩; replace X := Lib.hid (X.out.on bb); replace R1 := Lib.hid (R1.out.below bb); replace R2 := Lib.hid (R2.out.below bb); (try (replace R_uadd := Lib.hid (R_uadd.out.below bb))); (try (replace R_vadd := Lib.hid (R_vadd.out.below bb))); (try (replace R_usub := Lib.hid (R_usub.out.below bb))); (try (replace R_vsub := Lib.hid (R_vsub.out.below bb))); (try (replace R_umul := Lib.hid (R_umul.out.below bb))); (try (replace R_vmul := Lib.hid (R_vmul.out.below bb))); (try (replace R_ga := Lib.hid (R_ga.out.below bb))); (try (replace R_gb := Lib.hid (R_gb.out.below bb))); replace hT := Lib.hid (tab_below hT.out bb); clear e0 e1 e2 e3 f0 f1 f2 f3 g0 g1 g2 g3; obtain ⟨e0, e1, -⟩ := X.out.x1.at_; obtain ⟨e2, e3, -⟩ := X.out.x2.at_; replace D1 := Lib.hid (D1.out.on bb); replace D2 := Lib.hid (D2.out.on bb); obtain ⟨f0, f1, -⟩ := D1.out.x1.at_; obtain ⟨f2, f3, -⟩ := D1.out.x2.at_; obtain ⟨g0, g1, -⟩ := D2.out.x1.at_; obtain ⟨g2, g3, -⟩ := D2.out.x2.at_; clear bb)
        | (go_at_call_of 41 #[Value.agg #[.bool b1, .slice A1 n1 c1], Value.agg #[.bool b2, .slice A2 n2 c2]]; refine (hMul.out _ (by exact R1.out) (by exact R2.out)).mono ?_; rintro e w18 ⟨A_umul, n_umul, c_umul, rfl, R_umul, bb, l_umul⟩; replace X := Lib.hid (X.out.on bb); replace R1 := Lib.hid (R1.out.below bb); replace R2 := Lib.hid (R2.out.below bb); (try (replace R_uadd := Lib.hid (R_uadd.out.below bb))); (try (replace R_vadd := Lib.hid (R_vadd.out.below bb))); (try (replace R_usub := Lib.hid (R_usub.out.below bb))); (try (replace R_vsub := Lib.hid (R_vsub.out.below bb))); (try (replace R_vmul := Lib.hid (R_vmul.out.below bb))); (try (replace R_ga := Lib.hid (R_ga.out.below bb))); (try (replace R_gb := Lib.hid (R_gb.out.below bb))); replace hT := Lib.hid (tab_below hT.out bb); clear e0 e1 e2 e3 f0 f1 f2 f3 g0 g1 g2 g3; obtain ⟨e0, e1, -⟩ := X.out.x1.at_; obtain ⟨e2, e3, -⟩ := X.out.x2.at_; replace D1 := Lib.hid (D1.out.on bb); replace D2 := Lib.hid (D2.out.on bb); obtain ⟨f0, f1, -⟩ := D1.out.x1.at_; obtain ⟨f2, f3, -⟩ := D1.out.x2.at_; obtain ⟨g0, g1, -⟩ := D2.out.x1.at_; obtain ⟨g2, g3, -⟩ := D2.out.x2.at_; clear bb; replace R_umul := Lib.hid R_umul)
        | (go_at_call_of 42 #[Value.agg #[.bool b1, .slice A1 n1 c1], Value.agg #[.bool b2, .slice A2 n2 c2]]; refine (hMul2.out _ (by exact R1.out) (by exact R2.out)).mono ?_; rintro e w19 ⟨A_vmul, n_vmul, c_vmul, rfl, R_vmul, bb, l_vmul⟩; replace X := Lib.hid (X.out.on bb); replace R1 := Lib.hid (R1.out.below bb); replace R2 := Lib.hid (R2.out.below bb); (try (replace R_uadd := Lib.hid (R_uadd.out.below bb))); (try (replace R_vadd := Lib.hid (R_vadd.out.below bb))); (try (replace R_usub := Lib.hid (R_usub.out.below bb))); (try (replace R_vsub := Lib.hid (R_vsub.out.below bb))); (try (replace R_umul := Lib.hid (R_umul.out.below bb))); (try (replace R_ga := Lib.hid (R_ga.out.below bb))); (try (replace R_gb := Lib.hid (R_gb.out.below bb))); replace hT := Lib.hid (tab_below hT.out bb); clear e0 e1 e2 e3 f0 f1 f2 f3 g0 g1 g2 g3; obtain ⟨e0, e1, -⟩ := X.out.x1.at_; obtain ⟨e2, e3, -⟩ := X.out.x2.at_; replace D1 := Lib.hid (D1.out.on bb); replace D2 := Lib.hid (D2.out.on bb); obtain ⟨f0, f1, -⟩ := D1.out.x1.at_; obtain ⟨f2, f3, -⟩ := D1.out.x2.at_; obtain ⟨g0, g1, -⟩ := D2.out.x1.at_; obtain ⟨g2, g3, -⟩ := D2.out.x2.at_; clear bb; replace R_vmul := Lib.hid R_vmul)
        | (go_at_call_of 26 #[Value.agg #[.bool (ng (zmul)), .slice A_umul n_umul c_umul], Value.agg #[.bool (ng (zmul)), .slice A_vmul n_vmul c_vmul]]; refine (same_z _ _ _ _ _ _ _ _ _ (by exact R_umul.out) (by exact R_vmul.out) (by omega) (rfl)).mono ?_; rintro e w20 ⟨rfl, bb⟩; replace X := Lib.hid (X.out.on bb); replace R1 := Lib.hid (R1.out.below bb); replace R2 := Lib.hid (R2.out.below bb); (try (replace R_uadd := Lib.hid (R_uadd.out.below bb))); (try (replace R_vadd := Lib.hid (R_vadd.out.below bb))); (try (replace R_usub := Lib.hid (R_usub.out.below bb))); (try (replace R_vsub := Lib.hid (R_vsub.out.below bb))); (try (replace R_umul := Lib.hid (R_umul.out.below bb))); (try (replace R_vmul := Lib.hid (R_vmul.out.below bb))); (try (replace R_ga := Lib.hid (R_ga.out.below bb))); (try (replace R_gb := Lib.hid (R_gb.out.below bb))); replace hT := Lib.hid (tab_below hT.out bb); clear e0 e1 e2 e3 f0 f1 f2 f3 g0 g1 g2 g3; obtain ⟨e0, e1, -⟩ := X.out.x1.at_; obtain ⟨e2, e3, -⟩ := X.out.x2.at_; replace D1 := Lib.hid (D1.out.on bb); replace D2 := Lib.hid (D2.out.on bb); obtain ⟨f0, f1, -⟩ := D1.out.x1.at_; obtain ⟨f2, f3, -⟩ := D1.out.x2.at_; obtain ⟨g0, g1, -⟩ := D2.out.x1.at_; obtain ⟨g2, g3, -⟩ := D2.out.x2.at_; clear bb)
        | (go_at_call_of 26 #[Value.agg #[.bool false, .slice none 0 0], Value.agg #[.bool false, .slice none 0 0]]; refine (same_zero _).mono ?_; rintro e w21 ⟨rfl, bb⟩; replace X := Lib.hid (X.out.on bb); replace R1 := Lib.hid (R1.out.below bb); replace R2 := Lib.hid (R2.out.below bb); (try (replace R_uadd := Lib.hid (R_uadd.out.below bb))); (try (replace R_vadd := Lib.hid (R_vadd.out.below bb))); (try (replace R_usub := Lib.hid (R_usub.out.below bb))); (try (replace R_vsub := Lib.hid (R_vsub.out.below bb))); (try (replace R_umul := Lib.hid (R_umul.out.below bb))); (try (replace R_vmul := Lib.hid (R_vmul.out.below bb))); (try (replace R_ga := Lib.hid (R_ga.out.below bb))); (try (replace R_gb := Lib.hid (R_gb.out.below bb))); replace hT := Lib.hid (tab_below hT.out bb); clear e0 e1 e2 e3 f0 f1 f2 f3 g0 g1 g2 g3; obtain ⟨e0, e1, -⟩ := X.out.x1.at_; obtain ⟨e2, e3, -⟩ := X.out.x2.at_; replace D1 := Lib.hid (D1.out.on bb); replace D2 := Lib.hid (D2.out.on bb); obtain ⟨f0, f1, -⟩ := D1.out.x1.at_; obtain ⟨f2, f3, -⟩ := D1.out.x2.at_; obtain ⟨g0, g1, -⟩ := D2.out.x1.at_; obtain ⟨g2, g3, -⟩ := D2.out.x2.at_; clear bb)
        | (go_at_call_of 43 #[Value.agg #[.bool b1, .slice A1 n1 c1], Value.agg #[.bool b2, .slice A2 n2 c2]]; refine (hG.out _ (by exact R1.out) (by exact R2.out)).mono ?_; rintro e w22 ⟨A_ga, n_ga, c_ga, rfl, R_ga, bb⟩; replace X := Lib.hid (X.out.on bb); replace R1 := Lib.hid (R1.out.below bb); replace R2 := Lib.hid (R2.out.below bb); (try (replace R_uadd := Lib.hid (R_uadd.out.below bb))); (try (replace R_vadd := Lib.hid (R_vadd.out.below bb))); (try (replace R_usub := Lib.hid (R_usub.out.below bb))); (try (replace R_vsub := Lib.hid (R_vsub.out.below bb))); (try (replace R_umul := Lib.hid (R_umul.out.below bb))); (try (replace R_vmul := Lib.hid (R_vmul.out.below bb))); (try (replace R_gb := Lib.hid (R_gb.out.below bb))); replace hT := Lib.hid (tab_below hT.out bb); clear e0 e1 e2 e3 f0 f1 f2 f3 g0 g1 g2 g3; obtain ⟨e0, e1, -⟩ := X.out.x1.at_; obtain ⟨e2, e3, -⟩ := X.out.x2.at_; replace D1 := Lib.hid (D1.out.on bb); replace D2 := Lib.hid (D2.out.on bb); obtain ⟨f0, f1, -⟩ := D1.out.x1.at_; obtain ⟨f2, f3, -⟩ := D1.out.x2.at_; obtain ⟨g0, g1, -⟩ := D2.out.x1.at_; obtain ⟨g2, g3, -⟩ := D2.out.x2.at_; clear bb; replace R_ga := Lib.hid R_ga)
        | (go_at_call_of 44 #[Value.agg #[.bool b1, .slice A1 n1 c1], Value.agg #[.bool b2, .slice A2 n2 c2]]; refine (hG2.out _ (by exact R1.out) (by exact R2.out)).mono ?_; rintro e w23 ⟨A_gb, n_gb, c_gb, rfl, R_gb, bb⟩; replace X := Lib.hid (X.out.on bb); replace R1 := Lib.hid (R1.out.below bb); replace R2 := Lib.hid (R2.out.below bb); (try (replace R_uadd := Lib.hid (R_uadd.out.below bb))); (try (replace R_vadd := Lib.hid (R_vadd.out.below bb))); (try (replace R_usub := Lib.hid (R_usub.out.below bb))); (try (replace R_vsub := Lib.hid (R_vsub.out.below bb))); (try (replace R_umul := Lib.hid (R_umul.out.below bb))); (try (replace R_vmul := Lib.hid (R_vmul.out.below bb))); (try (replace R_ga := Lib.hid (R_ga.out.below bb))); replace hT := Lib.hid (tab_below hT.out bb); clear e0 e1 e2 e3 f0 f1 f2 f3 g0 g1 g2 g3; obtain ⟨e0, e1, -⟩ := X.out.x1.at_; obtain ⟨e2, e3, -⟩ := X.out.x2.at_; replace D1 := Lib.hid (D1.out.on bb); replace D2 := Lib.hid (D2.out.on bb); obtain ⟨f0, f1, -⟩ := D1.out.x1.at_; obtain ⟨f2, f3, -⟩ := D1.out.x2.at_; obtain ⟨g0, g1, -⟩ := D2.out.x1.at_; obtain ⟨g2, g3, -⟩ := D2.out.x2.at_; clear bb; replace R_gb := Lib.hid R_gb)
        | (go_at_call 18; refine (same_b _ _ _ _ _ _ _ _ _ (by exact R_ga.out) (by exact R_gb.out) (by have := R_ga.out.len; have := lg.out; omega) rfl).mono ?_; rintro e w24 ⟨rfl, bb⟩; replace X := Lib.hid (X.out.on bb); replace R1 := Lib.hid (R1.out.below bb); replace R2 := Lib.hid (R2.out.below bb); (try (replace R_uadd := Lib.hid (R_uadd.out.below bb))); (try (replace R_vadd := Lib.hid (R_vadd.out.below bb))); (try (replace R_usub := Lib.hid (R_usub.out.below bb))); (try (replace R_vsub := Lib.hid (R_vsub.out.below bb))); (try (replace R_umul := Lib.hid (R_umul.out.below bb))); (try (replace R_vmul := Lib.hid (R_vmul.out.below bb))); (try (replace R_ga := Lib.hid (R_ga.out.below bb))); (try (replace R_gb := Lib.hid (R_gb.out.below bb))); replace hT := Lib.hid (tab_below hT.out bb); clear e0 e1 e2 e3 f0 f1 f2 f3 g0 g1 g2 g3; obtain ⟨e0, e1, -⟩ := X.out.x1.at_; obtain ⟨e2, e3, -⟩ := X.out.x2.at_; replace D1 := Lib.hid (D1.out.on bb); replace D2 := Lib.hid (D2.out.on bb); obtain ⟨f0, f1, -⟩ := D1.out.x1.at_; obtain ⟨f2, f3, -⟩ := D1.out.x2.at_; obtain ⟨g0, g1, -⟩ := D2.out.x1.at_; obtain ⟨g2, g3, -⟩ := D2.out.x2.at_; clear bb))
    all_goals
      have Bz := Lib.hid X.out.bel
      go_wp2
      go_ret
      exact ⟨rfl, Bz.out⟩
  · have hD := fun W (h : Rd W A1 n1 c1 xs) (h' : Rd W A2 n2 c2 ys) => div_r b1 A1 n1 c1 xs b2 A2 n2 c2 ys W 10 h h' l1 l2 (by omega) hz
    have hD2 := fun W (h : Rd W A1 n1 c1 xs) (h' : Rd W A2 n2 c2 ys) => rdiv_r b1 A1 n1 c1 xs b2 A2 n2 c2 ys W 10 h h' l1 l2 (by omega) hz
    generalize iv b1 xs / iv b2 ys = zq at hD hD2
    generalize iv b1 xs % iv b2 ys = zr at hD hD2
    replace hD := Lib.hid hD
    replace hD2 := Lib.hid hD2
    clear h1 h2 hz
    go_enter Tryd.func6, Tryd.ntmps6
    go_wp2_with fail
    refine (L1.out _).mono ?_
    rintro e w1 ⟨rfl, bb⟩
    replace X := Lib.hid (X.out.on bb)
    replace R1 := Lib.hid (R1.out.below bb)
    replace R2 := Lib.hid (R2.out.below bb)
    replace hT := Lib.hid (tab_below hT.out bb)
    clear bb
    try clear e0 e1 e2 e3
    obtain ⟨e0, e1, -⟩ := X.out.x1.at_
    obtain ⟨e2, e3, -⟩ := X.out.x2.at_
    go_wp2_with fail
    refine (L2.out _).mono ?_
    rintro e w2 ⟨rfl, bb⟩
    replace X := Lib.hid (X.out.on bb)
    replace R1 := Lib.hid (R1.out.below bb)
    replace R2 := Lib.hid (R2.out.below bb)
    replace hT := Lib.hid (tab_below hT.out bb)
    clear bb
    try clear e0 e1 e2 e3
    obtain ⟨e0, e1, -⟩ := X.out.x1.at_
    obtain ⟨e2, e3, -⟩ := X.out.x2.at_
    go_wp2_with fail
    refine (hD.out _ R1.out R2.out).mono ?_
    rintro e w4 ⟨A_q, n_q, c_q, A_r, n_r, c_r, rfl, R_q, R_r, bb, l_q, l_r⟩
    have D1 := B2.new w4 (ng zq) A_q n_q c_q (ng zr) A_r n_r c_r
    have b2 := bb.trans (D1.bel.mono bb.size)
    clear bb
    have bb := b2
    clear b2
    replace X := Lib.hid (X.out.on bb)
    replace R1 := Lib.hid (R1.out.below bb)
    replace R2 := Lib.hid (R2.out.below bb)
    replace hT := Lib.hid (tab_below hT.out bb)
    replace R_q := Lib.hid (R_q.below D1.bel)
    replace R_r := Lib.hid (R_r.below D1.bel)
    replace D1 := Lib.hid D1
    clear bb e0 e1 e2 e3
    obtain ⟨e0, e1, -⟩ := X.out.x1.at_
    obtain ⟨e2, e3, -⟩ := X.out.x2.at_
    go_wp2_with fail
    refine (hD2.out _ R1.out R2.out).mono ?_
    rintro e w5 ⟨A_s, n_s, c_s, A_t, n_t, c_t, rfl, R_s, R_t, bb, l_s, l_t⟩
    have D2 := B2.new w5 (ng zq) A_s n_s c_s (ng zr) A_t n_t c_t
    have b2 := bb.trans (D2.bel.mono bb.size)
    clear bb
    have bb := b2
    clear b2
    replace X := Lib.hid (X.out.on bb)
    replace R1 := Lib.hid (R1.out.below bb)
    replace R2 := Lib.hid (R2.out.below bb)
    replace hT := Lib.hid (tab_below hT.out bb)
    replace D1 := Lib.hid (D1.out.on bb)
    replace R_q := Lib.hid (R_q.out.below bb)
    replace R_r := Lib.hid (R_r.out.below bb)
    replace R_s := Lib.hid (R_s.below D2.bel)
    replace R_t := Lib.hid (R_t.below D2.bel)
    replace D2 := Lib.hid D2
    clear bb e0 e1 e2 e3
    obtain ⟨e0, e1, -⟩ := X.out.x1.at_
    obtain ⟨e2, e3, -⟩ := X.out.x2.at_
    replace X := Lib.hid X.out.drew
    replace D1 := Lib.hid D1.out.drew
    replace D2 := Lib.hid D2.out.drew
    replace R1 := Lib.hid (Rd.drew1 R1.out)
    replace R2 := Lib.hid (Rd.drew1 R2.out)
    replace R_q := Lib.hid (Rd.drew1 R_q.out)
    replace R_r := Lib.hid (Rd.drew1 R_r.out)
    replace R_s := Lib.hid (Rd.drew1 R_s.out)
    replace R_t := Lib.hid (Rd.drew1 R_t.out)
    replace hT := Lib.hid (tab_drew hT.out)
    obtain ⟨f0, f1, -⟩ := D1.out.x1.at_
    obtain ⟨f2, f3, -⟩ := D1.out.x2.at_
    obtain ⟨g0, g1, -⟩ := D2.out.x1.at_
    obtain ⟨g2, g3, -⟩ := D2.out.x2.at_
    go_wp2_with fail
    go_region_held3 (fun w' => w'.cell? ⟨w.heap.size, 0, none⟩ = some (.bool b1) ∧ w'.cell? ⟨w.heap.size, 1, none⟩ = some (.slice A1 n1 c1) ∧ w'.cell? ⟨w.heap.size + 1, 0, none⟩ = some (.bool b2) ∧ w'.cell? ⟨w.heap.size + 1, 1, none⟩ = some (.slice A2 n2 c2) ∧ w'.cell? ⟨w4.heap.size, 0, none⟩ = some (.bool (ng zq)) ∧ w'.cell? ⟨w4.heap.size, 1, none⟩ = some (.slice A_q n_q c_q) ∧ w'.cell? ⟨w4.heap.size + 1, 0, none⟩ = some (.bool (ng zr)) ∧ w'.cell? ⟨w4.heap.size + 1, 1, none⟩ = some (.slice A_r n_r c_r) ∧ w'.cell? ⟨w5.heap.size, 0, none⟩ = some (.bool (ng zq)) ∧ w'.cell? ⟨w5.heap.size, 1, none⟩ = some (.slice A_s n_s c_s) ∧ w'.cell? ⟨w5.heap.size + 1, 0, none⟩ = some (.bool (ng zr)) ∧ w'.cell? ⟨w5.heap.size + 1, 1, none⟩ = some (.slice A_t n_t c_t))
      (first | exact ⟨e0, e1, e2, e3, f0, f1, f2, f3, g0, g1, g2, g3⟩)
      (first
        | (go_at_call 21; refine (awakeI_any _ (by exact hT.out)).mono ?_; rintro e w11 ⟨rfl, bb⟩; replace X := Lib.hid (X.out.on bb); replace R1 := Lib.hid (R1.out.below bb); replace R2 := Lib.hid (R2.out.below bb); replace R_q := Lib.hid (R_q.out.below bb); replace R_r := Lib.hid (R_r.out.below bb); replace R_s := Lib.hid (R_s.out.below bb); replace R_t := Lib.hid (R_t.out.below bb); (try (replace R_uadd := Lib.hid (R_uadd.out.below bb))); (try (replace R_vadd := Lib.hid (R_vadd.out.below bb))); (try (replace R_usub := Lib.hid (R_usub.out.below bb))); (try (replace R_vsub := Lib.hid (R_vsub.out.below bb))); (try (replace R_umul := Lib.hid (R_umul.out.below bb))); (try (replace R_vmul := Lib.hid (R_vmul.out.below bb))); (try (replace R_ga := Lib.hid (R_ga.out.below bb))); (try (replace R_gb := Lib.hid (R_gb.out.below bb))); replace hT := Lib.hid (tab_below hT.out bb); clear e0 e1 e2 e3 f0 f1 f2 f3 g0 g1 g2 g3; obtain ⟨e0, e1, -⟩ := X.out.x1.at_; obtain ⟨e2, e3, -⟩ := X.out.x2.at_; replace D1 := Lib.hid (D1.out.on bb); replace D2 := Lib.hid (D2.out.on bb); obtain ⟨f0, f1, -⟩ := D1.out.x1.at_; obtain ⟨f2, f3, -⟩ := D1.out.x2.at_; obtain ⟨g0, g1, -⟩ := D2.out.x1.at_; obtain ⟨g2, g3, -⟩ := D2.out.x2.at_; clear bb)
        | (go_at_call_of 37 #[Value.agg #[.bool b1, .slice A1 n1 c1], Value.agg #[.bool b2, .slice A2 n2 c2]]; refine (hAdd.out _ (by exact R1.out) (by exact R2.out)).mono ?_; rintro e w12 ⟨A_uadd, n_uadd, c_uadd, rfl, R_uadd, bb, l_uadd⟩; replace X := Lib.hid (X.out.on bb); replace R1 := Lib.hid (R1.out.below bb); replace R2 := Lib.hid (R2.out.below bb); replace R_q := Lib.hid (R_q.out.below bb); replace R_r := Lib.hid (R_r.out.below bb); replace R_s := Lib.hid (R_s.out.below bb); replace R_t := Lib.hid (R_t.out.below bb); (try (replace R_vadd := Lib.hid (R_vadd.out.below bb))); (try (replace R_usub := Lib.hid (R_usub.out.below bb))); (try (replace R_vsub := Lib.hid (R_vsub.out.below bb))); (try (replace R_umul := Lib.hid (R_umul.out.below bb))); (try (replace R_vmul := Lib.hid (R_vmul.out.below bb))); (try (replace R_ga := Lib.hid (R_ga.out.below bb))); (try (replace R_gb := Lib.hid (R_gb.out.below bb))); replace hT := Lib.hid (tab_below hT.out bb); clear e0 e1 e2 e3 f0 f1 f2 f3 g0 g1 g2 g3; obtain ⟨e0, e1, -⟩ := X.out.x1.at_; obtain ⟨e2, e3, -⟩ := X.out.x2.at_; replace D1 := Lib.hid (D1.out.on bb); replace D2 := Lib.hid (D2.out.on bb); obtain ⟨f0, f1, -⟩ := D1.out.x1.at_; obtain ⟨f2, f3, -⟩ := D1.out.x2.at_; obtain ⟨g0, g1, -⟩ := D2.out.x1.at_; obtain ⟨g2, g3, -⟩ := D2.out.x2.at_; clear bb; replace R_uadd := Lib.hid R_uadd)
        | (go_at_call_of 38 #[Value.agg #[.bool b1, .slice A1 n1 c1], Value.agg #[.bool b2, .slice A2 n2 c2]]; refine (hAdd2.out _ (by exact R1.out) (by exact R2.out)).mono ?_; rintro e w13 ⟨A_vadd, n_vadd, c_vadd, rfl, R_vadd, bb, l_vadd⟩; replace X := Lib.hid (X.out.on bb); replace R1 := Lib.hid (R1.out.below bb); replace R2 := Lib.hid (R2.out.below bb); replace R_q := Lib.hid (R_q.out.below bb); replace R_r := Lib.hid (R_r.out.below bb); replace R_s := Lib.hid (R_s.out.below bb); replace R_t := Lib.hid (R_t.out.below bb); (try (replace R_uadd := Lib.hid (R_uadd.out.below bb))); (try (replace R_usub := Lib.hid (R_usub.out.below bb))); (try (replace R_vsub := Lib.hid (R_vsub.out.below bb))); (try (replace R_umul := Lib.hid (R_umul.out.below bb))); (try (replace R_vmul := Lib.hid (R_vmul.out.below bb))); (try (replace R_ga := Lib.hid (R_ga.out.below bb))); (try (replace R_gb := Lib.hid (R_gb.out.below bb))); replace hT := Lib.hid (tab_below hT.out bb); clear e0 e1 e2 e3 f0 f1 f2 f3 g0 g1 g2 g3; obtain ⟨e0, e1, -⟩ := X.out.x1.at_; obtain ⟨e2, e3, -⟩ := X.out.x2.at_; replace D1 := Lib.hid (D1.out.on bb); replace D2 := Lib.hid (D2.out.on bb); obtain ⟨f0, f1, -⟩ := D1.out.x1.at_; obtain ⟨f2, f3, -⟩ := D1.out.x2.at_; obtain ⟨g0, g1, -⟩ := D2.out.x1.at_; obtain ⟨g2, g3, -⟩ := D2.out.x2.at_; clear bb; replace R_vadd := Lib.hid R_vadd)
        | (go_at_call_of 26 #[Value.agg #[.bool (ng (zadd)), .slice A_uadd n_uadd c_uadd], Value.agg #[.bool (ng (zadd)), .slice A_vadd n_vadd c_vadd]]; refine (same_z _ _ _ _ _ _ _ _ _ (by exact R_uadd.out) (by exact R_vadd.out) (by omega) (rfl)).mono ?_; rintro e w14 ⟨rfl, bb⟩; replace X := Lib.hid (X.out.on bb); replace R1 := Lib.hid (R1.out.below bb); replace R2 := Lib.hid (R2.out.below bb); replace R_q := Lib.hid (R_q.out.below bb); replace R_r := Lib.hid (R_r.out.below bb); replace R_s := Lib.hid (R_s.out.below bb); replace R_t := Lib.hid (R_t.out.below bb); (try (replace R_uadd := Lib.hid (R_uadd.out.below bb))); (try (replace R_vadd := Lib.hid (R_vadd.out.below bb))); (try (replace R_usub := Lib.hid (R_usub.out.below bb))); (try (replace R_vsub := Lib.hid (R_vsub.out.below bb))); (try (replace R_umul := Lib.hid (R_umul.out.below bb))); (try (replace R_vmul := Lib.hid (R_vmul.out.below bb))); (try (replace R_ga := Lib.hid (R_ga.out.below bb))); (try (replace R_gb := Lib.hid (R_gb.out.below bb))); replace hT := Lib.hid (tab_below hT.out bb); clear e0 e1 e2 e3 f0 f1 f2 f3 g0 g1 g2 g3; obtain ⟨e0, e1, -⟩ := X.out.x1.at_; obtain ⟨e2, e3, -⟩ := X.out.x2.at_; replace D1 := Lib.hid (D1.out.on bb); replace D2 := Lib.hid (D2.out.on bb); obtain ⟨f0, f1, -⟩ := D1.out.x1.at_; obtain ⟨f2, f3, -⟩ := D1.out.x2.at_; obtain ⟨g0, g1, -⟩ := D2.out.x1.at_; obtain ⟨g2, g3, -⟩ := D2.out.x2.at_; clear bb)
        | (go_at_call_of 39 #[Value.agg #[.bool b1, .slice A1 n1 c1], Value.agg #[.bool b2, .slice A2 n2 c2]]; refine (hSub.out _ (by exact R1.out) (by exact R2.out)).mono ?_; rintro e w15 ⟨A_usub, n_usub, c_usub, rfl, R_usub, bb, l_usub⟩; replace X := Lib.hid (X.out.on bb); replace R1 := Lib.hid (R1.out.below bb); replace R2 := Lib.hid (R2.out.below bb); replace R_q := Lib.hid (R_q.out.below bb); replace R_r := Lib.hid (R_r.out.below bb); replace R_s := Lib.hid (R_s.out.below bb); replace R_t := Lib.hid (R_t.out.below bb); (try (replace R_uadd := Lib.hid (R_uadd.out.below bb))); (try (replace R_vadd := Lib.hid (R_vadd.out.below bb))); (try (replace R_vsub := Lib.hid (R_vsub.out.below bb))); (try (replace R_umul := Lib.hid (R_umul.out.below bb))); (try (replace R_vmul := Lib.hid (R_vmul.out.below bb))); (try (replace R_ga := Lib.hid (R_ga.out.below bb))); (try (replace R_gb := Lib.hid (R_gb.out.below bb))); replace hT := Lib.hid (tab_below hT.out bb); clear e0 e1 e2 e3 f0 f1 f2 f3 g0 g1 g2 g3; obtain ⟨e0, e1, -⟩ := X.out.x1.at_; obtain ⟨e2, e3, -⟩ := X.out.x2.at_; replace D1 := Lib.hid (D1.out.on bb); replace D2 := Lib.hid (D2.out.on bb); obtain ⟨f0, f1, -⟩ := D1.out.x1.at_; obtain ⟨f2, f3, -⟩ := D1.out.x2.at_; obtain ⟨g0, g1, -⟩ := D2.out.x1.at_; obtain ⟨g2, g3, -⟩ := D2.out.x2.at_; clear bb; replace R_usub := Lib.hid R_usub)
        | (go_at_call_of 40 #[Value.agg #[.bool b1, .slice A1 n1 c1], Value.agg #[.bool b2, .slice A2 n2 c2]]; refine (hSub2.out _ (by exact R1.out) (by exact R2.out)).mono ?_; rintro e w16 ⟨A_vsub, n_vsub, c_vsub, rfl, R_vsub, bb, l_vsub⟩; replace X := Lib.hid (X.out.on bb); replace R1 := Lib.hid (R1.out.below bb); replace R2 := Lib.hid (R2.out.below bb); replace R_q := Lib.hid (R_q.out.below bb); replace R_r := Lib.hid (R_r.out.below bb); replace R_s := Lib.hid (R_s.out.below bb); replace R_t := Lib.hid (R_t.out.below bb); (try (replace R_uadd := Lib.hid (R_uadd.out.below bb))); (try (replace R_vadd := Lib.hid (R_vadd.out.below bb))); (try (replace R_usub := Lib.hid (R_usub.out.below bb))); (try (replace R_umul := Lib.hid (R_umul.out.below bb))); (try (replace R_vmul := Lib.hid (R_vmul.out.below bb))); (try (replace R_ga := Lib.hid (R_ga.out.below bb))); (try (replace R_gb := Lib.hid (R_gb.out.below bb))); replace hT := Lib.hid (tab_below hT.out bb); clear e0 e1 e2 e3 f0 f1 f2 f3 g0 g1 g2 g3; obtain ⟨e0, e1, -⟩ := X.out.x1.at_; obtain ⟨e2, e3, -⟩ := X.out.x2.at_; replace D1 := Lib.hid (D1.out.on bb); replace D2 := Lib.hid (D2.out.on bb); obtain ⟨f0, f1, -⟩ := D1.out.x1.at_; obtain ⟨f2, f3, -⟩ := D1.out.x2.at_; obtain ⟨g0, g1, -⟩ := D2.out.x1.at_; obtain ⟨g2, g3, -⟩ := D2.out.x2.at_; clear bb; replace R_vsub := Lib.hid R_vsub)
        | (go_at_call_of 26 #[Value.agg #[.bool (ng (zsub)), .slice A_usub n_usub c_usub], Value.agg #[.bool (ng (zsub)), .slice A_vsub n_vsub c_vsub]]; refine (same_z _ _ _ _ _ _ _ _ _ (by exact R_usub.out) (by exact R_vsub.out) (by omega) (rfl)).mono ?_; rintro e w17 ⟨rfl, bb⟩; replace X := Lib.hid (X.out.on bb); replace R1 := Lib.hid (R1.out.below bb); replace R2 := Lib.hid (R2.out.below bb); replace R_q := Lib.hid (R_q.out.below bb); replace R_r := Lib.hid (R_r.out.below bb); replace R_s := Lib.hid (R_s.out.below bb); replace R_t := Lib.hid (R_t.out.below bb); (try (replace R_uadd := Lib.hid (R_uadd.out.below bb))); (try (replace R_vadd := Lib.hid (R_vadd.out.below bb))); (try (replace R_usub := Lib.hid (R_usub.out.below bb))); (try (replace R_vsub := Lib.hid (R_vsub.out.below bb))); (try (replace R_umul := Lib.hid (R_umul.out.below bb))); (try (replace R_vmul := Lib.hid (R_vmul.out.below bb))); (try (replace R_ga := Lib.hid (R_ga.out.below bb))); (try (replace R_gb := Lib.hid (R_gb.out.below bb))); replace hT := Lib.hid (tab_below hT.out bb); clear e0 e1 e2 e3 f0 f1 f2 f3 g0 g1 g2 g3; obtain ⟨e0, e1, -⟩ := X.out.x1.at_; obtain ⟨e2, e3, -⟩ := X.out.x2.at_; replace D1 := Lib.hid (D1.out.on bb); replace D2 := Lib.hid (D2.out.on bb); obtain ⟨f0, f1, -⟩ := D1.out.x1.at_; obtain ⟨f2, f3, -⟩ := D1.out.x2.at_; obtain ⟨g0, g1, -⟩ := D2.out.x1.at_; obtain ⟨g2, g3, -⟩ := D2.out.x2.at_; clear bb)
        | (go_at_call_of 41 #[Value.agg #[.bool b1, .slice A1 n1 c1], Value.agg #[.bool b2, .slice A2 n2 c2]]; refine (hMul.out _ (by exact R1.out) (by exact R2.out)).mono ?_; rintro e w18 ⟨A_umul, n_umul, c_umul, rfl, R_umul, bb, l_umul⟩; replace X := Lib.hid (X.out.on bb); replace R1 := Lib.hid (R1.out.below bb); replace R2 := Lib.hid (R2.out.below bb); replace R_q := Lib.hid (R_q.out.below bb); replace R_r := Lib.hid (R_r.out.below bb); replace R_s := Lib.hid (R_s.out.below bb); replace R_t := Lib.hid (R_t.out.below bb); (try (replace R_uadd := Lib.hid (R_uadd.out.below bb))); (try (replace R_vadd := Lib.hid (R_vadd.out.below bb))); (try (replace R_usub := Lib.hid (R_usub.out.below bb))); (try (replace R_vsub := Lib.hid (R_vsub.out.below bb))); (try (replace R_vmul := Lib.hid (R_vmul.out.below bb))); (try (replace R_ga := Lib.hid (R_ga.out.below bb))); (try (replace R_gb := Lib.hid (R_gb.out.below bb))); replace hT := Lib.hid (tab_below hT.out bb); clear e0 e1 e2 e3 f0 f1 f2 f3 g0 g1 g2 g3; obtain ⟨e0, e1, -⟩ := X.out.x1.at_; obtain ⟨e2, e3, -⟩ := X.out.x2.at_; replace D1 := Lib.hid (D1.out.on bb); replace D2 := Lib.hid (D2.out.on bb); obtain ⟨f0, f1, -⟩ := D1.out.x1.at_; obtain ⟨f2, f3, -⟩ := D1.out.x2.at_; obtain ⟨g0, g1, -⟩ := D2.out.x1.at_; obtain ⟨g2, g3, -⟩ := D2.out.x2.at_; clear bb; replace R_umul := Lib.hid R_umul)
        | (go_at_call_of 42 #[Value.agg #[.bool b1, .slice A1 n1 c1], Value.agg #[.bool b2, .slice A2 n2 c2]]; refine (hMul2.out _ (by exact R1.out) (by exact R2.out)).mono ?_; rintro e w19 ⟨A_vmul, n_vmul, c_vmul, rfl, R_vmul, bb, l_vmul⟩; replace X := Lib.hid (X.out.on bb); replace R1 := Lib.hid (R1.out.below bb); replace R2 := Lib.hid (R2.out.below bb); replace R_q := Lib.hid (R_q.out.below bb); replace R_r := Lib.hid (R_r.out.below bb); replace R_s := Lib.hid (R_s.out.below bb); replace R_t := Lib.hid (R_t.out.below bb); (try (replace R_uadd := Lib.hid (R_uadd.out.below bb))); (try (replace R_vadd := Lib.hid (R_vadd.out.below bb))); (try (replace R_usub := Lib.hid (R_usub.out.below bb))); (try (replace R_vsub := Lib.hid (R_vsub.out.below bb))); (try (replace R_umul := Lib.hid (R_umul.out.below bb))); (try (replace R_ga := Lib.hid (R_ga.out.below bb))); (try (replace R_gb := Lib.hid (R_gb.out.below bb))); replace hT := Lib.hid (tab_below hT.out bb); clear e0 e1 e2 e3 f0 f1 f2 f3 g0 g1 g2 g3; obtain ⟨e0, e1, -⟩ := X.out.x1.at_; obtain ⟨e2, e3, -⟩ := X.out.x2.at_; replace D1 := Lib.hid (D1.out.on bb); replace D2 := Lib.hid (D2.out.on bb); obtain ⟨f0, f1, -⟩ := D1.out.x1.at_; obtain ⟨f2, f3, -⟩ := D1.out.x2.at_; obtain ⟨g0, g1, -⟩ := D2.out.x1.at_; obtain ⟨g2, g3, -⟩ := D2.out.x2.at_; clear bb; replace R_vmul := Lib.hid R_vmul)
        | (go_at_call_of 26 #[Value.agg #[.bool (ng (zmul)), .slice A_umul n_umul c_umul], Value.agg #[.bool (ng (zmul)), .slice A_vmul n_vmul c_vmul]]; refine (same_z _ _ _ _ _ _ _ _ _ (by exact R_umul.out) (by exact R_vmul.out) (by omega) (rfl)).mono ?_; rintro e w20 ⟨rfl, bb⟩; replace X := Lib.hid (X.out.on bb); replace R1 := Lib.hid (R1.out.below bb); replace R2 := Lib.hid (R2.out.below bb); replace R_q := Lib.hid (R_q.out.below bb); replace R_r := Lib.hid (R_r.out.below bb); replace R_s := Lib.hid (R_s.out.below bb); replace R_t := Lib.hid (R_t.out.below bb); (try (replace R_uadd := Lib.hid (R_uadd.out.below bb))); (try (replace R_vadd := Lib.hid (R_vadd.out.below bb))); (try (replace R_usub := Lib.hid (R_usub.out.below bb))); (try (replace R_vsub := Lib.hid (R_vsub.out.below bb))); (try (replace R_umul := Lib.hid (R_umul.out.below bb))); (try (replace R_vmul := Lib.hid (R_vmul.out.below bb))); (try (replace R_ga := Lib.hid (R_ga.out.below bb))); (try (replace R_gb := Lib.hid (R_gb.out.below bb))); replace hT := Lib.hid (tab_below hT.out bb); clear e0 e1 e2 e3 f0 f1 f2 f3 g0 g1 g2 g3; obtain ⟨e0, e1, -⟩ := X.out.x1.at_; obtain ⟨e2, e3, -⟩ := X.out.x2.at_; replace D1 := Lib.hid (D1.out.on bb); replace D2 := Lib.hid (D2.out.on bb); obtain ⟨f0, f1, -⟩ := D1.out.x1.at_; obtain ⟨f2, f3, -⟩ := D1.out.x2.at_; obtain ⟨g0, g1, -⟩ := D2.out.x1.at_; obtain ⟨g2, g3, -⟩ := D2.out.x2.at_; clear bb)
        | (go_at_call_of 26 #[Value.agg #[.bool (ng (zq)), .slice A_q n_q c_q], Value.agg #[.bool (ng (zq)), .slice A_s n_s c_s]]; refine (same_z _ _ _ _ _ _ _ _ _ (by exact R_q.out) (by exact R_s.out) (by omega) (rfl)).mono ?_; rintro e w21 ⟨rfl, bb⟩; replace X := Lib.hid (X.out.on bb); replace R1 := Lib.hid (R1.out.below bb); replace R2 := Lib.hid (R2.out.below bb); replace R_q := Lib.hid (R_q.out.below bb); replace R_r := Lib.hid (R_r.out.below bb); replace R_s := Lib.hid (R_s.out.below bb); replace R_t := Lib.hid (R_t.out.below bb); (try (replace R_uadd := Lib.hid (R_uadd.out.below bb))); (try (replace R_vadd := Lib.hid (R_vadd.out.below bb))); (try (replace R_usub := Lib.hid (R_usub.out.below bb))); (try (replace R_vsub := Lib.hid (R_vsub.out.below bb))); (try (replace R_umul := Lib.hid (R_umul.out.below bb))); (try (replace R_vmul := Lib.hid (R_vmul.out.below bb))); (try (replace R_ga := Lib.hid (R_ga.out.below bb))); (try (replace R_gb := Lib.hid (R_gb.out.below bb))); replace hT := Lib.hid (tab_below hT.out bb); clear e0 e1 e2 e3 f0 f1 f2 f3 g0 g1 g2 g3; obtain ⟨e0, e1, -⟩ := X.out.x1.at_; obtain ⟨e2, e3, -⟩ := X.out.x2.at_; replace D1 := Lib.hid (D1.out.on bb); replace D2 := Lib.hid (D2.out.on bb); obtain ⟨f0, f1, -⟩ := D1.out.x1.at_; obtain ⟨f2, f3, -⟩ := D1.out.x2.at_; obtain ⟨g0, g1, -⟩ := D2.out.x1.at_; obtain ⟨g2, g3, -⟩ := D2.out.x2.at_; clear bb)
        | (go_at_call_of 26 #[Value.agg #[.bool (ng (zr)), .slice A_r n_r c_r], Value.agg #[.bool (ng (zr)), .slice A_t n_t c_t]]; refine (same_z _ _ _ _ _ _ _ _ _ (by exact R_r.out) (by exact R_t.out) (by omega) (rfl)).mono ?_; rintro e w22 ⟨rfl, bb⟩; replace X := Lib.hid (X.out.on bb); replace R1 := Lib.hid (R1.out.below bb); replace R2 := Lib.hid (R2.out.below bb); replace R_q := Lib.hid (R_q.out.below bb); replace R_r := Lib.hid (R_r.out.below bb); replace R_s := Lib.hid (R_s.out.below bb); replace R_t := Lib.hid (R_t.out.below bb); (try (replace R_uadd := Lib.hid (R_uadd.out.below bb))); (try (replace R_vadd := Lib.hid (R_vadd.out.below bb))); (try (replace R_usub := Lib.hid (R_usub.out.below bb))); (try (replace R_vsub := Lib.hid (R_vsub.out.below bb))); (try (replace R_umul := Lib.hid (R_umul.out.below bb))); (try (replace R_vmul := Lib.hid (R_vmul.out.below bb))); (try (replace R_ga := Lib.hid (R_ga.out.below bb))); (try (replace R_gb := Lib.hid (R_gb.out.below bb))); replace hT := Lib.hid (tab_below hT.out bb); clear e0 e1 e2 e3 f0 f1 f2 f3 g0 g1 g2 g3; obtain ⟨e0, e1, -⟩ := X.out.x1.at_; obtain ⟨e2, e3, -⟩ := X.out.x2.at_; replace D1 := Lib.hid (D1.out.on bb); replace D2 := Lib.hid (D2.out.on bb); obtain ⟨f0, f1, -⟩ := D1.out.x1.at_; obtain ⟨f2, f3, -⟩ := D1.out.x2.at_; obtain ⟨g0, g1, -⟩ := D2.out.x1.at_; obtain ⟨g2, g3, -⟩ := D2.out.x2.at_; clear bb)
        | (go_at_call_of 43 #[Value.agg #[.bool b1, .slice A1 n1 c1], Value.agg #[.bool b2, .slice A2 n2 c2]]; refine (hG.out _ (by exact R1.out) (by exact R2.out)).mono ?_; rintro e w23 ⟨A_ga, n_ga, c_ga, rfl, R_ga, bb⟩; replace X := Lib.hid (X.out.on bb); replace R1 := Lib.hid (R1.out.below bb); replace R2 := Lib.hid (R2.out.below bb); replace R_q := Lib.hid (R_q.out.below bb); replace R_r := Lib.hid (R_r.out.below bb); replace R_s := Lib.hid (R_s.out.below bb); replace R_t := Lib.hid (R_t.out.below bb); (try (replace R_uadd := Lib.hid (R_uadd.out.below bb))); (try (replace R_vadd := Lib.hid (R_vadd.out.below bb))); (try (replace R_usub := Lib.hid (R_usub.out.below bb))); (try (replace R_vsub := Lib.hid (R_vsub.out.below bb))); (try (replace R_umul := Lib.hid (R_umul.out.below bb))); (try (replace R_vmul := Lib.hid (R_vmul.out.below bb))); (try (replace R_gb := Lib.hid (R_gb.out.below bb))); replace hT := Lib.hid (tab_below hT.out bb); clear e0 e1 e2 e3 f0 f1 f2 f3 g0 g1 g2 g3; obtain ⟨e0, e1, -⟩ := X.out.x1.at_; obtain ⟨e2, e3, -⟩ := X.out.x2.at_; replace D1 := Lib.hid (D1.out.on bb); replace D2 := Lib.hid (D2.out.on bb); obtain ⟨f0, f1, -⟩ := D1.out.x1.at_; obtain ⟨f2, f3, -⟩ := D1.out.x2.at_; obtain ⟨g0, g1, -⟩ := D2.out.x1.at_; obtain ⟨g2, g3, -⟩ := D2.out.x2.at_; clear bb; replace R_ga := Lib.hid R_ga)
        | (go_at_call_of 44 #[Value.agg #[.bool b1, .slice A1 n1 c1], Value.agg #[.bool b2, .slice A2 n2 c2]]; refine (hG2.out _ (by exact R1.out) (by exact R2.out)).mono ?_; rintro e w24 ⟨A_gb, n_gb, c_gb, rfl, R_gb, bb⟩; replace X := Lib.hid (X.out.on bb); replace R1 := Lib.hid (R1.out.below bb); replace R2 := Lib.hid (R2.out.below bb); replace R_q := Lib.hid (R_q.out.below bb); replace R_r := Lib.hid (R_r.out.below bb); replace R_s := Lib.hid (R_s.out.below bb); replace R_t := Lib.hid (R_t.out.below bb); (try (replace R_uadd := Lib.hid (R_uadd.out.below bb))); (try (replace R_vadd := Lib.hid (R_vadd.out.below bb))); (try (replace R_usub := Lib.hid (R_usub.out.below bb))); (try (replace R_vsub := Lib.hid (R_vsub.out.below bb))); (try (replace R_umul := Lib.hid (R_umul.out.below bb))); (try (replace R_vmul := Lib.hid (R_vmul.out.below bb))); (try (replace R_ga := Lib.hid (R_ga.out.below bb))); replace hT := Lib.hid (tab_below hT.out bb); clear e0 e1 e2 e3 f0 f1 f2 f3 g0 g1 g2 g3; obtain ⟨e0, e1, -⟩ := X.out.x1.at_; obtain ⟨e2, e3, -⟩ := X.out.x2.at_; replace D1 := Lib.hid (D1.out.on bb); replace D2 := Lib.hid (D2.out.on bb); obtain ⟨f0, f1, -⟩ := D1.out.x1.at_; obtain ⟨f2, f3, -⟩ := D1.out.x2.at_; obtain ⟨g0, g1, -⟩ := D2.out.x1.at_; obtain ⟨g2, g3, -⟩ := D2.out.x2.at_; clear bb; replace R_gb := Lib.hid R_gb)
        | (go_at_call 18; refine (same_b _ _ _ _ _ _ _ _ _ (by exact R_ga.out) (by exact R_gb.out) (by have := R_ga.out.len; have := lg.out; omega) rfl).mono ?_; rintro e w25 ⟨rfl, bb⟩; replace X := Lib.hid (X.out.on bb); replace R1 := Lib.hid (R1.out.below bb); replace R2 := Lib.hid (R2.out.below bb); replace R_q := Lib.hid (R_q.out.below bb); replace R_r := Lib.hid (R_r.out.below bb); replace R_s := Lib.hid (R_s.out.below bb); replace R_t := Lib.hid (R_t.out.below bb); (try (replace R_uadd := Lib.hid (R_uadd.out.below bb))); (try (replace R_vadd := Lib.hid (R_vadd.out.below bb))); (try (replace R_usub := Lib.hid (R_usub.out.below bb))); (try (replace R_vsub := Lib.hid (R_vsub.out.below bb))); (try (replace R_umul := Lib.hid (R_umul.out.below bb))); (try (replace R_vmul := Lib.hid (R_vmul.out.below bb))); (try (replace R_ga := Lib.hid (R_ga.out.below bb))); (try (replace R_gb := Lib.hid (R_gb.out.below bb))); replace hT := Lib.hid (tab_below hT.out bb); clear e0 e1 e2 e3 f0 f1 f2 f3 g0 g1 g2 g3; obtain ⟨e0, e1, -⟩ := X.out.x1.at_; obtain ⟨e2, e3, -⟩ := X.out.x2.at_; replace D1 := Lib.hid (D1.out.on bb); replace D2 := Lib.hid (D2.out.on bb); obtain ⟨f0, f1, -⟩ := D1.out.x1.at_; obtain ⟨f2, f3, -⟩ := D1.out.x2.at_; obtain ⟨g0, g1, -⟩ := D2.out.x1.at_; obtain ⟨g2, g3, -⟩ := D2.out.x2.at_; clear bb))
    all_goals
      have Bz := Lib.hid X.out.bel
      go_wp2
      go_ret
      exact ⟨rfl, Bz.out⟩
end Go.Proofs.YtkdeajocogdmgaaDoor
