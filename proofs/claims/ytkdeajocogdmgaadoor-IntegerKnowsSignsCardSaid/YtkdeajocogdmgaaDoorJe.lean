/- The walk of the law IntegerKnowsSigns. -/
import Derived.Test.YtkdeajocogdmgaaDoorQJaz
namespace Go.Proofs.YtkdeajocogdmgaaDoor
open Go.RowKit

theorem cmp_negs (x y : Int) : cmpi (-x) (-y) = cmpi y x := by
  unfold cmpi
  by_cases h1 : y < x
  · rw [if_pos (by omega), if_pos h1]
  · rw [if_neg (by omega), if_neg h1]
    by_cases h2 : x < y
    · rw [if_pos (by omega), if_pos h2]
    · rw [if_neg (by omega), if_neg h2]
theorem cmp_shift (x y z : Int) : cmpi (x + z) (y + z) = cmpi x y := by
  unfold cmpi
  by_cases h1 : x < y
  · rw [if_pos (by omega), if_pos h1]
  · rw [if_neg (by omega), if_neg h1]
    by_cases h2 : y < x
    · rw [if_pos (by omega), if_pos h2]
    · rw [if_neg (by omega), if_neg h2]
theorem sign_bd (x : Int) : -1 ≤ x.sign ∧ x.sign ≤ 1 := by
  rcases Int.lt_trichotomy x 0 with h | h | h <;> simp [h, Int.sign_eq_neg_one_of_neg, Int.sign_eq_one_of_pos]

set_option maxHeartbeats 16000000 in
theorem lawI_signs (b1 : Bool) (A1 : Option Addr) (n1 c1 : Nat) (xs : List Nat) (b2 : Bool) (A2 : Option Addr) (n2 c2 : Nat) (ys : List Nat) (b3 : Bool) (A3 : Option Addr) (n3 c3 : Nat) (zs : List Nat) (w : World) (h1 : Rd w A1 n1 c1 xs) (m1 : n1 ≤ 9223372036854775807) (h2 : Rd w A2 n2 c2 ys) (m2 : n2 ≤ 9223372036854775807) (h3 : Rd w A3 n3 c3 zs) (m3 : n3 ≤ 9223372036854775807) (htab : Tab w) :
    Calls Tryd.prog 9 #[.agg #[.bool b1, .slice A1 n1 c1], .agg #[.bool b2, .slice A2 n2 c2], .agg #[.bool b3, .slice A3 n3 c3]] w fun e w' => e = .returned (.bool true) ∧ Below w.heap.size w w' := by
  have X := B3.new w b1 A1 n1 c1 b2 A2 n2 c2 b3 A3 n3 c3
  have R1 := Lib.hid (h1.below X.bel)
  have R2 := Lib.hid (h2.below X.bel)
  have R3 := Lib.hid (h3.below X.bel)
  have hT := Lib.hid (tab_below htab X.bel)
  have hf := fairI_any b1 A1 n1 c1 xs b2 A2 n2 c2 ys b3 A3 n3 c3 zs _ R1.out m1 R2.out m2 R3.out m3
  clear htab
  replace X := Lib.hid X
  cases hF : fairI n1 n2 n3 b1 xs b2 ys b3 zs
  · rw [hF] at hf
    replace hf := Lib.hid hf
    clear hF h1 h2 h3 m1 m2 m3 R1 R2 R3
    go_enter Tryd.func9, Tryd.ntmps9
    go_wp2_with fail
    refine hf.out.mono ?_
    rintro e w1 ⟨rfl, bb⟩
    replace X := Lib.hid (X.out.on bb)
    replace hT := Lib.hid (tab_below hT.out bb)
    clear bb hf
    go_wp2_with fail
    refine (awakeI_any _ hT.out).mono ?_
    rintro e w2 ⟨rfl, bb⟩
    replace X := Lib.hid (X.out.on bb)
    clear bb
    go_wp2
    go_ret
    exact ⟨rfl, X.out.bel⟩
  rw [hF] at hf
  obtain ⟨l1, l2, l3, v1, v2, v3⟩ := fairI_yes hF
  obtain ⟨eb1, ex1⟩ := canon h1.sm v1
  obtain ⟨eb2, ex2⟩ := canon h2.sm v2
  obtain ⟨eb3, ex3⟩ := canon h3.sm v3
  clear hF v1 v2 v3 m1 m2 m3 h1 h2 h3
  generalize iv b1 xs = x at eb1 ex1
  generalize iv b2 ys = y at eb2 ex2
  generalize iv b3 zs = z at eb3 ex3
  subst eb1 ex1 eb2 ex2 eb3 ex3
  replace hf := Lib.hid hf
  go_enter Tryd.func9, Tryd.ntmps9
  go_wp2_with fail
  refine hf.out.mono ?_
  rintro e w1 ⟨rfl, bb⟩
  replace X := X.out.on bb
  replace R1 := Lib.hid (Rd.drew1 (R1.out.below bb))
  replace R2 := Lib.hid (Rd.drew1 (R2.out.below bb))
  replace R3 := Lib.hid (Rd.drew1 (R3.out.below bb))
  replace hT := Lib.hid (tab_drew (tab_below hT.out bb))
  clear bb hf
  obtain ⟨e0, e1, -⟩ := X.x1.at_
  obtain ⟨e2, e3, -⟩ := X.x2.at_
  obtain ⟨e4, e5, -⟩ := X.x3.at_
  replace X := Lib.hid X.drew
  go_wp2_with fail
  obtain ⟨sx, hsx⟩ : ∃ k, x.sign = k := ⟨_, rfl⟩
  obtain ⟨sy, hsy⟩ : ∃ k, y.sign = k := ⟨_, rfl⟩
  obtain ⟨kxy, hkxy⟩ : ∃ k, cmpi x y = k := ⟨_, rfl⟩
  obtain ⟨kyx, hkyx⟩ : ∃ k, cmpi y x = k := ⟨_, rfl⟩
  have hsp : Hid ((x * y).sign = sx * sy) := by rw [Int.sign_mul, hsx, hsy]; exact Lib.hid rfl
  have hw : IntKind.i64.wrap (sx * sy) = sx * sy := by
    have h1 := sign_bd x
    have h2 := sign_bd y
    rw [hsx] at h1
    rw [hsy] at h2
    have h3 : sx = -1 ∨ sx = 0 ∨ sx = 1 := by omega
    have h4 : sy = -1 ∨ sy = 0 ∨ sy = 1 := by omega
    rcases h3 with rfl | rfl | rfl <;> rcases h4 with rfl | rfl | rfl <;> (rw [IntKind.wrap_i64]; omega)
  replace hsx := Lib.hid hsx
  replace hsy := Lib.hid hsy
  replace hkxy := Lib.hid hkxy
  replace hkyx := Lib.hid hkyx
  go_region_held3 (fun w' => w'.cell? ⟨w.heap.size, 0, none⟩ = some (.bool (ng x)) ∧ w'.cell? ⟨w.heap.size, 1, none⟩ = some (.slice A1 n1 c1) ∧ w'.cell? ⟨w.heap.size + 1, 0, none⟩ = some (.bool (ng y)) ∧ w'.cell? ⟨w.heap.size + 1, 1, none⟩ = some (.slice A2 n2 c2) ∧ w'.cell? ⟨w.heap.size + 1 + 1, 0, none⟩ = some (.bool (ng z)) ∧ w'.cell? ⟨w.heap.size + 1 + 1, 1, none⟩ = some (.slice A3 n3 c3))
    (first | exact ⟨e0, e1, e2, e3, e4, e5⟩)
    (first
      | (go_at_call 21; refine (awakeI_any _ (by exact hT.out)).mono ?_; rintro e w11 ⟨rfl, bb⟩; replace X := Lib.hid (X.out.on bb); replace R1 := Lib.hid (R1.out.below bb); replace R2 := Lib.hid (R2.out.below bb); replace R3 := Lib.hid (R3.out.below bb); (try (replace R_p := Lib.hid (R_p.out.below bb))); (try (replace R_d := Lib.hid (R_d.out.below bb))); (try (replace R_nx := Lib.hid (R_nx.out.below bb))); (try (replace R_ny := Lib.hid (R_ny.out.below bb))); (try (replace R_xz := Lib.hid (R_xz.out.below bb))); (try (replace R_yz := Lib.hid (R_yz.out.below bb))); replace hT := Lib.hid (tab_below hT.out bb); clear e0 e1 e2 e3 e4 e5; obtain ⟨e0, e1, -⟩ := X.out.x1.at_; obtain ⟨e2, e3, -⟩ := X.out.x2.at_; obtain ⟨e4, e5, -⟩ := X.out.x3.at_; clear bb)
      | (go_at_call_of 41 #[Value.agg #[.bool (ng (x)), .slice A1 n1 c1], Value.agg #[.bool (ng (y)), .slice A2 n2 c2]]; refine (mul_z _ _ _ _ _ _ _ _ _ 10 (by exact R1.out) (by exact R2.out) (by omega) (by omega) (by omega)).mono ?_; rintro e w12 ⟨A_p, n_p, c_p, rfl, R_p, bb, l_p⟩; replace X := Lib.hid (X.out.on bb); replace R1 := Lib.hid (R1.out.below bb); replace R2 := Lib.hid (R2.out.below bb); replace R3 := Lib.hid (R3.out.below bb); (try (replace R_d := Lib.hid (R_d.out.below bb))); (try (replace R_nx := Lib.hid (R_nx.out.below bb))); (try (replace R_ny := Lib.hid (R_ny.out.below bb))); (try (replace R_xz := Lib.hid (R_xz.out.below bb))); (try (replace R_yz := Lib.hid (R_yz.out.below bb))); replace hT := Lib.hid (tab_below hT.out bb); clear e0 e1 e2 e3 e4 e5; obtain ⟨e0, e1, -⟩ := X.out.x1.at_; obtain ⟨e2, e3, -⟩ := X.out.x2.at_; obtain ⟨e4, e5, -⟩ := X.out.x3.at_; clear bb; replace R_p := Lib.hid R_p)
      | (go_at_call_of 29 #[Value.agg #[.bool (ng ((x) * (y))), .slice A_p n_p c_p]]; refine (sign_z _ _ _ _ _ (sx * sy) (by exact R_p.out) (by omega) (hsp.out)).mono ?_; rintro e w13 ⟨rfl, bb⟩; replace X := Lib.hid (X.out.on bb); replace R1 := Lib.hid (R1.out.below bb); replace R2 := Lib.hid (R2.out.below bb); replace R3 := Lib.hid (R3.out.below bb); (try (replace R_p := Lib.hid (R_p.out.below bb))); (try (replace R_d := Lib.hid (R_d.out.below bb))); (try (replace R_nx := Lib.hid (R_nx.out.below bb))); (try (replace R_ny := Lib.hid (R_ny.out.below bb))); (try (replace R_xz := Lib.hid (R_xz.out.below bb))); (try (replace R_yz := Lib.hid (R_yz.out.below bb))); replace hT := Lib.hid (tab_below hT.out bb); clear e0 e1 e2 e3 e4 e5; obtain ⟨e0, e1, -⟩ := X.out.x1.at_; obtain ⟨e2, e3, -⟩ := X.out.x2.at_; obtain ⟨e4, e5, -⟩ := X.out.x3.at_; clear bb)
      | (go_at_call_of 29 #[Value.agg #[.bool (ng (x)), .slice A1 n1 c1]]; refine (sign_z _ _ _ _ _ (sx) (by exact R1.out) (by omega) (hsx.out)).mono ?_; rintro e w14 ⟨rfl, bb⟩; replace X := Lib.hid (X.out.on bb); replace R1 := Lib.hid (R1.out.below bb); replace R2 := Lib.hid (R2.out.below bb); replace R3 := Lib.hid (R3.out.below bb); (try (replace R_p := Lib.hid (R_p.out.below bb))); (try (replace R_d := Lib.hid (R_d.out.below bb))); (try (replace R_nx := Lib.hid (R_nx.out.below bb))); (try (replace R_ny := Lib.hid (R_ny.out.below bb))); (try (replace R_xz := Lib.hid (R_xz.out.below bb))); (try (replace R_yz := Lib.hid (R_yz.out.below bb))); replace hT := Lib.hid (tab_below hT.out bb); clear e0 e1 e2 e3 e4 e5; obtain ⟨e0, e1, -⟩ := X.out.x1.at_; obtain ⟨e2, e3, -⟩ := X.out.x2.at_; obtain ⟨e4, e5, -⟩ := X.out.x3.at_; clear bb)
      | (go_at_call_of 29 #[Value.agg #[.bool (ng (y)), .slice A2 n2 c2]]; refine (sign_z _ _ _ _ _ (sy) (by exact R2.out) (by omega) (hsy.out)).mono ?_; rintro e w15 ⟨rfl, bb⟩; replace X := Lib.hid (X.out.on bb); replace R1 := Lib.hid (R1.out.below bb); replace R2 := Lib.hid (R2.out.below bb); replace R3 := Lib.hid (R3.out.below bb); (try (replace R_p := Lib.hid (R_p.out.below bb))); (try (replace R_d := Lib.hid (R_d.out.below bb))); (try (replace R_nx := Lib.hid (R_nx.out.below bb))); (try (replace R_ny := Lib.hid (R_ny.out.below bb))); (try (replace R_xz := Lib.hid (R_xz.out.below bb))); (try (replace R_yz := Lib.hid (R_yz.out.below bb))); replace hT := Lib.hid (tab_below hT.out bb); clear e0 e1 e2 e3 e4 e5; obtain ⟨e0, e1, -⟩ := X.out.x1.at_; obtain ⟨e2, e3, -⟩ := X.out.x2.at_; obtain ⟨e4, e5, -⟩ := X.out.x3.at_; clear bb)
      | (go_at_call_of 33 #[Value.agg #[.bool (ng (x)), .slice A1 n1 c1], Value.agg #[.bool (ng (y)), .slice A2 n2 c2]]; refine (compare_z _ _ _ _ _ _ _ _ _ (kxy) (by exact R1.out) (by exact R2.out) (by omega) (by omega) (hkxy.out)).mono ?_; rintro e w16 ⟨rfl, bb⟩; replace X := Lib.hid (X.out.on bb); replace R1 := Lib.hid (R1.out.below bb); replace R2 := Lib.hid (R2.out.below bb); replace R3 := Lib.hid (R3.out.below bb); (try (replace R_p := Lib.hid (R_p.out.below bb))); (try (replace R_d := Lib.hid (R_d.out.below bb))); (try (replace R_nx := Lib.hid (R_nx.out.below bb))); (try (replace R_ny := Lib.hid (R_ny.out.below bb))); (try (replace R_xz := Lib.hid (R_xz.out.below bb))); (try (replace R_yz := Lib.hid (R_yz.out.below bb))); replace hT := Lib.hid (tab_below hT.out bb); clear e0 e1 e2 e3 e4 e5; obtain ⟨e0, e1, -⟩ := X.out.x1.at_; obtain ⟨e2, e3, -⟩ := X.out.x2.at_; obtain ⟨e4, e5, -⟩ := X.out.x3.at_; clear bb)
      | (go_at_call_of 39 #[Value.agg #[.bool (ng (x)), .slice A1 n1 c1], Value.agg #[.bool (ng (y)), .slice A2 n2 c2]]; refine (sub_z _ _ _ _ _ _ _ _ _ 10 (by exact R1.out) (by exact R2.out) (by omega) (by omega) (by omega)).mono ?_; rintro e w17 ⟨A_d, n_d, c_d, rfl, R_d, bb, l_d⟩; replace X := Lib.hid (X.out.on bb); replace R1 := Lib.hid (R1.out.below bb); replace R2 := Lib.hid (R2.out.below bb); replace R3 := Lib.hid (R3.out.below bb); (try (replace R_p := Lib.hid (R_p.out.below bb))); (try (replace R_nx := Lib.hid (R_nx.out.below bb))); (try (replace R_ny := Lib.hid (R_ny.out.below bb))); (try (replace R_xz := Lib.hid (R_xz.out.below bb))); (try (replace R_yz := Lib.hid (R_yz.out.below bb))); replace hT := Lib.hid (tab_below hT.out bb); clear e0 e1 e2 e3 e4 e5; obtain ⟨e0, e1, -⟩ := X.out.x1.at_; obtain ⟨e2, e3, -⟩ := X.out.x2.at_; obtain ⟨e4, e5, -⟩ := X.out.x3.at_; clear bb; replace R_d := Lib.hid R_d)
      | (go_at_call_of 29 #[Value.agg #[.bool (ng ((x) - (y))), .slice A_d n_d c_d]]; refine (sign_z _ _ _ _ _ (kxy) (by exact R_d.out) (by omega) (by rw [cmp_of_sub]; exact hkxy.out)).mono ?_; rintro e w18 ⟨rfl, bb⟩; replace X := Lib.hid (X.out.on bb); replace R1 := Lib.hid (R1.out.below bb); replace R2 := Lib.hid (R2.out.below bb); replace R3 := Lib.hid (R3.out.below bb); (try (replace R_p := Lib.hid (R_p.out.below bb))); (try (replace R_d := Lib.hid (R_d.out.below bb))); (try (replace R_nx := Lib.hid (R_nx.out.below bb))); (try (replace R_ny := Lib.hid (R_ny.out.below bb))); (try (replace R_xz := Lib.hid (R_xz.out.below bb))); (try (replace R_yz := Lib.hid (R_yz.out.below bb))); replace hT := Lib.hid (tab_below hT.out bb); clear e0 e1 e2 e3 e4 e5; obtain ⟨e0, e1, -⟩ := X.out.x1.at_; obtain ⟨e2, e3, -⟩ := X.out.x2.at_; obtain ⟨e4, e5, -⟩ := X.out.x3.at_; clear bb)
      | (go_at_call_of 31 #[Value.agg #[.bool (ng (x)), .slice A1 n1 c1]]; refine (neg_z _ _ _ _ _ 10 (by exact R1.out) (by omega) (by omega)).mono ?_; rintro e w19 ⟨A_nx, n_nx, c_nx, rfl, R_nx, bb, l_nx⟩; replace X := Lib.hid (X.out.on bb); replace R1 := Lib.hid (R1.out.below bb); replace R2 := Lib.hid (R2.out.below bb); replace R3 := Lib.hid (R3.out.below bb); (try (replace R_p := Lib.hid (R_p.out.below bb))); (try (replace R_d := Lib.hid (R_d.out.below bb))); (try (replace R_ny := Lib.hid (R_ny.out.below bb))); (try (replace R_xz := Lib.hid (R_xz.out.below bb))); (try (replace R_yz := Lib.hid (R_yz.out.below bb))); replace hT := Lib.hid (tab_below hT.out bb); clear e0 e1 e2 e3 e4 e5; obtain ⟨e0, e1, -⟩ := X.out.x1.at_; obtain ⟨e2, e3, -⟩ := X.out.x2.at_; obtain ⟨e4, e5, -⟩ := X.out.x3.at_; clear bb; replace R_nx := Lib.hid R_nx)
      | (go_at_call_of 31 #[Value.agg #[.bool (ng (y)), .slice A2 n2 c2]]; refine (neg_z _ _ _ _ _ 10 (by exact R2.out) (by omega) (by omega)).mono ?_; rintro e w20 ⟨A_ny, n_ny, c_ny, rfl, R_ny, bb, l_ny⟩; replace X := Lib.hid (X.out.on bb); replace R1 := Lib.hid (R1.out.below bb); replace R2 := Lib.hid (R2.out.below bb); replace R3 := Lib.hid (R3.out.below bb); (try (replace R_p := Lib.hid (R_p.out.below bb))); (try (replace R_d := Lib.hid (R_d.out.below bb))); (try (replace R_nx := Lib.hid (R_nx.out.below bb))); (try (replace R_xz := Lib.hid (R_xz.out.below bb))); (try (replace R_yz := Lib.hid (R_yz.out.below bb))); replace hT := Lib.hid (tab_below hT.out bb); clear e0 e1 e2 e3 e4 e5; obtain ⟨e0, e1, -⟩ := X.out.x1.at_; obtain ⟨e2, e3, -⟩ := X.out.x2.at_; obtain ⟨e4, e5, -⟩ := X.out.x3.at_; clear bb; replace R_ny := Lib.hid R_ny)
      | (go_at_call_of 33 #[Value.agg #[.bool (ng (-(x))), .slice A_nx n_nx c_nx], Value.agg #[.bool (ng (-(y))), .slice A_ny n_ny c_ny]]; refine (compare_z _ _ _ _ _ _ _ _ _ (kyx) (by exact R_nx.out) (by exact R_ny.out) (by omega) (by omega) (by rw [cmp_negs]; exact hkyx.out)).mono ?_; rintro e w21 ⟨rfl, bb⟩; replace X := Lib.hid (X.out.on bb); replace R1 := Lib.hid (R1.out.below bb); replace R2 := Lib.hid (R2.out.below bb); replace R3 := Lib.hid (R3.out.below bb); (try (replace R_p := Lib.hid (R_p.out.below bb))); (try (replace R_d := Lib.hid (R_d.out.below bb))); (try (replace R_nx := Lib.hid (R_nx.out.below bb))); (try (replace R_ny := Lib.hid (R_ny.out.below bb))); (try (replace R_xz := Lib.hid (R_xz.out.below bb))); (try (replace R_yz := Lib.hid (R_yz.out.below bb))); replace hT := Lib.hid (tab_below hT.out bb); clear e0 e1 e2 e3 e4 e5; obtain ⟨e0, e1, -⟩ := X.out.x1.at_; obtain ⟨e2, e3, -⟩ := X.out.x2.at_; obtain ⟨e4, e5, -⟩ := X.out.x3.at_; clear bb)
      | (go_at_call_of 33 #[Value.agg #[.bool (ng (y)), .slice A2 n2 c2], Value.agg #[.bool (ng (x)), .slice A1 n1 c1]]; refine (compare_z _ _ _ _ _ _ _ _ _ (kyx) (by exact R2.out) (by exact R1.out) (by omega) (by omega) (hkyx.out)).mono ?_; rintro e w22 ⟨rfl, bb⟩; replace X := Lib.hid (X.out.on bb); replace R1 := Lib.hid (R1.out.below bb); replace R2 := Lib.hid (R2.out.below bb); replace R3 := Lib.hid (R3.out.below bb); (try (replace R_p := Lib.hid (R_p.out.below bb))); (try (replace R_d := Lib.hid (R_d.out.below bb))); (try (replace R_nx := Lib.hid (R_nx.out.below bb))); (try (replace R_ny := Lib.hid (R_ny.out.below bb))); (try (replace R_xz := Lib.hid (R_xz.out.below bb))); (try (replace R_yz := Lib.hid (R_yz.out.below bb))); replace hT := Lib.hid (tab_below hT.out bb); clear e0 e1 e2 e3 e4 e5; obtain ⟨e0, e1, -⟩ := X.out.x1.at_; obtain ⟨e2, e3, -⟩ := X.out.x2.at_; obtain ⟨e4, e5, -⟩ := X.out.x3.at_; clear bb)
      | (go_at_call_of 37 #[Value.agg #[.bool (ng (x)), .slice A1 n1 c1], Value.agg #[.bool (ng (z)), .slice A3 n3 c3]]; refine (add_z _ _ _ _ _ _ _ _ _ 10 (by exact R1.out) (by exact R3.out) (by omega) (by omega) (by omega)).mono ?_; rintro e w23 ⟨A_xz, n_xz, c_xz, rfl, R_xz, bb, l_xz⟩; replace X := Lib.hid (X.out.on bb); replace R1 := Lib.hid (R1.out.below bb); replace R2 := Lib.hid (R2.out.below bb); replace R3 := Lib.hid (R3.out.below bb); (try (replace R_p := Lib.hid (R_p.out.below bb))); (try (replace R_d := Lib.hid (R_d.out.below bb))); (try (replace R_nx := Lib.hid (R_nx.out.below bb))); (try (replace R_ny := Lib.hid (R_ny.out.below bb))); (try (replace R_yz := Lib.hid (R_yz.out.below bb))); replace hT := Lib.hid (tab_below hT.out bb); clear e0 e1 e2 e3 e4 e5; obtain ⟨e0, e1, -⟩ := X.out.x1.at_; obtain ⟨e2, e3, -⟩ := X.out.x2.at_; obtain ⟨e4, e5, -⟩ := X.out.x3.at_; clear bb; replace R_xz := Lib.hid R_xz)
      | (go_at_call_of 37 #[Value.agg #[.bool (ng (y)), .slice A2 n2 c2], Value.agg #[.bool (ng (z)), .slice A3 n3 c3]]; refine (add_z _ _ _ _ _ _ _ _ _ 10 (by exact R2.out) (by exact R3.out) (by omega) (by omega) (by omega)).mono ?_; rintro e w24 ⟨A_yz, n_yz, c_yz, rfl, R_yz, bb, l_yz⟩; replace X := Lib.hid (X.out.on bb); replace R1 := Lib.hid (R1.out.below bb); replace R2 := Lib.hid (R2.out.below bb); replace R3 := Lib.hid (R3.out.below bb); (try (replace R_p := Lib.hid (R_p.out.below bb))); (try (replace R_d := Lib.hid (R_d.out.below bb))); (try (replace R_nx := Lib.hid (R_nx.out.below bb))); (try (replace R_ny := Lib.hid (R_ny.out.below bb))); (try (replace R_xz := Lib.hid (R_xz.out.below bb))); replace hT := Lib.hid (tab_below hT.out bb); clear e0 e1 e2 e3 e4 e5; obtain ⟨e0, e1, -⟩ := X.out.x1.at_; obtain ⟨e2, e3, -⟩ := X.out.x2.at_; obtain ⟨e4, e5, -⟩ := X.out.x3.at_; clear bb; replace R_yz := Lib.hid R_yz)
      | (go_at_call_of 33 #[Value.agg #[.bool (ng ((x) + (z))), .slice A_xz n_xz c_xz], Value.agg #[.bool (ng ((y) + (z))), .slice A_yz n_yz c_yz]]; refine (compare_z _ _ _ _ _ _ _ _ _ (kxy) (by exact R_xz.out) (by exact R_yz.out) (by omega) (by omega) (by rw [cmp_shift]; exact hkxy.out)).mono ?_; rintro e w25 ⟨rfl, bb⟩; replace X := Lib.hid (X.out.on bb); replace R1 := Lib.hid (R1.out.below bb); replace R2 := Lib.hid (R2.out.below bb); replace R3 := Lib.hid (R3.out.below bb); (try (replace R_p := Lib.hid (R_p.out.below bb))); (try (replace R_d := Lib.hid (R_d.out.below bb))); (try (replace R_nx := Lib.hid (R_nx.out.below bb))); (try (replace R_ny := Lib.hid (R_ny.out.below bb))); (try (replace R_xz := Lib.hid (R_xz.out.below bb))); (try (replace R_yz := Lib.hid (R_yz.out.below bb))); replace hT := Lib.hid (tab_below hT.out bb); clear e0 e1 e2 e3 e4 e5; obtain ⟨e0, e1, -⟩ := X.out.x1.at_; obtain ⟨e2, e3, -⟩ := X.out.x2.at_; obtain ⟨e4, e5, -⟩ := X.out.x3.at_; clear bb))
  all_goals
    have Bz := Lib.hid X.out.bel
    go_wp2
    go_ret
    exact ⟨rfl, Bz.out⟩
end Go.Proofs.YtkdeajocogdmgaaDoor
