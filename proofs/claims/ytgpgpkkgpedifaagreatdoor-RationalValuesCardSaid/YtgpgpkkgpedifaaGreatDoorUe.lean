/- The law RationalValues. -/
import Derived.Test.YtgpgpkkgpedifaaGreatDoorUb
import Derived.Test.YtgpgpkkgpedifaaGreatDoorQTmz
namespace Go.Proofs.YtgpgpkkgpedifaaGreatDoor
open Go.RowKit RQ
theorem floor_len3 {q : Rat} {p : Nat} (h : Rs q p) : (limbs q.floor.natAbs).length ≤ p + 1 := by
  rw [floor_parts]
  refine limbs_len_le.2 ?_
  have h1 := h.n
  have hp := q.den_pos
  have : (q.num / (q.den : Int)).natAbs ≤ q.num.natAbs + 1 := by
    have h2 := Int.ediv_mul_le q.num (b := (q.den : Int)) (by omega)
    have h3 := Int.lt_ediv_add_one_mul_self q.num (b := (q.den : Int)) (by omega)
    rcases Int.lt_or_le q.num 0 with h0 | h0
    · have a : q.num / (q.den : Int) < 0 := Int.ediv_neg_of_neg_of_pos h0 (by omega)
      have : (q.num / (q.den : Int) + 1) * 1 ≥ (q.num / (q.den : Int) + 1) * (q.den : Int) := Int.mul_le_mul_of_nonpos_left (by omega) (by omega)
      omega
    · have a : 0 ≤ q.num / (q.den : Int) := Int.ediv_nonneg h0 (by omega)
      have : q.num / (q.den : Int) * 1 ≤ q.num / (q.den : Int) * (q.den : Int) := Int.mul_le_mul_of_nonneg_left (by omega) a
      omega
  rw [Nat.pow_succ]
  omega

set_option maxRecDepth 100000 in
set_option maxHeartbeats 16000000 in
theorem law_values (b : Bool) (A : Option Addr) (n c : Nat) (xs : List Nat) (D : Option Addr) (m d : Nat) (ds : List Nat) (b' : Bool) (A' : Option Addr) (n' c' : Nat) (ys : List Nat) (D' : Option Addr) (m' d' : Nat) (es : List Nat) (v : Int) (w : World) (R1 : Rd w A n c xs) (m1 : n ≤ 9223372036854775807) (R2 : Rd w D m d ds) (m2 : m ≤ 9223372036854775807) (R3 : Rd w A' n' c' ys) (m3 : n' ≤ 9223372036854775807) (R4 : Rd w D' m' d' es) (m4 : m' ≤ 9223372036854775807) (h0 : -9223372036854775808 ≤ v) (h1 : v ≤ 9223372036854775807) (htab : Tab w) : Calls Tryz.prog 6 #[.agg #[.bool b, .slice A n c, .slice D m d], .agg #[.bool b', .slice A' n' c', .slice D' m' d'], .int .i64 v] w fun e w' => e = .returned (.bool true) ∧ Below w.heap.size w w' := by
  have hA := Lib.hid (fun W t => awakeR_any W t)
  replace htab := Lib.hid htab
  have hL1 := fun W => lightR_any b A n c D m d W m1 m2
  have hL2 := fun W => lightR_any b' A' n' c' D' m' d' W m3 m4
  have S : St w _ [(w.heap.size + 1, #[.bool b', .slice A' n' c', .slice D' m' d'], 26), (w.heap.size, #[.bool b, .slice A n c, .slice D m d], 26)] [(D', m', d', es), (A', n', c', ys), (D, m, d, ds), (A, n, c, xs)] := (((((((St.new w).read R1).read R2).read R3).read R4).allocAt (w.heap.size) #[.bool b, .slice A n c, .slice D m d] 26 (noL3 _ _ _ _ _ _ _) (by simp)).allocAt (w.heap.size + 1) #[.bool b', .slice A' n' c', .slice D' m' d'] 26 (noL3 _ _ _ _ _ _ _) (by simp))
  replace S := Lib.hid S
  cases l1 : lightB n m
  · rw [l1] at hL1
    replace hL1 := Lib.hid hL1
    clear l1 hL2 R1 R2 R3 R4 m1 m2 m3 m4 h0 h1
    go_enter Tryz.func6, Tryz.ntmps6
    go_wp2_with fail
    refine (hL1.out _).mono ?_
    rintro e w1 ⟨rfl, bb⟩
    have T := (S.out.call bb)
    clear bb S
    have S := T
    clear T
    have c_y0 := S.cl 0 0 rfl rfl
    have c_y1 := S.cl 0 1 rfl rfl
    have c_y2 := S.cl 0 2 rfl rfl
    have c_x0 := S.cl 1 0 rfl rfl
    have c_x1 := S.cl 1 1 rfl rfl
    have c_x2 := S.cl 1 2 rfl rfl
    have hz : w.heap.size + 1 < w1.heap.size := S.lt 0 rfl
    replace S := Lib.hid S
    go_wp2_with fail
    refine (hA.out _ (tab_below htab.out S.out.bel)).mono ?_
    rintro e w2 ⟨rfl, bb⟩
    have T := (S.out.call bb)
    clear bb S c_y0 c_y1 c_y2 c_x0 c_x1 c_x2 hz
    have S := T
    clear T
    have c_y0 := S.cl 0 0 rfl rfl
    have c_y1 := S.cl 0 1 rfl rfl
    have c_y2 := S.cl 0 2 rfl rfl
    have c_x0 := S.cl 1 0 rfl rfl
    have c_x1 := S.cl 1 1 rfl rfl
    have c_x2 := S.cl 1 2 rfl rfl
    have hz : w.heap.size + 1 < w2.heap.size := S.lt 0 rfl
    replace S := Lib.hid S
    have S : St w _ [(w.heap.size + 1, #[.bool b', .slice A' n' c', .slice D' m' d'], 26), (w.heap.size, #[.bool b, .slice A n c, .slice D m d], 26)] [(D', m', d', es), (A', n', c', ys), (D, m, d, ds), (A, n, c, xs)] := S.out
    replace S := Lib.hid S
    go_wp2
    go_ret
    exact ⟨rfl, S.out.bel⟩
  rw [l1] at hL1
  cases l2 : lightB n' m'
  · rw [l2] at hL2
    replace hL1 := Lib.hid hL1
    replace hL2 := Lib.hid hL2
    clear l1 l2 R1 R2 R3 R4 m1 m2 m3 m4 h0 h1
    go_enter Tryz.func6, Tryz.ntmps6
    go_wp2_with fail
    refine (hL1.out _).mono ?_
    rintro e w1 ⟨rfl, bb⟩
    have T := (S.out.call bb)
    clear bb S
    have S := T
    clear T
    have c_y0 := S.cl 0 0 rfl rfl
    have c_y1 := S.cl 0 1 rfl rfl
    have c_y2 := S.cl 0 2 rfl rfl
    have c_x0 := S.cl 1 0 rfl rfl
    have c_x1 := S.cl 1 1 rfl rfl
    have c_x2 := S.cl 1 2 rfl rfl
    have hz : w.heap.size + 1 < w1.heap.size := S.lt 0 rfl
    replace S := Lib.hid S
    go_wp2_with fail
    refine (hL2.out _).mono ?_
    rintro e w2 ⟨rfl, bb⟩
    have T := (S.out.call bb)
    clear bb S c_y0 c_y1 c_y2 c_x0 c_x1 c_x2 hz
    have S := T
    clear T
    have c_y0 := S.cl 0 0 rfl rfl
    have c_y1 := S.cl 0 1 rfl rfl
    have c_y2 := S.cl 0 2 rfl rfl
    have c_x0 := S.cl 1 0 rfl rfl
    have c_x1 := S.cl 1 1 rfl rfl
    have c_x2 := S.cl 1 2 rfl rfl
    have hz : w.heap.size + 1 < w2.heap.size := S.lt 0 rfl
    replace S := Lib.hid S
    go_wp2_with fail
    refine (hA.out _ (tab_below htab.out S.out.bel)).mono ?_
    rintro e w3 ⟨rfl, bb⟩
    have T := (S.out.call bb)
    clear bb S c_y0 c_y1 c_y2 c_x0 c_x1 c_x2 hz
    have S := T
    clear T
    have c_y0 := S.cl 0 0 rfl rfl
    have c_y1 := S.cl 0 1 rfl rfl
    have c_y2 := S.cl 0 2 rfl rfl
    have c_x0 := S.cl 1 0 rfl rfl
    have c_x1 := S.cl 1 1 rfl rfl
    have c_x2 := S.cl 1 2 rfl rfl
    have hz : w.heap.size + 1 < w3.heap.size := S.lt 0 rfl
    replace S := Lib.hid S
    have S : St w _ [(w.heap.size + 1, #[.bool b', .slice A' n' c', .slice D' m' d'], 26), (w.heap.size, #[.bool b, .slice A n c, .slice D m d], 26)] [(D', m', d', es), (A', n', c', ys), (D, m, d, ds), (A, n, c, xs)] := S.out
    replace S := Lib.hid S
    go_wp2
    go_ret
    exact ⟨rfl, S.out.bel⟩
  rw [l2] at hL2
  have x8 := Lib.hid (rs_light R1 R2 l1 (b := b))
  have y8 := Lib.hid (rs_light R3 R4 l2 (b := b'))
  replace hL1 := Lib.hid hL1
  replace hL2 := Lib.hid hL2
  obtain ⟨i1, i2, i3, i4⟩ : n ≤ 8 ∧ m ≤ 8 ∧ n' ≤ 8 ∧ m' ≤ 8 := by
    unfold lightB at l1 l2; simp only [Bool.and_eq_true, decide_eq_true_eq] at l1 l2; omega
  have hVa := Lib.hid (fun W q1 q2 => validR_any b A n c xs D m d ds W q1 q2 (by omega) (by omega))
  have hVb := Lib.hid (fun W q1 q2 => rvalidR_any b A n c xs D m d ds W q1 q2 (by omega) (by omega))
  have hIa := Lib.hid (fun W => fromIntR_any v W h0 h1)
  have hIb := Lib.hid (fun W => FfromInt_any v W h0 h1)
  have v2 : Hid (Rs (v : Rat) 2) := Lib.hid (Rs.int (by omega) (by decide))
  have hGa := Lib.hid (fun W q1 q2 => signR_any b A n c xs D m d ds W q1 q2 (by omega) (by omega))
  have hGb := Lib.hid (fun W q1 q2 => rsignR_any b A n c xs D m d ds W q1 q2 (by omega) (by omega))
  have hNa := Lib.hid (fun W q1 q2 => negR_any b A n c xs D m d ds W q1 q2 (by omega) (by omega))
  have hNb := Lib.hid (fun W q1 q2 => Fneg_any b A n c xs D m d ds W q1 q2 (by omega) (by omega))
  have hBa := Lib.hid (fun W q1 q2 => absR_any b A n c xs D m d ds W q1 q2 (by omega) (by omega))
  have hBb := Lib.hid (fun W q1 q2 => Fabs_any b A n c xs D m d ds W q1 q2 (by omega) (by omega))
  have hCa := Lib.hid (fun W q1 q2 q3 q4 => Rcompare_any b A n c xs D m d ds b' A' n' c' ys D' m' d' es W q1 q2 q3 q4 (by omega) (by omega) (by omega) (by omega))
  have hCb := Lib.hid (fun W q1 q2 q3 q4 => Fcompare_any b A n c xs D m d ds b' A' n' c' ys D' m' d' es W q1 q2 q3 q4 (by omega) (by omega) (by omega) (by omega))
  have hFa := Lib.hid (fun W q1 q2 => floorR_any b A n c xs D m d ds W q1 q2 (by omega) (by omega))
  have hFb := Lib.hid (fun W q1 q2 => Ffloor_any b A n c xs D m d ds W q1 q2 (by omega) (by omega))
  generalize rv b xs ds = x at *
  generalize rv b' ys es = y at *
  generalize vldR b xs ds = vv at *
  have hs2 : Hid (∀ W A n c A' n' c', Rd W A n c (limbs x.floor.natAbs) → Rd W A' n' c' (limbs x.floor.natAbs) → Calls Tryz.prog 31 #[.agg #[.bool (ng x.floor), .slice A n c], .agg #[.bool (ng x.floor), .slice A' n' c']] W fun e w' => e = .returned (.bool true) ∧ Below W.heap.size W w') := Lib.hid fun W A n c A' n' c' q1 q2 => by
    have l := floor_len3 x8.out
    have := same2_any (ng x.floor) A n c _ (ng x.floor) A' n' c' _ W q1 q2 (by rw [← q1.len]; omega) (by rw [← q2.len]; omega)
    rwa [decide_eq_true rfl, decide_eq_true rfl] at this
  generalize x.num.sign = sx at *
  generalize cmpq x y = cc at *
  generalize hvq : (v : Rat) = vq at *
  have nx8 := Lib.hid x8.out.neg
  have ax8 := Lib.hid x8.out.abs
  generalize -x = nx at *
  generalize x.abs = ax at *
  generalize x.floor = fx at *
  clear l1 l2 i1 i2 i3 i4 hvq R1 R2 R3 R4 m1 m2 m3 m4 h0 h1
  go_enter Tryz.func6, Tryz.ntmps6
  go_wp2_with fail
  refine (hL1.out _).mono ?_
  rintro e w1 ⟨rfl, bb⟩
  have T := (S.out.call bb)
  clear bb S
  have S := T
  clear T
  have c_y0 := S.cl 0 0 rfl rfl
  have c_y1 := S.cl 0 1 rfl rfl
  have c_y2 := S.cl 0 2 rfl rfl
  have c_x0 := S.cl 1 0 rfl rfl
  have c_x1 := S.cl 1 1 rfl rfl
  have c_x2 := S.cl 1 2 rfl rfl
  have hz : w.heap.size + 1 < w1.heap.size := S.lt 0 rfl
  replace S := Lib.hid S
  go_wp2_with fail
  refine (hL2.out _).mono ?_
  rintro e w2 ⟨rfl, bb⟩
  have T := (S.out.call bb)
  clear bb S c_y0 c_y1 c_y2 c_x0 c_x1 c_x2 hz
  have S := T
  clear T
  have c_y0 := S.cl 0 0 rfl rfl
  have c_y1 := S.cl 0 1 rfl rfl
  have c_y2 := S.cl 0 2 rfl rfl
  have c_x0 := S.cl 1 0 rfl rfl
  have c_x1 := S.cl 1 1 rfl rfl
  have c_x2 := S.cl 1 2 rfl rfl
  have hz : w.heap.size + 1 < w2.heap.size := S.lt 0 rfl
  replace S := Lib.hid S
  clear hL1 hL2
  go_upto_region 3 with fail
  clear c_y0 c_y1 c_y2 c_x0 c_x1 c_x2 hz
  refine RW.begin (Z := []) (S := (fun W => Cb W (w.heap.size) #[.bool b, .slice A n c, .slice D m d] 26 ∧ Cb W (w.heap.size + 1) #[.bool b', .slice A' n' c', .slice D' m' d'] 26)) (by kernel_rfl) ?_ S.out ?_
  · exact ⟨by kernel_rfl, zis_nil, by decide, by decide, nol_nil, (fun _ _ h => ⟨h.kb 1 rfl, h.kb 0 rfl⟩)⟩
  intro hzk
  clear S
  refine RW.c (i := 0) (args := #[]) (some 16) hzk.out at0 (hx := fun _ => by kernel_rfl) (h := fun _ S => (hA.out _ (tab_below htab.out S.bel)).mono ?_)
  rintro e w3 ⟨rfl, bb⟩
  refine ⟨bb, _, [], rfl, rd_nil, ?_⟩
  clear bb S
  refine RW.t (i := 1) (v := .bool true) (some 17) at1 (hy := fun _ _ => by kernel_rfl) (h := ?_)
  refine RW.t (i := 2) (v := .agg #[.bool b, .slice A n c, .slice D m d]) (some 18) at2 (hy := fun W hS => by (have k0 := Cb.cell (i := 0) hS.1 rfl; have k1 := Cb.cell (i := 1) hS.1 rfl; have k2 := Cb.cell (i := 2) hS.1 rfl; clear hS; go_simp)) (h := ?_)
  refine RW.t (i := 4) (v := .agg #[.bool b, .slice A n c, .slice D m d]) (some 20) at4 (hy := fun W hS => by (have k0 := Cb.cell (i := 0) hS.1 rfl; have k1 := Cb.cell (i := 1) hS.1 rfl; have k2 := Cb.cell (i := 2) hS.1 rfl; clear hS; go_simp)) (h := ?_)
  refine RW.c (i := 3) (args := #[.agg #[.bool b, .slice A n c, .slice D m d]]) (some 19) hzk.out at3 (hx := fun _ => by kernel_rfl) (h := fun _ S => (hVa.out _ (S.r 3 rfl) (S.r 2 rfl)).mono ?_)
  rintro e w4 ⟨rfl, bb⟩
  refine ⟨bb, _, [], rfl, rd_nil, ?_⟩
  clear bb S
  refine RW.c (i := 5) (args := #[.agg #[.bool b, .slice A n c, .slice D m d]]) (some 21) hzk.out at5 (hx := fun _ => by kernel_rfl) (h := fun _ S => (hVb.out _ (S.r 3 rfl) (S.r 2 rfl)).mono ?_)
  rintro e w5 ⟨rfl, bb⟩
  refine ⟨bb, _, [], rfl, rd_nil, ?_⟩
  clear bb S
  refine RW.t (i := 6) (v := .bool true) (some 22) at6 (hy := fun _ _ => by go_simp) (h := ?_)
  refine RW.t (i := 7) (v := .bool true) (some 23) at7 (hy := fun _ _ => by kernel_rfl) (h := ?_)
  refine RW.t (i := 8) (v := .bool true) (some 24) at8 (hy := fun _ _ => by kernel_rfl) (h := ?_)
  refine RW.t (i := 9) (v := .int .i64 v) (some 25) at9 (hy := fun _ _ => by kernel_rfl) (h := ?_)
  refine RW.t (i := 11) (v := .int .i64 v) (some 27) at11 (hy := fun _ _ => by kernel_rfl) (h := ?_)
  refine RW.c (i := 10) (args := #[.int .i64 v]) (some 26) hzk.out at10 (hx := fun _ => by kernel_rfl) (h := fun _ S => (hIa.out _).mono ?_)
  rintro e w6 ⟨A1, n1, c1, D1, m1, d1, rfl, Q1, bb⟩
  refine ⟨bb, _, [(D1, m1, d1, dn vq), (A1, n1, c1, limbs vq.num.natAbs)], rfl, (rd_cons Q1.d (rd_cons Q1.n rd_nil)), ?_⟩
  clear bb S Q1
  refine RW.c (i := 12) (args := #[.int .i64 v]) (some 28) hzk.out at12 (hx := fun _ => by kernel_rfl) (h := fun _ S => (hIb.out _).mono ?_)
  rintro e w7 ⟨A2, n2, c2, D2, m2, d2, rfl, Q2, bb⟩
  refine ⟨bb, _, [(D2, m2, d2, dn vq), (A2, n2, c2, limbs vq.num.natAbs)], rfl, (rd_cons Q2.d (rd_cons Q2.n rd_nil)), ?_⟩
  clear bb S Q2
  refine RW.c (i := 13) (args := #[.agg #[.bool (ng vq.num), .slice A1 n1 c1, .slice D1 m1 d1], .agg #[.bool (ng vq.num), .slice A2 n2 c2, .slice D2 m2 d2]]) (some 29) hzk.out at13 (hx := fun _ => by kernel_rfl) (h := fun _ S => (sameT vq vq rfl _ _ _ _ _ _ _ _ _ _ _ _ _ ⟨S.r 3 rfl, S.r 2 rfl⟩ ⟨S.r 1 rfl, S.r 0 rfl⟩ (v2.out.mono (by decide)) (v2.out.mono (by decide))).mono ?_)
  rintro e w8 ⟨rfl, bb⟩
  refine ⟨bb, _, [], rfl, rd_nil, ?_⟩
  clear bb S
  refine RW.t (i := 14) (v := .bool true) (some 30) at14 (hy := fun _ _ => by kernel_rfl) (h := ?_)
  refine RW.t (i := 15) (v := .bool true) (some 31) at15 (hy := fun _ _ => by kernel_rfl) (h := ?_)
  refine RW.t (i := 16) (v := .agg #[.bool b, .slice A n c, .slice D m d]) (some 32) at16 (hy := fun W hS => by (have k0 := Cb.cell (i := 0) hS.1 rfl; have k1 := Cb.cell (i := 1) hS.1 rfl; have k2 := Cb.cell (i := 2) hS.1 rfl; clear hS; go_simp)) (h := ?_)
  refine RW.t (i := 18) (v := .agg #[.bool b, .slice A n c, .slice D m d]) (some 34) at18 (hy := fun W hS => by (have k0 := Cb.cell (i := 0) hS.1 rfl; have k1 := Cb.cell (i := 1) hS.1 rfl; have k2 := Cb.cell (i := 2) hS.1 rfl; clear hS; go_simp)) (h := ?_)
  refine RW.c (i := 17) (args := #[.agg #[.bool b, .slice A n c, .slice D m d]]) (some 33) hzk.out at17 (hx := fun _ => by kernel_rfl) (h := fun _ S => (hGa.out _ (S.r 7 rfl) (S.r 6 rfl)).mono ?_)
  rintro e w9 ⟨rfl, bb⟩
  refine ⟨bb, _, [], rfl, rd_nil, ?_⟩
  clear bb S
  refine RW.c (i := 19) (args := #[.agg #[.bool b, .slice A n c, .slice D m d]]) (some 35) hzk.out at19 (hx := fun _ => by kernel_rfl) (h := fun _ S => (hGb.out _ (S.r 7 rfl) (S.r 6 rfl)).mono ?_)
  rintro e w10 ⟨rfl, bb⟩
  refine ⟨bb, _, [], rfl, rd_nil, ?_⟩
  clear bb S
  refine RW.t (i := 20) (v := .bool true) (some 36) at20 (hy := fun _ _ => by go_simp) (h := ?_)
  refine RW.t (i := 21) (v := .bool true) (some 37) at21 (hy := fun _ _ => by kernel_rfl) (h := ?_)
  refine RW.t (i := 22) (v := .bool true) (some 38) at22 (hy := fun _ _ => by kernel_rfl) (h := ?_)
  refine RW.t (i := 23) (v := .agg #[.bool b, .slice A n c, .slice D m d]) (some 39) at23 (hy := fun W hS => by (have k0 := Cb.cell (i := 0) hS.1 rfl; have k1 := Cb.cell (i := 1) hS.1 rfl; have k2 := Cb.cell (i := 2) hS.1 rfl; clear hS; go_simp)) (h := ?_)
  refine RW.t (i := 25) (v := .agg #[.bool b, .slice A n c, .slice D m d]) (some 41) at25 (hy := fun W hS => by (have k0 := Cb.cell (i := 0) hS.1 rfl; have k1 := Cb.cell (i := 1) hS.1 rfl; have k2 := Cb.cell (i := 2) hS.1 rfl; clear hS; go_simp)) (h := ?_)
  refine RW.c (i := 24) (args := #[.agg #[.bool b, .slice A n c, .slice D m d]]) (some 40) hzk.out at24 (hx := fun _ => by kernel_rfl) (h := fun _ S => (hNa.out _ (S.r 7 rfl) (S.r 6 rfl)).mono ?_)
  rintro e w11 ⟨A3, n3, c3, D3, m3, d3, rfl, Q3, bb⟩
  refine ⟨bb, _, [(D3, m3, d3, dn nx), (A3, n3, c3, limbs nx.num.natAbs)], rfl, (rd_cons Q3.d (rd_cons Q3.n rd_nil)), ?_⟩
  clear bb S Q3
  refine RW.c (i := 26) (args := #[.agg #[.bool b, .slice A n c, .slice D m d]]) (some 42) hzk.out at26 (hx := fun _ => by kernel_rfl) (h := fun _ S => (hNb.out _ (S.r 9 rfl) (S.r 8 rfl)).mono ?_)
  rintro e w12 ⟨A4, n4, c4, D4, m4, d4, rfl, Q4, bb⟩
  refine ⟨bb, _, [(D4, m4, d4, dn nx), (A4, n4, c4, limbs nx.num.natAbs)], rfl, (rd_cons Q4.d (rd_cons Q4.n rd_nil)), ?_⟩
  clear bb S Q4
  refine RW.c (i := 27) (args := #[.agg #[.bool (ng nx.num), .slice A3 n3 c3, .slice D3 m3 d3], .agg #[.bool (ng nx.num), .slice A4 n4 c4, .slice D4 m4 d4]]) (some 43) hzk.out at27 (hx := fun _ => by kernel_rfl) (h := fun _ S => (sameT nx nx rfl _ _ _ _ _ _ _ _ _ _ _ _ _ ⟨S.r 3 rfl, S.r 2 rfl⟩ ⟨S.r 1 rfl, S.r 0 rfl⟩ (nx8.out.mono (by decide)) (nx8.out.mono (by decide))).mono ?_)
  rintro e w13 ⟨rfl, bb⟩
  refine ⟨bb, _, [], rfl, rd_nil, ?_⟩
  clear bb S
  refine RW.t (i := 28) (v := .bool true) (some 44) at28 (hy := fun _ _ => by kernel_rfl) (h := ?_)
  refine RW.t (i := 29) (v := .bool true) (some 45) at29 (hy := fun _ _ => by kernel_rfl) (h := ?_)
  refine RW.t (i := 30) (v := .agg #[.bool b, .slice A n c, .slice D m d]) (some 46) at30 (hy := fun W hS => by (have k0 := Cb.cell (i := 0) hS.1 rfl; have k1 := Cb.cell (i := 1) hS.1 rfl; have k2 := Cb.cell (i := 2) hS.1 rfl; clear hS; go_simp)) (h := ?_)
  refine RW.t (i := 32) (v := .agg #[.bool b, .slice A n c, .slice D m d]) (some 48) at32 (hy := fun W hS => by (have k0 := Cb.cell (i := 0) hS.1 rfl; have k1 := Cb.cell (i := 1) hS.1 rfl; have k2 := Cb.cell (i := 2) hS.1 rfl; clear hS; go_simp)) (h := ?_)
  refine RW.c (i := 31) (args := #[.agg #[.bool b, .slice A n c, .slice D m d]]) (some 47) hzk.out at31 (hx := fun _ => by kernel_rfl) (h := fun _ S => (hBa.out _ (S.r 11 rfl) (S.r 10 rfl)).mono ?_)
  rintro e w14 ⟨A5, n5, c5, D5, m5, d5, rfl, Q5, bb⟩
  refine ⟨bb, _, [(D5, m5, d5, dn ax), (A5, n5, c5, limbs ax.num.natAbs)], rfl, (rd_cons Q5.d (rd_cons Q5.n rd_nil)), ?_⟩
  clear bb S Q5
  refine RW.c (i := 33) (args := #[.agg #[.bool b, .slice A n c, .slice D m d]]) (some 49) hzk.out at33 (hx := fun _ => by kernel_rfl) (h := fun _ S => (hBb.out _ (S.r 13 rfl) (S.r 12 rfl)).mono ?_)
  rintro e w15 ⟨A6, n6, c6, D6, m6, d6, rfl, Q6, bb⟩
  refine ⟨bb, _, [(D6, m6, d6, dn ax), (A6, n6, c6, limbs ax.num.natAbs)], rfl, (rd_cons Q6.d (rd_cons Q6.n rd_nil)), ?_⟩
  clear bb S Q6
  refine RW.c (i := 34) (args := #[.agg #[.bool (ng ax.num), .slice A5 n5 c5, .slice D5 m5 d5], .agg #[.bool (ng ax.num), .slice A6 n6 c6, .slice D6 m6 d6]]) (some 50) hzk.out at34 (hx := fun _ => by kernel_rfl) (h := fun _ S => (sameT ax ax rfl _ _ _ _ _ _ _ _ _ _ _ _ _ ⟨S.r 3 rfl, S.r 2 rfl⟩ ⟨S.r 1 rfl, S.r 0 rfl⟩ (ax8.out.mono (by decide)) (ax8.out.mono (by decide))).mono ?_)
  rintro e w16 ⟨rfl, bb⟩
  refine ⟨bb, _, [], rfl, rd_nil, ?_⟩
  clear bb S
  refine RW.t (i := 35) (v := .bool true) (some 51) at35 (hy := fun _ _ => by kernel_rfl) (h := ?_)
  refine RW.t (i := 36) (v := .bool true) (some 52) at36 (hy := fun _ _ => by kernel_rfl) (h := ?_)
  refine RW.t (i := 37) (v := .agg #[.bool b, .slice A n c, .slice D m d]) (some 53) at37 (hy := fun W hS => by (have k0 := Cb.cell (i := 0) hS.1 rfl; have k1 := Cb.cell (i := 1) hS.1 rfl; have k2 := Cb.cell (i := 2) hS.1 rfl; clear hS; go_simp)) (h := ?_)
  refine RW.t (i := 38) (v := .agg #[.bool b', .slice A' n' c', .slice D' m' d']) (some 54) at38 (hy := fun W hS => by (have k0 := Cb.cell (i := 0) hS.2 rfl; have k1 := Cb.cell (i := 1) hS.2 rfl; have k2 := Cb.cell (i := 2) hS.2 rfl; clear hS; go_simp)) (h := ?_)
  refine RW.t (i := 40) (v := .agg #[.bool b, .slice A n c, .slice D m d]) (some 56) at40 (hy := fun W hS => by (have k0 := Cb.cell (i := 0) hS.1 rfl; have k1 := Cb.cell (i := 1) hS.1 rfl; have k2 := Cb.cell (i := 2) hS.1 rfl; clear hS; go_simp)) (h := ?_)
  refine RW.t (i := 41) (v := .agg #[.bool b', .slice A' n' c', .slice D' m' d']) (some 57) at41 (hy := fun W hS => by (have k0 := Cb.cell (i := 0) hS.2 rfl; have k1 := Cb.cell (i := 1) hS.2 rfl; have k2 := Cb.cell (i := 2) hS.2 rfl; clear hS; go_simp)) (h := ?_)
  refine RW.c (i := 39) (args := #[.agg #[.bool b, .slice A n c, .slice D m d], .agg #[.bool b', .slice A' n' c', .slice D' m' d']]) (some 55) hzk.out at39 (hx := fun _ => by kernel_rfl) (h := fun _ S => (hCa.out _ (S.r 15 rfl) (S.r 14 rfl) (S.r 13 rfl) (S.r 12 rfl)).mono ?_)
  rintro e w17 ⟨rfl, bb⟩
  refine ⟨bb, _, [], rfl, rd_nil, ?_⟩
  clear bb S
  refine RW.c (i := 42) (args := #[.agg #[.bool b, .slice A n c, .slice D m d], .agg #[.bool b', .slice A' n' c', .slice D' m' d']]) (some 58) hzk.out at42 (hx := fun _ => by kernel_rfl) (h := fun _ S => (hCb.out _ (S.r 15 rfl) (S.r 14 rfl) (S.r 13 rfl) (S.r 12 rfl)).mono ?_)
  rintro e w18 ⟨rfl, bb⟩
  refine ⟨bb, _, [], rfl, rd_nil, ?_⟩
  clear bb S
  refine RW.t (i := 43) (v := .bool true) (some 59) at43 (hy := fun _ _ => by go_simp) (h := ?_)
  refine RW.t (i := 44) (v := .bool true) (some 60) at44 (hy := fun _ _ => by kernel_rfl) (h := ?_)
  refine RW.t (i := 45) (v := .bool true) (some 61) at45 (hy := fun _ _ => by kernel_rfl) (h := ?_)
  refine RW.t (i := 46) (v := .agg #[.bool b, .slice A n c, .slice D m d]) (some 62) (at_succ at45) (hy := fun W hS => by (have k0 := Cb.cell (i := 0) hS.1 rfl; have k1 := Cb.cell (i := 1) hS.1 rfl; have k2 := Cb.cell (i := 2) hS.1 rfl; clear hS; go_simp)) (h := ?_)
  refine RW.t (i := 48) (v := .agg #[.bool b, .slice A n c, .slice D m d]) (some 64) (at_succ (at_succ (at_succ at45))) (hy := fun W hS => by (have k0 := Cb.cell (i := 0) hS.1 rfl; have k1 := Cb.cell (i := 1) hS.1 rfl; have k2 := Cb.cell (i := 2) hS.1 rfl; clear hS; go_simp)) (h := ?_)
  refine RW.c (i := 47) (args := #[.agg #[.bool b, .slice A n c, .slice D m d]]) (some 63) hzk.out (at_succ (at_succ at45)) (hx := fun _ => by kernel_rfl) (h := fun _ S => (hFa.out _ (S.r 15 rfl) (S.r 14 rfl)).mono ?_)
  rintro e w19 ⟨A21, n21, c21, rfl, Q21, bb⟩
  refine ⟨bb, _, [(A21, n21, c21, limbs fx.natAbs)], rfl, (rd_cons Q21 rd_nil), ?_⟩
  clear bb S Q21
  refine RW.c (i := 49) (args := #[.agg #[.bool b, .slice A n c, .slice D m d]]) (some 65) hzk.out (at_succ (at_succ (at_succ (at_succ at45)))) (hx := fun _ => by kernel_rfl) (h := fun _ S => (hFb.out _ (S.r 16 rfl) (S.r 15 rfl)).mono ?_)
  rintro e w20 ⟨A22, n22, c22, rfl, Q22, bb⟩
  refine ⟨bb, _, [(A22, n22, c22, limbs fx.natAbs)], rfl, (rd_cons Q22 rd_nil), ?_⟩
  clear bb S Q22
  refine RW.c (i := 50) (args := #[.agg #[.bool (ng fx), .slice A21 n21 c21], .agg #[.bool (ng fx), .slice A22 n22 c22]]) (some 66) hzk.out (at_succ (at_succ (at_succ (at_succ (at_succ at45))))) (hx := fun _ => by kernel_rfl) (h := fun _ S => (hs2.out _ _ _ _ _ _ _ (S.r 1 rfl) (S.r 0 rfl)).mono ?_)
  rintro e w21 ⟨rfl, bb⟩
  refine ⟨bb, _, [], rfl, rd_nil, ?_⟩
  clear bb S
  refine RW.t (i := 51) (v := .bool true) (some 67) (at_succ (at_succ (at_succ (at_succ (at_succ (at_succ at45)))))) (hy := fun _ _ => by kernel_rfl) (h := ?_)
  refine RW.tail hzk.out (by kernel_rfl) ?_
  intro gs w22 hgs hS S
  obtain rfl := len0 hgs
  clear hS hgs hzk
  simp only [mark, fill, Act.put, List.setIfInBounds_toArray, List.set_cons_zero, List.set_cons_succ]
  replace S := Lib.hid S
  refine Wk.o (i := 52) (at_succ (at_succ (at_succ (at_succ (at_succ (at_succ (at_succ at45))))))) (by kernel_rfl) fun K' hK => ?_
  go_simp
  have SN := S.out
  clear S
  have S := SN
  clear SN
  refine hK.out _ _ ⟨(S.cb 1 rfl), (S.cb 0 rfl)⟩ ?_
  clear hK K'
  replace S := Lib.hid S
  try simp only [Act.put, List.setIfInBounds_toArray, List.set_cons_zero, List.set_cons_succ]
  refine Wk.done (by kernel_rfl) ?_
  go_simp
  replace S := S.out
  have S : St w _ [(w.heap.size + 1, #[.bool b', .slice A' n' c', .slice D' m' d'], 26), (w.heap.size, #[.bool b, .slice A n c, .slice D m d], 26)] [(A22, n22, c22, limbs fx.natAbs), (A21, n21, c21, limbs fx.natAbs), (D6, m6, d6, dn ax), (A6, n6, c6, limbs ax.num.natAbs), (D5, m5, d5, dn ax), (A5, n5, c5, limbs ax.num.natAbs), (D4, m4, d4, dn nx), (A4, n4, c4, limbs nx.num.natAbs), (D3, m3, d3, dn nx), (A3, n3, c3, limbs nx.num.natAbs), (D2, m2, d2, dn vq), (A2, n2, c2, limbs vq.num.natAbs), (D1, m1, d1, dn vq), (A1, n1, c1, limbs vq.num.natAbs), (D', m', d', es), (A', n', c', ys), (D, m, d, ds), (A, n, c, xs)] := S
  replace S := Lib.hid S
  replace S := S.out
  replace S := Lib.hid S
  have S : St w _ [(w.heap.size + 1, #[.bool b', .slice A' n' c', .slice D' m' d'], 26), (w.heap.size, #[.bool b, .slice A n c, .slice D m d], 26)] [(A22, n22, c22, limbs fx.natAbs), (A21, n21, c21, limbs fx.natAbs), (D6, m6, d6, dn ax), (A6, n6, c6, limbs ax.num.natAbs), (D5, m5, d5, dn ax), (A5, n5, c5, limbs ax.num.natAbs), (D4, m4, d4, dn nx), (A4, n4, c4, limbs nx.num.natAbs), (D3, m3, d3, dn nx), (A3, n3, c3, limbs nx.num.natAbs), (D2, m2, d2, dn vq), (A2, n2, c2, limbs vq.num.natAbs), (D1, m1, d1, dn vq), (A1, n1, c1, limbs vq.num.natAbs), (D', m', d', es), (A', n', c', ys), (D, m, d, ds), (A, n, c, xs)] := S.out
  replace S := Lib.hid S
  go_wp2
  go_ret
  exact ⟨rfl, S.out.bel⟩
end Go.Proofs.YtgpgpkkgpedifaaGreatDoor
