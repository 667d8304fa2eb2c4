/- The law RationalCalculates. -/
import Derived.Test.YtgpgpkkgpedifaaGreatDoorUb
import Derived.Test.YtgpgpkkgpedifaaGreatDoorQTmz
namespace Go.Proofs.YtgpgpkkgpedifaaGreatDoor
open Go.RowKit RQ

set_option maxRecDepth 100000 in
set_option maxHeartbeats 16000000 in
theorem law_calculates (b : Bool) (A : Option Addr) (n c : Nat) (xs : List Nat) (D : Option Addr) (m d : Nat) (ds : List Nat) (b' : Bool) (A' : Option Addr) (n' c' : Nat) (ys : List Nat) (D' : Option Addr) (m' d' : Nat) (es : List Nat) (w : World) (R1 : Rd w A n c xs) (m1 : n ≤ 9223372036854775807) (R2 : Rd w D m d ds) (m2 : m ≤ 9223372036854775807) (R3 : Rd w A' n' c' ys) (m3 : n' ≤ 9223372036854775807) (R4 : Rd w D' m' d' es) (m4 : m' ≤ 9223372036854775807) (htab : Tab w) : Calls Tryz.prog 7 #[.agg #[.bool b, .slice A n c, .slice D m d], .agg #[.bool b', .slice A' n' c', .slice D' m' d']] w fun e w' => e = .returned (.bool true) ∧ Below w.heap.size w w' := by
  have hA := Lib.hid (fun W t => awakeR_any W t)
  replace htab := Lib.hid htab
  have hL1 := fun W => lightR_any b A n c D m d W m1 m2
  have hL2 := fun W => lightR_any b' A' n' c' D' m' d' W m3 m4
  have S : St w _ [(w.heap.size + 1, #[.bool b', .slice A' n' c', .slice D' m' d'], 26), (w.heap.size, #[.bool b, .slice A n c, .slice D m d], 26)] [(D', m', d', es), (A', n', c', ys), (D, m, d, ds), (A, n, c, xs)] := (((((((St.new w).read R1).read R2).read R3).read R4).allocAt (w.heap.size) #[.bool b, .slice A n c, .slice D m d] 26 (noL3 _ _ _ _ _ _ _) (by simp)).allocAt (w.heap.size + 1) #[.bool b', .slice A' n' c', .slice D' m' d'] 26 (noL3 _ _ _ _ _ _ _) (by simp))
  replace S := Lib.hid S
  cases l1 : lightB n m
  · rw [l1] at hL1
    replace hL1 := Lib.hid hL1
    clear l1 hL2 R1 R2 R3 R4 m1 m2 m3 m4
    go_enter Tryz.func7, Tryz.ntmps7
    go_wp2_with fail
    refine (hL1.out _).mono ?_
    rintro e w1 ⟨rfl, bb⟩
    have T := (S.out.call bb)
    clear bb S
    have S := T
    clear T
    have c_y0 := S.cl 0 0 rfl rfl
    have c_y1 := S.cl 0 1 rfl rfl
    have c_y2 := S.cl 0 2 rfl rfl
    have c_x0 := S.cl 1 0 rfl rfl
    have c_x1 := S.cl 1 1 rfl rfl
    have c_x2 := S.cl 1 2 rfl rfl
    have hz : w.heap.size + 1 < w1.heap.size := S.lt 0 rfl
    replace S := Lib.hid S
    go_wp2_with fail
    refine (hA.out _ (tab_below htab.out S.out.bel)).mono ?_
    rintro e w2 ⟨rfl, bb⟩
    have T := (S.out.call bb)
    clear bb S c_y0 c_y1 c_y2 c_x0 c_x1 c_x2 hz
    have S := T
    clear T
    have c_y0 := S.cl 0 0 rfl rfl
    have c_y1 := S.cl 0 1 rfl rfl
    have c_y2 := S.cl 0 2 rfl rfl
    have c_x0 := S.cl 1 0 rfl rfl
    have c_x1 := S.cl 1 1 rfl rfl
    have c_x2 := S.cl 1 2 rfl rfl
    have hz : w.heap.size + 1 < w2.heap.size := S.lt 0 rfl
    replace S := Lib.hid S
    have S : St w _ [(w.heap.size + 1, #[.bool b', .slice A' n' c', .slice D' m' d'], 26), (w.heap.size, #[.bool b, .slice A n c, .slice D m d], 26)] [(D', m', d', es), (A', n', c', ys), (D, m, d, ds), (A, n, c, xs)] := S.out
    replace S := Lib.hid S
    go_wp2
    go_ret
    exact ⟨rfl, S.out.bel⟩
  rw [l1] at hL1
  cases l2 : lightB n' m'
  · rw [l2] at hL2
    replace hL1 := Lib.hid hL1
    replace hL2 := Lib.hid hL2
    clear l1 l2 R1 R2 R3 R4 m1 m2 m3 m4
    go_enter Tryz.func7, Tryz.ntmps7
    go_wp2_with fail
    refine (hL1.out _).mono ?_
    rintro e w1 ⟨rfl, bb⟩
    have T := (S.out.call bb)
    clear bb S
    have S := T
    clear T
    have c_y0 := S.cl 0 0 rfl rfl
    have c_y1 := S.cl 0 1 rfl rfl
    have c_y2 := S.cl 0 2 rfl rfl
    have c_x0 := S.cl 1 0 rfl rfl
    have c_x1 := S.cl 1 1 rfl rfl
    have c_x2 := S.cl 1 2 rfl rfl
    have hz : w.heap.size + 1 < w1.heap.size := S.lt 0 rfl
    replace S := Lib.hid S
    go_wp2_with fail
    refine (hL2.out _).mono ?_
    rintro e w2 ⟨rfl, bb⟩
    have T := (S.out.call bb)
    clear bb S c_y0 c_y1 c_y2 c_x0 c_x1 c_x2 hz
    have S := T
    clear T
    have c_y0 := S.cl 0 0 rfl rfl
    have c_y1 := S.cl 0 1 rfl rfl
    have c_y2 := S.cl 0 2 rfl rfl
    have c_x0 := S.cl 1 0 rfl rfl
    have c_x1 := S.cl 1 1 rfl rfl
    have c_x2 := S.cl 1 2 rfl rfl
    have hz : w.heap.size + 1 < w2.heap.size := S.lt 0 rfl
    replace S := Lib.hid S
    go_wp2_with fail
    refine (hA.out _ (tab_below htab.out S.out.bel)).mono ?_
    rintro e w3 ⟨rfl, bb⟩
    have T := (S.out.call bb)
    clear bb S c_y0 c_y1 c_y2 c_x0 c_x1 c_x2 hz
    have S := T
    clear T
    have c_y0 := S.cl 0 0 rfl rfl
    have c_y1 := S.cl 0 1 rfl rfl
    have c_y2 := S.cl 0 2 rfl rfl
    have c_x0 := S.cl 1 0 rfl rfl
    have c_x1 := S.cl 1 1 rfl rfl
    have c_x2 := S.cl 1 2 rfl rfl
    have hz : w.heap.size + 1 < w3.heap.size := S.lt 0 rfl
    replace S := Lib.hid S
    have S : St w _ [(w.heap.size + 1, #[.bool b', .slice A' n' c', .slice D' m' d'], 26), (w.heap.size, #[.bool b, .slice A n c, .slice D m d], 26)] [(D', m', d', es), (A', n', c', ys), (D, m, d, ds), (A, n, c, xs)] := S.out
    replace S := Lib.hid S
    go_wp2
    go_ret
    exact ⟨rfl, S.out.bel⟩
  rw [l2] at hL2
  have x8 := Lib.hid (rs_light R1 R2 l1 (b := b))
  have y8 := Lib.hid (rs_light R3 R4 l2 (b := b'))
  replace hL1 := Lib.hid hL1
  replace hL2 := Lib.hid hL2
  obtain ⟨i1, i2, i3, i4⟩ : n ≤ 8 ∧ m ≤ 8 ∧ n' ≤ 8 ∧ m' ≤ 8 := by
    unfold lightB at l1 l2; simp only [Bool.and_eq_true, decide_eq_true_eq] at l1 l2; omega
  have hPadd := Lib.hid (fun W q1 q2 q3 q4 => Radd_any b A n c xs D m d ds b' A' n' c' ys D' m' d' es W q1 q2 q3 q4 (by omega) (by omega) (by omega) (by omega))
  have hFadd := Lib.hid (fun W q1 q2 q3 q4 => Fadd_any b A n c xs D m d ds b' A' n' c' ys D' m' d' es W q1 q2 q3 q4 (by omega) (by omega) (by omega) (by omega))
  have hPsub := Lib.hid (fun W q1 q2 q3 q4 => Rsub_any b A n c xs D m d ds b' A' n' c' ys D' m' d' es W q1 q2 q3 q4 (by omega) (by omega) (by omega) (by omega))
  have hFsub := Lib.hid (fun W q1 q2 q3 q4 => Fsub_any b A n c xs D m d ds b' A' n' c' ys D' m' d' es W q1 q2 q3 q4 (by omega) (by omega) (by omega) (by omega))
  have hPmul := Lib.hid (fun W q1 q2 q3 q4 => Rmul_any b A n c xs D m d ds b' A' n' c' ys D' m' d' es W q1 q2 q3 q4 (by omega) (by omega) (by omega) (by omega))
  have hFmul := Lib.hid (fun W q1 q2 q3 q4 => Fmul_any b A n c xs D m d ds b' A' n' c' ys D' m' d' es W q1 q2 q3 q4 (by omega) (by omega) (by omega) (by omega))
  have hPdiv := Lib.hid (fun W q1 q2 q3 q4 => Rdiv_any b A n c xs D m d ds b' A' n' c' ys D' m' d' es W q1 q2 q3 q4 (by omega) (by omega) (by omega) (by omega))
  have hFdiv := Lib.hid (fun W q1 q2 q3 q4 => Fdiv_any b A n c xs D m d ds b' A' n' c' ys D' m' d' es W q1 q2 q3 q4 (by omega) (by omega) (by omega) (by omega))
  generalize rv b xs ds = x at *
  generalize rv b' ys es = y at *
  have hq8 : Hid (Rs (x / y) 60) := Lib.hid (by rw [div_eq]; exact (x8.out.mul (y8.out.inv (by decide))).mono (by decide))
  generalize dvE y = dE at *
  clear l1 l2 i1 i2 i3 i4 R1 R2 R3 R4 m1 m2 m3 m4
  go_enter Tryz.func7, Tryz.ntmps7
  go_wp2_with fail
  refine (hL1.out _).mono ?_
  rintro e w1 ⟨rfl, bb⟩
  have T := (S.out.call bb)
  clear bb S
  have S := T
  clear T
  have c_y0 := S.cl 0 0 rfl rfl
  have c_y1 := S.cl 0 1 rfl rfl
  have c_y2 := S.cl 0 2 rfl rfl
  have c_x0 := S.cl 1 0 rfl rfl
  have c_x1 := S.cl 1 1 rfl rfl
  have c_x2 := S.cl 1 2 rfl rfl
  have hz : w.heap.size + 1 < w1.heap.size := S.lt 0 rfl
  replace S := Lib.hid S
  go_wp2_with fail
  refine (hL2.out _).mono ?_
  rintro e w2 ⟨rfl, bb⟩
  have T := (S.out.call bb)
  clear bb S c_y0 c_y1 c_y2 c_x0 c_x1 c_x2 hz
  have S := T
  clear T
  have c_y0 := S.cl 0 0 rfl rfl
  have c_y1 := S.cl 0 1 rfl rfl
  have c_y2 := S.cl 0 2 rfl rfl
  have c_x0 := S.cl 1 0 rfl rfl
  have c_x1 := S.cl 1 1 rfl rfl
  have c_x2 := S.cl 1 2 rfl rfl
  have hz : w.heap.size + 1 < w2.heap.size := S.lt 0 rfl
  replace S := Lib.hid S
  clear hL1 hL2
  go_wp2_with fail
  refine (hPdiv.out _ (S.out.r 3 rfl) (S.out.r 2 rfl) (S.out.r 1 rfl) (S.out.r 0 rfl)).mono ?_
  rintro e w3 ⟨A1, n1, c1, D1, m1, d1, rfl, Q1, bb⟩
  have T := (((S.out.call bb).read Q1.n).read Q1.d)
  clear bb S c_y0 c_y1 c_y2 c_x0 c_x1 c_x2 hz
  have S := T
  clear T
  have c_y0 := S.cl 0 0 rfl rfl
  have c_y1 := S.cl 0 1 rfl rfl
  have c_y2 := S.cl 0 2 rfl rfl
  have c_x0 := S.cl 1 0 rfl rfl
  have c_x1 := S.cl 1 1 rfl rfl
  have c_x2 := S.cl 1 2 rfl rfl
  have hz : w.heap.size + 1 < w3.heap.size := S.lt 0 rfl
  replace S := Lib.hid S
  clear Q1 hPdiv
  have S : St w _ [(w3.heap.size, #[.bool (ng (x / y).num), .slice A1 n1 c1, .slice D1 m1 d1], 26), (w.heap.size + 1, #[.bool b', .slice A' n' c', .slice D' m' d'], 26), (w.heap.size, #[.bool b, .slice A n c, .slice D m d], 26)] [(D1, m1, d1, dn (x / y)), (A1, n1, c1, limbs (x / y).num.natAbs), (D', m', d', es), (A', n', c', ys), (D, m, d, ds), (A, n, c, xs)] := (S.out.allocAt (w3.heap.size) #[.bool (ng (x / y).num), .slice A1 n1 c1, .slice D1 m1 d1] 26 (noL3 _ _ _ _ _ _ _) (by simp))
  have a_x0 := S.cl 2 0 rfl rfl
  have b_x0 := S.f 2 0 rfl
  have a_x1 := S.cl 2 1 rfl rfl
  have b_x1 := S.f 2 1 rfl
  have a_x2 := S.cl 2 2 rfl rfl
  have b_x2 := S.f 2 2 rfl
  have a_y0 := S.cl 1 0 rfl rfl
  have b_y0 := S.f 1 0 rfl
  have a_y1 := S.cl 1 1 rfl rfl
  have b_y1 := S.f 1 1 rfl
  have a_y2 := S.cl 1 2 rfl rfl
  have b_y2 := S.f 1 2 rfl
  replace S := Lib.hid S
  go_wp2_with fail
  refine (hFdiv.out _ (S.out.r 5 rfl) (S.out.r 4 rfl) (S.out.r 3 rfl) (S.out.r 2 rfl)).mono ?_
  rintro e w4 ⟨A2, n2, c2, D2, m2, d2, rfl, Q2, bb⟩
  have T := (((S.out.call bb).read Q2.n).read Q2.d)
  clear bb S c_y0 c_y1 c_y2 c_x0 c_x1 c_x2 hz a_x0 b_x0 a_x1 b_x1 a_x2 b_x2 a_y0 b_y0 a_y1 b_y1 a_y2 b_y2
  have S := T
  clear T
  have c_a0 := S.cl 0 0 rfl rfl
  have c_a1 := S.cl 0 1 rfl rfl
  have c_a2 := S.cl 0 2 rfl rfl
  have c_y0 := S.cl 1 0 rfl rfl
  have c_y1 := S.cl 1 1 rfl rfl
  have c_y2 := S.cl 1 2 rfl rfl
  have c_x0 := S.cl 2 0 rfl rfl
  have c_x1 := S.cl 2 1 rfl rfl
  have c_x2 := S.cl 2 2 rfl rfl
  have hz : w3.heap.size < w4.heap.size := S.lt 0 rfl
  replace S := Lib.hid S
  clear Q2 hFdiv
  go_upto_region 5 with fail
  clear c_a0 c_a1 c_a2 c_y0 c_y1 c_y2 c_x0 c_x1 c_x2 hz
  have S : St w _ [(w4.heap.size, #[.bool (ng (x / y).num), .slice A2 n2 c2, .slice D2 m2 d2], 26), (w3.heap.size, #[.bool (ng (x / y).num), .slice A1 n1 c1, .slice D1 m1 d1], 26), (w.heap.size + 1, #[.bool b', .slice A' n' c', .slice D' m' d'], 26), (w.heap.size, #[.bool b, .slice A n c, .slice D m d], 26)] [(D2, m2, d2, dn (x / y)), (A2, n2, c2, limbs (x / y).num.natAbs), (D1, m1, d1, dn (x / y)), (A1, n1, c1, limbs (x / y).num.natAbs), (D', m', d', es), (A', n', c', ys), (D, m, d, ds), (A, n, c, xs)] := (S.out.allocAt (w4.heap.size) #[.bool (ng (x / y).num), .slice A2 n2 c2, .slice D2 m2 d2] 26 (noL3 _ _ _ _ _ _ _) (by simp))
  generalize hW5 : (World.alloc w4 (.cells #[.bool (ng (x / y).num), .slice A2 n2 c2, .slice D2 m2 d2] 26)) = w5 at S ⊢
  clear hW5
  replace S := Lib.hid S
  refine RW.begin (Z := []) (S := (fun W => Cb W (w.heap.size) #[.bool b, .slice A n c, .slice D m d] 26 ∧ Cb W (w.heap.size + 1) #[.bool b', .slice A' n' c', .slice D' m' d'] 26 ∧ Cb W (w3.heap.size) #[.bool (ng (x / y).num), .slice A1 n1 c1, .slice D1 m1 d1] 26 ∧ Cb W (w4.heap.size) #[.bool (ng (x / y).num), .slice A2 n2 c2, .slice D2 m2 d2] 26)) (by kernel_rfl) ?_ S.out ?_
  · exact ⟨by kernel_rfl, zis_nil, by decide, by decide, nol_nil, (fun _ _ h => ⟨h.kb 3 rfl, h.kb 2 rfl, h.kb 1 rfl, h.kb 0 rfl⟩)⟩
  intro hzk
  clear S
  refine RW.c (i := 0) (args := #[]) (some 30) hzk.out at0 (hx := fun _ => by kernel_rfl) (h := fun _ S => (hA.out _ (tab_below htab.out S.bel)).mono ?_)
  rintro e w6 ⟨rfl, bb⟩
  refine ⟨bb, _, [], rfl, rd_nil, ?_⟩
  clear bb S
  refine RW.t (i := 1) (v := .bool true) (some 31) at1 (hy := fun _ _ => by kernel_rfl) (h := ?_)
  refine RW.t (i := 2) (v := .agg #[.bool b, .slice A n c, .slice D m d]) (some 32) at2 (hy := fun W hS => by (have k0 := Cb.cell (i := 0) hS.1 rfl; have k1 := Cb.cell (i := 1) hS.1 rfl; have k2 := Cb.cell (i := 2) hS.1 rfl; clear hS; go_simp)) (h := ?_)
  refine RW.t (i := 3) (v := .agg #[.bool b', .slice A' n' c', .slice D' m' d']) (some 33) at3 (hy := fun W hS => by (have k0 := Cb.cell (i := 0) hS.2.1 rfl; have k1 := Cb.cell (i := 1) hS.2.1 rfl; have k2 := Cb.cell (i := 2) hS.2.1 rfl; clear hS; go_simp)) (h := ?_)
  refine RW.t (i := 5) (v := .agg #[.bool b, .slice A n c, .slice D m d]) (some 35) at5 (hy := fun W hS => by (have k0 := Cb.cell (i := 0) hS.1 rfl; have k1 := Cb.cell (i := 1) hS.1 rfl; have k2 := Cb.cell (i := 2) hS.1 rfl; clear hS; go_simp)) (h := ?_)
  refine RW.t (i := 6) (v := .agg #[.bool b', .slice A' n' c', .slice D' m' d']) (some 36) at6 (hy := fun W hS => by (have k0 := Cb.cell (i := 0) hS.2.1 rfl; have k1 := Cb.cell (i := 1) hS.2.1 rfl; have k2 := Cb.cell (i := 2) hS.2.1 rfl; clear hS; go_simp)) (h := ?_)
  refine RW.c (i := 4) (args := #[.agg #[.bool b, .slice A n c, .slice D m d], .agg #[.bool b', .slice A' n' c', .slice D' m' d']]) (some 34) hzk.out at4 (hx := fun _ => by kernel_rfl) (h := fun _ S => (hPadd.out _ (S.r 7 rfl) (S.r 6 rfl) (S.r 5 rfl) (S.r 4 rfl)).mono ?_)
  rintro e w7 ⟨A3, n3, c3, D3, m3, d3, rfl, Q3, bb⟩
  refine ⟨bb, _, [(D3, m3, d3, dn (x + y)), (A3, n3, c3, limbs (x + y).num.natAbs)], rfl, (rd_cons Q3.d (rd_cons Q3.n rd_nil)), ?_⟩
  clear bb S Q3
  refine RW.c (i := 7) (args := #[.agg #[.bool b, .slice A n c, .slice D m d], .agg #[.bool b', .slice A' n' c', .slice D' m' d']]) (some 37) hzk.out at7 (hx := fun _ => by kernel_rfl) (h := fun _ S => (hFadd.out _ (S.r 9 rfl) (S.r 8 rfl) (S.r 7 rfl) (S.r 6 rfl)).mono ?_)
  rintro e w8 ⟨A4, n4, c4, D4, m4, d4, rfl, Q4, bb⟩
  refine ⟨bb, _, [(D4, m4, d4, dn (x + y)), (A4, n4, c4, limbs (x + y).num.natAbs)], rfl, (rd_cons Q4.d (rd_cons Q4.n rd_nil)), ?_⟩
  clear bb S Q4
  refine RW.c (i := 8) (args := #[.agg #[.bool (ng (x + y).num), .slice A3 n3 c3, .slice D3 m3 d3], .agg #[.bool (ng (x + y).num), .slice A4 n4 c4, .slice D4 m4 d4]]) (some 38) hzk.out at8 (hx := fun _ => by kernel_rfl) (h := fun _ S => (sameT (x + y) (x + y) rfl _ _ _ _ _ _ _ _ _ _ _ _ _ ⟨S.r 3 rfl, S.r 2 rfl⟩ ⟨S.r 1 rfl, S.r 0 rfl⟩ ((x8.out.add y8.out).mono (by decide)) ((x8.out.add y8.out).mono (by decide))).mono ?_)
  rintro e w9 ⟨rfl, bb⟩
  refine ⟨bb, _, [], rfl, rd_nil, ?_⟩
  clear bb S
  refine RW.t (i := 9) (v := .bool true) (some 39) at9 (hy := fun _ _ => by kernel_rfl) (h := ?_)
  refine RW.t (i := 10) (v := .bool true) (some 40) at10 (hy := fun _ _ => by kernel_rfl) (h := ?_)
  refine RW.t (i := 11) (v := .agg #[.bool b, .slice A n c, .slice D m d]) (some 41) at11 (hy := fun W hS => by (have k0 := Cb.cell (i := 0) hS.1 rfl; have k1 := Cb.cell (i := 1) hS.1 rfl; have k2 := Cb.cell (i := 2) hS.1 rfl; clear hS; go_simp)) (h := ?_)
  refine RW.t (i := 12) (v := .agg #[.bool b', .slice A' n' c', .slice D' m' d']) (some 42) at12 (hy := fun W hS => by (have k0 := Cb.cell (i := 0) hS.2.1 rfl; have k1 := Cb.cell (i := 1) hS.2.1 rfl; have k2 := Cb.cell (i := 2) hS.2.1 rfl; clear hS; go_simp)) (h := ?_)
  refine RW.t (i := 14) (v := .agg #[.bool b, .slice A n c, .slice D m d]) (some 44) at14 (hy := fun W hS => by (have k0 := Cb.cell (i := 0) hS.1 rfl; have k1 := Cb.cell (i := 1) hS.1 rfl; have k2 := Cb.cell (i := 2) hS.1 rfl; clear hS; go_simp)) (h := ?_)
  refine RW.t (i := 15) (v := .agg #[.bool b', .slice A' n' c', .slice D' m' d']) (some 45) at15 (hy := fun W hS => by (have k0 := Cb.cell (i := 0) hS.2.1 rfl; have k1 := Cb.cell (i := 1) hS.2.1 rfl; have k2 := Cb.cell (i := 2) hS.2.1 rfl; clear hS; go_simp)) (h := ?_)
  refine RW.c (i := 13) (args := #[.agg #[.bool b, .slice A n c, .slice D m d], .agg #[.bool b', .slice A' n' c', .slice D' m' d']]) (some 43) hzk.out at13 (hx := fun _ => by kernel_rfl) (h := fun _ S => (hPsub.out _ (S.r 11 rfl) (S.r 10 rfl) (S.r 9 rfl) (S.r 8 rfl)).mono ?_)
  rintro e w10 ⟨A5, n5, c5, D5, m5, d5, rfl, Q5, bb⟩
  refine ⟨bb, _, [(D5, m5, d5, dn (x - y)), (A5, n5, c5, limbs (x - y).num.natAbs)], rfl, (rd_cons Q5.d (rd_cons Q5.n rd_nil)), ?_⟩
  clear bb S Q5
  refine RW.c (i := 16) (args := #[.agg #[.bool b, .slice A n c, .slice D m d], .agg #[.bool b', .slice A' n' c', .slice D' m' d']]) (some 46) hzk.out at16 (hx := fun _ => by kernel_rfl) (h := fun _ S => (hFsub.out _ (S.r 13 rfl) (S.r 12 rfl) (S.r 11 rfl) (S.r 10 rfl)).mono ?_)
  rintro e w11 ⟨A6, n6, c6, D6, m6, d6, rfl, Q6, bb⟩
  refine ⟨bb, _, [(D6, m6, d6, dn (x - y)), (A6, n6, c6, limbs (x - y).num.natAbs)], rfl, (rd_cons Q6.d (rd_cons Q6.n rd_nil)), ?_⟩
  clear bb S Q6
  refine RW.c (i := 17) (args := #[.agg #[.bool (ng (x - y).num), .slice A5 n5 c5, .slice D5 m5 d5], .agg #[.bool (ng (x - y).num), .slice A6 n6 c6, .slice D6 m6 d6]]) (some 47) hzk.out at17 (hx := fun _ => by kernel_rfl) (h := fun _ S => (sameT (x - y) (x - y) rfl _ _ _ _ _ _ _ _ _ _ _ _ _ ⟨S.r 3 rfl, S.r 2 rfl⟩ ⟨S.r 1 rfl, S.r 0 rfl⟩ ((x8.out.sub y8.out).mono (by decide)) ((x8.out.sub y8.out).mono (by decide))).mono ?_)
  rintro e w12 ⟨rfl, bb⟩
  refine ⟨bb, _, [], rfl, rd_nil, ?_⟩
  clear bb S
  refine RW.t (i := 18) (v := .bool true) (some 48) at18 (hy := fun _ _ => by kernel_rfl) (h := ?_)
  refine RW.t (i := 19) (v := .bool true) (some 49) at19 (hy := fun _ _ => by kernel_rfl) (h := ?_)
  refine RW.t (i := 20) (v := .agg #[.bool b, .slice A n c, .slice D m d]) (some 50) at20 (hy := fun W hS => by (have k0 := Cb.cell (i := 0) hS.1 rfl; have k1 := Cb.cell (i := 1) hS.1 rfl; have k2 := Cb.cell (i := 2) hS.1 rfl; clear hS; go_simp)) (h := ?_)
  refine RW.t (i := 21) (v := .agg #[.bool b', .slice A' n' c', .slice D' m' d']) (some 51) at21 (hy := fun W hS => by (have k0 := Cb.cell (i := 0) hS.2.1 rfl; have k1 := Cb.cell (i := 1) hS.2.1 rfl; have k2 := Cb.cell (i := 2) hS.2.1 rfl; clear hS; go_simp)) (h := ?_)
  refine RW.t (i := 23) (v := .agg #[.bool b, .slice A n c, .slice D m d]) (some 53) at23 (hy := fun W hS => by (have k0 := Cb.cell (i := 0) hS.1 rfl; have k1 := Cb.cell (i := 1) hS.1 rfl; have k2 := Cb.cell (i := 2) hS.1 rfl; clear hS; go_simp)) (h := ?_)
  refine RW.t (i := 24) (v := .agg #[.bool b', .slice A' n' c', .slice D' m' d']) (some 54) at24 (hy := fun W hS => by (have k0 := Cb.cell (i := 0) hS.2.1 rfl; have k1 := Cb.cell (i := 1) hS.2.1 rfl; have k2 := Cb.cell (i := 2) hS.2.1 rfl; clear hS; go_simp)) (h := ?_)
  refine RW.c (i := 22) (args := #[.agg #[.bool b, .slice A n c, .slice D m d], .agg #[.bool b', .slice A' n' c', .slice D' m' d']]) (some 52) hzk.out at22 (hx := fun _ => by kernel_rfl) (h := fun _ S => (hPmul.out _ (S.r 15 rfl) (S.r 14 rfl) (S.r 13 rfl) (S.r 12 rfl)).mono ?_)
  rintro e w13 ⟨A7, n7, c7, D7, m7, d7, rfl, Q7, bb⟩
  refine ⟨bb, _, [(D7, m7, d7, dn (x * y)), (A7, n7, c7, limbs (x * y).num.natAbs)], rfl, (rd_cons Q7.d (rd_cons Q7.n rd_nil)), ?_⟩
  clear bb S Q7
  refine RW.c (i := 25) (args := #[.agg #[.bool b, .slice A n c, .slice D m d], .agg #[.bool b', .slice A' n' c', .slice D' m' d']]) (some 55) hzk.out at25 (hx := fun _ => by kernel_rfl) (h := fun _ S => (hFmul.out _ (S.r 17 rfl) (S.r 16 rfl) (S.r 15 rfl) (S.r 14 rfl)).mono ?_)
  rintro e w14 ⟨A8, n8, c8, D8, m8, d8, rfl, Q8, bb⟩
  refine ⟨bb, _, [(D8, m8, d8, dn (x * y)), (A8, n8, c8, limbs (x * y).num.natAbs)], rfl, (rd_cons Q8.d (rd_cons Q8.n rd_nil)), ?_⟩
  clear bb S Q8
  refine RW.c (i := 26) (args := #[.agg #[.bool (ng (x * y).num), .slice A7 n7 c7, .slice D7 m7 d7], .agg #[.bool (ng (x * y).num), .slice A8 n8 c8, .slice D8 m8 d8]]) (some 56) hzk.out at26 (hx := fun _ => by kernel_rfl) (h := fun _ S => (sameT (x * y) (x * y) rfl _ _ _ _ _ _ _ _ _ _ _ _ _ ⟨S.r 3 rfl, S.r 2 rfl⟩ ⟨S.r 1 rfl, S.r 0 rfl⟩ ((x8.out.mul y8.out).mono (by decide)) ((x8.out.mul y8.out).mono (by decide))).mono ?_)
  rintro e w15 ⟨rfl, bb⟩
  refine ⟨bb, _, [], rfl, rd_nil, ?_⟩
  clear bb S
  refine RW.t (i := 27) (v := .bool true) (some 57) at27 (hy := fun _ _ => by kernel_rfl) (h := ?_)
  refine RW.t (i := 28) (v := .bool true) (some 58) at28 (hy := fun _ _ => by kernel_rfl) (h := ?_)
  refine RW.t (i := 29) (v := .agg #[.bool (ng (x / y).num), .slice A1 n1 c1, .slice D1 m1 d1]) (some 59) at29 (hy := fun W hS => by (have k0 := Cb.cell (i := 0) hS.2.2.1 rfl; have k1 := Cb.cell (i := 1) hS.2.2.1 rfl; have k2 := Cb.cell (i := 2) hS.2.2.1 rfl; clear hS; go_simp)) (h := ?_)
  refine RW.t (i := 30) (v := .agg #[.bool (ng (x / y).num), .slice A2 n2 c2, .slice D2 m2 d2]) (some 60) at30 (hy := fun W hS => by (have k0 := Cb.cell (i := 0) hS.2.2.2 rfl; have k1 := Cb.cell (i := 1) hS.2.2.2 rfl; have k2 := Cb.cell (i := 2) hS.2.2.2 rfl; clear hS; go_simp)) (h := ?_)
  refine RW.c (i := 31) (args := #[.agg #[.bool (ng (x / y).num), .slice A1 n1 c1, .slice D1 m1 d1], .agg #[.bool (ng (x / y).num), .slice A2 n2 c2, .slice D2 m2 d2]]) (some 61) hzk.out at31 (hx := fun _ => by kernel_rfl) (h := fun _ S => (sameT (x / y) (x / y) rfl _ _ _ _ _ _ _ _ _ _ _ _ _ ⟨S.r 15 rfl, S.r 14 rfl⟩ ⟨S.r 13 rfl, S.r 12 rfl⟩ (hq8.out.mono (by decide)) (hq8.out.mono (by decide))).mono ?_)
  rintro e w16 ⟨rfl, bb⟩
  refine ⟨bb, _, [], rfl, rd_nil, ?_⟩
  clear bb S
  refine RW.t (i := 32) (v := .bool true) (some 62) at32 (hy := fun _ _ => by kernel_rfl) (h := ?_)
  refine RW.t (i := 33) (v := .bool true) (some 63) at33 (hy := fun _ _ => by kernel_rfl) (h := ?_)
  refine RW.t (i := 34) (v := .int .i64 dE) (some 64) at34 (hy := fun _ _ => by kernel_rfl) (h := ?_)
  refine RW.t (i := 35) (v := .int .i64 dE) (some 65) at35 (hy := fun _ _ => by kernel_rfl) (h := ?_)
  refine RW.t (i := 36) (v := .bool true) (some 66) at36 (hy := fun _ _ => by go_simp) (h := ?_)
  refine RW.t (i := 37) (v := .bool true) (some 67) at37 (hy := fun _ _ => by kernel_rfl) (h := ?_)
  refine RW.tail hzk.out (by kernel_rfl) ?_
  intro gs w17 hgs hS S
  obtain rfl := len0 hgs
  clear hS hgs hzk
  simp only [mark, fill, Act.put, List.setIfInBounds_toArray, List.set_cons_zero, List.set_cons_succ]
  replace S := Lib.hid S
  refine Wk.o (i := 38) at38 (by kernel_rfl) fun K' hK => ?_
  go_simp
  have SN := S.out
  clear S
  have S := SN
  clear SN
  refine hK.out _ _ ⟨(S.cb 3 rfl), (S.cb 2 rfl), (S.cb 1 rfl), (S.cb 0 rfl)⟩ ?_
  clear hK K'
  replace S := Lib.hid S
  try simp only [Act.put, List.setIfInBounds_toArray, List.set_cons_zero, List.set_cons_succ]
  refine Wk.done (by kernel_rfl) ?_
  go_simp
  replace S := S.out
  have S : St w _ [(w4.heap.size, #[.bool (ng (x / y).num), .slice A2 n2 c2, .slice D2 m2 d2], 26), (w3.heap.size, #[.bool (ng (x / y).num), .slice A1 n1 c1, .slice D1 m1 d1], 26), (w.heap.size + 1, #[.bool b', .slice A' n' c', .slice D' m' d'], 26), (w.heap.size, #[.bool b, .slice A n c, .slice D m d], 26)] [(D8, m8, d8, dn (x * y)), (A8, n8, c8, limbs (x * y).num.natAbs), (D7, m7, d7, dn (x * y)), (A7, n7, c7, limbs (x * y).num.natAbs), (D6, m6, d6, dn (x - y)), (A6, n6, c6, limbs (x - y).num.natAbs), (D5, m5, d5, dn (x - y)), (A5, n5, c5, limbs (x - y).num.natAbs), (D4, m4, d4, dn (x + y)), (A4, n4, c4, limbs (x + y).num.natAbs), (D3, m3, d3, dn (x + y)), (A3, n3, c3, limbs (x + y).num.natAbs), (D2, m2, d2, dn (x / y)), (A2, n2, c2, limbs (x / y).num.natAbs), (D1, m1, d1, dn (x / y)), (A1, n1, c1, limbs (x / y).num.natAbs), (D', m', d', es), (A', n', c', ys), (D, m, d, ds), (A, n, c, xs)] := S
  replace S := Lib.hid S
  replace S := S.out
  replace S := Lib.hid S
  have S : St w _ [(w4.heap.size, #[.bool (ng (x / y).num), .slice A2 n2 c2, .slice D2 m2 d2], 26), (w3.heap.size, #[.bool (ng (x / y).num), .slice A1 n1 c1, .slice D1 m1 d1], 26), (w.heap.size + 1, #[.bool b', .slice A' n' c', .slice D' m' d'], 26), (w.heap.size, #[.bool b, .slice A n c, .slice D m d], 26)] [(D8, m8, d8, dn (x * y)), (A8, n8, c8, limbs (x * y).num.natAbs), (D7, m7, d7, dn (x * y)), (A7, n7, c7, limbs (x * y).num.natAbs), (D6, m6, d6, dn (x - y)), (A6, n6, c6, limbs (x - y).num.natAbs), (D5, m5, d5, dn (x - y)), (A5, n5, c5, limbs (x - y).num.natAbs), (D4, m4, d4, dn (x + y)), (A4, n4, c4, limbs (x + y).num.natAbs), (D3, m3, d3, dn (x + y)), (A3, n3, c3, limbs (x + y).num.natAbs), (D2, m2, d2, dn (x / y)), (A2, n2, c2, limbs (x / y).num.natAbs), (D1, m1, d1, dn (x / y)), (A1, n1, c1, limbs (x / y).num.natAbs), (D', m', d', es), (A', n', c', ys), (D, m, d, ds), (A, n, c, xs)] := S.out
  replace S := Lib.hid S
  go_wp2
  go_ret
  exact ⟨rfl, S.out.bel⟩
end Go.Proofs.YtgpgpkkgpedifaaGreatDoor
