/- The reference's hull at rows; its Square, Add, Sub. -/
import Derived.Test.YtidhloliahfknaaGreatVz
import Derived.Test.YtidhloliahfknaaGreatQVpz
namespace Go.Proofs.YtidhloliahfknaaGreat
open Go.RowKit RQ
theorem rhull2 (b1 : Bool) (A1 : Option Addr) (n1 c1 : Nat) (x1 : List Nat) (D1 : Option Addr) (m1 d1 : Nat) (y1 : List Nat) (q1 : Rat) (b2 : Bool) (A2 : Option Addr) (n2 c2 : Nat) (x2 : List Nat) (D2 : Option Addr) (m2 d2 : Nat) (y2 : List Nat) (q2 : Rat) (W : World) (g t : Nat) (h : Cb W g #[.bool b1, .slice A1 n1 c1, .slice D1 m1 d1, .bool b2, .slice A2 n2 c2, .slice D2 m2 d2] t) (X1 : Rw W b1 A1 n1 c1 x1 D1 m1 d1 y1 q1) (X2 : Rw W b2 A2 n2 c2 x2 D2 m2 d2 y2 q2) : Calls Tryz.prog 73 #[.slice (some ⟨g, 0, none⟩) 2 2] W (RetV (minL [q1, q2]) (maxL [q1, q2]) W) :=
  have hL := lt2 b1 A1 n1 c1 x1 D1 m1 d1 y1 q1 b2 A2 n2 c2 x2 D2 m2 d2 y2 q2 W g t h X1 X2
  rhull_any [⟨b1, A1, n1, c1, x1, D1, m1, d1, y1, q1⟩, ⟨b2, A2, n2, c2, x2, D2, m2, d2, y2, q2⟩] g W hL (by simp) (by simp) (fun r hr => (hL.at_ r hr).rs)
theorem rhull3 (b1 : Bool) (A1 : Option Addr) (n1 c1 : Nat) (x1 : List Nat) (D1 : Option Addr) (m1 d1 : Nat) (y1 : List Nat) (q1 : Rat) (b2 : Bool) (A2 : Option Addr) (n2 c2 : Nat) (x2 : List Nat) (D2 : Option Addr) (m2 d2 : Nat) (y2 : List Nat) (q2 : Rat) (b3 : Bool) (A3 : Option Addr) (n3 c3 : Nat) (x3 : List Nat) (D3 : Option Addr) (m3 d3 : Nat) (y3 : List Nat) (q3 : Rat) (W : World) (g t : Nat) (h : Cb W g #[.bool b1, .slice A1 n1 c1, .slice D1 m1 d1, .bool b2, .slice A2 n2 c2, .slice D2 m2 d2, .bool b3, .slice A3 n3 c3, .slice D3 m3 d3] t) (X1 : Rw W b1 A1 n1 c1 x1 D1 m1 d1 y1 q1) (X2 : Rw W b2 A2 n2 c2 x2 D2 m2 d2 y2 q2) (X3 : Rw W b3 A3 n3 c3 x3 D3 m3 d3 y3 q3) : Calls Tryz.prog 73 #[.slice (some ⟨g, 0, none⟩) 3 3] W (RetV (minL [q1, q2, q3]) (maxL [q1, q2, q3]) W) :=
  have hL := lt3 b1 A1 n1 c1 x1 D1 m1 d1 y1 q1 b2 A2 n2 c2 x2 D2 m2 d2 y2 q2 b3 A3 n3 c3 x3 D3 m3 d3 y3 q3 W g t h X1 X2 X3
  rhull_any [⟨b1, A1, n1, c1, x1, D1, m1, d1, y1, q1⟩, ⟨b2, A2, n2, c2, x2, D2, m2, d2, y2, q2⟩, ⟨b3, A3, n3, c3, x3, D3, m3, d3, y3, q3⟩] g W hL (by simp) (by simp) (fun r hr => (hL.at_ r hr).rs)
theorem res_rsqV (W : World) (tmps : Array Value) (g t : Nat) {v0 v1 v2 v3 v4 v5 : Value} (ht : tmps.getD 2 undef = .pointer (some ⟨g, 0, none⟩)) (h : Cb W g #[v0, v1, v2, v3, v4, v5] t) :
    (results Tryz.f37 tmps).run Tryz.prog W = .ok (.agg #[v0, v1, v2, v3, v4, v5]) W := by
  have c0 : W.cell? ⟨g, 0, none⟩ = some v0 := h.cell rfl
  have c1 : W.cell? ⟨g, 1, none⟩ = some v1 := h.cell rfl
  have c2 : W.cell? ⟨g, 2, none⟩ = some v2 := h.cell rfl
  have c3 : W.cell? ⟨g, 3, none⟩ = some v3 := h.cell rfl
  have c4 : W.cell? ⟨g, 4, none⟩ = some v4 := h.cell rfl
  have c5 : W.cell? ⟨g, 5, none⟩ = some v5 := h.cell rfl
  have ht' : tmps[2]?.getD undef = .pointer (some ⟨g, 0, none⟩) := by rw [← ht]; simp [Array.getD_eq_getD_getElem?]
  simp [results, Tryz.results37, go_sem, ht', c0, c1, c2, c3, c4, c5]

set_option maxRecDepth 100000 in
set_option maxHeartbeats 8000000 in
theorem rsquareV_any (b1 : Bool) (A1 : Option Addr) (n1 c1 : Nat) (x1 : List Nat) (D1 : Option Addr) (m1 d1 : Nat) (y1 : List Nat) (q1 : Rat) (b2 : Bool) (A2 : Option Addr) (n2 c2 : Nat) (x2 : List Nat) (D2 : Option Addr) (m2 d2 : Nat) (y2 : List Nat) (q2 : Rat) (s1 : Rs q1 19) (s2 : Rs q2 19) (w : World) (X1 : Rw w b1 A1 n1 c1 x1 D1 m1 d1 y1 q1) (X2 : Rw w b2 A2 n2 c2 x2 D2 m2 d2 y2 q2) : Calls Tryz.prog 37 #[.agg #[.bool b1, .slice A1 n1 c1, .slice D1 m1 d1, .bool b2, .slice A2 n2 c2, .slice D2 m2 d2]] w (RetV (minL (sqL (klo q1 q2) (khi q1 q2))) (maxL (sqL (klo q1 q2) (khi q1 q2))) w) := by
  obtain ⟨s5, s6⟩ := k_rsp s1 s2 (by decide)
  have hle := kle q1 q2
  have hK := Lib.hid (fun W h1 h2 => rtakeV_any b1 A1 n1 c1 x1 D1 m1 d1 y1 q1 b2 A2 n2 c2 x2 D2 m2 d2 y2 q2 W h1 h2)
  generalize klo q1 q2 = q5 at *
  generalize khi q1 q2 = q6 at *
  have hC : Hid (∀ W A n c D m d A' n' c' D' m' d', RR W A n c D m d q5 → RR W A' n' c' D' m' d' q6 → Calls Tryz.prog 20 #[.agg #[.bool (ng q5.num), .slice A n c, .slice D m d, .bool (ng q6.num), .slice A' n' c', .slice D' m' d'], .agg #[.bool false, .slice none 0 0, .slice none 0 0]] W fun e w' => e = .returned (.bool (decide (q5 ≤ 0 ∧ 0 ≤ q6))) ∧ Below W.heap.size W w') := Lib.hid fun W A n c D m d A' n' c' D' m' d' h1 h2 => by
    have := rcontains_any _ _ _ _ _ _ _ _ _ _ _ _ _ _ _ _ _ _ _ _ false none 0 0 [] none 0 0 [] 0 W (RR.w h1 (s5.mono (by decide))) (RR.w h2 (s6.mono (by decide))) (Rw.zero W)
    rwa [show klo q5 q6 = q5 from if_neg (Rat.not_lt.2 hle), show khi q5 q6 = q6 from if_neg (Rat.not_lt.2 hle), ← Bool.decide_and] at this
  clear hle
  unfold sqL
  have hM0 : Hid (∀ W A0 n0 c0 D0 m0 d0 A1 n1 c1 D1 m1 d1, RR W A0 n0 c0 D0 m0 d0 q5 → RR W A1 n1 c1 D1 m1 d1 q5 → Calls Tryz.prog 48 #[.agg #[.bool (ng q5.num), .slice A0 n0 c0, .slice D0 m0 d0], .agg #[.bool (ng q5.num), .slice A1 n1 c1, .slice D1 m1 d1]] W (RetR (q5 * q5) W)) := Lib.hid fun W A0 n0 c0 D0 m0 d0 A1 n1 c1 D1 m1 d1 X0 X1 => by
    have l0 := X0.lens s5
    have l1 := X1.lens s5
    have := Fmul_any (ng q5.num) A0 n0 c0 _ D0 m0 d0 _ (ng q5.num) A1 n1 c1 _ D1 m1 d1 _ W X0.n X0.d X1.n X1.d (by omega) (by omega) (by omega) (by omega)
    rwa [rv_z] at this
  have t0 : Hid (Rs (q5 * q5) 40) := Lib.hid ((s5.mul s5).mono (by decide))
  have hM1 : Hid (∀ W A0 n0 c0 D0 m0 d0 A1 n1 c1 D1 m1 d1, RR W A0 n0 c0 D0 m0 d0 q6 → RR W A1 n1 c1 D1 m1 d1 q6 → Calls Tryz.prog 48 #[.agg #[.bool (ng q6.num), .slice A0 n0 c0, .slice D0 m0 d0], .agg #[.bool (ng q6.num), .slice A1 n1 c1, .slice D1 m1 d1]] W (RetR (q6 * q6) W)) := Lib.hid fun W A0 n0 c0 D0 m0 d0 A1 n1 c1 D1 m1 d1 X0 X1 => by
    have l0 := X0.lens s6
    have l1 := X1.lens s6
    have := Fmul_any (ng q6.num) A0 n0 c0 _ D0 m0 d0 _ (ng q6.num) A1 n1 c1 _ D1 m1 d1 _ W X0.n X0.d X1.n X1.d (by omega) (by omega) (by omega) (by omega)
    rwa [rv_z] at this
  have t1 : Hid (Rs (q6 * q6) 40) := Lib.hid ((s6.mul s6).mono (by decide))
  clear s1 s2 s5 s6
  have k1 := Lib.hid X1.k
  have k2 := Lib.hid X2.k
  generalize q5 * q5 = p0 at *
  generalize q6 * q6 = p1 at *
  generalize hu : decide (q5 ≤ 0 ∧ 0 ≤ q6) = u at *
  have S := (((((((St.new w).read X1.rn).read X1.rd).read X2.rn).read X2.rd).allocAt (w.heap.size) #[.bool b1, .slice A1 n1 c1, .slice D1 m1 d1, .bool b2, .slice A2 n2 c2, .slice D2 m2 d2] 28 (noL6 _ _ _ _ _ _ _ _ _ _ _ _ _ _) (by simp)).allocAt (w.heap.size + 1) #[.bool false, .slice none 0 0, .slice none 0 0, .bool false, .slice none 0 0, .slice none 0 0] 28 (noL6 _ _ _ _ _ _ _ _ _ _ _ _ _ _) (by simp))
  replace S := Lib.hid S
  clear X1 X2
  cases u
  · rw [if_neg (of_decide_eq_false hu)]
    clear hu
    obtain ⟨lo, hlo⟩ : ∃ lo, lo = minL [p0, p1] := ⟨_, rfl⟩
    obtain ⟨hi, hhi⟩ : ∃ hi, hi = maxL [p0, p1] := ⟨_, rfl⟩
    rw [← hlo, ← hhi]
    have hR : Hid (∀ W g A20 n20 c20 D20 m20 d20 A21 n21 c21 D21 m21 d21, Cb W g #[.bool (ng p0.num), .slice A20 n20 c20, .slice D20 m20 d20, .bool (ng p1.num), .slice A21 n21 c21, .slice D21 m21 d21] 26 → Rw W (ng p0.num) A20 n20 c20 (limbs p0.num.natAbs) D20 m20 d20 (dn p0) p0 → Rw W (ng p1.num) A21 n21 c21 (limbs p1.num.natAbs) D21 m21 d21 (dn p1) p1 → Calls Tryz.prog 73 #[.slice (some ⟨g, 0, none⟩) 2 2] W (RetV lo hi W)) := Lib.hid fun W g A20 n20 c20 D20 m20 d20 A21 n21 c21 D21 m21 d21 h h0 h1 => by
      rw [hlo, hhi]; exact rhull2 _ _ _ _ _ _ _ _ _ _ _ _ _ _ _ _ _ _ _ _ W g _ h h0 h1
    clear hlo hhi
    go_enter Tryz.func37, Tryz.ntmps37
    go_wp2_with fail
    refine (hK.out _ (Rw.of (S.out.r 3 rfl) (S.out.r 2 rfl) k1.out) (Rw.of (S.out.r 1 rfl) (S.out.r 0 rfl) k2.out)).mono ?_
    rintro e w1 ⟨A11, n11, c11, D11, m11, d11, A12, n12, c12, D12, m12, d12, rfl, Q11, Q12, bb⟩
    have T := (((((S.out.call bb).read Q11.n).read Q11.d).read Q12.n).read Q12.d)
    clear bb S
    have S := T
    clear T
    obtain ⟨c_r0, c_r1, c_r2, c_r3, c_r4, c_r5, f_r0, f_r1, f_r2, f_r3, f_r4, f_r5⟩ := S.cf6 0 rfl
    obtain ⟨c_a0, c_a1, c_a2, c_a3, c_a4, c_a5, f_a0, f_a1, f_a2, f_a3, f_a4, f_a5⟩ := S.cf6 1 rfl
    have hz : w.heap.size + 1 < w1.heap.size := S.lt 0 rfl
    replace S := Lib.hid S
    clear hK Q11 Q12
    go_upto_region 2 with fail
    clear c_r0 f_r0 c_r1 f_r1 c_r2 f_r2 c_r3 f_r3 c_r4 f_r4 c_r5 f_r5 c_a0 f_a0 c_a1 f_a1 c_a2 f_a2 c_a3 f_a3 c_a4 f_a4 c_a5 f_a5 hz
    have S : St w _ [(w.heap.size + 1, #[.bool false, .slice none 0 0, .slice none 0 0, .bool false, .slice none 0 0, .slice none 0 0], 28), (w.heap.size, #[.bool (ng q5.num), .slice A11 n11 c11, .slice D11 m11 d11, .bool (ng q6.num), .slice A12 n12 c12, .slice D12 m12 d12], 28)] [(D12, m12, d12, dn q6), (A12, n12, c12, limbs q6.num.natAbs), (D11, m11, d11, dn q5), (A11, n11, c11, limbs q5.num.natAbs), (D2, m2, d2, y2), (A2, n2, c2, x2), (D1, m1, d1, y1), (A1, n1, c1, x1)] := ((((((S.out.set 1 0 (.bool (ng q5.num)) rfl (by nofun)).set 1 1 (.slice A11 n11 c11) rfl (by nofun)).set 1 2 (.slice D11 m11 d11) rfl (by nofun)).set 1 3 (.bool (ng q6.num)) rfl (by nofun)).set 1 4 (.slice A12 n12 c12) rfl (by nofun)).set 1 5 (.slice D12 m12 d12) rfl (by nofun))
    generalize hW2 : (World.setCell (World.setCell (World.setCell (World.setCell (World.setCell (World.setCell w1 ⟨w.heap.size, 0, none⟩ (.bool (ng q5.num))) ⟨w.heap.size, 1, none⟩ (.slice A11 n11 c11)) ⟨w.heap.size, 2, none⟩ (.slice D11 m11 d11)) ⟨w.heap.size, 3, none⟩ (.bool (ng q6.num))) ⟨w.heap.size, 4, none⟩ (.slice A12 n12 c12)) ⟨w.heap.size, 5, none⟩ (.slice D12 m12 d12)) = w2 at S ⊢
    clear hW2
    replace S := Lib.hid S
    refine RW.begin (Z := [⟨10, 3, #[.bool false, .slice none 0 0, .slice none 0 0], 26⟩, ⟨11, 4, #[.bool false, .slice none 0 0, .slice none 0 0], 26⟩]) (S := (fun W => Cb W (w.heap.size) #[.bool (ng q5.num), .slice A11 n11 c11, .slice D11 m11 d11, .bool (ng q6.num), .slice A12 n12 c12, .slice D12 m12 d12] 28)) (by kernel_rfl) ?_ S.out ?_
    · exact ⟨by kernel_rfl, (zis_cons at10 (fun _ _ => by kernel_rfl) (zis_cons at11 (fun _ _ => by kernel_rfl) zis_nil)), by decide, by decide, (nol_cons (noL3 _ _ _ _ _ _ _) (nol_cons (noL3 _ _ _ _ _ _ _) nol_nil)), (fun _ _ h => h.kb 1 rfl)⟩
    intro hzk
    clear S
    refine RW.t (i := 0) (v := .pointer (some ⟨w.heap.size, 0, none⟩)) (some 7) at0 (hy := fun _ _ => by kernel_rfl) (h := ?_)
    refine RW.t (i := 1) (v := .agg #[.bool (ng q5.num), .slice A11 n11 c11, .slice D11 m11 d11]) (some 8) at1 (hy := fun W hS => by (have k0 := Cb.cell (i := 0) hS rfl; have k1 := Cb.cell (i := 1) hS rfl; have k2 := Cb.cell (i := 2) hS rfl; clear hS; go_simp)) (h := ?_)
    refine RW.t (i := 2) (v := .pointer (some ⟨w.heap.size, 0, none⟩)) (some 9) at2 (hy := fun _ _ => by kernel_rfl) (h := ?_)
    refine RW.t (i := 3) (v := .agg #[.bool (ng q5.num), .slice A11 n11 c11, .slice D11 m11 d11]) (some 10) at3 (hy := fun W hS => by (have k0 := Cb.cell (i := 0) hS rfl; have k1 := Cb.cell (i := 1) hS rfl; have k2 := Cb.cell (i := 2) hS rfl; clear hS; go_simp)) (h := ?_)
    refine RW.t (i := 5) (v := .pointer (some ⟨w.heap.size, 3, none⟩)) (some 12) at5 (hy := fun _ _ => by kernel_rfl) (h := ?_)
    refine RW.t (i := 6) (v := .agg #[.bool (ng q6.num), .slice A12 n12 c12, .slice D12 m12 d12]) (some 13) at6 (hy := fun W hS => by (have k3 := Cb.cell (i := 3) hS rfl; have k4 := Cb.cell (i := 4) hS rfl; have k5 := Cb.cell (i := 5) hS rfl; clear hS; go_simp)) (h := ?_)
    refine RW.t (i := 7) (v := .pointer (some ⟨w.heap.size, 3, none⟩)) (some 14) at7 (hy := fun _ _ => by kernel_rfl) (h := ?_)
    refine RW.t (i := 8) (v := .agg #[.bool (ng q6.num), .slice A12 n12 c12, .slice D12 m12 d12]) (some 15) at8 (hy := fun W hS => by (have k3 := Cb.cell (i := 3) hS rfl; have k4 := Cb.cell (i := 4) hS rfl; have k5 := Cb.cell (i := 5) hS rfl; clear hS; go_simp)) (h := ?_)
    refine RW.c (i := 4) (args := #[.agg #[.bool (ng q5.num), .slice A11 n11 c11, .slice D11 m11 d11], .agg #[.bool (ng q5.num), .slice A11 n11 c11, .slice D11 m11 d11]]) (some 11) hzk.out at4 (hx := fun _ => by kernel_rfl) (h := fun _ S => (hM0.out _ _ _ _ _ _ _ _ _ _ _ _ _ ⟨S.r 3 rfl, S.r 2 rfl⟩ ⟨S.r 3 rfl, S.r 2 rfl⟩).mono ?_)
    rintro e w3 ⟨A20, n20, c20, D20, m20, d20, rfl, Q20, bb⟩
    refine ⟨bb, _, [(D20, m20, d20, dn p0), (A20, n20, c20, limbs p0.num.natAbs)], rfl, (rd_cons Q20.d (rd_cons Q20.n rd_nil)), ?_⟩
    clear bb S Q20
    refine RW.c (i := 9) (args := #[.agg #[.bool (ng q6.num), .slice A12 n12 c12, .slice D12 m12 d12], .agg #[.bool (ng q6.num), .slice A12 n12 c12, .slice D12 m12 d12]]) (some 16) hzk.out at9 (hx := fun _ => by kernel_rfl) (h := fun _ S => (hM1.out _ _ _ _ _ _ _ _ _ _ _ _ _ ⟨S.r 3 rfl, S.r 2 rfl⟩ ⟨S.r 3 rfl, S.r 2 rfl⟩).mono ?_)
    rintro e w4 ⟨A21, n21, c21, D21, m21, d21, rfl, Q21, bb⟩
    refine ⟨bb, _, [(D21, m21, d21, dn p1), (A21, n21, c21, limbs p1.num.natAbs)], rfl, (rd_cons Q21.d (rd_cons Q21.n rd_nil)), ?_⟩
    clear bb S Q21
    refine RW.tail hzk.out (by kernel_rfl) ?_
    intro gs w5 hgs hS S
    obtain ⟨g_u, g_v, rfl⟩ := len2 hgs
    clear hS hgs hzk
    simp only [mark, fill, List.map, Act.put, List.setIfInBounds_toArray, List.set_cons_zero, List.set_cons_succ]
    replace S := Lib.hid S
    refine Wk.o (i := 12) at12 (by kernel_rfl) fun K' hK => ?_
    have q12_u0 := St.cl (S.out) 0 0 rfl rfl
    have q12_u1 := St.cl (S.out) 0 1 rfl rfl
    have q12_u2 := St.cl (S.out) 0 2 rfl rfl
    have q12z_u0 := St.f (S.out) 0 0 rfl
    have q12z_u1 := St.f (S.out) 0 1 rfl
    have q12z_u2 := St.f (S.out) 0 2 rfl
    go_simp
    have SN := (((S.out.set 0 0 (.bool (ng p0.num)) rfl (by nofun)).set 0 1 (.slice A20 n20 c20) rfl (by nofun)).set 0 2 (.slice D20 m20 d20) rfl (by nofun))
    clear S q12_u0 q12_u1 q12_u2 q12z_u0 q12z_u1 q12z_u2
    have S := SN
    clear SN
    refine hK.out _ _ (S.cb 3 rfl) ?_
    clear hK K'
    replace S := Lib.hid S
    try simp only [Act.put, List.setIfInBounds_toArray, List.set_cons_zero, List.set_cons_succ]
    refine Wk.o (i := 13) at13 (by kernel_rfl) fun K' hK => ?_
    have q13_v0 := St.cl (S.out) 1 0 rfl rfl
    have q13_v1 := St.cl (S.out) 1 1 rfl rfl
    have q13_v2 := St.cl (S.out) 1 2 rfl rfl
    have q13z_v0 := St.f (S.out) 1 0 rfl
    have q13z_v1 := St.f (S.out) 1 1 rfl
    have q13z_v2 := St.f (S.out) 1 2 rfl
    go_simp
    have SN := (((S.out.set 1 0 (.bool (ng p1.num)) rfl (by nofun)).set 1 1 (.slice A21 n21 c21) rfl (by nofun)).set 1 2 (.slice D21 m21 d21) rfl (by nofun))
    clear S q13_v0 q13_v1 q13_v2 q13z_v0 q13z_v1 q13z_v2
    have S := SN
    clear SN
    refine hK.out _ _ (S.cb 3 rfl) ?_
    clear hK K'
    replace S := Lib.hid S
    try simp only [Act.put, List.setIfInBounds_toArray, List.set_cons_zero, List.set_cons_succ]
    refine Wk.done (by kernel_rfl) ?_
    go_simp
    replace S := S.out
    have S : St w _ [(g_u, #[.bool (ng p0.num), .slice A20 n20 c20, .slice D20 m20 d20], 26), (g_v, #[.bool (ng p1.num), .slice A21 n21 c21, .slice D21 m21 d21], 26), (w.heap.size + 1, #[.bool false, .slice none 0 0, .slice none 0 0, .bool false, .slice none 0 0, .slice none 0 0], 28), (w.heap.size, #[.bool (ng q5.num), .slice A11 n11 c11, .slice D11 m11 d11, .bool (ng q6.num), .slice A12 n12 c12, .slice D12 m12 d12], 28)] [(D21, m21, d21, dn p1), (A21, n21, c21, limbs p1.num.natAbs), (D20, m20, d20, dn p0), (A20, n20, c20, limbs p0.num.natAbs), (D12, m12, d12, dn q6), (A12, n12, c12, limbs q6.num.natAbs), (D11, m11, d11, dn q5), (A11, n11, c11, limbs q5.num.natAbs), (D2, m2, d2, y2), (A2, n2, c2, x2), (D1, m1, d1, y1), (A1, n1, c1, x1)] := S
    generalize hW6 : (World.setCell (World.setCell (World.setCell (World.setCell (World.setCell (World.setCell w5 ⟨g_u, 0, none⟩ (.bool (ng p0.num))) ⟨g_u, 1, none⟩ (.slice A20 n20 c20)) ⟨g_u, 2, none⟩ (.slice D20 m20 d20)) ⟨g_v, 0, none⟩ (.bool (ng p1.num))) ⟨g_v, 1, none⟩ (.slice A21 n21 c21)) ⟨g_v, 2, none⟩ (.slice D21 m21 d21)) = w6 at S ⊢
    clear hW6
    replace S := Lib.hid S
    replace S := S.out
    obtain ⟨c_u0, c_u1, c_u2, f_u0, f_u1, f_u2⟩ := S.cf3 0 rfl
    obtain ⟨c_v0, c_v1, c_v2, f_v0, f_v1, f_v2⟩ := S.cf3 1 rfl
    obtain ⟨c_r0, c_r1, c_r2, c_r3, c_r4, c_r5, f_r0, f_r1, f_r2, f_r3, f_r4, f_r5⟩ := S.cf6 2 rfl
    obtain ⟨c_a0, c_a1, c_a2, c_a3, c_a4, c_a5, f_a0, f_a1, f_a2, f_a3, f_a4, f_a5⟩ := S.cf6 3 rfl
    have hz : g_u < w6.heap.size := S.lt 0 rfl
    replace S := Lib.hid S
    clear hM0 hM1
    go_wp2_with fail
    refine (hC.out _ _ _ _ _ _ _ _ _ _ _ _ _ ⟨S.out.r 7 rfl, S.out.r 6 rfl⟩ ⟨S.out.r 5 rfl, S.out.r 4 rfl⟩).mono ?_
    rintro e w7 ⟨rfl, bb⟩
    have T := (S.out.call bb)
    clear bb S c_u0 f_u0 c_u1 f_u1 c_u2 f_u2 c_v0 f_v0 c_v1 f_v1 c_v2 f_v2 c_r0 f_r0 c_r1 f_r1 c_r2 f_r2 c_r3 f_r3 c_r4 f_r4 c_r5 f_r5 c_a0 f_a0 c_a1 f_a1 c_a2 f_a2 c_a3 f_a3 c_a4 f_a4 c_a5 f_a5 hz
    have S := T
    clear T
    obtain ⟨c_u0, c_u1, c_u2, f_u0, f_u1, f_u2⟩ := S.cf3 0 rfl
    obtain ⟨c_v0, c_v1, c_v2, f_v0, f_v1, f_v2⟩ := S.cf3 1 rfl
    obtain ⟨c_r0, c_r1, c_r2, c_r3, c_r4, c_r5, f_r0, f_r1, f_r2, f_r3, f_r4, f_r5⟩ := S.cf6 2 rfl
    obtain ⟨c_a0, c_a1, c_a2, c_a3, c_a4, c_a5, f_a0, f_a1, f_a2, f_a3, f_a4, f_a5⟩ := S.cf6 3 rfl
    have hz : g_u < w7.heap.size := S.lt 0 rfl
    replace S := Lib.hid S
    clear hC
    have S := (S.out.allocAt (w7.heap.size) #[.bool (ng p0.num), .slice A20 n20 c20, .slice D20 m20 d20, .bool (ng p1.num), .slice A21 n21 c21, .slice D21 m21 d21] 26 (noL6 _ _ _ _ _ _ _ _ _ _ _ _ _ _) (by simp))
    replace S := Lib.hid S
    go_wp2_with fail
    refine (hR.out _ _ _ _ _ _ _ _ _ _ _ _ _ _ (S.out.cb 0 rfl) (RR.w ⟨S.out.r 3 rfl, S.out.r 2 rfl⟩ (t0.out)) (RR.w ⟨S.out.r 1 rfl, S.out.r 0 rfl⟩ (t1.out))).mono ?_
    rintro e w8 ⟨A31, n31, c31, D31, m31, d31, A32, n32, c32, D32, m32, d32, rfl, Q31, Q32, bb⟩
    have T := (((((S.out.call bb).read Q31.n).read Q31.d).read Q32.n).read Q32.d)
    clear bb S c_u0 f_u0 c_u1 f_u1 c_u2 f_u2 c_v0 f_v0 c_v1 f_v1 c_v2 f_v2 c_r0 f_r0 c_r1 f_r1 c_r2 f_r2 c_r3 f_r3 c_r4 f_r4 c_r5 f_r5 c_a0 f_a0 c_a1 f_a1 c_a2 f_a2 c_a3 f_a3 c_a4 f_a4 c_a5 f_a5 hz
    have S := T
    clear T
    obtain ⟨c_L0, c_L1, c_L2, c_L3, c_L4, c_L5, f_L0, f_L1, f_L2, f_L3, f_L4, f_L5⟩ := S.cf6 0 rfl
    obtain ⟨c_u0, c_u1, c_u2, f_u0, f_u1, f_u2⟩ := S.cf3 1 rfl
    obtain ⟨c_v0, c_v1, c_v2, f_v0, f_v1, f_v2⟩ := S.cf3 2 rfl
    obtain ⟨c_r0, c_r1, c_r2, c_r3, c_r4, c_r5, f_r0, f_r1, f_r2, f_r3, f_r4, f_r5⟩ := S.cf6 3 rfl
    obtain ⟨c_a0, c_a1, c_a2, c_a3, c_a4, c_a5, f_a0, f_a1, f_a2, f_a3, f_a4, f_a5⟩ := S.cf6 4 rfl
    have hz : w7.heap.size < w8.heap.size := S.lt 0 rfl
    replace S := Lib.hid S
    clear Q31 Q32 hR
    have S : St w _ [(w7.heap.size, #[.bool (ng p0.num), .slice A20 n20 c20, .slice D20 m20 d20, .bool (ng p1.num), .slice A21 n21 c21, .slice D21 m21 d21], 26), (g_u, #[.bool (ng p0.num), .slice A20 n20 c20, .slice D20 m20 d20], 26), (g_v, #[.bool (ng p1.num), .slice A21 n21 c21, .slice D21 m21 d21], 26), (w.heap.size + 1, #[.bool (ng lo.num), .slice A31 n31 c31, .slice D31 m31 d31, .bool (ng hi.num), .slice A32 n32 c32, .slice D32 m32 d32], 28), (w.heap.size, #[.bool (ng q5.num), .slice A11 n11 c11, .slice D11 m11 d11, .bool (ng q6.num), .slice A12 n12 c12, .slice D12 m12 d12], 28)] [(D32, m32, d32, dn hi), (A32, n32, c32, limbs hi.num.natAbs), (D31, m31, d31, dn lo), (A31, n31, c31, limbs lo.num.natAbs), (D21, m21, d21, dn p1), (A21, n21, c21, limbs p1.num.natAbs), (D20, m20, d20, dn p0), (A20, n20, c20, limbs p0.num.natAbs), (D12, m12, d12, dn q6), (A12, n12, c12, limbs q6.num.natAbs), (D11, m11, d11, dn q5), (A11, n11, c11, limbs q5.num.natAbs), (D2, m2, d2, y2), (A2, n2, c2, x2), (D1, m1, d1, y1), (A1, n1, c1, x1)] := ((((((S.out.set 3 0 (.bool (ng lo.num)) rfl (by nofun)).set 3 1 (.slice A31 n31 c31) rfl (by nofun)).set 3 2 (.slice D31 m31 d31) rfl (by nofun)).set 3 3 (.bool (ng hi.num)) rfl (by nofun)).set 3 4 (.slice A32 n32 c32) rfl (by nofun)).set 3 5 (.slice D32 m32 d32) rfl (by nofun))
    replace S := Lib.hid S
    go_wp2
    refine bodyPost_ret (res_rsqV _ _ (w.heap.size + 1) 28 rfl (S.out.bk _ (List.mem_of_getElem? (i := 3) rfl)).1) rfl ?_
    exact ⟨_, _, _, _, _, _, _, _, _, _, _, _, rfl, ⟨S.out.r 3 rfl, S.out.r 2 rfl⟩, ⟨S.out.r 1 rfl, S.out.r 0 rfl⟩, S.out.bel⟩
  · rw [if_pos (of_decide_eq_true hu)]
    clear hu
    obtain ⟨lo, hlo⟩ : ∃ lo, lo = minL [0, p0, p1] := ⟨_, rfl⟩
    obtain ⟨hi, hhi⟩ : ∃ hi, hi = maxL [0, p0, p1] := ⟨_, rfl⟩
    rw [← hlo, ← hhi]
    have hR : Hid (∀ W g A20 n20 c20 D20 m20 d20 A21 n21 c21 D21 m21 d21, Cb W g #[.bool false, .slice none 0 0, .slice none 0 0, .bool (ng p0.num), .slice A20 n20 c20, .slice D20 m20 d20, .bool (ng p1.num), .slice A21 n21 c21, .slice D21 m21 d21] 26 → Rw W false none 0 0 [] none 0 0 [] 0 → Rw W (ng p0.num) A20 n20 c20 (limbs p0.num.natAbs) D20 m20 d20 (dn p0) p0 → Rw W (ng p1.num) A21 n21 c21 (limbs p1.num.natAbs) D21 m21 d21 (dn p1) p1 → Calls Tryz.prog 73 #[.slice (some ⟨g, 0, none⟩) 3 3] W (RetV lo hi W)) := Lib.hid fun W g A20 n20 c20 D20 m20 d20 A21 n21 c21 D21 m21 d21 h h0 h1 h2 => by
      rw [hlo, hhi]; exact rhull3 _ _ _ _ _ _ _ _ _ _ _ _ _ _ _ _ _ _ _ _ _ _ _ _ _ _ _ _ _ _ W g _ h h0 h1 h2
    clear hlo hhi
    go_enter Tryz.func37, Tryz.ntmps37
    go_wp2_with fail
    refine (hK.out _ (Rw.of (S.out.r 3 rfl) (S.out.r 2 rfl) k1.out) (Rw.of (S.out.r 1 rfl) (S.out.r 0 rfl) k2.out)).mono ?_
    rintro e w1 ⟨A11, n11, c11, D11, m11, d11, A12, n12, c12, D12, m12, d12, rfl, Q11, Q12, bb⟩
    have T := (((((S.out.call bb).read Q11.n).read Q11.d).read Q12.n).read Q12.d)
    clear bb S
    have S := T
    clear T
    obtain ⟨c_r0, c_r1, c_r2, c_r3, c_r4, c_r5, f_r0, f_r1, f_r2, f_r3, f_r4, f_r5⟩ := S.cf6 0 rfl
    obtain ⟨c_a0, c_a1, c_a2, c_a3, c_a4, c_a5, f_a0, f_a1, f_a2, f_a3, f_a4, f_a5⟩ := S.cf6 1 rfl
    have hz : w.heap.size + 1 < w1.heap.size := S.lt 0 rfl
    replace S := Lib.hid S
    clear hK Q11 Q12
    go_upto_region 2 with fail
    clear c_r0 f_r0 c_r1 f_r1 c_r2 f_r2 c_r3 f_r3 c_r4 f_r4 c_r5 f_r5 c_a0 f_a0 c_a1 f_a1 c_a2 f_a2 c_a3 f_a3 c_a4 f_a4 c_a5 f_a5 hz
    have S : St w _ [(w.heap.size + 1, #[.bool false, .slice none 0 0, .slice none 0 0, .bool false, .slice none 0 0, .slice none 0 0], 28), (w.heap.size, #[.bool (ng q5.num), .slice A11 n11 c11, .slice D11 m11 d11, .bool (ng q6.num), .slice A12 n12 c12, .slice D12 m12 d12], 28)] [(D12, m12, d12, dn q6), (A12, n12, c12, limbs q6.num.natAbs), (D11, m11, d11, dn q5), (A11, n11, c11, limbs q5.num.natAbs), (D2, m2, d2, y2), (A2, n2, c2, x2), (D1, m1, d1, y1), (A1, n1, c1, x1)] := ((((((S.out.set 1 0 (.bool (ng q5.num)) rfl (by nofun)).set 1 1 (.slice A11 n11 c11) rfl (by nofun)).set 1 2 (.slice D11 m11 d11) rfl (by nofun)).set 1 3 (.bool (ng q6.num)) rfl (by nofun)).set 1 4 (.slice A12 n12 c12) rfl (by nofun)).set 1 5 (.slice D12 m12 d12) rfl (by nofun))
    generalize hW2 : (World.setCell (World.setCell (World.setCell (World.setCell (World.setCell (World.setCell w1 ⟨w.heap.size, 0, none⟩ (.bool (ng q5.num))) ⟨w.heap.size, 1, none⟩ (.slice A11 n11 c11)) ⟨w.heap.size, 2, none⟩ (.slice D11 m11 d11)) ⟨w.heap.size, 3, none⟩ (.bool (ng q6.num))) ⟨w.heap.size, 4, none⟩ (.slice A12 n12 c12)) ⟨w.heap.size, 5, none⟩ (.slice D12 m12 d12)) = w2 at S ⊢
    clear hW2
    replace S := Lib.hid S
    refine RW.begin (Z := [⟨10, 3, #[.bool false, .slice none 0 0, .slice none 0 0], 26⟩, ⟨11, 4, #[.bool false, .slice none 0 0, .slice none 0 0], 26⟩]) (S := (fun W => Cb W (w.heap.size) #[.bool (ng q5.num), .slice A11 n11 c11, .slice D11 m11 d11, .bool (ng q6.num), .slice A12 n12 c12, .slice D12 m12 d12] 28)) (by kernel_rfl) ?_ S.out ?_
    · exact ⟨by kernel_rfl, (zis_cons at10 (fun _ _ => by kernel_rfl) (zis_cons at11 (fun _ _ => by kernel_rfl) zis_nil)), by decide, by decide, (nol_cons (noL3 _ _ _ _ _ _ _) (nol_cons (noL3 _ _ _ _ _ _ _) nol_nil)), (fun _ _ h => h.kb 1 rfl)⟩
    intro hzk
    clear S
    refine RW.t (i := 0) (v := .pointer (some ⟨w.heap.size, 0, none⟩)) (some 7) at0 (hy := fun _ _ => by kernel_rfl) (h := ?_)
    refine RW.t (i := 1) (v := .agg #[.bool (ng q5.num), .slice A11 n11 c11, .slice D11 m11 d11]) (some 8) at1 (hy := fun W hS => by (have k0 := Cb.cell (i := 0) hS rfl; have k1 := Cb.cell (i := 1) hS rfl; have k2 := Cb.cell (i := 2) hS rfl; clear hS; go_simp)) (h := ?_)
    refine RW.t (i := 2) (v := .pointer (some ⟨w.heap.size, 0, none⟩)) (some 9) at2 (hy := fun _ _ => by kernel_rfl) (h := ?_)
    refine RW.t (i := 3) (v := .agg #[.bool (ng q5.num), .slice A11 n11 c11, .slice D11 m11 d11]) (some 10) at3 (hy := fun W hS => by (have k0 := Cb.cell (i := 0) hS rfl; have k1 := Cb.cell (i := 1) hS rfl; have k2 := Cb.cell (i := 2) hS rfl; clear hS; go_simp)) (h := ?_)
    refine RW.t (i := 5) (v := .pointer (some ⟨w.heap.size, 3, none⟩)) (some 12) at5 (hy := fun _ _ => by kernel_rfl) (h := ?_)
    refine RW.t (i := 6) (v := .agg #[.bool (ng q6.num), .slice A12 n12 c12, .slice D12 m12 d12]) (some 13) at6 (hy := fun W hS => by (have k3 := Cb.cell (i := 3) hS rfl; have k4 := Cb.cell (i := 4) hS rfl; have k5 := Cb.cell (i := 5) hS rfl; clear hS; go_simp)) (h := ?_)
    refine RW.t (i := 7) (v := .pointer (some ⟨w.heap.size, 3, none⟩)) (some 14) at7 (hy := fun _ _ => by kernel_rfl) (h := ?_)
    refine RW.t (i := 8) (v := .agg #[.bool (ng q6.num), .slice A12 n12 c12, .slice D12 m12 d12]) (some 15) at8 (hy := fun W hS => by (have k3 := Cb.cell (i := 3) hS rfl; have k4 := Cb.cell (i := 4) hS rfl; have k5 := Cb.cell (i := 5) hS rfl; clear hS; go_simp)) (h := ?_)
    refine RW.c (i := 4) (args := #[.agg #[.bool (ng q5.num), .slice A11 n11 c11, .slice D11 m11 d11], .agg #[.bool (ng q5.num), .slice A11 n11 c11, .slice D11 m11 d11]]) (some 11) hzk.out at4 (hx := fun _ => by kernel_rfl) (h := fun _ S => (hM0.out _ _ _ _ _ _ _ _ _ _ _ _ _ ⟨S.r 3 rfl, S.r 2 rfl⟩ ⟨S.r 3 rfl, S.r 2 rfl⟩).mono ?_)
    rintro e w3 ⟨A20, n20, c20, D20, m20, d20, rfl, Q20, bb⟩
    refine ⟨bb, _, [(D20, m20, d20, dn p0), (A20, n20, c20, limbs p0.num.natAbs)], rfl, (rd_cons Q20.d (rd_cons Q20.n rd_nil)), ?_⟩
    clear bb S Q20
    refine RW.c (i := 9) (args := #[.agg #[.bool (ng q6.num), .slice A12 n12 c12, .slice D12 m12 d12], .agg #[.bool (ng q6.num), .slice A12 n12 c12, .slice D12 m12 d12]]) (some 16) hzk.out at9 (hx := fun _ => by kernel_rfl) (h := fun _ S => (hM1.out _ _ _ _ _ _ _ _ _ _ _ _ _ ⟨S.r 3 rfl, S.r 2 rfl⟩ ⟨S.r 3 rfl, S.r 2 rfl⟩).mono ?_)
    rintro e w4 ⟨A21, n21, c21, D21, m21, d21, rfl, Q21, bb⟩
    refine ⟨bb, _, [(D21, m21, d21, dn p1), (A21, n21, c21, limbs p1.num.natAbs)], rfl, (rd_cons Q21.d (rd_cons Q21.n rd_nil)), ?_⟩
    clear bb S Q21
    refine RW.tail hzk.out (by kernel_rfl) ?_
    intro gs w5 hgs hS S
    obtain ⟨g_u, g_v, rfl⟩ := len2 hgs
    clear hS hgs hzk
    simp only [mark, fill, List.map, Act.put, List.setIfInBounds_toArray, List.set_cons_zero, List.set_cons_succ]
    replace S := Lib.hid S
    refine Wk.o (i := 12) at12 (by kernel_rfl) fun K' hK => ?_
    have q12_u0 := St.cl (S.out) 0 0 rfl rfl
    have q12_u1 := St.cl (S.out) 0 1 rfl rfl
    have q12_u2 := St.cl (S.out) 0 2 rfl rfl
    have q12z_u0 := St.f (S.out) 0 0 rfl
    have q12z_u1 := St.f (S.out) 0 1 rfl
    have q12z_u2 := St.f (S.out) 0 2 rfl
    go_simp
    have SN := (((S.out.set 0 0 (.bool (ng p0.num)) rfl (by nofun)).set 0 1 (.slice A20 n20 c20) rfl (by nofun)).set 0 2 (.slice D20 m20 d20) rfl (by nofun))
    clear S q12_u0 q12_u1 q12_u2 q12z_u0 q12z_u1 q12z_u2
    have S := SN
    clear SN
    refine hK.out _ _ (S.cb 3 rfl) ?_
    clear hK K'
    replace S := Lib.hid S
    try simp only [Act.put, List.setIfInBounds_toArray, List.set_cons_zero, List.set_cons_succ]
    refine Wk.o (i := 13) at13 (by kernel_rfl) fun K' hK => ?_
    have q13_v0 := St.cl (S.out) 1 0 rfl rfl
    have q13_v1 := St.cl (S.out) 1 1 rfl rfl
    have q13_v2 := St.cl (S.out) 1 2 rfl rfl
    have q13z_v0 := St.f (S.out) 1 0 rfl
    have q13z_v1 := St.f (S.out) 1 1 rfl
    have q13z_v2 := St.f (S.out) 1 2 rfl
    go_simp
    have SN := (((S.out.set 1 0 (.bool (ng p1.num)) rfl (by nofun)).set 1 1 (.slice A21 n21 c21) rfl (by nofun)).set 1 2 (.slice D21 m21 d21) rfl (by nofun))
    clear S q13_v0 q13_v1 q13_v2 q13z_v0 q13z_v1 q13z_v2
    have S := SN
    clear SN
    refine hK.out _ _ (S.cb 3 rfl) ?_
    clear hK K'
    replace S := Lib.hid S
    try simp only [Act.put, List.setIfInBounds_toArray, List.set_cons_zero, List.set_cons_succ]
    refine Wk.done (by kernel_rfl) ?_
    go_simp
    replace S := S.out
    have S : St w _ [(g_u, #[.bool (ng p0.num), .slice A20 n20 c20, .slice D20 m20 d20], 26), (g_v, #[.bool (ng p1.num), .slice A21 n21 c21, .slice D21 m21 d21], 26), (w.heap.size + 1, #[.bool false, .slice none 0 0, .slice none 0 0, .bool false, .slice none 0 0, .slice none 0 0], 28), (w.heap.size, #[.bool (ng q5.num), .slice A11 n11 c11, .slice D11 m11 d11, .bool (ng q6.num), .slice A12 n12 c12, .slice D12 m12 d12], 28)] [(D21, m21, d21, dn p1), (A21, n21, c21, limbs p1.num.natAbs), (D20, m20, d20, dn p0), (A20, n20, c20, limbs p0.num.natAbs), (D12, m12, d12, dn q6), (A12, n12, c12, limbs q6.num.natAbs), (D11, m11, d11, dn q5), (A11, n11, c11, limbs q5.num.natAbs), (D2, m2, d2, y2), (A2, n2, c2, x2), (D1, m1, d1, y1), (A1, n1, c1, x1)] := S
    generalize hW6 : (World.setCell (World.setCell (World.setCell (World.setCell (World.setCell (World.setCell w5 ⟨g_u, 0, none⟩ (.bool (ng p0.num))) ⟨g_u, 1, none⟩ (.slice A20 n20 c20)) ⟨g_u, 2, none⟩ (.slice D20 m20 d20)) ⟨g_v, 0, none⟩ (.bool (ng p1.num))) ⟨g_v, 1, none⟩ (.slice A21 n21 c21)) ⟨g_v, 2, none⟩ (.slice D21 m21 d21)) = w6 at S ⊢
    clear hW6
    replace S := Lib.hid S
    replace S := S.out
    obtain ⟨c_u0, c_u1, c_u2, f_u0, f_u1, f_u2⟩ := S.cf3 0 rfl
    obtain ⟨c_v0, c_v1, c_v2, f_v0, f_v1, f_v2⟩ := S.cf3 1 rfl
    obtain ⟨c_r0, c_r1, c_r2, c_r3, c_r4, c_r5, f_r0, f_r1, f_r2, f_r3, f_r4, f_r5⟩ := S.cf6 2 rfl
    obtain ⟨c_a0, c_a1, c_a2, c_a3, c_a4, c_a5, f_a0, f_a1, f_a2, f_a3, f_a4, f_a5⟩ := S.cf6 3 rfl
    have hz : g_u < w6.heap.size := S.lt 0 rfl
    replace S := Lib.hid S
    clear hM0 hM1
    go_wp2_with fail
    refine (hC.out _ _ _ _ _ _ _ _ _ _ _ _ _ ⟨S.out.r 7 rfl, S.out.r 6 rfl⟩ ⟨S.out.r 5 rfl, S.out.r 4 rfl⟩).mono ?_
    rintro e w7 ⟨rfl, bb⟩
    have T := (S.out.call bb)
    clear bb S c_u0 f_u0 c_u1 f_u1 c_u2 f_u2 c_v0 f_v0 c_v1 f_v1 c_v2 f_v2 c_r0 f_r0 c_r1 f_r1 c_r2 f_r2 c_r3 f_r3 c_r4 f_r4 c_r5 f_r5 c_a0 f_a0 c_a1 f_a1 c_a2 f_a2 c_a3 f_a3 c_a4 f_a4 c_a5 f_a5 hz
    have S := T
    clear T
    obtain ⟨c_u0, c_u1, c_u2, f_u0, f_u1, f_u2⟩ := S.cf3 0 rfl
    obtain ⟨c_v0, c_v1, c_v2, f_v0, f_v1, f_v2⟩ := S.cf3 1 rfl
    obtain ⟨c_r0, c_r1, c_r2, c_r3, c_r4, c_r5, f_r0, f_r1, f_r2, f_r3, f_r4, f_r5⟩ := S.cf6 2 rfl
    obtain ⟨c_a0, c_a1, c_a2, c_a3, c_a4, c_a5, f_a0, f_a1, f_a2, f_a3, f_a4, f_a5⟩ := S.cf6 3 rfl
    have hz : g_u < w7.heap.size := S.lt 0 rfl
    replace S := Lib.hid S
    clear hC
    have S := (S.out.allocAt (w7.heap.size) #[.bool false, .slice none 0 0, .slice none 0 0, .bool (ng p0.num), .slice A20 n20 c20, .slice D20 m20 d20, .bool (ng p1.num), .slice A21 n21 c21, .slice D21 m21 d21] 26 (noL9 _ _ _ _ _ _ _ _ _ _ _ _ _ _ _ _ _ _ _ _ _) (by simp))
    replace S := Lib.hid S
    go_wp2_with fail
    refine (hR.out _ _ _ _ _ _ _ _ _ _ _ _ _ _ (S.out.cb 0 rfl) (Rw.zero _) (RR.w ⟨S.out.r 3 rfl, S.out.r 2 rfl⟩ (t0.out)) (RR.w ⟨S.out.r 1 rfl, S.out.r 0 rfl⟩ (t1.out))).mono ?_
    rintro e w8 ⟨A31, n31, c31, D31, m31, d31, A32, n32, c32, D32, m32, d32, rfl, Q31, Q32, bb⟩
    have T := (((((S.out.call bb).read Q31.n).read Q31.d).read Q32.n).read Q32.d)
    clear bb S c_u0 f_u0 c_u1 f_u1 c_u2 f_u2 c_v0 f_v0 c_v1 f_v1 c_v2 f_v2 c_r0 f_r0 c_r1 f_r1 c_r2 f_r2 c_r3 f_r3 c_r4 f_r4 c_r5 f_r5 c_a0 f_a0 c_a1 f_a1 c_a2 f_a2 c_a3 f_a3 c_a4 f_a4 c_a5 f_a5 hz
    have S := T
    clear T
    obtain ⟨c_L0, c_L1, c_L2, c_L3, c_L4, c_L5, c_L6, c_L7, c_L8, f_L0, f_L1, f_L2, f_L3, f_L4, f_L5, f_L6, f_L7, f_L8⟩ := S.cf9 0 rfl
    obtain ⟨c_u0, c_u1, c_u2, f_u0, f_u1, f_u2⟩ := S.cf3 1 rfl
    obtain ⟨c_v0, c_v1, c_v2, f_v0, f_v1, f_v2⟩ := S.cf3 2 rfl
    obtain ⟨c_r0, c_r1, c_r2, c_r3, c_r4, c_r5, f_r0, f_r1, f_r2, f_r3, f_r4, f_r5⟩ := S.cf6 3 rfl
    obtain ⟨c_a0, c_a1, c_a2, c_a3, c_a4, c_a5, f_a0, f_a1, f_a2, f_a3, f_a4, f_a5⟩ := S.cf6 4 rfl
    have hz : w7.heap.size < w8.heap.size := S.lt 0 rfl
    replace S := Lib.hid S
    clear Q31 Q32 hR
    have S : St w _ [(w7.heap.size, #[.bool false, .slice none 0 0, .slice none 0 0, .bool (ng p0.num), .slice A20 n20 c20, .slice D20 m20 d20, .bool (ng p1.num), .slice A21 n21 c21, .slice D21 m21 d21], 26), (g_u, #[.bool (ng p0.num), .slice A20 n20 c20, .slice D20 m20 d20], 26), (g_v, #[.bool (ng p1.num), .slice A21 n21 c21, .slice D21 m21 d21], 26), (w.heap.size + 1, #[.bool (ng lo.num), .slice A31 n31 c31, .slice D31 m31 d31, .bool (ng hi.num), .slice A32 n32 c32, .slice D32 m32 d32], 28), (w.heap.size, #[.bool (ng q5.num), .slice A11 n11 c11, .slice D11 m11 d11, .bool (ng q6.num), .slice A12 n12 c12, .slice D12 m12 d12], 28)] [(D32, m32, d32, dn hi), (A32, n32, c32, limbs hi.num.natAbs), (D31, m31, d31, dn lo), (A31, n31, c31, limbs lo.num.natAbs), (D21, m21, d21, dn p1), (A21, n21, c21, limbs p1.num.natAbs), (D20, m20, d20, dn p0), (A20, n20, c20, limbs p0.num.natAbs), (D12, m12, d12, dn q6), (A12, n12, c12, limbs q6.num.natAbs), (D11, m11, d11, dn q5), (A11, n11, c11, limbs q5.num.natAbs), (D2, m2, d2, y2), (A2, n2, c2, x2), (D1, m1, d1, y1), (A1, n1, c1, x1)] := ((((((S.out.set 3 0 (.bool (ng lo.num)) rfl (by nofun)).set 3 1 (.slice A31 n31 c31) rfl (by nofun)).set 3 2 (.slice D31 m31 d31) rfl (by nofun)).set 3 3 (.bool (ng hi.num)) rfl (by nofun)).set 3 4 (.slice A32 n32 c32) rfl (by nofun)).set 3 5 (.slice D32 m32 d32) rfl (by nofun))
    replace S := Lib.hid S
    go_wp2
    refine bodyPost_ret (res_rsqV _ _ (w.heap.size + 1) 28 rfl (S.out.bk _ (List.mem_of_getElem? (i := 3) rfl)).1) rfl ?_
    exact ⟨_, _, _, _, _, _, _, _, _, _, _, _, rfl, ⟨S.out.r 3 rfl, S.out.r 2 rfl⟩, ⟨S.out.r 1 rfl, S.out.r 0 rfl⟩, S.out.bel⟩
end Go.Proofs.YtidhloliahfknaaGreat
