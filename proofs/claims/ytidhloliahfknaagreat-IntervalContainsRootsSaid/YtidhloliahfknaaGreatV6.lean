/- The law IntervalContainsRoots. -/
import Derived.Test.YtidhloliahfknaaGreatV5
import Derived.Test.YtidhloliahfknaaGreatV1
namespace Go.Proofs.YtidhloliahfknaaGreat
open Go.RowKit RQ
theorem isq_lt {N p : Nat} (h : N < 4294967296 ^ (2 * p)) : isq N < 4294967296 ^ p := by
  obtain ⟨a, _⟩ := isq_spec N
  rcases Nat.lt_or_ge (isq N) (4294967296 ^ p) with h1 | h1
  · exact h1
  · have := Nat.mul_le_mul h1 h1
    rw [← Nat.pow_add, ← Nat.two_mul] at this
    omega
theorem rt_sizes {q : Rat} {k : Nat} (hq : Rs q 8) (hk : k ≤ 64) : Rs (rtLo q k) 10 ∧ Rs (rtU k) 3 := by
  have h1 : Rs (q * qz (2 ^ (2 * k))) 13 := hq.mul (qz_rs (p := 5) (p2_lt (by omega)) (by decide))
  have h2 := floor_size h1
  have h3 : rtN q k < 4294967296 ^ (2 * 7) := by
    have : (4294967296 : Nat) ^ 13 ≤ 4294967296 ^ (2 * 7) := pow_mono (by decide)
    unfold rtN; omega
  have hU : Rs (rtU k) 3 := (qz_rs (p := 3) (p2_lt (by omega)) (by decide)).inv (by decide)
  exact ⟨(qz_rs (isq_lt h3) (by decide)).mul hU, hU⟩
theorem sq_ends (a b : Rat) : a * a ∈ sqL a b ∧ b * b ∈ sqL a b := by unfold sqL; split <;> simp

set_option maxRecDepth 100000 in
set_option maxHeartbeats 16000000 in
theorem law_ro (b1 : Bool) (A1 : Option Addr) (n1 c1 : Nat) (x1 : List Nat) (D1 : Option Addr) (m1 d1 : Nat) (y1 : List Nat) (s : Int) (w : World) (R1 : Rd w A1 n1 c1 x1) (M1 : n1 ≤ 9223372036854775807) (D1' : Rd w D1 m1 d1 y1) (N1 : m1 ≤ 9223372036854775807) (h0 : -9223372036854775808 ≤ s) (h1 : s ≤ 9223372036854775807) : Calls Tryz.prog 10 #[.agg #[.bool b1, .slice A1 n1 c1, .slice D1 m1 d1], .int .i64 s] w fun e w' => e = .returned (.bool true) ∧ Below w.heap.size w w' := by
  have hA := Lib.hid (fun W => awakeV_any W)
  have hL0 := fun W => lightR_any b1 A1 n1 c1 D1 m1 d1 W M1 N1
  cases l0 : (lightB n1 m1)
  · rw [l0] at hL0
    replace hL0 := Lib.hid hL0
    clear l0
    have S := ((((St.new w).read R1).read D1').allocAt (w.heap.size) #[.bool b1, .slice A1 n1 c1, .slice D1 m1 d1] 26 (noL3 _ _ _ _ _ _ _) (by simp))
    replace S := Lib.hid S
    clear R1 M1 D1' N1 h0 h1
    go_enter Tryz.func10, Tryz.ntmps10
    go_wp2_with fail
    refine (hL0.out _).mono ?_
    rintro e w1 ⟨rfl, bb⟩
    have T := (S.out.call bb)
    clear bb S
    have S := T
    clear T
    obtain ⟨c_v0, c_v1, c_v2⟩ := S.c3 0 rfl
    have hz : w.heap.size < w1.heap.size := S.lt 0 rfl
    replace S := Lib.hid S
    clear hL0
    go_wp2_with fail
    refine (hA.out _).mono ?_
    rintro e w2 ⟨rfl, bb⟩
    have T := (S.out.call bb)
    clear bb S c_v0 c_v1 c_v2 hz
    have S := T
    clear T
    obtain ⟨c_v0, c_v1, c_v2⟩ := S.c3 0 rfl
    have hz : w.heap.size < w2.heap.size := S.lt 0 rfl
    replace S := Lib.hid S
    have S := S.out
    replace S := Lib.hid S
    go_wp2
    go_ret
    exact ⟨rfl, S.out.bel⟩
  rw [l0] at hL0
  have g1 := l0
  obtain ⟨q1, X1, s1⟩ : ∃ q, Rw w b1 A1 n1 c1 x1 D1 m1 d1 y1 q ∧ Rs q 8 := ⟨rv b1 x1 y1, ⟨R1, D1', rfl, by have := light_8 g1; omega, by have := light_8 g1; omega⟩, rs_light R1 D1' g1⟩
  clear g1 l0 R1 M1 D1' N1
  replace hL0 := Lib.hid hL0
  have hSg : ∀ W, Rw W b1 A1 n1 c1 x1 D1 m1 d1 y1 q1 → Calls Tryz.prog 44 #[.agg #[.bool b1, .slice A1 n1 c1, .slice D1 m1 d1]] W fun e w' => e = .returned (.int .i64 q1.num.sign) ∧ Below W.heap.size W w' := fun W h => by
    have := rsignR_any b1 A1 n1 c1 x1 D1 m1 d1 y1 W h.rn h.rd (by have := h.k.2.1; omega) (by have := h.k.2.2; omega)
    rwa [h.k.1] at this
  have hMd := Lib.hid (fun W => mod65_any s W h0 h1)
  have k1 := Lib.hid X1.k
  clear h0 h1
  have S := ((((St.new w).read X1.rn).read X1.rd).allocAt (w.heap.size) #[.bool b1, .slice A1 n1 c1, .slice D1 m1 d1] 26 (noL3 _ _ _ _ _ _ _) (by simp))
  replace S := Lib.hid S
  by_cases hq : q1 < 0
  · have g1 : decide (q1.num.sign < 0) = true := decide_eq_true (Int.sign_neg_iff.2 ((num_lt0 _).2 hq))
    generalize q1.num.sign = sg at *
    replace hSg := Lib.hid hSg
    clear hq X1 s1 hMd
    go_enter Tryz.func10, Tryz.ntmps10
    go_wp2_with fail
    refine (hL0.out _).mono ?_
    rintro e w1 ⟨rfl, bb⟩
    have T := (S.out.call bb)
    clear bb S
    have S := T
    clear T
    obtain ⟨c_v0, c_v1, c_v2⟩ := S.c3 0 rfl
    have hz : w.heap.size < w1.heap.size := S.lt 0 rfl
    replace S := Lib.hid S
    clear hL0
    go_wp2_with fail
    refine (hSg.out _ (Rw.of (S.out.r 1 rfl) (S.out.r 0 rfl) k1.out)).mono ?_
    rintro e w2 ⟨rfl, bb⟩
    have T := (S.out.call bb)
    clear bb S c_v0 c_v1 c_v2 hz
    have S := T
    clear T
    obtain ⟨c_v0, c_v1, c_v2⟩ := S.c3 0 rfl
    have hz : w.heap.size < w2.heap.size := S.lt 0 rfl
    replace S := Lib.hid S
    clear hSg
    go_wp2_with fail
    refine (hA.out _).mono ?_
    rintro e w3 ⟨rfl, bb⟩
    have T := (S.out.call bb)
    clear bb S c_v0 c_v1 c_v2 hz
    have S := T
    clear T
    obtain ⟨c_v0, c_v1, c_v2⟩ := S.c3 0 rfl
    have hz : w.heap.size < w3.heap.size := S.lt 0 rfl
    replace S := Lib.hid S
    have S := S.out
    replace S := Lib.hid S
    go_wp2
    go_ret
    exact ⟨rfl, S.out.bel⟩
  have g1 : decide (q1.num.sign < 0) = false := decide_eq_false (fun h => hq ((num_lt0 _).1 (Int.sign_neg_iff.1 h)))
  have hq0 : 0 ≤ q1 := Rat.not_lt.1 hq
  generalize q1.num.sign = sg at *
  replace hSg := Lib.hid hSg
  clear hq X1
  replace hq0 := Lib.hid hq0
  replace s1 := Lib.hid s1
  go_enter Tryz.func10, Tryz.ntmps10
  go_wp2_with fail
  refine (hL0.out _).mono ?_
  rintro e w1 ⟨rfl, bb⟩
  have T := (S.out.call bb)
  clear bb S
  have S := T
  clear T
  obtain ⟨c_v0, c_v1, c_v2⟩ := S.c3 0 rfl
  have hz : w.heap.size < w1.heap.size := S.lt 0 rfl
  replace S := Lib.hid S
  clear hL0
  go_wp2_with fail
  refine (hSg.out _ (Rw.of (S.out.r 1 rfl) (S.out.r 0 rfl) k1.out)).mono ?_
  rintro e w2 ⟨rfl, bb⟩
  have T := (S.out.call bb)
  clear bb S c_v0 c_v1 c_v2 hz
  have S := T
  clear T
  obtain ⟨c_v0, c_v1, c_v2⟩ := S.c3 0 rfl
  have hz : w.heap.size < w2.heap.size := S.lt 0 rfl
  replace S := Lib.hid S
  clear hSg
  go_wp2_with fail
  refine (hMd.out _).mono ?_
  rintro e w3 ⟨k, hk, rfl, bb⟩
  have T := (S.out.call bb)
  clear bb S c_v0 c_v1 c_v2 hz
  have S := T
  clear T
  obtain ⟨c_v0, c_v1, c_v2⟩ := S.c3 0 rfl
  have hz : w.heap.size < w3.heap.size := S.lt 0 rfl
  replace S := Lib.hid S
  clear hMd g1
  obtain ⟨sl, su⟩ := rt_sizes s1.out hk
  have lw := rt_low (k := k) hq0.out
  have lh := rt_high (k := k) hq0.out
  have lp := rt_pos q1 k
  have ue := rtU_eq k
  have up := rtU_pos k
  have sp : Rs (qz (2 ^ k)) 3 := qz_rs (p2_lt (by omega)) (by decide)
  have hTw := Lib.hid (fun W => two_any k W (by omega))
  by_cases hx : rtLo q1 k * rtLo q1 k = q1
  · obtain ⟨lo, e_lo⟩ : ∃ z, z = rtLo q1 k := ⟨_, rfl⟩
    obtain ⟨hi, e_hi⟩ : ∃ z, z = rtLo q1 k := ⟨_, rfl⟩
    have hRt : Hid (∀ W, Rw W b1 A1 n1 c1 x1 D1 m1 d1 y1 q1 → Calls Tryz.prog 40 #[.agg #[.bool b1, .slice A1 n1 c1, .slice D1 m1 d1], .int .i64 (k : Int)] W (RetVE lo hi (.int .i64 0) W)) := Lib.hid fun W h => by rw [e_lo, e_hi]; exact root_yes _ _ _ _ _ _ _ _ _ _ k (by omega) hq0.out (s1.out.mono (by decide)) hx W h
    rw [← e_lo] at sl lw lh lp hx
    rw [← e_lo] at e_hi
    have rlo : Rs lo 14 := sl.mono (by decide)
    have rhi : Rs hi 14 := by rw [e_hi]; exact rlo
    have hlh : lo ≤ hi := by rw [e_hi]; exact Rat.le_refl
    clear e_lo
    obtain ⟨P, e_P⟩ : ∃ z, z = qz (2 ^ k) := ⟨_, rfl⟩
    rw [← e_P] at sp ue hTw
    clear e_P
    obtain ⟨wd, e_wd⟩ : ∃ z, z = hi - lo := ⟨_, rfl⟩
    have rwd : Rs wd 29 := by rw [e_wd]; exact rhi.sub rlo
    have hWd : Hid (∀ W A0 n0 c0 D0 m0 d0 A1 n1 c1 D1 m1 d1, RR W A0 n0 c0 D0 m0 d0 lo → RR W A1 n1 c1 D1 m1 d1 hi → Calls Tryz.prog 24 #[.agg #[.bool (ng lo.num), .slice A0 n0 c0, .slice D0 m0 d0, .bool (ng hi.num), .slice A1 n1 c1, .slice D1 m1 d1]] W (RetR wd W)) := Lib.hid fun W A0 n0 c0 D0 m0 d0 A1 n1 c1 D1 m1 d1 X0 X1 => by
      have := width_any _ _ _ _ _ _ _ _ _ _ _ _ _ _ _ _ _ _ _ _ W (RR.w X0 (rlo.mono (by decide))) (RR.w X1 (rhi.mono (by decide)))
      rwa [show klo lo hi = lo from if_neg (Rat.not_lt.2 hlh), show khi lo hi = hi from if_neg (Rat.not_lt.2 hlh), ← e_wd] at this
    obtain ⟨ww, e_ww⟩ : ∃ z, z = wd * P := ⟨_, rfl⟩
    have rww : Rs ww 32 := by rw [e_ww]; exact rwd.mul sp
    have hMw : Hid (∀ W A0 n0 c0 D0 m0 d0 A1 n1 c1 D1 m1 d1, RR W A0 n0 c0 D0 m0 d0 wd → RR W A1 n1 c1 D1 m1 d1 P → Calls Tryz.prog 48 #[.agg #[.bool (ng wd.num), .slice A0 n0 c0, .slice D0 m0 d0], .agg #[.bool (ng P.num), .slice A1 n1 c1, .slice D1 m1 d1]] W (RetR ww W)) := Lib.hid fun W A0 n0 c0 D0 m0 d0 A1 n1 c1 D1 m1 d1 X0 X1 => by
      have l0 := X0.lens rwd
      have l1 := X1.lens sp
      have := Fmul_any (ng wd.num) A0 n0 c0 _ D0 m0 d0 _ (ng P.num) A1 n1 c1 _ D1 m1 d1 _ W X0.n X0.d X1.n X1.d (by omega) (by omega) (by omega) (by omega)
      rwa [rv_z, rv_z, ← e_ww] at this
    obtain ⟨sq0, e_sq0⟩ : ∃ z, z = minL (sqL lo hi) := ⟨_, rfl⟩
    obtain ⟨sq1, e_sq1⟩ : ∃ z, z = maxL (sqL lo hi) := ⟨_, rfl⟩
    obtain ⟨r0, r1⟩ := sqL_rs rlo rhi (by decide)
    rw [← e_sq0] at r0
    rw [← e_sq1] at r1
    have hSq : Hid (∀ W A0 n0 c0 D0 m0 d0 A1 n1 c1 D1 m1 d1, RR W A0 n0 c0 D0 m0 d0 lo → RR W A1 n1 c1 D1 m1 d1 hi → Calls Tryz.prog 37 #[.agg #[.bool (ng lo.num), .slice A0 n0 c0, .slice D0 m0 d0, .bool (ng hi.num), .slice A1 n1 c1, .slice D1 m1 d1]] W (RetV sq0 sq1 W)) := Lib.hid fun W A0 n0 c0 D0 m0 d0 A1 n1 c1 D1 m1 d1 X0 X1 => by
      have := rsquareV_any _ _ _ _ _ _ _ _ _ _ _ _ _ _ _ _ _ _ _ _ (rlo.mono (by decide)) (rhi.mono (by decide)) W (RR.w X0 (rlo.mono (by decide))) (RR.w X1 (rhi.mono (by decide)))
      rwa [show klo lo hi = lo from if_neg (Rat.not_lt.2 hlh), show khi lo hi = hi from if_neg (Rat.not_lt.2 hlh), ← e_sq0, ← e_sq1] at this
    have le0 : sq0 ≤ q1 := by rw [e_sq0]; exact Rat.le_trans (minL_le (sq_ends lo hi).1) lw
    have le1 : q1 ≤ sq1 := by rw [e_sq1]; exact Rat.le_trans (by rw [e_hi, hx]; exact Rat.le_refl) (le_maxL (sq_ends lo hi).2)
    have hCo : Hid (∀ W A0 n0 c0 D0 m0 d0 A2 n2 c2 D2 m2 d2, RR W A0 n0 c0 D0 m0 d0 sq0 → RR W A2 n2 c2 D2 m2 d2 sq1 → Rw W b1 A1 n1 c1 x1 D1 m1 d1 y1 q1 → Calls Tryz.prog 20 #[.agg #[.bool (ng sq0.num), .slice A0 n0 c0, .slice D0 m0 d0, .bool (ng sq1.num), .slice A2 n2 c2, .slice D2 m2 d2], .agg #[.bool b1, .slice A1 n1 c1, .slice D1 m1 d1]] W fun e w' => e = .returned (.bool true) ∧ Below W.heap.size W w') := Lib.hid fun W A0 n0 c0 D0 m0 d0 A2 n2 c2 D2 m2 d2 X0 X1 X2 => by
      have := rcontains_any _ _ _ _ _ _ _ _ _ _ _ _ _ _ _ _ _ _ _ _ _ _ _ _ _ _ _ _ _ _ W (RR.w X0 (r0.mono (by decide))) (RR.w X1 (r1.mono (by decide))) X2
      have hl : ¬ sq1 < sq0 := Rat.not_lt.2 (Rat.le_trans le0 le1)
      rwa [show klo sq0 sq1 = sq0 from if_neg hl, show khi sq0 sq1 = sq1 from if_neg hl, decide_eq_true le0, decide_eq_true le1] at this
    obtain ⟨sgl, e_sgl⟩ : ∃ z, z = lo.num.sign := ⟨_, rfl⟩
    have hSl : Hid (∀ W A0 n0 c0 D0 m0 d0, RR W A0 n0 c0 D0 m0 d0 lo → Calls Tryz.prog 44 #[.agg #[.bool (ng lo.num), .slice A0 n0 c0, .slice D0 m0 d0]] W fun e w' => e = .returned (.int .i64 sgl) ∧ Below W.heap.size W w') := Lib.hid fun W A0 n0 c0 D0 m0 d0 X0 => by
      rw [e_sgl]; exact rsignQ lo A0 n0 c0 D0 m0 d0 W X0 (rlo.mono (by decide))
    have tb1 : decide (sgl < 0) = false := decide_eq_false (fun h => by rw [e_sgl] at h; exact Rat.not_lt.2 lp ((num_lt0 _).1 (Int.sign_neg_iff.1 h)))
    obtain ⟨sgw, e_sgw⟩ : ∃ z, z = ww.num.sign := ⟨_, rfl⟩
    have hSw : Hid (∀ W A0 n0 c0 D0 m0 d0, RR W A0 n0 c0 D0 m0 d0 ww → Calls Tryz.prog 44 #[.agg #[.bool (ng ww.num), .slice A0 n0 c0, .slice D0 m0 d0]] W fun e w' => e = .returned (.int .i64 sgw) ∧ Below W.heap.size W w') := Lib.hid fun W A0 n0 c0 D0 m0 d0 X0 => by
      rw [e_sgw]; exact rsignQ ww A0 n0 c0 D0 m0 d0 W X0 (rww.mono (by decide))
    have tb2 : (sgw == 0) = true := by rw [e_sgw, e_ww, e_wd, e_hi, Rat.sub_self, Rat.zero_mul]; rfl
    obtain ⟨ll, e_ll⟩ : ∃ z, z = lo * lo := ⟨_, rfl⟩
    have rll : Rs ll 28 := by rw [e_ll]; exact rlo.mul rlo
    have hLL : Hid (∀ W A0 n0 c0 D0 m0 d0 A1 n1 c1 D1 m1 d1, RR W A0 n0 c0 D0 m0 d0 lo → RR W A1 n1 c1 D1 m1 d1 lo → Calls Tryz.prog 48 #[.agg #[.bool (ng lo.num), .slice A0 n0 c0, .slice D0 m0 d0], .agg #[.bool (ng lo.num), .slice A1 n1 c1, .slice D1 m1 d1]] W (RetR ll W)) := Lib.hid fun W A0 n0 c0 D0 m0 d0 A1 n1 c1 D1 m1 d1 X0 X1 => by
      have l0 := X0.lens rlo
      have l1 := X1.lens rlo
      have := Fmul_any (ng lo.num) A0 n0 c0 _ D0 m0 d0 _ (ng lo.num) A1 n1 c1 _ D1 m1 d1 _ W X0.n X0.d X1.n X1.d (by omega) (by omega) (by omega) (by omega)
      rwa [rv_z, ← e_ll] at this
    obtain ⟨cc, e_cc⟩ : ∃ z, z = cmpq ll q1 := ⟨_, rfl⟩
    have hCm : Hid (∀ W A0 n0 c0 D0 m0 d0, RR W A0 n0 c0 D0 m0 d0 ll → Rw W b1 A1 n1 c1 x1 D1 m1 d1 y1 q1 → Calls Tryz.prog 52 #[.agg #[.bool (ng ll.num), .slice A0 n0 c0, .slice D0 m0 d0], .agg #[.bool b1, .slice A1 n1 c1, .slice D1 m1 d1]] W fun e w' => e = .returned (.int .i64 cc) ∧ Below W.heap.size W w') := Lib.hid fun W A0 n0 c0 D0 m0 d0 X0 X1 => by rw [e_cc]; exact compareF _ _ _ _ _ _ _ _ _ _ _ _ _ _ _ _ _ _ _ _ W (RR.w X0 (rll.mono (by decide))) X1
    have tb3 : (cc == 0) = true := by rw [e_cc, cmpq_beq, decide_eq_true (by rw [e_ll]; exact hx)]
    clear hk lw lh lp ue up hx hlh le0 le1 sl su sp rlo rhi rwd rww r0 r1 rll e_hi e_wd e_ww e_sq0 e_sq1 e_sgl e_sgw e_ll e_cc
    go_wp2_with fail
    refine (hRt.out _ (Rw.of (S.out.r 1 rfl) (S.out.r 0 rfl) k1.out)).mono ?_
    rintro e w4 ⟨A31, n31, c31, D31, m31, d31, A32, n32, c32, D32, m32, d32, rfl, Q31, Q32, bb⟩
    have T := (((((S.out.call bb).read Q31.n).read Q31.d).read Q32.n).read Q32.d)
    clear bb S c_v0 c_v1 c_v2 hz
    have S := T
    clear T
    obtain ⟨c_v0, c_v1, c_v2⟩ := S.c3 0 rfl
    have hz : w.heap.size < w4.heap.size := S.lt 0 rfl
    replace S := Lib.hid S
    clear Q31 Q32 hRt
    have S := (S.out.allocAt (w4.heap.size) #[.bool (ng lo.num), .slice A31 n31 c31, .slice D31 m31 d31, .bool (ng hi.num), .slice A32 n32 c32, .slice D32 m32 d32] 28 (noL6 _ _ _ _ _ _ _ _ _ _ _ _ _ _) (by simp))
    replace S := Lib.hid S
    go_wp2_with fail
    refine (hWd.out _ _ _ _ _ _ _ _ _ _ _ _ _ ⟨S.out.r 3 rfl, S.out.r 2 rfl⟩ ⟨S.out.r 1 rfl, S.out.r 0 rfl⟩).mono ?_
    rintro e w5 ⟨A33, n33, c33, D33, m33, d33, rfl, Q33, bb⟩
    have T := (((S.out.call bb).read Q33.n).read Q33.d)
    clear bb S c_v0 c_v1 c_v2 hz
    have S := T
    clear T
    obtain ⟨c_x0, c_x1, c_x2, c_x3, c_x4, c_x5⟩ := S.c6 0 rfl
    obtain ⟨c_v0, c_v1, c_v2⟩ := S.c3 1 rfl
    have hz : w4.heap.size < w5.heap.size := S.lt 0 rfl
    replace S := Lib.hid S
    clear Q33 hWd
    go_wp2_with fail
    refine (hTw.out _).mono ?_
    rintro e w6 ⟨A34, n34, c34, D34, m34, d34, rfl, Q34, bb⟩
    have T := (((S.out.call bb).read Q34.n).read Q34.d)
    clear bb S c_x0 c_x1 c_x2 c_x3 c_x4 c_x5 c_v0 c_v1 c_v2 hz
    have S := T
    clear T
    obtain ⟨c_x0, c_x1, c_x2, c_x3, c_x4, c_x5⟩ := S.c6 0 rfl
    obtain ⟨c_v0, c_v1, c_v2⟩ := S.c3 1 rfl
    have hz : w4.heap.size < w6.heap.size := S.lt 0 rfl
    replace S := Lib.hid S
    clear Q34 hTw
    go_wp2_with fail
    refine (hMw.out _ _ _ _ _ _ _ _ _ _ _ _ _ ⟨S.out.r 3 rfl, S.out.r 2 rfl⟩ ⟨S.out.r 1 rfl, S.out.r 0 rfl⟩).mono ?_
    rintro e w7 ⟨A35, n35, c35, D35, m35, d35, rfl, Q35, bb⟩
    have T := (((S.out.call bb).read Q35.n).read Q35.d)
    clear bb S c_x0 c_x1 c_x2 c_x3 c_x4 c_x5 c_v0 c_v1 c_v2 hz
    have S := T
    clear T
    obtain ⟨c_x0, c_x1, c_x2, c_x3, c_x4, c_x5⟩ := S.c6 0 rfl
    obtain ⟨c_v0, c_v1, c_v2⟩ := S.c3 1 rfl
    have hz : w4.heap.size < w7.heap.size := S.lt 0 rfl
    replace S := Lib.hid S
    clear Q35 hMw
    go_upto_region 6 with fail
    clear c_x0 c_x1 c_x2 c_x3 c_x4 c_x5 c_v0 c_v1 c_v2 hz
    have S := (S.out.allocAt (w7.heap.size) #[.bool (ng ww.num), .slice A35 n35 c35, .slice D35 m35 d35] 26 (noL3 _ _ _ _ _ _ _) (by simp))
    generalize hW8 : (World.alloc w7 (.cells #[.bool (ng ww.num), .slice A35 n35 c35, .slice D35 m35 d35] 26)) = w8 at S ⊢
    clear hW8
    replace S := Lib.hid S
    refine RW.begin (Z := []) (S := (fun W => Cb W (w4.heap.size) #[.bool (ng lo.num), .slice A31 n31 c31, .slice D31 m31 d31, .bool (ng hi.num), .slice A32 n32 c32, .slice D32 m32 d32] 28 ∧ Cb W (w.heap.size) #[.bool b1, .slice A1 n1 c1, .slice D1 m1 d1] 26)) (by kernel_rfl) ?_ S.out ?_
    · exact ⟨by kernel_rfl, zis_nil, by decide, by decide, nol_nil, (fun _ _ h => ⟨h.kb 1 rfl, h.kb 2 rfl⟩)⟩
    intro hzk
    clear S
    refine RW.t (i := 0) (v := .int .i64 0) (some 30) at0 (hy := fun _ _ => by kernel_rfl) (h := ?_)
    refine RW.t (i := 1) (v := .bool false) (some 31) at1 (hy := fun _ _ => by go_simp) (h := ?_)
    refine RW.t (i := 2) (v := .bool false) (some 32) at2 (hy := fun _ _ => by kernel_rfl) (h := ?_)
    refine RW.t (i := 3) (v := .pointer (some ⟨w4.heap.size, 0, none⟩)) (some 33) at3 (hy := fun _ _ => by kernel_rfl) (h := ?_)
    refine RW.t (i := 4) (v := .agg #[.bool (ng lo.num), .slice A31 n31 c31, .slice D31 m31 d31]) (some 34) at4 (hy := fun W hS => by (have k0 := Cb.cell (i := 0) hS.1 rfl; have k1 := Cb.cell (i := 1) hS.1 rfl; have k2 := Cb.cell (i := 2) hS.1 rfl; clear hS; go_simp)) (h := ?_)
    refine RW.c (i := 5) (args := #[.agg #[.bool (ng lo.num), .slice A31 n31 c31, .slice D31 m31 d31]]) (some 35) hzk.out at5 (hx := fun _ => by kernel_rfl) (h := fun _ S => (hSl.out _ _ _ _ _ _ _ ⟨S.r 9 rfl, S.r 8 rfl⟩).mono ?_)
    rintro e w9 ⟨rfl, bb⟩
    refine ⟨bb, _, [], rfl, rd_nil, ?_⟩
    clear bb S
    refine RW.t (i := 6) (v := .bool false) (some 36) at6 (hy := fun _ _ => by go_simp) (h := ?_)
    refine RW.t (i := 7) (v := .bool false) (some 37) at7 (hy := fun _ _ => by kernel_rfl) (h := ?_)
    refine RW.t (i := 8) (v := .bool false) (some 38) at8 (hy := fun _ _ => by kernel_rfl) (h := ?_)
    refine RW.t (i := 9) (v := .agg #[.bool (ng lo.num), .slice A31 n31 c31, .slice D31 m31 d31, .bool (ng hi.num), .slice A32 n32 c32, .slice D32 m32 d32]) (some 39) at9 (hy := fun W hS => by (obtain ⟨k0, k1, k2, k3, k4, k5⟩ := Cb.c6 hS.1; clear hS; go_simp)) (h := ?_)
    refine RW.t (i := 11) (v := .agg #[.bool b1, .slice A1 n1 c1, .slice D1 m1 d1]) (some 41) at11 (hy := fun W hS => by (have k0 := Cb.cell (i := 0) hS.2 rfl; have k1 := Cb.cell (i := 1) hS.2 rfl; have k2 := Cb.cell (i := 2) hS.2 rfl; clear hS; go_simp)) (h := ?_)
    refine RW.c (i := 10) (args := #[.agg #[.bool (ng lo.num), .slice A31 n31 c31, .slice D31 m31 d31, .bool (ng hi.num), .slice A32 n32 c32, .slice D32 m32 d32]]) (some 40) hzk.out at10 (hx := fun _ => by kernel_rfl) (h := fun _ S => (hSq.out _ _ _ _ _ _ _ _ _ _ _ _ _ ⟨S.r 9 rfl, S.r 8 rfl⟩ ⟨S.r 7 rfl, S.r 6 rfl⟩).mono ?_)
    rintro e w10 ⟨A36, n36, c36, D36, m36, d36, A37, n37, c37, D37, m37, d37, rfl, Q36, Q37, bb⟩
    refine ⟨bb, _, [(D37, m37, d37, dn sq1), (A37, n37, c37, limbs sq1.num.natAbs), (D36, m36, d36, dn sq0), (A36, n36, c36, limbs sq0.num.natAbs)], rfl, (rd_cons Q37.d (rd_cons Q37.n (rd_cons Q36.d (rd_cons Q36.n rd_nil)))), ?_⟩
    clear bb S Q36 Q37
    refine RW.c (i := 12) (args := #[.agg #[.bool (ng sq0.num), .slice A36 n36 c36, .slice D36 m36 d36, .bool (ng sq1.num), .slice A37 n37 c37, .slice D37 m37 d37], .agg #[.bool b1, .slice A1 n1 c1, .slice D1 m1 d1]]) (some 42) hzk.out at12 (hx := fun _ => by kernel_rfl) (h := fun _ S => (hCo.out _ _ _ _ _ _ _ _ _ _ _ _ _ ⟨S.r 3 rfl, S.r 2 rfl⟩ ⟨S.r 1 rfl, S.r 0 rfl⟩ (Rw.of (S.r 15 rfl) (S.r 14 rfl) k1.out)).mono ?_)
    rintro e w11 ⟨rfl, bb⟩
    refine ⟨bb, _, [], rfl, rd_nil, ?_⟩
    clear bb S
    refine RW.t (i := 13) (v := .bool false) (some 43) at13 (hy := fun _ _ => by kernel_rfl) (h := ?_)
    refine RW.t (i := 14) (v := .bool false) (some 44) at14 (hy := fun _ _ => by kernel_rfl) (h := ?_)
    refine RW.tail hzk.out (by kernel_rfl) ?_
    intro gs w12 hgs hS S
    obtain rfl := len0 hgs
    clear hS hgs hzk
    simp only [mark, fill, Act.put, List.setIfInBounds_toArray, List.set_cons_zero, List.set_cons_succ]
    replace S := Lib.hid S
    refine Wk.done (by kernel_rfl) ?_
    go_simp
    replace S := S.out
    have S : St w _ [(w7.heap.size, #[.bool (ng ww.num), .slice A35 n35 c35, .slice D35 m35 d35], 26), (w4.heap.size, #[.bool (ng lo.num), .slice A31 n31 c31, .slice D31 m31 d31, .bool (ng hi.num), .slice A32 n32 c32, .slice D32 m32 d32], 28), (w.heap.size, #[.bool b1, .slice A1 n1 c1, .slice D1 m1 d1], 26)] [(D37, m37, d37, dn sq1), (A37, n37, c37, limbs sq1.num.natAbs), (D36, m36, d36, dn sq0), (A36, n36, c36, limbs sq0.num.natAbs), (D35, m35, d35, dn ww), (A35, n35, c35, limbs ww.num.natAbs), (D34, m34, d34, dn P), (A34, n34, c34, limbs P.num.natAbs), (D33, m33, d33, dn wd), (A33, n33, c33, limbs wd.num.natAbs), (D32, m32, d32, dn hi), (A32, n32, c32, limbs hi.num.natAbs), (D31, m31, d31, dn lo), (A31, n31, c31, limbs lo.num.natAbs), (D1, m1, d1, y1), (A1, n1, c1, x1)] := S
    replace S := Lib.hid S
    replace S := S.out
    obtain ⟨c_w0, c_w1, c_w2⟩ := S.c3 0 rfl
    obtain ⟨c_x0, c_x1, c_x2, c_x3, c_x4, c_x5⟩ := S.c6 1 rfl
    obtain ⟨c_v0, c_v1, c_v2⟩ := S.c3 2 rfl
    have hz : w7.heap.size < w12.heap.size := S.lt 0 rfl
    replace S := Lib.hid S
    clear hSl hSq hCo tb1
    go_wp2_with fail
    refine (hSw.out _ _ _ _ _ _ _ ⟨S.out.r 5 rfl, S.out.r 4 rfl⟩).mono ?_
    rintro e w13 ⟨rfl, bb⟩
    have T := (S.out.call bb)
    clear bb S c_w0 c_w1 c_w2 c_x0 c_x1 c_x2 c_x3 c_x4 c_x5 c_v0 c_v1 c_v2 hz
    have S := T
    clear T
    obtain ⟨c_w0, c_w1, c_w2⟩ := S.c3 0 rfl
    obtain ⟨c_x0, c_x1, c_x2, c_x3, c_x4, c_x5⟩ := S.c6 1 rfl
    obtain ⟨c_v0, c_v1, c_v2⟩ := S.c3 2 rfl
    have hz : w7.heap.size < w13.heap.size := S.lt 0 rfl
    replace S := Lib.hid S
    clear hSw
    go_upto_region 9 with fail
    clear c_w0 c_w1 c_w2 c_x0 c_x1 c_x2 c_x3 c_x4 c_x5 c_v0 c_v1 c_v2 hz
    refine RW.begin (Z := []) (S := (fun W => Cb W (w4.heap.size) #[.bool (ng lo.num), .slice A31 n31 c31, .slice D31 m31 d31, .bool (ng hi.num), .slice A32 n32 c32, .slice D32 m32 d32] 28 ∧ Cb W (w.heap.size) #[.bool b1, .slice A1 n1 c1, .slice D1 m1 d1] 26)) (by kernel_rfl) ?_ S.out ?_
    · exact ⟨by kernel_rfl, zis_nil, by decide, by decide, nol_nil, (fun _ _ h => ⟨h.kb 1 rfl, h.kb 2 rfl⟩)⟩
    intro hzk
    clear S
    refine RW.c (i := 0) (args := #[]) (some 48) hzk.out at0 (hx := fun _ => by kernel_rfl) (h := fun _ S => (hA.out _).mono ?_)
    rintro e w14 ⟨rfl, bb⟩
    refine ⟨bb, _, [], rfl, rd_nil, ?_⟩
    clear bb S
    refine RW.t (i := 1) (v := .bool true) (some 49) at1 (hy := fun _ _ => by kernel_rfl) (h := ?_)
    refine RW.t (i := 2) (v := .pointer (some ⟨w4.heap.size, 0, none⟩)) (some 50) at2 (hy := fun _ _ => by kernel_rfl) (h := ?_)
    refine RW.t (i := 3) (v := .agg #[.bool (ng lo.num), .slice A31 n31 c31, .slice D31 m31 d31]) (some 51) at3 (hy := fun W hS => by (have k0 := Cb.cell (i := 0) hS.1 rfl; have k1 := Cb.cell (i := 1) hS.1 rfl; have k2 := Cb.cell (i := 2) hS.1 rfl; clear hS; go_simp)) (h := ?_)
    refine RW.t (i := 4) (v := .pointer (some ⟨w4.heap.size, 0, none⟩)) (some 52) at4 (hy := fun _ _ => by kernel_rfl) (h := ?_)
    refine RW.t (i := 5) (v := .agg #[.bool (ng lo.num), .slice A31 n31 c31, .slice D31 m31 d31]) (some 53) at5 (hy := fun W hS => by (have k0 := Cb.cell (i := 0) hS.1 rfl; have k1 := Cb.cell (i := 1) hS.1 rfl; have k2 := Cb.cell (i := 2) hS.1 rfl; clear hS; go_simp)) (h := ?_)
    refine RW.t (i := 7) (v := .agg #[.bool b1, .slice A1 n1 c1, .slice D1 m1 d1]) (some 55) at7 (hy := fun W hS => by (have k0 := Cb.cell (i := 0) hS.2 rfl; have k1 := Cb.cell (i := 1) hS.2 rfl; have k2 := Cb.cell (i := 2) hS.2 rfl; clear hS; go_simp)) (h := ?_)
    refine RW.c (i := 6) (args := #[.agg #[.bool (ng lo.num), .slice A31 n31 c31, .slice D31 m31 d31], .agg #[.bool (ng lo.num), .slice A31 n31 c31, .slice D31 m31 d31]]) (some 54) hzk.out at6 (hx := fun _ => by kernel_rfl) (h := fun _ S => (hLL.out _ _ _ _ _ _ _ _ _ _ _ _ _ ⟨S.r 13 rfl, S.r 12 rfl⟩ ⟨S.r 13 rfl, S.r 12 rfl⟩).mono ?_)
    rintro e w15 ⟨A38, n38, c38, D38, m38, d38, rfl, Q38, bb⟩
    refine ⟨bb, _, [(D38, m38, d38, dn ll), (A38, n38, c38, limbs ll.num.natAbs)], rfl, (rd_cons Q38.d (rd_cons Q38.n rd_nil)), ?_⟩
    clear bb S Q38
    refine RW.c (i := 8) (args := #[.agg #[.bool (ng ll.num), .slice A38 n38 c38, .slice D38 m38 d38], .agg #[.bool b1, .slice A1 n1 c1, .slice D1 m1 d1]]) (some 56) hzk.out at8 (hx := fun _ => by kernel_rfl) (h := fun _ S => (hCm.out _ _ _ _ _ _ _ ⟨S.r 1 rfl, S.r 0 rfl⟩ (Rw.of (S.r 17 rfl) (S.r 16 rfl) k1.out)).mono ?_)
    rintro e w16 ⟨rfl, bb⟩
    refine ⟨bb, _, [], rfl, rd_nil, ?_⟩
    clear bb S
    refine RW.t (i := 9) (v := .bool true) (some 57) at9 (hy := fun _ _ => by go_simp) (h := ?_)
    refine RW.t (i := 10) (v := .bool true) (some 58) at10 (hy := fun _ _ => by kernel_rfl) (h := ?_)
    refine RW.tail hzk.out (by kernel_rfl) ?_
    intro gs w17 hgs hS S
    obtain rfl := len0 hgs
    clear hS hgs hzk
    simp only [mark, fill, Act.put, List.setIfInBounds_toArray, List.set_cons_zero, List.set_cons_succ]
    replace S := Lib.hid S
    refine Wk.o (i := 11) at11 (by kernel_rfl) fun K' hK => ?_
    go_simp
    have SN := S.out
    clear S
    have S := SN
    clear SN
    refine hK.out _ _ ⟨(S.cb 1 rfl), (S.cb 2 rfl)⟩ ?_
    clear hK K'
    replace S := Lib.hid S
    try simp only [Act.put, List.setIfInBounds_toArray, List.set_cons_zero, List.set_cons_succ]
    refine Wk.done (by kernel_rfl) ?_
    go_simp
    replace S := S.out
    have S : St w _ [(w7.heap.size, #[.bool (ng ww.num), .slice A35 n35 c35, .slice D35 m35 d35], 26), (w4.heap.size, #[.bool (ng lo.num), .slice A31 n31 c31, .slice D31 m31 d31, .bool (ng hi.num), .slice A32 n32 c32, .slice D32 m32 d32], 28), (w.heap.size, #[.bool b1, .slice A1 n1 c1, .slice D1 m1 d1], 26)] [(D38, m38, d38, dn ll), (A38, n38, c38, limbs ll.num.natAbs), (D37, m37, d37, dn sq1), (A37, n37, c37, limbs sq1.num.natAbs), (D36, m36, d36, dn sq0), (A36, n36, c36, limbs sq0.num.natAbs), (D35, m35, d35, dn ww), (A35, n35, c35, limbs ww.num.natAbs), (D34, m34, d34, dn P), (A34, n34, c34, limbs P.num.natAbs), (D33, m33, d33, dn wd), (A33, n33, c33, limbs wd.num.natAbs), (D32, m32, d32, dn hi), (A32, n32, c32, limbs hi.num.natAbs), (D31, m31, d31, dn lo), (A31, n31, c31, limbs lo.num.natAbs), (D1, m1, d1, y1), (A1, n1, c1, x1)] := S
    replace S := Lib.hid S
    replace S := S.out
    replace S := Lib.hid S
    have S := S.out
    replace S := Lib.hid S
    go_wp2
    go_ret
    exact ⟨rfl, S.out.bel⟩
  · obtain ⟨lo, e_lo⟩ : ∃ z, z = rtLo q1 k := ⟨_, rfl⟩
    obtain ⟨hi, e_hi⟩ : ∃ z, z = rtLo q1 k + rtU k := ⟨_, rfl⟩
    have hRt : Hid (∀ W, Rw W b1 A1 n1 c1 x1 D1 m1 d1 y1 q1 → Calls Tryz.prog 40 #[.agg #[.bool b1, .slice A1 n1 c1, .slice D1 m1 d1], .int .i64 (k : Int)] W (RetVE lo hi (.int .i64 0) W)) := Lib.hid fun W h => by rw [e_lo, e_hi]; exact root_yes2 _ _ _ _ _ _ _ _ _ _ k (by omega) hq0.out (s1.out.mono (by decide)) hx W h
    rw [← e_lo] at sl lw lh lp hx
    rw [← e_lo] at e_hi
    rw [← e_hi] at lh
    have rlo : Rs lo 14 := sl.mono (by decide)
    have rhi : Rs hi 14 := by rw [e_hi]; exact (sl.add su)
    have hlh : lo ≤ hi := by rw [e_hi]; grind
    clear e_lo
    obtain ⟨P, e_P⟩ : ∃ z, z = qz (2 ^ k) := ⟨_, rfl⟩
    rw [← e_P] at sp ue hTw
    clear e_P
    obtain ⟨wd, e_wd⟩ : ∃ z, z = hi - lo := ⟨_, rfl⟩
    have rwd : Rs wd 29 := by rw [e_wd]; exact rhi.sub rlo
    have hWd : Hid (∀ W A0 n0 c0 D0 m0 d0 A1 n1 c1 D1 m1 d1, RR W A0 n0 c0 D0 m0 d0 lo → RR W A1 n1 c1 D1 m1 d1 hi → Calls Tryz.prog 24 #[.agg #[.bool (ng lo.num), .slice A0 n0 c0, .slice D0 m0 d0, .bool (ng hi.num), .slice A1 n1 c1, .slice D1 m1 d1]] W (RetR wd W)) := Lib.hid fun W A0 n0 c0 D0 m0 d0 A1 n1 c1 D1 m1 d1 X0 X1 => by
      have := width_any _ _ _ _ _ _ _ _ _ _ _ _ _ _ _ _ _ _ _ _ W (RR.w X0 (rlo.mono (by decide))) (RR.w X1 (rhi.mono (by decide)))
      rwa [show klo lo hi = lo from if_neg (Rat.not_lt.2 hlh), show khi lo hi = hi from if_neg (Rat.not_lt.2 hlh), ← e_wd] at this
    obtain ⟨ww, e_ww⟩ : ∃ z, z = wd * P := ⟨_, rfl⟩
    have rww : Rs ww 32 := by rw [e_ww]; exact rwd.mul sp
    have hMw : Hid (∀ W A0 n0 c0 D0 m0 d0 A1 n1 c1 D1 m1 d1, RR W A0 n0 c0 D0 m0 d0 wd → RR W A1 n1 c1 D1 m1 d1 P → Calls Tryz.prog 48 #[.agg #[.bool (ng wd.num), .slice A0 n0 c0, .slice D0 m0 d0], .agg #[.bool (ng P.num), .slice A1 n1 c1, .slice D1 m1 d1]] W (RetR ww W)) := Lib.hid fun W A0 n0 c0 D0 m0 d0 A1 n1 c1 D1 m1 d1 X0 X1 => by
      have l0 := X0.lens rwd
      have l1 := X1.lens sp
      have := Fmul_any (ng wd.num) A0 n0 c0 _ D0 m0 d0 _ (ng P.num) A1 n1 c1 _ D1 m1 d1 _ W X0.n X0.d X1.n X1.d (by omega) (by omega) (by omega) (by omega)
      rwa [rv_z, rv_z, ← e_ww] at this
    obtain ⟨sq0, e_sq0⟩ : ∃ z, z = minL (sqL lo hi) := ⟨_, rfl⟩
    obtain ⟨sq1, e_sq1⟩ : ∃ z, z = maxL (sqL lo hi) := ⟨_, rfl⟩
    obtain ⟨r0, r1⟩ := sqL_rs rlo rhi (by decide)
    rw [← e_sq0] at r0
    rw [← e_sq1] at r1
    have hSq : Hid (∀ W A0 n0 c0 D0 m0 d0 A1 n1 c1 D1 m1 d1, RR W A0 n0 c0 D0 m0 d0 lo → RR W A1 n1 c1 D1 m1 d1 hi → Calls Tryz.prog 37 #[.agg #[.bool (ng lo.num), .slice A0 n0 c0, .slice D0 m0 d0, .bool (ng hi.num), .slice A1 n1 c1, .slice D1 m1 d1]] W (RetV sq0 sq1 W)) := Lib.hid fun W A0 n0 c0 D0 m0 d0 A1 n1 c1 D1 m1 d1 X0 X1 => by
      have := rsquareV_any _ _ _ _ _ _ _ _ _ _ _ _ _ _ _ _ _ _ _ _ (rlo.mono (by decide)) (rhi.mono (by decide)) W (RR.w X0 (rlo.mono (by decide))) (RR.w X1 (rhi.mono (by decide)))
      rwa [show klo lo hi = lo from if_neg (Rat.not_lt.2 hlh), show khi lo hi = hi from if_neg (Rat.not_lt.2 hlh), ← e_sq0, ← e_sq1] at this
    have le0 : sq0 ≤ q1 := by rw [e_sq0]; exact Rat.le_trans (minL_le (sq_ends lo hi).1) lw
    have le1 : q1 ≤ sq1 := by rw [e_sq1]; exact Rat.le_trans (Rat.le_of_lt lh) (le_maxL (sq_ends lo hi).2)
    have hCo : Hid (∀ W A0 n0 c0 D0 m0 d0 A2 n2 c2 D2 m2 d2, RR W A0 n0 c0 D0 m0 d0 sq0 → RR W A2 n2 c2 D2 m2 d2 sq1 → Rw W b1 A1 n1 c1 x1 D1 m1 d1 y1 q1 → Calls Tryz.prog 20 #[.agg #[.bool (ng sq0.num), .slice A0 n0 c0, .slice D0 m0 d0, .bool (ng sq1.num), .slice A2 n2 c2, .slice D2 m2 d2], .agg #[.bool b1, .slice A1 n1 c1, .slice D1 m1 d1]] W fun e w' => e = .returned (.bool true) ∧ Below W.heap.size W w') := Lib.hid fun W A0 n0 c0 D0 m0 d0 A2 n2 c2 D2 m2 d2 X0 X1 X2 => by
      have := rcontains_any _ _ _ _ _ _ _ _ _ _ _ _ _ _ _ _ _ _ _ _ _ _ _ _ _ _ _ _ _ _ W (RR.w X0 (r0.mono (by decide))) (RR.w X1 (r1.mono (by decide))) X2
      have hl : ¬ sq1 < sq0 := Rat.not_lt.2 (Rat.le_trans le0 le1)
      rwa [show klo sq0 sq1 = sq0 from if_neg hl, show khi sq0 sq1 = sq1 from if_neg hl, decide_eq_true le0, decide_eq_true le1] at this
    obtain ⟨sgl, e_sgl⟩ : ∃ z, z = lo.num.sign := ⟨_, rfl⟩
    have hSl : Hid (∀ W A0 n0 c0 D0 m0 d0, RR W A0 n0 c0 D0 m0 d0 lo → Calls Tryz.prog 44 #[.agg #[.bool (ng lo.num), .slice A0 n0 c0, .slice D0 m0 d0]] W fun e w' => e = .returned (.int .i64 sgl) ∧ Below W.heap.size W w') := Lib.hid fun W A0 n0 c0 D0 m0 d0 X0 => by
      rw [e_sgl]; exact rsignQ lo A0 n0 c0 D0 m0 d0 W X0 (rlo.mono (by decide))
    have tb1 : decide (sgl < 0) = false := decide_eq_false (fun h => by rw [e_sgl] at h; exact Rat.not_lt.2 lp ((num_lt0 _).1 (Int.sign_neg_iff.1 h)))
    obtain ⟨sgw, e_sgw⟩ : ∃ z, z = ww.num.sign := ⟨_, rfl⟩
    have hSw : Hid (∀ W A0 n0 c0 D0 m0 d0, RR W A0 n0 c0 D0 m0 d0 ww → Calls Tryz.prog 44 #[.agg #[.bool (ng ww.num), .slice A0 n0 c0, .slice D0 m0 d0]] W fun e w' => e = .returned (.int .i64 sgw) ∧ Below W.heap.size W w') := Lib.hid fun W A0 n0 c0 D0 m0 d0 X0 => by
      rw [e_sgw]; exact rsignQ ww A0 n0 c0 D0 m0 d0 W X0 (rww.mono (by decide))
    have ew1 : ww = 1 := by rw [e_ww, e_wd, e_hi, ← ue]; grind
    have tb2 : (sgw == 0) = false := by rw [e_sgw, ew1]; rfl
    obtain ⟨ll, e_ll⟩ : ∃ z, z = lo * lo := ⟨_, rfl⟩
    have rll : Rs ll 28 := by rw [e_ll]; exact rlo.mul rlo
    have hLL : Hid (∀ W A0 n0 c0 D0 m0 d0 A1 n1 c1 D1 m1 d1, RR W A0 n0 c0 D0 m0 d0 lo → RR W A1 n1 c1 D1 m1 d1 lo → Calls Tryz.prog 48 #[.agg #[.bool (ng lo.num), .slice A0 n0 c0, .slice D0 m0 d0], .agg #[.bool (ng lo.num), .slice A1 n1 c1, .slice D1 m1 d1]] W (RetR ll W)) := Lib.hid fun W A0 n0 c0 D0 m0 d0 A1 n1 c1 D1 m1 d1 X0 X1 => by
      have l0 := X0.lens rlo
      have l1 := X1.lens rlo
      have := Fmul_any (ng lo.num) A0 n0 c0 _ D0 m0 d0 _ (ng lo.num) A1 n1 c1 _ D1 m1 d1 _ W X0.n X0.d X1.n X1.d (by omega) (by omega) (by omega) (by omega)
      rwa [rv_z, ← e_ll] at this
    obtain ⟨hh, e_hh⟩ : ∃ z, z = hi * hi := ⟨_, rfl⟩
    have rhh : Rs hh 28 := by rw [e_hh]; exact rhi.mul rhi
    have hHH : Hid (∀ W A0 n0 c0 D0 m0 d0 A1 n1 c1 D1 m1 d1, RR W A0 n0 c0 D0 m0 d0 hi → RR W A1 n1 c1 D1 m1 d1 hi → Calls Tryz.prog 48 #[.agg #[.bool (ng hi.num), .slice A0 n0 c0, .slice D0 m0 d0], .agg #[.bool (ng hi.num), .slice A1 n1 c1, .slice D1 m1 d1]] W (RetR hh W)) := Lib.hid fun W A0 n0 c0 D0 m0 d0 A1 n1 c1 D1 m1 d1 X0 X1 => by
      have l0 := X0.lens rhi
      have l1 := X1.lens rhi
      have := Fmul_any (ng hi.num) A0 n0 c0 _ D0 m0 d0 _ (ng hi.num) A1 n1 c1 _ D1 m1 d1 _ W X0.n X0.d X1.n X1.d (by omega) (by omega) (by omega) (by omega)
      rwa [rv_z, ← e_hh] at this
    obtain ⟨on, e_on⟩ : ∃ z : Rat, z = ((1 : Int) : Rat) := ⟨_, rfl⟩
    have ron : Rs on 1 := by rw [e_on]; exact Rs.int (by decide) (by decide)
    have hF1 : Hid (∀ W, Calls Tryz.prog 53 #[.int .i64 1] W (RetR on W)) := Lib.hid fun W => by rw [e_on]; exact FfromInt_any 1 W (by decide) (by decide)
    obtain ⟨cc, e_cc⟩ : ∃ z, z = cmpq ww on := ⟨_, rfl⟩
    have hCm : Hid (∀ W A0 n0 c0 D0 m0 d0 A1 n1 c1 D1 m1 d1, RR W A0 n0 c0 D0 m0 d0 ww → RR W A1 n1 c1 D1 m1 d1 on → Calls Tryz.prog 52 #[.agg #[.bool (ng ww.num), .slice A0 n0 c0, .slice D0 m0 d0], .agg #[.bool (ng on.num), .slice A1 n1 c1, .slice D1 m1 d1]] W fun e w' => e = .returned (.int .i64 cc) ∧ Below W.heap.size W w') := Lib.hid fun W A0 n0 c0 D0 m0 d0 A1 n1 c1 D1 m1 d1 X0 X1 => by rw [e_cc]; exact compareF _ _ _ _ _ _ _ _ _ _ _ _ _ _ _ _ _ _ _ _ W (RR.w X0 (rww.mono (by decide))) (RR.w X1 (ron.mono (by decide)))
    have tb3 : (cc == 0) = true := by rw [e_cc, cmpq_beq, decide_eq_true (by rw [ew1, e_on]; rfl)]
    have hLv : Hid (∀ W A0 n0 c0 D0 m0 d0, Rw W b1 A1 n1 c1 x1 D1 m1 d1 y1 q1 → RR W A0 n0 c0 D0 m0 d0 hh → Calls Tryz.prog 54 #[.agg #[.bool b1, .slice A1 n1 c1, .slice D1 m1 d1], .agg #[.bool (ng hh.num), .slice A0 n0 c0, .slice D0 m0 d0]] W fun e w' => e = .returned (.bool true) ∧ Below W.heap.size W w') := Lib.hid fun W A0 n0 c0 D0 m0 d0 X0 X1 => by
      have := less_any _ _ _ _ _ _ _ _ _ _ _ _ _ _ _ _ _ _ _ _ W X0 (RR.w X1 (rhh.mono (by decide)))
      rwa [decide_eq_true (by rw [e_hh]; exact lh)] at this
    have hlt : lo * lo < q1 := Rat.lt_of_le_of_ne lw hx
    have hLw : Hid (∀ W A0 n0 c0 D0 m0 d0, RR W A0 n0 c0 D0 m0 d0 ll → Rw W b1 A1 n1 c1 x1 D1 m1 d1 y1 q1 → Calls Tryz.prog 54 #[.agg #[.bool (ng ll.num), .slice A0 n0 c0, .slice D0 m0 d0], .agg #[.bool b1, .slice A1 n1 c1, .slice D1 m1 d1]] W fun e w' => e = .returned (.bool true) ∧ Below W.heap.size W w') := Lib.hid fun W A0 n0 c0 D0 m0 d0 X0 X1 => by
      have := less_any _ _ _ _ _ _ _ _ _ _ _ _ _ _ _ _ _ _ _ _ W (RR.w X0 (rll.mono (by decide))) X1
      rwa [decide_eq_true (by rw [e_ll]; exact hlt)] at this
    clear hk lw lh lp ue up hx hlh le0 le1 ew1 hlt rhh ron e_hh e_on sl su sp rlo rhi rwd rww r0 r1 rll e_hi e_wd e_ww e_sq0 e_sq1 e_sgl e_sgw e_ll e_cc
    go_wp2_with fail
    refine (hRt.out _ (Rw.of (S.out.r 1 rfl) (S.out.r 0 rfl) k1.out)).mono ?_
    rintro e w4 ⟨A31, n31, c31, D31, m31, d31, A32, n32, c32, D32, m32, d32, rfl, Q31, Q32, bb⟩
    have T := (((((S.out.call bb).read Q31.n).read Q31.d).read Q32.n).read Q32.d)
    clear bb S c_v0 c_v1 c_v2 hz
    have S := T
    clear T
    obtain ⟨c_v0, c_v1, c_v2⟩ := S.c3 0 rfl
    have hz : w.heap.size < w4.heap.size := S.lt 0 rfl
    replace S := Lib.hid S
    clear Q31 Q32 hRt
    have S := (S.out.allocAt (w4.heap.size) #[.bool (ng lo.num), .slice A31 n31 c31, .slice D31 m31 d31, .bool (ng hi.num), .slice A32 n32 c32, .slice D32 m32 d32] 28 (noL6 _ _ _ _ _ _ _ _ _ _ _ _ _ _) (by simp))
    replace S := Lib.hid S
    go_wp2_with fail
    refine (hWd.out _ _ _ _ _ _ _ _ _ _ _ _ _ ⟨S.out.r 3 rfl, S.out.r 2 rfl⟩ ⟨S.out.r 1 rfl, S.out.r 0 rfl⟩).mono ?_
    rintro e w5 ⟨A33, n33, c33, D33, m33, d33, rfl, Q33, bb⟩
    have T := (((S.out.call bb).read Q33.n).read Q33.d)
    clear bb S c_v0 c_v1 c_v2 hz
    have S := T
    clear T
    obtain ⟨c_x0, c_x1, c_x2, c_x3, c_x4, c_x5⟩ := S.c6 0 rfl
    obtain ⟨c_v0, c_v1, c_v2⟩ := S.c3 1 rfl
    have hz : w4.heap.size < w5.heap.size := S.lt 0 rfl
    replace S := Lib.hid S
    clear Q33 hWd
    go_wp2_with fail
    refine (hTw.out _).mono ?_
    rintro e w6 ⟨A34, n34, c34, D34, m34, d34, rfl, Q34, bb⟩
    have T := (((S.out.call bb).read Q34.n).read Q34.d)
    clear bb S c_x0 c_x1 c_x2 c_x3 c_x4 c_x5 c_v0 c_v1 c_v2 hz
    have S := T
    clear T
    obtain ⟨c_x0, c_x1, c_x2, c_x3, c_x4, c_x5⟩ := S.c6 0 rfl
    obtain ⟨c_v0, c_v1, c_v2⟩ := S.c3 1 rfl
    have hz : w4.heap.size < w6.heap.size := S.lt 0 rfl
    replace S := Lib.hid S
    clear Q34 hTw
    go_wp2_with fail
    refine (hMw.out _ _ _ _ _ _ _ _ _ _ _ _ _ ⟨S.out.r 3 rfl, S.out.r 2 rfl⟩ ⟨S.out.r 1 rfl, S.out.r 0 rfl⟩).mono ?_
    rintro e w7 ⟨A35, n35, c35, D35, m35, d35, rfl, Q35, bb⟩
    have T := (((S.out.call bb).read Q35.n).read Q35.d)
    clear bb S c_x0 c_x1 c_x2 c_x3 c_x4 c_x5 c_v0 c_v1 c_v2 hz
    have S := T
    clear T
    obtain ⟨c_x0, c_x1, c_x2, c_x3, c_x4, c_x5⟩ := S.c6 0 rfl
    obtain ⟨c_v0, c_v1, c_v2⟩ := S.c3 1 rfl
    have hz : w4.heap.size < w7.heap.size := S.lt 0 rfl
    replace S := Lib.hid S
    clear Q35 hMw
    go_upto_region 6 with fail
    clear c_x0 c_x1 c_x2 c_x3 c_x4 c_x5 c_v0 c_v1 c_v2 hz
    have S := (S.out.allocAt (w7.heap.size) #[.bool (ng ww.num), .slice A35 n35 c35, .slice D35 m35 d35] 26 (noL3 _ _ _ _ _ _ _) (by simp))
    generalize hW8 : (World.alloc w7 (.cells #[.bool (ng ww.num), .slice A35 n35 c35, .slice D35 m35 d35] 26)) = w8 at S ⊢
    clear hW8
    replace S := Lib.hid S
    refine RW.begin (Z := []) (S := (fun W => Cb W (w4.heap.size) #[.bool (ng lo.num), .slice A31 n31 c31, .slice D31 m31 d31, .bool (ng hi.num), .slice A32 n32 c32, .slice D32 m32 d32] 28 ∧ Cb W (w.heap.size) #[.bool b1, .slice A1 n1 c1, .slice D1 m1 d1] 26)) (by kernel_rfl) ?_ S.out ?_
    · exact ⟨by kernel_rfl, zis_nil, by decide, by decide, nol_nil, (fun _ _ h => ⟨h.kb 1 rfl, h.kb 2 rfl⟩)⟩
    intro hzk
    clear S
    refine RW.t (i := 0) (v := .int .i64 0) (some 30) at0 (hy := fun _ _ => by kernel_rfl) (h := ?_)
    refine RW.t (i := 1) (v := .bool false) (some 31) at1 (hy := fun _ _ => by go_simp) (h := ?_)
    refine RW.t (i := 2) (v := .bool false) (some 32) at2 (hy := fun _ _ => by kernel_rfl) (h := ?_)
    refine RW.t (i := 3) (v := .pointer (some ⟨w4.heap.size, 0, none⟩)) (some 33) at3 (hy := fun _ _ => by kernel_rfl) (h := ?_)
    refine RW.t (i := 4) (v := .agg #[.bool (ng lo.num), .slice A31 n31 c31, .slice D31 m31 d31]) (some 34) at4 (hy := fun W hS => by (have k0 := Cb.cell (i := 0) hS.1 rfl; have k1 := Cb.cell (i := 1) hS.1 rfl; have k2 := Cb.cell (i := 2) hS.1 rfl; clear hS; go_simp)) (h := ?_)
    refine RW.c (i := 5) (args := #[.agg #[.bool (ng lo.num), .slice A31 n31 c31, .slice D31 m31 d31]]) (some 35) hzk.out at5 (hx := fun _ => by kernel_rfl) (h := fun _ S => (hSl.out _ _ _ _ _ _ _ ⟨S.r 9 rfl, S.r 8 rfl⟩).mono ?_)
    rintro e w9 ⟨rfl, bb⟩
    refine ⟨bb, _, [], rfl, rd_nil, ?_⟩
    clear bb S
    refine RW.t (i := 6) (v := .bool false) (some 36) at6 (hy := fun _ _ => by go_simp) (h := ?_)
    refine RW.t (i := 7) (v := .bool false) (some 37) at7 (hy := fun _ _ => by kernel_rfl) (h := ?_)
    refine RW.t (i := 8) (v := .bool false) (some 38) at8 (hy := fun _ _ => by kernel_rfl) (h := ?_)
    refine RW.t (i := 9) (v := .agg #[.bool (ng lo.num), .slice A31 n31 c31, .slice D31 m31 d31, .bool (ng hi.num), .slice A32 n32 c32, .slice D32 m32 d32]) (some 39) at9 (hy := fun W hS => by (obtain ⟨k0, k1, k2, k3, k4, k5⟩ := Cb.c6 hS.1; clear hS; go_simp)) (h := ?_)
    refine RW.t (i := 11) (v := .agg #[.bool b1, .slice A1 n1 c1, .slice D1 m1 d1]) (some 41) at11 (hy := fun W hS => by (have k0 := Cb.cell (i := 0) hS.2 rfl; have k1 := Cb.cell (i := 1) hS.2 rfl; have k2 := Cb.cell (i := 2) hS.2 rfl; clear hS; go_simp)) (h := ?_)
    refine RW.c (i := 10) (args := #[.agg #[.bool (ng lo.num), .slice A31 n31 c31, .slice D31 m31 d31, .bool (ng hi.num), .slice A32 n32 c32, .slice D32 m32 d32]]) (some 40) hzk.out at10 (hx := fun _ => by kernel_rfl) (h := fun _ S => (hSq.out _ _ _ _ _ _ _ _ _ _ _ _ _ ⟨S.r 9 rfl, S.r 8 rfl⟩ ⟨S.r 7 rfl, S.r 6 rfl⟩).mono ?_)
    rintro e w10 ⟨A36, n36, c36, D36, m36, d36, A37, n37, c37, D37, m37, d37, rfl, Q36, Q37, bb⟩
    refine ⟨bb, _, [(D37, m37, d37, dn sq1), (A37, n37, c37, limbs sq1.num.natAbs), (D36, m36, d36, dn sq0), (A36, n36, c36, limbs sq0.num.natAbs)], rfl, (rd_cons Q37.d (rd_cons Q37.n (rd_cons Q36.d (rd_cons Q36.n rd_nil)))), ?_⟩
    clear bb S Q36 Q37
    refine RW.c (i := 12) (args := #[.agg #[.bool (ng sq0.num), .slice A36 n36 c36, .slice D36 m36 d36, .bool (ng sq1.num), .slice A37 n37 c37, .slice D37 m37 d37], .agg #[.bool b1, .slice A1 n1 c1, .slice D1 m1 d1]]) (some 42) hzk.out at12 (hx := fun _ => by kernel_rfl) (h := fun _ S => (hCo.out _ _ _ _ _ _ _ _ _ _ _ _ _ ⟨S.r 3 rfl, S.r 2 rfl⟩ ⟨S.r 1 rfl, S.r 0 rfl⟩ (Rw.of (S.r 15 rfl) (S.r 14 rfl) k1.out)).mono ?_)
    rintro e w11 ⟨rfl, bb⟩
    refine ⟨bb, _, [], rfl, rd_nil, ?_⟩
    clear bb S
    refine RW.t (i := 13) (v := .bool false) (some 43) at13 (hy := fun _ _ => by kernel_rfl) (h := ?_)
    refine RW.t (i := 14) (v := .bool false) (some 44) at14 (hy := fun _ _ => by kernel_rfl) (h := ?_)
    refine RW.tail hzk.out (by kernel_rfl) ?_
    intro gs w12 hgs hS S
    obtain rfl := len0 hgs
    clear hS hgs hzk
    simp only [mark, fill, Act.put, List.setIfInBounds_toArray, List.set_cons_zero, List.set_cons_succ]
    replace S := Lib.hid S
    refine Wk.done (by kernel_rfl) ?_
    go_simp
    replace S := S.out
    have S : St w _ [(w7.heap.size, #[.bool (ng ww.num), .slice A35 n35 c35, .slice D35 m35 d35], 26), (w4.heap.size, #[.bool (ng lo.num), .slice A31 n31 c31, .slice D31 m31 d31, .bool (ng hi.num), .slice A32 n32 c32, .slice D32 m32 d32], 28), (w.heap.size, #[.bool b1, .slice A1 n1 c1, .slice D1 m1 d1], 26)] [(D37, m37, d37, dn sq1), (A37, n37, c37, limbs sq1.num.natAbs), (D36, m36, d36, dn sq0), (A36, n36, c36, limbs sq0.num.natAbs), (D35, m35, d35, dn ww), (A35, n35, c35, limbs ww.num.natAbs), (D34, m34, d34, dn P), (A34, n34, c34, limbs P.num.natAbs), (D33, m33, d33, dn wd), (A33, n33, c33, limbs wd.num.natAbs), (D32, m32, d32, dn hi), (A32, n32, c32, limbs hi.num.natAbs), (D31, m31, d31, dn lo), (A31, n31, c31, limbs lo.num.natAbs), (D1, m1, d1, y1), (A1, n1, c1, x1)] := S
    replace S := Lib.hid S
    replace S := S.out
    obtain ⟨c_w0, c_w1, c_w2⟩ := S.c3 0 rfl
    obtain ⟨c_x0, c_x1, c_x2, c_x3, c_x4, c_x5⟩ := S.c6 1 rfl
    obtain ⟨c_v0, c_v1, c_v2⟩ := S.c3 2 rfl
    have hz : w7.heap.size < w12.heap.size := S.lt 0 rfl
    replace S := Lib.hid S
    clear hSl hSq hCo tb1
    go_wp2_with fail
    refine (hSw.out _ _ _ _ _ _ _ ⟨S.out.r 5 rfl, S.out.r 4 rfl⟩).mono ?_
    rintro e w13 ⟨rfl, bb⟩
    have T := (S.out.call bb)
    clear bb S c_w0 c_w1 c_w2 c_x0 c_x1 c_x2 c_x3 c_x4 c_x5 c_v0 c_v1 c_v2 hz
    have S := T
    clear T
    obtain ⟨c_w0, c_w1, c_w2⟩ := S.c3 0 rfl
    obtain ⟨c_x0, c_x1, c_x2, c_x3, c_x4, c_x5⟩ := S.c6 1 rfl
    obtain ⟨c_v0, c_v1, c_v2⟩ := S.c3 2 rfl
    have hz : w7.heap.size < w13.heap.size := S.lt 0 rfl
    replace S := Lib.hid S
    clear hSw
    go_upto_region 10 with fail
    clear c_w0 c_w1 c_w2 c_x0 c_x1 c_x2 c_x3 c_x4 c_x5 c_v0 c_v1 c_v2 hz
    refine RW.begin (Z := []) (S := (fun W => Cb W (w7.heap.size) #[.bool (ng ww.num), .slice A35 n35 c35, .slice D35 m35 d35] 26 ∧ Cb W (w4.heap.size) #[.bool (ng lo.num), .slice A31 n31 c31, .slice D31 m31 d31, .bool (ng hi.num), .slice A32 n32 c32, .slice D32 m32 d32] 28 ∧ Cb W (w.heap.size) #[.bool b1, .slice A1 n1 c1, .slice D1 m1 d1] 26)) (by kernel_rfl) ?_ S.out ?_
    · exact ⟨by kernel_rfl, zis_nil, by decide, by decide, nol_nil, (fun _ _ h => ⟨h.kb 0 rfl, h.kb 1 rfl, h.kb 2 rfl⟩)⟩
    intro hzk
    clear S
    refine RW.c (i := 0) (args := #[]) (some 59) hzk.out at0 (hx := fun _ => by kernel_rfl) (h := fun _ S => (hA.out _).mono ?_)
    rintro e w14 ⟨rfl, bb⟩
    refine ⟨bb, _, [], rfl, rd_nil, ?_⟩
    clear bb S
    refine RW.t (i := 1) (v := .bool true) (some 60) at1 (hy := fun _ _ => by kernel_rfl) (h := ?_)
    refine RW.t (i := 2) (v := .agg #[.bool (ng ww.num), .slice A35 n35 c35, .slice D35 m35 d35]) (some 61) at2 (hy := fun W hS => by (have k0 := Cb.cell (i := 0) hS.1 rfl; have k1 := Cb.cell (i := 1) hS.1 rfl; have k2 := Cb.cell (i := 2) hS.1 rfl; clear hS; go_simp)) (h := ?_)
    refine RW.c (i := 3) (args := #[.int .i64 1]) (some 62) hzk.out at3 (hx := fun _ => by kernel_rfl) (h := fun _ S => (hF1.out _).mono ?_)
    rintro e w15 ⟨A39, n39, c39, D39, m39, d39, rfl, Q39, bb⟩
    refine ⟨bb, _, [(D39, m39, d39, dn on), (A39, n39, c39, limbs on.num.natAbs)], rfl, (rd_cons Q39.d (rd_cons Q39.n rd_nil)), ?_⟩
    clear bb S Q39
    refine RW.c (i := 4) (args := #[.agg #[.bool (ng ww.num), .slice A35 n35 c35, .slice D35 m35 d35], .agg #[.bool (ng on.num), .slice A39 n39 c39, .slice D39 m39 d39]]) (some 63) hzk.out at4 (hx := fun _ => by kernel_rfl) (h := fun _ S => (hCm.out _ _ _ _ _ _ _ _ _ _ _ _ _ ⟨S.r 7 rfl, S.r 6 rfl⟩ ⟨S.r 1 rfl, S.r 0 rfl⟩).mono ?_)
    rintro e w16 ⟨rfl, bb⟩
    refine ⟨bb, _, [], rfl, rd_nil, ?_⟩
    clear bb S
    refine RW.t (i := 5) (v := .bool true) (some 64) at5 (hy := fun _ _ => by go_simp) (h := ?_)
    refine RW.t (i := 6) (v := .bool true) (some 65) at6 (hy := fun _ _ => by kernel_rfl) (h := ?_)
    refine RW.t (i := 7) (v := .bool true) (some 66) at7 (hy := fun _ _ => by kernel_rfl) (h := ?_)
    refine RW.t (i := 8) (v := .agg #[.bool b1, .slice A1 n1 c1, .slice D1 m1 d1]) (some 67) at8 (hy := fun W hS => by (have k0 := Cb.cell (i := 0) hS.2.2 rfl; have k1 := Cb.cell (i := 1) hS.2.2 rfl; have k2 := Cb.cell (i := 2) hS.2.2 rfl; clear hS; go_simp)) (h := ?_)
    refine RW.t (i := 9) (v := .pointer (some ⟨w4.heap.size, 3, none⟩)) (some 68) at9 (hy := fun _ _ => by kernel_rfl) (h := ?_)
    refine RW.t (i := 10) (v := .agg #[.bool (ng hi.num), .slice A32 n32 c32, .slice D32 m32 d32]) (some 69) at10 (hy := fun W hS => by (have k3 := Cb.cell (i := 3) hS.2.1 rfl; have k4 := Cb.cell (i := 4) hS.2.1 rfl; have k5 := Cb.cell (i := 5) hS.2.1 rfl; clear hS; go_simp)) (h := ?_)
    refine RW.t (i := 11) (v := .pointer (some ⟨w4.heap.size, 3, none⟩)) (some 70) at11 (hy := fun _ _ => by kernel_rfl) (h := ?_)
    refine RW.t (i := 12) (v := .agg #[.bool (ng hi.num), .slice A32 n32 c32, .slice D32 m32 d32]) (some 71) at12 (hy := fun W hS => by (have k3 := Cb.cell (i := 3) hS.2.1 rfl; have k4 := Cb.cell (i := 4) hS.2.1 rfl; have k5 := Cb.cell (i := 5) hS.2.1 rfl; clear hS; go_simp)) (h := ?_)
    refine RW.c (i := 13) (args := #[.agg #[.bool (ng hi.num), .slice A32 n32 c32, .slice D32 m32 d32], .agg #[.bool (ng hi.num), .slice A32 n32 c32, .slice D32 m32 d32]]) (some 72) hzk.out at13 (hx := fun _ => by kernel_rfl) (h := fun _ S => (hHH.out _ _ _ _ _ _ _ _ _ _ _ _ _ ⟨S.r 13 rfl, S.r 12 rfl⟩ ⟨S.r 13 rfl, S.r 12 rfl⟩).mono ?_)
    rintro e w17 ⟨A40, n40, c40, D40, m40, d40, rfl, Q40, bb⟩
    refine ⟨bb, _, [(D40, m40, d40, dn hh), (A40, n40, c40, limbs hh.num.natAbs)], rfl, (rd_cons Q40.d (rd_cons Q40.n rd_nil)), ?_⟩
    clear bb S Q40
    refine RW.c (i := 14) (args := #[.agg #[.bool b1, .slice A1 n1 c1, .slice D1 m1 d1], .agg #[.bool (ng hh.num), .slice A40 n40 c40, .slice D40 m40 d40]]) (some 73) hzk.out at14 (hx := fun _ => by kernel_rfl) (h := fun _ S => (hLv.out _ _ _ _ _ _ _ (Rw.of (S.r 19 rfl) (S.r 18 rfl) k1.out) ⟨S.r 1 rfl, S.r 0 rfl⟩).mono ?_)
    rintro e w18 ⟨rfl, bb⟩
    refine ⟨bb, _, [], rfl, rd_nil, ?_⟩
    clear bb S
    refine RW.t (i := 15) (v := .bool true) (some 74) at15 (hy := fun _ _ => by kernel_rfl) (h := ?_)
    refine RW.t (i := 16) (v := .bool true) (some 75) at16 (hy := fun _ _ => by kernel_rfl) (h := ?_)
    refine RW.t (i := 17) (v := .pointer (some ⟨w4.heap.size, 0, none⟩)) (some 76) at17 (hy := fun _ _ => by kernel_rfl) (h := ?_)
    refine RW.t (i := 18) (v := .agg #[.bool (ng lo.num), .slice A31 n31 c31, .slice D31 m31 d31]) (some 77) at18 (hy := fun W hS => by (have k0 := Cb.cell (i := 0) hS.2.1 rfl; have k1 := Cb.cell (i := 1) hS.2.1 rfl; have k2 := Cb.cell (i := 2) hS.2.1 rfl; clear hS; go_simp)) (h := ?_)
    refine RW.t (i := 19) (v := .pointer (some ⟨w4.heap.size, 0, none⟩)) (some 78) at19 (hy := fun _ _ => by kernel_rfl) (h := ?_)
    refine RW.t (i := 20) (v := .agg #[.bool (ng lo.num), .slice A31 n31 c31, .slice D31 m31 d31]) (some 79) at20 (hy := fun W hS => by (have k0 := Cb.cell (i := 0) hS.2.1 rfl; have k1 := Cb.cell (i := 1) hS.2.1 rfl; have k2 := Cb.cell (i := 2) hS.2.1 rfl; clear hS; go_simp)) (h := ?_)
    refine RW.t (i := 22) (v := .agg #[.bool b1, .slice A1 n1 c1, .slice D1 m1 d1]) (some 81) at22 (hy := fun W hS => by (have k0 := Cb.cell (i := 0) hS.2.2 rfl; have k1 := Cb.cell (i := 1) hS.2.2 rfl; have k2 := Cb.cell (i := 2) hS.2.2 rfl; clear hS; go_simp)) (h := ?_)
    refine RW.c (i := 21) (args := #[.agg #[.bool (ng lo.num), .slice A31 n31 c31, .slice D31 m31 d31], .agg #[.bool (ng lo.num), .slice A31 n31 c31, .slice D31 m31 d31]]) (some 80) hzk.out at21 (hx := fun _ => by kernel_rfl) (h := fun _ S => (hLL.out _ _ _ _ _ _ _ _ _ _ _ _ _ ⟨S.r 17 rfl, S.r 16 rfl⟩ ⟨S.r 17 rfl, S.r 16 rfl⟩).mono ?_)
    rintro e w19 ⟨A38, n38, c38, D38, m38, d38, rfl, Q38, bb⟩
    refine ⟨bb, _, [(D38, m38, d38, dn ll), (A38, n38, c38, limbs ll.num.natAbs)], rfl, (rd_cons Q38.d (rd_cons Q38.n rd_nil)), ?_⟩
    clear bb S Q38
    refine RW.c (i := 23) (args := #[.agg #[.bool (ng ll.num), .slice A38 n38 c38, .slice D38 m38 d38], .agg #[.bool b1, .slice A1 n1 c1, .slice D1 m1 d1]]) (some 82) hzk.out at23 (hx := fun _ => by kernel_rfl) (h := fun _ S => (hLw.out _ _ _ _ _ _ _ ⟨S.r 1 rfl, S.r 0 rfl⟩ (Rw.of (S.r 21 rfl) (S.r 20 rfl) k1.out)).mono ?_)
    rintro e w20 ⟨rfl, bb⟩
    refine ⟨bb, _, [], rfl, rd_nil, ?_⟩
    clear bb S
    refine RW.t (i := 24) (v := .bool true) (some 83) at24 (hy := fun _ _ => by kernel_rfl) (h := ?_)
    refine RW.tail hzk.out (by kernel_rfl) ?_
    intro gs w21 hgs hS S
    obtain rfl := len0 hgs
    clear hS hgs hzk
    simp only [mark, fill, Act.put, List.setIfInBounds_toArray, List.set_cons_zero, List.set_cons_succ]
    replace S := Lib.hid S
    refine Wk.o (i := 25) at25 (by kernel_rfl) fun K' hK => ?_
    go_simp
    have SN := S.out
    clear S
    have S := SN
    clear SN
    refine hK.out _ _ ⟨(S.cb 0 rfl), (S.cb 1 rfl), (S.cb 2 rfl)⟩ ?_
    clear hK K'
    replace S := Lib.hid S
    try simp only [Act.put, List.setIfInBounds_toArray, List.set_cons_zero, List.set_cons_succ]
    refine Wk.done (by kernel_rfl) ?_
    go_simp
    replace S := S.out
    have S : St w _ [(w7.heap.size, #[.bool (ng ww.num), .slice A35 n35 c35, .slice D35 m35 d35], 26), (w4.heap.size, #[.bool (ng lo.num), .slice A31 n31 c31, .slice D31 m31 d31, .bool (ng hi.num), .slice A32 n32 c32, .slice D32 m32 d32], 28), (w.heap.size, #[.bool b1, .slice A1 n1 c1, .slice D1 m1 d1], 26)] [(D38, m38, d38, dn ll), (A38, n38, c38, limbs ll.num.natAbs), (D40, m40, d40, dn hh), (A40, n40, c40, limbs hh.num.natAbs), (D39, m39, d39, dn on), (A39, n39, c39, limbs on.num.natAbs), (D37, m37, d37, dn sq1), (A37, n37, c37, limbs sq1.num.natAbs), (D36, m36, d36, dn sq0), (A36, n36, c36, limbs sq0.num.natAbs), (D35, m35, d35, dn ww), (A35, n35, c35, limbs ww.num.natAbs), (D34, m34, d34, dn P), (A34, n34, c34, limbs P.num.natAbs), (D33, m33, d33, dn wd), (A33, n33, c33, limbs wd.num.natAbs), (D32, m32, d32, dn hi), (A32, n32, c32, limbs hi.num.natAbs), (D31, m31, d31, dn lo), (A31, n31, c31, limbs lo.num.natAbs), (D1, m1, d1, y1), (A1, n1, c1, x1)] := S
    replace S := Lib.hid S
    replace S := S.out
    replace S := Lib.hid S
    have S := S.out
    replace S := Lib.hid S
    go_wp2
    go_ret
    exact ⟨rfl, S.out.bel⟩
end Go.Proofs.YtidhloliahfknaaGreat
