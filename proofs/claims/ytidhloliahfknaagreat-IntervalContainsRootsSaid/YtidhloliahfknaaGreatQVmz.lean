/- wholeRoot of interval. Root of interval. -/
import Derived.Test.YtidhloliahfknaaGreatQVkz
import Derived.Test.YtidhloliahfknaaGreatQTkz
import Derived.Test.YtidhloliahfknaaGreatQVdz
import Derived.Test.YtidhloliahfknaaGreatUb
namespace Go.Proofs.YtidhloliahfknaaGreat
open Go.RowKit RQ
def qz (N : Nat) : Rat := ((N : Int) : Rat)
theorem qz_le {a b : Nat} : qz a ≤ qz b ↔ a ≤ b := by unfold qz; rw [Rat.intCast_le_intCast]; omega
theorem qz_lt {a b : Nat} : qz a < qz b ↔ a < b := by unfold qz; rw [Rat.intCast_lt_intCast]; omega
theorem qz_add (a b : Nat) : qz (a + b) = qz a + qz b := by unfold qz; rw [← Rat.intCast_add]; rfl
theorem qz_mul (a b : Nat) : qz (a * b) = qz a * qz b := by unfold qz; rw [← Rat.intCast_mul]; rfl
theorem floor_is {x : Rat} {m : Nat} (h1 : qz m ≤ x) (h2 : x < qz (m + 1)) : x.floor = (m : Int) := by
  have e1 : (m : Int) ≤ x.floor := Rat.le_floor_iff.2 h1
  have e2 : x.floor < ((m + 1 : Nat) : Int) := Rat.floor_lt_iff.2 h2
  omega
theorem newton_floor {N r : Nat} (hr : 0 < r) : ((qz r + qz N / qz r) * (qz 2)⁻¹).floor = (((r + N / r) / 2 : Nat) : Int) := by
  have hq : qz r ≠ 0 := by
    intro h
    have : qz r = qz 0 := h
    have := qz_le.1 (show qz r ≤ qz 0 by rw [this]; exact Rat.le_refl)
    omega
  have p : 0 < qz r := (qz_lt (a := 0)).2 hr
  generalize ht : qz N / qz r = t
  have h1 : t * qz r = qz N := by rw [← ht]; exact Rat.div_mul_cancel hq
  generalize hk : N / r = k
  have hk1 : k * r ≤ N := by rw [← hk]; exact Nat.div_mul_le_self N r
  have hk2 : N < (k + 1) * r := by rw [← hk]; have := Nat.div_add_mod N r; have := Nat.mod_lt N hr; rw [Nat.add_mul, Nat.mul_comm (N / r)]; omega
  have t1 : qz k ≤ t := by
    apply Rat.le_of_mul_le_mul_right (c := qz r) _ p
    rw [h1, ← qz_mul]; exact qz_le.2 hk1
  have t2 : t < qz (k + 1) := by
    apply Rat.not_le.1
    intro h
    have := Rat.mul_le_mul_of_nonneg_right h (Rat.le_of_lt p)
    rw [h1, ← qz_mul] at this
    have := qz_le.1 this
    omega
  have two : qz 2 = 2 := rfl
  have i2 : (qz 2)⁻¹ * 2 = 1 := by rw [two]; exact Rat.inv_mul_cancel 2 (by decide)
  generalize (qz 2)⁻¹ = u at *
  have hm : 2 * ((r + k) / 2) ≤ r + k := by omega
  have hm' : r + k + 1 ≤ 2 * ((r + k) / 2 + 1) := by omega
  generalize (r + k) / 2 = m at *
  have hu : (qz r + t) * u * 2 = qz r + t := by rw [Rat.mul_assoc, i2, Rat.mul_one]
  have b1 := qz_le.2 hm
  have b2 := qz_le.2 hm'
  rw [qz_mul, qz_add, two] at b1
  rw [qz_add, qz_add, qz_mul, two] at b2
  rw [qz_add] at t2
  generalize (qz r + t) * u = z at *
  apply floor_is
  · grind
  · grind
theorem p2_lt {e k : Nat} (h : e < 32 * k) : 2 ^ e < 4294967296 ^ k := by rw [pow_limb]; exact Nat.pow_lt_pow_right (by decide) h
theorem qz_ng (N : Nat) : ng (qz N).num = false := nat_ng N
theorem qz_num (N : Nat) : (qz N).num = (N : Int) := rfl
theorem qz_abs (N : Nat) : (qz N).num.natAbs = N := rfl
theorem qz_RR {w : World} {A : Option Addr} {n c : Nat} {D : Option Addr} {d : Nat} {N : Nat} (h : Rd w A n c (limbs N)) : RR w A n c D 0 d (qz N) := ⟨h, Rd.nil_ _ _ _⟩
theorem qz_rs {N p : Nat} (h : N < 4294967296 ^ p) (hp : 1 ≤ p) : Rs (qz N) p := Rs.int (by rw [Int.natAbs_natCast]; exact h) hp
theorem qz_cmp (a b : Nat) : cmpq (qz a) (qz b) < 0 ↔ a < b := by rw [cmpq_neg, qz_lt]
theorem res_whole (W : World) (tmps : Array Value) (g t : Nat) {v0 v1 v2 : Value} (ht : tmps.getD 2 undef = .pointer (some ⟨g, 0, none⟩)) (h : Cb W g #[v0, v1, v2] t) :
    (results Tryz.f80 tmps).run Tryz.prog W = .ok (.agg #[v0, v1, v2]) W := by
  have c0 : W.cell? ⟨g, 0, none⟩ = some v0 := h.cell rfl
  have c1 : W.cell? ⟨g, 1, none⟩ = some v1 := h.cell rfl
  have c2 : W.cell? ⟨g, 2, none⟩ = some v2 := h.cell rfl
  have ht' : tmps[2]?.getD undef = .pointer (some ⟨g, 0, none⟩) := by rw [← ht]; simp [Array.getD_eq_getD_getElem?]
  simp [results, Tryz.results80, go_sem, ht', c0, c1, c2]

set_option maxRecDepth 100000 in
set_option maxHeartbeats 8000000 in
theorem whole_any (N : Nat) (X : Rat) (hX : X = qz N) (A : Option Addr) (n c : Nat) (D : Option Addr) (m d : Nat) (w : World) (R : RR w A n c D m d X) (hN : N < 4294967296 ^ 19) : Calls Tryz.prog 80 #[.agg #[.bool (ng X.num), .slice A n c, .slice D m d]] w (RetR (qz (isq N)) w) := by
  have hXs : Rs X 19 := hX ▸ qz_rs hN (by decide)
  have l := R.lens hXs
  by_cases h0 : N = 0
  · have hS : Hid (∀ W, RR W A n c D m d X → Calls Tryz.prog 78 #[.agg #[.bool (ng X.num), .slice A n c, .slice D m d]] W fun e w' => e = .returned (.int .i64 0) ∧ Below W.heap.size W w') := Lib.hid fun W h => by
      have := signQ X A n c D m d W h (hXs.mono (by decide))
      rwa [show X.num.sign = 0 by rw [hX, h0]; rfl] at this
    rw [show qz (isq N) = 0 by rw [h0]; rfl]
    have S := (((((St.new w).read R.n).read R.d).allocAt (w.heap.size) #[.bool (ng X.num), .slice A n c, .slice D m d] 26 (noL3 _ _ _ _ _ _ _) (by simp)).allocAt (w.heap.size + 1) #[.bool false, .slice none 0 0, .slice none 0 0] 26 (noL3 _ _ _ _ _ _ _) (by simp))
    replace S := Lib.hid S
    clear R l hXs hX h0 hN
    go_enter Tryz.func80, Tryz.ntmps80
    go_wp2_with fail
    refine (hS.out _ ⟨S.out.r 1 rfl, S.out.r 0 rfl⟩).mono ?_
    rintro e w1 ⟨rfl, bb⟩
    have T := (S.out.call bb)
    clear bb S
    have S := T
    clear T
    obtain ⟨c_r0, c_r1, c_r2, f_r0, f_r1, f_r2⟩ := S.cf3 0 rfl
    obtain ⟨c_x0, c_x1, c_x2, f_x0, f_x1, f_x2⟩ := S.cf3 1 rfl
    have hz : w.heap.size + 1 < w1.heap.size := S.lt 0 rfl
    replace S := Lib.hid S
    clear hS
    have S : St w _ [(w.heap.size + 1, #[.bool false, .slice none 0 0, .slice none 0 0], 26), (w.heap.size, #[.bool (ng X.num), .slice A n c, .slice D m d], 26)] [(D, m, d, dn X), (A, n, c, limbs X.num.natAbs)] := (((S.out.set 0 0 (.bool false) rfl (by nofun)).set 0 1 (.slice none 0 0) rfl (by nofun)).set 0 2 (.slice none 0 0) rfl (by nofun))
    replace S := Lib.hid S
    go_wp2
    refine bodyPost_ret (res_whole _ _ (w.heap.size + 1) 26 rfl (S.out.bk _ (List.mem_of_getElem? (i := 0) rfl)).1) rfl ?_
    exact ⟨_, _, _, _, _, _, rfl, zero_RR _ _ _ _ _, S.out.bel⟩
  · have hpos : 0 < N := Nat.pos_of_ne_zero h0
    have hsg : (X.num.sign == 0) = false := by rw [hX, beq_eq_false_iff_ne]; intro h; have := Int.sign_eq_zero_iff_zero.1 h; rw [qz_num] at this; omega
    have hS : Hid (∀ W, RR W A n c D m d X → Calls Tryz.prog 78 #[.agg #[.bool (ng X.num), .slice A n c, .slice D m d]] W fun e w' => e = .returned (.int .i64 X.num.sign) ∧ Below W.heap.size W w') := Lib.hid fun W h => signQ X A n c D m d W h (hXs.mono (by decide))
    have hB : Hid (∀ W, RR W A n c D m d X → Calls Tryz.prog 118 #[.agg #[.bool (ng X.num), .slice A n c, .slice D m d]] W fun e w' => ∃ B : Nat, e = .returned (.int .i64 B) ∧ isq N ≤ 2 ^ ((B + 1) / 2) ∧ B ≤ 32 * n ∧ Below W.heap.size W w') := Lib.hid fun W h => bitLength_any _ A n c N D m d W (by have := h.n; rwa [hX, qz_abs] at this) hpos (by omega)
    have hD : Hid (∀ r : Nat, 0 < r → r < 4294967296 ^ 20 → ∀ W A' n' c' D' m' d', RR W A n c D m d X → RR W A' n' c' D' m' d' (qz r) → Calls Tryz.prog 72 #[.agg #[.bool (ng X.num), .slice A n c, .slice D m d], .agg #[.bool (ng (qz r).num), .slice A' n' c', .slice D' m' d']] W (RetRE (X / qz r) (.int .i64 0) W)) := Lib.hid fun r hr hr' W A' n' c' D' m' d' h1 h2 => by
      have := divQ X (qz r) A n c D m d A' n' c' D' m' d' W h1 h2 (hXs.mono (by decide)) ((qz_rs hr' (by decide)).mono (by decide))
      rwa [show dvE (qz r) = 0 from if_neg (fun h => by have := qz_le.1 (show qz r ≤ qz 0 by rw [show qz r = qz 0 from h]; exact Rat.le_refl); omega)] at this
    have hQs : Hid (∀ r : Nat, r < 4294967296 ^ 20 → Rs (X / qz r) 39) := Lib.hid fun r hr => by rw [div_eq]; exact hXs.mul ((qz_rs hr (by decide)).inv (by decide))
    have hle : n ≤ 19 := l.1
    generalize X.num.sign = sgx at *
    replace hN := Lib.hid hN
    replace hpos := Lib.hid hpos
    replace hX := Lib.hid hX
    replace hXs := Lib.hid hXs
    clear h0 l
    have S := (((((St.new w).read R.n).read R.d).allocAt (w.heap.size) #[.bool (ng X.num), .slice A n c, .slice D m d] 26 (noL3 _ _ _ _ _ _ _) (by simp)).allocAt (w.heap.size + 1) #[.bool false, .slice none 0 0, .slice none 0 0] 26 (noL3 _ _ _ _ _ _ _) (by simp))
    replace S := Lib.hid S
    clear R
    replace hle := Lib.hid hle
    go_enter Tryz.func80, Tryz.ntmps80
    go_wp2_with fail
    refine (hS.out _ ⟨S.out.r 1 rfl, S.out.r 0 rfl⟩).mono ?_
    rintro e w1 ⟨rfl, bb⟩
    have T := (S.out.call bb)
    clear bb S
    have S := T
    clear T
    obtain ⟨c_r0, c_r1, c_r2, f_r0, f_r1, f_r2⟩ := S.cf3 0 rfl
    obtain ⟨c_x0, c_x1, c_x2, f_x0, f_x1, f_x2⟩ := S.cf3 1 rfl
    have hz : w.heap.size + 1 < w1.heap.size := S.lt 0 rfl
    replace S := Lib.hid S
    clear hS
    go_wp2_with fail
    refine (hB.out _ ⟨S.out.r 1 rfl, S.out.r 0 rfl⟩).mono ?_
    rintro e w2 ⟨B, rfl, hst, hbd, bb⟩
    have T := (S.out.call bb)
    clear bb S c_r0 f_r0 c_r1 f_r1 c_r2 f_r2 c_x0 f_x0 c_x1 f_x1 c_x2 f_x2 hz
    have S := T
    clear T
    obtain ⟨c_r0, c_r1, c_r2, f_r0, f_r1, f_r2⟩ := S.cf3 0 rfl
    obtain ⟨c_x0, c_x1, c_x2, f_x0, f_x1, f_x2⟩ := S.cf3 1 rfl
    have hz : w.heap.size + 1 < w2.heap.size := S.lt 0 rfl
    replace S := Lib.hid S
    clear hB hsg
    have hbd' : B ≤ 608 := by have := hle.out; omega
    have hr0 : Hid (2 ^ ((B + 1) / 2) < 4294967296 ^ 20) := Lib.hid (p2_lt (by omega))
    have hw1 : IntKind.i64.wrap ((B : Int) + 1) = (B : Int) + 1 := IntWalk.i64_in _ (by omega)
    have hw2 : wrap64 (((B : Int) + 1).tdiv 2) = (((B + 1) / 2 : Nat) : Int) := by rw [Int.tdiv_eq_ediv_of_nonneg (by omega)]; unfold wrap64; omega
    have hP : Hid (∀ W, Calls Tryz.prog 70 #[.int .i64 (((B + 1) / 2 : Nat) : Int)] W (RetR (qz (2 ^ ((B + 1) / 2))) W)) := Lib.hid fun W => pow2_pos ((B + 1) / 2) W (by omega)
    have hp0 := Lib.hid (show 0 < 2 ^ ((B + 1) / 2) from Nat.pow_pos (by decide))
    generalize 2 ^ ((B + 1) / 2) = r0 at *
    generalize (B + 1) / 2 = e2 at *
    replace hst := Lib.hid hst
    clear hbd hbd'
    go_wp2_with fail
    refine (hP.out _).mono ?_
    rintro e w3 ⟨A2, n2, c2, D2, m2, d2, rfl, Q2, bb⟩
    have T := (((S.out.call bb).read Q2.n).read Q2.d)
    clear bb S c_r0 f_r0 c_r1 f_r1 c_r2 f_r2 c_x0 f_x0 c_x1 f_x1 c_x2 f_x2 hz
    have S := T
    clear T
    obtain ⟨c_r0, c_r1, c_r2, f_r0, f_r1, f_r2⟩ := S.cf3 0 rfl
    obtain ⟨c_x0, c_x1, c_x2, f_x0, f_x1, f_x2⟩ := S.cf3 1 rfl
    have hz : w.heap.size + 1 < w3.heap.size := S.lt 0 rfl
    replace S := Lib.hid S
    clear Q2 hP
    have S := (S.out.allocAt (w3.heap.size) #[.bool (ng ((qz r0)).num), .slice A2 n2 c2, .slice D2 m2 d2] 26 (noL3 _ _ _ _ _ _ _) (by simp))
    replace S := Lib.hid S
    go_wp2
    go_loopg [] r0 (fun r wr => ∃ (A2 : Option Addr) (n2 c2 : Nat) (D2 : Option Addr) (m2 d2 : Nat), 0 < r ∧ r ≤ r0 ∧ isq N ≤ r ∧ St w wr [(w3.heap.size, #[.bool (ng (qz r).num), .slice A2 n2 c2, .slice D2 m2 d2], 26), (w.heap.size + 1, #[.bool false, .slice none 0 0, .slice none 0 0], 26), (w.heap.size, #[.bool (ng X.num), .slice A n c, .slice D m d], 26)] [(D2, m2, d2, dn (qz r)), (A2, n2, c2, limbs (qz r).num.natAbs), (D, m, d, dn X), (A, n, c, limbs X.num.natAbs)])
    case atStart => exact ⟨_, _, _, _, _, _, hp0.out, Nat.le_refl _, hst.out, S.out⟩
    case round =>
      clear S hp0 hst
      obtain ⟨A2, n2, c2, D2, m2, d2, hr, hrr, hsr, S⟩ := hrel
      have hlt : gk < 4294967296 ^ 20 := Nat.lt_of_le_of_lt hrr hr0.out
      have hN20 : N < 4294967296 ^ 20 := Nat.lt_of_lt_of_le hN.out (pow_mono (by decide))
      have hD' := Lib.hid (hD.out gk hr hlt)
      have hQ39 := Lib.hid (hQs.out gk hlt)
      have hR20 : Hid (Rs (qz gk) 20) := Lib.hid (qz_rs hlt (by decide))
      have hfl : Hid (((qz gk + X / qz gk) * (qz 2)⁻¹).floor = (((gk + N / gk) / 2 : Nat) : Int)) := Lib.hid (by rw [hX.out]; exact newton_floor hr)
      have hge := Lib.hid (newton_ge (x := N) hr)
      have hstop := Lib.hid (fun h => newton_stop (x := N) hr hsr h)
      have hip := Lib.hid (isq_pos (x := N) hpos.out)
      have hm21 : (gk + N / gk) / 2 < 4294967296 ^ 20 := by have := Nat.div_le_self N gk; generalize 4294967296 ^ 20 = P at *; omega
      have hY20 : Hid (Rs (qz ((gk + N / gk) / 2)) 20) := Lib.hid (qz_rs hm21 (by decide))
      have hcm : cmpq (qz ((gk + N / gk) / 2)) (qz gk) < 0 ↔ (gk + N / gk) / 2 < gk := qz_cmp _ _
      have hH1 : Hid (Rs (qz 2)⁻¹ 1) := Lib.hid ((qz_rs (N := 2) (p := 1) (by decide) (by decide)).inv (by decide))
      have hPw : Hid (∀ W, Calls Tryz.prog 70 #[.int .i64 (-1)] W (RetR (qz 2)⁻¹ W)) := Lib.hid fun W => pow2_neg 1 W (by decide) (by decide)
      clear hlt hN20 hm21 hD hQs
      generalize (gk + N / gk) / 2 = mm at *
      obtain ⟨Y, hY⟩ : ∃ Y, qz mm = Y := ⟨_, rfl⟩
      have hYd : Hid (∀ W, Rd W none 0 0 (dn Y)) := Lib.hid fun W => by rw [← hY]; exact Rd.nil_ _ _ _
      have hfl2 : Hid ((mm : Int) = Y.num) := Lib.hid (by rw [← hY]; rfl)
      rw [hY] at hY20 hcm
      obtain ⟨R, hR⟩ : ∃ R, qz gk = R := ⟨_, rfl⟩
      rw [hR] at S hD' hQ39 hR20 hfl hcm
      obtain ⟨Q, hQ⟩ : ∃ Q, X / R = Q := ⟨_, rfl⟩
      rw [hQ] at hD' hQ39 hfl
      clear hQ
      have hT60 := Lib.hid (hR20.out.add hQ39.out)
      have hAd : Hid (∀ W A0 n0 c0 D0 m0 d0 A1 n1 c1 D1 m1 d1, RR W A0 n0 c0 D0 m0 d0 R → RR W A1 n1 c1 D1 m1 d1 Q → Calls Tryz.prog 69 #[.agg #[.bool (ng R.num), .slice A0 n0 c0, .slice D0 m0 d0], .agg #[.bool (ng Q.num), .slice A1 n1 c1, .slice D1 m1 d1]] W (RetR (R + Q) W)) := Lib.hid fun W A0 n0 c0 D0 m0 d0 A1 n1 c1 D1 m1 d1 X0 X1 => addQ R Q A0 n0 c0 D0 m0 d0 A1 n1 c1 D1 m1 d1 W X0 X1 (hR20.out.mono (by decide)) (hQ39.out.mono (by decide))
      obtain ⟨H, hH⟩ : ∃ H, (qz 2)⁻¹ = H := ⟨_, rfl⟩
      rw [hH] at hPw hH1 hfl
      clear hH
      obtain ⟨T, hT⟩ : ∃ T, R + Q = T := ⟨_, rfl⟩
      rw [hT] at hAd hT60 hfl
      clear hT
      have hMu : Hid (∀ W A0 n0 c0 D0 m0 d0 A1 n1 c1 D1 m1 d1, RR W A0 n0 c0 D0 m0 d0 T → RR W A1 n1 c1 D1 m1 d1 H → Calls Tryz.prog 68 #[.agg #[.bool (ng T.num), .slice A0 n0 c0, .slice D0 m0 d0], .agg #[.bool (ng H.num), .slice A1 n1 c1, .slice D1 m1 d1]] W (RetR (T * H) W)) := Lib.hid fun W A0 n0 c0 D0 m0 d0 A1 n1 c1 D1 m1 d1 X0 X1 => mulQ T H A0 n0 c0 D0 m0 d0 A1 n1 c1 D1 m1 d1 W X0 X1 (hT60.out.mono (by decide)) (hH1.out.mono (by decide))
      have hM61 := Lib.hid (hT60.out.mul hH1.out)
      obtain ⟨M, hM⟩ : ∃ M, T * H = M := ⟨_, rfl⟩
      rw [hM] at hMu hM61 hfl
      clear hM
      have hFl : Hid (∀ W A0 n0 c0 D0 m0 d0, RR W A0 n0 c0 D0 m0 d0 M → Calls Tryz.prog 79 #[.agg #[.bool (ng M.num), .slice A0 n0 c0, .slice D0 m0 d0]] W (fun e w' => ∃ A n c, e = .returned (.agg #[.bool (ng Y.num), .slice A n c]) ∧ Rd w' A n c (limbs Y.num.natAbs) ∧ Below W.heap.size W w')) := Lib.hid fun W A0 n0 c0 D0 m0 d0 X0 => by
        have := floorQ M A0 n0 c0 D0 m0 d0 W X0 (hM61.out.mono (by decide))
        rw [hfl.out, hfl2.out] at this; exact this
      have hCm : Hid (∀ W A0 n0 c0 D0 m0 d0 A1 n1 c1 D1 m1 d1, RR W A0 n0 c0 D0 m0 d0 Y → RR W A1 n1 c1 D1 m1 d1 R → Calls Tryz.prog 63 #[.agg #[.bool (ng Y.num), .slice A0 n0 c0, .slice D0 m0 d0], .agg #[.bool (ng R.num), .slice A1 n1 c1, .slice D1 m1 d1]] W (fun e w' => e = .returned (.int .i64 (cmpq Y R)) ∧ Below W.heap.size W w')) := Lib.hid fun W A0 n0 c0 D0 m0 d0 A1 n1 c1 D1 m1 d1 X0 X1 => compareQ Y R A0 n0 c0 D0 m0 d0 A1 n1 c1 D1 m1 d1 W X0 X1 (hY20.out.mono (by decide)) (hR20.out.mono (by decide))
      generalize cmpq Y R = cc at *
      replace hR := Lib.hid hR
      replace hY := Lib.hid hY
      replace hr := Lib.hid hr
      replace hrr := Lib.hid hrr
      replace hsr := Lib.hid hsr
      clear hfl hfl2 hQ39 hR20 hT60 hM61 hH1 hY20 hX hXs hpos hN hle hr0
      by_cases hlt : mm < gk
      · have hcc : decide (0 ≤ cc) = false := decide_eq_false (by have := hcm.2 hlt; omega)
        replace hlt := Lib.hid hlt
        clear hcm hstop
        obtain ⟨c_t0, c_t1, c_t2, f_t0, f_t1, f_t2⟩ := S.cf3 0 rfl
        obtain ⟨c_r0, c_r1, c_r2, f_r0, f_r1, f_r2⟩ := S.cf3 1 rfl
        obtain ⟨c_x0, c_x1, c_x2, f_x0, f_x1, f_x2⟩ := S.cf3 2 rfl
        have hz : w3.heap.size < wr.heap.size := S.lt 0 rfl
        replace S := Lib.hid S
        go_wp2_with fail
        refine (hD'.out _ _ _ _ _ _ _ ⟨S.out.r 3 rfl, S.out.r 2 rfl⟩ ⟨S.out.r 1 rfl, S.out.r 0 rfl⟩).mono ?_
        rintro e w4 ⟨A7, n7, c7, D7, m7, d7, rfl, Q7, bb⟩
        have T := (((S.out.call bb).read Q7.n).read Q7.d)
        clear bb S c_t0 f_t0 c_t1 f_t1 c_t2 f_t2 c_r0 f_r0 c_r1 f_r1 c_r2 f_r2 c_x0 f_x0 c_x1 f_x1 c_x2 f_x2 hz
        have S := T
        clear T
        obtain ⟨c_t0, c_t1, c_t2, f_t0, f_t1, f_t2⟩ := S.cf3 0 rfl
        obtain ⟨c_r0, c_r1, c_r2, f_r0, f_r1, f_r2⟩ := S.cf3 1 rfl
        obtain ⟨c_x0, c_x1, c_x2, f_x0, f_x1, f_x2⟩ := S.cf3 2 rfl
        have hz : w3.heap.size < w4.heap.size := S.lt 0 rfl
        replace S := Lib.hid S
        clear Q7
        have S := (S.out.allocAt (w4.heap.size) #[.bool (ng Q.num), .slice A7 n7 c7, .slice D7 m7 d7] 26 (noL3 _ _ _ _ _ _ _) (by simp))
        obtain ⟨a_t0, a_t1, a_t2, b_t0, b_t1, b_t2⟩ := S.cf3 1 rfl
        replace S := Lib.hid S
        go_wp2_with fail
        refine (hAd.out _ _ _ _ _ _ _ _ _ _ _ _ _ ⟨S.out.r 3 rfl, S.out.r 2 rfl⟩ ⟨S.out.r 1 rfl, S.out.r 0 rfl⟩).mono ?_
        rintro e w5 ⟨A8, n8, c8, D8, m8, d8, rfl, Q8, bb⟩
        have T := (((S.out.call bb).read Q8.n).read Q8.d)
        clear bb S c_t0 f_t0 c_t1 f_t1 c_t2 f_t2 c_r0 f_r0 c_r1 f_r1 c_r2 f_r2 c_x0 f_x0 c_x1 f_x1 c_x2 f_x2 hz a_t0 b_t0 a_t1 b_t1 a_t2 b_t2
        have S := T
        clear T
        obtain ⟨c_q0, c_q1, c_q2, f_q0, f_q1, f_q2⟩ := S.cf3 0 rfl
        obtain ⟨c_t0, c_t1, c_t2, f_t0, f_t1, f_t2⟩ := S.cf3 1 rfl
        obtain ⟨c_r0, c_r1, c_r2, f_r0, f_r1, f_r2⟩ := S.cf3 2 rfl
        obtain ⟨c_x0, c_x1, c_x2, f_x0, f_x1, f_x2⟩ := S.cf3 3 rfl
        have hz : w4.heap.size < w5.heap.size := S.lt 0 rfl
        replace S := Lib.hid S
        clear Q8
        go_wp2_with fail
        refine (hPw.out _).mono ?_
        rintro e w6 ⟨A9, n9, c9, D9, m9, d9, rfl, Q9, bb⟩
        have T := (((S.out.call bb).read Q9.n).read Q9.d)
        clear bb S c_q0 f_q0 c_q1 f_q1 c_q2 f_q2 c_t0 f_t0 c_t1 f_t1 c_t2 f_t2 c_r0 f_r0 c_r1 f_r1 c_r2 f_r2 c_x0 f_x0 c_x1 f_x1 c_x2 f_x2 hz
        have S := T
        clear T
        obtain ⟨c_q0, c_q1, c_q2, f_q0, f_q1, f_q2⟩ := S.cf3 0 rfl
        obtain ⟨c_t0, c_t1, c_t2, f_t0, f_t1, f_t2⟩ := S.cf3 1 rfl
        obtain ⟨c_r0, c_r1, c_r2, f_r0, f_r1, f_r2⟩ := S.cf3 2 rfl
        obtain ⟨c_x0, c_x1, c_x2, f_x0, f_x1, f_x2⟩ := S.cf3 3 rfl
        have hz : w4.heap.size < w6.heap.size := S.lt 0 rfl
        replace S := Lib.hid S
        clear Q9
        go_wp2_with fail
        refine (hMu.out _ _ _ _ _ _ _ _ _ _ _ _ _ ⟨S.out.r 3 rfl, S.out.r 2 rfl⟩ ⟨S.out.r 1 rfl, S.out.r 0 rfl⟩).mono ?_
        rintro e w7 ⟨A10, n10, c10, D10, m10, d10, rfl, Q10, bb⟩
        have T := (((S.out.call bb).read Q10.n).read Q10.d)
        clear bb S c_q0 f_q0 c_q1 f_q1 c_q2 f_q2 c_t0 f_t0 c_t1 f_t1 c_t2 f_t2 c_r0 f_r0 c_r1 f_r1 c_r2 f_r2 c_x0 f_x0 c_x1 f_x1 c_x2 f_x2 hz
        have S := T
        clear T
        obtain ⟨c_q0, c_q1, c_q2, f_q0, f_q1, f_q2⟩ := S.cf3 0 rfl
        obtain ⟨c_t0, c_t1, c_t2, f_t0, f_t1, f_t2⟩ := S.cf3 1 rfl
        obtain ⟨c_r0, c_r1, c_r2, f_r0, f_r1, f_r2⟩ := S.cf3 2 rfl
        obtain ⟨c_x0, c_x1, c_x2, f_x0, f_x1, f_x2⟩ := S.cf3 3 rfl
        have hz : w4.heap.size < w7.heap.size := S.lt 0 rfl
        replace S := Lib.hid S
        clear Q10
        have S := (S.out.allocAt (w7.heap.size) #[.bool (ng M.num), .slice A10 n10 c10, .slice D10 m10 d10] 26 (noL3 _ _ _ _ _ _ _) (by simp))
        replace S := Lib.hid S
        go_wp2_with fail
        refine (hFl.out _ _ _ _ _ _ _ ⟨S.out.r 1 rfl, S.out.r 0 rfl⟩).mono ?_
        rintro e w8 ⟨A11, n11, c11, rfl, Q11, bb⟩
        have T := ((S.out.call bb).read Q11)
        clear bb S c_q0 f_q0 c_q1 f_q1 c_q2 f_q2 c_t0 f_t0 c_t1 f_t1 c_t2 f_t2 c_r0 f_r0 c_r1 f_r1 c_r2 f_r2 c_x0 f_x0 c_x1 f_x1 c_x2 f_x2 hz
        have S := T
        clear T
        obtain ⟨c_mi0, c_mi1, c_mi2, f_mi0, f_mi1, f_mi2⟩ := S.cf3 0 rfl
        obtain ⟨c_q0, c_q1, c_q2, f_q0, f_q1, f_q2⟩ := S.cf3 1 rfl
        obtain ⟨c_t0, c_t1, c_t2, f_t0, f_t1, f_t2⟩ := S.cf3 2 rfl
        obtain ⟨c_r0, c_r1, c_r2, f_r0, f_r1, f_r2⟩ := S.cf3 3 rfl
        obtain ⟨c_x0, c_x1, c_x2, f_x0, f_x1, f_x2⟩ := S.cf3 4 rfl
        have hz : w7.heap.size < w8.heap.size := S.lt 0 rfl
        replace S := Lib.hid S
        clear Q11
        have S := ((S.out.read (hYd.out _)).allocAt (w8.heap.size) #[.bool (ng Y.num), .slice A11 n11 c11, .slice none 0 0] 26 (noL3 _ _ _ _ _ _ _) (by simp))
        obtain ⟨a_t0, a_t1, a_t2, b_t0, b_t1, b_t2⟩ := S.cf3 3 rfl
        replace S := Lib.hid S
        go_wp2_with fail
        refine (hCm.out _ _ _ _ _ _ _ _ _ _ _ _ _ ⟨S.out.r 1 rfl, S.out.r 0 rfl⟩ ⟨S.out.r 11 rfl, S.out.r 10 rfl⟩).mono ?_
        rintro e w9 ⟨rfl, bb⟩
        have T := (S.out.call bb)
        clear bb S c_mi0 f_mi0 c_mi1 f_mi1 c_mi2 f_mi2 c_q0 f_q0 c_q1 f_q1 c_q2 f_q2 c_t0 f_t0 c_t1 f_t1 c_t2 f_t2 c_r0 f_r0 c_r1 f_r1 c_r2 f_r2 c_x0 f_x0 c_x1 f_x1 c_x2 f_x2 hz a_t0 b_t0 a_t1 b_t1 a_t2 b_t2
        have S := T
        clear T
        obtain ⟨c_nx0, c_nx1, c_nx2, f_nx0, f_nx1, f_nx2⟩ := S.cf3 0 rfl
        obtain ⟨c_mi0, c_mi1, c_mi2, f_mi0, f_mi1, f_mi2⟩ := S.cf3 1 rfl
        obtain ⟨c_q0, c_q1, c_q2, f_q0, f_q1, f_q2⟩ := S.cf3 2 rfl
        obtain ⟨c_t0, c_t1, c_t2, f_t0, f_t1, f_t2⟩ := S.cf3 3 rfl
        obtain ⟨c_r0, c_r1, c_r2, f_r0, f_r1, f_r2⟩ := S.cf3 4 rfl
        obtain ⟨c_x0, c_x1, c_x2, f_x0, f_x1, f_x2⟩ := S.cf3 5 rfl
        have hz : w8.heap.size < w9.heap.size := S.lt 0 rfl
        replace S := Lib.hid S
        clear hCm hFl hMu hPw hAd hD'
        have S : St w _ [(w8.heap.size, #[.bool (ng Y.num), .slice A11 n11 c11, .slice none 0 0], 26), (w7.heap.size, #[.bool (ng M.num), .slice A10 n10 c10, .slice D10 m10 d10], 26), (w4.heap.size, #[.bool (ng Q.num), .slice A7 n7 c7, .slice D7 m7 d7], 26), (w3.heap.size, #[.bool (ng Y.num), .slice A11 n11 c11, .slice none 0 0], 26), (w.heap.size + 1, #[.bool false, .slice none 0 0, .slice none 0 0], 26), (w.heap.size, #[.bool (ng X.num), .slice A n c, .slice D m d], 26)] [(none, 0, 0, dn Y), (A11, n11, c11, limbs Y.num.natAbs), (D10, m10, d10, dn M), (A10, n10, c10, limbs M.num.natAbs), (D9, m9, d9, dn H), (A9, n9, c9, limbs H.num.natAbs), (D8, m8, d8, dn T), (A8, n8, c8, limbs T.num.natAbs), (D7, m7, d7, dn Q), (A7, n7, c7, limbs Q.num.natAbs), (D2, m2, d2, dn R), (A2, n2, c2, limbs R.num.natAbs), (D, m, d, dn X), (A, n, c, limbs X.num.natAbs)] := (((S.out.set 3 0 (.bool (ng Y.num)) rfl (by nofun)).set 3 1 (.slice A11 n11 c11) rfl (by nofun)).set 3 2 (.slice none 0 0) rfl (by nofun))
        replace S := Lib.hid S
        go_wp2
        go_roundg mm
        case measure => exact hlt.out
        case rel => exact ⟨A11, n11, c11, none, 0, 0, by have := hip.out; have := hge.out; omega, by have := hlt.out; have := hrr.out; omega, hge.out, by rw [hY.out]; exact S.out.pick [3, 4, 5] [0, 1, 12, 13] rfl (by decide) rfl⟩
      · have hcc : decide (0 ≤ cc) = true := decide_eq_true (Int.not_lt.1 fun h => hlt (hcm.1 h))
        have hfin : Hid (R = qz (isq N)) := Lib.hid (by rw [hstop.out (by omega)]; exact hR.out.symm)
        clear hlt hcm hstop hge
        obtain ⟨c_t0, c_t1, c_t2, f_t0, f_t1, f_t2⟩ := S.cf3 0 rfl
        obtain ⟨c_r0, c_r1, c_r2, f_r0, f_r1, f_r2⟩ := S.cf3 1 rfl
        obtain ⟨c_x0, c_x1, c_x2, f_x0, f_x1, f_x2⟩ := S.cf3 2 rfl
        have hz : w3.heap.size < wr.heap.size := S.lt 0 rfl
        replace S := Lib.hid S
        go_wp2_with fail
        refine (hD'.out _ _ _ _ _ _ _ ⟨S.out.r 3 rfl, S.out.r 2 rfl⟩ ⟨S.out.r 1 rfl, S.out.r 0 rfl⟩).mono ?_
        rintro e w4 ⟨A7, n7, c7, D7, m7, d7, rfl, Q7, bb⟩
        have T := (((S.out.call bb).read Q7.n).read Q7.d)
        clear bb S c_t0 f_t0 c_t1 f_t1 c_t2 f_t2 c_r0 f_r0 c_r1 f_r1 c_r2 f_r2 c_x0 f_x0 c_x1 f_x1 c_x2 f_x2 hz
        have S := T
        clear T
        obtain ⟨c_t0, c_t1, c_t2, f_t0, f_t1, f_t2⟩ := S.cf3 0 rfl
        obtain ⟨c_r0, c_r1, c_r2, f_r0, f_r1, f_r2⟩ := S.cf3 1 rfl
        obtain ⟨c_x0, c_x1, c_x2, f_x0, f_x1, f_x2⟩ := S.cf3 2 rfl
        have hz : w3.heap.size < w4.heap.size := S.lt 0 rfl
        replace S := Lib.hid S
        clear Q7
        have S := (S.out.allocAt (w4.heap.size) #[.bool (ng Q.num), .slice A7 n7 c7, .slice D7 m7 d7] 26 (noL3 _ _ _ _ _ _ _) (by simp))
        obtain ⟨a_t0, a_t1, a_t2, b_t0, b_t1, b_t2⟩ := S.cf3 1 rfl
        replace S := Lib.hid S
        go_wp2_with fail
        refine (hAd.out _ _ _ _ _ _ _ _ _ _ _ _ _ ⟨S.out.r 3 rfl, S.out.r 2 rfl⟩ ⟨S.out.r 1 rfl, S.out.r 0 rfl⟩).mono ?_
        rintro e w5 ⟨A8, n8, c8, D8, m8, d8, rfl, Q8, bb⟩
        have T := (((S.out.call bb).read Q8.n).read Q8.d)
        clear bb S c_t0 f_t0 c_t1 f_t1 c_t2 f_t2 c_r0 f_r0 c_r1 f_r1 c_r2 f_r2 c_x0 f_x0 c_x1 f_x1 c_x2 f_x2 hz a_t0 b_t0 a_t1 b_t1 a_t2 b_t2
        have S := T
        clear T
        obtain ⟨c_q0, c_q1, c_q2, f_q0, f_q1, f_q2⟩ := S.cf3 0 rfl
        obtain ⟨c_t0, c_t1, c_t2, f_t0, f_t1, f_t2⟩ := S.cf3 1 rfl
        obtain ⟨c_r0, c_r1, c_r2, f_r0, f_r1, f_r2⟩ := S.cf3 2 rfl
        obtain ⟨c_x0, c_x1, c_x2, f_x0, f_x1, f_x2⟩ := S.cf3 3 rfl
        have hz : w4.heap.size < w5.heap.size := S.lt 0 rfl
        replace S := Lib.hid S
        clear Q8
        go_wp2_with fail
        refine (hPw.out _).mono ?_
        rintro e w6 ⟨A9, n9, c9, D9, m9, d9, rfl, Q9, bb⟩
        have T := (((S.out.call bb).read Q9.n).read Q9.d)
        clear bb S c_q0 f_q0 c_q1 f_q1 c_q2 f_q2 c_t0 f_t0 c_t1 f_t1 c_t2 f_t2 c_r0 f_r0 c_r1 f_r1 c_r2 f_r2 c_x0 f_x0 c_x1 f_x1 c_x2 f_x2 hz
        have S := T
        clear T
        obtain ⟨c_q0, c_q1, c_q2, f_q0, f_q1, f_q2⟩ := S.cf3 0 rfl
        obtain ⟨c_t0, c_t1, c_t2, f_t0, f_t1, f_t2⟩ := S.cf3 1 rfl
        obtain ⟨c_r0, c_r1, c_r2, f_r0, f_r1, f_r2⟩ := S.cf3 2 rfl
        obtain ⟨c_x0, c_x1, c_x2, f_x0, f_x1, f_x2⟩ := S.cf3 3 rfl
        have hz : w4.heap.size < w6.heap.size := S.lt 0 rfl
        replace S := Lib.hid S
        clear Q9
        go_wp2_with fail
        refine (hMu.out _ _ _ _ _ _ _ _ _ _ _ _ _ ⟨S.out.r 3 rfl, S.out.r 2 rfl⟩ ⟨S.out.r 1 rfl, S.out.r 0 rfl⟩).mono ?_
        rintro e w7 ⟨A10, n10, c10, D10, m10, d10, rfl, Q10, bb⟩
        have T := (((S.out.call bb).read Q10.n).read Q10.d)
        clear bb S c_q0 f_q0 c_q1 f_q1 c_q2 f_q2 c_t0 f_t0 c_t1 f_t1 c_t2 f_t2 c_r0 f_r0 c_r1 f_r1 c_r2 f_r2 c_x0 f_x0 c_x1 f_x1 c_x2 f_x2 hz
        have S := T
        clear T
        obtain ⟨c_q0, c_q1, c_q2, f_q0, f_q1, f_q2⟩ := S.cf3 0 rfl
        obtain ⟨c_t0, c_t1, c_t2, f_t0, f_t1, f_t2⟩ := S.cf3 1 rfl
        obtain ⟨c_r0, c_r1, c_r2, f_r0, f_r1, f_r2⟩ := S.cf3 2 rfl
        obtain ⟨c_x0, c_x1, c_x2, f_x0, f_x1, f_x2⟩ := S.cf3 3 rfl
        have hz : w4.heap.size < w7.heap.size := S.lt 0 rfl
        replace S := Lib.hid S
        clear Q10
        have S := (S.out.allocAt (w7.heap.size) #[.bool (ng M.num), .slice A10 n10 c10, .slice D10 m10 d10] 26 (noL3 _ _ _ _ _ _ _) (by simp))
        replace S := Lib.hid S
        go_wp2_with fail
        refine (hFl.out _ _ _ _ _ _ _ ⟨S.out.r 1 rfl, S.out.r 0 rfl⟩).mono ?_
        rintro e w8 ⟨A11, n11, c11, rfl, Q11, bb⟩
        have T := ((S.out.call bb).read Q11)
        clear bb S c_q0 f_q0 c_q1 f_q1 c_q2 f_q2 c_t0 f_t0 c_t1 f_t1 c_t2 f_t2 c_r0 f_r0 c_r1 f_r1 c_r2 f_r2 c_x0 f_x0 c_x1 f_x1 c_x2 f_x2 hz
        have S := T
        clear T
        obtain ⟨c_mi0, c_mi1, c_mi2, f_mi0, f_mi1, f_mi2⟩ := S.cf3 0 rfl
        obtain ⟨c_q0, c_q1, c_q2, f_q0, f_q1, f_q2⟩ := S.cf3 1 rfl
        obtain ⟨c_t0, c_t1, c_t2, f_t0, f_t1, f_t2⟩ := S.cf3 2 rfl
        obtain ⟨c_r0, c_r1, c_r2, f_r0, f_r1, f_r2⟩ := S.cf3 3 rfl
        obtain ⟨c_x0, c_x1, c_x2, f_x0, f_x1, f_x2⟩ := S.cf3 4 rfl
        have hz : w7.heap.size < w8.heap.size := S.lt 0 rfl
        replace S := Lib.hid S
        clear Q11
        have S := ((S.out.read (hYd.out _)).allocAt (w8.heap.size) #[.bool (ng Y.num), .slice A11 n11 c11, .slice none 0 0] 26 (noL3 _ _ _ _ _ _ _) (by simp))
        obtain ⟨a_t0, a_t1, a_t2, b_t0, b_t1, b_t2⟩ := S.cf3 3 rfl
        replace S := Lib.hid S
        go_wp2_with fail
        refine (hCm.out _ _ _ _ _ _ _ _ _ _ _ _ _ ⟨S.out.r 1 rfl, S.out.r 0 rfl⟩ ⟨S.out.r 11 rfl, S.out.r 10 rfl⟩).mono ?_
        rintro e w9 ⟨rfl, bb⟩
        have T := (S.out.call bb)
        clear bb S c_mi0 f_mi0 c_mi1 f_mi1 c_mi2 f_mi2 c_q0 f_q0 c_q1 f_q1 c_q2 f_q2 c_t0 f_t0 c_t1 f_t1 c_t2 f_t2 c_r0 f_r0 c_r1 f_r1 c_r2 f_r2 c_x0 f_x0 c_x1 f_x1 c_x2 f_x2 hz a_t0 b_t0 a_t1 b_t1 a_t2 b_t2
        have S := T
        clear T
        obtain ⟨c_nx0, c_nx1, c_nx2, f_nx0, f_nx1, f_nx2⟩ := S.cf3 0 rfl
        obtain ⟨c_mi0, c_mi1, c_mi2, f_mi0, f_mi1, f_mi2⟩ := S.cf3 1 rfl
        obtain ⟨c_q0, c_q1, c_q2, f_q0, f_q1, f_q2⟩ := S.cf3 2 rfl
        obtain ⟨c_t0, c_t1, c_t2, f_t0, f_t1, f_t2⟩ := S.cf3 3 rfl
        obtain ⟨c_r0, c_r1, c_r2, f_r0, f_r1, f_r2⟩ := S.cf3 4 rfl
        obtain ⟨c_x0, c_x1, c_x2, f_x0, f_x1, f_x2⟩ := S.cf3 5 rfl
        have hz : w8.heap.size < w9.heap.size := S.lt 0 rfl
        replace S := Lib.hid S
        clear hCm hFl hMu hPw hAd hD'
        have S : St w _ [(w8.heap.size, #[.bool (ng Y.num), .slice A11 n11 c11, .slice none 0 0], 26), (w7.heap.size, #[.bool (ng M.num), .slice A10 n10 c10, .slice D10 m10 d10], 26), (w4.heap.size, #[.bool (ng Q.num), .slice A7 n7 c7, .slice D7 m7 d7], 26), (w3.heap.size, #[.bool (ng R.num), .slice A2 n2 c2, .slice D2 m2 d2], 26), (w.heap.size + 1, #[.bool (ng R.num), .slice A2 n2 c2, .slice D2 m2 d2], 26), (w.heap.size, #[.bool (ng X.num), .slice A n c, .slice D m d], 26)] [(none, 0, 0, dn Y), (A11, n11, c11, limbs Y.num.natAbs), (D10, m10, d10, dn M), (A10, n10, c10, limbs M.num.natAbs), (D9, m9, d9, dn H), (A9, n9, c9, limbs H.num.natAbs), (D8, m8, d8, dn T), (A8, n8, c8, limbs T.num.natAbs), (D7, m7, d7, dn Q), (A7, n7, c7, limbs Q.num.natAbs), (D2, m2, d2, dn R), (A2, n2, c2, limbs R.num.natAbs), (D, m, d, dn X), (A, n, c, limbs X.num.natAbs)] := (((S.out.set 4 0 (.bool (ng R.num)) rfl (by nofun)).set 4 1 (.slice A2 n2 c2) rfl (by nofun)).set 4 2 (.slice D2 m2 d2) rfl (by nofun))
        replace S := Lib.hid S
        go_wp2
        refine bodyPost_ret (res_whole _ _ (w.heap.size + 1) 26 rfl (S.out.bk _ (List.mem_of_getElem? (i := 4) rfl)).1) rfl ?_
        exact ⟨_, _, _, _, _, _, by rw [← hfin.out], by rw [← hfin.out]; exact ⟨S.out.r 11 rfl, S.out.r 10 rfl⟩, S.out.bel⟩
end Go.Proofs.YtidhloliahfknaaGreat

namespace Go.Proofs.YtidhloliahfknaaGreat
open Go.RowKit RQ
theorem num_lt0 (q : Rat) : q.num < 0 ↔ q < 0 := by
  rw [Rat.lt_iff, show (0 : Rat).den = 1 from rfl, show (0 : Rat).num = 0 from rfl]; simp
/-- The whole number whose root is taken; the lower end; the unit. -/
def rtN (q : Rat) (k : Nat) : Nat := (q * qz (2 ^ (2 * k))).floor.toNat
def rtU (k : Nat) : Rat := (qz (2 ^ k))⁻¹
def rtLo (q : Rat) (k : Nat) : Rat := qz (isq (rtN q k)) * rtU k
theorem floor_size {x : Rat} {p : Nat} (h : Rs x p) : x.floor.natAbs < 4294967296 ^ p := by
  rw [floor_parts]; exact Nat.lt_of_le_of_lt (natAbs_ediv_le _ _) h.n
theorem rtN_floor {q : Rat} {k : Nat} (h : 0 ≤ q) : (q * qz (2 ^ (2 * k))).floor = (rtN q k : Int) := by
  have h1 : 0 ≤ q * qz (2 ^ (2 * k)) := Rat.mul_nonneg h ((qz_le (a := 0)).2 (Nat.zero_le _))
  have h2 : (0 : Int) ≤ (q * qz (2 ^ (2 * k))).floor := Rat.le_floor_iff.2 h1
  unfold rtN; omega
theorem rtN_lt {q : Rat} {k : Nat} (hq : Rs q 10) (hk : k ≤ 128) : rtN q k < 4294967296 ^ 19 ∧ Rs (q * qz (2 ^ (2 * k))) 19 := by
  have h1 : Rs (q * qz (2 ^ (2 * k))) 19 := hq.mul (qz_rs (p := 9) (p2_lt (by omega)) (by decide))
  have h2 := floor_size h1
  refine ⟨?_, h1⟩
  unfold rtN; omega
theorem rtU_rs {k : Nat} (hk : k ≤ 128) : Rs (rtU k) 5 := (qz_rs (p := 5) (p2_lt (by omega)) (by decide)).inv (by decide)
theorem isq_self (x : Nat) : isq x ≤ x := by
  obtain ⟨a, _⟩ := isq_spec x
  rcases Nat.eq_zero_or_pos (isq x) with h | h
  · omega
  · have := Nat.mul_le_mul_right (isq x) h; omega
theorem rtLo_rs {q : Rat} {k : Nat} (hq : Rs q 10) (hk : k ≤ 128) : Rs (rtLo q k) 24 := (qz_rs (Nat.lt_of_le_of_lt (isq_self _) (rtN_lt hq hk).1) (by decide)).mul (rtU_rs hk)
theorem pow2_minus (k : Nat) (w : World) (hk : k ≤ 1000) : Calls Tryz.prog 70 #[.int .i64 (-(k : Int))] w (RetR (rtU k) w) := by
  rcases Nat.eq_zero_or_pos k with h | h
  · subst h
    have e : rtU 0 = (((2 ^ 0 : Nat) : Int) : Rat) := by decide +kernel
    rw [e]
    exact pow2_pos 0 w (by decide)
  · exact pow2_neg k w h (by omega)
theorem res_root (W : World) (tmps : Array Value) (g t : Nat) {v0 v1 v2 v3 v4 v5 e0 : Value} (ht : tmps.getD 4 undef = .pointer (some ⟨g, 0, none⟩)) (h0 : tmps.getD 5 undef = e0) (h : Cb W g #[v0, v1, v2, v3, v4, v5] t) :
    (results Tryz.f40 tmps).run Tryz.prog W = .ok (.tuple #[.agg #[v0, v1, v2, v3, v4, v5], e0]) W := by
  have c0 : W.cell? ⟨g, 0, none⟩ = some v0 := h.cell rfl
  have c1 : W.cell? ⟨g, 1, none⟩ = some v1 := h.cell rfl
  have c2 : W.cell? ⟨g, 2, none⟩ = some v2 := h.cell rfl
  have c3 : W.cell? ⟨g, 3, none⟩ = some v3 := h.cell rfl
  have c4 : W.cell? ⟨g, 4, none⟩ = some v4 := h.cell rfl
  have c5 : W.cell? ⟨g, 5, none⟩ = some v5 := h.cell rfl
  have ht' : tmps[4]?.getD undef = .pointer (some ⟨g, 0, none⟩) := by rw [← ht]; simp [Array.getD_eq_getD_getElem?]
  have k0 : tmps[5]?.getD undef = e0 := by rw [← h0]; simp [Array.getD_eq_getD_getElem?]
  simp [results, Tryz.results40, go_sem, ht', k0, c0, c1, c2, c3, c4, c5]

set_option maxRecDepth 100000 in
set_option maxHeartbeats 8000000 in
theorem root_yes (b1 : Bool) (A1 : Option Addr) (n1 c1 : Nat) (x1 : List Nat) (D1 : Option Addr) (m1 d1 : Nat) (y1 : List Nat) (q1 : Rat) (k : Nat) (hk : k ≤ 128) (hq : 0 ≤ q1) (hs : Rs q1 10) (hh : rtLo q1 k * rtLo q1 k = q1) (w : World) (X1 : Rw w b1 A1 n1 c1 x1 D1 m1 d1 y1 q1) : Calls Tryz.prog 40 #[.agg #[.bool b1, .slice A1 n1 c1, .slice D1 m1 d1], .int .i64 k] w (RetVE (rtLo q1 k) (rtLo q1 k) (.int .i64 0) w) := by
  obtain ⟨hN, hP19⟩ := rtN_lt (k := k) hs hk
  have hU5 := rtU_rs hk
  have hL24 := rtLo_rs (k := k) hs hk
  have hF9 : Rs (qz (2 ^ (2 * k))) 9 := qz_rs (p2_lt (by omega)) (by decide)
  have hI : Rs (qz (isq (rtN q1 k))) 19 := qz_rs (Nat.lt_of_le_of_lt (isq_self _) hN) (by decide)
  have hS := Lib.hid (fun W h1 => signW b1 A1 n1 c1 x1 D1 m1 d1 y1 q1 W h1)
  have g1 : decide (q1.num.sign < 0) = false := decide_eq_false (fun h' => Rat.not_lt.2 hq ((num_lt0 _).1 (Int.sign_neg_iff.1 h')))
  have g2 : decide ((k : Int) < 0) = false := decide_eq_false (by omega)
  have g3 : decide (128 < (k : Int)) = false := decide_eq_false (by omega)
  have w1 : IntKind.i64.wrap (-(k : Int)) = -(k : Int) := IntWalk.i64_in _ (by omega)
  have w2 : IntKind.i64.wrap (2 * (k : Int)) = 2 * (k : Int) := IntWalk.i64_in _ (by omega)
  have hU : Hid (∀ W, Calls Tryz.prog 70 #[.int .i64 (-(k : Int))] W (RetR (rtU k) W)) := Lib.hid fun W => pow2_minus k W (by omega)
  have hF : Hid (∀ W, Calls Tryz.prog 70 #[.int .i64 (2 * (k : Int))] W (RetR (qz (2 ^ (2 * k))) W)) := Lib.hid fun W => pow2_pos (2 * k) W (by omega)
  have hM1 : Hid (∀ W A n c D m d, Rw W b1 A1 n1 c1 x1 D1 m1 d1 y1 q1 → RR W A n c D m d (qz (2 ^ (2 * k))) → Calls Tryz.prog 68 #[.agg #[.bool b1, .slice A1 n1 c1, .slice D1 m1 d1], .agg #[.bool (ng (qz (2 ^ (2 * k))).num), .slice A n c, .slice D m d]] W (RetR (q1 * qz (2 ^ (2 * k))) W)) := Lib.hid fun W A n c D m d h1 h2 => mulW _ _ _ _ _ _ _ _ _ _ _ _ _ _ _ _ _ _ _ _ W h1 (RR.w h2 (hF9.mono (by decide)))
  have hFl : Hid (∀ W A0 n0 c0 D0 m0 d0, RR W A0 n0 c0 D0 m0 d0 (q1 * qz (2 ^ (2 * k))) → Calls Tryz.prog 79 #[.agg #[.bool (ng (q1 * qz (2 ^ (2 * k))).num), .slice A0 n0 c0, .slice D0 m0 d0]] W (fun e w' => ∃ A n c, e = .returned (.agg #[.bool (ng (qz (rtN q1 k)).num), .slice A n c]) ∧ Rd w' A n c (limbs (qz (rtN q1 k)).num.natAbs) ∧ Below W.heap.size W w')) := Lib.hid fun W A0 n0 c0 D0 m0 d0 X0 => by
    have := floorQ _ A0 n0 c0 D0 m0 d0 W X0 (hP19.mono (by decide))
    rw [rtN_floor hq] at this; exact this
  have hW : Hid (∀ W A0 n0 c0 D0 m0 d0, RR W A0 n0 c0 D0 m0 d0 (qz (rtN q1 k)) → Calls Tryz.prog 80 #[.agg #[.bool (ng (qz (rtN q1 k)).num), .slice A0 n0 c0, .slice D0 m0 d0]] W (RetR (qz (isq (rtN q1 k))) W)) := Lib.hid fun W A0 n0 c0 D0 m0 d0 X0 => whole_any (rtN q1 k) _ rfl A0 n0 c0 D0 m0 d0 W X0 hN
  have hM2 : Hid (∀ W A0 n0 c0 D0 m0 d0 A1 n1 c1 D1 m1 d1, RR W A0 n0 c0 D0 m0 d0 (qz (isq (rtN q1 k))) → RR W A1 n1 c1 D1 m1 d1 (rtU k) → Calls Tryz.prog 68 #[.agg #[.bool (ng (qz (isq (rtN q1 k))).num), .slice A0 n0 c0, .slice D0 m0 d0], .agg #[.bool (ng (rtU k).num), .slice A1 n1 c1, .slice D1 m1 d1]] W (RetR (rtLo q1 k) W)) := Lib.hid fun W A0 n0 c0 D0 m0 d0 A1 n1 c1 D1 m1 d1 X0 X1 => mulQ _ _ A0 n0 c0 D0 m0 d0 A1 n1 c1 D1 m1 d1 W X0 X1 (hI.mono (by decide)) (hU5.mono (by decide))
  have hM3 : Hid (∀ W A0 n0 c0 D0 m0 d0 A1 n1 c1 D1 m1 d1, RR W A0 n0 c0 D0 m0 d0 (rtLo q1 k) → RR W A1 n1 c1 D1 m1 d1 (rtLo q1 k) → Calls Tryz.prog 68 #[.agg #[.bool (ng (rtLo q1 k).num), .slice A0 n0 c0, .slice D0 m0 d0], .agg #[.bool (ng (rtLo q1 k).num), .slice A1 n1 c1, .slice D1 m1 d1]] W (RetR (rtLo q1 k * rtLo q1 k) W)) := Lib.hid fun W A0 n0 c0 D0 m0 d0 A1 n1 c1 D1 m1 d1 X0 X1 => mulQ _ _ A0 n0 c0 D0 m0 d0 A1 n1 c1 D1 m1 d1 W X0 X1 (hL24.mono (by decide)) (hL24.mono (by decide))
  have hLL : Rs (rtLo q1 k * rtLo q1 k) 48 := hL24.mul hL24
  have hC : Hid (∀ W A n c D m d, RR W A n c D m d (rtLo q1 k * rtLo q1 k) → Rw W b1 A1 n1 c1 x1 D1 m1 d1 y1 q1 → Calls Tryz.prog 63 #[.agg #[.bool (ng (rtLo q1 k * rtLo q1 k).num), .slice A n c, .slice D m d], .agg #[.bool b1, .slice A1 n1 c1, .slice D1 m1 d1]] W fun e w' => e = .returned (.int .i64 (cmpq (rtLo q1 k * rtLo q1 k) q1)) ∧ Below W.heap.size W w') := Lib.hid fun W A n c D m d h1 h2 => by
    have l := h1.lens hLL
    have := Rcompare_any (ng (rtLo q1 k * rtLo q1 k).num) A n c _ D m d _ b1 A1 n1 c1 x1 D1 m1 d1 y1 W h1.n h1.d h2.rn h2.rd (by omega) (by omega) (by have := h2.k.2.1; omega) (by have := h2.k.2.2; omega)
    rwa [rv_z, h2.k.1] at this
  have hR : Hid (∀ W g A n c D m d, Cb W g #[.bool (ng (rtLo q1 k).num), .slice A n c, .slice D m d] 26 → RR W A n c D m d (rtLo q1 k) → Calls Tryz.prog 58 #[.slice (some ⟨g, 0, none⟩) 1 1] W (RetV (rtLo q1 k) (rtLo q1 k) W)) := Lib.hid fun W g A n c D m d h h1 => around1 _ _ _ _ _ _ _ _ _ _ W g _ h (RR.w h1 (hL24.mono (by decide)))
  have hcc : (cmpq (rtLo q1 k * rtLo q1 k) q1 == 0) = true := by rw [cmpq_beq, decide_eq_true hh]
  clear hN hP19 hU5 hL24 hF9 hI hLL hk hq hs hh
  generalize cmpq (rtLo q1 k * rtLo q1 k) q1 = cc at *
  generalize rtLo q1 k * rtLo q1 k = ll at *
  generalize rtLo q1 k = lo at *
  generalize rtU k = un at *
  generalize qz (isq (rtN q1 k)) = ro at *
  have hScd : Hid (∀ W, Rd W none 0 0 (dn (qz (rtN q1 k)))) := Lib.hid fun W => Rd.nil_ _ _ _
  generalize qz (rtN q1 k) = sc at *
  generalize q1 * qz (2 ^ (2 * k)) = pr at *
  generalize qz (2 ^ (2 * k)) = fo at *
  generalize q1.num.sign = sg at *
  have k1 := Lib.hid X1.k
  have S := (((((St.new w).read X1.rn).read X1.rd).allocAt (w.heap.size) #[.bool b1, .slice A1 n1 c1, .slice D1 m1 d1] 26 (noL3 _ _ _ _ _ _ _) (by simp)).allocAt (w.heap.size + 1) #[.bool false, .slice none 0 0, .slice none 0 0, .bool false, .slice none 0 0, .slice none 0 0] 28 (noL6 _ _ _ _ _ _ _ _ _ _ _ _ _ _) (by simp))
  replace S := Lib.hid S
  clear X1
  go_enter Tryz.func40, Tryz.ntmps40
  go_wp2_with fail
  refine (hS.out _ (Rw.of (S.out.r 1 rfl) (S.out.r 0 rfl) k1.out)).mono ?_
  rintro e w1 ⟨rfl, bb⟩
  have T := (S.out.call bb)
  clear bb S
  have S := T
  clear T
  obtain ⟨c_r0, c_r1, c_r2, c_r3, c_r4, c_r5, f_r0, f_r1, f_r2, f_r3, f_r4, f_r5⟩ := S.cf6 0 rfl
  obtain ⟨c_v0, c_v1, c_v2, f_v0, f_v1, f_v2⟩ := S.cf3 1 rfl
  have hz : w.heap.size + 1 < w1.heap.size := S.lt 0 rfl
  replace S := Lib.hid S
  clear hS
  go_wp2_with fail
  refine (hU.out _).mono ?_
  rintro e w2 ⟨A20, n20, c20, D20, m20, d20, rfl, Q20, bb⟩
  have T := (((S.out.call bb).read Q20.n).read Q20.d)
  clear bb S c_r0 f_r0 c_r1 f_r1 c_r2 f_r2 c_r3 f_r3 c_r4 f_r4 c_r5 f_r5 c_v0 f_v0 c_v1 f_v1 c_v2 f_v2 hz
  have S := T
  clear T
  obtain ⟨c_r0, c_r1, c_r2, c_r3, c_r4, c_r5, f_r0, f_r1, f_r2, f_r3, f_r4, f_r5⟩ := S.cf6 0 rfl
  obtain ⟨c_v0, c_v1, c_v2, f_v0, f_v1, f_v2⟩ := S.cf3 1 rfl
  have hz : w.heap.size + 1 < w2.heap.size := S.lt 0 rfl
  replace S := Lib.hid S
  clear Q20 hU g1 g2 g3
  go_upto_region 4 with fail
  clear c_r0 f_r0 c_r1 f_r1 c_r2 f_r2 c_r3 f_r3 c_r4 f_r4 c_r5 f_r5 c_v0 f_v0 c_v1 f_v1 c_v2 f_v2 hz
  have S := (S.out.allocAt (w2.heap.size) #[.bool (ng un.num), .slice A20 n20 c20, .slice D20 m20 d20] 26 (noL3 _ _ _ _ _ _ _) (by simp))
  generalize hW3 : (World.alloc w2 (.cells #[.bool (ng un.num), .slice A20 n20 c20, .slice D20 m20 d20] 26)) = w3 at S ⊢
  clear hW3
  replace S := Lib.hid S
  refine RW.begin (Z := [⟨6, 7, #[.bool false, .slice none 0 0], 24⟩]) (S := (fun W => Cb W (w.heap.size) #[.bool b1, .slice A1 n1 c1, .slice D1 m1 d1] 26)) (by kernel_rfl) ?_ S.out ?_
  · exact ⟨by kernel_rfl, (zis_cons at6 (fun _ _ => by kernel_rfl) zis_nil), by decide, by decide, (nol_cons (noL2 _ _ _ _) nol_nil), (fun _ _ h => h.kb 2 rfl)⟩
  intro hzk
  clear S
  refine RW.t (i := 0) (v := .agg #[.bool b1, .slice A1 n1 c1, .slice D1 m1 d1]) (some 24) at0 (hy := fun W hS => by (have k0 := Cb.cell (i := 0) hS rfl; have k1 := Cb.cell (i := 1) hS rfl; have k2 := Cb.cell (i := 2) hS rfl; clear hS; go_simp)) (h := ?_)
  refine RW.t (i := 1) (v := .int .i64 k) (some 25) at1 (hy := fun _ _ => by kernel_rfl) (h := ?_)
  refine RW.t (i := 2) (v := .int .i64 (2 * (k : Int))) (some 26) at2 (hy := fun _ _ => by go_simp) (h := ?_)
  refine RW.c (i := 3) (args := #[.int .i64 (2 * (k : Int))]) (some 27) hzk.out at3 (hx := fun _ => by kernel_rfl) (h := fun _ S => (hF.out _).mono ?_)
  rintro e w4 ⟨A21, n21, c21, D21, m21, d21, rfl, Q21, bb⟩
  refine ⟨bb, _, [(D21, m21, d21, dn fo), (A21, n21, c21, limbs fo.num.natAbs)], rfl, (rd_cons Q21.d (rd_cons Q21.n rd_nil)), ?_⟩
  clear bb S Q21
  refine RW.c (i := 4) (args := #[.agg #[.bool b1, .slice A1 n1 c1, .slice D1 m1 d1], .agg #[.bool (ng fo.num), .slice A21 n21 c21, .slice D21 m21 d21]]) (some 28) hzk.out at4 (hx := fun _ => by kernel_rfl) (h := fun _ S => (hM1.out _ _ _ _ _ _ _ (Rw.of (S.r 5 rfl) (S.r 4 rfl) k1.out) ⟨S.r 1 rfl, S.r 0 rfl⟩).mono ?_)
  rintro e w5 ⟨A22, n22, c22, D22, m22, d22, rfl, Q22, bb⟩
  refine ⟨bb, _, [(D22, m22, d22, dn pr), (A22, n22, c22, limbs pr.num.natAbs)], rfl, (rd_cons Q22.d (rd_cons Q22.n rd_nil)), ?_⟩
  clear bb S Q22
  refine RW.c (i := 5) (args := #[.agg #[.bool (ng pr.num), .slice A22 n22 c22, .slice D22 m22 d22]]) (some 29) hzk.out at5 (hx := fun _ => by kernel_rfl) (h := fun _ S => (hFl.out _ _ _ _ _ _ _ ⟨S.r 1 rfl, S.r 0 rfl⟩).mono ?_)
  rintro e w6 ⟨A23, n23, c23, rfl, Q23, bb⟩
  refine ⟨bb, _, [(A23, n23, c23, limbs sc.num.natAbs)], rfl, (rd_cons Q23 rd_nil), ?_⟩
  clear bb S Q23
  refine RW.tail hzk.out (by kernel_rfl) ?_
  intro gs w7 hgs hS S
  obtain ⟨g_sc, rfl⟩ := len1' hgs
  clear hS hgs hzk
  simp only [mark, fill, List.map, Act.put, List.setIfInBounds_toArray, List.set_cons_zero, List.set_cons_succ]
  replace S := Lib.hid S
  refine Wk.o (i := 7) at7 (by kernel_rfl) fun K' hK => ?_
  have q7_sc0 := St.cl (S.out) 0 0 rfl rfl
  have q7_sc1 := St.cl (S.out) 0 1 rfl rfl
  have q7z_sc0 := St.f (S.out) 0 0 rfl
  have q7z_sc1 := St.f (S.out) 0 1 rfl
  go_simp
  have SN := ((S.out.set 0 0 (.bool (ng sc.num)) rfl (by nofun)).set 0 1 (.slice A23 n23 c23) rfl (by nofun))
  clear S q7_sc0 q7_sc1 q7z_sc0 q7z_sc1
  have S := SN
  clear SN
  refine hK.out _ _ (S.cb 3 rfl) ?_
  clear hK K'
  replace S := Lib.hid S
  try simp only [Act.put, List.setIfInBounds_toArray, List.set_cons_zero, List.set_cons_succ]
  refine Wk.done (by kernel_rfl) ?_
  go_simp
  replace S := S.out
  have S : St w _ [(g_sc, #[.bool (ng sc.num), .slice A23 n23 c23], 24), (w2.heap.size, #[.bool (ng un.num), .slice A20 n20 c20, .slice D20 m20 d20], 26), (w.heap.size + 1, #[.bool false, .slice none 0 0, .slice none 0 0, .bool false, .slice none 0 0, .slice none 0 0], 28), (w.heap.size, #[.bool b1, .slice A1 n1 c1, .slice D1 m1 d1], 26)] [(A23, n23, c23, limbs sc.num.natAbs), (D22, m22, d22, dn pr), (A22, n22, c22, limbs pr.num.natAbs), (D21, m21, d21, dn fo), (A21, n21, c21, limbs fo.num.natAbs), (D20, m20, d20, dn un), (A20, n20, c20, limbs un.num.natAbs), (D1, m1, d1, y1), (A1, n1, c1, x1)] := S
  generalize hW8 : (World.setCell (World.setCell w7 ⟨g_sc, 0, none⟩ (.bool (ng sc.num))) ⟨g_sc, 1, none⟩ (.slice A23 n23 c23)) = w8 at S ⊢
  clear hW8
  replace S := Lib.hid S
  replace S := S.out
  obtain ⟨c_sc0, c_sc1, f_sc0, f_sc1⟩ := S.cf2 0 rfl
  obtain ⟨c_u0, c_u1, c_u2, f_u0, f_u1, f_u2⟩ := S.cf3 1 rfl
  obtain ⟨c_r0, c_r1, c_r2, c_r3, c_r4, c_r5, f_r0, f_r1, f_r2, f_r3, f_r4, f_r5⟩ := S.cf6 2 rfl
  obtain ⟨c_v0, c_v1, c_v2, f_v0, f_v1, f_v2⟩ := S.cf3 3 rfl
  have hz : g_sc < w8.heap.size := S.lt 0 rfl
  replace S := Lib.hid S
  clear hF hM1 hFl
  replace S := S.out
  have S := S.read (show Rd _ none 0 0 (dn sc) from hScd.out _)
  replace S := Lib.hid S
  go_upto_region 5 with fail
  clear c_sc0 f_sc0 c_sc1 f_sc1 c_u0 f_u0 c_u1 f_u1 c_u2 f_u2 c_r0 f_r0 c_r1 f_r1 c_r2 f_r2 c_r3 f_r3 c_r4 f_r4 c_r5 f_r5 c_v0 f_v0 c_v1 f_v1 c_v2 f_v2 hz
  refine RW.begin (Z := [⟨5, 8, #[.bool false, .slice none 0 0, .slice none 0 0], 26⟩]) (S := (fun W => Cb W (g_sc) #[.bool (ng sc.num), .slice A23 n23 c23] 24 ∧ Cb W (w2.heap.size) #[.bool (ng un.num), .slice A20 n20 c20, .slice D20 m20 d20] 26)) (by kernel_rfl) ?_ S.out ?_
  · exact ⟨by kernel_rfl, (zis_cons at5 (fun _ _ => by kernel_rfl) zis_nil), by decide, by decide, (nol_cons (noL3 _ _ _ _ _ _ _) nol_nil), (fun _ _ h => ⟨h.kb 0 rfl, h.kb 1 rfl⟩)⟩
  intro hzk
  clear S
  refine RW.t (i := 0) (v := .agg #[.bool (ng sc.num), .slice A23 n23 c23]) (some 30) at0 (hy := fun W hS => by (have k0 := Cb.cell (i := 0) hS.1 rfl; have k1 := Cb.cell (i := 1) hS.1 rfl; clear hS; go_simp)) (h := ?_)
  refine RW.t (i := 1) (v := .agg #[.bool (ng sc.num), .slice A23 n23 c23, .slice none 0 0]) (some 31) at1 (hy := fun _ _ => by kernel_rfl) (h := ?_)
  refine RW.t (i := 3) (v := .agg #[.bool (ng un.num), .slice A20 n20 c20, .slice D20 m20 d20]) (some 33) at3 (hy := fun W hS => by (have k0 := Cb.cell (i := 0) hS.2 rfl; have k1 := Cb.cell (i := 1) hS.2 rfl; have k2 := Cb.cell (i := 2) hS.2 rfl; clear hS; go_simp)) (h := ?_)
  refine RW.c (i := 2) (args := #[.agg #[.bool (ng sc.num), .slice A23 n23 c23, .slice none 0 0]]) (some 32) hzk.out at2 (hx := fun _ => by kernel_rfl) (h := fun _ S => (hW.out _ _ _ _ _ _ _ ⟨S.r 1 rfl, S.r 0 rfl⟩).mono ?_)
  rintro e w9 ⟨A24, n24, c24, D24, m24, d24, rfl, Q24, bb⟩
  refine ⟨bb, _, [(D24, m24, d24, dn ro), (A24, n24, c24, limbs ro.num.natAbs)], rfl, (rd_cons Q24.d (rd_cons Q24.n rd_nil)), ?_⟩
  clear bb S Q24
  refine RW.c (i := 4) (args := #[.agg #[.bool (ng ro.num), .slice A24 n24 c24, .slice D24 m24 d24], .agg #[.bool (ng un.num), .slice A20 n20 c20, .slice D20 m20 d20]]) (some 34) hzk.out at4 (hx := fun _ => by kernel_rfl) (h := fun _ S => (hM2.out _ _ _ _ _ _ _ _ _ _ _ _ _ ⟨S.r 1 rfl, S.r 0 rfl⟩ ⟨S.r 9 rfl, S.r 8 rfl⟩).mono ?_)
  rintro e w10 ⟨A25, n25, c25, D25, m25, d25, rfl, Q25, bb⟩
  refine ⟨bb, _, [(D25, m25, d25, dn lo), (A25, n25, c25, limbs lo.num.natAbs)], rfl, (rd_cons Q25.d (rd_cons Q25.n rd_nil)), ?_⟩
  clear bb S Q25
  refine RW.tail hzk.out (by kernel_rfl) ?_
  intro gs w11 hgs hS S
  obtain ⟨g_lo, rfl⟩ := len1' hgs
  clear hS hgs hzk
  simp only [mark, fill, List.map, Act.put, List.setIfInBounds_toArray, List.set_cons_zero, List.set_cons_succ]
  replace S := Lib.hid S
  refine Wk.o (i := 6) at6 (by kernel_rfl) fun K' hK => ?_
  have q6_lo0 := St.cl (S.out) 0 0 rfl rfl
  have q6_lo1 := St.cl (S.out) 0 1 rfl rfl
  have q6_lo2 := St.cl (S.out) 0 2 rfl rfl
  have q6z_lo0 := St.f (S.out) 0 0 rfl
  have q6z_lo1 := St.f (S.out) 0 1 rfl
  have q6z_lo2 := St.f (S.out) 0 2 rfl
  go_simp
  have SN := (((S.out.set 0 0 (.bool (ng lo.num)) rfl (by nofun)).set 0 1 (.slice A25 n25 c25) rfl (by nofun)).set 0 2 (.slice D25 m25 d25) rfl (by nofun))
  clear S q6_lo0 q6_lo1 q6_lo2 q6z_lo0 q6z_lo1 q6z_lo2
  have S := SN
  clear SN
  refine hK.out _ _ ⟨(S.cb 1 rfl), (S.cb 2 rfl)⟩ ?_
  clear hK K'
  replace S := Lib.hid S
  try simp only [Act.put, List.setIfInBounds_toArray, List.set_cons_zero, List.set_cons_succ]
  refine Wk.done (by kernel_rfl) ?_
  go_simp
  replace S := S.out
  have S : St w _ [(g_lo, #[.bool (ng lo.num), .slice A25 n25 c25, .slice D25 m25 d25], 26), (g_sc, #[.bool (ng sc.num), .slice A23 n23 c23], 24), (w2.heap.size, #[.bool (ng un.num), .slice A20 n20 c20, .slice D20 m20 d20], 26), (w.heap.size + 1, #[.bool false, .slice none 0 0, .slice none 0 0, .bool false, .slice none 0 0, .slice none 0 0], 28), (w.heap.size, #[.bool b1, .slice A1 n1 c1, .slice D1 m1 d1], 26)] [(D25, m25, d25, dn lo), (A25, n25, c25, limbs lo.num.natAbs), (D24, m24, d24, dn ro), (A24, n24, c24, limbs ro.num.natAbs), (none, 0, 0, dn sc), (A23, n23, c23, limbs sc.num.natAbs), (D22, m22, d22, dn pr), (A22, n22, c22, limbs pr.num.natAbs), (D21, m21, d21, dn fo), (A21, n21, c21, limbs fo.num.natAbs), (D20, m20, d20, dn un), (A20, n20, c20, limbs un.num.natAbs), (D1, m1, d1, y1), (A1, n1, c1, x1)] := S
  generalize hW12 : (World.setCell (World.setCell (World.setCell w11 ⟨g_lo, 0, none⟩ (.bool (ng lo.num))) ⟨g_lo, 1, none⟩ (.slice A25 n25 c25)) ⟨g_lo, 2, none⟩ (.slice D25 m25 d25)) = w12 at S ⊢
  clear hW12
  replace S := Lib.hid S
  replace S := S.out
  obtain ⟨c_lo0, c_lo1, c_lo2, f_lo0, f_lo1, f_lo2⟩ := S.cf3 0 rfl
  obtain ⟨c_sc0, c_sc1, f_sc0, f_sc1⟩ := S.cf2 1 rfl
  obtain ⟨c_u0, c_u1, c_u2, f_u0, f_u1, f_u2⟩ := S.cf3 2 rfl
  obtain ⟨c_r0, c_r1, c_r2, c_r3, c_r4, c_r5, f_r0, f_r1, f_r2, f_r3, f_r4, f_r5⟩ := S.cf6 3 rfl
  obtain ⟨c_v0, c_v1, c_v2, f_v0, f_v1, f_v2⟩ := S.cf3 4 rfl
  have hz : g_lo < w12.heap.size := S.lt 0 rfl
  replace S := Lib.hid S
  clear hW hM2
  go_upto_region 6 with fail
  clear c_lo0 f_lo0 c_lo1 f_lo1 c_lo2 f_lo2 c_sc0 f_sc0 c_sc1 f_sc1 c_u0 f_u0 c_u1 f_u1 c_u2 f_u2 c_r0 f_r0 c_r1 f_r1 c_r2 f_r2 c_r3 f_r3 c_r4 f_r4 c_r5 f_r5 c_v0 f_v0 c_v1 f_v1 c_v2 f_v2 hz
  refine RW.begin (Z := []) (S := (fun W => Cb W (g_lo) #[.bool (ng lo.num), .slice A25 n25 c25, .slice D25 m25 d25] 26 ∧ Cb W (w.heap.size) #[.bool b1, .slice A1 n1 c1, .slice D1 m1 d1] 26)) (by kernel_rfl) ?_ S.out ?_
  · exact ⟨by kernel_rfl, zis_nil, by decide, by decide, nol_nil, (fun _ _ h => ⟨h.kb 0 rfl, h.kb 4 rfl⟩)⟩
  intro hzk
  clear S
  refine RW.t (i := 0) (v := .agg #[.bool (ng lo.num), .slice A25 n25 c25, .slice D25 m25 d25]) (some 35) at0 (hy := fun W hS => by (have k0 := Cb.cell (i := 0) hS.1 rfl; have k1 := Cb.cell (i := 1) hS.1 rfl; have k2 := Cb.cell (i := 2) hS.1 rfl; clear hS; go_simp)) (h := ?_)
  refine RW.t (i := 1) (v := .agg #[.bool (ng lo.num), .slice A25 n25 c25, .slice D25 m25 d25]) (some 36) at1 (hy := fun W hS => by (have k0 := Cb.cell (i := 0) hS.1 rfl; have k1 := Cb.cell (i := 1) hS.1 rfl; have k2 := Cb.cell (i := 2) hS.1 rfl; clear hS; go_simp)) (h := ?_)
  refine RW.t (i := 3) (v := .agg #[.bool b1, .slice A1 n1 c1, .slice D1 m1 d1]) (some 38) at3 (hy := fun W hS => by (have k0 := Cb.cell (i := 0) hS.2 rfl; have k1 := Cb.cell (i := 1) hS.2 rfl; have k2 := Cb.cell (i := 2) hS.2 rfl; clear hS; go_simp)) (h := ?_)
  refine RW.c (i := 2) (args := #[.agg #[.bool (ng lo.num), .slice A25 n25 c25, .slice D25 m25 d25], .agg #[.bool (ng lo.num), .slice A25 n25 c25, .slice D25 m25 d25]]) (some 37) hzk.out at2 (hx := fun _ => by kernel_rfl) (h := fun _ S => (hM3.out _ _ _ _ _ _ _ _ _ _ _ _ _ ⟨S.r 1 rfl, S.r 0 rfl⟩ ⟨S.r 1 rfl, S.r 0 rfl⟩).mono ?_)
  rintro e w13 ⟨A26, n26, c26, D26, m26, d26, rfl, Q26, bb⟩
  refine ⟨bb, _, [(D26, m26, d26, dn ll), (A26, n26, c26, limbs ll.num.natAbs)], rfl, (rd_cons Q26.d (rd_cons Q26.n rd_nil)), ?_⟩
  clear bb S Q26
  refine RW.c (i := 4) (args := #[.agg #[.bool (ng ll.num), .slice A26 n26 c26, .slice D26 m26 d26], .agg #[.bool b1, .slice A1 n1 c1, .slice D1 m1 d1]]) (some 39) hzk.out at4 (hx := fun _ => by kernel_rfl) (h := fun _ S => (hC.out _ _ _ _ _ _ _ ⟨S.r 1 rfl, S.r 0 rfl⟩ (Rw.of (S.r 15 rfl) (S.r 14 rfl) k1.out)).mono ?_)
  rintro e w14 ⟨rfl, bb⟩
  refine ⟨bb, _, [], rfl, rd_nil, ?_⟩
  clear bb S
  refine RW.t (i := 5) (v := .bool true) (some 40) at5 (hy := fun _ _ => by go_simp) (h := ?_)
  refine RW.tail hzk.out (by kernel_rfl) ?_
  intro gs w15 hgs hS S
  obtain rfl := len0 hgs
  clear hS hgs hzk
  simp only [mark, fill, Act.put, List.setIfInBounds_toArray, List.set_cons_zero, List.set_cons_succ]
  replace S := Lib.hid S
  refine Wk.done (by kernel_rfl) ?_
  go_simp
  replace S := S.out
  have S : St w _ [(g_lo, #[.bool (ng lo.num), .slice A25 n25 c25, .slice D25 m25 d25], 26), (g_sc, #[.bool (ng sc.num), .slice A23 n23 c23], 24), (w2.heap.size, #[.bool (ng un.num), .slice A20 n20 c20, .slice D20 m20 d20], 26), (w.heap.size + 1, #[.bool false, .slice none 0 0, .slice none 0 0, .bool false, .slice none 0 0, .slice none 0 0], 28), (w.heap.size, #[.bool b1, .slice A1 n1 c1, .slice D1 m1 d1], 26)] [(D26, m26, d26, dn ll), (A26, n26, c26, limbs ll.num.natAbs), (D25, m25, d25, dn lo), (A25, n25, c25, limbs lo.num.natAbs), (D24, m24, d24, dn ro), (A24, n24, c24, limbs ro.num.natAbs), (none, 0, 0, dn sc), (A23, n23, c23, limbs sc.num.natAbs), (D22, m22, d22, dn pr), (A22, n22, c22, limbs pr.num.natAbs), (D21, m21, d21, dn fo), (A21, n21, c21, limbs fo.num.natAbs), (D20, m20, d20, dn un), (A20, n20, c20, limbs un.num.natAbs), (D1, m1, d1, y1), (A1, n1, c1, x1)] := S
  replace S := Lib.hid S
  replace S := S.out
  obtain ⟨c_lo0, c_lo1, c_lo2, f_lo0, f_lo1, f_lo2⟩ := S.cf3 0 rfl
  obtain ⟨c_sc0, c_sc1, f_sc0, f_sc1⟩ := S.cf2 1 rfl
  obtain ⟨c_u0, c_u1, c_u2, f_u0, f_u1, f_u2⟩ := S.cf3 2 rfl
  obtain ⟨c_r0, c_r1, c_r2, c_r3, c_r4, c_r5, f_r0, f_r1, f_r2, f_r3, f_r4, f_r5⟩ := S.cf6 3 rfl
  obtain ⟨c_v0, c_v1, c_v2, f_v0, f_v1, f_v2⟩ := S.cf3 4 rfl
  have hz : g_lo < w15.heap.size := S.lt 0 rfl
  replace S := Lib.hid S
  clear hM3 hC
  have S := (S.out.allocAt (w15.heap.size) #[.bool (ng lo.num), .slice A25 n25 c25, .slice D25 m25 d25] 26 (noL3 _ _ _ _ _ _ _) (by simp))
  replace S := Lib.hid S
  go_wp2_with fail
  refine (hR.out _ _ _ _ _ _ _ _ (S.out.cb 0 rfl) ⟨S.out.r 3 rfl, S.out.r 2 rfl⟩).mono ?_
  rintro e w16 ⟨A31, n31, c31, D31, m31, d31, A32, n32, c32, D32, m32, d32, rfl, Q31, Q32, bb⟩
  have T := (((((S.out.call bb).read Q31.n).read Q31.d).read Q32.n).read Q32.d)
  clear bb S c_lo0 f_lo0 c_lo1 f_lo1 c_lo2 f_lo2 c_sc0 f_sc0 c_sc1 f_sc1 c_u0 f_u0 c_u1 f_u1 c_u2 f_u2 c_r0 f_r0 c_r1 f_r1 c_r2 f_r2 c_r3 f_r3 c_r4 f_r4 c_r5 f_r5 c_v0 f_v0 c_v1 f_v1 c_v2 f_v2 hz
  have S := T
  clear T
  obtain ⟨c_L0, c_L1, c_L2, f_L0, f_L1, f_L2⟩ := S.cf3 0 rfl
  obtain ⟨c_lo0, c_lo1, c_lo2, f_lo0, f_lo1, f_lo2⟩ := S.cf3 1 rfl
  obtain ⟨c_sc0, c_sc1, f_sc0, f_sc1⟩ := S.cf2 2 rfl
  obtain ⟨c_u0, c_u1, c_u2, f_u0, f_u1, f_u2⟩ := S.cf3 3 rfl
  obtain ⟨c_r0, c_r1, c_r2, c_r3, c_r4, c_r5, f_r0, f_r1, f_r2, f_r3, f_r4, f_r5⟩ := S.cf6 4 rfl
  obtain ⟨c_v0, c_v1, c_v2, f_v0, f_v1, f_v2⟩ := S.cf3 5 rfl
  have hz : w15.heap.size < w16.heap.size := S.lt 0 rfl
  replace S := Lib.hid S
  clear Q31 Q32 hR
  have S : St w _ [(w15.heap.size, #[.bool (ng lo.num), .slice A25 n25 c25, .slice D25 m25 d25], 26), (g_lo, #[.bool (ng lo.num), .slice A25 n25 c25, .slice D25 m25 d25], 26), (g_sc, #[.bool (ng sc.num), .slice A23 n23 c23], 24), (w2.heap.size, #[.bool (ng un.num), .slice A20 n20 c20, .slice D20 m20 d20], 26), (w.heap.size + 1, #[.bool (ng lo.num), .slice A31 n31 c31, .slice D31 m31 d31, .bool (ng lo.num), .slice A32 n32 c32, .slice D32 m32 d32], 28), (w.heap.size, #[.bool b1, .slice A1 n1 c1, .slice D1 m1 d1], 26)] [(D32, m32, d32, dn lo), (A32, n32, c32, limbs lo.num.natAbs), (D31, m31, d31, dn lo), (A31, n31, c31, limbs lo.num.natAbs), (D26, m26, d26, dn ll), (A26, n26, c26, limbs ll.num.natAbs), (D25, m25, d25, dn lo), (A25, n25, c25, limbs lo.num.natAbs), (D24, m24, d24, dn ro), (A24, n24, c24, limbs ro.num.natAbs), (none, 0, 0, dn sc), (A23, n23, c23, limbs sc.num.natAbs), (D22, m22, d22, dn pr), (A22, n22, c22, limbs pr.num.natAbs), (D21, m21, d21, dn fo), (A21, n21, c21, limbs fo.num.natAbs), (D20, m20, d20, dn un), (A20, n20, c20, limbs un.num.natAbs), (D1, m1, d1, y1), (A1, n1, c1, x1)] := ((((((S.out.set 4 0 (.bool (ng lo.num)) rfl (by nofun)).set 4 1 (.slice A31 n31 c31) rfl (by nofun)).set 4 2 (.slice D31 m31 d31) rfl (by nofun)).set 4 3 (.bool (ng lo.num)) rfl (by nofun)).set 4 4 (.slice A32 n32 c32) rfl (by nofun)).set 4 5 (.slice D32 m32 d32) rfl (by nofun))
  replace S := Lib.hid S
  go_wp2
  refine bodyPost_ret (res_root _ _ (w.heap.size + 1) 28 rfl rfl (S.out.bk _ (List.mem_of_getElem? (i := 4) rfl)).1) rfl ?_
  exact ⟨_, _, _, _, _, _, _, _, _, _, _, _, rfl, ⟨S.out.r 3 rfl, S.out.r 2 rfl⟩, ⟨S.out.r 1 rfl, S.out.r 0 rfl⟩, S.out.bel⟩

set_option maxRecDepth 100000 in
set_option maxHeartbeats 8000000 in
theorem root_yes2 (b1 : Bool) (A1 : Option Addr) (n1 c1 : Nat) (x1 : List Nat) (D1 : Option Addr) (m1 d1 : Nat) (y1 : List Nat) (q1 : Rat) (k : Nat) (hk : k ≤ 128) (hq : 0 ≤ q1) (hs : Rs q1 10) (hh : rtLo q1 k * rtLo q1 k ≠ q1) (w : World) (X1 : Rw w b1 A1 n1 c1 x1 D1 m1 d1 y1 q1) : Calls Tryz.prog 40 #[.agg #[.bool b1, .slice A1 n1 c1, .slice D1 m1 d1], .int .i64 k] w (RetVE (rtLo q1 k) (rtLo q1 k + rtU k) (.int .i64 0) w) := by
  obtain ⟨hN, hP19⟩ := rtN_lt (k := k) hs hk
  have hU5 := rtU_rs hk
  have hL24 := rtLo_rs (k := k) hs hk
  have hF9 : Rs (qz (2 ^ (2 * k))) 9 := qz_rs (p2_lt (by omega)) (by decide)
  have hI : Rs (qz (isq (rtN q1 k))) 19 := qz_rs (Nat.lt_of_le_of_lt (isq_self _) hN) (by decide)
  have hS := Lib.hid (fun W h1 => signW b1 A1 n1 c1 x1 D1 m1 d1 y1 q1 W h1)
  have g1 : decide (q1.num.sign < 0) = false := decide_eq_false (fun h' => Rat.not_lt.2 hq ((num_lt0 _).1 (Int.sign_neg_iff.1 h')))
  have g2 : decide ((k : Int) < 0) = false := decide_eq_false (by omega)
  have g3 : decide (128 < (k : Int)) = false := decide_eq_false (by omega)
  have w1 : IntKind.i64.wrap (-(k : Int)) = -(k : Int) := IntWalk.i64_in _ (by omega)
  have w2 : IntKind.i64.wrap (2 * (k : Int)) = 2 * (k : Int) := IntWalk.i64_in _ (by omega)
  have hU : Hid (∀ W, Calls Tryz.prog 70 #[.int .i64 (-(k : Int))] W (RetR (rtU k) W)) := Lib.hid fun W => pow2_minus k W (by omega)
  have hF : Hid (∀ W, Calls Tryz.prog 70 #[.int .i64 (2 * (k : Int))] W (RetR (qz (2 ^ (2 * k))) W)) := Lib.hid fun W => pow2_pos (2 * k) W (by omega)
  have hM1 : Hid (∀ W A n c D m d, Rw W b1 A1 n1 c1 x1 D1 m1 d1 y1 q1 → RR W A n c D m d (qz (2 ^ (2 * k))) → Calls Tryz.prog 68 #[.agg #[.bool b1, .slice A1 n1 c1, .slice D1 m1 d1], .agg #[.bool (ng (qz (2 ^ (2 * k))).num), .slice A n c, .slice D m d]] W (RetR (q1 * qz (2 ^ (2 * k))) W)) := Lib.hid fun W A n c D m d h1 h2 => mulW _ _ _ _ _ _ _ _ _ _ _ _ _ _ _ _ _ _ _ _ W h1 (RR.w h2 (hF9.mono (by decide)))
  have hFl : Hid (∀ W A0 n0 c0 D0 m0 d0, RR W A0 n0 c0 D0 m0 d0 (q1 * qz (2 ^ (2 * k))) → Calls Tryz.prog 79 #[.agg #[.bool (ng (q1 * qz (2 ^ (2 * k))).num), .slice A0 n0 c0, .slice D0 m0 d0]] W (fun e w' => ∃ A n c, e = .returned (.agg #[.bool (ng (qz (rtN q1 k)).num), .slice A n c]) ∧ Rd w' A n c (limbs (qz (rtN q1 k)).num.natAbs) ∧ Below W.heap.size W w')) := Lib.hid fun W A0 n0 c0 D0 m0 d0 X0 => by
    have := floorQ _ A0 n0 c0 D0 m0 d0 W X0 (hP19.mono (by decide))
    rw [rtN_floor hq] at this; exact this
  have hW : Hid (∀ W A0 n0 c0 D0 m0 d0, RR W A0 n0 c0 D0 m0 d0 (qz (rtN q1 k)) → Calls Tryz.prog 80 #[.agg #[.bool (ng (qz (rtN q1 k)).num), .slice A0 n0 c0, .slice D0 m0 d0]] W (RetR (qz (isq (rtN q1 k))) W)) := Lib.hid fun W A0 n0 c0 D0 m0 d0 X0 => whole_any (rtN q1 k) _ rfl A0 n0 c0 D0 m0 d0 W X0 hN
  have hM2 : Hid (∀ W A0 n0 c0 D0 m0 d0 A1 n1 c1 D1 m1 d1, RR W A0 n0 c0 D0 m0 d0 (qz (isq (rtN q1 k))) → RR W A1 n1 c1 D1 m1 d1 (rtU k) → Calls Tryz.prog 68 #[.agg #[.bool (ng (qz (isq (rtN q1 k))).num), .slice A0 n0 c0, .slice D0 m0 d0], .agg #[.bool (ng (rtU k).num), .slice A1 n1 c1, .slice D1 m1 d1]] W (RetR (rtLo q1 k) W)) := Lib.hid fun W A0 n0 c0 D0 m0 d0 A1 n1 c1 D1 m1 d1 X0 X1 => mulQ _ _ A0 n0 c0 D0 m0 d0 A1 n1 c1 D1 m1 d1 W X0 X1 (hI.mono (by decide)) (hU5.mono (by decide))
  have hM3 : Hid (∀ W A0 n0 c0 D0 m0 d0 A1 n1 c1 D1 m1 d1, RR W A0 n0 c0 D0 m0 d0 (rtLo q1 k) → RR W A1 n1 c1 D1 m1 d1 (rtLo q1 k) → Calls Tryz.prog 68 #[.agg #[.bool (ng (rtLo q1 k).num), .slice A0 n0 c0, .slice D0 m0 d0], .agg #[.bool (ng (rtLo q1 k).num), .slice A1 n1 c1, .slice D1 m1 d1]] W (RetR (rtLo q1 k * rtLo q1 k) W)) := Lib.hid fun W A0 n0 c0 D0 m0 d0 A1 n1 c1 D1 m1 d1 X0 X1 => mulQ _ _ A0 n0 c0 D0 m0 d0 A1 n1 c1 D1 m1 d1 W X0 X1 (hL24.mono (by decide)) (hL24.mono (by decide))
  have hLL : Rs (rtLo q1 k * rtLo q1 k) 48 := hL24.mul hL24
  have hC : Hid (∀ W A n c D m d, RR W A n c D m d (rtLo q1 k * rtLo q1 k) → Rw W b1 A1 n1 c1 x1 D1 m1 d1 y1 q1 → Calls Tryz.prog 63 #[.agg #[.bool (ng (rtLo q1 k * rtLo q1 k).num), .slice A n c, .slice D m d], .agg #[.bool b1, .slice A1 n1 c1, .slice D1 m1 d1]] W fun e w' => e = .returned (.int .i64 (cmpq (rtLo q1 k * rtLo q1 k) q1)) ∧ Below W.heap.size W w') := Lib.hid fun W A n c D m d h1 h2 => by
    have l := h1.lens hLL
    have := Rcompare_any (ng (rtLo q1 k * rtLo q1 k).num) A n c _ D m d _ b1 A1 n1 c1 x1 D1 m1 d1 y1 W h1.n h1.d h2.rn h2.rd (by omega) (by omega) (by have := h2.k.2.1; omega) (by have := h2.k.2.2; omega)
    rwa [rv_z, h2.k.1] at this
  have hA : Hid (∀ W A0 n0 c0 D0 m0 d0 A1 n1 c1 D1 m1 d1, RR W A0 n0 c0 D0 m0 d0 (rtLo q1 k) → RR W A1 n1 c1 D1 m1 d1 (rtU k) → Calls Tryz.prog 69 #[.agg #[.bool (ng (rtLo q1 k).num), .slice A0 n0 c0, .slice D0 m0 d0], .agg #[.bool (ng (rtU k).num), .slice A1 n1 c1, .slice D1 m1 d1]] W (RetR (rtLo q1 k + rtU k) W)) := Lib.hid fun W A0 n0 c0 D0 m0 d0 A1 n1 c1 D1 m1 d1 X0 X1 => addQ _ _ A0 n0 c0 D0 m0 d0 A1 n1 c1 D1 m1 d1 W X0 X1 (hL24.mono (by decide)) (hU5.mono (by decide))
  have hcc : (cmpq (rtLo q1 k * rtLo q1 k) q1 == 0) = false := by rw [cmpq_beq, decide_eq_false hh]
  clear hN hP19 hU5 hL24 hF9 hI hLL hk hq hs hh
  generalize rtLo q1 k + rtU k = hi at *
  generalize cmpq (rtLo q1 k * rtLo q1 k) q1 = cc at *
  generalize rtLo q1 k * rtLo q1 k = ll at *
  generalize rtLo q1 k = lo at *
  generalize rtU k = un at *
  generalize qz (isq (rtN q1 k)) = ro at *
  have hScd : Hid (∀ W, Rd W none 0 0 (dn (qz (rtN q1 k)))) := Lib.hid fun W => Rd.nil_ _ _ _
  generalize qz (rtN q1 k) = sc at *
  generalize q1 * qz (2 ^ (2 * k)) = pr at *
  generalize qz (2 ^ (2 * k)) = fo at *
  generalize q1.num.sign = sg at *
  have k1 := Lib.hid X1.k
  have S := (((((St.new w).read X1.rn).read X1.rd).allocAt (w.heap.size) #[.bool b1, .slice A1 n1 c1, .slice D1 m1 d1] 26 (noL3 _ _ _ _ _ _ _) (by simp)).allocAt (w.heap.size + 1) #[.bool false, .slice none 0 0, .slice none 0 0, .bool false, .slice none 0 0, .slice none 0 0] 28 (noL6 _ _ _ _ _ _ _ _ _ _ _ _ _ _) (by simp))
  replace S := Lib.hid S
  clear X1
  go_enter Tryz.func40, Tryz.ntmps40
  go_wp2_with fail
  refine (hS.out _ (Rw.of (S.out.r 1 rfl) (S.out.r 0 rfl) k1.out)).mono ?_
  rintro e w1 ⟨rfl, bb⟩
  have T := (S.out.call bb)
  clear bb S
  have S := T
  clear T
  obtain ⟨c_r0, c_r1, c_r2, c_r3, c_r4, c_r5, f_r0, f_r1, f_r2, f_r3, f_r4, f_r5⟩ := S.cf6 0 rfl
  obtain ⟨c_v0, c_v1, c_v2, f_v0, f_v1, f_v2⟩ := S.cf3 1 rfl
  have hz : w.heap.size + 1 < w1.heap.size := S.lt 0 rfl
  replace S := Lib.hid S
  clear hS
  go_wp2_with fail
  refine (hU.out _).mono ?_
  rintro e w2 ⟨A20, n20, c20, D20, m20, d20, rfl, Q20, bb⟩
  have T := (((S.out.call bb).read Q20.n).read Q20.d)
  clear bb S c_r0 f_r0 c_r1 f_r1 c_r2 f_r2 c_r3 f_r3 c_r4 f_r4 c_r5 f_r5 c_v0 f_v0 c_v1 f_v1 c_v2 f_v2 hz
  have S := T
  clear T
  obtain ⟨c_r0, c_r1, c_r2, c_r3, c_r4, c_r5, f_r0, f_r1, f_r2, f_r3, f_r4, f_r5⟩ := S.cf6 0 rfl
  obtain ⟨c_v0, c_v1, c_v2, f_v0, f_v1, f_v2⟩ := S.cf3 1 rfl
  have hz : w.heap.size + 1 < w2.heap.size := S.lt 0 rfl
  replace S := Lib.hid S
  clear Q20 hU g1 g2 g3
  go_upto_region 4 with fail
  clear c_r0 f_r0 c_r1 f_r1 c_r2 f_r2 c_r3 f_r3 c_r4 f_r4 c_r5 f_r5 c_v0 f_v0 c_v1 f_v1 c_v2 f_v2 hz
  have S := (S.out.allocAt (w2.heap.size) #[.bool (ng un.num), .slice A20 n20 c20, .slice D20 m20 d20] 26 (noL3 _ _ _ _ _ _ _) (by simp))
  generalize hW3 : (World.alloc w2 (.cells #[.bool (ng un.num), .slice A20 n20 c20, .slice D20 m20 d20] 26)) = w3 at S ⊢
  clear hW3
  replace S := Lib.hid S
  refine RW.begin (Z := [⟨6, 7, #[.bool false, .slice none 0 0], 24⟩]) (S := (fun W => Cb W (w.heap.size) #[.bool b1, .slice A1 n1 c1, .slice D1 m1 d1] 26)) (by kernel_rfl) ?_ S.out ?_
  · exact ⟨by kernel_rfl, (zis_cons at6 (fun _ _ => by kernel_rfl) zis_nil), by decide, by decide, (nol_cons (noL2 _ _ _ _) nol_nil), (fun _ _ h => h.kb 2 rfl)⟩
  intro hzk
  clear S
  refine RW.t (i := 0) (v := .agg #[.bool b1, .slice A1 n1 c1, .slice D1 m1 d1]) (some 24) at0 (hy := fun W hS => by (have k0 := Cb.cell (i := 0) hS rfl; have k1 := Cb.cell (i := 1) hS rfl; have k2 := Cb.cell (i := 2) hS rfl; clear hS; go_simp)) (h := ?_)
  refine RW.t (i := 1) (v := .int .i64 k) (some 25) at1 (hy := fun _ _ => by kernel_rfl) (h := ?_)
  refine RW.t (i := 2) (v := .int .i64 (2 * (k : Int))) (some 26) at2 (hy := fun _ _ => by go_simp) (h := ?_)
  refine RW.c (i := 3) (args := #[.int .i64 (2 * (k : Int))]) (some 27) hzk.out at3 (hx := fun _ => by kernel_rfl) (h := fun _ S => (hF.out _).mono ?_)
  rintro e w4 ⟨A21, n21, c21, D21, m21, d21, rfl, Q21, bb⟩
  refine ⟨bb, _, [(D21, m21, d21, dn fo), (A21, n21, c21, limbs fo.num.natAbs)], rfl, (rd_cons Q21.d (rd_cons Q21.n rd_nil)), ?_⟩
  clear bb S Q21
  refine RW.c (i := 4) (args := #[.agg #[.bool b1, .slice A1 n1 c1, .slice D1 m1 d1], .agg #[.bool (ng fo.num), .slice A21 n21 c21, .slice D21 m21 d21]]) (some 28) hzk.out at4 (hx := fun _ => by kernel_rfl) (h := fun _ S => (hM1.out _ _ _ _ _ _ _ (Rw.of (S.r 5 rfl) (S.r 4 rfl) k1.out) ⟨S.r 1 rfl, S.r 0 rfl⟩).mono ?_)
  rintro e w5 ⟨A22, n22, c22, D22, m22, d22, rfl, Q22, bb⟩
  refine ⟨bb, _, [(D22, m22, d22, dn pr), (A22, n22, c22, limbs pr.num.natAbs)], rfl, (rd_cons Q22.d (rd_cons Q22.n rd_nil)), ?_⟩
  clear bb S Q22
  refine RW.c (i := 5) (args := #[.agg #[.bool (ng pr.num), .slice A22 n22 c22, .slice D22 m22 d22]]) (some 29) hzk.out at5 (hx := fun _ => by kernel_rfl) (h := fun _ S => (hFl.out _ _ _ _ _ _ _ ⟨S.r 1 rfl, S.r 0 rfl⟩).mono ?_)
  rintro e w6 ⟨A23, n23, c23, rfl, Q23, bb⟩
  refine ⟨bb, _, [(A23, n23, c23, limbs sc.num.natAbs)], rfl, (rd_cons Q23 rd_nil), ?_⟩
  clear bb S Q23
  refine RW.tail hzk.out (by kernel_rfl) ?_
  intro gs w7 hgs hS S
  obtain ⟨g_sc, rfl⟩ := len1' hgs
  clear hS hgs hzk
  simp only [mark, fill, List.map, Act.put, List.setIfInBounds_toArray, List.set_cons_zero, List.set_cons_succ]
  replace S := Lib.hid S
  refine Wk.o (i := 7) at7 (by kernel_rfl) fun K' hK => ?_
  have q7_sc0 := St.cl (S.out) 0 0 rfl rfl
  have q7_sc1 := St.cl (S.out) 0 1 rfl rfl
  have q7z_sc0 := St.f (S.out) 0 0 rfl
  have q7z_sc1 := St.f (S.out) 0 1 rfl
  go_simp
  have SN := ((S.out.set 0 0 (.bool (ng sc.num)) rfl (by nofun)).set 0 1 (.slice A23 n23 c23) rfl (by nofun))
  clear S q7_sc0 q7_sc1 q7z_sc0 q7z_sc1
  have S := SN
  clear SN
  refine hK.out _ _ (S.cb 3 rfl) ?_
  clear hK K'
  replace S := Lib.hid S
  try simp only [Act.put, List.setIfInBounds_toArray, List.set_cons_zero, List.set_cons_succ]
  refine Wk.done (by kernel_rfl) ?_
  go_simp
  replace S := S.out
  have S : St w _ [(g_sc, #[.bool (ng sc.num), .slice A23 n23 c23], 24), (w2.heap.size, #[.bool (ng un.num), .slice A20 n20 c20, .slice D20 m20 d20], 26), (w.heap.size + 1, #[.bool false, .slice none 0 0, .slice none 0 0, .bool false, .slice none 0 0, .slice none 0 0], 28), (w.heap.size, #[.bool b1, .slice A1 n1 c1, .slice D1 m1 d1], 26)] [(A23, n23, c23, limbs sc.num.natAbs), (D22, m22, d22, dn pr), (A22, n22, c22, limbs pr.num.natAbs), (D21, m21, d21, dn fo), (A21, n21, c21, limbs fo.num.natAbs), (D20, m20, d20, dn un), (A20, n20, c20, limbs un.num.natAbs), (D1, m1, d1, y1), (A1, n1, c1, x1)] := S
  generalize hW8 : (World.setCell (World.setCell w7 ⟨g_sc, 0, none⟩ (.bool (ng sc.num))) ⟨g_sc, 1, none⟩ (.slice A23 n23 c23)) = w8 at S ⊢
  clear hW8
  replace S := Lib.hid S
  replace S := S.out
  obtain ⟨c_sc0, c_sc1, f_sc0, f_sc1⟩ := S.cf2 0 rfl
  obtain ⟨c_u0, c_u1, c_u2, f_u0, f_u1, f_u2⟩ := S.cf3 1 rfl
  obtain ⟨c_r0, c_r1, c_r2, c_r3, c_r4, c_r5, f_r0, f_r1, f_r2, f_r3, f_r4, f_r5⟩ := S.cf6 2 rfl
  obtain ⟨c_v0, c_v1, c_v2, f_v0, f_v1, f_v2⟩ := S.cf3 3 rfl
  have hz : g_sc < w8.heap.size := S.lt 0 rfl
  replace S := Lib.hid S
  clear hF hM1 hFl
  replace S := S.out
  have S := S.read (show Rd _ none 0 0 (dn sc) from hScd.out _)
  replace S := Lib.hid S
  go_upto_region 5 with fail
  clear c_sc0 f_sc0 c_sc1 f_sc1 c_u0 f_u0 c_u1 f_u1 c_u2 f_u2 c_r0 f_r0 c_r1 f_r1 c_r2 f_r2 c_r3 f_r3 c_r4 f_r4 c_r5 f_r5 c_v0 f_v0 c_v1 f_v1 c_v2 f_v2 hz
  refine RW.begin (Z := [⟨5, 8, #[.bool false, .slice none 0 0, .slice none 0 0], 26⟩]) (S := (fun W => Cb W (g_sc) #[.bool (ng sc.num), .slice A23 n23 c23] 24 ∧ Cb W (w2.heap.size) #[.bool (ng un.num), .slice A20 n20 c20, .slice D20 m20 d20] 26)) (by kernel_rfl) ?_ S.out ?_
  · exact ⟨by kernel_rfl, (zis_cons at5 (fun _ _ => by kernel_rfl) zis_nil), by decide, by decide, (nol_cons (noL3 _ _ _ _ _ _ _) nol_nil), (fun _ _ h => ⟨h.kb 0 rfl, h.kb 1 rfl⟩)⟩
  intro hzk
  clear S
  refine RW.t (i := 0) (v := .agg #[.bool (ng sc.num), .slice A23 n23 c23]) (some 30) at0 (hy := fun W hS => by (have k0 := Cb.cell (i := 0) hS.1 rfl; have k1 := Cb.cell (i := 1) hS.1 rfl; clear hS; go_simp)) (h := ?_)
  refine RW.t (i := 1) (v := .agg #[.bool (ng sc.num), .slice A23 n23 c23, .slice none 0 0]) (some 31) at1 (hy := fun _ _ => by kernel_rfl) (h := ?_)
  refine RW.t (i := 3) (v := .agg #[.bool (ng un.num), .slice A20 n20 c20, .slice D20 m20 d20]) (some 33) at3 (hy := fun W hS => by (have k0 := Cb.cell (i := 0) hS.2 rfl; have k1 := Cb.cell (i := 1) hS.2 rfl; have k2 := Cb.cell (i := 2) hS.2 rfl; clear hS; go_simp)) (h := ?_)
  refine RW.c (i := 2) (args := #[.agg #[.bool (ng sc.num), .slice A23 n23 c23, .slice none 0 0]]) (some 32) hzk.out at2 (hx := fun _ => by kernel_rfl) (h := fun _ S => (hW.out _ _ _ _ _ _ _ ⟨S.r 1 rfl, S.r 0 rfl⟩).mono ?_)
  rintro e w9 ⟨A24, n24, c24, D24, m24, d24, rfl, Q24, bb⟩
  refine ⟨bb, _, [(D24, m24, d24, dn ro), (A24, n24, c24, limbs ro.num.natAbs)], rfl, (rd_cons Q24.d (rd_cons Q24.n rd_nil)), ?_⟩
  clear bb S Q24
  refine RW.c (i := 4) (args := #[.agg #[.bool (ng ro.num), .slice A24 n24 c24, .slice D24 m24 d24], .agg #[.bool (ng un.num), .slice A20 n20 c20, .slice D20 m20 d20]]) (some 34) hzk.out at4 (hx := fun _ => by kernel_rfl) (h := fun _ S => (hM2.out _ _ _ _ _ _ _ _ _ _ _ _ _ ⟨S.r 1 rfl, S.r 0 rfl⟩ ⟨S.r 9 rfl, S.r 8 rfl⟩).mono ?_)
  rintro e w10 ⟨A25, n25, c25, D25, m25, d25, rfl, Q25, bb⟩
  refine ⟨bb, _, [(D25, m25, d25, dn lo), (A25, n25, c25, limbs lo.num.natAbs)], rfl, (rd_cons Q25.d (rd_cons Q25.n rd_nil)), ?_⟩
  clear bb S Q25
  refine RW.tail hzk.out (by kernel_rfl) ?_
  intro gs w11 hgs hS S
  obtain ⟨g_lo, rfl⟩ := len1' hgs
  clear hS hgs hzk
  simp only [mark, fill, List.map, Act.put, List.setIfInBounds_toArray, List.set_cons_zero, List.set_cons_succ]
  replace S := Lib.hid S
  refine Wk.o (i := 6) at6 (by kernel_rfl) fun K' hK => ?_
  have q6_lo0 := St.cl (S.out) 0 0 rfl rfl
  have q6_lo1 := St.cl (S.out) 0 1 rfl rfl
  have q6_lo2 := St.cl (S.out) 0 2 rfl rfl
  have q6z_lo0 := St.f (S.out) 0 0 rfl
  have q6z_lo1 := St.f (S.out) 0 1 rfl
  have q6z_lo2 := St.f (S.out) 0 2 rfl
  go_simp
  have SN := (((S.out.set 0 0 (.bool (ng lo.num)) rfl (by nofun)).set 0 1 (.slice A25 n25 c25) rfl (by nofun)).set 0 2 (.slice D25 m25 d25) rfl (by nofun))
  clear S q6_lo0 q6_lo1 q6_lo2 q6z_lo0 q6z_lo1 q6z_lo2
  have S := SN
  clear SN
  refine hK.out _ _ ⟨(S.cb 1 rfl), (S.cb 2 rfl)⟩ ?_
  clear hK K'
  replace S := Lib.hid S
  try simp only [Act.put, List.setIfInBounds_toArray, List.set_cons_zero, List.set_cons_succ]
  refine Wk.done (by kernel_rfl) ?_
  go_simp
  replace S := S.out
  have S : St w _ [(g_lo, #[.bool (ng lo.num), .slice A25 n25 c25, .slice D25 m25 d25], 26), (g_sc, #[.bool (ng sc.num), .slice A23 n23 c23], 24), (w2.heap.size, #[.bool (ng un.num), .slice A20 n20 c20, .slice D20 m20 d20], 26), (w.heap.size + 1, #[.bool false, .slice none 0 0, .slice none 0 0, .bool false, .slice none 0 0, .slice none 0 0], 28), (w.heap.size, #[.bool b1, .slice A1 n1 c1, .slice D1 m1 d1], 26)] [(D25, m25, d25, dn lo), (A25, n25, c25, limbs lo.num.natAbs), (D24, m24, d24, dn ro), (A24, n24, c24, limbs ro.num.natAbs), (none, 0, 0, dn sc), (A23, n23, c23, limbs sc.num.natAbs), (D22, m22, d22, dn pr), (A22, n22, c22, limbs pr.num.natAbs), (D21, m21, d21, dn fo), (A21, n21, c21, limbs fo.num.natAbs), (D20, m20, d20, dn un), (A20, n20, c20, limbs un.num.natAbs), (D1, m1, d1, y1), (A1, n1, c1, x1)] := S
  generalize hW12 : (World.setCell (World.setCell (World.setCell w11 ⟨g_lo, 0, none⟩ (.bool (ng lo.num))) ⟨g_lo, 1, none⟩ (.slice A25 n25 c25)) ⟨g_lo, 2, none⟩ (.slice D25 m25 d25)) = w12 at S ⊢
  clear hW12
  replace S := Lib.hid S
  replace S := S.out
  obtain ⟨c_lo0, c_lo1, c_lo2, f_lo0, f_lo1, f_lo2⟩ := S.cf3 0 rfl
  obtain ⟨c_sc0, c_sc1, f_sc0, f_sc1⟩ := S.cf2 1 rfl
  obtain ⟨c_u0, c_u1, c_u2, f_u0, f_u1, f_u2⟩ := S.cf3 2 rfl
  obtain ⟨c_r0, c_r1, c_r2, c_r3, c_r4, c_r5, f_r0, f_r1, f_r2, f_r3, f_r4, f_r5⟩ := S.cf6 3 rfl
  obtain ⟨c_v0, c_v1, c_v2, f_v0, f_v1, f_v2⟩ := S.cf3 4 rfl
  have hz : g_lo < w12.heap.size := S.lt 0 rfl
  replace S := Lib.hid S
  clear hW hM2
  go_upto_region 6 with fail
  clear c_lo0 f_lo0 c_lo1 f_lo1 c_lo2 f_lo2 c_sc0 f_sc0 c_sc1 f_sc1 c_u0 f_u0 c_u1 f_u1 c_u2 f_u2 c_r0 f_r0 c_r1 f_r1 c_r2 f_r2 c_r3 f_r3 c_r4 f_r4 c_r5 f_r5 c_v0 f_v0 c_v1 f_v1 c_v2 f_v2 hz
  refine RW.begin (Z := []) (S := (fun W => Cb W (g_lo) #[.bool (ng lo.num), .slice A25 n25 c25, .slice D25 m25 d25] 26 ∧ Cb W (w.heap.size) #[.bool b1, .slice A1 n1 c1, .slice D1 m1 d1] 26)) (by kernel_rfl) ?_ S.out ?_
  · exact ⟨by kernel_rfl, zis_nil, by decide, by decide, nol_nil, (fun _ _ h => ⟨h.kb 0 rfl, h.kb 4 rfl⟩)⟩
  intro hzk
  clear S
  refine RW.t (i := 0) (v := .agg #[.bool (ng lo.num), .slice A25 n25 c25, .slice D25 m25 d25]) (some 35) at0 (hy := fun W hS => by (have k0 := Cb.cell (i := 0) hS.1 rfl; have k1 := Cb.cell (i := 1) hS.1 rfl; have k2 := Cb.cell (i := 2) hS.1 rfl; clear hS; go_simp)) (h := ?_)
  refine RW.t (i := 1) (v := .agg #[.bool (ng lo.num), .slice A25 n25 c25, .slice D25 m25 d25]) (some 36) at1 (hy := fun W hS => by (have k0 := Cb.cell (i := 0) hS.1 rfl; have k1 := Cb.cell (i := 1) hS.1 rfl; have k2 := Cb.cell (i := 2) hS.1 rfl; clear hS; go_simp)) (h := ?_)
  refine RW.t (i := 3) (v := .agg #[.bool b1, .slice A1 n1 c1, .slice D1 m1 d1]) (some 38) at3 (hy := fun W hS => by (have k0 := Cb.cell (i := 0) hS.2 rfl; have k1 := Cb.cell (i := 1) hS.2 rfl; have k2 := Cb.cell (i := 2) hS.2 rfl; clear hS; go_simp)) (h := ?_)
  refine RW.c (i := 2) (args := #[.agg #[.bool (ng lo.num), .slice A25 n25 c25, .slice D25 m25 d25], .agg #[.bool (ng lo.num), .slice A25 n25 c25, .slice D25 m25 d25]]) (some 37) hzk.out at2 (hx := fun _ => by kernel_rfl) (h := fun _ S => (hM3.out _ _ _ _ _ _ _ _ _ _ _ _ _ ⟨S.r 1 rfl, S.r 0 rfl⟩ ⟨S.r 1 rfl, S.r 0 rfl⟩).mono ?_)
  rintro e w13 ⟨A26, n26, c26, D26, m26, d26, rfl, Q26, bb⟩
  refine ⟨bb, _, [(D26, m26, d26, dn ll), (A26, n26, c26, limbs ll.num.natAbs)], rfl, (rd_cons Q26.d (rd_cons Q26.n rd_nil)), ?_⟩
  clear bb S Q26
  refine RW.c (i := 4) (args := #[.agg #[.bool (ng ll.num), .slice A26 n26 c26, .slice D26 m26 d26], .agg #[.bool b1, .slice A1 n1 c1, .slice D1 m1 d1]]) (some 39) hzk.out at4 (hx := fun _ => by kernel_rfl) (h := fun _ S => (hC.out _ _ _ _ _ _ _ ⟨S.r 1 rfl, S.r 0 rfl⟩ (Rw.of (S.r 15 rfl) (S.r 14 rfl) k1.out)).mono ?_)
  rintro e w14 ⟨rfl, bb⟩
  refine ⟨bb, _, [], rfl, rd_nil, ?_⟩
  clear bb S
  refine RW.t (i := 5) (v := .bool false) (some 40) at5 (hy := fun _ _ => by go_simp) (h := ?_)
  refine RW.tail hzk.out (by kernel_rfl) ?_
  intro gs w15 hgs hS S
  obtain rfl := len0 hgs
  clear hS hgs hzk
  simp only [mark, fill, Act.put, List.setIfInBounds_toArray, List.set_cons_zero, List.set_cons_succ]
  replace S := Lib.hid S
  refine Wk.done (by kernel_rfl) ?_
  go_simp
  replace S := S.out
  have S : St w _ [(g_lo, #[.bool (ng lo.num), .slice A25 n25 c25, .slice D25 m25 d25], 26), (g_sc, #[.bool (ng sc.num), .slice A23 n23 c23], 24), (w2.heap.size, #[.bool (ng un.num), .slice A20 n20 c20, .slice D20 m20 d20], 26), (w.heap.size + 1, #[.bool false, .slice none 0 0, .slice none 0 0, .bool false, .slice none 0 0, .slice none 0 0], 28), (w.heap.size, #[.bool b1, .slice A1 n1 c1, .slice D1 m1 d1], 26)] [(D26, m26, d26, dn ll), (A26, n26, c26, limbs ll.num.natAbs), (D25, m25, d25, dn lo), (A25, n25, c25, limbs lo.num.natAbs), (D24, m24, d24, dn ro), (A24, n24, c24, limbs ro.num.natAbs), (none, 0, 0, dn sc), (A23, n23, c23, limbs sc.num.natAbs), (D22, m22, d22, dn pr), (A22, n22, c22, limbs pr.num.natAbs), (D21, m21, d21, dn fo), (A21, n21, c21, limbs fo.num.natAbs), (D20, m20, d20, dn un), (A20, n20, c20, limbs un.num.natAbs), (D1, m1, d1, y1), (A1, n1, c1, x1)] := S
  replace S := Lib.hid S
  replace S := S.out
  obtain ⟨c_lo0, c_lo1, c_lo2, f_lo0, f_lo1, f_lo2⟩ := S.cf3 0 rfl
  obtain ⟨c_sc0, c_sc1, f_sc0, f_sc1⟩ := S.cf2 1 rfl
  obtain ⟨c_u0, c_u1, c_u2, f_u0, f_u1, f_u2⟩ := S.cf3 2 rfl
  obtain ⟨c_r0, c_r1, c_r2, c_r3, c_r4, c_r5, f_r0, f_r1, f_r2, f_r3, f_r4, f_r5⟩ := S.cf6 3 rfl
  obtain ⟨c_v0, c_v1, c_v2, f_v0, f_v1, f_v2⟩ := S.cf3 4 rfl
  have hz : g_lo < w15.heap.size := S.lt 0 rfl
  replace S := Lib.hid S
  clear hM3 hC
  go_upto_region 8 with fail
  clear c_lo0 f_lo0 c_lo1 f_lo1 c_lo2 f_lo2 c_sc0 f_sc0 c_sc1 f_sc1 c_u0 f_u0 c_u1 f_u1 c_u2 f_u2 c_r0 f_r0 c_r1 f_r1 c_r2 f_r2 c_r3 f_r3 c_r4 f_r4 c_r5 f_r5 c_v0 f_v0 c_v1 f_v1 c_v2 f_v2 hz
  refine RW.begin (Z := []) (S := (fun W => Cb W (g_lo) #[.bool (ng lo.num), .slice A25 n25 c25, .slice D25 m25 d25] 26 ∧ Cb W (w2.heap.size) #[.bool (ng un.num), .slice A20 n20 c20, .slice D20 m20 d20] 26)) (by kernel_rfl) ?_ S.out ?_
  · exact ⟨by kernel_rfl, zis_nil, by decide, by decide, nol_nil, (fun _ _ h => ⟨h.kb 0 rfl, h.kb 2 rfl⟩)⟩
  intro hzk
  clear S
  refine RW.t (i := 0) (v := .agg #[.bool (ng lo.num), .slice A25 n25 c25, .slice D25 m25 d25]) (some 44) at0 (hy := fun W hS => by (have k0 := Cb.cell (i := 0) hS.1 rfl; have k1 := Cb.cell (i := 1) hS.1 rfl; have k2 := Cb.cell (i := 2) hS.1 rfl; clear hS; go_simp)) (h := ?_)
  refine RW.t (i := 1) (v := .agg #[.bool (ng lo.num), .slice A25 n25 c25, .slice D25 m25 d25]) (some 45) at1 (hy := fun W hS => by (have k0 := Cb.cell (i := 0) hS.1 rfl; have k1 := Cb.cell (i := 1) hS.1 rfl; have k2 := Cb.cell (i := 2) hS.1 rfl; clear hS; go_simp)) (h := ?_)
  refine RW.t (i := 2) (v := .agg #[.bool (ng un.num), .slice A20 n20 c20, .slice D20 m20 d20]) (some 46) at2 (hy := fun W hS => by (have k0 := Cb.cell (i := 0) hS.2 rfl; have k1 := Cb.cell (i := 1) hS.2 rfl; have k2 := Cb.cell (i := 2) hS.2 rfl; clear hS; go_simp)) (h := ?_)
  refine RW.c (i := 3) (args := #[.agg #[.bool (ng lo.num), .slice A25 n25 c25, .slice D25 m25 d25], .agg #[.bool (ng un.num), .slice A20 n20 c20, .slice D20 m20 d20]]) (some 47) hzk.out at3 (hx := fun _ => by kernel_rfl) (h := fun _ S => (hA.out _ _ _ _ _ _ _ _ _ _ _ _ _ ⟨S.r 3 rfl, S.r 2 rfl⟩ ⟨S.r 13 rfl, S.r 12 rfl⟩).mono ?_)
  rintro e w16 ⟨A27, n27, c27, D27, m27, d27, rfl, Q27, bb⟩
  refine ⟨bb, _, [(D27, m27, d27, dn hi), (A27, n27, c27, limbs hi.num.natAbs)], rfl, (rd_cons Q27.d (rd_cons Q27.n rd_nil)), ?_⟩
  clear bb S Q27
  refine RW.t (i := 4) (v := .agg #[.bool (ng lo.num), .slice A25 n25 c25, .slice D25 m25 d25, .bool (ng hi.num), .slice A27 n27 c27, .slice D27 m27 d27]) (some 48) at4 (hy := fun _ _ => by kernel_rfl) (h := ?_)
  refine RW.tail hzk.out (by kernel_rfl) ?_
  intro gs w17 hgs hS S
  obtain rfl := len0 hgs
  clear hS hgs hzk
  simp only [mark, fill, Act.put, List.setIfInBounds_toArray, List.set_cons_zero, List.set_cons_succ]
  replace S := Lib.hid S
  refine Wk.o (i := 5) at5 (by kernel_rfl) fun K' hK => ?_
  have q5_r0 := St.cl (S.out) 3 0 rfl rfl
  have q5_r1 := St.cl (S.out) 3 1 rfl rfl
  have q5_r2 := St.cl (S.out) 3 2 rfl rfl
  have q5_r3 := St.cl (S.out) 3 3 rfl rfl
  have q5_r4 := St.cl (S.out) 3 4 rfl rfl
  have q5_r5 := St.cl (S.out) 3 5 rfl rfl
  have q5z_r0 := St.f (S.out) 3 0 rfl
  have q5z_r1 := St.f (S.out) 3 1 rfl
  have q5z_r2 := St.f (S.out) 3 2 rfl
  have q5z_r3 := St.f (S.out) 3 3 rfl
  have q5z_r4 := St.f (S.out) 3 4 rfl
  have q5z_r5 := St.f (S.out) 3 5 rfl
  go_simp
  have SN := ((((((S.out.set 3 0 (.bool (ng lo.num)) rfl (by nofun)).set 3 1 (.slice A25 n25 c25) rfl (by nofun)).set 3 2 (.slice D25 m25 d25) rfl (by nofun)).set 3 3 (.bool (ng hi.num)) rfl (by nofun)).set 3 4 (.slice A27 n27 c27) rfl (by nofun)).set 3 5 (.slice D27 m27 d27) rfl (by nofun))
  clear S q5_r0 q5_r1 q5_r2 q5_r3 q5_r4 q5_r5 q5z_r0 q5z_r1 q5z_r2 q5z_r3 q5z_r4 q5z_r5
  have S := SN
  clear SN
  refine hK.out _ _ ⟨(S.cb 0 rfl), (S.cb 2 rfl)⟩ ?_
  clear hK K'
  replace S := Lib.hid S
  try simp only [Act.put, List.setIfInBounds_toArray, List.set_cons_zero, List.set_cons_succ]
  refine Wk.o (i := 6) at6 (by kernel_rfl) fun K' hK => ?_
  go_simp
  have SN := S.out
  clear S
  have S := SN
  clear SN
  refine hK.out _ _ ⟨(S.cb 0 rfl), (S.cb 2 rfl)⟩ ?_
  clear hK K'
  replace S := Lib.hid S
  try simp only [Act.put, List.setIfInBounds_toArray, List.set_cons_zero, List.set_cons_succ]
  refine Wk.done (by kernel_rfl) ?_
  go_simp
  replace S := S.out
  have S : St w _ [(g_lo, #[.bool (ng lo.num), .slice A25 n25 c25, .slice D25 m25 d25], 26), (g_sc, #[.bool (ng sc.num), .slice A23 n23 c23], 24), (w2.heap.size, #[.bool (ng un.num), .slice A20 n20 c20, .slice D20 m20 d20], 26), (w.heap.size + 1, #[.bool (ng lo.num), .slice A25 n25 c25, .slice D25 m25 d25, .bool (ng hi.num), .slice A27 n27 c27, .slice D27 m27 d27], 28), (w.heap.size, #[.bool b1, .slice A1 n1 c1, .slice D1 m1 d1], 26)] [(D27, m27, d27, dn hi), (A27, n27, c27, limbs hi.num.natAbs), (D26, m26, d26, dn ll), (A26, n26, c26, limbs ll.num.natAbs), (D25, m25, d25, dn lo), (A25, n25, c25, limbs lo.num.natAbs), (D24, m24, d24, dn ro), (A24, n24, c24, limbs ro.num.natAbs), (none, 0, 0, dn sc), (A23, n23, c23, limbs sc.num.natAbs), (D22, m22, d22, dn pr), (A22, n22, c22, limbs pr.num.natAbs), (D21, m21, d21, dn fo), (A21, n21, c21, limbs fo.num.natAbs), (D20, m20, d20, dn un), (A20, n20, c20, limbs un.num.natAbs), (D1, m1, d1, y1), (A1, n1, c1, x1)] := S
  generalize hW18 : (World.setCell (World.setCell (World.setCell (World.setCell (World.setCell (World.setCell w17 ⟨w.heap.size + 1, 0, none⟩ (.bool (ng lo.num))) ⟨w.heap.size + 1, 1, none⟩ (.slice A25 n25 c25)) ⟨w.heap.size + 1, 2, none⟩ (.slice D25 m25 d25)) ⟨w.heap.size + 1, 3, none⟩ (.bool (ng hi.num))) ⟨w.heap.size + 1, 4, none⟩ (.slice A27 n27 c27)) ⟨w.heap.size + 1, 5, none⟩ (.slice D27 m27 d27)) = w18 at S ⊢
  clear hW18
  replace S := Lib.hid S
  replace S := S.out
  obtain ⟨c_lo0, c_lo1, c_lo2, f_lo0, f_lo1, f_lo2⟩ := S.cf3 0 rfl
  obtain ⟨c_sc0, c_sc1, f_sc0, f_sc1⟩ := S.cf2 1 rfl
  obtain ⟨c_u0, c_u1, c_u2, f_u0, f_u1, f_u2⟩ := S.cf3 2 rfl
  obtain ⟨c_r0, c_r1, c_r2, c_r3, c_r4, c_r5, f_r0, f_r1, f_r2, f_r3, f_r4, f_r5⟩ := S.cf6 3 rfl
  obtain ⟨c_v0, c_v1, c_v2, f_v0, f_v1, f_v2⟩ := S.cf3 4 rfl
  have hz : g_lo < w18.heap.size := S.lt 0 rfl
  replace S := Lib.hid S
  have S := S.out
  replace S := Lib.hid S
  go_wp2
  refine bodyPost_ret (res_root _ _ (w.heap.size + 1) 28 rfl rfl (S.out.bk _ (List.mem_of_getElem? (i := 3) rfl)).1) rfl ?_
  exact ⟨_, _, _, _, _, _, _, _, _, _, _, _, rfl, ⟨S.out.r 5 rfl, S.out.r 4 rfl⟩, ⟨S.out.r 1 rfl, S.out.r 0 rfl⟩, S.out.bel⟩
end Go.Proofs.YtidhloliahfknaaGreat
