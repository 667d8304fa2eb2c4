/- The law's fair; the law RationalIsOrdered. -/
import Derived.Test.YtgpgpkkgpedifaaGreatDoorTk
namespace Go.Proofs.YtgpgpkkgpedifaaGreatDoor
open Go.RowKit RQ
theorem sign_div {n : Int} {g : Nat} (hg : 0 < g) (hd : (g : Int) ∣ n) : (n / (g : Int)).sign = n.sign := by
  obtain ⟨k, rfl⟩ := hd
  have h1 : (g : Int).sign = 1 := Int.sign_eq_one_of_pos (by omega)
  rw [Int.mul_ediv_cancel_left _ (by omega), Int.sign_mul, h1, Int.one_mul]
theorem sign_divInt (n : Int) {d : Int} (hd : 0 < d) : (Rat.divInt n d).num.sign = n.sign := by
  rw [(divInt_pos n hd).1]
  exact sign_div (Nat.gcd_pos_of_pos_right _ (by omega)) (Int.gcd_dvd_left ..)
theorem sign_mulq (x y : Rat) : (x * y).num.sign = x.num.sign * y.num.sign := by
  rw [mul_eq, sign_divInt _ (den_mul_pos x y), Int.sign_mul]
theorem cmpq_swap (x y : Rat) : cmpq y x = -cmpq x y := by
  unfold cmpq; rw [← Int.sign_neg]; congr 1; omega
theorem cmpq_add (x y z : Rat) : cmpq (x + z) (y + z) = cmpq x y := by
  rw [cmpq_sub, cmpq_sub]
  congr 2
  rw [Rat.sub_eq_add_neg, Rat.sub_eq_add_neg, Rat.neg_add]
  rw [Rat.add_assoc, ← Rat.add_assoc z, Rat.add_comm z, Rat.add_assoc (-y), Rat.add_neg_cancel, Rat.add_zero]
theorem cmpq_mul (x y z : Rat) : cmpq (x * z) (y * z) = cmpq x y * z.num.sign := by
  rw [cmpq_sub, cmpq_sub, ← sign_mulq]
  congr 2
  rw [Rat.sub_eq_add_neg, Rat.sub_eq_add_neg, Rat.add_mul, Rat.neg_mul]
theorem sign_cases (z : Int) : z.sign = -1 ∨ z.sign = 0 ∨ z.sign = 1 := by
  rcases Int.lt_trichotomy z 0 with h | h | h
  · exact .inl (Int.sign_eq_neg_one_of_neg h)
  · subst h; exact .inr (.inl rfl)
  · exact .inr (.inr (Int.sign_eq_one_of_pos h))
theorem cmpq_cases (x y : Rat) : cmpq x y = -1 ∨ cmpq x y = 0 ∨ cmpq x y = 1 := sign_cases _
theorem cmpq_beq (x y : Rat) : (cmpq x y == 0) = decide (x = y) := by
  rw [Bool.eq_iff_iff, beq_iff_eq, decide_eq_true_iff, cmpq_zero]
theorem light_le {n m : Nat} (h : lightB n m = true) : n ≤ 500 ∧ m ≤ 500 := by
  unfold lightB at h; simp only [Bool.and_eq_true, decide_eq_true_eq] at h; omega
theorem rs_light {w : World} {b : Bool} {A : Option Addr} {n c : Nat} {xs : List Nat} {D : Option Addr} {m d : Nat} {ds : List Nat} (R1 : Rd w A n c xs) (R2 : Rd w D m d ds) (h : lightB n m = true) : Rs (rv b xs ds) 8 := by
  unfold lightB at h
  simp only [Bool.and_eq_true, decide_eq_true_eq] at h
  exact Rs.of R1.sm R2.sm (by rw [R1.len]; exact h.1) (by rw [R2.len]; exact h.2) (by decide)
def fairR (n m n' m' n'' m'' : Nat) (v1 v2 v3 : Bool) : Bool := lightB n m && (lightB n' m' && (lightB n'' m'' && (v1 && (v2 && v3))))

set_option maxHeartbeats 8000000 in
theorem fair_any (b : Bool) (A : Option Addr) (n c : Nat) (xs : List Nat) (D : Option Addr) (m d : Nat) (ds : List Nat) (b' : Bool) (A' : Option Addr) (n' c' : Nat) (ys : List Nat) (D' : Option Addr) (m' d' : Nat) (es : List Nat) (b'' : Bool) (A'' : Option Addr) (n'' c'' : Nat) (zs : List Nat) (D'' : Option Addr) (m'' d'' : Nat) (fs : List Nat) (w : World) (R1 : Rd w A n c xs) (m1 : n ≤ 9223372036854775807) (R2 : Rd w D m d ds) (m2 : m ≤ 9223372036854775807) (R3 : Rd w A' n' c' ys) (m3 : n' ≤ 9223372036854775807) (R4 : Rd w D' m' d' es) (m4 : m' ≤ 9223372036854775807) (R5 : Rd w A'' n'' c'' zs) (m5 : n'' ≤ 9223372036854775807) (R6 : Rd w D'' m'' d'' fs) (m6 : m'' ≤ 9223372036854775807) : Calls Tryz.prog 18 #[.agg #[.bool b, .slice A n c, .slice D m d], .agg #[.bool b', .slice A' n' c', .slice D' m' d'], .agg #[.bool b'', .slice A'' n'' c'', .slice D'' m'' d'']] w fun e w' => e = .returned (.bool (fairR n m n' m' n'' m'' (vldR b xs ds) (vldR b' ys es) (vldR b'' zs fs))) ∧ Below w.heap.size w w' := by
  have hL1 := fun W => lightR_any b A n c D m d W m1 m2
  have hL2 := fun W => lightR_any b' A' n' c' D' m' d' W m3 m4
  have hL3 := fun W => lightR_any b'' A'' n'' c'' D'' m'' d'' W m5 m6
  have hV1 := fun (h : lightB n m = true) W q1 q2 => rvalidR_any b A n c xs D m d ds W q1 q2 (light_le h).1 (light_le h).2
  have hV2 := fun (h : lightB n' m' = true) W q1 q2 => rvalidR_any b' A' n' c' ys D' m' d' es W q1 q2 (light_le h).1 (light_le h).2
  have hV3 := fun (h : lightB n'' m'' = true) W q1 q2 => rvalidR_any b'' A'' n'' c'' zs D'' m'' d'' fs W q1 q2 (light_le h).1 (light_le h).2
  unfold fairR
  have S : St w _ [(w.heap.size + 1 + 1, #[.bool (b''), .slice (A'') (n'') (c''), .slice (D'') (m'') (d'')], 26), (w.heap.size + 1, #[.bool (b'), .slice (A') (n') (c'), .slice (D') (m') (d')], 26), (w.heap.size, #[.bool (b), .slice (A) (n) (c), .slice (D) (m) (d)], 26)] [(D'', m'', d'', fs), (A'', n'', c'', zs), (D', m', d', es), (A', n', c', ys), (D, m, d, ds), (A, n, c, xs)] := ((((((((((St.new w).read R1).read R2).read R3).read R4).read R5).read R6).allocAt (w.heap.size) #[.bool (b), .slice (A) (n) (c), .slice (D) (m) (d)] 26 (noL3 _ _ _ _ _ _ _) (by simp)).allocAt (w.heap.size + 1) #[.bool (b'), .slice (A') (n') (c'), .slice (D') (m') (d')] 26 (noL3 _ _ _ _ _ _ _) (by simp)).allocAt (w.heap.size + 1 + 1) #[.bool (b''), .slice (A'') (n'') (c''), .slice (D'') (m'') (d'')] 26 (noL3 _ _ _ _ _ _ _) (by simp))
  replace S := Lib.hid S
  clear R1 R2 R3 R4 R5 R6 m1 m2 m3 m4 m5 m6
  cases h0 : lightB n m
  · rw [h0] at hL1
    clear hL2
    clear hL3
    clear hV1
    clear hV2
    clear hV3
    replace hL1 := Lib.hid hL1
    clear h0
    go_enter Tryz.func18, Tryz.ntmps18
    go_wp2_with fail
    refine (hL1.out _).mono ?_
    rintro e w1 ⟨rfl, bb⟩
    have T : St w w1 [(w.heap.size + 1 + 1, #[.bool (b''), .slice (A'') (n'') (c''), .slice (D'') (m'') (d'')], 26), (w.heap.size + 1, #[.bool (b'), .slice (A') (n') (c'), .slice (D') (m') (d')], 26), (w.heap.size, #[.bool (b), .slice (A) (n) (c), .slice (D) (m) (d)], 26)] [(D'', m'', d'', fs), (A'', n'', c'', zs), (D', m', d', es), (A', n', c', ys), (D, m, d, ds), (A, n, c, xs)] := (S.out.call bb)
    clear bb S
    have S := T
    clear T
    have c_z0 := S.cl 0 0 rfl rfl
    have f_z0 := S.f 0 0 rfl
    have c_z1 := S.cl 0 1 rfl rfl
    have f_z1 := S.f 0 1 rfl
    have c_z2 := S.cl 0 2 rfl rfl
    have f_z2 := S.f 0 2 rfl
    have c_y0 := S.cl 1 0 rfl rfl
    have f_y0 := S.f 1 0 rfl
    have c_y1 := S.cl 1 1 rfl rfl
    have f_y1 := S.f 1 1 rfl
    have c_y2 := S.cl 1 2 rfl rfl
    have f_y2 := S.f 1 2 rfl
    have c_x0 := S.cl 2 0 rfl rfl
    have f_x0 := S.f 2 0 rfl
    have c_x1 := S.cl 2 1 rfl rfl
    have f_x1 := S.f 2 1 rfl
    have c_x2 := S.cl 2 2 rfl rfl
    have f_x2 := S.f 2 2 rfl
    have hz : w.heap.size + 1 + 1 < w1.heap.size := S.lt 0 rfl
    replace S := Lib.hid S
    clear hL1
    have S : St w _ [(w.heap.size + 1 + 1, #[.bool (b''), .slice (A'') (n'') (c''), .slice (D'') (m'') (d'')], 26), (w.heap.size + 1, #[.bool (b'), .slice (A') (n') (c'), .slice (D') (m') (d')], 26), (w.heap.size, #[.bool (b), .slice (A) (n) (c), .slice (D) (m) (d)], 26)] [(D'', m'', d'', fs), (A'', n'', c'', zs), (D', m', d', es), (A', n', c', ys), (D, m, d, ds), (A, n, c, xs)] := S.out
    replace S := Lib.hid S
    go_wp2
    go_ret
    exact ⟨rfl, S.out.bel⟩
  rw [h0] at hL1
  replace hV1 := hV1 h0
  cases h1 : lightB n' m'
  · rw [h1] at hL2
    clear hL3
    clear hV1
    clear hV2
    clear hV3
    replace hL1 := Lib.hid hL1
    replace hL2 := Lib.hid hL2
    clear h0 h1
    go_enter Tryz.func18, Tryz.ntmps18
    go_wp2_with fail
    refine (hL1.out _).mono ?_
    rintro e w1 ⟨rfl, bb⟩
    have T : St w w1 [(w.heap.size + 1 + 1, #[.bool (b''), .slice (A'') (n'') (c''), .slice (D'') (m'') (d'')], 26), (w.heap.size + 1, #[.bool (b'), .slice (A') (n') (c'), .slice (D') (m') (d')], 26), (w.heap.size, #[.bool (b), .slice (A) (n) (c), .slice (D) (m) (d)], 26)] [(D'', m'', d'', fs), (A'', n'', c'', zs), (D', m', d', es), (A', n', c', ys), (D, m, d, ds), (A, n, c, xs)] := (S.out.call bb)
    clear bb S
    have S := T
    clear T
    have c_z0 := S.cl 0 0 rfl rfl
    have f_z0 := S.f 0 0 rfl
    have c_z1 := S.cl 0 1 rfl rfl
    have f_z1 := S.f 0 1 rfl
    have c_z2 := S.cl 0 2 rfl rfl
    have f_z2 := S.f 0 2 rfl
    have c_y0 := S.cl 1 0 rfl rfl
    have f_y0 := S.f 1 0 rfl
    have c_y1 := S.cl 1 1 rfl rfl
    have f_y1 := S.f 1 1 rfl
    have c_y2 := S.cl 1 2 rfl rfl
    have f_y2 := S.f 1 2 rfl
    have c_x0 := S.cl 2 0 rfl rfl
    have f_x0 := S.f 2 0 rfl
    have c_x1 := S.cl 2 1 rfl rfl
    have f_x1 := S.f 2 1 rfl
    have c_x2 := S.cl 2 2 rfl rfl
    have f_x2 := S.f 2 2 rfl
    have hz : w.heap.size + 1 + 1 < w1.heap.size := S.lt 0 rfl
    replace S := Lib.hid S
    clear hL1
    go_wp2_with fail
    refine (hL2.out _).mono ?_
    rintro e w2 ⟨rfl, bb⟩
    have T : St w w2 [(w.heap.size + 1 + 1, #[.bool (b''), .slice (A'') (n'') (c''), .slice (D'') (m'') (d'')], 26), (w.heap.size + 1, #[.bool (b'), .slice (A') (n') (c'), .slice (D') (m') (d')], 26), (w.heap.size, #[.bool (b), .slice (A) (n) (c), .slice (D) (m) (d)], 26)] [(D'', m'', d'', fs), (A'', n'', c'', zs), (D', m', d', es), (A', n', c', ys), (D, m, d, ds), (A, n, c, xs)] := (S.out.call bb)
    clear bb S c_z0 f_z0 c_z1 f_z1 c_z2 f_z2 c_y0 f_y0 c_y1 f_y1 c_y2 f_y2 c_x0 f_x0 c_x1 f_x1 c_x2 f_x2 hz
    have S := T
    clear T
    have c_z0 := S.cl 0 0 rfl rfl
    have f_z0 := S.f 0 0 rfl
    have c_z1 := S.cl 0 1 rfl rfl
    have f_z1 := S.f 0 1 rfl
    have c_z2 := S.cl 0 2 rfl rfl
    have f_z2 := S.f 0 2 rfl
    have c_y0 := S.cl 1 0 rfl rfl
    have f_y0 := S.f 1 0 rfl
    have c_y1 := S.cl 1 1 rfl rfl
    have f_y1 := S.f 1 1 rfl
    have c_y2 := S.cl 1 2 rfl rfl
    have f_y2 := S.f 1 2 rfl
    have c_x0 := S.cl 2 0 rfl rfl
    have f_x0 := S.f 2 0 rfl
    have c_x1 := S.cl 2 1 rfl rfl
    have f_x1 := S.f 2 1 rfl
    have c_x2 := S.cl 2 2 rfl rfl
    have f_x2 := S.f 2 2 rfl
    have hz : w.heap.size + 1 + 1 < w2.heap.size := S.lt 0 rfl
    replace S := Lib.hid S
    clear hL2
    have S : St w _ [(w.heap.size + 1 + 1, #[.bool (b''), .slice (A'') (n'') (c''), .slice (D'') (m'') (d'')], 26), (w.heap.size + 1, #[.bool (b'), .slice (A') (n') (c'), .slice (D') (m') (d')], 26), (w.heap.size, #[.bool (b), .slice (A) (n) (c), .slice (D) (m) (d)], 26)] [(D'', m'', d'', fs), (A'', n'', c'', zs), (D', m', d', es), (A', n', c', ys), (D, m, d, ds), (A, n, c, xs)] := S.out
    replace S := Lib.hid S
    go_wp2
    go_ret
    exact ⟨rfl, S.out.bel⟩
  rw [h1] at hL2
  replace hV2 := hV2 h1
  cases h2 : lightB n'' m''
  · rw [h2] at hL3
    clear hV1
    clear hV2
    clear hV3
    replace hL1 := Lib.hid hL1
    replace hL2 := Lib.hid hL2
    replace hL3 := Lib.hid hL3
    clear h0 h1 h2
    go_enter Tryz.func18, Tryz.ntmps18
    go_wp2_with fail
    refine (hL1.out _).mono ?_
    rintro e w1 ⟨rfl, bb⟩
    have T : St w w1 [(w.heap.size + 1 + 1, #[.bool (b''), .slice (A'') (n'') (c''), .slice (D'') (m'') (d'')], 26), (w.heap.size + 1, #[.bool (b'), .slice (A') (n') (c'), .slice (D') (m') (d')], 26), (w.heap.size, #[.bool (b), .slice (A) (n) (c), .slice (D) (m) (d)], 26)] [(D'', m'', d'', fs), (A'', n'', c'', zs), (D', m', d', es), (A', n', c', ys), (D, m, d, ds), (A, n, c, xs)] := (S.out.call bb)
    clear bb S
    have S := T
    clear T
    have c_z0 := S.cl 0 0 rfl rfl
    have f_z0 := S.f 0 0 rfl
    have c_z1 := S.cl 0 1 rfl rfl
    have f_z1 := S.f 0 1 rfl
    have c_z2 := S.cl 0 2 rfl rfl
    have f_z2 := S.f 0 2 rfl
    have c_y0 := S.cl 1 0 rfl rfl
    have f_y0 := S.f 1 0 rfl
    have c_y1 := S.cl 1 1 rfl rfl
    have f_y1 := S.f 1 1 rfl
    have c_y2 := S.cl 1 2 rfl rfl
    have f_y2 := S.f 1 2 rfl
    have c_x0 := S.cl 2 0 rfl rfl
    have f_x0 := S.f 2 0 rfl
    have c_x1 := S.cl 2 1 rfl rfl
    have f_x1 := S.f 2 1 rfl
    have c_x2 := S.cl 2 2 rfl rfl
    have f_x2 := S.f 2 2 rfl
    have hz : w.heap.size + 1 + 1 < w1.heap.size := S.lt 0 rfl
    replace S := Lib.hid S
    clear hL1
    go_wp2_with fail
    refine (hL2.out _).mono ?_
    rintro e w2 ⟨rfl, bb⟩
    have T : St w w2 [(w.heap.size + 1 + 1, #[.bool (b''), .slice (A'') (n'') (c''), .slice (D'') (m'') (d'')], 26), (w.heap.size + 1, #[.bool (b'), .slice (A') (n') (c'), .slice (D') (m') (d')], 26), (w.heap.size, #[.bool (b), .slice (A) (n) (c), .slice (D) (m) (d)], 26)] [(D'', m'', d'', fs), (A'', n'', c'', zs), (D', m', d', es), (A', n', c', ys), (D, m, d, ds), (A, n, c, xs)] := (S.out.call bb)
    clear bb S c_z0 f_z0 c_z1 f_z1 c_z2 f_z2 c_y0 f_y0 c_y1 f_y1 c_y2 f_y2 c_x0 f_x0 c_x1 f_x1 c_x2 f_x2 hz
    have S := T
    clear T
    have c_z0 := S.cl 0 0 rfl rfl
    have f_z0 := S.f 0 0 rfl
    have c_z1 := S.cl 0 1 rfl rfl
    have f_z1 := S.f 0 1 rfl
    have c_z2 := S.cl 0 2 rfl rfl
    have f_z2 := S.f 0 2 rfl
    have c_y0 := S.cl 1 0 rfl rfl
    have f_y0 := S.f 1 0 rfl
    have c_y1 := S.cl 1 1 rfl rfl
    have f_y1 := S.f 1 1 rfl
    have c_y2 := S.cl 1 2 rfl rfl
    have f_y2 := S.f 1 2 rfl
    have c_x0 := S.cl 2 0 rfl rfl
    have f_x0 := S.f 2 0 rfl
    have c_x1 := S.cl 2 1 rfl rfl
    have f_x1 := S.f 2 1 rfl
    have c_x2 := S.cl 2 2 rfl rfl
    have f_x2 := S.f 2 2 rfl
    have hz : w.heap.size + 1 + 1 < w2.heap.size := S.lt 0 rfl
    replace S := Lib.hid S
    clear hL2
    go_wp2_with fail
    refine (hL3.out _).mono ?_
    rintro e w3 ⟨rfl, bb⟩
    have T : St w w3 [(w.heap.size + 1 + 1, #[.bool (b''), .slice (A'') (n'') (c''), .slice (D'') (m'') (d'')], 26), (w.heap.size + 1, #[.bool (b'), .slice (A') (n') (c'), .slice (D') (m') (d')], 26), (w.heap.size, #[.bool (b), .slice (A) (n) (c), .slice (D) (m) (d)], 26)] [(D'', m'', d'', fs), (A'', n'', c'', zs), (D', m', d', es), (A', n', c', ys), (D, m, d, ds), (A, n, c, xs)] := (S.out.call bb)
    clear bb S c_z0 f_z0 c_z1 f_z1 c_z2 f_z2 c_y0 f_y0 c_y1 f_y1 c_y2 f_y2 c_x0 f_x0 c_x1 f_x1 c_x2 f_x2 hz
    have S := T
    clear T
    have c_z0 := S.cl 0 0 rfl rfl
    have f_z0 := S.f 0 0 rfl
    have c_z1 := S.cl 0 1 rfl rfl
    have f_z1 := S.f 0 1 rfl
    have c_z2 := S.cl 0 2 rfl rfl
    have f_z2 := S.f 0 2 rfl
    have c_y0 := S.cl 1 0 rfl rfl
    have f_y0 := S.f 1 0 rfl
    have c_y1 := S.cl 1 1 rfl rfl
    have f_y1 := S.f 1 1 rfl
    have c_y2 := S.cl 1 2 rfl rfl
    have f_y2 := S.f 1 2 rfl
    have c_x0 := S.cl 2 0 rfl rfl
    have f_x0 := S.f 2 0 rfl
    have c_x1 := S.cl 2 1 rfl rfl
    have f_x1 := S.f 2 1 rfl
    have c_x2 := S.cl 2 2 rfl rfl
    have f_x2 := S.f 2 2 rfl
    have hz : w.heap.size + 1 + 1 < w3.heap.size := S.lt 0 rfl
    replace S := Lib.hid S
    clear hL3
    have S : St w _ [(w.heap.size + 1 + 1, #[.bool (b''), .slice (A'') (n'') (c''), .slice (D'') (m'') (d'')], 26), (w.heap.size + 1, #[.bool (b'), .slice (A') (n') (c'), .slice (D') (m') (d')], 26), (w.heap.size, #[.bool (b), .slice (A) (n) (c), .slice (D) (m) (d)], 26)] [(D'', m'', d'', fs), (A'', n'', c'', zs), (D', m', d', es), (A', n', c', ys), (D, m, d, ds), (A, n, c, xs)] := S.out
    replace S := Lib.hid S
    go_wp2
    go_ret
    exact ⟨rfl, S.out.bel⟩
  rw [h2] at hL3
  replace hV3 := hV3 h2
  cases h3 : vldR b xs ds
  · rw [h3] at hV1
    clear hV2
    clear hV3
    replace hL1 := Lib.hid hL1
    replace hL2 := Lib.hid hL2
    replace hL3 := Lib.hid hL3
    replace hV1 := Lib.hid hV1
    clear h0 h1 h2 h3
    go_enter Tryz.func18, Tryz.ntmps18
    go_wp2_with fail
    refine (hL1.out _).mono ?_
    rintro e w1 ⟨rfl, bb⟩
    have T : St w w1 [(w.heap.size + 1 + 1, #[.bool (b''), .slice (A'') (n'') (c''), .slice (D'') (m'') (d'')], 26), (w.heap.size + 1, #[.bool (b'), .slice (A') (n') (c'), .slice (D') (m') (d')], 26), (w.heap.size, #[.bool (b), .slice (A) (n) (c), .slice (D) (m) (d)], 26)] [(D'', m'', d'', fs), (A'', n'', c'', zs), (D', m', d', es), (A', n', c', ys), (D, m, d, ds), (A, n, c, xs)] := (S.out.call bb)
    clear bb S
    have S := T
    clear T
    have c_z0 := S.cl 0 0 rfl rfl
    have f_z0 := S.f 0 0 rfl
    have c_z1 := S.cl 0 1 rfl rfl
    have f_z1 := S.f 0 1 rfl
    have c_z2 := S.cl 0 2 rfl rfl
    have f_z2 := S.f 0 2 rfl
    have c_y0 := S.cl 1 0 rfl rfl
    have f_y0 := S.f 1 0 rfl
    have c_y1 := S.cl 1 1 rfl rfl
    have f_y1 := S.f 1 1 rfl
    have c_y2 := S.cl 1 2 rfl rfl
    have f_y2 := S.f 1 2 rfl
    have c_x0 := S.cl 2 0 rfl rfl
    have f_x0 := S.f 2 0 rfl
    have c_x1 := S.cl 2 1 rfl rfl
    have f_x1 := S.f 2 1 rfl
    have c_x2 := S.cl 2 2 rfl rfl
    have f_x2 := S.f 2 2 rfl
    have hz : w.heap.size + 1 + 1 < w1.heap.size := S.lt 0 rfl
    replace S := Lib.hid S
    clear hL1
    go_wp2_with fail
    refine (hL2.out _).mono ?_
    rintro e w2 ⟨rfl, bb⟩
    have T : St w w2 [(w.heap.size + 1 + 1, #[.bool (b''), .slice (A'') (n'') (c''), .slice (D'') (m'') (d'')], 26), (w.heap.size + 1, #[.bool (b'), .slice (A') (n') (c'), .slice (D') (m') (d')], 26), (w.heap.size, #[.bool (b), .slice (A) (n) (c), .slice (D) (m) (d)], 26)] [(D'', m'', d'', fs), (A'', n'', c'', zs), (D', m', d', es), (A', n', c', ys), (D, m, d, ds), (A, n, c, xs)] := (S.out.call bb)
    clear bb S c_z0 f_z0 c_z1 f_z1 c_z2 f_z2 c_y0 f_y0 c_y1 f_y1 c_y2 f_y2 c_x0 f_x0 c_x1 f_x1 c_x2 f_x2 hz
    have S := T
    clear T
    have c_z0 := S.cl 0 0 rfl rfl
    have f_z0 := S.f 0 0 rfl
    have c_z1 := S.cl 0 1 rfl rfl
    have f_z1 := S.f 0 1 rfl
    have c_z2 := S.cl 0 2 rfl rfl
    have f_z2 := S.f 0 2 rfl
    have c_y0 := S.cl 1 0 rfl rfl
    have f_y0 := S.f 1 0 rfl
    have c_y1 := S.cl 1 1 rfl rfl
    have f_y1 := S.f 1 1 rfl
    have c_y2 := S.cl 1 2 rfl rfl
    have f_y2 := S.f 1 2 rfl
    have c_x0 := S.cl 2 0 rfl rfl
    have f_x0 := S.f 2 0 rfl
    have c_x1 := S.cl 2 1 rfl rfl
    have f_x1 := S.f 2 1 rfl
    have c_x2 := S.cl 2 2 rfl rfl
    have f_x2 := S.f 2 2 rfl
    have hz : w.heap.size + 1 + 1 < w2.heap.size := S.lt 0 rfl
    replace S := Lib.hid S
    clear hL2
    go_wp2_with fail
    refine (hL3.out _).mono ?_
    rintro e w3 ⟨rfl, bb⟩
    have T : St w w3 [(w.heap.size + 1 + 1, #[.bool (b''), .slice (A'') (n'') (c''), .slice (D'') (m'') (d'')], 26), (w.heap.size + 1, #[.bool (b'), .slice (A') (n') (c'), .slice (D') (m') (d')], 26), (w.heap.size, #[.bool (b), .slice (A) (n) (c), .slice (D) (m) (d)], 26)] [(D'', m'', d'', fs), (A'', n'', c'', zs), (D', m', d', es), (A', n', c', ys), (D, m, d, ds), (A, n, c, xs)] := (S.out.call bb)
    clear bb S c_z0 f_z0 c_z1 f_z1 c_z2 f_z2 c_y0 f_y0 c_y1 f_y1 c_y2 f_y2 c_x0 f_x0 c_x1 f_x1 c_x2 f_x2 hz
    have S := T
    clear T
    have c_z0 := S.cl 0 0 rfl rfl
    have f_z0 := S.f 0 0 rfl
    have c_z1 := S.cl 0 1 rfl rfl
    have f_z1 := S.f 0 1 rfl
    have c_z2 := S.cl 0 2 rfl rfl
    have f_z2 := S.f 0 2 rfl
    have c_y0 := S.cl 1 0 rfl rfl
    have f_y0 := S.f 1 0 rfl
    have c_y1 := S.cl 1 1 rfl rfl
    have f_y1 := S.f 1 1 rfl
    have c_y2 := S.cl 1 2 rfl rfl
    have f_y2 := S.f 1 2 rfl
    have c_x0 := S.cl 2 0 rfl rfl
    have f_x0 := S.f 2 0 rfl
    have c_x1 := S.cl 2 1 rfl rfl
    have f_x1 := S.f 2 1 rfl
    have c_x2 := S.cl 2 2 rfl rfl
    have f_x2 := S.f 2 2 rfl
    have hz : w.heap.size + 1 + 1 < w3.heap.size := S.lt 0 rfl
    replace S := Lib.hid S
    clear hL3
    go_wp2_with fail
    refine (hV1.out _ (S.out.r 5 rfl) (S.out.r 4 rfl)).mono ?_
    rintro e w4 ⟨rfl, bb⟩
    have T : St w w4 [(w.heap.size + 1 + 1, #[.bool (b''), .slice (A'') (n'') (c''), .slice (D'') (m'') (d'')], 26), (w.heap.size + 1, #[.bool (b'), .slice (A') (n') (c'), .slice (D') (m') (d')], 26), (w.heap.size, #[.bool (b), .slice (A) (n) (c), .slice (D) (m) (d)], 26)] [(D'', m'', d'', fs), (A'', n'', c'', zs), (D', m', d', es), (A', n', c', ys), (D, m, d, ds), (A, n, c, xs)] := (S.out.call bb)
    clear bb S c_z0 f_z0 c_z1 f_z1 c_z2 f_z2 c_y0 f_y0 c_y1 f_y1 c_y2 f_y2 c_x0 f_x0 c_x1 f_x1 c_x2 f_x2 hz
    have S := T
    clear T
    have c_z0 := S.cl 0 0 rfl rfl
    have f_z0 := S.f 0 0 rfl
    have c_z1 := S.cl 0 1 rfl rfl
    have f_z1 := S.f 0 1 rfl
    have c_z2 := S.cl 0 2 rfl rfl
    have f_z2 := S.f 0 2 rfl
    have c_y0 := S.cl 1 0 rfl rfl
    have f_y0 := S.f 1 0 rfl
    have c_y1 := S.cl 1 1 rfl rfl
    have f_y1 := S.f 1 1 rfl
    have c_y2 := S.cl 1 2 rfl rfl
    have f_y2 := S.f 1 2 rfl
    have c_x0 := S.cl 2 0 rfl rfl
    have f_x0 := S.f 2 0 rfl
    have c_x1 := S.cl 2 1 rfl rfl
    have f_x1 := S.f 2 1 rfl
    have c_x2 := S.cl 2 2 rfl rfl
    have f_x2 := S.f 2 2 rfl
    have hz : w.heap.size + 1 + 1 < w4.heap.size := S.lt 0 rfl
    replace S := Lib.hid S
    clear hV1
    have S : St w _ [(w.heap.size + 1 + 1, #[.bool (b''), .slice (A'') (n'') (c''), .slice (D'') (m'') (d'')], 26), (w.heap.size + 1, #[.bool (b'), .slice (A') (n') (c'), .slice (D') (m') (d')], 26), (w.heap.size, #[.bool (b), .slice (A) (n) (c), .slice (D) (m) (d)], 26)] [(D'', m'', d'', fs), (A'', n'', c'', zs), (D', m', d', es), (A', n', c', ys), (D, m, d, ds), (A, n, c, xs)] := S.out
    replace S := Lib.hid S
    go_wp2
    go_ret
    exact ⟨rfl, S.out.bel⟩
  rw [h3] at hV1
  cases h4 : vldR b' ys es
  · rw [h4] at hV2
    clear hV3
    replace hL1 := Lib.hid hL1
    replace hL2 := Lib.hid hL2
    replace hL3 := Lib.hid hL3
    replace hV1 := Lib.hid hV1
    replace hV2 := Lib.hid hV2
    clear h0 h1 h2 h3 h4
    go_enter Tryz.func18, Tryz.ntmps18
    go_wp2_with fail
    refine (hL1.out _).mono ?_
    rintro e w1 ⟨rfl, bb⟩
    have T : St w w1 [(w.heap.size + 1 + 1, #[.bool (b''), .slice (A'') (n'') (c''), .slice (D'') (m'') (d'')], 26), (w.heap.size + 1, #[.bool (b'), .slice (A') (n') (c'), .slice (D') (m') (d')], 26), (w.heap.size, #[.bool (b), .slice (A) (n) (c), .slice (D) (m) (d)], 26)] [(D'', m'', d'', fs), (A'', n'', c'', zs), (D', m', d', es), (A', n', c', ys), (D, m, d, ds), (A, n, c, xs)] := (S.out.call bb)
    clear bb S
    have S := T
    clear T
    have c_z0 := S.cl 0 0 rfl rfl
    have f_z0 := S.f 0 0 rfl
    have c_z1 := S.cl 0 1 rfl rfl
    have f_z1 := S.f 0 1 rfl
    have c_z2 := S.cl 0 2 rfl rfl
    have f_z2 := S.f 0 2 rfl
    have c_y0 := S.cl 1 0 rfl rfl
    have f_y0 := S.f 1 0 rfl
    have c_y1 := S.cl 1 1 rfl rfl
    have f_y1 := S.f 1 1 rfl
    have c_y2 := S.cl 1 2 rfl rfl
    have f_y2 := S.f 1 2 rfl
    have c_x0 := S.cl 2 0 rfl rfl
    have f_x0 := S.f 2 0 rfl
    have c_x1 := S.cl 2 1 rfl rfl
    have f_x1 := S.f 2 1 rfl
    have c_x2 := S.cl 2 2 rfl rfl
    have f_x2 := S.f 2 2 rfl
    have hz : w.heap.size + 1 + 1 < w1.heap.size := S.lt 0 rfl
    replace S := Lib.hid S
    clear hL1
    go_wp2_with fail
    refine (hL2.out _).mono ?_
    rintro e w2 ⟨rfl, bb⟩
    have T : St w w2 [(w.heap.size + 1 + 1, #[.bool (b''), .slice (A'') (n'') (c''), .slice (D'') (m'') (d'')], 26), (w.heap.size + 1, #[.bool (b'), .slice (A') (n') (c'), .slice (D') (m') (d')], 26), (w.heap.size, #[.bool (b), .slice (A) (n) (c), .slice (D) (m) (d)], 26)] [(D'', m'', d'', fs), (A'', n'', c'', zs), (D', m', d', es), (A', n', c', ys), (D, m, d, ds), (A, n, c, xs)] := (S.out.call bb)
    clear bb S c_z0 f_z0 c_z1 f_z1 c_z2 f_z2 c_y0 f_y0 c_y1 f_y1 c_y2 f_y2 c_x0 f_x0 c_x1 f_x1 c_x2 f_x2 hz
    have S := T
    clear T
    have c_z0 := S.cl 0 0 rfl rfl
    have f_z0 := S.f 0 0 rfl
    have c_z1 := S.cl 0 1 rfl rfl
    have f_z1 := S.f 0 1 rfl
    have c_z2 := S.cl 0 2 rfl rfl
    have f_z2 := S.f 0 2 rfl
    have c_y0 := S.cl 1 0 rfl rfl
    have f_y0 := S.f 1 0 rfl
    have c_y1 := S.cl 1 1 rfl rfl
    have f_y1 := S.f 1 1 rfl
    have c_y2 := S.cl 1 2 rfl rfl
    have f_y2 := S.f 1 2 rfl
    have c_x0 := S.cl 2 0 rfl rfl
    have f_x0 := S.f 2 0 rfl
    have c_x1 := S.cl 2 1 rfl rfl
    have f_x1 := S.f 2 1 rfl
    have c_x2 := S.cl 2 2 rfl rfl
    have f_x2 := S.f 2 2 rfl
    have hz : w.heap.size + 1 + 1 < w2.heap.size := S.lt 0 rfl
    replace S := Lib.hid S
    clear hL2
    go_wp2_with fail
    refine (hL3.out _).mono ?_
    rintro e w3 ⟨rfl, bb⟩
    have T : St w w3 [(w.heap.size + 1 + 1, #[.bool (b''), .slice (A'') (n'') (c''), .slice (D'') (m'') (d'')], 26), (w.heap.size + 1, #[.bool (b'), .slice (A') (n') (c'), .slice (D') (m') (d')], 26), (w.heap.size, #[.bool (b), .slice (A) (n) (c), .slice (D) (m) (d)], 26)] [(D'', m'', d'', fs), (A'', n'', c'', zs), (D', m', d', es), (A', n', c', ys), (D, m, d, ds), (A, n, c, xs)] := (S.out.call bb)
    clear bb S c_z0 f_z0 c_z1 f_z1 c_z2 f_z2 c_y0 f_y0 c_y1 f_y1 c_y2 f_y2 c_x0 f_x0 c_x1 f_x1 c_x2 f_x2 hz
    have S := T
    clear T
    have c_z0 := S.cl 0 0 rfl rfl
    have f_z0 := S.f 0 0 rfl
    have c_z1 := S.cl 0 1 rfl rfl
    have f_z1 := S.f 0 1 rfl
    have c_z2 := S.cl 0 2 rfl rfl
    have f_z2 := S.f 0 2 rfl
    have c_y0 := S.cl 1 0 rfl rfl
    have f_y0 := S.f 1 0 rfl
    have c_y1 := S.cl 1 1 rfl rfl
    have f_y1 := S.f 1 1 rfl
    have c_y2 := S.cl 1 2 rfl rfl
    have f_y2 := S.f 1 2 rfl
    have c_x0 := S.cl 2 0 rfl rfl
    have f_x0 := S.f 2 0 rfl
    have c_x1 := S.cl 2 1 rfl rfl
    have f_x1 := S.f 2 1 rfl
    have c_x2 := S.cl 2 2 rfl rfl
    have f_x2 := S.f 2 2 rfl
    have hz : w.heap.size + 1 + 1 < w3.heap.size := S.lt 0 rfl
    replace S := Lib.hid S
    clear hL3
    go_wp2_with fail
    refine (hV1.out _ (S.out.r 5 rfl) (S.out.r 4 rfl)).mono ?_
    rintro e w4 ⟨rfl, bb⟩
    have T : St w w4 [(w.heap.size + 1 + 1, #[.bool (b''), .slice (A'') (n'') (c''), .slice (D'') (m'') (d'')], 26), (w.heap.size + 1, #[.bool (b'), .slice (A') (n') (c'), .slice (D') (m') (d')], 26), (w.heap.size, #[.bool (b), .slice (A) (n) (c), .slice (D) (m) (d)], 26)] [(D'', m'', d'', fs), (A'', n'', c'', zs), (D', m', d', es), (A', n', c', ys), (D, m, d, ds), (A, n, c, xs)] := (S.out.call bb)
    clear bb S c_z0 f_z0 c_z1 f_z1 c_z2 f_z2 c_y0 f_y0 c_y1 f_y1 c_y2 f_y2 c_x0 f_x0 c_x1 f_x1 c_x2 f_x2 hz
    have S := T
    clear T
    have c_z0 := S.cl 0 0 rfl rfl
    have f_z0 := S.f 0 0 rfl
    have c_z1 := S.cl 0 1 rfl rfl
    have f_z1 := S.f 0 1 rfl
    have c_z2 := S.cl 0 2 rfl rfl
    have f_z2 := S.f 0 2 rfl
    have c_y0 := S.cl 1 0 rfl rfl
    have f_y0 := S.f 1 0 rfl
    have c_y1 := S.cl 1 1 rfl rfl
    have f_y1 := S.f 1 1 rfl
    have c_y2 := S.cl 1 2 rfl rfl
    have f_y2 := S.f 1 2 rfl
    have c_x0 := S.cl 2 0 rfl rfl
    have f_x0 := S.f 2 0 rfl
    have c_x1 := S.cl 2 1 rfl rfl
    have f_x1 := S.f 2 1 rfl
    have c_x2 := S.cl 2 2 rfl rfl
    have f_x2 := S.f 2 2 rfl
    have hz : w.heap.size + 1 + 1 < w4.heap.size := S.lt 0 rfl
    replace S := Lib.hid S
    clear hV1
    go_wp2_with fail
    refine (hV2.out _ (S.out.r 3 rfl) (S.out.r 2 rfl)).mono ?_
    rintro e w5 ⟨rfl, bb⟩
    have T : St w w5 [(w.heap.size + 1 + 1, #[.bool (b''), .slice (A'') (n'') (c''), .slice (D'') (m'') (d'')], 26), (w.heap.size + 1, #[.bool (b'), .slice (A') (n') (c'), .slice (D') (m') (d')], 26), (w.heap.size, #[.bool (b), .slice (A) (n) (c), .slice (D) (m) (d)], 26)] [(D'', m'', d'', fs), (A'', n'', c'', zs), (D', m', d', es), (A', n', c', ys), (D, m, d, ds), (A, n, c, xs)] := (S.out.call bb)
    clear bb S c_z0 f_z0 c_z1 f_z1 c_z2 f_z2 c_y0 f_y0 c_y1 f_y1 c_y2 f_y2 c_x0 f_x0 c_x1 f_x1 c_x2 f_x2 hz
    have S := T
    clear T
    have c_z0 := S.cl 0 0 rfl rfl
    have f_z0 := S.f 0 0 rfl
    have c_z1 := S.cl 0 1 rfl rfl
    have f_z1 := S.f 0 1 rfl
    have c_z2 := S.cl 0 2 rfl rfl
    have f_z2 := S.f 0 2 rfl
    have c_y0 := S.cl 1 0 rfl rfl
    have f_y0 := S.f 1 0 rfl
    have c_y1 := S.cl 1 1 rfl rfl
    have f_y1 := S.f 1 1 rfl
    have c_y2 := S.cl 1 2 rfl rfl
    have f_y2 := S.f 1 2 rfl
    have c_x0 := S.cl 2 0 rfl rfl
    have f_x0 := S.f 2 0 rfl
    have c_x1 := S.cl 2 1 rfl rfl
    have f_x1 := S.f 2 1 rfl
    have c_x2 := S.cl 2 2 rfl rfl
    have f_x2 := S.f 2 2 rfl
    have hz : w.heap.size + 1 + 1 < w5.heap.size := S.lt 0 rfl
    replace S := Lib.hid S
    clear hV2
    have S : St w _ [(w.heap.size + 1 + 1, #[.bool (b''), .slice (A'') (n'') (c''), .slice (D'') (m'') (d'')], 26), (w.heap.size + 1, #[.bool (b'), .slice (A') (n') (c'), .slice (D') (m') (d')], 26), (w.heap.size, #[.bool (b), .slice (A) (n) (c), .slice (D) (m) (d)], 26)] [(D'', m'', d'', fs), (A'', n'', c'', zs), (D', m', d', es), (A', n', c', ys), (D, m, d, ds), (A, n, c, xs)] := S.out
    replace S := Lib.hid S
    go_wp2
    go_ret
    exact ⟨rfl, S.out.bel⟩
  rw [h4] at hV2
  cases h5 : vldR b'' zs fs
  · rw [h5] at hV3
    replace hL1 := Lib.hid hL1
    replace hL2 := Lib.hid hL2
    replace hL3 := Lib.hid hL3
    replace hV1 := Lib.hid hV1
    replace hV2 := Lib.hid hV2
    replace hV3 := Lib.hid hV3
    clear h0 h1 h2 h3 h4 h5
    go_enter Tryz.func18, Tryz.ntmps18
    go_wp2_with fail
    refine (hL1.out _).mono ?_
    rintro e w1 ⟨rfl, bb⟩
    have T : St w w1 [(w.heap.size + 1 + 1, #[.bool (b''), .slice (A'') (n'') (c''), .slice (D'') (m'') (d'')], 26), (w.heap.size + 1, #[.bool (b'), .slice (A') (n') (c'), .slice (D') (m') (d')], 26), (w.heap.size, #[.bool (b), .slice (A) (n) (c), .slice (D) (m) (d)], 26)] [(D'', m'', d'', fs), (A'', n'', c'', zs), (D', m', d', es), (A', n', c', ys), (D, m, d, ds), (A, n, c, xs)] := (S.out.call bb)
    clear bb S
    have S := T
    clear T
    have c_z0 := S.cl 0 0 rfl rfl
    have f_z0 := S.f 0 0 rfl
    have c_z1 := S.cl 0 1 rfl rfl
    have f_z1 := S.f 0 1 rfl
    have c_z2 := S.cl 0 2 rfl rfl
    have f_z2 := S.f 0 2 rfl
    have c_y0 := S.cl 1 0 rfl rfl
    have f_y0 := S.f 1 0 rfl
    have c_y1 := S.cl 1 1 rfl rfl
    have f_y1 := S.f 1 1 rfl
    have c_y2 := S.cl 1 2 rfl rfl
    have f_y2 := S.f 1 2 rfl
    have c_x0 := S.cl 2 0 rfl rfl
    have f_x0 := S.f 2 0 rfl
    have c_x1 := S.cl 2 1 rfl rfl
    have f_x1 := S.f 2 1 rfl
    have c_x2 := S.cl 2 2 rfl rfl
    have f_x2 := S.f 2 2 rfl
    have hz : w.heap.size + 1 + 1 < w1.heap.size := S.lt 0 rfl
    replace S := Lib.hid S
    clear hL1
    go_wp2_with fail
    refine (hL2.out _).mono ?_
    rintro e w2 ⟨rfl, bb⟩
    have T : St w w2 [(w.heap.size + 1 + 1, #[.bool (b''), .slice (A'') (n'') (c''), .slice (D'') (m'') (d'')], 26), (w.heap.size + 1, #[.bool (b'), .slice (A') (n') (c'), .slice (D') (m') (d')], 26), (w.heap.size, #[.bool (b), .slice (A) (n) (c), .slice (D) (m) (d)], 26)] [(D'', m'', d'', fs), (A'', n'', c'', zs), (D', m', d', es), (A', n', c', ys), (D, m, d, ds), (A, n, c, xs)] := (S.out.call bb)
    clear bb S c_z0 f_z0 c_z1 f_z1 c_z2 f_z2 c_y0 f_y0 c_y1 f_y1 c_y2 f_y2 c_x0 f_x0 c_x1 f_x1 c_x2 f_x2 hz
    have S := T
    clear T
    have c_z0 := S.cl 0 0 rfl rfl
    have f_z0 := S.f 0 0 rfl
    have c_z1 := S.cl 0 1 rfl rfl
    have f_z1 := S.f 0 1 rfl
    have c_z2 := S.cl 0 2 rfl rfl
    have f_z2 := S.f 0 2 rfl
    have c_y0 := S.cl 1 0 rfl rfl
    have f_y0 := S.f 1 0 rfl
    have c_y1 := S.cl 1 1 rfl rfl
    have f_y1 := S.f 1 1 rfl
    have c_y2 := S.cl 1 2 rfl rfl
    have f_y2 := S.f 1 2 rfl
    have c_x0 := S.cl 2 0 rfl rfl
    have f_x0 := S.f 2 0 rfl
    have c_x1 := S.cl 2 1 rfl rfl
    have f_x1 := S.f 2 1 rfl
    have c_x2 := S.cl 2 2 rfl rfl
    have f_x2 := S.f 2 2 rfl
    have hz : w.heap.size + 1 + 1 < w2.heap.size := S.lt 0 rfl
    replace S := Lib.hid S
    clear hL2
    go_wp2_with fail
    refine (hL3.out _).mono ?_
    rintro e w3 ⟨rfl, bb⟩
    have T : St w w3 [(w.heap.size + 1 + 1, #[.bool (b''), .slice (A'') (n'') (c''), .slice (D'') (m'') (d'')], 26), (w.heap.size + 1, #[.bool (b'), .slice (A') (n') (c'), .slice (D') (m') (d')], 26), (w.heap.size, #[.bool (b), .slice (A) (n) (c), .slice (D) (m) (d)], 26)] [(D'', m'', d'', fs), (A'', n'', c'', zs), (D', m', d', es), (A', n', c', ys), (D, m, d, ds), (A, n, c, xs)] := (S.out.call bb)
    clear bb S c_z0 f_z0 c_z1 f_z1 c_z2 f_z2 c_y0 f_y0 c_y1 f_y1 c_y2 f_y2 c_x0 f_x0 c_x1 f_x1 c_x2 f_x2 hz
    have S := T
    clear T
    have c_z0 := S.cl 0 0 rfl rfl
    have f_z0 := S.f 0 0 rfl
    have c_z1 := S.cl 0 1 rfl rfl
    have f_z1 := S.f 0 1 rfl
    have c_z2 := S.cl 0 2 rfl rfl
    have f_z2 := S.f 0 2 rfl
    have c_y0 := S.cl 1 0 rfl rfl
    have f_y0 := S.f 1 0 rfl
    have c_y1 := S.cl 1 1 rfl rfl
    have f_y1 := S.f 1 1 rfl
    have c_y2 := S.cl 1 2 rfl rfl
    have f_y2 := S.f 1 2 rfl
    have c_x0 := S.cl 2 0 rfl rfl
    have f_x0 := S.f 2 0 rfl
    have c_x1 := S.cl 2 1 rfl rfl
    have f_x1 := S.f 2 1 rfl
    have c_x2 := S.cl 2 2 rfl rfl
    have f_x2 := S.f 2 2 rfl
    have hz : w.heap.size + 1 + 1 < w3.heap.size := S.lt 0 rfl
    replace S := Lib.hid S
    clear hL3
    go_wp2_with fail
    refine (hV1.out _ (S.out.r 5 rfl) (S.out.r 4 rfl)).mono ?_
    rintro e w4 ⟨rfl, bb⟩
    have T : St w w4 [(w.heap.size + 1 + 1, #[.bool (b''), .slice (A'') (n'') (c''), .slice (D'') (m'') (d'')], 26), (w.heap.size + 1, #[.bool (b'), .slice (A') (n') (c'), .slice (D') (m') (d')], 26), (w.heap.size, #[.bool (b), .slice (A) (n) (c), .slice (D) (m) (d)], 26)] [(D'', m'', d'', fs), (A'', n'', c'', zs), (D', m', d', es), (A', n', c', ys), (D, m, d, ds), (A, n, c, xs)] := (S.out.call bb)
    clear bb S c_z0 f_z0 c_z1 f_z1 c_z2 f_z2 c_y0 f_y0 c_y1 f_y1 c_y2 f_y2 c_x0 f_x0 c_x1 f_x1 c_x2 f_x2 hz
    have S := T
    clear T
    have c_z0 := S.cl 0 0 rfl rfl
    have f_z0 := S.f 0 0 rfl
    have c_z1 := S.cl 0 1 rfl rfl
    have f_z1 := S.f 0 1 rfl
    have c_z2 := S.cl 0 2 rfl rfl
    have f_z2 := S.f 0 2 rfl
    have c_y0 := S.cl 1 0 rfl rfl
    have f_y0 := S.f 1 0 rfl
    have c_y1 := S.cl 1 1 rfl rfl
    have f_y1 := S.f 1 1 rfl
    have c_y2 := S.cl 1 2 rfl rfl
    have f_y2 := S.f 1 2 rfl
    have c_x0 := S.cl 2 0 rfl rfl
    have f_x0 := S.f 2 0 rfl
    have c_x1 := S.cl 2 1 rfl rfl
    have f_x1 := S.f 2 1 rfl
    have c_x2 := S.cl 2 2 rfl rfl
    have f_x2 := S.f 2 2 rfl
    have hz : w.heap.size + 1 + 1 < w4.heap.size := S.lt 0 rfl
    replace S := Lib.hid S
    clear hV1
    go_wp2_with fail
    refine (hV2.out _ (S.out.r 3 rfl) (S.out.r 2 rfl)).mono ?_
    rintro e w5 ⟨rfl, bb⟩
    have T : St w w5 [(w.heap.size + 1 + 1, #[.bool (b''), .slice (A'') (n'') (c''), .slice (D'') (m'') (d'')], 26), (w.heap.size + 1, #[.bool (b'), .slice (A') (n') (c'), .slice (D') (m') (d')], 26), (w.heap.size, #[.bool (b), .slice (A) (n) (c), .slice (D) (m) (d)], 26)] [(D'', m'', d'', fs), (A'', n'', c'', zs), (D', m', d', es), (A', n', c', ys), (D, m, d, ds), (A, n, c, xs)] := (S.out.call bb)
    clear bb S c_z0 f_z0 c_z1 f_z1 c_z2 f_z2 c_y0 f_y0 c_y1 f_y1 c_y2 f_y2 c_x0 f_x0 c_x1 f_x1 c_x2 f_x2 hz
    have S := T
    clear T
    have c_z0 := S.cl 0 0 rfl rfl
    have f_z0 := S.f 0 0 rfl
    have c_z1 := S.cl 0 1 rfl rfl
    have f_z1 := S.f 0 1 rfl
    have c_z2 := S.cl 0 2 rfl rfl
    have f_z2 := S.f 0 2 rfl
    have c_y0 := S.cl 1 0 rfl rfl
    have f_y0 := S.f 1 0 rfl
    have c_y1 := S.cl 1 1 rfl rfl
    have f_y1 := S.f 1 1 rfl
    have c_y2 := S.cl 1 2 rfl rfl
    have f_y2 := S.f 1 2 rfl
    have c_x0 := S.cl 2 0 rfl rfl
    have f_x0 := S.f 2 0 rfl
    have c_x1 := S.cl 2 1 rfl rfl
    have f_x1 := S.f 2 1 rfl
    have c_x2 := S.cl 2 2 rfl rfl
    have f_x2 := S.f 2 2 rfl
    have hz : w.heap.size + 1 + 1 < w5.heap.size := S.lt 0 rfl
    replace S := Lib.hid S
    clear hV2
    go_wp2_with fail
    refine (hV3.out _ (S.out.r 1 rfl) (S.out.r 0 rfl)).mono ?_
    rintro e w6 ⟨rfl, bb⟩
    have T : St w w6 [(w.heap.size + 1 + 1, #[.bool (b''), .slice (A'') (n'') (c''), .slice (D'') (m'') (d'')], 26), (w.heap.size + 1, #[.bool (b'), .slice (A') (n') (c'), .slice (D') (m') (d')], 26), (w.heap.size, #[.bool (b), .slice (A) (n) (c), .slice (D) (m) (d)], 26)] [(D'', m'', d'', fs), (A'', n'', c'', zs), (D', m', d', es), (A', n', c', ys), (D, m, d, ds), (A, n, c, xs)] := (S.out.call bb)
    clear bb S c_z0 f_z0 c_z1 f_z1 c_z2 f_z2 c_y0 f_y0 c_y1 f_y1 c_y2 f_y2 c_x0 f_x0 c_x1 f_x1 c_x2 f_x2 hz
    have S := T
    clear T
    have c_z0 := S.cl 0 0 rfl rfl
    have f_z0 := S.f 0 0 rfl
    have c_z1 := S.cl 0 1 rfl rfl
    have f_z1 := S.f 0 1 rfl
    have c_z2 := S.cl 0 2 rfl rfl
    have f_z2 := S.f 0 2 rfl
    have c_y0 := S.cl 1 0 rfl rfl
    have f_y0 := S.f 1 0 rfl
    have c_y1 := S.cl 1 1 rfl rfl
    have f_y1 := S.f 1 1 rfl
    have c_y2 := S.cl 1 2 rfl rfl
    have f_y2 := S.f 1 2 rfl
    have c_x0 := S.cl 2 0 rfl rfl
    have f_x0 := S.f 2 0 rfl
    have c_x1 := S.cl 2 1 rfl rfl
    have f_x1 := S.f 2 1 rfl
    have c_x2 := S.cl 2 2 rfl rfl
    have f_x2 := S.f 2 2 rfl
    have hz : w.heap.size + 1 + 1 < w6.heap.size := S.lt 0 rfl
    replace S := Lib.hid S
    clear hV3
    have S : St w _ [(w.heap.size + 1 + 1, #[.bool (b''), .slice (A'') (n'') (c''), .slice (D'') (m'') (d'')], 26), (w.heap.size + 1, #[.bool (b'), .slice (A') (n') (c'), .slice (D') (m') (d')], 26), (w.heap.size, #[.bool (b), .slice (A) (n) (c), .slice (D) (m) (d)], 26)] [(D'', m'', d'', fs), (A'', n'', c'', zs), (D', m', d', es), (A', n', c', ys), (D, m, d, ds), (A, n, c, xs)] := S.out
    replace S := Lib.hid S
    go_wp2
    go_ret
    exact ⟨rfl, S.out.bel⟩
  rw [h5] at hV3
  replace hL1 := Lib.hid hL1
  replace hL2 := Lib.hid hL2
  replace hL3 := Lib.hid hL3
  replace hV1 := Lib.hid hV1
  replace hV2 := Lib.hid hV2
  replace hV3 := Lib.hid hV3
  clear h0 h1 h2 h3 h4 h5
  go_enter Tryz.func18, Tryz.ntmps18
  go_wp2_with fail
  refine (hL1.out _).mono ?_
  rintro e w1 ⟨rfl, bb⟩
  have T : St w w1 [(w.heap.size + 1 + 1, #[.bool (b''), .slice (A'') (n'') (c''), .slice (D'') (m'') (d'')], 26), (w.heap.size + 1, #[.bool (b'), .slice (A') (n') (c'), .slice (D') (m') (d')], 26), (w.heap.size, #[.bool (b), .slice (A) (n) (c), .slice (D) (m) (d)], 26)] [(D'', m'', d'', fs), (A'', n'', c'', zs), (D', m', d', es), (A', n', c', ys), (D, m, d, ds), (A, n, c, xs)] := (S.out.call bb)
  clear bb S
  have S := T
  clear T
  have c_z0 := S.cl 0 0 rfl rfl
  have f_z0 := S.f 0 0 rfl
  have c_z1 := S.cl 0 1 rfl rfl
  have f_z1 := S.f 0 1 rfl
  have c_z2 := S.cl 0 2 rfl rfl
  have f_z2 := S.f 0 2 rfl
  have c_y0 := S.cl 1 0 rfl rfl
  have f_y0 := S.f 1 0 rfl
  have c_y1 := S.cl 1 1 rfl rfl
  have f_y1 := S.f 1 1 rfl
  have c_y2 := S.cl 1 2 rfl rfl
  have f_y2 := S.f 1 2 rfl
  have c_x0 := S.cl 2 0 rfl rfl
  have f_x0 := S.f 2 0 rfl
  have c_x1 := S.cl 2 1 rfl rfl
  have f_x1 := S.f 2 1 rfl
  have c_x2 := S.cl 2 2 rfl rfl
  have f_x2 := S.f 2 2 rfl
  have hz : w.heap.size + 1 + 1 < w1.heap.size := S.lt 0 rfl
  replace S := Lib.hid S
  clear hL1
  go_wp2_with fail
  refine (hL2.out _).mono ?_
  rintro e w2 ⟨rfl, bb⟩
  have T : St w w2 [(w.heap.size + 1 + 1, #[.bool (b''), .slice (A'') (n'') (c''), .slice (D'') (m'') (d'')], 26), (w.heap.size + 1, #[.bool (b'), .slice (A') (n') (c'), .slice (D') (m') (d')], 26), (w.heap.size, #[.bool (b), .slice (A) (n) (c), .slice (D) (m) (d)], 26)] [(D'', m'', d'', fs), (A'', n'', c'', zs), (D', m', d', es), (A', n', c', ys), (D, m, d, ds), (A, n, c, xs)] := (S.out.call bb)
  clear bb S c_z0 f_z0 c_z1 f_z1 c_z2 f_z2 c_y0 f_y0 c_y1 f_y1 c_y2 f_y2 c_x0 f_x0 c_x1 f_x1 c_x2 f_x2 hz
  have S := T
  clear T
  have c_z0 := S.cl 0 0 rfl rfl
  have f_z0 := S.f 0 0 rfl
  have c_z1 := S.cl 0 1 rfl rfl
  have f_z1 := S.f 0 1 rfl
  have c_z2 := S.cl 0 2 rfl rfl
  have f_z2 := S.f 0 2 rfl
  have c_y0 := S.cl 1 0 rfl rfl
  have f_y0 := S.f 1 0 rfl
  have c_y1 := S.cl 1 1 rfl rfl
  have f_y1 := S.f 1 1 rfl
  have c_y2 := S.cl 1 2 rfl rfl
  have f_y2 := S.f 1 2 rfl
  have c_x0 := S.cl 2 0 rfl rfl
  have f_x0 := S.f 2 0 rfl
  have c_x1 := S.cl 2 1 rfl rfl
  have f_x1 := S.f 2 1 rfl
  have c_x2 := S.cl 2 2 rfl rfl
  have f_x2 := S.f 2 2 rfl
  have hz : w.heap.size + 1 + 1 < w2.heap.size := S.lt 0 rfl
  replace S := Lib.hid S
  clear hL2
  go_wp2_with fail
  refine (hL3.out _).mono ?_
  rintro e w3 ⟨rfl, bb⟩
  have T : St w w3 [(w.heap.size + 1 + 1, #[.bool (b''), .slice (A'') (n'') (c''), .slice (D'') (m'') (d'')], 26), (w.heap.size + 1, #[.bool (b'), .slice (A') (n') (c'), .slice (D') (m') (d')], 26), (w.heap.size, #[.bool (b), .slice (A) (n) (c), .slice (D) (m) (d)], 26)] [(D'', m'', d'', fs), (A'', n'', c'', zs), (D', m', d', es), (A', n', c', ys), (D, m, d, ds), (A, n, c, xs)] := (S.out.call bb)
  clear bb S c_z0 f_z0 c_z1 f_z1 c_z2 f_z2 c_y0 f_y0 c_y1 f_y1 c_y2 f_y2 c_x0 f_x0 c_x1 f_x1 c_x2 f_x2 hz
  have S := T
  clear T
  have c_z0 := S.cl 0 0 rfl rfl
  have f_z0 := S.f 0 0 rfl
  have c_z1 := S.cl 0 1 rfl rfl
  have f_z1 := S.f 0 1 rfl
  have c_z2 := S.cl 0 2 rfl rfl
  have f_z2 := S.f 0 2 rfl
  have c_y0 := S.cl 1 0 rfl rfl
  have f_y0 := S.f 1 0 rfl
  have c_y1 := S.cl 1 1 rfl rfl
  have f_y1 := S.f 1 1 rfl
  have c_y2 := S.cl 1 2 rfl rfl
  have f_y2 := S.f 1 2 rfl
  have c_x0 := S.cl 2 0 rfl rfl
  have f_x0 := S.f 2 0 rfl
  have c_x1 := S.cl 2 1 rfl rfl
  have f_x1 := S.f 2 1 rfl
  have c_x2 := S.cl 2 2 rfl rfl
  have f_x2 := S.f 2 2 rfl
  have hz : w.heap.size + 1 + 1 < w3.heap.size := S.lt 0 rfl
  replace S := Lib.hid S
  clear hL3
  go_wp2_with fail
  refine (hV1.out _ (S.out.r 5 rfl) (S.out.r 4 rfl)).mono ?_
  rintro e w4 ⟨rfl, bb⟩
  have T : St w w4 [(w.heap.size + 1 + 1, #[.bool (b''), .slice (A'') (n'') (c''), .slice (D'') (m'') (d'')], 26), (w.heap.size + 1, #[.bool (b'), .slice (A') (n') (c'), .slice (D') (m') (d')], 26), (w.heap.size, #[.bool (b), .slice (A) (n) (c), .slice (D) (m) (d)], 26)] [(D'', m'', d'', fs), (A'', n'', c'', zs), (D', m', d', es), (A', n', c', ys), (D, m, d, ds), (A, n, c, xs)] := (S.out.call bb)
  clear bb S c_z0 f_z0 c_z1 f_z1 c_z2 f_z2 c_y0 f_y0 c_y1 f_y1 c_y2 f_y2 c_x0 f_x0 c_x1 f_x1 c_x2 f_x2 hz
  have S := T
  clear T
  have c_z0 := S.cl 0 0 rfl rfl
  have f_z0 := S.f 0 0 rfl
  have c_z1 := S.cl 0 1 rfl rfl
  have f_z1 := S.f 0 1 rfl
  have c_z2 := S.cl 0 2 rfl rfl
  have f_z2 := S.f 0 2 rfl
  have c_y0 := S.cl 1 0 rfl rfl
  have f_y0 := S.f 1 0 rfl
  have c_y1 := S.cl 1 1 rfl rfl
  have f_y1 := S.f 1 1 rfl
  have c_y2 := S.cl 1 2 rfl rfl
  have f_y2 := S.f 1 2 rfl
  have c_x0 := S.cl 2 0 rfl rfl
  have f_x0 := S.f 2 0 rfl
  have c_x1 := S.cl 2 1 rfl rfl
  have f_x1 := S.f 2 1 rfl
  have c_x2 := S.cl 2 2 rfl rfl
  have f_x2 := S.f 2 2 rfl
  have hz : w.heap.size + 1 + 1 < w4.heap.size := S.lt 0 rfl
  replace S := Lib.hid S
  clear hV1
  go_wp2_with fail
  refine (hV2.out _ (S.out.r 3 rfl) (S.out.r 2 rfl)).mono ?_
  rintro e w5 ⟨rfl, bb⟩
  have T : St w w5 [(w.heap.size + 1 + 1, #[.bool (b''), .slice (A'') (n'') (c''), .slice (D'') (m'') (d'')], 26), (w.heap.size + 1, #[.bool (b'), .slice (A') (n') (c'), .slice (D') (m') (d')], 26), (w.heap.size, #[.bool (b), .slice (A) (n) (c), .slice (D) (m) (d)], 26)] [(D'', m'', d'', fs), (A'', n'', c'', zs), (D', m', d', es), (A', n', c', ys), (D, m, d, ds), (A, n, c, xs)] := (S.out.call bb)
  clear bb S c_z0 f_z0 c_z1 f_z1 c_z2 f_z2 c_y0 f_y0 c_y1 f_y1 c_y2 f_y2 c_x0 f_x0 c_x1 f_x1 c_x2 f_x2 hz
  have S := T
  clear T
  have c_z0 := S.cl 0 0 rfl rfl
  have f_z0 := S.f 0 0 rfl
  have c_z1 := S.cl 0 1 rfl rfl
  have f_z1 := S.f 0 1 rfl
  have c_z2 := S.cl 0 2 rfl rfl
  have f_z2 := S.f 0 2 rfl
  have c_y0 := S.cl 1 0 rfl rfl
  have f_y0 := S.f 1 0 rfl
  have c_y1 := S.cl 1 1 rfl rfl
  have f_y1 := S.f 1 1 rfl
  have c_y2 := S.cl 1 2 rfl rfl
  have f_y2 := S.f 1 2 rfl
  have c_x0 := S.cl 2 0 rfl rfl
  have f_x0 := S.f 2 0 rfl
  have c_x1 := S.cl 2 1 rfl rfl
  have f_x1 := S.f 2 1 rfl
  have c_x2 := S.cl 2 2 rfl rfl
  have f_x2 := S.f 2 2 rfl
  have hz : w.heap.size + 1 + 1 < w5.heap.size := S.lt 0 rfl
  replace S := Lib.hid S
  clear hV2
  go_wp2_with fail
  refine (hV3.out _ (S.out.r 1 rfl) (S.out.r 0 rfl)).mono ?_
  rintro e w6 ⟨rfl, bb⟩
  have T : St w w6 [(w.heap.size + 1 + 1, #[.bool (b''), .slice (A'') (n'') (c''), .slice (D'') (m'') (d'')], 26), (w.heap.size + 1, #[.bool (b'), .slice (A') (n') (c'), .slice (D') (m') (d')], 26), (w.heap.size, #[.bool (b), .slice (A) (n) (c), .slice (D) (m) (d)], 26)] [(D'', m'', d'', fs), (A'', n'', c'', zs), (D', m', d', es), (A', n', c', ys), (D, m, d, ds), (A, n, c, xs)] := (S.out.call bb)
  clear bb S c_z0 f_z0 c_z1 f_z1 c_z2 f_z2 c_y0 f_y0 c_y1 f_y1 c_y2 f_y2 c_x0 f_x0 c_x1 f_x1 c_x2 f_x2 hz
  have S := T
  clear T
  have c_z0 := S.cl 0 0 rfl rfl
  have f_z0 := S.f 0 0 rfl
  have c_z1 := S.cl 0 1 rfl rfl
  have f_z1 := S.f 0 1 rfl
  have c_z2 := S.cl 0 2 rfl rfl
  have f_z2 := S.f 0 2 rfl
  have c_y0 := S.cl 1 0 rfl rfl
  have f_y0 := S.f 1 0 rfl
  have c_y1 := S.cl 1 1 rfl rfl
  have f_y1 := S.f 1 1 rfl
  have c_y2 := S.cl 1 2 rfl rfl
  have f_y2 := S.f 1 2 rfl
  have c_x0 := S.cl 2 0 rfl rfl
  have f_x0 := S.f 2 0 rfl
  have c_x1 := S.cl 2 1 rfl rfl
  have f_x1 := S.f 2 1 rfl
  have c_x2 := S.cl 2 2 rfl rfl
  have f_x2 := S.f 2 2 rfl
  have hz : w.heap.size + 1 + 1 < w6.heap.size := S.lt 0 rfl
  replace S := Lib.hid S
  clear hV3
  have S : St w _ [(w.heap.size + 1 + 1, #[.bool (b''), .slice (A'') (n'') (c''), .slice (D'') (m'') (d'')], 26), (w.heap.size + 1, #[.bool (b'), .slice (A') (n') (c'), .slice (D') (m') (d')], 26), (w.heap.size, #[.bool (b), .slice (A) (n) (c), .slice (D) (m) (d)], 26)] [(D'', m'', d'', fs), (A'', n'', c'', zs), (D', m', d', es), (A', n', c', ys), (D, m, d, ds), (A, n, c, xs)] := S.out
  replace S := Lib.hid S
  go_wp2
  go_ret
  exact ⟨rfl, S.out.bel⟩

set_option maxRecDepth 100000 in
set_option maxHeartbeats 16000000 in
theorem law_ordered (b : Bool) (A : Option Addr) (n c : Nat) (xs : List Nat) (D : Option Addr) (m d : Nat) (ds : List Nat) (b' : Bool) (A' : Option Addr) (n' c' : Nat) (ys : List Nat) (D' : Option Addr) (m' d' : Nat) (es : List Nat) (b'' : Bool) (A'' : Option Addr) (n'' c'' : Nat) (zs : List Nat) (D'' : Option Addr) (m'' d'' : Nat) (fs : List Nat) (w : World) (R1 : Rd w A n c xs) (m1 : n ≤ 9223372036854775807) (R2 : Rd w D m d ds) (m2 : m ≤ 9223372036854775807) (R3 : Rd w A' n' c' ys) (m3 : n' ≤ 9223372036854775807) (R4 : Rd w D' m' d' es) (m4 : m' ≤ 9223372036854775807) (R5 : Rd w A'' n'' c'' zs) (m5 : n'' ≤ 9223372036854775807) (R6 : Rd w D'' m'' d'' fs) (m6 : m'' ≤ 9223372036854775807) (htab : Tab w) : Calls Tryz.prog 4 #[.agg #[.bool b, .slice A n c, .slice D m d], .agg #[.bool b', .slice A' n' c', .slice D' m' d'], .agg #[.bool b'', .slice A'' n'' c'', .slice D'' m'' d'']] w fun e w' => e = .returned (.bool true) ∧ Below w.heap.size w w' := by
  have hA := Lib.hid (fun W t => awakeR_any W t)
  replace htab := Lib.hid htab
  have hFa : Hid (∀ W, Rd W A n c xs → Rd W D m d ds → Rd W A' n' c' ys → Rd W D' m' d' es → Rd W A'' n'' c'' zs → Rd W D'' m'' d'' fs → Calls Tryz.prog 18 #[.agg #[.bool b, .slice A n c, .slice D m d], .agg #[.bool b', .slice A' n' c', .slice D' m' d'], .agg #[.bool b'', .slice A'' n'' c'', .slice D'' m'' d'']] W fun e w' => e = .returned (.bool (fairR n m n' m' n'' m'' (vldR b xs ds) (vldR b' ys es) (vldR b'' zs fs))) ∧ Below W.heap.size W w') := Lib.hid fun W q1 q2 q3 q4 q5 q6 => fair_any _ _ _ _ _ _ _ _ _ _ _ _ _ _ _ _ _ _ _ _ _ _ _ _ _ _ _ W q1 m1 q2 m2 q3 m3 q4 m4 q5 m5 q6 m6
  have S : St w _ [(w.heap.size + 1 + 1, #[.bool (b''), .slice (A'') (n'') (c''), .slice (D'') (m'') (d'')], 26), (w.heap.size + 1, #[.bool (b'), .slice (A') (n') (c'), .slice (D') (m') (d')], 26), (w.heap.size, #[.bool (b), .slice (A) (n) (c), .slice (D) (m) (d)], 26)] [(D'', m'', d'', fs), (A'', n'', c'', zs), (D', m', d', es), (A', n', c', ys), (D, m, d, ds), (A, n, c, xs)] := ((((((((((St.new w).read R1).read R2).read R3).read R4).read R5).read R6).allocAt (w.heap.size) #[.bool (b), .slice (A) (n) (c), .slice (D) (m) (d)] 26 (noL3 _ _ _ _ _ _ _) (by simp)).allocAt (w.heap.size + 1) #[.bool (b'), .slice (A') (n') (c'), .slice (D') (m') (d')] 26 (noL3 _ _ _ _ _ _ _) (by simp)).allocAt (w.heap.size + 1 + 1) #[.bool (b''), .slice (A'') (n'') (c''), .slice (D'') (m'') (d'')] 26 (noL3 _ _ _ _ _ _ _) (by simp))
  replace S := Lib.hid S
  cases hfr : fairR n m n' m' n'' m'' (vldR b xs ds) (vldR b' ys es) (vldR b'' zs fs)
  · rw [hfr] at hFa
    clear hfr R1 R2 R3 R4 R5 R6 m1 m2 m3 m4 m5 m6
    go_enter Tryz.func4, Tryz.ntmps4
    go_wp2_with fail
    refine (hFa.out _ (S.out.r 5 rfl) (S.out.r 4 rfl) (S.out.r 3 rfl) (S.out.r 2 rfl) (S.out.r 1 rfl) (S.out.r 0 rfl)).mono ?_
    rintro e w1 ⟨rfl, bb⟩
    have T : St w w1 [(w.heap.size + 1 + 1, #[.bool (b''), .slice (A'') (n'') (c''), .slice (D'') (m'') (d'')], 26), (w.heap.size + 1, #[.bool (b'), .slice (A') (n') (c'), .slice (D') (m') (d')], 26), (w.heap.size, #[.bool (b), .slice (A) (n) (c), .slice (D) (m) (d)], 26)] [(D'', m'', d'', fs), (A'', n'', c'', zs), (D', m', d', es), (A', n', c', ys), (D, m, d, ds), (A, n, c, xs)] := (S.out.call bb)
    clear bb S
    have S := T
    clear T
    have c_z0 := S.cl 0 0 rfl rfl
    have f_z0 := S.f 0 0 rfl
    have c_z1 := S.cl 0 1 rfl rfl
    have f_z1 := S.f 0 1 rfl
    have c_z2 := S.cl 0 2 rfl rfl
    have f_z2 := S.f 0 2 rfl
    have c_y0 := S.cl 1 0 rfl rfl
    have f_y0 := S.f 1 0 rfl
    have c_y1 := S.cl 1 1 rfl rfl
    have f_y1 := S.f 1 1 rfl
    have c_y2 := S.cl 1 2 rfl rfl
    have f_y2 := S.f 1 2 rfl
    have c_x0 := S.cl 2 0 rfl rfl
    have f_x0 := S.f 2 0 rfl
    have c_x1 := S.cl 2 1 rfl rfl
    have f_x1 := S.f 2 1 rfl
    have c_x2 := S.cl 2 2 rfl rfl
    have f_x2 := S.f 2 2 rfl
    have hz : w.heap.size + 1 + 1 < w1.heap.size := S.lt 0 rfl
    replace S := Lib.hid S
    clear hFa
    go_wp2_with fail
    refine (hA.out _ (tab_below htab.out S.out.bel)).mono ?_
    rintro e w2 ⟨rfl, bb⟩
    have T : St w w2 [(w.heap.size + 1 + 1, #[.bool (b''), .slice (A'') (n'') (c''), .slice (D'') (m'') (d'')], 26), (w.heap.size + 1, #[.bool (b'), .slice (A') (n') (c'), .slice (D') (m') (d')], 26), (w.heap.size, #[.bool (b), .slice (A) (n) (c), .slice (D) (m) (d)], 26)] [(D'', m'', d'', fs), (A'', n'', c'', zs), (D', m', d', es), (A', n', c', ys), (D, m, d, ds), (A, n, c, xs)] := (S.out.call bb)
    clear bb S c_z0 f_z0 c_z1 f_z1 c_z2 f_z2 c_y0 f_y0 c_y1 f_y1 c_y2 f_y2 c_x0 f_x0 c_x1 f_x1 c_x2 f_x2 hz
    have S := T
    clear T
    have c_z0 := S.cl 0 0 rfl rfl
    have f_z0 := S.f 0 0 rfl
    have c_z1 := S.cl 0 1 rfl rfl
    have f_z1 := S.f 0 1 rfl
    have c_z2 := S.cl 0 2 rfl rfl
    have f_z2 := S.f 0 2 rfl
    have c_y0 := S.cl 1 0 rfl rfl
    have f_y0 := S.f 1 0 rfl
    have c_y1 := S.cl 1 1 rfl rfl
    have f_y1 := S.f 1 1 rfl
    have c_y2 := S.cl 1 2 rfl rfl
    have f_y2 := S.f 1 2 rfl
    have c_x0 := S.cl 2 0 rfl rfl
    have f_x0 := S.f 2 0 rfl
    have c_x1 := S.cl 2 1 rfl rfl
    have f_x1 := S.f 2 1 rfl
    have c_x2 := S.cl 2 2 rfl rfl
    have f_x2 := S.f 2 2 rfl
    have hz : w.heap.size + 1 + 1 < w2.heap.size := S.lt 0 rfl
    replace S := Lib.hid S
    have S : St w _ [(w.heap.size + 1 + 1, #[.bool (b''), .slice (A'') (n'') (c''), .slice (D'') (m'') (d'')], 26), (w.heap.size + 1, #[.bool (b'), .slice (A') (n') (c'), .slice (D') (m') (d')], 26), (w.heap.size, #[.bool (b), .slice (A) (n) (c), .slice (D) (m) (d)], 26)] [(D'', m'', d'', fs), (A'', n'', c'', zs), (D', m', d', es), (A', n', c', ys), (D, m, d, ds), (A, n, c, xs)] := S.out
    replace S := Lib.hid S
    go_wp2
    go_ret
    exact ⟨rfl, S.out.bel⟩
  rw [hfr] at hFa
  have hf : fairR n m n' m' n'' m'' (vldR b xs ds) (vldR b' ys es) (vldR b'' zs fs) = true := hfr
  unfold fairR at hf
  simp only [Bool.and_eq_true] at hf
  obtain ⟨l1, l2, l3, v1, v2, v3⟩ := hf
  have X := RR.of R1 R2 v1
  have Y := RR.of R3 R4 v2
  have Z := RR.of R5 R6 v3
  have x8 := rs_light R1 R2 l1 (b := b)
  have y8 := rs_light R3 R4 l2 (b := b')
  have z8 := rs_light R5 R6 l3 (b := b'')
  obtain ⟨e1, e2, e3⟩ := canonR R1.sm R2.sm v1
  obtain ⟨e4, e5, e6⟩ := canonR R3.sm R4.sm v2
  obtain ⟨e7, e8, e9⟩ := canonR R5.sm R6.sm v3
  generalize rv b xs ds = x at *
  generalize rv b' ys es = y at *
  generalize rv b'' zs fs = z at *
  subst e1; subst e2; subst e3; subst e4; subst e5; subst e6; subst e7; subst e8; subst e9
  have hC1 := Lib.hid (fun A n c D m d A' n' c' D' m' d' W h h' => compareQ x y A n c D m d A' n' c' D' m' d' W h h' (x8.mono (by decide)) (y8.mono (by decide)))
  have hC2 := Lib.hid (fun A n c D m d A' n' c' D' m' d' W h h' => compareQ y z A n c D m d A' n' c' D' m' d' W h h' (y8.mono (by decide)) (z8.mono (by decide)))
  have hC3 := Lib.hid (fun A n c D m d A' n' c' D' m' d' W h h' => compareQ x z A n c D m d A' n' c' D' m' d' W h h' (x8.mono (by decide)) (z8.mono (by decide)))
  have hC4 := Lib.hid (fun A n c D m d A' n' c' D' m' d' W h h' => compareQ y x A n c D m d A' n' c' D' m' d' W h h' (y8.mono (by decide)) (x8.mono (by decide)))
  have hSm := Lib.hid (fun A n c D m d A' n' c' D' m' d' W h h' => sameQ x y A n c D m d A' n' c' D' m' d' W h h' (x8.mono (by decide)) (y8.mono (by decide)))
  have hA1 := Lib.hid (fun A n c D m d A' n' c' D' m' d' W h h' => addQ x z A n c D m d A' n' c' D' m' d' W h h' (x8.mono (by decide)) (z8.mono (by decide)))
  have hA2 := Lib.hid (fun A n c D m d A' n' c' D' m' d' W h h' => addQ y z A n c D m d A' n' c' D' m' d' W h h' (y8.mono (by decide)) (z8.mono (by decide)))
  have hM1 := Lib.hid (fun A n c D m d A' n' c' D' m' d' W h h' => mulQ x z A n c D m d A' n' c' D' m' d' W h h' (x8.mono (by decide)) (z8.mono (by decide)))
  have hM2 := Lib.hid (fun A n c D m d A' n' c' D' m' d' W h h' => mulQ y z A n c D m d A' n' c' D' m' d' W h h' (y8.mono (by decide)) (z8.mono (by decide)))
  have hC5 := Lib.hid (fun A n c D m d A' n' c' D' m' d' W h h' => compareQ (x + z) (y + z) A n c D m d A' n' c' D' m' d' W h h' ((x8.add z8).mono (by decide)) ((y8.add z8).mono (by decide)))
  have hC6 := Lib.hid (fun A n c D m d A' n' c' D' m' d' W h h' => compareQ (x * z) (y * z) A n c D m d A' n' c' D' m' d' W h h' ((x8.mul z8).mono (by decide)) ((y8.mul z8).mono (by decide)))
  have hSg := Lib.hid (fun A n c D m d W h => signQ z A n c D m d W h (z8.mono (by decide)))
  have tr : cmpq x y < 0 → cmpq y z < 0 → cmpq x z < 0 := fun h1 h2 => cmpq_neg.2 (Rat.not_le.1 fun h => Rat.not_le.2 (cmpq_neg.1 h2) (Rat.le_trans h (Rat.le_of_lt (cmpq_neg.1 h1))))
  rw [cmpq_swap x y] at hC4
  rw [cmpq_add] at hC5
  rw [cmpq_mul] at hC6
  have hb0 := cmpq_beq x y
  have hcc := cmpq_cases x y
  have hsz := sign_cases z.num
  generalize x + z = a1 at *
  generalize y + z = a2 at *
  generalize x * z = p1 at *
  generalize y * z = p2 at *
  generalize decide (x = y) = e0 at *
  generalize cmpq x y = cc at *
  generalize cmpq y z = cyz at *
  generalize cmpq x z = cxz at *
  generalize hsg : z.num.sign = sz at *
  obtain ⟨cn, hcn⟩ : ∃ cn, cn = -cc := ⟨_, rfl⟩
  obtain ⟨cz, hcz⟩ : ∃ cz, cz = cc * sz := ⟨_, rfl⟩
  rw [← hcn] at hC4
  rw [← hcz] at hC6
  have w1' : IntKind.i64.wrap (-cn) = cc := by rw [hcn, Int.neg_neg]; exact IntWalk.i64_in _ (by omega)
  have w2' : IntKind.i64.wrap (cc * sz) = cz := by rw [hcz]; rcases hcc with h | h | h <;> rcases hsz with h' | h' | h' <;> rw [h, h'] <;> decide
  replace tr := Lib.hid tr
  clear hcn hcz hcc hsz hsg hfr l1 l2 l3 v1 v2 v3 R1 R2 R3 R4 R5 R6 m1 m2 m3 m4 m5 m6 X Y Z x8 y8 z8
  go_enter Tryz.func4, Tryz.ntmps4
  go_wp2_with fail
  refine (hFa.out _ (S.out.r 5 rfl) (S.out.r 4 rfl) (S.out.r 3 rfl) (S.out.r 2 rfl) (S.out.r 1 rfl) (S.out.r 0 rfl)).mono ?_
  rintro e w1 ⟨rfl, bb⟩
  have T : St w w1 [(w.heap.size + 1 + 1, #[.bool (ng z.num), .slice (A'') (n'') (c''), .slice (D'') (m'') (d'')], 26), (w.heap.size + 1, #[.bool (ng y.num), .slice (A') (n') (c'), .slice (D') (m') (d')], 26), (w.heap.size, #[.bool (ng x.num), .slice (A) (n) (c), .slice (D) (m) (d)], 26)] [(D'', m'', d'', dn z), (A'', n'', c'', limbs z.num.natAbs), (D', m', d', dn y), (A', n', c', limbs y.num.natAbs), (D, m, d, dn x), (A, n, c, limbs x.num.natAbs)] := (S.out.call bb)
  clear bb S
  have S := T
  clear T
  have c_z0 := S.cl 0 0 rfl rfl
  have f_z0 := S.f 0 0 rfl
  have c_z1 := S.cl 0 1 rfl rfl
  have f_z1 := S.f 0 1 rfl
  have c_z2 := S.cl 0 2 rfl rfl
  have f_z2 := S.f 0 2 rfl
  have c_y0 := S.cl 1 0 rfl rfl
  have f_y0 := S.f 1 0 rfl
  have c_y1 := S.cl 1 1 rfl rfl
  have f_y1 := S.f 1 1 rfl
  have c_y2 := S.cl 1 2 rfl rfl
  have f_y2 := S.f 1 2 rfl
  have c_x0 := S.cl 2 0 rfl rfl
  have f_x0 := S.f 2 0 rfl
  have c_x1 := S.cl 2 1 rfl rfl
  have f_x1 := S.f 2 1 rfl
  have c_x2 := S.cl 2 2 rfl rfl
  have f_x2 := S.f 2 2 rfl
  have hz : w.heap.size + 1 + 1 < w1.heap.size := S.lt 0 rfl
  replace S := Lib.hid S
  clear hFa
  go_wp2_with fail
  refine (hC1.out _ _ _ _ _ _ _ _ _ _ _ _ _ ⟨S.out.r 5 rfl, S.out.r 4 rfl⟩ ⟨S.out.r 3 rfl, S.out.r 2 rfl⟩).mono ?_
  rintro e w2 ⟨rfl, bb⟩
  have T : St w w2 [(w.heap.size + 1 + 1, #[.bool (ng z.num), .slice (A'') (n'') (c''), .slice (D'') (m'') (d'')], 26), (w.heap.size + 1, #[.bool (ng y.num), .slice (A') (n') (c'), .slice (D') (m') (d')], 26), (w.heap.size, #[.bool (ng x.num), .slice (A) (n) (c), .slice (D) (m) (d)], 26)] [(D'', m'', d'', dn z), (A'', n'', c'', limbs z.num.natAbs), (D', m', d', dn y), (A', n', c', limbs y.num.natAbs), (D, m, d, dn x), (A, n, c, limbs x.num.natAbs)] := (S.out.call bb)
  clear bb S c_z0 f_z0 c_z1 f_z1 c_z2 f_z2 c_y0 f_y0 c_y1 f_y1 c_y2 f_y2 c_x0 f_x0 c_x1 f_x1 c_x2 f_x2 hz
  have S := T
  clear T
  have c_z0 := S.cl 0 0 rfl rfl
  have f_z0 := S.f 0 0 rfl
  have c_z1 := S.cl 0 1 rfl rfl
  have f_z1 := S.f 0 1 rfl
  have c_z2 := S.cl 0 2 rfl rfl
  have f_z2 := S.f 0 2 rfl
  have c_y0 := S.cl 1 0 rfl rfl
  have f_y0 := S.f 1 0 rfl
  have c_y1 := S.cl 1 1 rfl rfl
  have f_y1 := S.f 1 1 rfl
  have c_y2 := S.cl 1 2 rfl rfl
  have f_y2 := S.f 1 2 rfl
  have c_x0 := S.cl 2 0 rfl rfl
  have f_x0 := S.f 2 0 rfl
  have c_x1 := S.cl 2 1 rfl rfl
  have f_x1 := S.f 2 1 rfl
  have c_x2 := S.cl 2 2 rfl rfl
  have f_x2 := S.f 2 2 rfl
  have hz : w.heap.size + 1 + 1 < w2.heap.size := S.lt 0 rfl
  replace S := Lib.hid S
  clear hC1
  go_upto_region 4 with fail
  go_cut [30] (fun sv wx => sv = .bool false ∧ St w wx [(w.heap.size + 1 + 1, #[.bool (ng z.num), .slice (A'') (n'') (c''), .slice (D'') (m'') (d'')], 26), (w.heap.size + 1, #[.bool (ng y.num), .slice (A') (n') (c'), .slice (D') (m') (d')], 26), (w.heap.size, #[.bool (ng x.num), .slice (A) (n) (c), .slice (D) (m) (d)], 26)] [(D'', m'', d'', dn z), (A'', n'', c'', limbs z.num.natAbs), (D', m', d', dn y), (A', n', c', limbs y.num.natAbs), (D, m, d, dn x), (A, n, c, limbs x.num.natAbs)])
  case first =>
    by_cases g1 : cc < 0
    · by_cases g2 : cyz < 0
      · have g3 : ¬ (0 ≤ cxz) := by have := tr.out g1 g2; omega
        have g3' : decide (0 ≤ cxz) = false := decide_eq_false g3
        clear g3
        go_wp2_with fail
        refine (hC2.out _ _ _ _ _ _ _ _ _ _ _ _ _ ⟨S.out.r 3 rfl, S.out.r 2 rfl⟩ ⟨S.out.r 1 rfl, S.out.r 0 rfl⟩).mono ?_
        rintro e w3 ⟨rfl, bb⟩
        have T : St w w3 [(w.heap.size + 1 + 1, #[.bool (ng z.num), .slice (A'') (n'') (c''), .slice (D'') (m'') (d'')], 26), (w.heap.size + 1, #[.bool (ng y.num), .slice (A') (n') (c'), .slice (D') (m') (d')], 26), (w.heap.size, #[.bool (ng x.num), .slice (A) (n) (c), .slice (D) (m) (d)], 26)] [(D'', m'', d'', dn z), (A'', n'', c'', limbs z.num.natAbs), (D', m', d', dn y), (A', n', c', limbs y.num.natAbs), (D, m, d, dn x), (A, n, c, limbs x.num.natAbs)] := (S.out.call bb)
        clear bb S c_z0 f_z0 c_z1 f_z1 c_z2 f_z2 c_y0 f_y0 c_y1 f_y1 c_y2 f_y2 c_x0 f_x0 c_x1 f_x1 c_x2 f_x2 hz
        have S := T
        clear T
        have c_z0 := S.cl 0 0 rfl rfl
        have f_z0 := S.f 0 0 rfl
        have c_z1 := S.cl 0 1 rfl rfl
        have f_z1 := S.f 0 1 rfl
        have c_z2 := S.cl 0 2 rfl rfl
        have f_z2 := S.f 0 2 rfl
        have c_y0 := S.cl 1 0 rfl rfl
        have f_y0 := S.f 1 0 rfl
        have c_y1 := S.cl 1 1 rfl rfl
        have f_y1 := S.f 1 1 rfl
        have c_y2 := S.cl 1 2 rfl rfl
        have f_y2 := S.f 1 2 rfl
        have c_x0 := S.cl 2 0 rfl rfl
        have f_x0 := S.f 2 0 rfl
        have c_x1 := S.cl 2 1 rfl rfl
        have f_x1 := S.f 2 1 rfl
        have c_x2 := S.cl 2 2 rfl rfl
        have f_x2 := S.f 2 2 rfl
        have hz : w.heap.size + 1 + 1 < w3.heap.size := S.lt 0 rfl
        replace S := Lib.hid S
        go_wp2_with fail
        refine (hC3.out _ _ _ _ _ _ _ _ _ _ _ _ _ ⟨S.out.r 5 rfl, S.out.r 4 rfl⟩ ⟨S.out.r 1 rfl, S.out.r 0 rfl⟩).mono ?_
        rintro e w4 ⟨rfl, bb⟩
        have T : St w w4 [(w.heap.size + 1 + 1, #[.bool (ng z.num), .slice (A'') (n'') (c''), .slice (D'') (m'') (d'')], 26), (w.heap.size + 1, #[.bool (ng y.num), .slice (A') (n') (c'), .slice (D') (m') (d')], 26), (w.heap.size, #[.bool (ng x.num), .slice (A) (n) (c), .slice (D) (m) (d)], 26)] [(D'', m'', d'', dn z), (A'', n'', c'', limbs z.num.natAbs), (D', m', d', dn y), (A', n', c', limbs y.num.natAbs), (D, m, d, dn x), (A, n, c, limbs x.num.natAbs)] := (S.out.call bb)
        clear bb S c_z0 f_z0 c_z1 f_z1 c_z2 f_z2 c_y0 f_y0 c_y1 f_y1 c_y2 f_y2 c_x0 f_x0 c_x1 f_x1 c_x2 f_x2 hz
        have S := T
        clear T
        have c_z0 := S.cl 0 0 rfl rfl
        have f_z0 := S.f 0 0 rfl
        have c_z1 := S.cl 0 1 rfl rfl
        have f_z1 := S.f 0 1 rfl
        have c_z2 := S.cl 0 2 rfl rfl
        have f_z2 := S.f 0 2 rfl
        have c_y0 := S.cl 1 0 rfl rfl
        have f_y0 := S.f 1 0 rfl
        have c_y1 := S.cl 1 1 rfl rfl
        have f_y1 := S.f 1 1 rfl
        have c_y2 := S.cl 1 2 rfl rfl
        have f_y2 := S.f 1 2 rfl
        have c_x0 := S.cl 2 0 rfl rfl
        have f_x0 := S.f 2 0 rfl
        have c_x1 := S.cl 2 1 rfl rfl
        have f_x1 := S.f 2 1 rfl
        have c_x2 := S.cl 2 2 rfl rfl
        have f_x2 := S.f 2 2 rfl
        have hz : w.heap.size + 1 + 1 < w4.heap.size := S.lt 0 rfl
        replace S := Lib.hid S
        go_wp2_with fail
        go_meet
        exact ⟨rfl, S.out⟩
      · have g2' : decide (cyz < 0) = false := decide_eq_false g2
        clear g2
        go_wp2_with fail
        refine (hC2.out _ _ _ _ _ _ _ _ _ _ _ _ _ ⟨S.out.r 3 rfl, S.out.r 2 rfl⟩ ⟨S.out.r 1 rfl, S.out.r 0 rfl⟩).mono ?_
        rintro e w3 ⟨rfl, bb⟩
        have T : St w w3 [(w.heap.size + 1 + 1, #[.bool (ng z.num), .slice (A'') (n'') (c''), .slice (D'') (m'') (d'')], 26), (w.heap.size + 1, #[.bool (ng y.num), .slice (A') (n') (c'), .slice (D') (m') (d')], 26), (w.heap.size, #[.bool (ng x.num), .slice (A) (n) (c), .slice (D) (m) (d)], 26)] [(D'', m'', d'', dn z), (A'', n'', c'', limbs z.num.natAbs), (D', m', d', dn y), (A', n', c', limbs y.num.natAbs), (D, m, d, dn x), (A, n, c, limbs x.num.natAbs)] := (S.out.call bb)
        clear bb S c_z0 f_z0 c_z1 f_z1 c_z2 f_z2 c_y0 f_y0 c_y1 f_y1 c_y2 f_y2 c_x0 f_x0 c_x1 f_x1 c_x2 f_x2 hz
        have S := T
        clear T
        have c_z0 := S.cl 0 0 rfl rfl
        have f_z0 := S.f 0 0 rfl
        have c_z1 := S.cl 0 1 rfl rfl
        have f_z1 := S.f 0 1 rfl
        have c_z2 := S.cl 0 2 rfl rfl
        have f_z2 := S.f 0 2 rfl
        have c_y0 := S.cl 1 0 rfl rfl
        have f_y0 := S.f 1 0 rfl
        have c_y1 := S.cl 1 1 rfl rfl
        have f_y1 := S.f 1 1 rfl
        have c_y2 := S.cl 1 2 rfl rfl
        have f_y2 := S.f 1 2 rfl
        have c_x0 := S.cl 2 0 rfl rfl
        have f_x0 := S.f 2 0 rfl
        have c_x1 := S.cl 2 1 rfl rfl
        have f_x1 := S.f 2 1 rfl
        have c_x2 := S.cl 2 2 rfl rfl
        have f_x2 := S.f 2 2 rfl
        have hz : w.heap.size + 1 + 1 < w3.heap.size := S.lt 0 rfl
        replace S := Lib.hid S
        go_wp2_with fail
        go_meet
        exact ⟨rfl, S.out⟩
    · have g1' : decide (cc < 0) = false := decide_eq_false g1
      clear g1
      go_wp2_with fail
      go_meet
      exact ⟨rfl, S.out⟩
  case rest =>
    clear S hC2 hC3 tr
    obtain ⟨rfl, S⟩ := hcut
    replace S := Lib.hid S
    go_upto_region 6 with fail
    have S : St w _ [(w.heap.size + 1 + 1, #[.bool (ng z.num), .slice (A'') (n'') (c''), .slice (D'') (m'') (d'')], 26), (w.heap.size + 1, #[.bool (ng y.num), .slice (A') (n') (c'), .slice (D') (m') (d')], 26), (w.heap.size, #[.bool (ng x.num), .slice (A) (n) (c), .slice (D) (m) (d)], 26)] [(D'', m'', d'', dn z), (A'', n'', c'', limbs z.num.natAbs), (D', m', d', dn y), (A', n', c', limbs y.num.natAbs), (D, m, d, dn x), (A, n, c, limbs x.num.natAbs)] := S.out
    replace S := Lib.hid S
    refine RW.begin (Z := []) (S := (fun W => Cb W (w.heap.size) #[.bool (ng x.num), .slice (A) (n) (c), .slice (D) (m) (d)] 26 ∧ Cb W (w.heap.size + 1) #[.bool (ng y.num), .slice (A') (n') (c'), .slice (D') (m') (d')] 26 ∧ Cb W (w.heap.size + 1 + 1) #[.bool (ng z.num), .slice (A'') (n'') (c''), .slice (D'') (m'') (d'')] 26)) (bs := [(w.heap.size + 1 + 1, #[.bool (ng z.num), .slice (A'') (n'') (c''), .slice (D'') (m'') (d'')], 26), (w.heap.size + 1, #[.bool (ng y.num), .slice (A') (n') (c'), .slice (D') (m') (d')], 26), (w.heap.size, #[.bool (ng x.num), .slice (A) (n) (c), .slice (D) (m) (d)], 26)]) (by kernel_rfl) ?_ S.out ?_
    · exact ⟨by kernel_rfl, zis_nil, by decide, by decide, nol_nil, (fun _ _ h => ⟨(h.bk _ (List.mem_append_right _ (List.mem_of_getElem? (i := 2) rfl))).1, (h.bk _ (List.mem_append_right _ (List.mem_of_getElem? (i := 1) rfl))).1, (h.bk _ (List.mem_append_right _ (List.mem_of_getElem? (i := 0) rfl))).1⟩)⟩
    intro hzk
    clear S
    refine RW.c (i := 0) (args := #[]) (some 31) hzk.out at0 rfl (by kernel_rfl) (by kernel_rfl) (fun _ => by kernel_rfl) (fun _ S => (hA.out _ (tab_below htab.out S.bel)).mono ?_)
    rintro e w13 ⟨rfl, bb⟩
    refine ⟨bb, _, [], rfl, rd_nil, ?_⟩
    clear bb S
    refine RW.t (i := 1) (v := .bool true) (some 32) at1 rfl (by kernel_rfl) (by kernel_rfl) (fun _ _ _ h => h) (fun _ _ => by kernel_rfl) ?_
    refine RW.t (i := 2) (v := .int .i64 cc) (some 33) at2 rfl (by kernel_rfl) (by kernel_rfl) (fun _ _ _ h => h) (fun _ _ => by kernel_rfl) ?_
    refine RW.t (i := 3) (v := .agg #[.bool (ng y.num), .slice (A') (n') (c'), .slice (D') (m') (d')]) (some 34) at3 rfl (by kernel_rfl) (by kernel_rfl) (fun _ _ _ h => h) (fun W hS => by (have k0 := Cb.cell (i := 0) hS.2.1 rfl; have k1 := Cb.cell (i := 1) hS.2.1 rfl; have k2 := Cb.cell (i := 2) hS.2.1 rfl; clear hS; go_simp)) ?_
    refine RW.t (i := 4) (v := .agg #[.bool (ng x.num), .slice (A) (n) (c), .slice (D) (m) (d)]) (some 35) at4 rfl (by kernel_rfl) (by kernel_rfl) (fun _ _ _ h => h) (fun W hS => by (have k0 := Cb.cell (i := 0) hS.1 rfl; have k1 := Cb.cell (i := 1) hS.1 rfl; have k2 := Cb.cell (i := 2) hS.1 rfl; clear hS; go_simp)) ?_
    refine RW.c (i := 5) (args := #[.agg #[.bool (ng y.num), .slice (A') (n') (c'), .slice (D') (m') (d')], .agg #[.bool (ng x.num), .slice (A) (n) (c), .slice (D) (m) (d)]]) (some 36) hzk.out at5 rfl (by kernel_rfl) (by kernel_rfl) (fun _ => by kernel_rfl) (fun _ S => (hC4.out _ _ _ _ _ _ _ _ _ _ _ _ _ ⟨S.r 3 rfl, S.r 2 rfl⟩ ⟨S.r 5 rfl, S.r 4 rfl⟩).mono ?_)
    rintro e w14 ⟨rfl, bb⟩
    refine ⟨bb, _, [], rfl, rd_nil, ?_⟩
    clear bb S
    refine RW.t (i := 6) (v := .int .i64 cc) (some 37) at6 rfl (by kernel_rfl) (by kernel_rfl) (fun _ _ _ h => h) (fun _ _ => by go_simp) ?_
    refine RW.t (i := 7) (v := .bool true) (some 38) at7 rfl (by kernel_rfl) (by kernel_rfl) (fun _ _ _ h => h) (fun _ _ => by go_simp) ?_
    refine RW.t (i := 8) (v := .bool true) (some 39) at8 rfl (by kernel_rfl) (by kernel_rfl) (fun _ _ _ h => h) (fun _ _ => by kernel_rfl) ?_
    refine RW.t (i := 9) (v := .bool true) (some 40) at9 rfl (by kernel_rfl) (by kernel_rfl) (fun _ _ _ h => h) (fun _ _ => by kernel_rfl) ?_
    refine RW.t (i := 10) (v := .int .i64 cc) (some 41) at10 rfl (by kernel_rfl) (by kernel_rfl) (fun _ _ _ h => h) (fun _ _ => by kernel_rfl) ?_
    refine RW.t (i := 11) (v := .bool e0) (some 42) at11 rfl (by kernel_rfl) (by kernel_rfl) (fun _ _ _ h => h) (fun _ _ => by go_simp) ?_
    refine RW.t (i := 12) (v := .agg #[.bool (ng x.num), .slice (A) (n) (c), .slice (D) (m) (d)]) (some 43) at12 rfl (by kernel_rfl) (by kernel_rfl) (fun _ _ _ h => h) (fun W hS => by (have k0 := Cb.cell (i := 0) hS.1 rfl; have k1 := Cb.cell (i := 1) hS.1 rfl; have k2 := Cb.cell (i := 2) hS.1 rfl; clear hS; go_simp)) ?_
    refine RW.t (i := 13) (v := .agg #[.bool (ng y.num), .slice (A') (n') (c'), .slice (D') (m') (d')]) (some 44) at13 rfl (by kernel_rfl) (by kernel_rfl) (fun _ _ _ h => h) (fun W hS => by (have k0 := Cb.cell (i := 0) hS.2.1 rfl; have k1 := Cb.cell (i := 1) hS.2.1 rfl; have k2 := Cb.cell (i := 2) hS.2.1 rfl; clear hS; go_simp)) ?_
    refine RW.c (i := 14) (args := #[.agg #[.bool (ng x.num), .slice (A) (n) (c), .slice (D) (m) (d)], .agg #[.bool (ng y.num), .slice (A') (n') (c'), .slice (D') (m') (d')]]) (some 45) hzk.out at14 rfl (by kernel_rfl) (by kernel_rfl) (fun _ => by kernel_rfl) (fun _ S => (hSm.out _ _ _ _ _ _ _ _ _ _ _ _ _ ⟨S.r 5 rfl, S.r 4 rfl⟩ ⟨S.r 3 rfl, S.r 2 rfl⟩).mono ?_)
    rintro e w15 ⟨rfl, bb⟩
    refine ⟨bb, _, [], rfl, rd_nil, ?_⟩
    clear bb S
    refine RW.t (i := 15) (v := .bool true) (some 46) at15 rfl (by kernel_rfl) (by kernel_rfl) (fun _ _ _ h => h) (fun _ _ => by go_simp) ?_
    refine RW.t (i := 16) (v := .bool true) (some 47) at16 rfl (by kernel_rfl) (by kernel_rfl) (fun _ _ _ h => h) (fun _ _ => by kernel_rfl) ?_
    refine RW.t (i := 17) (v := .bool true) (some 48) at17 rfl (by kernel_rfl) (by kernel_rfl) (fun _ _ _ h => h) (fun _ _ => by kernel_rfl) ?_
    refine RW.t (i := 18) (v := .agg #[.bool (ng x.num), .slice (A) (n) (c), .slice (D) (m) (d)]) (some 49) at18 rfl (by kernel_rfl) (by kernel_rfl) (fun _ _ _ h => h) (fun W hS => by (have k0 := Cb.cell (i := 0) hS.1 rfl; have k1 := Cb.cell (i := 1) hS.1 rfl; have k2 := Cb.cell (i := 2) hS.1 rfl; clear hS; go_simp)) ?_
    refine RW.t (i := 19) (v := .agg #[.bool (ng z.num), .slice (A'') (n'') (c''), .slice (D'') (m'') (d'')]) (some 50) at19 rfl (by kernel_rfl) (by kernel_rfl) (fun _ _ _ h => h) (fun W hS => by (have k0 := Cb.cell (i := 0) hS.2.2 rfl; have k1 := Cb.cell (i := 1) hS.2.2 rfl; have k2 := Cb.cell (i := 2) hS.2.2 rfl; clear hS; go_simp)) ?_
    refine RW.t (i := 21) (v := .agg #[.bool (ng y.num), .slice (A') (n') (c'), .slice (D') (m') (d')]) (some 52) at21 rfl (by kernel_rfl) (by kernel_rfl) (fun _ _ _ h => h) (fun W hS => by (have k0 := Cb.cell (i := 0) hS.2.1 rfl; have k1 := Cb.cell (i := 1) hS.2.1 rfl; have k2 := Cb.cell (i := 2) hS.2.1 rfl; clear hS; go_simp)) ?_
    refine RW.t (i := 22) (v := .agg #[.bool (ng z.num), .slice (A'') (n'') (c''), .slice (D'') (m'') (d'')]) (some 53) at22 rfl (by kernel_rfl) (by kernel_rfl) (fun _ _ _ h => h) (fun W hS => by (have k0 := Cb.cell (i := 0) hS.2.2 rfl; have k1 := Cb.cell (i := 1) hS.2.2 rfl; have k2 := Cb.cell (i := 2) hS.2.2 rfl; clear hS; go_simp)) ?_
    refine RW.t (i := 25) (v := .int .i64 cc) (some 56) at25 rfl (by kernel_rfl) (by kernel_rfl) (fun _ _ _ h => h) (fun _ _ => by kernel_rfl) ?_
    refine RW.c (i := 20) (args := #[.agg #[.bool (ng x.num), .slice (A) (n) (c), .slice (D) (m) (d)], .agg #[.bool (ng z.num), .slice (A'') (n'') (c''), .slice (D'') (m'') (d'')]]) (some 51) hzk.out at20 rfl (by kernel_rfl) (by kernel_rfl) (fun _ => by kernel_rfl) (fun _ S => (hA1.out _ _ _ _ _ _ _ _ _ _ _ _ _ ⟨S.r 5 rfl, S.r 4 rfl⟩ ⟨S.r 1 rfl, S.r 0 rfl⟩).mono ?_)
    rintro e w16 ⟨A1, n1, c1, D1, m1, d1, rfl, Q1, bb⟩
    refine ⟨bb, _, [(D1, m1, d1, dn a1), (A1, n1, c1, limbs a1.num.natAbs)], rfl, (rd_cons Q1.d (rd_cons Q1.n rd_nil)), ?_⟩
    clear bb S Q1
    refine RW.c (i := 23) (args := #[.agg #[.bool (ng y.num), .slice (A') (n') (c'), .slice (D') (m') (d')], .agg #[.bool (ng z.num), .slice (A'') (n'') (c''), .slice (D'') (m'') (d'')]]) (some 54) hzk.out at23 rfl (by kernel_rfl) (by kernel_rfl) (fun _ => by kernel_rfl) (fun _ S => (hA2.out _ _ _ _ _ _ _ _ _ _ _ _ _ ⟨S.r 5 rfl, S.r 4 rfl⟩ ⟨S.r 3 rfl, S.r 2 rfl⟩).mono ?_)
    rintro e w17 ⟨A2, n2, c2, D2, m2, d2, rfl, Q2, bb⟩
    refine ⟨bb, _, [(D2, m2, d2, dn a2), (A2, n2, c2, limbs a2.num.natAbs)], rfl, (rd_cons Q2.d (rd_cons Q2.n rd_nil)), ?_⟩
    clear bb S Q2
    refine RW.c (i := 24) (args := #[.agg #[.bool (ng a1.num), .slice (A1) (n1) (c1), .slice (D1) (m1) (d1)], .agg #[.bool (ng a2.num), .slice (A2) (n2) (c2), .slice (D2) (m2) (d2)]]) (some 55) hzk.out at24 rfl (by kernel_rfl) (by kernel_rfl) (fun _ => by kernel_rfl) (fun _ S => (hC5.out _ _ _ _ _ _ _ _ _ _ _ _ _ ⟨S.r 3 rfl, S.r 2 rfl⟩ ⟨S.r 1 rfl, S.r 0 rfl⟩).mono ?_)
    rintro e w18 ⟨rfl, bb⟩
    refine ⟨bb, _, [], rfl, rd_nil, ?_⟩
    clear bb S
    refine RW.t (i := 26) (v := .bool true) (some 57) at26 rfl (by kernel_rfl) (by kernel_rfl) (fun _ _ _ h => h) (fun _ _ => by go_simp) ?_
    refine RW.t (i := 27) (v := .bool true) (some 58) at27 rfl (by kernel_rfl) (by kernel_rfl) (fun _ _ _ h => h) (fun _ _ => by kernel_rfl) ?_
    refine RW.t (i := 28) (v := .bool true) (some 59) at28 rfl (by kernel_rfl) (by kernel_rfl) (fun _ _ _ h => h) (fun _ _ => by kernel_rfl) ?_
    refine RW.t (i := 29) (v := .agg #[.bool (ng x.num), .slice (A) (n) (c), .slice (D) (m) (d)]) (some 60) at29 rfl (by kernel_rfl) (by kernel_rfl) (fun _ _ _ h => h) (fun W hS => by (have k0 := Cb.cell (i := 0) hS.1 rfl; have k1 := Cb.cell (i := 1) hS.1 rfl; have k2 := Cb.cell (i := 2) hS.1 rfl; clear hS; go_simp)) ?_
    refine RW.t (i := 30) (v := .agg #[.bool (ng z.num), .slice (A'') (n'') (c''), .slice (D'') (m'') (d'')]) (some 61) at30 rfl (by kernel_rfl) (by kernel_rfl) (fun _ _ _ h => h) (fun W hS => by (have k0 := Cb.cell (i := 0) hS.2.2 rfl; have k1 := Cb.cell (i := 1) hS.2.2 rfl; have k2 := Cb.cell (i := 2) hS.2.2 rfl; clear hS; go_simp)) ?_
    refine RW.t (i := 32) (v := .agg #[.bool (ng y.num), .slice (A') (n') (c'), .slice (D') (m') (d')]) (some 63) at32 rfl (by kernel_rfl) (by kernel_rfl) (fun _ _ _ h => h) (fun W hS => by (have k0 := Cb.cell (i := 0) hS.2.1 rfl; have k1 := Cb.cell (i := 1) hS.2.1 rfl; have k2 := Cb.cell (i := 2) hS.2.1 rfl; clear hS; go_simp)) ?_
    refine RW.t (i := 33) (v := .agg #[.bool (ng z.num), .slice (A'') (n'') (c''), .slice (D'') (m'') (d'')]) (some 64) at33 rfl (by kernel_rfl) (by kernel_rfl) (fun _ _ _ h => h) (fun W hS => by (have k0 := Cb.cell (i := 0) hS.2.2 rfl; have k1 := Cb.cell (i := 1) hS.2.2 rfl; have k2 := Cb.cell (i := 2) hS.2.2 rfl; clear hS; go_simp)) ?_
    refine RW.t (i := 36) (v := .int .i64 cc) (some 67) at36 rfl (by kernel_rfl) (by kernel_rfl) (fun _ _ _ h => h) (fun _ _ => by kernel_rfl) ?_
    refine RW.t (i := 37) (v := .agg #[.bool (ng z.num), .slice (A'') (n'') (c''), .slice (D'') (m'') (d'')]) (some 68) at37 rfl (by kernel_rfl) (by kernel_rfl) (fun _ _ _ h => h) (fun W hS => by (have k0 := Cb.cell (i := 0) hS.2.2 rfl; have k1 := Cb.cell (i := 1) hS.2.2 rfl; have k2 := Cb.cell (i := 2) hS.2.2 rfl; clear hS; go_simp)) ?_
    refine RW.c (i := 31) (args := #[.agg #[.bool (ng x.num), .slice (A) (n) (c), .slice (D) (m) (d)], .agg #[.bool (ng z.num), .slice (A'') (n'') (c''), .slice (D'') (m'') (d'')]]) (some 62) hzk.out at31 rfl (by kernel_rfl) (by kernel_rfl) (fun _ => by kernel_rfl) (fun _ S => (hM1.out _ _ _ _ _ _ _ _ _ _ _ _ _ ⟨S.r 9 rfl, S.r 8 rfl⟩ ⟨S.r 5 rfl, S.r 4 rfl⟩).mono ?_)
    rintro e w19 ⟨A3, n3, c3, D3, m3, d3, rfl, Q3, bb⟩
    refine ⟨bb, _, [(D3, m3, d3, dn p1), (A3, n3, c3, limbs p1.num.natAbs)], rfl, (rd_cons Q3.d (rd_cons Q3.n rd_nil)), ?_⟩
    clear bb S Q3
    refine RW.c (i := 34) (args := #[.agg #[.bool (ng y.num), .slice (A') (n') (c'), .slice (D') (m') (d')], .agg #[.bool (ng z.num), .slice (A'') (n'') (c''), .slice (D'') (m'') (d'')]]) (some 65) hzk.out at34 rfl (by kernel_rfl) (by kernel_rfl) (fun _ => by kernel_rfl) (fun _ S => (hM2.out _ _ _ _ _ _ _ _ _ _ _ _ _ ⟨S.r 9 rfl, S.r 8 rfl⟩ ⟨S.r 7 rfl, S.r 6 rfl⟩).mono ?_)
    rintro e w20 ⟨A4, n4, c4, D4, m4, d4, rfl, Q4, bb⟩
    refine ⟨bb, _, [(D4, m4, d4, dn p2), (A4, n4, c4, limbs p2.num.natAbs)], rfl, (rd_cons Q4.d (rd_cons Q4.n rd_nil)), ?_⟩
    clear bb S Q4
    refine RW.c (i := 35) (args := #[.agg #[.bool (ng p1.num), .slice (A3) (n3) (c3), .slice (D3) (m3) (d3)], .agg #[.bool (ng p2.num), .slice (A4) (n4) (c4), .slice (D4) (m4) (d4)]]) (some 66) hzk.out at35 rfl (by kernel_rfl) (by kernel_rfl) (fun _ => by kernel_rfl) (fun _ S => (hC6.out _ _ _ _ _ _ _ _ _ _ _ _ _ ⟨S.r 3 rfl, S.r 2 rfl⟩ ⟨S.r 1 rfl, S.r 0 rfl⟩).mono ?_)
    rintro e w21 ⟨rfl, bb⟩
    refine ⟨bb, _, [], rfl, rd_nil, ?_⟩
    clear bb S
    refine RW.c (i := 38) (args := #[.agg #[.bool (ng z.num), .slice (A'') (n'') (c''), .slice (D'') (m'') (d'')]]) (some 69) hzk.out at38 rfl (by kernel_rfl) (by kernel_rfl) (fun _ => by kernel_rfl) (fun _ S => (hSg.out _ _ _ _ _ _ _ ⟨S.r 9 rfl, S.r 8 rfl⟩).mono ?_)
    rintro e w22 ⟨rfl, bb⟩
    refine ⟨bb, _, [], rfl, rd_nil, ?_⟩
    clear bb S
    refine RW.t (i := 39) (v := .int .i64 cz) (some 70) at39 rfl (by kernel_rfl) (by kernel_rfl) (fun _ _ _ h => h) (fun _ _ => by go_simp) ?_
    refine RW.t (i := 40) (v := .bool true) (some 71) at40 rfl (by kernel_rfl) (by kernel_rfl) (fun _ _ _ h => h) (fun _ _ => by go_simp) ?_
    refine RW.t (i := 41) (v := .bool true) (some 72) at41 rfl (by kernel_rfl) (by kernel_rfl) (fun _ _ _ h => h) (fun _ _ => by kernel_rfl) ?_
    refine RW.tail hzk.out (by kernel_rfl) ?_
    intro gs w23 hgs hS S
    obtain rfl := len0 hgs
    replace S : St w w23 [(w.heap.size + 1 + 1, #[.bool (ng z.num), .slice (A'') (n'') (c''), .slice (D'') (m'') (d'')], 26), (w.heap.size + 1, #[.bool (ng y.num), .slice (A') (n') (c'), .slice (D') (m') (d')], 26), (w.heap.size, #[.bool (ng x.num), .slice (A) (n) (c), .slice (D) (m) (d)], 26)] [(D4, m4, d4, dn p2), (A4, n4, c4, limbs p2.num.natAbs), (D3, m3, d3, dn p1), (A3, n3, c3, limbs p1.num.natAbs), (D2, m2, d2, dn a2), (A2, n2, c2, limbs a2.num.natAbs), (D1, m1, d1, dn a1), (A1, n1, c1, limbs a1.num.natAbs), (D'', m'', d'', dn z), (A'', n'', c'', limbs z.num.natAbs), (D', m', d', dn y), (A', n', c', limbs y.num.natAbs), (D, m, d, dn x), (A, n, c, limbs x.num.natAbs)] := S
    clear hS hgs hzk
    simp only [mark, fill, Act.put, List.setIfInBounds_toArray, List.set_cons_zero, List.set_cons_succ]
    replace S := Lib.hid S
    refine Wk.o (i := 42) at42 (by kernel_rfl) fun K' hK => ?_
    go_simp
    have SN := S.out
    clear S
    have S := SN
    clear SN
    refine hK.out _ _ ⟨(S.bk _ (List.mem_of_getElem? (i := 2) rfl)).1, (S.bk _ (List.mem_of_getElem? (i := 1) rfl)).1, (S.bk _ (List.mem_of_getElem? (i := 0) rfl)).1⟩ ?_
    clear hK K'
    replace S := Lib.hid S
    try simp only [Act.put, List.setIfInBounds_toArray, List.set_cons_zero, List.set_cons_succ]
    refine Wk.done (by kernel_rfl) ?_
    go_simp
    replace S := S.out
    have S : St w _ [(w.heap.size + 1 + 1, #[.bool (ng z.num), .slice (A'') (n'') (c''), .slice (D'') (m'') (d'')], 26), (w.heap.size + 1, #[.bool (ng y.num), .slice (A') (n') (c'), .slice (D') (m') (d')], 26), (w.heap.size, #[.bool (ng x.num), .slice (A) (n) (c), .slice (D) (m) (d)], 26)] [(D4, m4, d4, dn p2), (A4, n4, c4, limbs p2.num.natAbs), (D3, m3, d3, dn p1), (A3, n3, c3, limbs p1.num.natAbs), (D2, m2, d2, dn a2), (A2, n2, c2, limbs a2.num.natAbs), (D1, m1, d1, dn a1), (A1, n1, c1, limbs a1.num.natAbs), (D'', m'', d'', dn z), (A'', n'', c'', limbs z.num.natAbs), (D', m', d', dn y), (A', n', c', limbs y.num.natAbs), (D, m, d, dn x), (A, n, c, limbs x.num.natAbs)] := S
    replace S := Lib.hid S
    replace S := S.out
    replace S := Lib.hid S
    have S : St w _ [(w.heap.size + 1 + 1, #[.bool (ng z.num), .slice (A'') (n'') (c''), .slice (D'') (m'') (d'')], 26), (w.heap.size + 1, #[.bool (ng y.num), .slice (A') (n') (c'), .slice (D') (m') (d')], 26), (w.heap.size, #[.bool (ng x.num), .slice (A) (n) (c), .slice (D) (m) (d)], 26)] [(D4, m4, d4, dn p2), (A4, n4, c4, limbs p2.num.natAbs), (D3, m3, d3, dn p1), (A3, n3, c3, limbs p1.num.natAbs), (D2, m2, d2, dn a2), (A2, n2, c2, limbs a2.num.natAbs), (D1, m1, d1, dn a1), (A1, n1, c1, limbs a1.num.natAbs), (D'', m'', d'', dn z), (A'', n'', c'', limbs z.num.natAbs), (D', m', d', dn y), (A', n', c', limbs y.num.natAbs), (D, m, d, dn x), (A, n, c, limbs x.num.natAbs)] := S.out
    replace S := Lib.hid S
    go_wp2
    go_ret
    exact ⟨rfl, S.out.bel⟩
end Go.Proofs.YtgpgpkkgpedifaaGreatDoor
