/- The law's fair; the law RationalIsOrdered. -/
import Derived.Test.YtgpgpkkgpedifaaGreatDoorTk
namespace Go.Proofs.YtgpgpkkgpedifaaGreatDoor
open Go.RowKit RQ
theorem light_le {n m : Nat} (h : lightB n m = true) : n ≤ 500 ∧ m ≤ 500 := by
  unfold lightB at h; simp only [Bool.and_eq_true, decide_eq_true_eq] at h; omega
theorem rs_light {w : World} {b : Bool} {A : Option Addr} {n c : Nat} {xs : List Nat} {D : Option Addr} {m d : Nat} {ds : List Nat} (R1 : Rd w A n c xs) (R2 : Rd w D m d ds) (h : lightB n m = true) : Rs (rv b xs ds) 8 := by
  unfold lightB at h
  simp only [Bool.and_eq_true, decide_eq_true_eq] at h
  exact Rs.of R1.sm R2.sm (by rw [R1.len]; exact h.1) (by rw [R2.len]; exact h.2) (by decide)
def fairR (n m n' m' n'' m'' : Nat) (v1 v2 v3 : Bool) : Bool := lightB n m && (lightB n' m' && (lightB n'' m'' && (v1 && (v2 && v3))))

set_option maxHeartbeats 8000000 in
theorem fair_any (b : Bool) (A : Option Addr) (n c : Nat) (xs : List Nat) (D : Option Addr) (m d : Nat) (ds : List Nat) (b' : Bool) (A' : Option Addr) (n' c' : Nat) (ys : List Nat) (D' : Option Addr) (m' d' : Nat) (es : List Nat) (b'' : Bool) (A'' : Option Addr) (n'' c'' : Nat) (zs : List Nat) (D'' : Option Addr) (m'' d'' : Nat) (fs : List Nat) (w : World) (R1 : Rd w A n c xs) (m1 : n ≤ 9223372036854775807) (R2 : Rd w D m d ds) (m2 : m ≤ 9223372036854775807) (R3 : Rd w A' n' c' ys) (m3 : n' ≤ 9223372036854775807) (R4 : Rd w D' m' d' es) (m4 : m' ≤ 9223372036854775807) (R5 : Rd w A'' n'' c'' zs) (m5 : n'' ≤ 9223372036854775807) (R6 : Rd w D'' m'' d'' fs) (m6 : m'' ≤ 9223372036854775807) : Calls Tryz.prog 18 #[.agg #[.bool b, .slice A n c, .slice D m d], .agg #[.bool b', .slice A' n' c', .slice D' m' d'], .agg #[.bool b'', .slice A'' n'' c'', .slice D'' m'' d'']] w fun e w' => e = .returned (.bool (fairR n m n' m' n'' m'' (vldR b xs ds) (vldR b' ys es) (vldR b'' zs fs))) ∧ Below w.heap.size w w' := by
  have hL1 := fun W => lightR_any b A n c D m d W m1 m2
  have hL2 := fun W => lightR_any b' A' n' c' D' m' d' W m3 m4
  have hL3 := fun W => lightR_any b'' A'' n'' c'' D'' m'' d'' W m5 m6
  have hV1 := fun (h : lightB n m = true) W q1 q2 => rvalidR_any b A n c xs D m d ds W q1 q2 (light_le h).1 (light_le h).2
  have hV2 := fun (h : lightB n' m' = true) W q1 q2 => rvalidR_any b' A' n' c' ys D' m' d' es W q1 q2 (light_le h).1 (light_le h).2
  have hV3 := fun (h : lightB n'' m'' = true) W q1 q2 => rvalidR_any b'' A'' n'' c'' zs D'' m'' d'' fs W q1 q2 (light_le h).1 (light_le h).2
  unfold fairR
  have S : St w _ [(w.heap.size + 1 + 1, #[.bool b'', .slice A'' n'' c'', .slice D'' m'' d''], 26), (w.heap.size + 1, #[.bool b', .slice A' n' c', .slice D' m' d'], 26), (w.heap.size, #[.bool b, .slice A n c, .slice D m d], 26)] [(D'', m'', d'', fs), (A'', n'', c'', zs), (D', m', d', es), (A', n', c', ys), (D, m, d, ds), (A, n, c, xs)] := ((((((((((St.new w).read R1).read R2).read R3).read R4).read R5).read R6).allocAt (w.heap.size) #[.bool b, .slice A n c, .slice D m d] 26 (noL3 _ _ _ _ _ _ _) (by simp)).allocAt (w.heap.size + 1) #[.bool b', .slice A' n' c', .slice D' m' d'] 26 (noL3 _ _ _ _ _ _ _) (by simp)).allocAt (w.heap.size + 1 + 1) #[.bool b'', .slice A'' n'' c'', .slice D'' m'' d''] 26 (noL3 _ _ _ _ _ _ _) (by simp))
  replace S := Lib.hid S
  clear R1 R2 R3 R4 R5 R6 m1 m2 m3 m4 m5 m6
  cases h0 : lightB n m
  · rw [h0] at hL1
    clear hL2
    clear hL3
    clear hV1
    clear hV2
    clear hV3
    replace hL1 := Lib.hid hL1
    clear h0
    go_enter Tryz.func18, Tryz.ntmps18
    go_wp2_with fail
    refine (hL1.out _).mono ?_
    rintro e w1 ⟨rfl, bb⟩
    have T := (S.out.call bb)
    clear bb S
    have S := T
    clear T
    have c_z0 := S.cl 0 0 rfl rfl
    have c_z1 := S.cl 0 1 rfl rfl
    have c_z2 := S.cl 0 2 rfl rfl
    have c_y0 := S.cl 1 0 rfl rfl
    have c_y1 := S.cl 1 1 rfl rfl
    have c_y2 := S.cl 1 2 rfl rfl
    have c_x0 := S.cl 2 0 rfl rfl
    have c_x1 := S.cl 2 1 rfl rfl
    have c_x2 := S.cl 2 2 rfl rfl
    have hz : w.heap.size + 1 + 1 < w1.heap.size := S.lt 0 rfl
    replace S := Lib.hid S
    clear hL1
    have S : St w _ [(w.heap.size + 1 + 1, #[.bool b'', .slice A'' n'' c'', .slice D'' m'' d''], 26), (w.heap.size + 1, #[.bool b', .slice A' n' c', .slice D' m' d'], 26), (w.heap.size, #[.bool b, .slice A n c, .slice D m d], 26)] [(D'', m'', d'', fs), (A'', n'', c'', zs), (D', m', d', es), (A', n', c', ys), (D, m, d, ds), (A, n, c, xs)] := S.out
    replace S := Lib.hid S
    go_wp2
    go_ret
    exact ⟨rfl, S.out.bel⟩
  rw [h0] at hL1
  replace hV1 := hV1 h0
  cases h1 : lightB n' m'
  · rw [h1] at hL2
    clear hL3
    clear hV1
    clear hV2
    clear hV3
    replace hL1 := Lib.hid hL1
    replace hL2 := Lib.hid hL2
    clear h0 h1
    go_enter Tryz.func18, Tryz.ntmps18
    go_wp2_with fail
    refine (hL1.out _).mono ?_
    rintro e w1 ⟨rfl, bb⟩
    have T := (S.out.call bb)
    clear bb S
    have S := T
    clear T
    have c_z0 := S.cl 0 0 rfl rfl
    have c_z1 := S.cl 0 1 rfl rfl
    have c_z2 := S.cl 0 2 rfl rfl
    have c_y0 := S.cl 1 0 rfl rfl
    have c_y1 := S.cl 1 1 rfl rfl
    have c_y2 := S.cl 1 2 rfl rfl
    have c_x0 := S.cl 2 0 rfl rfl
    have c_x1 := S.cl 2 1 rfl rfl
    have c_x2 := S.cl 2 2 rfl rfl
    have hz : w.heap.size + 1 + 1 < w1.heap.size := S.lt 0 rfl
    replace S := Lib.hid S
    clear hL1
    go_wp2_with fail
    refine (hL2.out _).mono ?_
    rintro e w2 ⟨rfl, bb⟩
    have T := (S.out.call bb)
    clear bb S c_z0 c_z1 c_z2 c_y0 c_y1 c_y2 c_x0 c_x1 c_x2 hz
    have S := T
    clear T
    have c_z0 := S.cl 0 0 rfl rfl
    have c_z1 := S.cl 0 1 rfl rfl
    have c_z2 := S.cl 0 2 rfl rfl
    have c_y0 := S.cl 1 0 rfl rfl
    have c_y1 := S.cl 1 1 rfl rfl
    have c_y2 := S.cl 1 2 rfl rfl
    have c_x0 := S.cl 2 0 rfl rfl
    have c_x1 := S.cl 2 1 rfl rfl
    have c_x2 := S.cl 2 2 rfl rfl
    have hz : w.heap.size + 1 + 1 < w2.heap.size := S.lt 0 rfl
    replace S := Lib.hid S
    clear hL2
    have S : St w _ [(w.heap.size + 1 + 1, #[.bool b'', .slice A'' n'' c'', .slice D'' m'' d''], 26), (w.heap.size + 1, #[.bool b', .slice A' n' c', .slice D' m' d'], 26), (w.heap.size, #[.bool b, .slice A n c, .slice D m d], 26)] [(D'', m'', d'', fs), (A'', n'', c'', zs), (D', m', d', es), (A', n', c', ys), (D, m, d, ds), (A, n, c, xs)] := S.out
    replace S := Lib.hid S
    go_wp2
    go_ret
    exact ⟨rfl, S.out.bel⟩
  rw [h1] at hL2
  replace hV2 := hV2 h1
  cases h2 : lightB n'' m''
  · rw [h2] at hL3
    clear hV1
    clear hV2
    clear hV3
    replace hL1 := Lib.hid hL1
    replace hL2 := Lib.hid hL2
    replace hL3 := Lib.hid hL3
    clear h0 h1 h2
    go_enter Tryz.func18, Tryz.ntmps18
    go_wp2_with fail
    refine (hL1.out _).mono ?_
    rintro e w1 ⟨rfl, bb⟩
    have T := (S.out.call bb)
    clear bb S
    have S := T
    clear T
    have c_z0 := S.cl 0 0 rfl rfl
    have c_z1 := S.cl 0 1 rfl rfl
    have c_z2 := S.cl 0 2 rfl rfl
    have c_y0 := S.cl 1 0 rfl rfl
    have c_y1 := S.cl 1 1 rfl rfl
    have c_y2 := S.cl 1 2 rfl rfl
    have c_x0 := S.cl 2 0 rfl rfl
    have c_x1 := S.cl 2 1 rfl rfl
    have c_x2 := S.cl 2 2 rfl rfl
    have hz : w.heap.size + 1 + 1 < w1.heap.size := S.lt 0 rfl
    replace S := Lib.hid S
    clear hL1
    go_wp2_with fail
    refine (hL2.out _).mono ?_
    rintro e w2 ⟨rfl, bb⟩
    have T := (S.out.call bb)
    clear bb S c_z0 c_z1 c_z2 c_y0 c_y1 c_y2 c_x0 c_x1 c_x2 hz
    have S := T
    clear T
    have c_z0 := S.cl 0 0 rfl rfl
    have c_z1 := S.cl 0 1 rfl rfl
    have c_z2 := S.cl 0 2 rfl rfl
    have c_y0 := S.cl 1 0 rfl rfl
    have c_y1 := S.cl 1 1 rfl rfl
    have c_y2 := S.cl 1 2 rfl rfl
    have c_x0 := S.cl 2 0 rfl rfl
    have c_x1 := S.cl 2 1 rfl rfl
    have c_x2 := S.cl 2 2 rfl rfl
    have hz : w.heap.size + 1 + 1 < w2.heap.size := S.lt 0 rfl
    replace S := Lib.hid S
    clear hL2
    go_wp2_with fail
    refine (hL3.out _).mono ?_
    rintro e w3 ⟨rfl, bb⟩
    have T := (S.out.call bb)
    clear bb S c_z0 c_z1 c_z2 c_y0 c_y1 c_y2 c_x0 c_x1 c_x2 hz
    have S := T
    clear T
    have c_z0 := S.cl 0 0 rfl rfl
    have c_z1 := S.cl 0 1 rfl rfl
    have c_z2 := S.cl 0 2 rfl rfl
    have c_y0 := S.cl 1 0 rfl rfl
    have c_y1 := S.cl 1 1 rfl rfl
    have c_y2 := S.cl 1 2 rfl rfl
    have c_x0 := S.cl 2 0 rfl rfl
    have c_x1 := S.cl 2 1 rfl rfl
    have c_x2 := S.cl 2 2 rfl rfl
    have hz : w.heap.size + 1 + 1 < w3.heap.size := S.lt 0 rfl
    replace S := Lib.hid S
    clear hL3
    have S : St w _ [(w.heap.size + 1 + 1, #[.bool b'', .slice A'' n'' c'', .slice D'' m'' d''], 26), (w.heap.size + 1, #[.bool b', .slice A' n' c', .slice D' m' d'], 26), (w.heap.size, #[.bool b, .slice A n c, .slice D m d], 26)] [(D'', m'', d'', fs), (A'', n'', c'', zs), (D', m', d', es), (A', n', c', ys), (D, m, d, ds), (A, n, c, xs)] := S.out
    replace S := Lib.hid S
    go_wp2
    go_ret
    exact ⟨rfl, S.out.bel⟩
  rw [h2] at hL3
  replace hV3 := hV3 h2
  cases h3 : vldR b xs ds
  · rw [h3] at hV1
    clear hV2
    clear hV3
    replace hL1 := Lib.hid hL1
    replace hL2 := Lib.hid hL2
    replace hL3 := Lib.hid hL3
    replace hV1 := Lib.hid hV1
    clear h0 h1 h2 h3
    go_enter Tryz.func18, Tryz.ntmps18
    go_wp2_with fail
    refine (hL1.out _).mono ?_
    rintro e w1 ⟨rfl, bb⟩
    have T := (S.out.call bb)
    clear bb S
    have S := T
    clear T
    have c_z0 := S.cl 0 0 rfl rfl
    have c_z1 := S.cl 0 1 rfl rfl
    have c_z2 := S.cl 0 2 rfl rfl
    have c_y0 := S.cl 1 0 rfl rfl
    have c_y1 := S.cl 1 1 rfl rfl
    have c_y2 := S.cl 1 2 rfl rfl
    have c_x0 := S.cl 2 0 rfl rfl
    have c_x1 := S.cl 2 1 rfl rfl
    have c_x2 := S.cl 2 2 rfl rfl
    have hz : w.heap.size + 1 + 1 < w1.heap.size := S.lt 0 rfl
    replace S := Lib.hid S
    clear hL1
    go_wp2_with fail
    refine (hL2.out _).mono ?_
    rintro e w2 ⟨rfl, bb⟩
    have T := (S.out.call bb)
    clear bb S c_z0 c_z1 c_z2 c_y0 c_y1 c_y2 c_x0 c_x1 c_x2 hz
    have S := T
    clear T
    have c_z0 := S.cl 0 0 rfl rfl
    have c_z1 := S.cl 0 1 rfl rfl
    have c_z2 := S.cl 0 2 rfl rfl
    have c_y0 := S.cl 1 0 rfl rfl
    have c_y1 := S.cl 1 1 rfl rfl
    have c_y2 := S.cl 1 2 rfl rfl
    have c_x0 := S.cl 2 0 rfl rfl
    have c_x1 := S.cl 2 1 rfl rfl
    have c_x2 := S.cl 2 2 rfl rfl
    have hz : w.heap.size + 1 + 1 < w2.heap.size := S.lt 0 rfl
    replace S := Lib.hid S
    clear hL2
    go_wp2_with fail
    refine (hL3.out _).mono ?_
    rintro e w3 ⟨rfl, bb⟩
    have T := (S.out.call bb)
    clear bb S c_z0 c_z1 c_z2 c_y0 c_y1 c_y2 c_x0 c_x1 c_x2 hz
    have S := T
    clear T
    have c_z0 := S.cl 0 0 rfl rfl
    have c_z1 := S.cl 0 1 rfl rfl
    have c_z2 := S.cl 0 2 rfl rfl
    have c_y0 := S.cl 1 0 rfl rfl
    have c_y1 := S.cl 1 1 rfl rfl
    have c_y2 := S.cl 1 2 rfl rfl
    have c_x0 := S.cl 2 0 rfl rfl
    have c_x1 := S.cl 2 1 rfl rfl
    have c_x2 := S.cl 2 2 rfl rfl
    have hz : w.heap.size + 1 + 1 < w3.heap.size := S.lt 0 rfl
    replace S := Lib.hid S
    clear hL3
    go_wp2_with fail
    refine (hV1.out _ (S.out.r 5 rfl) (S.out.r 4 rfl)).mono ?_
    rintro e w4 ⟨rfl, bb⟩
    have T := (S.out.call bb)
    clear bb S c_z0 c_z1 c_z2 c_y0 c_y1 c_y2 c_x0 c_x1 c_x2 hz
    have S := T
    clear T
    have c_z0 := S.cl 0 0 rfl rfl
    have c_z1 := S.cl 0 1 rfl rfl
    have c_z2 := S.cl 0 2 rfl rfl
    have c_y0 := S.cl 1 0 rfl rfl
    have c_y1 := S.cl 1 1 rfl rfl
    have c_y2 := S.cl 1 2 rfl rfl
    have c_x0 := S.cl 2 0 rfl rfl
    have c_x1 := S.cl 2 1 rfl rfl
    have c_x2 := S.cl 2 2 rfl rfl
    have hz : w.heap.size + 1 + 1 < w4.heap.size := S.lt 0 rfl
    replace S := Lib.hid S
    clear hV1
    have S : St w _ [(w.heap.size + 1 + 1, #[.bool b'', .slice A'' n'' c'', .slice D'' m'' d''], 26), (w.heap.size + 1, #[.bool b', .slice A' n' c', .slice D' m' d'], 26), (w.heap.size, #[.bool b, .slice A n c, .slice D m d], 26)] [(D'', m'', d'', fs), (A'', n'', c'', zs), (D', m', d', es), (A', n', c', ys), (D, m, d, ds), (A, n, c, xs)] := S.out
    replace S := Lib.hid S
    go_wp2
    go_ret
    exact ⟨rfl, S.out.bel⟩
  rw [h3] at hV1
  cases h4 : vldR b' ys es
  · rw [h4] at hV2
    clear hV3
    replace hL1 := Lib.hid hL1
    replace hL2 := Lib.hid hL2
    replace hL3 := Lib.hid hL3
    replace hV1 := Lib.hid hV1
    replace hV2 := Lib.hid hV2
    clear h0 h1 h2 h3 h4
    go_enter Tryz.func18, Tryz.ntmps18
    go_wp2_with fail
    refine (hL1.out _).mono ?_
    rintro e w1 ⟨rfl, bb⟩
    have T := (S.out.call bb)
    clear bb S
    have S := T
    clear T
    have c_z0 := S.cl 0 0 rfl rfl
    have c_z1 := S.cl 0 1 rfl rfl
    have c_z2 := S.cl 0 2 rfl rfl
    have c_y0 := S.cl 1 0 rfl rfl
    have c_y1 := S.cl 1 1 rfl rfl
    have c_y2 := S.cl 1 2 rfl rfl
    have c_x0 := S.cl 2 0 rfl rfl
    have c_x1 := S.cl 2 1 rfl rfl
    have c_x2 := S.cl 2 2 rfl rfl
    have hz : w.heap.size + 1 + 1 < w1.heap.size := S.lt 0 rfl
    replace S := Lib.hid S
    clear hL1
    go_wp2_with fail
    refine (hL2.out _).mono ?_
    rintro e w2 ⟨rfl, bb⟩
    have T := (S.out.call bb)
    clear bb S c_z0 c_z1 c_z2 c_y0 c_y1 c_y2 c_x0 c_x1 c_x2 hz
    have S := T
    clear T
    have c_z0 := S.cl 0 0 rfl rfl
    have c_z1 := S.cl 0 1 rfl rfl
    have c_z2 := S.cl 0 2 rfl rfl
    have c_y0 := S.cl 1 0 rfl rfl
    have c_y1 := S.cl 1 1 rfl rfl
    have c_y2 := S.cl 1 2 rfl rfl
    have c_x0 := S.cl 2 0 rfl rfl
    have c_x1 := S.cl 2 1 rfl rfl
    have c_x2 := S.cl 2 2 rfl rfl
    have hz : w.heap.size + 1 + 1 < w2.heap.size := S.lt 0 rfl
    replace S := Lib.hid S
    clear hL2
    go_wp2_with fail
    refine (hL3.out _).mono ?_
    rintro e w3 ⟨rfl, bb⟩
    have T := (S.out.call bb)
    clear bb S c_z0 c_z1 c_z2 c_y0 c_y1 c_y2 c_x0 c_x1 c_x2 hz
    have S := T
    clear T
    have c_z0 := S.cl 0 0 rfl rfl
    have c_z1 := S.cl 0 1 rfl rfl
    have c_z2 := S.cl 0 2 rfl rfl
    have c_y0 := S.cl 1 0 rfl rfl
    have c_y1 := S.cl 1 1 rfl rfl
    have c_y2 := S.cl 1 2 rfl rfl
    have c_x0 := S.cl 2 0 rfl rfl
    have c_x1 := S.cl 2 1 rfl rfl
    have c_x2 := S.cl 2 2 rfl rfl
    have hz : w.heap.size + 1 + 1 < w3.heap.size := S.lt 0 rfl
    replace S := Lib.hid S
    clear hL3
    go_wp2_with fail
    refine (hV1.out _ (S.out.r 5 rfl) (S.out.r 4 rfl)).mono ?_
    rintro e w4 ⟨rfl, bb⟩
    have T := (S.out.call bb)
    clear bb S c_z0 c_z1 c_z2 c_y0 c_y1 c_y2 c_x0 c_x1 c_x2 hz
    have S := T
    clear T
    have c_z0 := S.cl 0 0 rfl rfl
    have c_z1 := S.cl 0 1 rfl rfl
    have c_z2 := S.cl 0 2 rfl rfl
    have c_y0 := S.cl 1 0 rfl rfl
    have c_y1 := S.cl 1 1 rfl rfl
    have c_y2 := S.cl 1 2 rfl rfl
    have c_x0 := S.cl 2 0 rfl rfl
    have c_x1 := S.cl 2 1 rfl rfl
    have c_x2 := S.cl 2 2 rfl rfl
    have hz : w.heap.size + 1 + 1 < w4.heap.size := S.lt 0 rfl
    replace S := Lib.hid S
    clear hV1
    go_wp2_with fail
    refine (hV2.out _ (S.out.r 3 rfl) (S.out.r 2 rfl)).mono ?_
    rintro e w5 ⟨rfl, bb⟩
    have T := (S.out.call bb)
    clear bb S c_z0 c_z1 c_z2 c_y0 c_y1 c_y2 c_x0 c_x1 c_x2 hz
    have S := T
    clear T
    have c_z0 := S.cl 0 0 rfl rfl
    have c_z1 := S.cl 0 1 rfl rfl
    have c_z2 := S.cl 0 2 rfl rfl
    have c_y0 := S.cl 1 0 rfl rfl
    have c_y1 := S.cl 1 1 rfl rfl
    have c_y2 := S.cl 1 2 rfl rfl
    have c_x0 := S.cl 2 0 rfl rfl
    have c_x1 := S.cl 2 1 rfl rfl
    have c_x2 := S.cl 2 2 rfl rfl
    have hz : w.heap.size + 1 + 1 < w5.heap.size := S.lt 0 rfl
    replace S := Lib.hid S
    clear hV2
    have S : St w _ [(w.heap.size + 1 + 1, #[.bool b'', .slice A'' n'' c'', .slice D'' m'' d''], 26), (w.heap.size + 1, #[.bool b', .slice A' n' c', .slice D' m' d'], 26), (w.heap.size, #[.bool b, .slice A n c, .slice D m d], 26)] [(D'', m'', d'', fs), (A'', n'', c'', zs), (D', m', d', es), (A', n', c', ys), (D, m, d, ds), (A, n, c, xs)] := S.out
    replace S := Lib.hid S
    go_wp2
    go_ret
    exact ⟨rfl, S.out.bel⟩
  rw [h4] at hV2
  cases h5 : vldR b'' zs fs
  · rw [h5] at hV3
    replace hL1 := Lib.hid hL1
    replace hL2 := Lib.hid hL2
    replace hL3 := Lib.hid hL3
    replace hV1 := Lib.hid hV1
    replace hV2 := Lib.hid hV2
    replace hV3 := Lib.hid hV3
    clear h0 h1 h2 h3 h4 h5
    go_enter Tryz.func18, Tryz.ntmps18
    go_wp2_with fail
    refine (hL1.out _).mono ?_
    rintro e w1 ⟨rfl, bb⟩
    have T := (S.out.call bb)
    clear bb S
    have S := T
    clear T
    have c_z0 := S.cl 0 0 rfl rfl
    have c_z1 := S.cl 0 1 rfl rfl
    have c_z2 := S.cl 0 2 rfl rfl
    have c_y0 := S.cl 1 0 rfl rfl
    have c_y1 := S.cl 1 1 rfl rfl
    have c_y2 := S.cl 1 2 rfl rfl
    have c_x0 := S.cl 2 0 rfl rfl
    have c_x1 := S.cl 2 1 rfl rfl
    have c_x2 := S.cl 2 2 rfl rfl
    have hz : w.heap.size + 1 + 1 < w1.heap.size := S.lt 0 rfl
    replace S := Lib.hid S
    clear hL1
    go_wp2_with fail
    refine (hL2.out _).mono ?_
    rintro e w2 ⟨rfl, bb⟩
    have T := (S.out.call bb)
    clear bb S c_z0 c_z1 c_z2 c_y0 c_y1 c_y2 c_x0 c_x1 c_x2 hz
    have S := T
    clear T
    have c_z0 := S.cl 0 0 rfl rfl
    have c_z1 := S.cl 0 1 rfl rfl
    have c_z2 := S.cl 0 2 rfl rfl
    have c_y0 := S.cl 1 0 rfl rfl
    have c_y1 := S.cl 1 1 rfl rfl
    have c_y2 := S.cl 1 2 rfl rfl
    have c_x0 := S.cl 2 0 rfl rfl
    have c_x1 := S.cl 2 1 rfl rfl
    have c_x2 := S.cl 2 2 rfl rfl
    have hz : w.heap.size + 1 + 1 < w2.heap.size := S.lt 0 rfl
    replace S := Lib.hid S
    clear hL2
    go_wp2_with fail
    refine (hL3.out _).mono ?_
    rintro e w3 ⟨rfl, bb⟩
    have T := (S.out.call bb)
    clear bb S c_z0 c_z1 c_z2 c_y0 c_y1 c_y2 c_x0 c_x1 c_x2 hz
    have S := T
    clear T
    have c_z0 := S.cl 0 0 rfl rfl
    have c_z1 := S.cl 0 1 rfl rfl
    have c_z2 := S.cl 0 2 rfl rfl
    have c_y0 := S.cl 1 0 rfl rfl
    have c_y1 := S.cl 1 1 rfl rfl
    have c_y2 := S.cl 1 2 rfl rfl
    have c_x0 := S.cl 2 0 rfl rfl
    have c_x1 := S.cl 2 1 rfl rfl
    have c_x2 := S.cl 2 2 rfl rfl
    have hz : w.heap.size + 1 + 1 < w3.heap.size := S.lt 0 rfl
    replace S := Lib.hid S
    clear hL3
    go_wp2_with fail
    refine (hV1.out _ (S.out.r 5 rfl) (S.out.r 4 rfl)).mono ?_
    rintro e w4 ⟨rfl, bb⟩
    have T := (S.out.call bb)
    clear bb S c_z0 c_z1 c_z2 c_y0 c_y1 c_y2 c_x0 c_x1 c_x2 hz
    have S := T
    clear T
    have c_z0 := S.cl 0 0 rfl rfl
    have c_z1 := S.cl 0 1 rfl rfl
    have c_z2 := S.cl 0 2 rfl rfl
    have c_y0 := S.cl 1 0 rfl rfl
    have c_y1 := S.cl 1 1 rfl rfl
    have c_y2 := S.cl 1 2 rfl rfl
    have c_x0 := S.cl 2 0 rfl rfl
    have c_x1 := S.cl 2 1 rfl rfl
    have c_x2 := S.cl 2 2 rfl rfl
    have hz : w.heap.size + 1 + 1 < w4.heap.size := S.lt 0 rfl
    replace S := Lib.hid S
    clear hV1
    go_wp2_with fail
    refine (hV2.out _ (S.out.r 3 rfl) (S.out.r 2 rfl)).mono ?_
    rintro e w5 ⟨rfl, bb⟩
    have T := (S.out.call bb)
    clear bb S c_z0 c_z1 c_z2 c_y0 c_y1 c_y2 c_x0 c_x1 c_x2 hz
    have S := T
    clear T
    have c_z0 := S.cl 0 0 rfl rfl
    have c_z1 := S.cl 0 1 rfl rfl
    have c_z2 := S.cl 0 2 rfl rfl
    have c_y0 := S.cl 1 0 rfl rfl
    have c_y1 := S.cl 1 1 rfl rfl
    have c_y2 := S.cl 1 2 rfl rfl
    have c_x0 := S.cl 2 0 rfl rfl
    have c_x1 := S.cl 2 1 rfl rfl
    have c_x2 := S.cl 2 2 rfl rfl
    have hz : w.heap.size + 1 + 1 < w5.heap.size := S.lt 0 rfl
    replace S := Lib.hid S
    clear hV2
    go_wp2_with fail
    refine (hV3.out _ (S.out.r 1 rfl) (S.out.r 0 rfl)).mono ?_
    rintro e w6 ⟨rfl, bb⟩
    have T := (S.out.call bb)
    clear bb S c_z0 c_z1 c_z2 c_y0 c_y1 c_y2 c_x0 c_x1 c_x2 hz
    have S := T
    clear T
    have c_z0 := S.cl 0 0 rfl rfl
    have c_z1 := S.cl 0 1 rfl rfl
    have c_z2 := S.cl 0 2 rfl rfl
    have c_y0 := S.cl 1 0 rfl rfl
    have c_y1 := S.cl 1 1 rfl rfl
    have c_y2 := S.cl 1 2 rfl rfl
    have c_x0 := S.cl 2 0 rfl rfl
    have c_x1 := S.cl 2 1 rfl rfl
    have c_x2 := S.cl 2 2 rfl rfl
    have hz : w.heap.size + 1 + 1 < w6.heap.size := S.lt 0 rfl
    replace S := Lib.hid S
    clear hV3
    have S : St w _ [(w.heap.size + 1 + 1, #[.bool b'', .slice A'' n'' c'', .slice D'' m'' d''], 26), (w.heap.size + 1, #[.bool b', .slice A' n' c', .slice D' m' d'], 26), (w.heap.size, #[.bool b, .slice A n c, .slice D m d], 26)] [(D'', m'', d'', fs), (A'', n'', c'', zs), (D', m', d', es), (A', n', c', ys), (D, m, d, ds), (A, n, c, xs)] := S.out
    replace S := Lib.hid S
    go_wp2
    go_ret
    exact ⟨rfl, S.out.bel⟩
  rw [h5] at hV3
  replace hL1 := Lib.hid hL1
  replace hL2 := Lib.hid hL2
  replace hL3 := Lib.hid hL3
  replace hV1 := Lib.hid hV1
  replace hV2 := Lib.hid hV2
  replace hV3 := Lib.hid hV3
  clear h0 h1 h2 h3 h4 h5
  go_enter Tryz.func18, Tryz.ntmps18
  go_wp2_with fail
  refine (hL1.out _).mono ?_
  rintro e w1 ⟨rfl, bb⟩
  have T := (S.out.call bb)
  clear bb S
  have S := T
  clear T
  have c_z0 := S.cl 0 0 rfl rfl
  have c_z1 := S.cl 0 1 rfl rfl
  have c_z2 := S.cl 0 2 rfl rfl
  have c_y0 := S.cl 1 0 rfl rfl
  have c_y1 := S.cl 1 1 rfl rfl
  have c_y2 := S.cl 1 2 rfl rfl
  have c_x0 := S.cl 2 0 rfl rfl
  have c_x1 := S.cl 2 1 rfl rfl
  have c_x2 := S.cl 2 2 rfl rfl
  have hz : w.heap.size + 1 + 1 < w1.heap.size := S.lt 0 rfl
  replace S := Lib.hid S
  clear hL1
  go_wp2_with fail
  refine (hL2.out _).mono ?_
  rintro e w2 ⟨rfl, bb⟩
  have T := (S.out.call bb)
  clear bb S c_z0 c_z1 c_z2 c_y0 c_y1 c_y2 c_x0 c_x1 c_x2 hz
  have S := T
  clear T
  have c_z0 := S.cl 0 0 rfl rfl
  have c_z1 := S.cl 0 1 rfl rfl
  have c_z2 := S.cl 0 2 rfl rfl
  have c_y0 := S.cl 1 0 rfl rfl
  have c_y1 := S.cl 1 1 rfl rfl
  have c_y2 := S.cl 1 2 rfl rfl
  have c_x0 := S.cl 2 0 rfl rfl
  have c_x1 := S.cl 2 1 rfl rfl
  have c_x2 := S.cl 2 2 rfl rfl
  have hz : w.heap.size + 1 + 1 < w2.heap.size := S.lt 0 rfl
  replace S := Lib.hid S
  clear hL2
  go_wp2_with fail
  refine (hL3.out _).mono ?_
  rintro e w3 ⟨rfl, bb⟩
  have T := (S.out.call bb)
  clear bb S c_z0 c_z1 c_z2 c_y0 c_y1 c_y2 c_x0 c_x1 c_x2 hz
  have S := T
  clear T
  have c_z0 := S.cl 0 0 rfl rfl
  have c_z1 := S.cl 0 1 rfl rfl
  have c_z2 := S.cl 0 2 rfl rfl
  have c_y0 := S.cl 1 0 rfl rfl
  have c_y1 := S.cl 1 1 rfl rfl
  have c_y2 := S.cl 1 2 rfl rfl
  have c_x0 := S.cl 2 0 rfl rfl
  have c_x1 := S.cl 2 1 rfl rfl
  have c_x2 := S.cl 2 2 rfl rfl
  have hz : w.heap.size + 1 + 1 < w3.heap.size := S.lt 0 rfl
  replace S := Lib.hid S
  clear hL3
  go_wp2_with fail
  refine (hV1.out _ (S.out.r 5 rfl) (S.out.r 4 rfl)).mono ?_
  rintro e w4 ⟨rfl, bb⟩
  have T := (S.out.call bb)
  clear bb S c_z0 c_z1 c_z2 c_y0 c_y1 c_y2 c_x0 c_x1 c_x2 hz
  have S := T
  clear T
  have c_z0 := S.cl 0 0 rfl rfl
  have c_z1 := S.cl 0 1 rfl rfl
  have c_z2 := S.cl 0 2 rfl rfl
  have c_y0 := S.cl 1 0 rfl rfl
  have c_y1 := S.cl 1 1 rfl rfl
  have c_y2 := S.cl 1 2 rfl rfl
  have c_x0 := S.cl 2 0 rfl rfl
  have c_x1 := S.cl 2 1 rfl rfl
  have c_x2 := S.cl 2 2 rfl rfl
  have hz : w.heap.size + 1 + 1 < w4.heap.size := S.lt 0 rfl
  replace S := Lib.hid S
  clear hV1
  go_wp2_with fail
  refine (hV2.out _ (S.out.r 3 rfl) (S.out.r 2 rfl)).mono ?_
  rintro e w5 ⟨rfl, bb⟩
  have T := (S.out.call bb)
  clear bb S c_z0 c_z1 c_z2 c_y0 c_y1 c_y2 c_x0 c_x1 c_x2 hz
  have S := T
  clear T
  have c_z0 := S.cl 0 0 rfl rfl
  have c_z1 := S.cl 0 1 rfl rfl
  have c_z2 := S.cl 0 2 rfl rfl
  have c_y0 := S.cl 1 0 rfl rfl
  have c_y1 := S.cl 1 1 rfl rfl
  have c_y2 := S.cl 1 2 rfl rfl
  have c_x0 := S.cl 2 0 rfl rfl
  have c_x1 := S.cl 2 1 rfl rfl
  have c_x2 := S.cl 2 2 rfl rfl
  have hz : w.heap.size + 1 + 1 < w5.heap.size := S.lt 0 rfl
  replace S := Lib.hid S
  clear hV2
  go_wp2_with fail
  refine (hV3.out _ (S.out.r 1 rfl) (S.out.r 0 rfl)).mono ?_
  rintro e w6 ⟨rfl, bb⟩
  have T := (S.out.call bb)
  clear bb S c_z0 c_z1 c_z2 c_y0 c_y1 c_y2 c_x0 c_x1 c_x2 hz
  have S := T
  clear T
  have c_z0 := S.cl 0 0 rfl rfl
  have c_z1 := S.cl 0 1 rfl rfl
  have c_z2 := S.cl 0 2 rfl rfl
  have c_y0 := S.cl 1 0 rfl rfl
  have c_y1 := S.cl 1 1 rfl rfl
  have c_y2 := S.cl 1 2 rfl rfl
  have c_x0 := S.cl 2 0 rfl rfl
  have c_x1 := S.cl 2 1 rfl rfl
  have c_x2 := S.cl 2 2 rfl rfl
  have hz : w.heap.size + 1 + 1 < w6.heap.size := S.lt 0 rfl
  replace S := Lib.hid S
  clear hV3
  have S : St w _ [(w.heap.size + 1 + 1, #[.bool b'', .slice A'' n'' c'', .slice D'' m'' d''], 26), (w.heap.size + 1, #[.bool b', .slice A' n' c', .slice D' m' d'], 26), (w.heap.size, #[.bool b, .slice A n c, .slice D m d], 26)] [(D'', m'', d'', fs), (A'', n'', c'', zs), (D', m', d', es), (A', n', c', ys), (D, m, d, ds), (A, n, c, xs)] := S.out
  replace S := Lib.hid S
  go_wp2
  go_ret
  exact ⟨rfl, S.out.bel⟩

end Go.Proofs.YtgpgpkkgpedifaaGreatDoor
