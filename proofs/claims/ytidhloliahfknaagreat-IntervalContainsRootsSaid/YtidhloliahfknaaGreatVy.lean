/- The reference's Min, Max. -/
import Derived.Test.YtidhloliahfknaaGreatQVpz
namespace Go.Proofs.YtidhloliahfknaaGreat
open Go.RowKit RQ
theorem res_min_any (W : World) (tmps : Array Value) (g t : Nat) {v0 v1 v2 : Value} (ht : tmps.getD 4 undef = .pointer (some ⟨g, 0, none⟩)) (h : Cb W g #[v0, v1, v2] t) :
    (results Tryz.f77 tmps).run Tryz.prog W = .ok (.agg #[v0, v1, v2]) W := by
  have c0 : W.cell? ⟨g, 0, none⟩ = some v0 := h.cell rfl
  have c1 : W.cell? ⟨g, 1, none⟩ = some v1 := h.cell rfl
  have c2 : W.cell? ⟨g, 2, none⟩ = some v2 := h.cell rfl
  have ht' : tmps[4]?.getD undef = .pointer (some ⟨g, 0, none⟩) := by rw [← ht]; simp [Array.getD_eq_getD_getElem?]
  simp [results, Tryz.results77, go_sem, ht', c0, c1, c2]

set_option maxRecDepth 100000 in
set_option maxHeartbeats 4000000 in
theorem min_any_a (b1 : Bool) (A1 : Option Addr) (n1 c1 : Nat) (x1 : List Nat) (D1 : Option Addr) (m1 d1 : Nat) (y1 : List Nat) (q1 : Rat) (b2 : Bool) (A2 : Option Addr) (n2 c2 : Nat) (x2 : List Nat) (D2 : Option Addr) (m2 d2 : Nat) (y2 : List Nat) (q2 : Rat) (h : q2 < q1) (w : World) (X1 : Rw w b1 A1 n1 c1 x1 D1 m1 d1 y1 q1) (X2 : Rw w b2 A2 n2 c2 x2 D2 m2 d2 y2 q2) : Calls Tryz.prog 77 #[.agg #[.bool b1, .slice A1 n1 c1, .slice D1 m1 d1], .agg #[.bool b2, .slice A2 n2 c2, .slice D2 m2 d2]] w (RetR q2 w) := by
  have hL := fun W h1 h2 => less_any b2 A2 n2 c2 x2 D2 m2 d2 y2 q2 b1 A1 n1 c1 x1 D1 m1 d1 y1 q1 W h1 h2
  rw [show decide (q2 < q1) = true from decide_eq_true h] at hL
  replace hL := Lib.hid hL
  clear h
  have hT := Lib.hid (fun W h1 => takeF b2 A2 n2 c2 x2 D2 m2 d2 y2 q2 W h1)
  have k1 := Lib.hid X1.k
  have k2 := Lib.hid X2.k
  have S := ((((((((St.new w).read X1.rn).read X1.rd).read X2.rn).read X2.rd).allocAt (w.heap.size) #[.bool b1, .slice A1 n1 c1, .slice D1 m1 d1] 26 (noL3 _ _ _ _ _ _ _) (by simp)).allocAt (w.heap.size + 1) #[.bool b2, .slice A2 n2 c2, .slice D2 m2 d2] 26 (noL3 _ _ _ _ _ _ _) (by simp)).allocAt (w.heap.size + 1 + 1) #[.bool false, .slice none 0 0, .slice none 0 0] 26 (noL3 _ _ _ _ _ _ _) (by simp))
  replace S := Lib.hid S
  clear X1 X2
  go_enter Tryz.func77, Tryz.ntmps77
  go_wp2_with fail
  refine (hL.out _ (Rw.of (S.out.r 1 rfl) (S.out.r 0 rfl) k2.out) (Rw.of (S.out.r 3 rfl) (S.out.r 2 rfl) k1.out)).mono ?_
  rintro e w1 ⟨rfl, bb⟩
  have T := (S.out.call bb)
  clear bb S
  have S := T
  clear T
  obtain ⟨c_r0, c_r1, c_r2, f_r0, f_r1, f_r2⟩ := S.cf3 0 rfl
  obtain ⟨c_y0, c_y1, c_y2, f_y0, f_y1, f_y2⟩ := S.cf3 1 rfl
  obtain ⟨c_x0, c_x1, c_x2, f_x0, f_x1, f_x2⟩ := S.cf3 2 rfl
  have hz : w.heap.size + 1 + 1 < w1.heap.size := S.lt 0 rfl
  replace S := Lib.hid S
  clear hL
  go_wp2_with fail
  refine (hT.out _ (Rw.of (S.out.r 1 rfl) (S.out.r 0 rfl) k2.out)).mono ?_
  rintro e w2 ⟨A9, n9, c9, D9, m9, d9, rfl, Q9, bb⟩
  have T := (((S.out.call bb).read Q9.n).read Q9.d)
  clear bb S c_r0 f_r0 c_r1 f_r1 c_r2 f_r2 c_y0 f_y0 c_y1 f_y1 c_y2 f_y2 c_x0 f_x0 c_x1 f_x1 c_x2 f_x2 hz
  have S := T
  clear T
  obtain ⟨c_r0, c_r1, c_r2, f_r0, f_r1, f_r2⟩ := S.cf3 0 rfl
  obtain ⟨c_y0, c_y1, c_y2, f_y0, f_y1, f_y2⟩ := S.cf3 1 rfl
  obtain ⟨c_x0, c_x1, c_x2, f_x0, f_x1, f_x2⟩ := S.cf3 2 rfl
  have hz : w.heap.size + 1 + 1 < w2.heap.size := S.lt 0 rfl
  replace S := Lib.hid S
  clear Q9 hT
  have S : St w _ [(w.heap.size + 1 + 1, #[.bool (ng q2.num), .slice A9 n9 c9, .slice D9 m9 d9], 26), (w.heap.size + 1, #[.bool b2, .slice A2 n2 c2, .slice D2 m2 d2], 26), (w.heap.size, #[.bool b1, .slice A1 n1 c1, .slice D1 m1 d1], 26)] [(D9, m9, d9, dn q2), (A9, n9, c9, limbs q2.num.natAbs), (D2, m2, d2, y2), (A2, n2, c2, x2), (D1, m1, d1, y1), (A1, n1, c1, x1)] := (((S.out.set 0 0 (.bool (ng q2.num)) rfl (by nofun)).set 0 1 (.slice A9 n9 c9) rfl (by nofun)).set 0 2 (.slice D9 m9 d9) rfl (by nofun))
  replace S := Lib.hid S
  go_wp2
  refine bodyPost_ret (res_min_any _ _ (w.heap.size + 1 + 1) 26 rfl (S.out.bk _ (List.mem_of_getElem? (i := 0) rfl)).1) rfl ?_
  exact ⟨_, _, _, _, _, _, rfl, ⟨S.out.r 1 rfl, S.out.r 0 rfl⟩, S.out.bel⟩

set_option maxRecDepth 100000 in
set_option maxHeartbeats 4000000 in
theorem min_any_b (b1 : Bool) (A1 : Option Addr) (n1 c1 : Nat) (x1 : List Nat) (D1 : Option Addr) (m1 d1 : Nat) (y1 : List Nat) (q1 : Rat) (b2 : Bool) (A2 : Option Addr) (n2 c2 : Nat) (x2 : List Nat) (D2 : Option Addr) (m2 d2 : Nat) (y2 : List Nat) (q2 : Rat) (h : ¬ q2 < q1) (w : World) (X1 : Rw w b1 A1 n1 c1 x1 D1 m1 d1 y1 q1) (X2 : Rw w b2 A2 n2 c2 x2 D2 m2 d2 y2 q2) : Calls Tryz.prog 77 #[.agg #[.bool b1, .slice A1 n1 c1, .slice D1 m1 d1], .agg #[.bool b2, .slice A2 n2 c2, .slice D2 m2 d2]] w (RetR q1 w) := by
  have hL := fun W h1 h2 => less_any b2 A2 n2 c2 x2 D2 m2 d2 y2 q2 b1 A1 n1 c1 x1 D1 m1 d1 y1 q1 W h1 h2
  rw [show decide (q2 < q1) = false from decide_eq_false h] at hL
  replace hL := Lib.hid hL
  clear h
  have hT := Lib.hid (fun W h1 => takeF b1 A1 n1 c1 x1 D1 m1 d1 y1 q1 W h1)
  have k1 := Lib.hid X1.k
  have k2 := Lib.hid X2.k
  have S := ((((((((St.new w).read X1.rn).read X1.rd).read X2.rn).read X2.rd).allocAt (w.heap.size) #[.bool b1, .slice A1 n1 c1, .slice D1 m1 d1] 26 (noL3 _ _ _ _ _ _ _) (by simp)).allocAt (w.heap.size + 1) #[.bool b2, .slice A2 n2 c2, .slice D2 m2 d2] 26 (noL3 _ _ _ _ _ _ _) (by simp)).allocAt (w.heap.size + 1 + 1) #[.bool false, .slice none 0 0, .slice none 0 0] 26 (noL3 _ _ _ _ _ _ _) (by simp))
  replace S := Lib.hid S
  clear X1 X2
  go_enter Tryz.func77, Tryz.ntmps77
  go_wp2_with fail
  refine (hL.out _ (Rw.of (S.out.r 1 rfl) (S.out.r 0 rfl) k2.out) (Rw.of (S.out.r 3 rfl) (S.out.r 2 rfl) k1.out)).mono ?_
  rintro e w1 ⟨rfl, bb⟩
  have T := (S.out.call bb)
  clear bb S
  have S := T
  clear T
  obtain ⟨c_r0, c_r1, c_r2, f_r0, f_r1, f_r2⟩ := S.cf3 0 rfl
  obtain ⟨c_y0, c_y1, c_y2, f_y0, f_y1, f_y2⟩ := S.cf3 1 rfl
  obtain ⟨c_x0, c_x1, c_x2, f_x0, f_x1, f_x2⟩ := S.cf3 2 rfl
  have hz : w.heap.size + 1 + 1 < w1.heap.size := S.lt 0 rfl
  replace S := Lib.hid S
  clear hL
  go_wp2_with fail
  refine (hT.out _ (Rw.of (S.out.r 3 rfl) (S.out.r 2 rfl) k1.out)).mono ?_
  rintro e w2 ⟨A9, n9, c9, D9, m9, d9, rfl, Q9, bb⟩
  have T := (((S.out.call bb).read Q9.n).read Q9.d)
  clear bb S c_r0 f_r0 c_r1 f_r1 c_r2 f_r2 c_y0 f_y0 c_y1 f_y1 c_y2 f_y2 c_x0 f_x0 c_x1 f_x1 c_x2 f_x2 hz
  have S := T
  clear T
  obtain ⟨c_r0, c_r1, c_r2, f_r0, f_r1, f_r2⟩ := S.cf3 0 rfl
  obtain ⟨c_y0, c_y1, c_y2, f_y0, f_y1, f_y2⟩ := S.cf3 1 rfl
  obtain ⟨c_x0, c_x1, c_x2, f_x0, f_x1, f_x2⟩ := S.cf3 2 rfl
  have hz : w.heap.size + 1 + 1 < w2.heap.size := S.lt 0 rfl
  replace S := Lib.hid S
  clear Q9 hT
  have S : St w _ [(w.heap.size + 1 + 1, #[.bool (ng q1.num), .slice A9 n9 c9, .slice D9 m9 d9], 26), (w.heap.size + 1, #[.bool b2, .slice A2 n2 c2, .slice D2 m2 d2], 26), (w.heap.size, #[.bool b1, .slice A1 n1 c1, .slice D1 m1 d1], 26)] [(D9, m9, d9, dn q1), (A9, n9, c9, limbs q1.num.natAbs), (D2, m2, d2, y2), (A2, n2, c2, x2), (D1, m1, d1, y1), (A1, n1, c1, x1)] := (((S.out.set 0 0 (.bool (ng q1.num)) rfl (by nofun)).set 0 1 (.slice A9 n9 c9) rfl (by nofun)).set 0 2 (.slice D9 m9 d9) rfl (by nofun))
  replace S := Lib.hid S
  go_wp2
  refine bodyPost_ret (res_min_any _ _ (w.heap.size + 1 + 1) 26 rfl (S.out.bk _ (List.mem_of_getElem? (i := 0) rfl)).1) rfl ?_
  exact ⟨_, _, _, _, _, _, rfl, ⟨S.out.r 1 rfl, S.out.r 0 rfl⟩, S.out.bel⟩
theorem min_any (b1 : Bool) (A1 : Option Addr) (n1 c1 : Nat) (x1 : List Nat) (D1 : Option Addr) (m1 d1 : Nat) (y1 : List Nat) (q1 : Rat) (b2 : Bool) (A2 : Option Addr) (n2 c2 : Nat) (x2 : List Nat) (D2 : Option Addr) (m2 d2 : Nat) (y2 : List Nat) (q2 : Rat) (w : World) (X1 : Rw w b1 A1 n1 c1 x1 D1 m1 d1 y1 q1) (X2 : Rw w b2 A2 n2 c2 x2 D2 m2 d2 y2 q2) : Calls Tryz.prog 77 #[.agg #[.bool b1, .slice A1 n1 c1, .slice D1 m1 d1], .agg #[.bool b2, .slice A2 n2 c2, .slice D2 m2 d2]] w (RetR (mn q1 q2) w) := by
  by_cases h : q2 < q1
  · rw [show mn q1 q2 = q2 from if_pos h]; exact min_any_a b1 A1 n1 c1 x1 D1 m1 d1 y1 q1 b2 A2 n2 c2 x2 D2 m2 d2 y2 q2 h w X1 X2
  · rw [show mn q1 q2 = q1 from if_neg h]; exact min_any_b b1 A1 n1 c1 x1 D1 m1 d1 y1 q1 b2 A2 n2 c2 x2 D2 m2 d2 y2 q2 h w X1 X2
theorem res_max_any (W : World) (tmps : Array Value) (g t : Nat) {v0 v1 v2 : Value} (ht : tmps.getD 4 undef = .pointer (some ⟨g, 0, none⟩)) (h : Cb W g #[v0, v1, v2] t) :
    (results Tryz.f76 tmps).run Tryz.prog W = .ok (.agg #[v0, v1, v2]) W := by
  have c0 : W.cell? ⟨g, 0, none⟩ = some v0 := h.cell rfl
  have c1 : W.cell? ⟨g, 1, none⟩ = some v1 := h.cell rfl
  have c2 : W.cell? ⟨g, 2, none⟩ = some v2 := h.cell rfl
  have ht' : tmps[4]?.getD undef = .pointer (some ⟨g, 0, none⟩) := by rw [← ht]; simp [Array.getD_eq_getD_getElem?]
  simp [results, Tryz.results76, go_sem, ht', c0, c1, c2]

set_option maxRecDepth 100000 in
set_option maxHeartbeats 4000000 in
theorem max_any_a (b1 : Bool) (A1 : Option Addr) (n1 c1 : Nat) (x1 : List Nat) (D1 : Option Addr) (m1 d1 : Nat) (y1 : List Nat) (q1 : Rat) (b2 : Bool) (A2 : Option Addr) (n2 c2 : Nat) (x2 : List Nat) (D2 : Option Addr) (m2 d2 : Nat) (y2 : List Nat) (q2 : Rat) (h : q1 < q2) (w : World) (X1 : Rw w b1 A1 n1 c1 x1 D1 m1 d1 y1 q1) (X2 : Rw w b2 A2 n2 c2 x2 D2 m2 d2 y2 q2) : Calls Tryz.prog 76 #[.agg #[.bool b1, .slice A1 n1 c1, .slice D1 m1 d1], .agg #[.bool b2, .slice A2 n2 c2, .slice D2 m2 d2]] w (RetR q2 w) := by
  have hL := fun W h1 h2 => less_any b1 A1 n1 c1 x1 D1 m1 d1 y1 q1 b2 A2 n2 c2 x2 D2 m2 d2 y2 q2 W h1 h2
  rw [show decide (q1 < q2) = true from decide_eq_true h] at hL
  replace hL := Lib.hid hL
  clear h
  have hT := Lib.hid (fun W h1 => takeF b2 A2 n2 c2 x2 D2 m2 d2 y2 q2 W h1)
  have k1 := Lib.hid X1.k
  have k2 := Lib.hid X2.k
  have S := ((((((((St.new w).read X1.rn).read X1.rd).read X2.rn).read X2.rd).allocAt (w.heap.size) #[.bool b1, .slice A1 n1 c1, .slice D1 m1 d1] 26 (noL3 _ _ _ _ _ _ _) (by simp)).allocAt (w.heap.size + 1) #[.bool b2, .slice A2 n2 c2, .slice D2 m2 d2] 26 (noL3 _ _ _ _ _ _ _) (by simp)).allocAt (w.heap.size + 1 + 1) #[.bool false, .slice none 0 0, .slice none 0 0] 26 (noL3 _ _ _ _ _ _ _) (by simp))
  replace S := Lib.hid S
  clear X1 X2
  go_enter Tryz.func76, Tryz.ntmps76
  go_wp2_with fail
  refine (hL.out _ (Rw.of (S.out.r 3 rfl) (S.out.r 2 rfl) k1.out) (Rw.of (S.out.r 1 rfl) (S.out.r 0 rfl) k2.out)).mono ?_
  rintro e w1 ⟨rfl, bb⟩
  have T := (S.out.call bb)
  clear bb S
  have S := T
  clear T
  obtain ⟨c_r0, c_r1, c_r2, f_r0, f_r1, f_r2⟩ := S.cf3 0 rfl
  obtain ⟨c_y0, c_y1, c_y2, f_y0, f_y1, f_y2⟩ := S.cf3 1 rfl
  obtain ⟨c_x0, c_x1, c_x2, f_x0, f_x1, f_x2⟩ := S.cf3 2 rfl
  have hz : w.heap.size + 1 + 1 < w1.heap.size := S.lt 0 rfl
  replace S := Lib.hid S
  clear hL
  go_wp2_with fail
  refine (hT.out _ (Rw.of (S.out.r 1 rfl) (S.out.r 0 rfl) k2.out)).mono ?_
  rintro e w2 ⟨A9, n9, c9, D9, m9, d9, rfl, Q9, bb⟩
  have T := (((S.out.call bb).read Q9.n).read Q9.d)
  clear bb S c_r0 f_r0 c_r1 f_r1 c_r2 f_r2 c_y0 f_y0 c_y1 f_y1 c_y2 f_y2 c_x0 f_x0 c_x1 f_x1 c_x2 f_x2 hz
  have S := T
  clear T
  obtain ⟨c_r0, c_r1, c_r2, f_r0, f_r1, f_r2⟩ := S.cf3 0 rfl
  obtain ⟨c_y0, c_y1, c_y2, f_y0, f_y1, f_y2⟩ := S.cf3 1 rfl
  obtain ⟨c_x0, c_x1, c_x2, f_x0, f_x1, f_x2⟩ := S.cf3 2 rfl
  have hz : w.heap.size + 1 + 1 < w2.heap.size := S.lt 0 rfl
  replace S := Lib.hid S
  clear Q9 hT
  have S : St w _ [(w.heap.size + 1 + 1, #[.bool (ng q2.num), .slice A9 n9 c9, .slice D9 m9 d9], 26), (w.heap.size + 1, #[.bool b2, .slice A2 n2 c2, .slice D2 m2 d2], 26), (w.heap.size, #[.bool b1, .slice A1 n1 c1, .slice D1 m1 d1], 26)] [(D9, m9, d9, dn q2), (A9, n9, c9, limbs q2.num.natAbs), (D2, m2, d2, y2), (A2, n2, c2, x2), (D1, m1, d1, y1), (A1, n1, c1, x1)] := (((S.out.set 0 0 (.bool (ng q2.num)) rfl (by nofun)).set 0 1 (.slice A9 n9 c9) rfl (by nofun)).set 0 2 (.slice D9 m9 d9) rfl (by nofun))
  replace S := Lib.hid S
  go_wp2
  refine bodyPost_ret (res_max_any _ _ (w.heap.size + 1 + 1) 26 rfl (S.out.bk _ (List.mem_of_getElem? (i := 0) rfl)).1) rfl ?_
  exact ⟨_, _, _, _, _, _, rfl, ⟨S.out.r 1 rfl, S.out.r 0 rfl⟩, S.out.bel⟩

set_option maxRecDepth 100000 in
set_option maxHeartbeats 4000000 in
theorem max_any_b (b1 : Bool) (A1 : Option Addr) (n1 c1 : Nat) (x1 : List Nat) (D1 : Option Addr) (m1 d1 : Nat) (y1 : List Nat) (q1 : Rat) (b2 : Bool) (A2 : Option Addr) (n2 c2 : Nat) (x2 : List Nat) (D2 : Option Addr) (m2 d2 : Nat) (y2 : List Nat) (q2 : Rat) (h : ¬ q1 < q2) (w : World) (X1 : Rw w b1 A1 n1 c1 x1 D1 m1 d1 y1 q1) (X2 : Rw w b2 A2 n2 c2 x2 D2 m2 d2 y2 q2) : Calls Tryz.prog 76 #[.agg #[.bool b1, .slice A1 n1 c1, .slice D1 m1 d1], .agg #[.bool b2, .slice A2 n2 c2, .slice D2 m2 d2]] w (RetR q1 w) := by
  have hL := fun W h1 h2 => less_any b1 A1 n1 c1 x1 D1 m1 d1 y1 q1 b2 A2 n2 c2 x2 D2 m2 d2 y2 q2 W h1 h2
  rw [show decide (q1 < q2) = false from decide_eq_false h] at hL
  replace hL := Lib.hid hL
  clear h
  have hT := Lib.hid (fun W h1 => takeF b1 A1 n1 c1 x1 D1 m1 d1 y1 q1 W h1)
  have k1 := Lib.hid X1.k
  have k2 := Lib.hid X2.k
  have S := ((((((((St.new w).read X1.rn).read X1.rd).read X2.rn).read X2.rd).allocAt (w.heap.size) #[.bool b1, .slice A1 n1 c1, .slice D1 m1 d1] 26 (noL3 _ _ _ _ _ _ _) (by simp)).allocAt (w.heap.size + 1) #[.bool b2, .slice A2 n2 c2, .slice D2 m2 d2] 26 (noL3 _ _ _ _ _ _ _) (by simp)).allocAt (w.heap.size + 1 + 1) #[.bool false, .slice none 0 0, .slice none 0 0] 26 (noL3 _ _ _ _ _ _ _) (by simp))
  replace S := Lib.hid S
  clear X1 X2
  go_enter Tryz.func76, Tryz.ntmps76
  go_wp2_with fail
  refine (hL.out _ (Rw.of (S.out.r 3 rfl) (S.out.r 2 rfl) k1.out) (Rw.of (S.out.r 1 rfl) (S.out.r 0 rfl) k2.out)).mono ?_
  rintro e w1 ⟨rfl, bb⟩
  have T := (S.out.call bb)
  clear bb S
  have S := T
  clear T
  obtain ⟨c_r0, c_r1, c_r2, f_r0, f_r1, f_r2⟩ := S.cf3 0 rfl
  obtain ⟨c_y0, c_y1, c_y2, f_y0, f_y1, f_y2⟩ := S.cf3 1 rfl
  obtain ⟨c_x0, c_x1, c_x2, f_x0, f_x1, f_x2⟩ := S.cf3 2 rfl
  have hz : w.heap.size + 1 + 1 < w1.heap.size := S.lt 0 rfl
  replace S := Lib.hid S
  clear hL
  go_wp2_with fail
  refine (hT.out _ (Rw.of (S.out.r 3 rfl) (S.out.r 2 rfl) k1.out)).mono ?_
  rintro e w2 ⟨A9, n9, c9, D9, m9, d9, rfl, Q9, bb⟩
  have T := (((S.out.call bb).read Q9.n).read Q9.d)
  clear bb S c_r0 f_r0 c_r1 f_r1 c_r2 f_r2 c_y0 f_y0 c_y1 f_y1 c_y2 f_y2 c_x0 f_x0 c_x1 f_x1 c_x2 f_x2 hz
  have S := T
  clear T
  obtain ⟨c_r0, c_r1, c_r2, f_r0, f_r1, f_r2⟩ := S.cf3 0 rfl
  obtain ⟨c_y0, c_y1, c_y2, f_y0, f_y1, f_y2⟩ := S.cf3 1 rfl
  obtain ⟨c_x0, c_x1, c_x2, f_x0, f_x1, f_x2⟩ := S.cf3 2 rfl
  have hz : w.heap.size + 1 + 1 < w2.heap.size := S.lt 0 rfl
  replace S := Lib.hid S
  clear Q9 hT
  have S : St w _ [(w.heap.size + 1 + 1, #[.bool (ng q1.num), .slice A9 n9 c9, .slice D9 m9 d9], 26), (w.heap.size + 1, #[.bool b2, .slice A2 n2 c2, .slice D2 m2 d2], 26), (w.heap.size, #[.bool b1, .slice A1 n1 c1, .slice D1 m1 d1], 26)] [(D9, m9, d9, dn q1), (A9, n9, c9, limbs q1.num.natAbs), (D2, m2, d2, y2), (A2, n2, c2, x2), (D1, m1, d1, y1), (A1, n1, c1, x1)] := (((S.out.set 0 0 (.bool (ng q1.num)) rfl (by nofun)).set 0 1 (.slice A9 n9 c9) rfl (by nofun)).set 0 2 (.slice D9 m9 d9) rfl (by nofun))
  replace S := Lib.hid S
  go_wp2
  refine bodyPost_ret (res_max_any _ _ (w.heap.size + 1 + 1) 26 rfl (S.out.bk _ (List.mem_of_getElem? (i := 0) rfl)).1) rfl ?_
  exact ⟨_, _, _, _, _, _, rfl, ⟨S.out.r 1 rfl, S.out.r 0 rfl⟩, S.out.bel⟩
theorem max_any (b1 : Bool) (A1 : Option Addr) (n1 c1 : Nat) (x1 : List Nat) (D1 : Option Addr) (m1 d1 : Nat) (y1 : List Nat) (q1 : Rat) (b2 : Bool) (A2 : Option Addr) (n2 c2 : Nat) (x2 : List Nat) (D2 : Option Addr) (m2 d2 : Nat) (y2 : List Nat) (q2 : Rat) (w : World) (X1 : Rw w b1 A1 n1 c1 x1 D1 m1 d1 y1 q1) (X2 : Rw w b2 A2 n2 c2 x2 D2 m2 d2 y2 q2) : Calls Tryz.prog 76 #[.agg #[.bool b1, .slice A1 n1 c1, .slice D1 m1 d1], .agg #[.bool b2, .slice A2 n2 c2, .slice D2 m2 d2]] w (RetR (mx q1 q2) w) := by
  by_cases h : q1 < q2
  · rw [show mx q1 q2 = q2 from if_pos h]; exact max_any_a b1 A1 n1 c1 x1 D1 m1 d1 y1 q1 b2 A2 n2 c2 x2 D2 m2 d2 y2 q2 h w X1 X2
  · rw [show mx q1 q2 = q1 from if_neg h]; exact max_any_b b1 A1 n1 c1 x1 D1 m1 d1 y1 q1 b2 A2 n2 c2 x2 D2 m2 d2 y2 q2 h w X1 X2
end Go.Proofs.YtidhloliahfknaaGreat
