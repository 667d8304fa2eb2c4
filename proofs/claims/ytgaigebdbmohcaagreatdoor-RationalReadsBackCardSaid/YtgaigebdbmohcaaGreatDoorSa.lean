/- The reference's Make and Same of rational; the law RationalMakes. -/
import Derived.Test.YtgaigebdbmohcaaGreatDoorQRnz
import Derived.Test.YtgaigebdbmohcaaGreatDoorRf
namespace Go.Proofs.YtgaigebdbmohcaaGreatDoor
open Go.RowKit RQ

set_option maxHeartbeats 4000000 in
theorem rsameR_true (q : Rat) (A : Option Addr) (n c : Nat) (D : Option Addr) (m d : Nat) (A' : Option Addr) (n' c' : Nat) (D' : Option Addr) (m' d' : Nat) (w : World) (h1 : RR w A n c D m d q) (h2 : RR w A' n' c' D' m' d' q) (hn : n ≤ 10000) (hm : m ≤ 10000) :
    Calls Tryz.prog 17 #[.agg #[.bool (ng q.num), .slice A n c, .slice D m d], .agg #[.bool (ng q.num), .slice A' n' c', .slice D' m' d']] w fun e w' => e = .returned (.bool true) ∧ Below w.heap.size w w' := by
  have R1 := h1.n
  have R2 := h1.d
  have R3 := h2.n
  have R4 := h2.d
  have hS := Lib.hid (fun W (p1 : Rd W A n c (limbs q.num.natAbs)) (p2 : Rd W A' n' c' (limbs q.num.natAbs)) => sameI_true q.num A n c A' n' c' W p1 p2 (by omega))
  have hT : Hid (∀ W, Rd W D m d (dn q) → Rd W D' m' d' (dn q) → Calls Tryz.prog 61 #[.slice D m d, .slice D' m' d'] W fun e w' => e = .returned (.bool true) ∧ Below W.heap.size W w') := Lib.hid fun W p1 p2 => (same_true D m d D' m' d' (dn q) W p1 p2 (by omega)).mono fun e w' h => by
    obtain ⟨he, k, hk⟩ := h
    refine ⟨he, ?_⟩; rw [hk]; exact below_drewN (Below.refl _ _) k
  clear h1 h2 hn hm
  have S : St w _ [(w.heap.size + 1, #[.bool (ng q.num), .slice (A') (n') (c'), .slice (D') (m') (d')], 26), (w.heap.size, #[.bool (ng q.num), .slice (A) (n) (c), .slice (D) (m) (d)], 26)] [(D', m', d', dn q), (A', n', c', limbs q.num.natAbs), (D, m, d, dn q), (A, n, c, limbs q.num.natAbs)] := (((((((St.new w).read R1).read R2).read R3).read R4).allocAt (w.heap.size) #[.bool (ng q.num), .slice (A) (n) (c), .slice (D) (m) (d)] 26 (noL3 _ _ _ _ _ _ _) (by simp)).allocAt (w.heap.size + 1) #[.bool (ng q.num), .slice (A') (n') (c'), .slice (D') (m') (d')] 26 (noL3 _ _ _ _ _ _ _) (by simp))
  replace S := Lib.hid S
  clear R1 R2 R3 R4
  go_enter Tryz.func17, Tryz.ntmps17
  go_wp2_with fail
  refine (hS.out _ (S.out.r 3 rfl) (S.out.r 1 rfl)).mono ?_
  rintro e w1 ⟨rfl, bb⟩
  have T : St w w1 [(w.heap.size + 1, #[.bool (ng q.num), .slice (A') (n') (c'), .slice (D') (m') (d')], 26), (w.heap.size, #[.bool (ng q.num), .slice (A) (n) (c), .slice (D) (m) (d)], 26)] [(D', m', d', dn q), (A', n', c', limbs q.num.natAbs), (D, m, d, dn q), (A, n, c, limbs q.num.natAbs)] := (S.out.call bb)
  clear bb S
  have S := T
  clear T
  have c_y0 : World.cell? w1 ⟨w.heap.size + 1, 0, none⟩ = some (.bool (ng q.num)) := S.cl 0 0 rfl rfl
  have f_y0 : World.frozen? w1 ⟨w.heap.size + 1, 0, none⟩ = false := S.f 0 0 rfl
  have c_y1 : World.cell? w1 ⟨w.heap.size + 1, 1, none⟩ = some (.slice (A') (n') (c')) := S.cl 0 1 rfl rfl
  have f_y1 : World.frozen? w1 ⟨w.heap.size + 1, 1, none⟩ = false := S.f 0 1 rfl
  have c_y2 : World.cell? w1 ⟨w.heap.size + 1, 2, none⟩ = some (.slice (D') (m') (d')) := S.cl 0 2 rfl rfl
  have f_y2 : World.frozen? w1 ⟨w.heap.size + 1, 2, none⟩ = false := S.f 0 2 rfl
  have c_x0 : World.cell? w1 ⟨w.heap.size, 0, none⟩ = some (.bool (ng q.num)) := S.cl 1 0 rfl rfl
  have f_x0 : World.frozen? w1 ⟨w.heap.size, 0, none⟩ = false := S.f 1 0 rfl
  have c_x1 : World.cell? w1 ⟨w.heap.size, 1, none⟩ = some (.slice (A) (n) (c)) := S.cl 1 1 rfl rfl
  have f_x1 : World.frozen? w1 ⟨w.heap.size, 1, none⟩ = false := S.f 1 1 rfl
  have c_x2 : World.cell? w1 ⟨w.heap.size, 2, none⟩ = some (.slice (D) (m) (d)) := S.cl 1 2 rfl rfl
  have f_x2 : World.frozen? w1 ⟨w.heap.size, 2, none⟩ = false := S.f 1 2 rfl
  have hz : w.heap.size + 1 < w1.heap.size := S.lt 0 rfl
  replace S := Lib.hid S
  go_wp2_with fail
  refine (hT.out _ (S.out.r 2 rfl) (S.out.r 0 rfl)).mono ?_
  rintro e w2 ⟨rfl, bb⟩
  have T : St w w2 [(w.heap.size + 1, #[.bool (ng q.num), .slice (A') (n') (c'), .slice (D') (m') (d')], 26), (w.heap.size, #[.bool (ng q.num), .slice (A) (n) (c), .slice (D) (m) (d)], 26)] [(D', m', d', dn q), (A', n', c', limbs q.num.natAbs), (D, m, d, dn q), (A, n, c, limbs q.num.natAbs)] := (S.out.call bb)
  clear bb S c_y0 f_y0 c_y1 f_y1 c_y2 f_y2 c_x0 f_x0 c_x1 f_x1 c_x2 f_x2 hz
  have S := T
  clear T
  have c_y0 : World.cell? w2 ⟨w.heap.size + 1, 0, none⟩ = some (.bool (ng q.num)) := S.cl 0 0 rfl rfl
  have f_y0 : World.frozen? w2 ⟨w.heap.size + 1, 0, none⟩ = false := S.f 0 0 rfl
  have c_y1 : World.cell? w2 ⟨w.heap.size + 1, 1, none⟩ = some (.slice (A') (n') (c')) := S.cl 0 1 rfl rfl
  have f_y1 : World.frozen? w2 ⟨w.heap.size + 1, 1, none⟩ = false := S.f 0 1 rfl
  have c_y2 : World.cell? w2 ⟨w.heap.size + 1, 2, none⟩ = some (.slice (D') (m') (d')) := S.cl 0 2 rfl rfl
  have f_y2 : World.frozen? w2 ⟨w.heap.size + 1, 2, none⟩ = false := S.f 0 2 rfl
  have c_x0 : World.cell? w2 ⟨w.heap.size, 0, none⟩ = some (.bool (ng q.num)) := S.cl 1 0 rfl rfl
  have f_x0 : World.frozen? w2 ⟨w.heap.size, 0, none⟩ = false := S.f 1 0 rfl
  have c_x1 : World.cell? w2 ⟨w.heap.size, 1, none⟩ = some (.slice (A) (n) (c)) := S.cl 1 1 rfl rfl
  have f_x1 : World.frozen? w2 ⟨w.heap.size, 1, none⟩ = false := S.f 1 1 rfl
  have c_x2 : World.cell? w2 ⟨w.heap.size, 2, none⟩ = some (.slice (D) (m) (d)) := S.cl 1 2 rfl rfl
  have f_x2 : World.frozen? w2 ⟨w.heap.size, 2, none⟩ = false := S.f 1 2 rfl
  have hz : w.heap.size + 1 < w2.heap.size := S.lt 0 rfl
  replace S := Lib.hid S
  have S : St w _ [(w.heap.size + 1, #[.bool (ng q.num), .slice (A') (n') (c'), .slice (D') (m') (d')], 26), (w.heap.size, #[.bool (ng q.num), .slice (A) (n) (c), .slice (D) (m) (d)], 26)] [(D', m', d', dn q), (A', n', c', limbs q.num.natAbs), (D, m, d, dn q), (A, n, c, limbs q.num.natAbs)] := S.out
  replace S := Lib.hid S
  go_wp2
  go_ret
  exact ⟨rfl, S.out.bel⟩
theorem res_rmake (W : World) (tmps : Array Value) (g t : Nat) {v0 v1 v2 er : Value} (ht : tmps.getD 4 undef = .pointer (some ⟨g, 0, none⟩)) (ht2 : tmps.getD 5 undef = er) (h : Cb W g #[v0, v1, v2] t) :
    (results Tryz.f32 tmps).run Tryz.prog W = .ok (.tuple #[.agg #[v0, v1, v2], er]) W := by
  have c0 : W.cell? ⟨g, 0, none⟩ = some v0 := h.cell rfl
  have c1 : W.cell? ⟨g, 1, none⟩ = some v1 := h.cell rfl
  have c2 : W.cell? ⟨g, 2, none⟩ = some v2 := h.cell rfl
  have ht' : tmps[4]?.getD undef = .pointer (some ⟨g, 0, none⟩) := by rw [← ht]; simp [Array.getD_eq_getD_getElem?]
  have ht3 : tmps[5]?.getD undef = er := by rw [← ht2]; simp [Array.getD_eq_getD_getElem?]
  simp [results, Tryz.results32, go_sem, ht', ht3, c0, c1, c2]

set_option maxHeartbeats 8000000 in
theorem rmake_any (b : Bool) (A : Option Addr) (n c : Nat) (xs : List Nat) (b' : Bool) (A' : Option Addr) (n' c' : Nat) (ys : List Nat) (w : World) (R1 : Rd w A n c xs) (R2 : Rd w A' n' c' ys) (hn : n ≤ 390) (hn' : n' ≤ 390) :
    Calls Tryz.prog 32 #[.agg #[.bool b, .slice A n c], .agg #[.bool b', .slice A' n' c']] w (RetRE (Rat.divInt (iv b xs) (iv b' ys)) (.int .i64 (mkE (iv b' ys))) w) := by
  have lu := iv_abs (b := b) R1.sm (Nat.le_trans (Nat.le_of_eq R1.len) hn)
  have lv := iv_abs (b := b') R2.sm (Nat.le_trans (Nat.le_of_eq R2.len) hn')
  have hsg := fun W h => rsignI_any b' A' n' c' ys W h (by omega)
  have hT1 := fun W h => takeI_any b A n c xs W h (by omega)
  have hT2 := fun W h => takeI_any b' A' n' c' ys W h (by omega)
  unfold mkE
  generalize iv b xs = u at *
  generalize iv b' ys = v at *
  have hO : v ≠ 0 → ∀ W A n c A' n' c', Rd W A n c (limbs u.natAbs) → Rd W A' n' c' (limbs v.natAbs) → Calls Tryz.prog 80 #[.agg #[.bool (ng u), .slice A n c], .agg #[.bool (ng v), .slice A' n' c']] W (RetR (Rat.divInt u v) W) := fun hv W A n c A' n' c' q1 q2 => rover_any u v A n c A' n' c' W q1 q2 (by rw [← q1.len]; omega) (by rw [← q2.len]; omega) hv
  replace hT1 := Lib.hid hT1
  replace hT2 := Lib.hid hT2
  have S : St w _ [(w.heap.size + 1 + 1, #[.bool (false), .slice (none) (0) (0), .slice (none) (0) (0)], 26), (w.heap.size + 1, #[.bool (b'), .slice (A') (n') (c')], 24), (w.heap.size, #[.bool (b), .slice (A) (n) (c)], 24)] [(A', n', c', ys), (A, n, c, xs)] := ((((((St.new w).read R1).read R2).allocAt (w.heap.size) #[.bool (b), .slice (A) (n) (c)] 24 (noL2 _ _ _ _) (by simp)).allocAt (w.heap.size + 1) #[.bool (b'), .slice (A') (n') (c')] 24 (noL2 _ _ _ _) (by simp)).allocAt (w.heap.size + 1 + 1) #[.bool (false), .slice (none) (0) (0), .slice (none) (0) (0)] 26 (noL3 _ _ _ _ _ _ _) (by simp))
  replace S := Lib.hid S
  clear R1 R2 lu lv hn hn'
  by_cases hv : v = 0
  · subst hv
    rw [if_pos rfl, Rat.divInt_zero]
    replace hsg := Lib.hid hsg
    clear hT1 hT2 hO
    go_enter Tryz.func32, Tryz.ntmps32
    go_wp2_with fail
    refine (hsg.out _ (S.out.r 0 rfl)).mono ?_
    rintro e w1 ⟨rfl, bb⟩
    have T : St w w1 [(w.heap.size + 1 + 1, #[.bool (false), .slice (none) (0) (0), .slice (none) (0) (0)], 26), (w.heap.size + 1, #[.bool (b'), .slice (A') (n') (c')], 24), (w.heap.size, #[.bool (b), .slice (A) (n) (c)], 24)] [(A', n', c', ys), (A, n, c, xs)] := (S.out.call bb)
    clear bb S
    have S := T
    clear T
    have c_r0 : World.cell? w1 ⟨w.heap.size + 1 + 1, 0, none⟩ = some (.bool (false)) := S.cl 0 0 rfl rfl
    have f_r0 : World.frozen? w1 ⟨w.heap.size + 1 + 1, 0, none⟩ = false := S.f 0 0 rfl
    have c_r1 : World.cell? w1 ⟨w.heap.size + 1 + 1, 1, none⟩ = some (.slice (none) (0) (0)) := S.cl 0 1 rfl rfl
    have f_r1 : World.frozen? w1 ⟨w.heap.size + 1 + 1, 1, none⟩ = false := S.f 0 1 rfl
    have c_r2 : World.cell? w1 ⟨w.heap.size + 1 + 1, 2, none⟩ = some (.slice (none) (0) (0)) := S.cl 0 2 rfl rfl
    have f_r2 : World.frozen? w1 ⟨w.heap.size + 1 + 1, 2, none⟩ = false := S.f 0 2 rfl
    have c_y0 : World.cell? w1 ⟨w.heap.size + 1, 0, none⟩ = some (.bool (b')) := S.cl 1 0 rfl rfl
    have f_y0 : World.frozen? w1 ⟨w.heap.size + 1, 0, none⟩ = false := S.f 1 0 rfl
    have c_y1 : World.cell? w1 ⟨w.heap.size + 1, 1, none⟩ = some (.slice (A') (n') (c')) := S.cl 1 1 rfl rfl
    have f_y1 : World.frozen? w1 ⟨w.heap.size + 1, 1, none⟩ = false := S.f 1 1 rfl
    have c_x0 : World.cell? w1 ⟨w.heap.size, 0, none⟩ = some (.bool (b)) := S.cl 2 0 rfl rfl
    have f_x0 : World.frozen? w1 ⟨w.heap.size, 0, none⟩ = false := S.f 2 0 rfl
    have c_x1 : World.cell? w1 ⟨w.heap.size, 1, none⟩ = some (.slice (A) (n) (c)) := S.cl 2 1 rfl rfl
    have f_x1 : World.frozen? w1 ⟨w.heap.size, 1, none⟩ = false := S.f 2 1 rfl
    have hz : w.heap.size + 1 + 1 < w1.heap.size := S.lt 0 rfl
    replace S := Lib.hid S
    have S : St w _ [(w.heap.size + 1 + 1, #[.bool (false), .slice (none) (0) (0), .slice (none) (0) (0)], 26), (w.heap.size + 1, #[.bool (b'), .slice (A') (n') (c')], 24), (w.heap.size, #[.bool (b), .slice (A) (n) (c)], 24)] [(A', n', c', ys), (A, n, c, xs)] := (((S.out.set 0 0 (.bool (false)) rfl (by nofun)).set 0 1 (.slice (none) (0) (0)) rfl (by nofun)).set 0 2 (.slice (none) (0) (0)) rfl (by nofun))
    replace S := Lib.hid S
    go_wp2
    refine bodyPost_ret (res_rmake _ _ (w.heap.size + 1 + 1) 26 rfl rfl (S.out.bk _ (List.mem_of_getElem? (i := 0) rfl)).1) rfl ?_
    exact ⟨_, _, _, _, _, _, rfl, zero_RR _ _ _ _ _, S.out.bel⟩
  · rw [if_neg hv]
    have hO1 := Lib.hid (hO hv)
    have hs0 : (v.sign == 0) = false := by rw [beq_eq_false_iff_ne]; intro e; exact hv (Int.sign_eq_zero_iff_zero.1 e)
    generalize v.sign = sv at hsg hs0
    generalize Rat.divInt u v = q at hO1 ⊢
    replace hsg := Lib.hid hsg
    clear hO hv
    go_enter Tryz.func32, Tryz.ntmps32
    go_wp2_with fail
    refine (hsg.out _ (S.out.r 0 rfl)).mono ?_
    rintro e w1 ⟨rfl, bb⟩
    have T : St w w1 [(w.heap.size + 1 + 1, #[.bool (false), .slice (none) (0) (0), .slice (none) (0) (0)], 26), (w.heap.size + 1, #[.bool (b'), .slice (A') (n') (c')], 24), (w.heap.size, #[.bool (b), .slice (A) (n) (c)], 24)] [(A', n', c', ys), (A, n, c, xs)] := (S.out.call bb)
    clear bb S
    have S := T
    clear T
    have c_r0 : World.cell? w1 ⟨w.heap.size + 1 + 1, 0, none⟩ = some (.bool (false)) := S.cl 0 0 rfl rfl
    have f_r0 : World.frozen? w1 ⟨w.heap.size + 1 + 1, 0, none⟩ = false := S.f 0 0 rfl
    have c_r1 : World.cell? w1 ⟨w.heap.size + 1 + 1, 1, none⟩ = some (.slice (none) (0) (0)) := S.cl 0 1 rfl rfl
    have f_r1 : World.frozen? w1 ⟨w.heap.size + 1 + 1, 1, none⟩ = false := S.f 0 1 rfl
    have c_r2 : World.cell? w1 ⟨w.heap.size + 1 + 1, 2, none⟩ = some (.slice (none) (0) (0)) := S.cl 0 2 rfl rfl
    have f_r2 : World.frozen? w1 ⟨w.heap.size + 1 + 1, 2, none⟩ = false := S.f 0 2 rfl
    have c_y0 : World.cell? w1 ⟨w.heap.size + 1, 0, none⟩ = some (.bool (b')) := S.cl 1 0 rfl rfl
    have f_y0 : World.frozen? w1 ⟨w.heap.size + 1, 0, none⟩ = false := S.f 1 0 rfl
    have c_y1 : World.cell? w1 ⟨w.heap.size + 1, 1, none⟩ = some (.slice (A') (n') (c')) := S.cl 1 1 rfl rfl
    have f_y1 : World.frozen? w1 ⟨w.heap.size + 1, 1, none⟩ = false := S.f 1 1 rfl
    have c_x0 : World.cell? w1 ⟨w.heap.size, 0, none⟩ = some (.bool (b)) := S.cl 2 0 rfl rfl
    have f_x0 : World.frozen? w1 ⟨w.heap.size, 0, none⟩ = false := S.f 2 0 rfl
    have c_x1 : World.cell? w1 ⟨w.heap.size, 1, none⟩ = some (.slice (A) (n) (c)) := S.cl 2 1 rfl rfl
    have f_x1 : World.frozen? w1 ⟨w.heap.size, 1, none⟩ = false := S.f 2 1 rfl
    have hz : w.heap.size + 1 + 1 < w1.heap.size := S.lt 0 rfl
    replace S := Lib.hid S
    clear hsg
    go_wp2_with fail
    clear c_r0 f_r0 c_r1 f_r1 c_r2 f_r2 c_y0 f_y0 c_y1 f_y1 c_x0 f_x0 c_x1 f_x1 hz
    have S : St w _ [(w.heap.size + 1 + 1, #[.bool (false), .slice (none) (0) (0), .slice (none) (0) (0)], 26), (w.heap.size + 1, #[.bool (b'), .slice (A') (n') (c')], 24), (w.heap.size, #[.bool (b), .slice (A) (n) (c)], 24)] [(A', n', c', ys), (A, n, c, xs)] := S.out
    replace S := Lib.hid S
    have d_x0 : World.cell? w1 ⟨w.heap.size, 0, none⟩ = some (.bool (b)) := St.cl (S.out) 2 0 rfl rfl
    have d_x1 : World.cell? w1 ⟨w.heap.size, 1, none⟩ = some (.slice (A) (n) (c)) := St.cl (S.out) 2 1 rfl rfl
    have d_y0 : World.cell? w1 ⟨w.heap.size + 1, 0, none⟩ = some (.bool (b')) := St.cl (S.out) 1 0 rfl rfl
    have d_y1 : World.cell? w1 ⟨w.heap.size + 1, 1, none⟩ = some (.slice (A') (n') (c')) := St.cl (S.out) 1 1 rfl rfl
    have SD := Lib.hid (S.out.drew)
    go_region_held3 (fun w' => World.cell? w' ⟨w.heap.size, 0, none⟩ = some (.bool (b)) ∧ World.cell? w' ⟨w.heap.size, 1, none⟩ = some (.slice (A) (n) (c)) ∧ World.cell? w' ⟨w.heap.size + 1, 0, none⟩ = some (.bool (b')) ∧ World.cell? w' ⟨w.heap.size + 1, 1, none⟩ = some (.slice (A') (n') (c')))
      (first | exact ⟨d_x0, d_x1, d_y0, d_y1⟩ | exact ⟨e0_x0, e0_x1, e0_y0, e0_y1⟩ | exact ⟨e1_x0, e1_x1, e1_y0, e1_y1⟩ | exact ⟨e2_x0, e2_x1, e2_y0, e2_y1⟩ | exact ⟨g_x0, g_x1, g_y0, g_y1⟩)
      (first
        | (go_at_call_of 50 (Value.agg #[.bool b, .slice A n c]); refine (hT1.out _ (SD.out.r 1 rfl)).mono ?_; rintro e w2 ⟨A1, n1, c1, rfl, Q1, bb0⟩; have S0 : St w w2 [(w.heap.size + 1 + 1, #[.bool (false), .slice (none) (0) (0), .slice (none) (0) (0)], 26), (w.heap.size + 1, #[.bool (b'), .slice (A') (n') (c')], 24), (w.heap.size, #[.bool (b), .slice (A) (n) (c)], 24)] [(A1, n1, c1, limbs u.natAbs), (A', n', c', ys), (A, n, c, xs)] := ((SD.out.call bb0).read Q1); have e0_x0 : World.cell? w2 ⟨w.heap.size, 0, none⟩ = some (.bool (b)) := St.cl (S0) 2 0 rfl rfl; have e0_x1 : World.cell? w2 ⟨w.heap.size, 1, none⟩ = some (.slice (A) (n) (c)) := St.cl (S0) 2 1 rfl rfl; have e0_y0 : World.cell? w2 ⟨w.heap.size + 1, 0, none⟩ = some (.bool (b')) := St.cl (S0) 1 0 rfl rfl; have e0_y1 : World.cell? w2 ⟨w.heap.size + 1, 1, none⟩ = some (.slice (A') (n') (c')) := St.cl (S0) 1 1 rfl rfl)
        | (go_at_call_of 50 (Value.agg #[.bool b', .slice A' n' c']); refine (hT2.out _ (S0.r 1 rfl)).mono ?_; rintro e w3 ⟨A2, n2, c2, rfl, Q2, bb1⟩; have S1 : St w w3 [(w.heap.size + 1 + 1, #[.bool (false), .slice (none) (0) (0), .slice (none) (0) (0)], 26), (w.heap.size + 1, #[.bool (b'), .slice (A') (n') (c')], 24), (w.heap.size, #[.bool (b), .slice (A) (n) (c)], 24)] [(A2, n2, c2, limbs v.natAbs), (A1, n1, c1, limbs u.natAbs), (A', n', c', ys), (A, n, c, xs)] := ((S0.call bb1).read Q2); have e1_x0 : World.cell? w3 ⟨w.heap.size, 0, none⟩ = some (.bool (b)) := St.cl (S1) 2 0 rfl rfl; have e1_x1 : World.cell? w3 ⟨w.heap.size, 1, none⟩ = some (.slice (A) (n) (c)) := St.cl (S1) 2 1 rfl rfl; have e1_y0 : World.cell? w3 ⟨w.heap.size + 1, 0, none⟩ = some (.bool (b')) := St.cl (S1) 1 0 rfl rfl; have e1_y1 : World.cell? w3 ⟨w.heap.size + 1, 1, none⟩ = some (.slice (A') (n') (c')) := St.cl (S1) 1 1 rfl rfl)
        | (go_at_call 80; refine (hO1.out _ _ _ _ _ _ _ (S1.r 1 rfl) (S1.r 0 rfl)).mono ?_; rintro e w4 ⟨A3, n3, c3, D3, m3, d3, rfl, Q3, bb2⟩; have S2 : St w w4 [(w.heap.size + 1 + 1, #[.bool (false), .slice (none) (0) (0), .slice (none) (0) (0)], 26), (w.heap.size + 1, #[.bool (b'), .slice (A') (n') (c')], 24), (w.heap.size, #[.bool (b), .slice (A) (n) (c)], 24)] [(D3, m3, d3, dn q), (A3, n3, c3, limbs q.num.natAbs), (A2, n2, c2, limbs v.natAbs), (A1, n1, c1, limbs u.natAbs), (A', n', c', ys), (A, n, c, xs)] := (((S1.call bb2).read Q3.n).read Q3.d); have e2_x0 : World.cell? w4 ⟨w.heap.size, 0, none⟩ = some (.bool (b)) := St.cl (S2) 2 0 rfl rfl; have e2_x1 : World.cell? w4 ⟨w.heap.size, 1, none⟩ = some (.slice (A) (n) (c)) := St.cl (S2) 2 1 rfl rfl; have e2_y0 : World.cell? w4 ⟨w.heap.size + 1, 0, none⟩ = some (.bool (b')) := St.cl (S2) 1 0 rfl rfl; have e2_y1 : World.cell? w4 ⟨w.heap.size + 1, 1, none⟩ = some (.slice (A') (n') (c')) := St.cl (S2) 1 1 rfl rfl; have e2r_r0 : World.cell? w4 ⟨w.heap.size + 1 + 1, 0, none⟩ = some (.bool (false)) := St.cl (S2) 0 0 rfl rfl; have e2r_r1 : World.cell? w4 ⟨w.heap.size + 1 + 1, 1, none⟩ = some (.slice (none) (0) (0)) := St.cl (S2) 0 1 rfl rfl; have e2r_r2 : World.cell? w4 ⟨w.heap.size + 1 + 1, 2, none⟩ = some (.slice (none) (0) (0)) := St.cl (S2) 0 2 rfl rfl; have e2rz_r0 : World.frozen? w4 ⟨w.heap.size + 1 + 1, 0, none⟩ = false := St.f (S2) 0 0 rfl; have e2rz_r1 : World.frozen? w4 ⟨w.heap.size + 1 + 1, 1, none⟩ = false := St.f (S2) 0 1 rfl; have e2rz_r2 : World.frozen? w4 ⟨w.heap.size + 1 + 1, 2, none⟩ = false := St.f (S2) 0 2 rfl; have SE : St w _ [(w.heap.size + 1 + 1, #[.bool (ng q.num), .slice (A3) (n3) (c3), .slice (D3) (m3) (d3)], 26), (w.heap.size + 1, #[.bool (b'), .slice (A') (n') (c')], 24), (w.heap.size, #[.bool (b), .slice (A) (n) (c)], 24)] [(D3, m3, d3, dn q), (A3, n3, c3, limbs q.num.natAbs), (A2, n2, c2, limbs v.natAbs), (A1, n1, c1, limbs u.natAbs), (A', n', c', ys), (A, n, c, xs)] := (((S2.set 0 0 (.bool (ng q.num)) rfl (by nofun)).set 0 1 (.slice (A3) (n3) (c3)) rfl (by nofun)).set 0 2 (.slice (D3) (m3) (d3)) rfl (by nofun)); have g_x0 : World.cell? (World.setCell (World.setCell (World.setCell w4 ⟨w.heap.size + 1 + 1, 0, none⟩ (.bool (ng q.num))) ⟨w.heap.size + 1 + 1, 1, none⟩ (.slice (A3) (n3) (c3))) ⟨w.heap.size + 1 + 1, 2, none⟩ (.slice (D3) (m3) (d3))) ⟨w.heap.size, 0, none⟩ = some (.bool (b)) := St.cl (SE) 2 0 rfl rfl; have g_x1 : World.cell? (World.setCell (World.setCell (World.setCell w4 ⟨w.heap.size + 1 + 1, 0, none⟩ (.bool (ng q.num))) ⟨w.heap.size + 1 + 1, 1, none⟩ (.slice (A3) (n3) (c3))) ⟨w.heap.size + 1 + 1, 2, none⟩ (.slice (D3) (m3) (d3))) ⟨w.heap.size, 1, none⟩ = some (.slice (A) (n) (c)) := St.cl (SE) 2 1 rfl rfl; have g_y0 : World.cell? (World.setCell (World.setCell (World.setCell w4 ⟨w.heap.size + 1 + 1, 0, none⟩ (.bool (ng q.num))) ⟨w.heap.size + 1 + 1, 1, none⟩ (.slice (A3) (n3) (c3))) ⟨w.heap.size + 1 + 1, 2, none⟩ (.slice (D3) (m3) (d3))) ⟨w.heap.size + 1, 0, none⟩ = some (.bool (b')) := St.cl (SE) 1 0 rfl rfl; have g_y1 : World.cell? (World.setCell (World.setCell (World.setCell w4 ⟨w.heap.size + 1 + 1, 0, none⟩ (.bool (ng q.num))) ⟨w.heap.size + 1 + 1, 1, none⟩ (.slice (A3) (n3) (c3))) ⟨w.heap.size + 1 + 1, 2, none⟩ (.slice (D3) (m3) (d3))) ⟨w.heap.size + 1, 1, none⟩ = some (.slice (A') (n') (c')) := St.cl (SE) 1 1 rfl rfl))
    all_goals
      have S := SE
      clear d_x0 d_x1 d_y0 d_y1 e0_x0 e0_x1 e0_y0 e0_y1 e1_x0 e1_x1 e1_y0 e1_y1 e2_x0 e2_x1 e2_y0 e2_y1 e2r_r0 e2r_r1 e2r_r2 e2rz_r0 e2rz_r1 e2rz_r2 g_x0 g_x1 g_y0 g_y1 SD bb0 bb1 bb2 SE S0 S1 S2
      replace S := Lib.hid S
      have S : St w _ [(w.heap.size + 1 + 1, #[.bool (ng q.num), .slice (A3) (n3) (c3), .slice (D3) (m3) (d3)], 26), (w.heap.size + 1, #[.bool (b'), .slice (A') (n') (c')], 24), (w.heap.size, #[.bool (b), .slice (A) (n) (c)], 24)] [(D3, m3, d3, dn q), (A3, n3, c3, limbs q.num.natAbs), (A2, n2, c2, limbs v.natAbs), (A1, n1, c1, limbs u.natAbs), (A', n', c', ys), (A, n, c, xs)] := S.out
      replace S := Lib.hid S
      go_wp2
      refine bodyPost_ret (res_rmake _ _ (w.heap.size + 1 + 1) 26 rfl rfl (S.out.bk _ (List.mem_of_getElem? (i := 0) rfl)).1) rfl ?_
      exact ⟨_, _, _, _, _, _, rfl, ⟨S.out.r 1 rfl, S.out.r 0 rfl⟩, S.out.bel⟩

set_option maxHeartbeats 8000000 in
theorem law_makes (b : Bool) (A : Option Addr) (n c : Nat) (xs : List Nat) (b' : Bool) (A' : Option Addr) (n' c' : Nat) (ys : List Nat) (w : World) (R1 : Rd w A n c xs) (m1 : n ≤ 9223372036854775807) (R2 : Rd w A' n' c' ys) (m2 : n' ≤ 9223372036854775807) (htab : Tab w) :
    Calls Tryz.prog 4 #[.agg #[.bool b, .slice A n c], .agg #[.bool b', .slice A' n' c']] w fun e w' => e = .returned (.bool true) ∧ Below w.heap.size w w' := by
  have hA := Lib.hid (fun W t => awakeR_any W t)
  replace htab := Lib.hid htab
  have M1 : (n : Int) ≤ 9223372036854775807 := by omega
  have M2 : (n' : Int) ≤ 9223372036854775807 := by omega
  have S : St w _ [(w.heap.size + 1, #[.bool (b'), .slice (A') (n') (c')], 24), (w.heap.size, #[.bool (b), .slice (A) (n) (c)], 24)] [(A', n', c', ys), (A, n, c, xs)] := (((((St.new w).read R1).read R2).allocAt (w.heap.size) #[.bool (b), .slice (A) (n) (c)] 24 (noL2 _ _ _ _) (by simp)).allocAt (w.heap.size + 1) #[.bool (b'), .slice (A') (n') (c')] 24 (noL2 _ _ _ _) (by simp))
  replace S := Lib.hid S
  by_cases h1 : 8 < n
  · have g1 : (8 : Int) < (n : Int) := by omega
    clear h1 R1 R2 m1 m2
    go_enter Tryz.func4, Tryz.ntmps4
    go_wp2_with fail
    refine (hA.out _ (tab_below htab.out S.out.bel)).mono ?_
    rintro e w1 ⟨rfl, bb⟩
    have T : St w w1 [(w.heap.size + 1, #[.bool (b'), .slice (A') (n') (c')], 24), (w.heap.size, #[.bool (b), .slice (A) (n) (c)], 24)] [(A', n', c', ys), (A, n, c, xs)] := (S.out.call bb)
    clear bb S
    have S := T
    clear T
    have c_y0 : World.cell? w1 ⟨w.heap.size + 1, 0, none⟩ = some (.bool (b')) := S.cl 0 0 rfl rfl
    have f_y0 : World.frozen? w1 ⟨w.heap.size + 1, 0, none⟩ = false := S.f 0 0 rfl
    have c_y1 : World.cell? w1 ⟨w.heap.size + 1, 1, none⟩ = some (.slice (A') (n') (c')) := S.cl 0 1 rfl rfl
    have f_y1 : World.frozen? w1 ⟨w.heap.size + 1, 1, none⟩ = false := S.f 0 1 rfl
    have c_x0 : World.cell? w1 ⟨w.heap.size, 0, none⟩ = some (.bool (b)) := S.cl 1 0 rfl rfl
    have f_x0 : World.frozen? w1 ⟨w.heap.size, 0, none⟩ = false := S.f 1 0 rfl
    have c_x1 : World.cell? w1 ⟨w.heap.size, 1, none⟩ = some (.slice (A) (n) (c)) := S.cl 1 1 rfl rfl
    have f_x1 : World.frozen? w1 ⟨w.heap.size, 1, none⟩ = false := S.f 1 1 rfl
    have hz : w.heap.size + 1 < w1.heap.size := S.lt 0 rfl
    replace S := Lib.hid S
    have S : St w _ [(w.heap.size + 1, #[.bool (b'), .slice (A') (n') (c')], 24), (w.heap.size, #[.bool (b), .slice (A) (n) (c)], 24)] [(A', n', c', ys), (A, n, c, xs)] := S.out
    replace S := Lib.hid S
    go_wp2
    go_ret
    exact ⟨rfl, S.out.bel⟩
  by_cases h2 : 8 < n'
  · have g1 : (n : Int) ≤ 8 := by omega
    have g2 : (8 : Int) < (n' : Int) := by omega
    clear h1 h2 R1 R2 m1 m2
    go_enter Tryz.func4, Tryz.ntmps4
    go_wp2_with fail
    refine (hA.out _ (tab_below htab.out S.out.bel)).mono ?_
    rintro e w1 ⟨rfl, bb⟩
    have T : St w w1 [(w.heap.size + 1, #[.bool (b'), .slice (A') (n') (c')], 24), (w.heap.size, #[.bool (b), .slice (A) (n) (c)], 24)] [(A', n', c', ys), (A, n, c, xs)] := (S.out.call bb)
    clear bb S
    have S := T
    clear T
    have c_y0 : World.cell? w1 ⟨w.heap.size + 1, 0, none⟩ = some (.bool (b')) := S.cl 0 0 rfl rfl
    have f_y0 : World.frozen? w1 ⟨w.heap.size + 1, 0, none⟩ = false := S.f 0 0 rfl
    have c_y1 : World.cell? w1 ⟨w.heap.size + 1, 1, none⟩ = some (.slice (A') (n') (c')) := S.cl 0 1 rfl rfl
    have f_y1 : World.frozen? w1 ⟨w.heap.size + 1, 1, none⟩ = false := S.f 0 1 rfl
    have c_x0 : World.cell? w1 ⟨w.heap.size, 0, none⟩ = some (.bool (b)) := S.cl 1 0 rfl rfl
    have f_x0 : World.frozen? w1 ⟨w.heap.size, 0, none⟩ = false := S.f 1 0 rfl
    have c_x1 : World.cell? w1 ⟨w.heap.size, 1, none⟩ = some (.slice (A) (n) (c)) := S.cl 1 1 rfl rfl
    have f_x1 : World.frozen? w1 ⟨w.heap.size, 1, none⟩ = false := S.f 1 1 rfl
    have hz : w.heap.size + 1 < w1.heap.size := S.lt 0 rfl
    replace S := Lib.hid S
    have S : St w _ [(w.heap.size + 1, #[.bool (b'), .slice (A') (n') (c')], 24), (w.heap.size, #[.bool (b), .slice (A) (n) (c)], 24)] [(A', n', c', ys), (A, n, c, xs)] := S.out
    replace S := Lib.hid S
    go_wp2
    go_ret
    exact ⟨rfl, S.out.bel⟩
  have g1 : (n : Int) ≤ 8 := by omega
  have g2 : (n' : Int) ≤ 8 := by omega
  have hM := fun W q1 q2 => make_any b A n c xs b' A' n' c' ys W q1 q2 (by omega) (by omega)
  have hN := fun W q1 q2 => rmake_any b A n c xs b' A' n' c' ys W q1 q2 (by omega) (by omega)
  have hsz : Rs (Rat.divInt (iv b xs) (iv b' ys)) 8 := by
    have lu := iv_lt (b := b) R1.sm (Nat.le_trans (Nat.le_of_eq R1.len) (show n ≤ 8 by omega))
    have lv := iv_lt (b := b') R2.sm (Nat.le_trans (Nat.le_of_eq R2.len) (show n' ≤ 8 by omega))
    rcases Int.lt_trichotomy (iv b' ys) 0 with h | h | h
    · rw [← Rat.neg_divInt_neg]
      exact Rs.divInt (by omega) (by rw [Int.natAbs_neg]; exact lu) (by rw [Int.natAbs_neg]; exact lv)
    · rw [h, Rat.divInt_zero]; exact ⟨by decide, by decide⟩
    · exact Rs.divInt h lu lv
  generalize Rat.divInt (iv b xs) (iv b' ys) = q at hM hN hsz
  generalize mkE (iv b' ys) = er at hM hN
  have hS := Lib.hid (fun W A n c D m d A' n' c' D' m' d' p1 p2 a b => rsameR_true q A n c D m d A' n' c' D' m' d' W p1 p2 a b)
  replace hM := Lib.hid hM
  replace hN := Lib.hid hN
  replace hsz := Lib.hid hsz
  clear h1 h2 R1 R2 m1 m2
  go_enter Tryz.func4, Tryz.ntmps4
  go_wp2_with fail
  refine (hM.out _ (S.out.r 1 rfl) (S.out.r 0 rfl)).mono ?_
  rintro e w1 ⟨A1, n1, c1, D1, m1, d1, rfl, Q, bb⟩
  have T : St w w1 [(w.heap.size + 1, #[.bool (b'), .slice (A') (n') (c')], 24), (w.heap.size, #[.bool (b), .slice (A) (n) (c)], 24)] [(D1, m1, d1, dn q), (A1, n1, c1, limbs q.num.natAbs), (A', n', c', ys), (A, n, c, xs)] := (((S.out.call bb).read Q.n).read Q.d)
  clear bb S
  have S := T
  clear T
  have c_y0 : World.cell? w1 ⟨w.heap.size + 1, 0, none⟩ = some (.bool (b')) := S.cl 0 0 rfl rfl
  have f_y0 : World.frozen? w1 ⟨w.heap.size + 1, 0, none⟩ = false := S.f 0 0 rfl
  have c_y1 : World.cell? w1 ⟨w.heap.size + 1, 1, none⟩ = some (.slice (A') (n') (c')) := S.cl 0 1 rfl rfl
  have f_y1 : World.frozen? w1 ⟨w.heap.size + 1, 1, none⟩ = false := S.f 0 1 rfl
  have c_x0 : World.cell? w1 ⟨w.heap.size, 0, none⟩ = some (.bool (b)) := S.cl 1 0 rfl rfl
  have f_x0 : World.frozen? w1 ⟨w.heap.size, 0, none⟩ = false := S.f 1 0 rfl
  have c_x1 : World.cell? w1 ⟨w.heap.size, 1, none⟩ = some (.slice (A) (n) (c)) := S.cl 1 1 rfl rfl
  have f_x1 : World.frozen? w1 ⟨w.heap.size, 1, none⟩ = false := S.f 1 1 rfl
  have hz : w.heap.size + 1 < w1.heap.size := S.lt 0 rfl
  replace S := Lib.hid S
  have l1 := Lib.hid (Q.lens hsz.out)
  clear Q hM
  have S : St w _ [(w1.heap.size, #[.bool (ng q.num), .slice (A1) (n1) (c1), .slice (D1) (m1) (d1)], 26), (w.heap.size + 1, #[.bool (b'), .slice (A') (n') (c')], 24), (w.heap.size, #[.bool (b), .slice (A) (n) (c)], 24)] [(D1, m1, d1, dn q), (A1, n1, c1, limbs q.num.natAbs), (A', n', c', ys), (A, n, c, xs)] := (S.out.allocAt (w1.heap.size) #[.bool (ng q.num), .slice (A1) (n1) (c1), .slice (D1) (m1) (d1)] 26 (noL3 _ _ _ _ _ _ _) (by simp))
  have a_x0 : World.cell? (World.alloc w1 (.cells #[.bool (ng q.num), .slice (A1) (n1) (c1), .slice (D1) (m1) (d1)] 26)) ⟨w.heap.size, 0, none⟩ = some (.bool (b)) := S.cl 2 0 rfl rfl
  have b_x0 : World.frozen? (World.alloc w1 (.cells #[.bool (ng q.num), .slice (A1) (n1) (c1), .slice (D1) (m1) (d1)] 26)) ⟨w.heap.size, 0, none⟩ = false := S.f 2 0 rfl
  have a_x1 : World.cell? (World.alloc w1 (.cells #[.bool (ng q.num), .slice (A1) (n1) (c1), .slice (D1) (m1) (d1)] 26)) ⟨w.heap.size, 1, none⟩ = some (.slice (A) (n) (c)) := S.cl 2 1 rfl rfl
  have b_x1 : World.frozen? (World.alloc w1 (.cells #[.bool (ng q.num), .slice (A1) (n1) (c1), .slice (D1) (m1) (d1)] 26)) ⟨w.heap.size, 1, none⟩ = false := S.f 2 1 rfl
  have a_y0 : World.cell? (World.alloc w1 (.cells #[.bool (ng q.num), .slice (A1) (n1) (c1), .slice (D1) (m1) (d1)] 26)) ⟨w.heap.size + 1, 0, none⟩ = some (.bool (b')) := S.cl 1 0 rfl rfl
  have b_y0 : World.frozen? (World.alloc w1 (.cells #[.bool (ng q.num), .slice (A1) (n1) (c1), .slice (D1) (m1) (d1)] 26)) ⟨w.heap.size + 1, 0, none⟩ = false := S.f 1 0 rfl
  have a_y1 : World.cell? (World.alloc w1 (.cells #[.bool (ng q.num), .slice (A1) (n1) (c1), .slice (D1) (m1) (d1)] 26)) ⟨w.heap.size + 1, 1, none⟩ = some (.slice (A') (n') (c')) := S.cl 1 1 rfl rfl
  have b_y1 : World.frozen? (World.alloc w1 (.cells #[.bool (ng q.num), .slice (A1) (n1) (c1), .slice (D1) (m1) (d1)] 26)) ⟨w.heap.size + 1, 1, none⟩ = false := S.f 1 1 rfl
  replace S := Lib.hid S
  go_wp2_with fail
  refine (hN.out _ (S.out.r 3 rfl) (S.out.r 2 rfl)).mono ?_
  rintro e w2 ⟨A2, n2, c2, D2, m2, d2, rfl, Q, bb⟩
  have T : St w w2 [(w1.heap.size, #[.bool (ng q.num), .slice (A1) (n1) (c1), .slice (D1) (m1) (d1)], 26), (w.heap.size + 1, #[.bool (b'), .slice (A') (n') (c')], 24), (w.heap.size, #[.bool (b), .slice (A) (n) (c)], 24)] [(D2, m2, d2, dn q), (A2, n2, c2, limbs q.num.natAbs), (D1, m1, d1, dn q), (A1, n1, c1, limbs q.num.natAbs), (A', n', c', ys), (A, n, c, xs)] := (((S.out.call bb).read Q.n).read Q.d)
  clear bb S c_y0 f_y0 c_y1 f_y1 c_x0 f_x0 c_x1 f_x1 hz a_x0 b_x0 a_x1 b_x1 a_y0 b_y0 a_y1 b_y1
  have S := T
  clear T
  have c_p0 : World.cell? w2 ⟨w1.heap.size, 0, none⟩ = some (.bool (ng q.num)) := S.cl 0 0 rfl rfl
  have f_p0 : World.frozen? w2 ⟨w1.heap.size, 0, none⟩ = false := S.f 0 0 rfl
  have c_p1 : World.cell? w2 ⟨w1.heap.size, 1, none⟩ = some (.slice (A1) (n1) (c1)) := S.cl 0 1 rfl rfl
  have f_p1 : World.frozen? w2 ⟨w1.heap.size, 1, none⟩ = false := S.f 0 1 rfl
  have c_p2 : World.cell? w2 ⟨w1.heap.size, 2, none⟩ = some (.slice (D1) (m1) (d1)) := S.cl 0 2 rfl rfl
  have f_p2 : World.frozen? w2 ⟨w1.heap.size, 2, none⟩ = false := S.f 0 2 rfl
  have c_y0 : World.cell? w2 ⟨w.heap.size + 1, 0, none⟩ = some (.bool (b')) := S.cl 1 0 rfl rfl
  have f_y0 : World.frozen? w2 ⟨w.heap.size + 1, 0, none⟩ = false := S.f 1 0 rfl
  have c_y1 : World.cell? w2 ⟨w.heap.size + 1, 1, none⟩ = some (.slice (A') (n') (c')) := S.cl 1 1 rfl rfl
  have f_y1 : World.frozen? w2 ⟨w.heap.size + 1, 1, none⟩ = false := S.f 1 1 rfl
  have c_x0 : World.cell? w2 ⟨w.heap.size, 0, none⟩ = some (.bool (b)) := S.cl 2 0 rfl rfl
  have f_x0 : World.frozen? w2 ⟨w.heap.size, 0, none⟩ = false := S.f 2 0 rfl
  have c_x1 : World.cell? w2 ⟨w.heap.size, 1, none⟩ = some (.slice (A) (n) (c)) := S.cl 2 1 rfl rfl
  have f_x1 : World.frozen? w2 ⟨w.heap.size, 1, none⟩ = false := S.f 2 1 rfl
  have hz : w1.heap.size < w2.heap.size := S.lt 0 rfl
  replace S := Lib.hid S
  clear Q hN
  have S : St w _ [(w2.heap.size, #[.bool (ng q.num), .slice (A2) (n2) (c2), .slice (D2) (m2) (d2)], 26), (w1.heap.size, #[.bool (ng q.num), .slice (A1) (n1) (c1), .slice (D1) (m1) (d1)], 26), (w.heap.size + 1, #[.bool (b'), .slice (A') (n') (c')], 24), (w.heap.size, #[.bool (b), .slice (A) (n) (c)], 24)] [(D2, m2, d2, dn q), (A2, n2, c2, limbs q.num.natAbs), (D1, m1, d1, dn q), (A1, n1, c1, limbs q.num.natAbs), (A', n', c', ys), (A, n, c, xs)] := (S.out.allocAt (w2.heap.size) #[.bool (ng q.num), .slice (A2) (n2) (c2), .slice (D2) (m2) (d2)] 26 (noL3 _ _ _ _ _ _ _) (by simp))
  replace S := Lib.hid S
  go_wp2_with fail
  refine (hA.out _ (tab_below htab.out S.out.bel)).mono ?_
  rintro e w3 ⟨rfl, bb⟩
  have T : St w w3 [(w2.heap.size, #[.bool (ng q.num), .slice (A2) (n2) (c2), .slice (D2) (m2) (d2)], 26), (w1.heap.size, #[.bool (ng q.num), .slice (A1) (n1) (c1), .slice (D1) (m1) (d1)], 26), (w.heap.size + 1, #[.bool (b'), .slice (A') (n') (c')], 24), (w.heap.size, #[.bool (b), .slice (A) (n) (c)], 24)] [(D2, m2, d2, dn q), (A2, n2, c2, limbs q.num.natAbs), (D1, m1, d1, dn q), (A1, n1, c1, limbs q.num.natAbs), (A', n', c', ys), (A, n, c, xs)] := (S.out.call bb)
  clear bb S c_p0 f_p0 c_p1 f_p1 c_p2 f_p2 c_y0 f_y0 c_y1 f_y1 c_x0 f_x0 c_x1 f_x1 hz
  have S := T
  clear T
  have c_r0 : World.cell? w3 ⟨w2.heap.size, 0, none⟩ = some (.bool (ng q.num)) := S.cl 0 0 rfl rfl
  have f_r0 : World.frozen? w3 ⟨w2.heap.size, 0, none⟩ = false := S.f 0 0 rfl
  have c_r1 : World.cell? w3 ⟨w2.heap.size, 1, none⟩ = some (.slice (A2) (n2) (c2)) := S.cl 0 1 rfl rfl
  have f_r1 : World.frozen? w3 ⟨w2.heap.size, 1, none⟩ = false := S.f 0 1 rfl
  have c_r2 : World.cell? w3 ⟨w2.heap.size, 2, none⟩ = some (.slice (D2) (m2) (d2)) := S.cl 0 2 rfl rfl
  have f_r2 : World.frozen? w3 ⟨w2.heap.size, 2, none⟩ = false := S.f 0 2 rfl
  have c_p0 : World.cell? w3 ⟨w1.heap.size, 0, none⟩ = some (.bool (ng q.num)) := S.cl 1 0 rfl rfl
  have f_p0 : World.frozen? w3 ⟨w1.heap.size, 0, none⟩ = false := S.f 1 0 rfl
  have c_p1 : World.cell? w3 ⟨w1.heap.size, 1, none⟩ = some (.slice (A1) (n1) (c1)) := S.cl 1 1 rfl rfl
  have f_p1 : World.frozen? w3 ⟨w1.heap.size, 1, none⟩ = false := S.f 1 1 rfl
  have c_p2 : World.cell? w3 ⟨w1.heap.size, 2, none⟩ = some (.slice (D1) (m1) (d1)) := S.cl 1 2 rfl rfl
  have f_p2 : World.frozen? w3 ⟨w1.heap.size, 2, none⟩ = false := S.f 1 2 rfl
  have c_y0 : World.cell? w3 ⟨w.heap.size + 1, 0, none⟩ = some (.bool (b')) := S.cl 2 0 rfl rfl
  have f_y0 : World.frozen? w3 ⟨w.heap.size + 1, 0, none⟩ = false := S.f 2 0 rfl
  have c_y1 : World.cell? w3 ⟨w.heap.size + 1, 1, none⟩ = some (.slice (A') (n') (c')) := S.cl 2 1 rfl rfl
  have f_y1 : World.frozen? w3 ⟨w.heap.size + 1, 1, none⟩ = false := S.f 2 1 rfl
  have c_x0 : World.cell? w3 ⟨w.heap.size, 0, none⟩ = some (.bool (b)) := S.cl 3 0 rfl rfl
  have f_x0 : World.frozen? w3 ⟨w.heap.size, 0, none⟩ = false := S.f 3 0 rfl
  have c_x1 : World.cell? w3 ⟨w.heap.size, 1, none⟩ = some (.slice (A) (n) (c)) := S.cl 3 1 rfl rfl
  have f_x1 : World.frozen? w3 ⟨w.heap.size, 1, none⟩ = false := S.f 3 1 rfl
  have hz : w2.heap.size < w3.heap.size := S.lt 0 rfl
  replace S := Lib.hid S
  go_wp2_with fail
  refine (hS.out _ _ _ _ _ _ _ _ _ _ _ _ _ ⟨(S.out.r 3 rfl), (S.out.r 2 rfl)⟩ ⟨(S.out.r 1 rfl), (S.out.r 0 rfl)⟩ (by have := l1.out; omega) (by have := l1.out; omega)).mono ?_
  rintro e w4 ⟨rfl, bb⟩
  have T : St w w4 [(w2.heap.size, #[.bool (ng q.num), .slice (A2) (n2) (c2), .slice (D2) (m2) (d2)], 26), (w1.heap.size, #[.bool (ng q.num), .slice (A1) (n1) (c1), .slice (D1) (m1) (d1)], 26), (w.heap.size + 1, #[.bool (b'), .slice (A') (n') (c')], 24), (w.heap.size, #[.bool (b), .slice (A) (n) (c)], 24)] [(D2, m2, d2, dn q), (A2, n2, c2, limbs q.num.natAbs), (D1, m1, d1, dn q), (A1, n1, c1, limbs q.num.natAbs), (A', n', c', ys), (A, n, c, xs)] := (S.out.call bb)
  clear bb S c_r0 f_r0 c_r1 f_r1 c_r2 f_r2 c_p0 f_p0 c_p1 f_p1 c_p2 f_p2 c_y0 f_y0 c_y1 f_y1 c_x0 f_x0 c_x1 f_x1 hz
  have S := T
  clear T
  have c_r0 : World.cell? w4 ⟨w2.heap.size, 0, none⟩ = some (.bool (ng q.num)) := S.cl 0 0 rfl rfl
  have f_r0 : World.frozen? w4 ⟨w2.heap.size, 0, none⟩ = false := S.f 0 0 rfl
  have c_r1 : World.cell? w4 ⟨w2.heap.size, 1, none⟩ = some (.slice (A2) (n2) (c2)) := S.cl 0 1 rfl rfl
  have f_r1 : World.frozen? w4 ⟨w2.heap.size, 1, none⟩ = false := S.f 0 1 rfl
  have c_r2 : World.cell? w4 ⟨w2.heap.size, 2, none⟩ = some (.slice (D2) (m2) (d2)) := S.cl 0 2 rfl rfl
  have f_r2 : World.frozen? w4 ⟨w2.heap.size, 2, none⟩ = false := S.f 0 2 rfl
  have c_p0 : World.cell? w4 ⟨w1.heap.size, 0, none⟩ = some (.bool (ng q.num)) := S.cl 1 0 rfl rfl
  have f_p0 : World.frozen? w4 ⟨w1.heap.size, 0, none⟩ = false := S.f 1 0 rfl
  have c_p1 : World.cell? w4 ⟨w1.heap.size, 1, none⟩ = some (.slice (A1) (n1) (c1)) := S.cl 1 1 rfl rfl
  have f_p1 : World.frozen? w4 ⟨w1.heap.size, 1, none⟩ = false := S.f 1 1 rfl
  have c_p2 : World.cell? w4 ⟨w1.heap.size, 2, none⟩ = some (.slice (D1) (m1) (d1)) := S.cl 1 2 rfl rfl
  have f_p2 : World.frozen? w4 ⟨w1.heap.size, 2, none⟩ = false := S.f 1 2 rfl
  have c_y0 : World.cell? w4 ⟨w.heap.size + 1, 0, none⟩ = some (.bool (b')) := S.cl 2 0 rfl rfl
  have f_y0 : World.frozen? w4 ⟨w.heap.size + 1, 0, none⟩ = false := S.f 2 0 rfl
  have c_y1 : World.cell? w4 ⟨w.heap.size + 1, 1, none⟩ = some (.slice (A') (n') (c')) := S.cl 2 1 rfl rfl
  have f_y1 : World.frozen? w4 ⟨w.heap.size + 1, 1, none⟩ = false := S.f 2 1 rfl
  have c_x0 : World.cell? w4 ⟨w.heap.size, 0, none⟩ = some (.bool (b)) := S.cl 3 0 rfl rfl
  have f_x0 : World.frozen? w4 ⟨w.heap.size, 0, none⟩ = false := S.f 3 0 rfl
  have c_x1 : World.cell? w4 ⟨w.heap.size, 1, none⟩ = some (.slice (A) (n) (c)) := S.cl 3 1 rfl rfl
  have f_x1 : World.frozen? w4 ⟨w.heap.size, 1, none⟩ = false := S.f 3 1 rfl
  have hz : w2.heap.size < w4.heap.size := S.lt 0 rfl
  replace S := Lib.hid S
  have S : St w _ [(w2.heap.size, #[.bool (ng q.num), .slice (A2) (n2) (c2), .slice (D2) (m2) (d2)], 26), (w1.heap.size, #[.bool (ng q.num), .slice (A1) (n1) (c1), .slice (D1) (m1) (d1)], 26), (w.heap.size + 1, #[.bool (b'), .slice (A') (n') (c')], 24), (w.heap.size, #[.bool (b), .slice (A) (n) (c)], 24)] [(D2, m2, d2, dn q), (A2, n2, c2, limbs q.num.natAbs), (D1, m1, d1, dn q), (A1, n1, c1, limbs q.num.natAbs), (A', n', c', ys), (A, n, c, xs)] := S.out
  replace S := Lib.hid S
  go_wp2
  go_ret
  exact ⟨by simp, S.out.bel⟩
end Go.Proofs.YtgaigebdbmohcaaGreatDoor
