/- Contracts of Sub. -/
import Derived.Test.YtkdeajocogdmgaaDoorQIez
import Derived.Test.YtkdeajocogdmgaaDoorIh
import Derived.Test.YtkdeajocogdmgaaDoorIi
namespace Go.Proofs.YtkdeajocogdmgaaDoor
open Go.RowKit

theorem res_sub (W : World) (tmps : Array Value) (g : Nat) {b : Bool} {A : Option Addr} {n c : Nat} (ht : tmps.getD 4 undef = .pointer (some ⟨g, 0, none⟩)) (h : Bx W g b A n c) :
    (results Tryd.f39 tmps).run Tryd.prog W = .ok (.agg #[.bool b, .slice A n c]) W := by
  obtain ⟨c0, c1, _⟩ := h.at_
  have ht' : tmps[4]?.getD undef = .pointer (some ⟨g, 0, none⟩) := by rw [← ht]; simp [Array.getD_eq_getD_getElem?]
  simp [results, Tryd.results39, go_sem, ht', c0, c1]

set_option maxHeartbeats 8000000 in
theorem subI_any (b : Bool) (A : Option Addr) (n c : Nat) (xs : List Nat) (b' : Bool) (A' : Option Addr) (n' c' : Nat) (ys : List Nat) (w : World) (h1 : Rd w A n c xs) (h2 : Rd w A' n' c' ys) (hn : n ≤ 500) (hn' : n' ≤ 500) :
    Calls Tryd.prog 39 #[.agg #[.bool b, .slice A n c], .agg #[.bool b', .slice A' n' c']] w (RetI (iv b xs - iv b' ys) w) := by
  have hk2 := fun W (h : Rd W A' n' c' ys) => oppI_any b' A' n' c' ys W h (by omega)
  have l2 := iv_abs (b := b') h2.sm (Nat.le_of_eq h2.len)
  have l3 : (limbs (-(iv b' ys)).natAbs).length ≤ n' := by rw [Int.natAbs_neg]; exact l2
  have e0 : iv b xs - iv b' ys = iv b xs + -(iv b' ys) := Int.sub_eq_add_neg
  rw [e0]
  clear e0
  generalize -(iv b' ys) = y at hk2 l3 ⊢
  have ha := fun W A1 n1 c1 (h : Rd W A n c xs) (h' : Rd W A1 n1 c1 (limbs y.natAbs)) (hn1 : n1 ≤ 500) => addI_any b A n c xs (ng y) A1 n1 c1 (limbs y.natAbs) W h h' hn hn1
  rw [iv_z] at ha
  generalize iv b xs + y = z at ha ⊢
  replace hk2 := Lib.hid hk2
  replace ha := Lib.hid ha
  replace l3 := Lib.hid l3
  have X := B3.new w b A n c b' A' n' c' false none 0 0
  have R1 := h1.below X.bel
  have R2 := h2.below X.bel
  clear h1 h2 l2
  go_enter Tryd.func39, Tryd.ntmps39
  go_upto_region 1 with fail
  generalize ((w.alloc (.cells #[.bool b, .slice A n c] 31)).alloc (.cells #[.bool b', .slice A' n' c'] 31)).alloc (.cells #[.bool false, .slice none 0 0] 31) = W0 at X R1 R2 ⊢
  obtain ⟨a0, a1, a2, a3⟩ := X.x1.at_
  obtain ⟨d0, d1, d2, d3⟩ := X.x2.at_
  have XD := Lib.hid X.drew
  have RD1 := Lib.hid (Rd.drew1 R1)
  have RD2 := Lib.hid (Rd.drew1 R2)
  clear X R1 R2
  go_region_held3 (fun w' => w'.cell? ⟨w.heap.size, 0, none⟩ = some (.bool b) ∧ w'.cell? ⟨w.heap.size, 1, none⟩ = some (.slice A n c) ∧ w'.cell? ⟨w.heap.size + 1, 0, none⟩ = some (.bool b') ∧ w'.cell? ⟨w.heap.size + 1, 1, none⟩ = some (.slice A' n' c'))
    (first | exact ⟨a0, a1, d0, d1⟩ | exact ⟨f0, f1, k0, k1⟩ | exact ⟨p0, p1, q0, q1⟩ | exact ⟨r0, r1, t0, t1⟩)
    (first
      | (go_at_call 74; refine (hk2.out _ (by exact RD2.out)).mono ?_; rintro e w1 ⟨A2, n2, c2, rfl, Q2, B1⟩; have X1 := XD.out.on B1; have R1' := RD1.out.below B1; obtain ⟨f0, f1, _⟩ := X1.x1.at_; obtain ⟨k0, k1, _⟩ := X1.x2.at_)
      | (go_at_call 37; refine (ha.out _ _ _ _ (by exact R1') (by exact Q2) (by have := l3.out; have := Q2.len; omega)).mono ?_; rintro e w4 ⟨A4, n4, c4, rfl, Q4, B4'⟩; have Y4 := X1.on B4'; obtain ⟨p0, p1, _⟩ := Y4.x1.at_; obtain ⟨q0, q1, _⟩ := Y4.x2.at_; obtain ⟨v0, v1, v2, v3⟩ := Y4.x3.at_; have Y5 := Y4.put3 (ng z) A4 n4 c4; obtain ⟨r0, r1, _⟩ := Y5.x1.at_; obtain ⟨t0, t1, _⟩ := Y5.x2.at_))
  all_goals
    have Y5' := Lib.hid Y5
    have Q5 := Lib.hid (Q4.put Y4.x3 (.bool (ng z)) (.slice A4 n4 c4))
    clear Y5 Y4 X1 r0 r1 t0 t1 v0 v1 v2 v3 p0 p1 q0 q1 f0 f1 k0 k1 Q2 Q4 B1 B4' R1' a0 a1 a2 a3 d0 d1 d2 d3
    go_wp2
    refine bodyPost_ret (res_sub _ _ (w.heap.size + 1 + 1) rfl Y5'.out.x3) rfl ?_
    exact ret_I rfl Q5.out Y5'.out.bel

theorem res_rsub (W : World) (tmps : Array Value) (g : Nat) {b : Bool} {A : Option Addr} {n c : Nat} (ht : tmps.getD 4 undef = .pointer (some ⟨g, 0, none⟩)) (h : Bx W g b A n c) :
    (results Tryd.f40 tmps).run Tryd.prog W = .ok (.agg #[.bool b, .slice A n c]) W := by
  obtain ⟨c0, c1, _⟩ := h.at_
  have ht' : tmps[4]?.getD undef = .pointer (some ⟨g, 0, none⟩) := by rw [← ht]; simp [Array.getD_eq_getD_getElem?]
  simp [results, Tryd.results40, go_sem, ht', c0, c1]

set_option maxHeartbeats 8000000 in
theorem rsubI_any (b : Bool) (A : Option Addr) (n c : Nat) (xs : List Nat) (b' : Bool) (A' : Option Addr) (n' c' : Nat) (ys : List Nat) (w : World) (h1 : Rd w A n c xs) (h2 : Rd w A' n' c' ys) (hn : n ≤ 500) (hn' : n' ≤ 500) :
    Calls Tryd.prog 40 #[.agg #[.bool b, .slice A n c], .agg #[.bool b', .slice A' n' c']] w (RetI (iv b xs - iv b' ys) w) := by
  have hk2 := fun W (h : Rd W A' n' c' ys) => rnegI_any b' A' n' c' ys W h (by omega)
  have l2 := iv_abs (b := b') h2.sm (Nat.le_of_eq h2.len)
  have l3 : (limbs (-(iv b' ys)).natAbs).length ≤ n' := by rw [Int.natAbs_neg]; exact l2
  have e0 : iv b xs - iv b' ys = iv b xs + -(iv b' ys) := Int.sub_eq_add_neg
  rw [e0]
  clear e0
  generalize -(iv b' ys) = y at hk2 l3 ⊢
  have ha := fun W A1 n1 c1 (h : Rd W A n c xs) (h' : Rd W A1 n1 c1 (limbs y.natAbs)) (hn1 : n1 ≤ 500) => raddI_any b A n c xs (ng y) A1 n1 c1 (limbs y.natAbs) W h h' hn hn1
  rw [iv_z] at ha
  generalize iv b xs + y = z at ha ⊢
  replace hk2 := Lib.hid hk2
  replace ha := Lib.hid ha
  replace l3 := Lib.hid l3
  have X := B3.new w b A n c b' A' n' c' false none 0 0
  have R1 := h1.below X.bel
  have R2 := h2.below X.bel
  clear h1 h2 l2
  go_enter Tryd.func40, Tryd.ntmps40
  go_upto_region 1 with fail
  generalize ((w.alloc (.cells #[.bool b, .slice A n c] 31)).alloc (.cells #[.bool b', .slice A' n' c'] 31)).alloc (.cells #[.bool false, .slice none 0 0] 31) = W0 at X R1 R2 ⊢
  obtain ⟨a0, a1, a2, a3⟩ := X.x1.at_
  obtain ⟨d0, d1, d2, d3⟩ := X.x2.at_
  have XD := Lib.hid X.drew
  have RD1 := Lib.hid (Rd.drew1 R1)
  have RD2 := Lib.hid (Rd.drew1 R2)
  clear X R1 R2
  go_region_held3 (fun w' => w'.cell? ⟨w.heap.size, 0, none⟩ = some (.bool b) ∧ w'.cell? ⟨w.heap.size, 1, none⟩ = some (.slice A n c) ∧ w'.cell? ⟨w.heap.size + 1, 0, none⟩ = some (.bool b') ∧ w'.cell? ⟨w.heap.size + 1, 1, none⟩ = some (.slice A' n' c'))
    (first | exact ⟨a0, a1, d0, d1⟩ | exact ⟨f0, f1, k0, k1⟩ | exact ⟨p0, p1, q0, q1⟩ | exact ⟨r0, r1, t0, t1⟩)
    (first
      | (go_at_call 32; refine (hk2.out _ (by exact RD2.out)).mono ?_; rintro e w1 ⟨A2, n2, c2, rfl, Q2, B1⟩; have X1 := XD.out.on B1; have R1' := RD1.out.below B1; obtain ⟨f0, f1, _⟩ := X1.x1.at_; obtain ⟨k0, k1, _⟩ := X1.x2.at_)
      | (go_at_call 38; refine (ha.out _ _ _ _ (by exact R1') (by exact Q2) (by have := l3.out; have := Q2.len; omega)).mono ?_; rintro e w4 ⟨A4, n4, c4, rfl, Q4, B4'⟩; have Y4 := X1.on B4'; obtain ⟨p0, p1, _⟩ := Y4.x1.at_; obtain ⟨q0, q1, _⟩ := Y4.x2.at_; obtain ⟨v0, v1, v2, v3⟩ := Y4.x3.at_; have Y5 := Y4.put3 (ng z) A4 n4 c4; obtain ⟨r0, r1, _⟩ := Y5.x1.at_; obtain ⟨t0, t1, _⟩ := Y5.x2.at_))
  all_goals
    have Y5' := Lib.hid Y5
    have Q5 := Lib.hid (Q4.put Y4.x3 (.bool (ng z)) (.slice A4 n4 c4))
    clear Y5 Y4 X1 r0 r1 t0 t1 v0 v1 v2 v3 p0 p1 q0 q1 f0 f1 k0 k1 Q2 Q4 B1 B4' R1' a0 a1 a2 a3 d0 d1 d2 d3
    go_wp2
    refine bodyPost_ret (res_rsub _ _ (w.heap.size + 1 + 1) rfl Y5'.out.x3) rfl ?_
    exact ret_I rfl Q5.out Y5'.out.bel
end Go.Proofs.YtkdeajocogdmgaaDoor
