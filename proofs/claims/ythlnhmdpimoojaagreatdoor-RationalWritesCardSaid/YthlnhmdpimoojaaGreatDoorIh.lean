/- Contract of Add. -/
import Derived.Test.YthlnhmdpimoojaaGreatDoorQIaz
import Derived.Test.YthlnhmdpimoojaaGreatDoorQWjz
import Derived.Test.YthlnhmdpimoojaaGreatDoorQWqz
namespace Go.Proofs.YthlnhmdpimoojaaGreatDoor
open Go.RowKit

theorem sg_add {x y : Int} (h : ng x = ng y) : sg (ng x) (x.natAbs + y.natAbs) = x + y := by
  have hx := sg_ng x
  have hy := sg_ng y
  rw [← h] at hy
  generalize x.natAbs = a at *
  generalize y.natAbs = b at *
  generalize ng x = p at *
  subst hx hy
  cases p <;> simp [sg] <;> omega
theorem sg_sub1 {x y : Int} (h : ¬ ng x = ng y) (hle : y.natAbs ≤ x.natAbs) : sg (ng x) (x.natAbs - y.natAbs) = x + y := by
  unfold ng at h
  unfold sg ng
  by_cases hx : x < 0 <;> by_cases hy : y < 0 <;> simp [hx, hy] at h ⊢ <;> omega
theorem sg_sub2 {x y : Int} (h : ¬ ng x = ng y) (hle : x.natAbs ≤ y.natAbs) : sg (ng y) (y.natAbs - x.natAbs) = x + y := by
  unfold ng at h
  unfold sg ng
  by_cases hx : x < 0 <;> by_cases hy : y < 0 <;> simp [hx, hy] at h ⊢ <;> omega
theorem res_add (W : World) (tmps : Array Value) (g : Nat) {b : Bool} {A : Option Addr} {n c : Nat} (ht : tmps.getD 4 undef = .pointer (some ⟨g, 0, none⟩)) (h : Bx W g b A n c) :
    (results Tryz.f86 tmps).run Tryz.prog W = .ok (.agg #[.bool b, .slice A n c]) W := by
  obtain ⟨c0, c1, _⟩ := h.at_
  have ht' : tmps[4]?.getD undef = .pointer (some ⟨g, 0, none⟩) := by rw [← ht]; simp [Array.getD_eq_getD_getElem?]
  simp [results, Tryz.results86, go_sem, ht', c0, c1]

set_option maxHeartbeats 8000000 in
theorem addI_any (b : Bool) (A : Option Addr) (n c : Nat) (xs : List Nat) (b' : Bool) (A' : Option Addr) (n' c' : Nat) (ys : List Nat) (w : World) (h1 : Rd w A n c xs) (h2 : Rd w A' n' c' ys) (hn : n ≤ 500) (hn' : n' ≤ 500) :
    Calls Tryz.prog 86 #[.agg #[.bool b, .slice A n c], .agg #[.bool b', .slice A' n' c']] w (RetI ((iv b xs) + (iv b' ys)) w) := by
  have hk1 := fun W (h : Rd W A n c xs) => knownI_any b A n c xs W h (by omega)
  have hk2 := fun W (h : Rd W A' n' c' ys) => knownI_any b' A' n' c' ys W h (by omega)
  have l1 := iv_abs (b := b) h1.sm (Nat.le_of_eq h1.len)
  have l2 := iv_abs (b := b') h2.sm (Nat.le_of_eq h2.len)
  generalize iv b xs = z1 at *
  generalize iv b' ys = z2 at *
  replace hk1 := Lib.hid hk1
  replace hk2 := Lib.hid hk2
  replace l1 := Lib.hid l1
  replace l2 := Lib.hid l2
  have X := B3.new w b A n c b' A' n' c' false none 0 0
  have R1 := h1.below X.bel
  have R2 := h2.below X.bel
  clear h1 h2
  go_enter Tryz.func86, Tryz.ntmps86
  go_upto_region 1 with fail
  generalize ((w.alloc (.cells #[.bool b, .slice A n c] 24)).alloc (.cells #[.bool b', .slice A' n' c'] 24)).alloc (.cells #[.bool false, .slice none 0 0] 24) = W0 at X R1 R2 ⊢
  obtain ⟨a0, a1, a2, a3⟩ := X.x1.at_
  obtain ⟨d0, d1, d2, d3⟩ := X.x2.at_
  replace X := Lib.hid X
  replace R1 := Lib.hid R1
  replace R2 := Lib.hid R2
  go_cut [] (fun wx => ∃ A1 n1 c1 A2 n2 c2, B3 w wx (ng z1) A1 n1 c1 (ng z2) A2 n2 c2 false none 0 0 ∧ Rd wx A1 n1 c1 (limbs z1.natAbs) ∧ Rd wx A2 n2 c2 (limbs z2.natAbs))
  case first =>
    have XD := Lib.hid X.out.drew
    have RD1 := Lib.hid (Rd.drew1 R1.out)
    have RD2 := Lib.hid (Rd.drew1 R2.out)
    go_region_with (first
      | (go_at_call_of 76 (Value.agg #[.bool b, .slice A n c]); refine (hk1.out _ (by exact RD1.out)).mono ?_; rintro e w1 ⟨A1, n1, c1, rfl, Q1, B1⟩; have X1 := XD.out.on B1; have R2' := RD2.out.below B1; obtain ⟨d0', d1', d2', d3'⟩ := X1.x2.at_)
      | (go_at_call_of 76 (Value.agg #[.bool b', .slice A' n' c']); refine (hk2.out _ (by exact R2')).mono ?_; rintro e w2 ⟨A2, n2, c2, rfl, Q2, B2⟩; have X2 := X1.on B2; obtain ⟨f0, f1, f2, f3⟩ := X2.x1.at_; obtain ⟨k0, k1, k2, k3⟩ := X2.x2.at_))
    all_goals
      have Y := Lib.hid (X2.two_puts (ng z1) A1 n1 c1 (ng z2) A2 n2 c2)
      have P1 := Lib.hid (((Q1.below B2).put X2.x1 (.bool (ng z1)) (.slice A1 n1 c1)).put (X2.put1 (ng z1) A1 n1 c1).x2 (.bool (ng z2)) (.slice A2 n2 c2))
      have P2 := Lib.hid ((Q2.put X2.x1 (.bool (ng z1)) (.slice A1 n1 c1)).put (X2.put1 (ng z1) A1 n1 c1).x2 (.bool (ng z2)) (.slice A2 n2 c2))
      clear a0 a1 a2 a3 d0 d1 d2 d3 d0' d1' d2' d3' f0 f1 f2 f3 k0 k1 k2 k3 Q1 Q2 B1 B2 X1 X2 R2'
      go_wp2_with fail
      go_meet
      exact ⟨_, _, _, _, _, _, Y.out, P1.out, P2.out⟩
  case rest =>
    obtain ⟨A1, n1, c1, A2, n2, c2, Y, P1, P2⟩ := hcut
    clear X R1 R2 a0 a1 a2 a3 d0 d1 d2 d3 hk1 hk2
    have hl1 : n1 ≤ 500 := by have := l1.out; have := P1.len; omega
    have hl2 : n2 ≤ 500 := by have := l2.out; have := P2.len; omega
    obtain ⟨a0, a1, a2, a3⟩ := Y.x1.at_
    obtain ⟨d0, d1, d2, d3⟩ := Y.x2.at_
    by_cases hs : ng z1 = ng z2
    · have hq : (ng z1 == ng z2) = true := by rw [hs]; simp
      have hsum := Lib.hid (sg_add hs)
      clear hs
      have YD := Lib.hid Y.drew
      have P1D := Lib.hid (Rd.drew1 P1)
      have P2D := Lib.hid (Rd.drew1 P2)
      clear Y P1 P2
      go_wp2_with fail
      go_region_held3 (fun w' => w'.cell? ⟨w.heap.size, 0, none⟩ = some (.bool (ng z1)) ∧ w'.cell? ⟨w.heap.size, 1, none⟩ = some (.slice A1 n1 c1) ∧ w'.cell? ⟨w.heap.size + 1, 0, none⟩ = some (.bool (ng z2)) ∧ w'.cell? ⟨w.heap.size + 1, 1, none⟩ = some (.slice A2 n2 c2))
        (first | exact ⟨a0, a1, d0, d1⟩ | exact ⟨f0, f1, k0, k1⟩ | exact ⟨p0, p1, q0, q1⟩ | exact ⟨r0, r1, t0, t1⟩)
        (first
          | (go_at_call 96; refine (add_any _ _ _ (limbs z1.natAbs) _ _ _ (limbs z2.natAbs) _ (by exact P1D.out) (by exact P2D.out) (by omega) (by omega)).mono ?_; rw [num_limbs, num_limbs]; rintro e w3 ⟨A3, n3, c3, rfl, Q3, B3'⟩; have Y3 := YD.out.on B3'; obtain ⟨f0, f1, _⟩ := Y3.x1.at_; obtain ⟨k0, k1, _⟩ := Y3.x2.at_)
          | (go_at_call 61; refine (signedI_any _ _ _ _ (z1.natAbs + z2.natAbs) _ (by exact Q3)).mono ?_; rw [hsum.out]; rintro e w4 ⟨A4, n4, c4, rfl, Q4, B4'⟩; have Y4 := Y3.on B4'; obtain ⟨p0, p1, _⟩ := Y4.x1.at_; obtain ⟨q0, q1, _⟩ := Y4.x2.at_; obtain ⟨v0, v1, v2, v3⟩ := Y4.x3.at_; have Y5 := Y4.put3 (ng (z1 + z2)) A4 n4 c4; obtain ⟨r0, r1, _⟩ := Y5.x1.at_; obtain ⟨t0, t1, _⟩ := Y5.x2.at_))
      all_goals
        have Y5' := Lib.hid Y5
        have Q5 := Lib.hid (Q4.put Y4.x3 (.bool (ng (z1 + z2))) (.slice A4 n4 c4))
        clear Y5 Y4 Y3 r0 r1 t0 t1 v0 v1 v2 v3 p0 p1 q0 q1 f0 f1 k0 k1 Q3 Q4 B3' B4'
        go_wp2
        refine bodyPost_ret (res_add _ _ (w.heap.size + 1 + 1) rfl Y5'.out.x3) rfl ?_
        exact ret_I rfl Q5.out Y5'.out.bel
    · have hq : (ng z1 == ng z2) = false := by rw [beq_eq_false_iff_ne]; exact hs
      have hg1 := @sg_sub1 z1 z2 hs
      have hg2 := @sg_sub2 z1 z2 hs
      clear hs
      rcases Nat.lt_or_ge z1.natAbs z2.natAbs with hle | hle
      · replace hg2 := Lib.hid (hg2 (Nat.le_of_lt hle))
        clear hg1
        have hd1 := Lib.hid (sub_lt_b _ _ _ _ _ _ _ _ _ P1 P2 (by omega) (by omega) hle)
        go_wp2_with (go_at_call 98; refine hd1.out.mono ?_; rintro e w3 ⟨rfl, B3'⟩; refine Hid.out ?_)
        refine Lib.hid ?_
        have hd2 := Lib.hid (sub_ge_b _ _ _ _ _ _ _ _ _ 1000 (P2.below B3') (P1.below B3') (by omega) (by omega) (by omega) (Nat.le_of_lt hle))
        replace Y := Y.on B3'
        obtain ⟨u0, u1, u2, u3⟩ := Y.x1.at_
        obtain ⟨y0, y1, y2, y3⟩ := Y.x2.at_
        clear hd1 P1 P2 a0 a1 a2 a3 d0 d1 d2 d3 B3' hle
        have P1 : True := trivial
        have P2 : True := trivial
        have a0 : True := trivial
        have a1 : True := trivial
        have a2 : True := trivial
        have a3 : True := trivial
        have d0 : True := trivial
        have d1 : True := trivial
        have d2 : True := trivial
        have d3 : True := trivial
        replace Y := Lib.hid Y
        go_wp2_with (go_at_call 98; refine hd2.out.mono ?_; rintro e w4 ⟨A3, n3, c3, rfl, Q3, B3', _⟩; refine Hid.out ?_)
        replace Y := Y.out
        clear u0 u1 u2 u3 y0 y1 y2 y3
        refine Lib.hid ?_
        have Y3 := Y.on B3'
        obtain ⟨f0, f1, f2, f3⟩ := Y3.x1.at_
        obtain ⟨k0, k1, k2, k3⟩ := Y3.x2.at_
        clear Y P1 P2 a0 a1 a2 a3 d0 d1 d2 d3 B3'
        replace Y3 := Lib.hid Y3
        replace Q3 := Lib.hid Q3
        go_wp2_with (go_at_call 61; refine (signedI_any _ _ _ _ (z2.natAbs - z1.natAbs) _ (by exact Q3.out)).mono ?_; rw [hg2.out]; rintro e w5 ⟨A4, n4, c4, rfl, Q4, B4'⟩; refine Hid.out ?_)
        refine Lib.hid ?_
        have Y4 := Y3.out.on B4'
        obtain ⟨v0, v1, v2, v3⟩ := Y4.x3.at_
        have Y5 := Lib.hid (Y4.put3 (ng (z1 + z2)) A4 n4 c4)
        have Q5 := Lib.hid (Q4.put Y4.x3 (.bool (ng (z1 + z2))) (.slice A4 n4 c4))
        clear Y4 Q4 B4' Y3 Q3 f0 f1 f2 f3 k0 k1 k2 k3
        go_wp2
        refine bodyPost_ret (res_add _ _ (w.heap.size + 1 + 1) rfl Y5.out.x3) rfl ?_
        exact ret_I rfl Q5.out Y5.out.bel
      · replace hg1 := Lib.hid (hg1 hle)
        clear hg2
        have hd1 := Lib.hid (sub_ge_b _ _ _ _ _ _ _ _ _ 1000 P1 P2 (by omega) (by omega) (by omega) hle)
        replace hle := Lib.hid hle
        replace Y := Lib.hid Y
        replace P1 := Lib.hid P1
        replace P2 := Lib.hid P2
        go_wp2_with (go_at_call 98; refine hd1.out.mono ?_; rintro e w3 ⟨A3, n3, c3, rfl, Q3, B3', _⟩; refine Hid.out ?_)
        replace Y := Y.out
        refine Lib.hid ?_
        have Y3 := Y.on B3'
        obtain ⟨f0, f1, f2, f3⟩ := Y3.x1.at_
        obtain ⟨k0, k1, k2, k3⟩ := Y3.x2.at_
        clear Y P1 P2 a0 a1 a2 a3 d0 d1 d2 d3 B3'
        replace Y3 := Lib.hid Y3
        replace Q3 := Lib.hid Q3
        go_wp2_with (go_at_call 61; refine (signedI_any _ _ _ _ (z1.natAbs - z2.natAbs) _ (by exact Q3.out)).mono ?_; rw [hg1.out]; rintro e w5 ⟨A4, n4, c4, rfl, Q4, B4'⟩; refine Hid.out ?_)
        refine Lib.hid ?_
        have Y4 := Y3.out.on B4'
        obtain ⟨v0, v1, v2, v3⟩ := Y4.x3.at_
        have Y5 := Lib.hid (Y4.put3 (ng (z1 + z2)) A4 n4 c4)
        have Q5 := Lib.hid (Q4.put Y4.x3 (.bool (ng (z1 + z2))) (.slice A4 n4 c4))
        clear Y4 Q4 B4' Y3 Q3 f0 f1 f2 f3 k0 k1 k2 k3
        go_wp2
        refine bodyPost_ret (res_add _ _ (w.heap.size + 1 + 1) rfl Y5.out.x3) rfl ?_
        exact ret_I rfl Q5.out Y5.out.bel
end Go.Proofs.YthlnhmdpimoojaaGreatDoor
