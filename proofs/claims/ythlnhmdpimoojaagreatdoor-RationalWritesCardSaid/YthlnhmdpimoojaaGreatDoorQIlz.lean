/- Contract of Compare. Contract of the reference's Compare. Contracts of FromInt. Contract of Same. -/
import Derived.Test.YthlnhmdpimoojaaGreatDoorQIaz
import Derived.Test.YthlnhmdpimoojaaGreatDoorQIez
import Derived.Test.YthlnhmdpimoojaaGreatDoorQWaz
import Derived.Test.YthlnhmdpimoojaaGreatDoorQWvz
import Derived.Test.YthlnhmdpimoojaaGreatDoorIk
import Derived.Test.YthlnhmdpimoojaaGreatDoorQWez
import Derived.Test.YthlnhmdpimoojaaGreatDoorQWqz
import Derived.Test.YthlnhmdpimoojaaGreatDoorQWjz
namespace Go.Proofs.YthlnhmdpimoojaaGreatDoor
open Go.RowKit

theorem cmp_pos {x y : Int} (hy : ng y = false) (hx : ng x = false) : cmpi x.natAbs y.natAbs = cmpi x y := by
  unfold ng at hx hy
  rw [decide_eq_false_iff_not] at hx hy
  rw [Int.natAbs_of_nonneg (by omega), Int.natAbs_of_nonneg (by omega)]
theorem cmp_neg2 {x y : Int} (hy : ng y = true) (hx : ng x = true) : cmpi y.natAbs x.natAbs = cmpi x y := by
  unfold ng at hx hy
  rw [decide_eq_true_iff] at hx hy
  unfold cmpi
  by_cases h1 : x < y
  · rw [if_pos h1, if_pos (by omega)]
  · rw [if_neg h1, if_neg (by omega)]
    by_cases h2 : y < x
    · rw [if_pos h2, if_pos (by omega)]
    · rw [if_neg h2, if_neg (by omega)]
theorem cmp_sign {x y : Int} (h : ¬ ng x = ng y) : cmpi x.sign y.sign = cmpi x y := by
  unfold ng at h
  have sx := @Int.sign_eq_neg_one_of_neg x
  have sy := @Int.sign_eq_neg_one_of_neg y
  have px : ∀ z : Int, 0 ≤ z → 0 ≤ z.sign := fun z hz => by
    rcases Int.lt_or_eq_of_le hz with h1 | h1
    · rw [Int.sign_eq_one_of_pos h1]; omega
    · rw [← h1]; exact Int.le_refl 0
  by_cases hx : x < 0 <;> by_cases hy : y < 0
  · simp [hx, hy] at h
  · have e1 := sx hx
    have e2 : 0 ≤ y.sign := px y (by omega)
    rw [cmpi_lt (by omega), cmpi_lt (by omega)]
  · have e1 := sy hy
    have e2 : 0 ≤ x.sign := px x (by omega)
    rw [cmpi_gt (by omega), cmpi_gt (by omega)]
  · simp [hx, hy] at h
set_option maxHeartbeats 8000000 in
theorem compareI_any (b : Bool) (A : Option Addr) (n c : Nat) (xs : List Nat) (b' : Bool) (A' : Option Addr) (n' c' : Nat) (ys : List Nat) (w : World) (h1 : Rd w A n c xs) (h2 : Rd w A' n' c' ys) (hn : n ≤ 500) (hn' : n' ≤ 500) :
    Calls Tryz.prog 85 #[.agg #[.bool b, .slice A n c], .agg #[.bool b', .slice A' n' c']] w (fun e w' => e = .returned (.int .i64 (cmpi (iv b xs) (iv b' ys))) ∧ Below w.heap.size w w') := by
  have hk1 := fun W (h : Rd W A n c xs) => knownI_any b A n c xs W h (by omega)
  have hk2 := fun W (h : Rd W A' n' c' ys) => knownI_any b' A' n' c' ys W h (by omega)
  have l1 := iv_abs (b := b) h1.sm (Nat.le_of_eq h1.len)
  have l2 := iv_abs (b := b') h2.sm (Nat.le_of_eq h2.len)
  generalize iv b xs = z1 at *
  generalize iv b' ys = z2 at *
  replace hk1 := Lib.hid hk1
  replace hk2 := Lib.hid hk2
  replace l1 := Lib.hid l1
  replace l2 := Lib.hid l2
  have X := B2.new w b A n c b' A' n' c'
  have R1 := h1.below X.bel
  have R2 := h2.below X.bel
  clear h1 h2
  go_enter Tryz.func85, Tryz.ntmps85
  go_upto_region 1 with fail
  generalize (w.alloc (.cells #[.bool b, .slice A n c] 24)).alloc (.cells #[.bool b', .slice A' n' c'] 24) = W0 at X R1 R2 ⊢
  obtain ⟨a0, a1, a2, a3⟩ := X.x1.at_
  obtain ⟨d0, d1, d2, d3⟩ := X.x2.at_
  replace X := Lib.hid X
  replace R1 := Lib.hid R1
  replace R2 := Lib.hid R2
  go_cut [] (fun wx => ∃ A1 n1 c1 A2 n2 c2, B2 w wx (ng z1) A1 n1 c1 (ng z2) A2 n2 c2 ∧ Rd wx A1 n1 c1 (limbs z1.natAbs) ∧ Rd wx A2 n2 c2 (limbs z2.natAbs))
  case first =>
    have XD := Lib.hid X.out.drew
    have RD1 := Lib.hid (Rd.drew1 R1.out)
    have RD2 := Lib.hid (Rd.drew1 R2.out)
    go_region_with (first
      | (go_at_call_of 76 (Value.agg #[.bool b, .slice A n c]); refine (hk1.out _ (by exact RD1.out)).mono ?_; rintro e w1 ⟨A1, n1, c1, rfl, Q1, B1⟩; have X1 := XD.out.on B1; have R2' := RD2.out.below B1; obtain ⟨d0', d1', d2', d3'⟩ := X1.x2.at_)
      | (go_at_call_of 76 (Value.agg #[.bool b', .slice A' n' c']); refine (hk2.out _ (by exact R2')).mono ?_; rintro e w2 ⟨A2, n2, c2, rfl, Q2, B2⟩; have X2 := X1.on B2; obtain ⟨f0, f1, f2, f3⟩ := X2.x1.at_; obtain ⟨k0, k1, k2, k3⟩ := X2.x2.at_))
    all_goals
      have Y := Lib.hid (X2.two_puts (ng z1) A1 n1 c1 (ng z2) A2 n2 c2)
      have P1 := Lib.hid (((Q1.below B2).put X2.x1 (.bool (ng z1)) (.slice A1 n1 c1)).put (X2.put1 (ng z1) A1 n1 c1).x2 (.bool (ng z2)) (.slice A2 n2 c2))
      have P2 := Lib.hid ((Q2.put X2.x1 (.bool (ng z1)) (.slice A1 n1 c1)).put (X2.put1 (ng z1) A1 n1 c1).x2 (.bool (ng z2)) (.slice A2 n2 c2))
      clear a0 a1 a2 a3 d0 d1 d2 d3 d0' d1' d2' d3' f0 f1 f2 f3 k0 k1 k2 k3 Q1 Q2 B1 B2 X1 X2 R2'
      go_wp2_with fail
      go_meet
      exact ⟨_, _, _, _, _, _, Y.out, P1.out, P2.out⟩
  case rest =>
    obtain ⟨A1, n1, c1, A2, n2, c2, Y, P1, P2⟩ := hcut
    clear X R1 R2 a0 a1 a2 a3 d0 d1 d2 d3 hk1 hk2
    have hl1 : n1 ≤ 500 := by have := l1.out; have := P1.len; omega
    have hl2 : n2 ≤ 500 := by have := l2.out; have := P2.len; omega
    obtain ⟨a0, a1, a2, a3⟩ := Y.x1.at_
    obtain ⟨d0, d1, d2, d3⟩ := Y.x2.at_
    by_cases hs : ng z1 = ng z2
    · cases hg : ng z1
      · have hc := Lib.hid (cmp_pos (hs ▸ hg) hg)
        rw [← hs, hg] at Y d0
        rw [hg] at a0
        have hq : (false == false) = true := rfl
        clear hs hg
        have hd1 := Lib.hid (compare_any _ _ _ (limbs z1.natAbs) _ _ _ (limbs z2.natAbs) wc P1 P2 (by omega) (by omega))
        rw [num_limbs, num_limbs] at hd1
        have Bz := Lib.hid Y.bel
        clear Y P1 P2
        go_wp2_with (go_at_call 128; refine hd1.out.mono ?_; rintro e w3 ⟨rfl, m, rfl⟩; refine Hid.out ?_)
        refine Lib.hid ?_
        go_wp2
        go_ret
        exact ⟨by rw [hc.out]; rfl, below_drewN Bz.out m⟩
      · have hc := Lib.hid (cmp_neg2 (hs ▸ hg) hg)
        rw [← hs, hg] at Y d0
        rw [hg] at a0
        clear hs hg
        have hd1 := Lib.hid (compare_any _ _ _ (limbs z2.natAbs) _ _ _ (limbs z1.natAbs) wc P2 P1 (by omega) (by omega))
        rw [num_limbs, num_limbs] at hd1
        have Bz := Lib.hid Y.bel
        clear Y P1 P2
        go_wp2_with (go_at_call 128; refine hd1.out.mono ?_; rintro e w3 ⟨rfl, m, rfl⟩; refine Hid.out ?_)
        refine Lib.hid ?_
        go_wp2
        go_ret
        exact ⟨by rw [hc.out]; rfl, below_drewN Bz.out m⟩
    · have hq : (ng z1 == ng z2) = false := by rw [beq_eq_false_iff_ne]; exact hs
      have hc := Lib.hid (cmp_sign hs)
      clear hs
      have hs1 := fun W A1 n1 c1 (h : Rd W A1 n1 c1 (limbs z1.natAbs)) (hn : n1 ≤ 1000) => signI_any (ng z1) A1 n1 c1 (limbs z1.natAbs) W h hn
      have hs2 := fun W A1 n1 c1 (h : Rd W A1 n1 c1 (limbs z2.natAbs)) (hn : n1 ≤ 1000) => signI_any (ng z2) A1 n1 c1 (limbs z2.natAbs) W h hn
      rw [iv_z] at hs1 hs2
      replace hs1 := Lib.hid hs1
      replace hs2 := Lib.hid hs2
      have YD := Lib.hid Y.drew
      have P1D := Lib.hid (Rd.drew1 P1)
      have P2D := Lib.hid (Rd.drew1 P2)
      clear Y P1 P2
      go_wp2_with fail
      go_region_held3 (fun w' => w'.cell? ⟨w.heap.size, 0, none⟩ = some (.bool (ng z1)) ∧ w'.cell? ⟨w.heap.size, 1, none⟩ = some (.slice A1 n1 c1) ∧ w'.cell? ⟨w.heap.size + 1, 0, none⟩ = some (.bool (ng z2)) ∧ w'.cell? ⟨w.heap.size + 1, 1, none⟩ = some (.slice A2 n2 c2))
        (first | exact ⟨a0, a1, d0, d1⟩ | exact ⟨f0, f1, k0, k1⟩ | exact ⟨p0, p1, q0, q1⟩ | exact ⟨r0, r1, t0, t1⟩)
        (first
          | (go_at_call_of 38 (Value.agg #[.bool (ng z1), .slice A1 n1 c1]); refine (hs1.out _ _ _ _ (by exact P1D.out) (by omega)).mono ?_; rintro e w3 ⟨rfl, B3'⟩; have Y3 := YD.out.on B3'; have P2' := P2D.out.below B3'; obtain ⟨f0, f1, _⟩ := Y3.x1.at_; obtain ⟨k0, k1, _⟩ := Y3.x2.at_)
          | (go_at_call_of 38 (Value.agg #[.bool (ng z2), .slice A2 n2 c2]); refine (hs2.out _ _ _ _ (by exact P2') (by omega)).mono ?_; rintro e w4 ⟨rfl, B4'⟩; have Y4 := Y3.on B4'; obtain ⟨p0, p1, _⟩ := Y4.x1.at_; obtain ⟨q0, q1, _⟩ := Y4.x2.at_)
          | (go_at_call 127; refine (cmp_int _ _ _).mono ?_; rw [hc.out]; rintro e w5 ⟨rfl, hw⟩; subst hw))
      all_goals
        have Bz := Lib.hid Y4.bel
        clear Y3 Y4 f0 f1 k0 k1 p0 p1 q0 q1 B3' B4' P2'
        go_wp2
        go_ret
        exact ⟨rfl, Bz.out⟩
end Go.Proofs.YthlnhmdpimoojaaGreatDoor

namespace Go.Proofs.YthlnhmdpimoojaaGreatDoor
open Go.RowKit

end Go.Proofs.YthlnhmdpimoojaaGreatDoor

namespace Go.Proofs.YthlnhmdpimoojaaGreatDoor
open Go.RowKit

theorem res_from (W : World) (tmps : Array Value) (g : Nat) {b : Bool} {A : Option Addr} {n c : Nat} (ht : tmps.getD 2 undef = .pointer (some ⟨g, 0, none⟩)) (h : Bx W g b A n c) :
    (results Tryz.f78 tmps).run Tryz.prog W = .ok (.agg #[.bool b, .slice A n c]) W := by
  obtain ⟨c0, c1, _⟩ := h.at_
  have ht' : tmps[2]?.getD undef = .pointer (some ⟨g, 0, none⟩) := by rw [← ht]; simp [Array.getD_eq_getD_getElem?]
  simp [results, Tryz.results78, go_sem, ht', c0, c1]

theorem res_rfrom (W : World) (tmps : Array Value) (g : Nat) {b : Bool} {A : Option Addr} {n c : Nat} (ht : tmps.getD 2 undef = .pointer (some ⟨g, 0, none⟩)) (h : Bx W g b A n c) :
    (results Tryz.f47 tmps).run Tryz.prog W = .ok (.agg #[.bool b, .slice A n c]) W := by
  obtain ⟨c0, c1, _⟩ := h.at_
  have ht' : tmps[2]?.getD undef = .pointer (some ⟨g, 0, none⟩) := by rw [← ht]; simp [Array.getD_eq_getD_getElem?]
  simp [results, Tryz.results47, go_sem, ht', c0, c1]
theorem fromUint_i (z : Int) (v : Nat) (w : World) (hz : z = v) (hv : v < 18446744073709551616) : Calls Tryz.prog 97 #[.int .u64 z] w (RetN v w) := by
  subst hz; exact fromUint_any v w hv
theorem rfromUint_ii (z : Int) (v : Nat) (w : World) (hz : z = v) (hv : v < 18446744073709551616) : Calls Tryz.prog 66 #[.int .u64 z] w (RetN v w) := by
  subst hz; exact rfromUint_any v w hv
theorem neg_wrap {v : Int} (h0 : -9223372036854775808 ≤ v) (h1 : v < 0) : IntKind.u64.wrap (-(IntKind.u64.wrap v)) = (v.natAbs : Int) := by
  rw [IntKind.wrap_u64, IntKind.wrap_u64]; omega
theorem sg_neg {v : Int} (h : v < 0) : sg true v.natAbs = v := by
  have := sg_ng v; rwa [show ng v = true from decide_eq_true h] at this
theorem sg_pos {v : Int} (h : 0 ≤ v) : sg false v.natAbs = v := by
  have := sg_ng v; rwa [show ng v = false from decide_eq_false (by omega)] at this

set_option maxHeartbeats 2000000 in
theorem fromInt_any (v : Int) (w : World) (h0 : -9223372036854775808 ≤ v) (h1 : v ≤ 9223372036854775807) :
    Calls Tryz.prog 78 #[.int .i64 v] w (RetI v w) := by
  have X := Lib.hid (Bx.new w false none 0 0)
  have Bw := Lib.hid ((Below.refl w.heap.size w).alloc (Nat.le_refl _) (.cells #[.bool false, .slice none 0 0] 24))
  by_cases hv : v < 0
  · have hw := Lib.hid (neg_wrap h0 hv)
    have hs := Lib.hid (sg_neg hv)
    have hb : Hid (v.natAbs < 18446744073709551616) := by show v.natAbs < 18446744073709551616; omega
    have hfu := Lib.hid (fun W z (hz : z = ((v.natAbs : Nat) : Int)) => fromUint_i z v.natAbs W hz hb.out)
    clear hb
    go_enter Tryz.func78, Tryz.ntmps78
    go_wp2_with (go_at_call 97; refine (hfu.out _ _ (by first | exact hw.out | (rw [← hw.out]; congr 1))).mono ?_; rintro e w1 ⟨A1, n1, c1, rfl, Q1, B1⟩; refine Hid.out ?_)
    refine Lib.hid ?_
    have X1 := Lib.hid (X.out.bel B1)
    have Bw1 := Lib.hid (Bw.out.trans (B1.mono Bw.out.size))
    replace Q1 := Lib.hid Q1
    clear B1
    go_wp2_with (go_at_call 61; refine (signedI_any _ _ _ _ v.natAbs _ (by exact Q1.out)).mono ?_; rw [hs.out]; rintro e w2 ⟨A2, n2, c2, rfl, Q2, B2'⟩; refine Hid.out ?_)
    refine Lib.hid ?_
    have X2 := X1.out.bel B2'
    obtain ⟨a0, a1, a2, a3⟩ := X2.at_
    have X3 := Lib.hid (X2.put (ng v) A2 n2 c2)
    have Q3 := Lib.hid (Q2.put X2 (.bool (ng v)) (.slice A2 n2 c2))
    have Bz := Lib.hid (put_below (.bool (ng v)) (.slice A2 n2 c2) (Bw1.out.trans (B2'.mono Bw1.out.size)) (Nat.le_refl w.heap.size))
    clear X2 Q2 B2' hv
    go_wp2
    refine bodyPost_ret (res_from _ _ w.heap.size rfl X3.out) rfl ?_
    exact ret_I rfl Q3.out Bz.out
  · have hv0 : 0 ≤ v := by omega
    have hs := Lib.hid (sg_pos hv0)
    have hb : Hid (v.natAbs < 18446744073709551616) := by show v.natAbs < 18446744073709551616; omega
    have hw : Hid (v = ((v.natAbs : Nat) : Int)) := by show v = ((v.natAbs : Nat) : Int); omega
    have hw2 : Hid (IntKind.u64.wrap v = ((v.natAbs : Nat) : Int)) := by show IntKind.u64.wrap v = ((v.natAbs : Nat) : Int); rw [IntKind.wrap_u64]; omega
    have hfu := Lib.hid (fun W z (hz : z = ((v.natAbs : Nat) : Int)) => fromUint_i z v.natAbs W hz hb.out)
    clear hb
    go_enter Tryz.func78, Tryz.ntmps78
    go_wp2_with (go_at_call 97; refine (hfu.out _ _ (by first | exact hw.out | exact hw2.out)).mono ?_; rintro e w1 ⟨A1, n1, c1, rfl, Q1, B1⟩; refine Hid.out ?_)
    refine Lib.hid ?_
    have X1 := Lib.hid (X.out.bel B1)
    have Bw1 := Lib.hid (Bw.out.trans (B1.mono Bw.out.size))
    replace Q1 := Lib.hid Q1
    clear B1
    go_wp2_with (go_at_call 61; refine (signedI_any _ _ _ _ v.natAbs _ (by exact Q1.out)).mono ?_; rw [hs.out]; rintro e w2 ⟨A2, n2, c2, rfl, Q2, B2'⟩; refine Hid.out ?_)
    refine Lib.hid ?_
    have X2 := X1.out.bel B2'
    obtain ⟨a0, a1, a2, a3⟩ := X2.at_
    have X3 := Lib.hid (X2.put (ng v) A2 n2 c2)
    have Q3 := Lib.hid (Q2.put X2 (.bool (ng v)) (.slice A2 n2 c2))
    have Bz := Lib.hid (put_below (.bool (ng v)) (.slice A2 n2 c2) (Bw1.out.trans (B2'.mono Bw1.out.size)) (Nat.le_refl w.heap.size))
    clear X2 Q2 B2' hv
    go_wp2
    refine bodyPost_ret (res_from _ _ w.heap.size rfl X3.out) rfl ?_
    exact ret_I rfl Q3.out Bz.out

set_option maxHeartbeats 2000000 in
theorem rfromInt_any (v : Int) (w : World) (h0 : -9223372036854775808 ≤ v) (h1 : v ≤ 9223372036854775807) :
    Calls Tryz.prog 47 #[.int .i64 v] w (RetI v w) := by
  have X := Lib.hid (Bx.new w false none 0 0)
  have Bw := Lib.hid ((Below.refl w.heap.size w).alloc (Nat.le_refl _) (.cells #[.bool false, .slice none 0 0] 24))
  by_cases hv : v < 0
  · have hs := Lib.hid (sg_neg hv)
    obtain ⟨N, hN⟩ : ∃ N : Nat, v.natAbs = N + 1 := ⟨v.natAbs - 1, by omega⟩
    have hb : Hid (N < 18446744073709551616) := by show N < 18446744073709551616; omega
    have hw : Hid (-(v + 1) = ((N : Nat) : Int)) := by show -(v + 1) = ((N : Nat) : Int); omega
    have hw2 : Hid (IntKind.u64.wrap (-(v + 1)) = ((N : Nat) : Int)) := by show IntKind.u64.wrap (-(v + 1)) = ((N : Nat) : Int); rw [IntKind.wrap_u64]; omega
    have hfu := Lib.hid (fun W z (hz : z = ((N : Nat) : Int)) => rfromUint_ii z N W hz hb.out)
    have hl : Hid ((limbs N).length ≤ 2) := Lib.hid (len_of_lt (by have := hb.out; omega))
    clear hb
    replace hN := Lib.hid hN
    have g1 : v + 1 ≤ 0 := by omega
    have g2 : -9223372036854775807 ≤ v + 1 := by omega
    go_enter Tryz.func47, Tryz.ntmps47
    go_wp2_with (go_at_call 66; refine (hfu.out _ _ (by first | exact hw.out | exact hw2.out | (rw [← hw.out]; omega))).mono ?_; rintro e w1 ⟨A1, n1, c1, rfl, Q1, B1⟩; refine Hid.out ?_)
    refine Lib.hid ?_
    have hn1 : n1 ≤ 2 := by have := hl.out; have := Q1.len; omega
    have X1 := Lib.hid ((X.out.bel B1).alloc (.cells #[.int .u32 1] 38))
    have Bw1 := Lib.hid ((Bw.out.trans (B1.mono Bw.out.size)).alloc (Nat.le_trans Bw.out.size B1.size) (.cells #[.int .u32 1] 38))
    have ha := Lib.hid (radd_any A1 n1 c1 (limbs N) (some ⟨w1.heap.size, 0, none⟩) 1 1 [1] _ (Q1.alloc (.cells #[.int .u32 1] 38)) (lit1 w1 w1.heap.size 1 1 rfl rfl (by omega)) (by omega) (by omega))
    rw [num_limbs, show num [1] = 1 from by decide, ← hN.out] at ha
    clear Q1 B1
    go_wp2_with (go_at_call 64; refine ha.out.mono ?_; rintro e w2 ⟨A2, n2, c2, rfl, Q2, B2'⟩; refine Hid.out ?_)
    refine Lib.hid ?_
    replace X1 := Lib.hid (X1.out.bel B2')
    replace Bw1 := Lib.hid (Bw1.out.trans (B2'.mono Bw1.out.size))
    replace Q2 := Lib.hid Q2
    clear B2' ha
    go_wp2_with (go_at_call 92; refine (rsignedI_any _ _ _ _ v.natAbs _ (by exact Q2.out)).mono ?_; rw [hs.out]; rintro e w3 ⟨A3, n3, c3, rfl, Q3, B3'⟩; refine Hid.out ?_)
    refine Lib.hid ?_
    have X2 := X1.out.bel B3'
    obtain ⟨a0, a1, a2, a3⟩ := X2.at_
    have X3 := Lib.hid (X2.put (ng v) A3 n3 c3)
    have Q4 := Lib.hid (Q3.put X2 (.bool (ng v)) (.slice A3 n3 c3))
    have Bz := Lib.hid (put_below (.bool (ng v)) (.slice A3 n3 c3) (Bw1.out.trans (B3'.mono Bw1.out.size)) (Nat.le_refl w.heap.size))
    clear X2 Q3 B3' hv g1 g2
    go_wp2
    refine bodyPost_ret (res_rfrom _ _ w.heap.size rfl X3.out) rfl ?_
    exact ret_I rfl Q4.out Bz.out
  · have hv0 : 0 ≤ v := by omega
    have hs := Lib.hid (sg_pos hv0)
    have hb : Hid (v.natAbs < 18446744073709551616) := by show v.natAbs < 18446744073709551616; omega
    have hw : Hid (v = ((v.natAbs : Nat) : Int)) := by show v = ((v.natAbs : Nat) : Int); omega
    have hw2 : Hid (IntKind.u64.wrap v = ((v.natAbs : Nat) : Int)) := by show IntKind.u64.wrap v = ((v.natAbs : Nat) : Int); rw [IntKind.wrap_u64]; omega
    have hfu := Lib.hid (fun W z (hz : z = ((v.natAbs : Nat) : Int)) => rfromUint_ii z v.natAbs W hz hb.out)
    clear hb
    go_enter Tryz.func47, Tryz.ntmps47
    go_wp2_with (go_at_call 66; refine (hfu.out _ _ (by first | exact hw.out | exact hw2.out)).mono ?_; rintro e w1 ⟨A1, n1, c1, rfl, Q1, B1⟩; refine Hid.out ?_)
    refine Lib.hid ?_
    have X1 := Lib.hid (X.out.bel B1)
    have Bw1 := Lib.hid (Bw.out.trans (B1.mono Bw.out.size))
    replace Q1 := Lib.hid Q1
    clear B1
    go_wp2_with (go_at_call 92; refine (rsignedI_any _ _ _ _ v.natAbs _ (by exact Q1.out)).mono ?_; rw [hs.out]; rintro e w2 ⟨A2, n2, c2, rfl, Q2, B2'⟩; refine Hid.out ?_)
    refine Lib.hid ?_
    have X2 := X1.out.bel B2'
    obtain ⟨a0, a1, a2, a3⟩ := X2.at_
    have X3 := Lib.hid (X2.put (ng v) A2 n2 c2)
    have Q3 := Lib.hid (Q2.put X2 (.bool (ng v)) (.slice A2 n2 c2))
    have Bz := Lib.hid (put_below (.bool (ng v)) (.slice A2 n2 c2) (Bw1.out.trans (B2'.mono Bw1.out.size)) (Nat.le_refl w.heap.size))
    clear X2 Q2 B2' hv
    go_wp2
    refine bodyPost_ret (res_rfrom _ _ w.heap.size rfl X3.out) rfl ?_
    exact ret_I rfl Q3.out Bz.out
end Go.Proofs.YthlnhmdpimoojaaGreatDoor

namespace Go.Proofs.YthlnhmdpimoojaaGreatDoor
open Go.RowKit

end Go.Proofs.YthlnhmdpimoojaaGreatDoor
