/- The reference's one, over, Make and Same of rational. -/
import Derived.Test.YtlflaalefilplaaDoorM07
import Derived.Test.YtlflaalefilplaaDoorM06
import Derived.Test.YtlflaalefilplaaDoorM08
namespace Go.Proofs.YtlflaalefilplaaDoor
open Go.RowKit RQ

theorem one_row {ds : List Nat} {x : Nat} (h : ds.length = 1) (hx : ds.getD 0 0 = x) : is1 ds = decide (x = 1) := by
  match ds, h with
  | [y], _ => simp at hx; subst hx; unfold is1; rw [Bool.eq_iff_iff, beq_iff_eq, decide_eq_true_iff]; simp
theorem one_len {ds : List Nat} {n : Nat} (h : ds.length = n) (hn : n ≠ 1) : is1 ds = false := by
  unfold is1; rw [beq_eq_false_iff_ne]; rintro rfl; exact hn h.symm
set_option maxHeartbeats 1000000 in
theorem one_any (A : Option Addr) (n c : Nat) (ds : List Nat) (w : World) (R : Rd w A n c ds) :
    Calls Tryd.prog 60 #[.slice A n c] w fun e w' => e = .returned (.bool (is1 ds)) ∧ Below w.heap.size w w' := by
  have hl := R.len
  have B := Lib.hid (Below.refl w.heap.size w)
  by_cases hn : n = 1
  · subst hn
    obtain ⟨b, o, x, rfl, _, hx, hget, hc⟩ := R.at_ (k := 0) (by omega)
    rw [Nat.add_zero] at hc
    rw [one_row hl hget]
    by_cases h1 : x = 1
    · subst h1
      clear hget hx hl R
      go_enter Tryd.func60, Tryd.ntmps60
      go_wp2
      go_ret
      exact ⟨rfl, B.out⟩
    · have h2 : ((x : Int) == 1) = false := by rw [beq_eq_false_iff_ne]; omega
      rw [decide_eq_false h1]
      clear hget hx hl R h1
      go_enter Tryd.func60, Tryd.ntmps60
      go_wp2
      go_ret
      exact ⟨rfl, B.out⟩
  · rw [one_len hl hn]
    have h2 : ((n : Int) == 1) = false := by rw [beq_eq_false_iff_ne]; omega
    clear hl R hn
    go_enter Tryd.func60, Tryd.ntmps60
    go_wp2
    go_ret
    exact ⟨rfl, B.out⟩
theorem res_rover (W : World) (tmps : Array Value) (g t : Nat) {v0 v1 v2 : Value} (ht : tmps.getD 4 undef = .pointer (some ⟨g, 0, none⟩)) (h : Cb W g #[v0, v1, v2] t) :
    (results Tryd.f32 tmps).run Tryd.prog W = .ok (.agg #[v0, v1, v2]) W := by
  have c0 : W.cell? ⟨g, 0, none⟩ = some v0 := h.cell rfl
  have c1 : W.cell? ⟨g, 1, none⟩ = some v1 := h.cell rfl
  have c2 : W.cell? ⟨g, 2, none⟩ = some v2 := h.cell rfl
  have ht' : tmps[4]?.getD undef = .pointer (some ⟨g, 0, none⟩) := by rw [← ht]; simp [Array.getD_eq_getD_getElem?]
  simp [results, Tryd.results32, go_sem, ht', c0, c1, c2]

theorem gcd_len2 {u v : Int} {p : Nat} (hv : v ≠ 0) (h : (limbs v.natAbs).length ≤ p) : (limbs (Int.gcd u v)).length ≤ p := gcd_len hv (limbs_len_le.1 h)
theorem is1_den (q : Rat) : is1 (limbs q.den) = decide (q.den = 1) := by
  unfold is1; rw [Bool.eq_iff_iff, beq_iff_eq, decide_eq_true_iff, ← limbs_is1]
  exact ⟨fun h => limbs_inj h, fun h => by rw [h]⟩
set_option maxHeartbeats 8000000 in
theorem rover_any (u v : Int) (A : Option Addr) (n c : Nat) (A' : Option Addr) (n' c' : Nat) (w : World) (R1 : Rd w A n c (limbs u.natAbs)) (R2 : Rd w A' n' c' (limbs v.natAbs)) (hn : n ≤ 400) (hn' : n' ≤ 400) (hv : v ≠ 0) :
    Calls Tryd.prog 32 #[.agg #[.bool (ng u), .slice A n c], .agg #[.bool (ng v), .slice A' n' c']] w (RetR (Rat.divInt u v) w) := by
  have l1 : (limbs u.natAbs).length ≤ 400 := by rw [R1.len]; exact hn
  have l2 : (limbs v.natAbs).length ≤ 400 := by rw [R2.len]; exact hn'
  have hsg := fun W h => rsignI_any (ng v) A' n' c' (limbs v.natAbs) W h (by omega)
  rw [iv_z] at hsg
  have S : St w _ [(w.heap.size + 1 + 1, #[.bool false, .slice none 0 0, .slice none 0 0], 44), (w.heap.size + 1, #[.bool (ng v), .slice A' n' c'], 42), (w.heap.size, #[.bool (ng u), .slice A n c], 42)] [(A', n', c', limbs v.natAbs), (A, n, c, limbs u.natAbs)] := ((((((St.new w).read R1).read R2).allocAt (w.heap.size) #[.bool (ng u), .slice A n c] 42 (noL2 _ _ _ _) (by simp)).allocAt (w.heap.size + 1) #[.bool (ng v), .slice A' n' c'] 42 (noL2 _ _ _ _) (by simp)).allocAt (w.heap.size + 1 + 1) #[.bool false, .slice none 0 0, .slice none 0 0] 44 (noL3 _ _ _ _ _ _ _) (by simp))
  replace S := Lib.hid S
  clear R1 R2
  by_cases h : v < 0
  · have hgp : Hid (0 < Int.gcd (-u) (-v)) := Lib.hid (Nat.gcd_pos_of_pos_right _ (by omega))
    have l1 : (limbs (-u).natAbs).length ≤ 400 := by rw [Int.natAbs_neg]; exact l1
    have l2 : (limbs (-v).natAbs).length ≤ 400 := by rw [Int.natAbs_neg]; exact l2
    have hv1 : -v ≠ 0 := by omega
    have hgl : Hid ((limbs (Int.gcd (-u) (-v))).length ≤ 400) := Lib.hid (gcd_len2 hv1 l2)
    clear hv1
    have hv0 : Hid (0 < -v) := Lib.hid (by omega)
    rw [← Rat.neg_divInt_neg]
    rw [Int.sign_eq_neg_one_of_neg h] at hsg
    replace hsg := Lib.hid hsg
    have hnu : Hid (∀ W, Rd W A n c (limbs u.natAbs) → Calls Tryd.prog 57 #[.agg #[.bool (ng u), .slice A n c]] W (RetI (-u) W)) := Lib.hid fun W h => by have := rnegI_any (ng u) A n c _ W h (by omega); rwa [iv_z] at this
    have hnv : Hid (∀ W, Rd W A' n' c' (limbs v.natAbs) → Calls Tryd.prog 57 #[.agg #[.bool (ng v), .slice A' n' c']] W (RetI (-v) W)) := Lib.hid fun W h => by have := rnegI_any (ng v) A' n' c' _ W h (by omega); rwa [iv_z] at this
    clear h hn hn' hv
    replace l1 := Lib.hid l1
    replace l2 := Lib.hid l2
    go_enter Tryd.func32, Tryd.ntmps32
    go_wp2_with fail
    refine (hsg.out _ (S.out.r 0 rfl)).mono ?_
    rintro e w1 ⟨rfl, bb⟩
    have T := (S.out.call bb)
    clear bb S
    have S := T
    clear T
    have c_r0 := S.cl 0 0 rfl rfl
    have f_r0 := S.f 0 0 rfl
    have c_r1 := S.cl 0 1 rfl rfl
    have f_r1 := S.f 0 1 rfl
    have c_r2 := S.cl 0 2 rfl rfl
    have f_r2 := S.f 0 2 rfl
    have c_y0 := S.cl 1 0 rfl rfl
    have f_y0 := S.f 1 0 rfl
    have c_y1 := S.cl 1 1 rfl rfl
    have f_y1 := S.f 1 1 rfl
    have c_x0 := S.cl 2 0 rfl rfl
    have f_x0 := S.f 2 0 rfl
    have c_x1 := S.cl 2 1 rfl rfl
    have f_x1 := S.f 2 1 rfl
    have hz : w.heap.size + 1 + 1 < w1.heap.size := S.lt 0 rfl
    replace S := Lib.hid S
    clear hsg
    go_upto_if 14 with fail
    clear c_r0 f_r0 c_r1 f_r1 c_r2 f_r2 c_y0 f_y0 c_y1 f_y1 c_x0 f_x0 c_x1 f_x1 hz
    have S : St w _ [(w.heap.size + 1 + 1, #[.bool false, .slice none 0 0, .slice none 0 0], 44), (w.heap.size + 1, #[.bool (ng v), .slice A' n' c'], 42), (w.heap.size, #[.bool (ng u), .slice A n c], 42)] [(A', n', c', limbs v.natAbs), (A, n, c, limbs u.natAbs)] := S.out
    replace S := Lib.hid S
    go_cut [] (fun wx => ∃ A1 n1 c1 A2 n2 c2, St w wx [(w.heap.size + 1 + 1, #[.bool false, .slice none 0 0, .slice none 0 0], 44), (w.heap.size + 1, #[.bool (ng (-v)), .slice A2 n2 c2], 42), (w.heap.size, #[.bool (ng (-u)), .slice A1 n1 c1], 42)] [(A2, n2, c2, limbs (-v).natAbs), (A1, n1, c1, limbs (-u).natAbs), (A', n', c', limbs v.natAbs), (A, n, c, limbs u.natAbs)])
    case first =>
      go_upto_region 2 with fail
      have d_x0 := St.cl (S.out) 2 0 rfl rfl
      have d_x1 := St.cl (S.out) 2 1 rfl rfl
      have d_y0 := St.cl (S.out) 1 0 rfl rfl
      have d_y1 := St.cl (S.out) 1 1 rfl rfl
      have dz_x0 := St.f (S.out) 2 0 rfl
      have dz_x1 := St.f (S.out) 2 1 rfl
      have dz_y0 := St.f (S.out) 1 0 rfl
      have dz_y1 := St.f (S.out) 1 1 rfl
      have SD := Lib.hid (S.out.drew)
      go_region_with (first
        | (go_at_call_of 57 (Value.agg #[.bool (ng u), .slice A n c]); refine (hnu.out _ (SD.out.r 1 rfl)).mono ?_; rintro e w2 ⟨A1, n1, c1, rfl, Q1, bb0⟩; have S0 : St w w2 [(w.heap.size + 1 + 1, #[.bool false, .slice none 0 0, .slice none 0 0], 44), (w.heap.size + 1, #[.bool (ng v), .slice A' n' c'], 42), (w.heap.size, #[.bool (ng u), .slice A n c], 42)] [(A1, n1, c1, limbs (-u).natAbs), (A', n', c', limbs v.natAbs), (A, n, c, limbs u.natAbs)] := ((SD.out.call bb0).read Q1); have e0_y0 := St.cl (S0) 1 0 rfl rfl; have e0_y1 := St.cl (S0) 1 1 rfl rfl)
        | (go_at_call_of 57 (Value.agg #[.bool (ng v), .slice A' n' c']); refine (hnv.out _ (S0.r 1 rfl)).mono ?_; rintro e w3 ⟨A2, n2, c2, rfl, Q2, bb1⟩; have S1 : St w w3 [(w.heap.size + 1 + 1, #[.bool false, .slice none 0 0, .slice none 0 0], 44), (w.heap.size + 1, #[.bool (ng v), .slice A' n' c'], 42), (w.heap.size, #[.bool (ng u), .slice A n c], 42)] [(A2, n2, c2, limbs (-v).natAbs), (A1, n1, c1, limbs (-u).natAbs), (A', n', c', limbs v.natAbs), (A, n, c, limbs u.natAbs)] := ((S0.call bb1).read Q2); have e1_x0 := St.cl (S1) 2 0 rfl rfl; have e1_x1 := St.cl (S1) 2 1 rfl rfl; have e1_y0 := St.cl (S1) 1 0 rfl rfl; have e1_y1 := St.cl (S1) 1 1 rfl rfl; have e1z_x0 := St.f (S1) 2 0 rfl; have e1z_x1 := St.f (S1) 2 1 rfl; have e1z_y0 := St.f (S1) 1 0 rfl; have e1z_y1 := St.f (S1) 1 1 rfl))
      all_goals
        have SE := Lib.hid (((((S1.set 2 0 (.bool (ng (-u))) rfl (by nofun)).set 2 1 (.slice A1 n1 c1) rfl (by nofun)).set 1 0 (.bool (ng (-v))) rfl (by nofun)).set 1 1 (.slice A2 n2 c2) rfl (by nofun)))
        clear d_x0 d_x1 d_y0 d_y1 dz_x0 dz_x1 dz_y0 dz_y1 e0_y0 e0_y1 e1_x0 e1_x1 e1_y0 e1_y1 e1z_x0 e1z_x1 e1z_y0 e1z_y1
        go_wp2_with fail
        go_meet
        exact ⟨_, _, _, _, _, _, SE.out⟩
    case rest =>
      clear S
      obtain ⟨A1, n1, c1, A2, n2, c2, S⟩ := hcut
      have c_r0 := S.cl 0 0 rfl rfl
      have f_r0 := S.f 0 0 rfl
      have c_r1 := S.cl 0 1 rfl rfl
      have f_r1 := S.f 0 1 rfl
      have c_r2 := S.cl 0 2 rfl rfl
      have f_r2 := S.f 0 2 rfl
      have c_y0 := S.cl 1 0 rfl rfl
      have f_y0 := S.f 1 0 rfl
      have c_y1 := S.cl 1 1 rfl rfl
      have f_y1 := S.f 1 1 rfl
      have c_x0 := S.cl 2 0 rfl rfl
      have f_x0 := S.f 2 0 rfl
      have c_x1 := S.cl 2 1 rfl rfl
      have f_x1 := S.f 2 1 rfl
      have hz : w.heap.size + 1 + 1 < wc.heap.size := S.lt 0 rfl
      replace S := Lib.hid S
      have g1 : n1 ≤ 400 := by rw [← (S.out.r 1 rfl).len]; exact l1.out
      have g2 : n2 ≤ 400 := by rw [← (S.out.r 0 rfl).len]; exact l2.out
      clear hnu hnv l1 l2
      have hg : Hid (∀ W, Rd W A1 n1 c1 (limbs (-u).natAbs) → Rd W A2 n2 c2 (limbs (-v).natAbs) → Calls Tryd.prog 58 #[.agg #[.bool (ng (-u)), .slice A1 n1 c1], .agg #[.bool (ng (-v)), .slice A2 n2 c2]] W (RetN (Int.gcd (-u) (-v)) W)) := Lib.hid fun W q1 q2 => by
        have := rgcdI_any (ng (-u)) A1 n1 c1 _ (ng (-v)) A2 n2 c2 _ W q1 q2 (by omega) (by omega)
        rwa [iv_z, iv_z] at this
      have hd1 : Hid (∀ W A3 n3 c3, Rd W A1 n1 c1 (limbs (-u).natAbs) → Rd W A3 n3 c3 (limbs (Int.gcd (-u) (-v))) → Calls Tryd.prog 59 #[.agg #[.bool (ng (-u)), .slice A1 n1 c1], .agg #[.bool false, .slice A3 n3 c3]] W (RetD2 (Rat.divInt (-u) (-v)).num ((-u) % (Int.gcd (-u) (-v) : Int)) W)) := Lib.hid fun W A3 n3 c3 q1 q2 => by
        have l3 : n3 ≤ 400 := by rw [← q2.len]; exact hgl.out
        have := rdivI_any (ng (-u)) A1 n1 c1 _ false A3 n3 c3 _ W q1 q2 (by omega) (by omega) (by rw [iv_pos]; have := hgp.out; omega)
        rwa [iv_z, iv_pos, ← (divInt_pos (-u) hv0.out).1] at this
      have hd2 : Hid (∀ W A3 n3 c3, Rd W A2 n2 c2 (limbs (-v).natAbs) → Rd W A3 n3 c3 (limbs (Int.gcd (-u) (-v))) → Calls Tryd.prog 59 #[.agg #[.bool (ng (-v)), .slice A2 n2 c2], .agg #[.bool false, .slice A3 n3 c3]] W (RetD2 ((Rat.divInt (-u) (-v)).den : Int) ((-v) % (Int.gcd (-u) (-v) : Int)) W)) := Lib.hid fun W A3 n3 c3 q1 q2 => by
        have l3 : n3 ≤ 400 := by rw [← q2.len]; exact hgl.out
        have := rdivI_any (ng (-v)) A2 n2 c2 _ false A3 n3 c3 _ W q1 q2 (by omega) (by omega) (by rw [iv_pos]; have := hgp.out; omega)
        rwa [iv_z, iv_pos, ← (divInt_pos (-u) hv0.out).2] at this
      have hngd : Hid (ng ((Rat.divInt (-u) (-v)).den : Int) = false) := Lib.hid (decide_eq_false (by omega))
      have h1 := fun W A n c h => one_any A n c (limbs (Rat.divInt (-u) (-v)).den) W h
      rw [is1_den] at h1
      generalize Rat.divInt (-u) (-v) = q at *
      generalize (-u) % (Int.gcd (-u) (-v) : Int) = r1 at hd1
      generalize (-v) % (Int.gcd (-u) (-v) : Int) = r2 at hd2
      generalize Int.gcd (-u) (-v) = g at *
      clear g1 g2 hgp hgl hv0
      go_wp2_with fail
      refine (hg.out _ (S.out.r 1 rfl) (S.out.r 0 rfl)).mono ?_
      rintro e w5 ⟨A3, n3, c3, rfl, Q3, bb⟩
      have T := ((S.out.call bb).read Q3)
      clear bb S c_r0 f_r0 c_r1 f_r1 c_r2 f_r2 c_y0 f_y0 c_y1 f_y1 c_x0 f_x0 c_x1 f_x1 hz
      have S := T
      clear T
      have c_r0 := S.cl 0 0 rfl rfl
      have f_r0 := S.f 0 0 rfl
      have c_r1 := S.cl 0 1 rfl rfl
      have f_r1 := S.f 0 1 rfl
      have c_r2 := S.cl 0 2 rfl rfl
      have f_r2 := S.f 0 2 rfl
      have c_y0 := S.cl 1 0 rfl rfl
      have f_y0 := S.f 1 0 rfl
      have c_y1 := S.cl 1 1 rfl rfl
      have f_y1 := S.f 1 1 rfl
      have c_x0 := S.cl 2 0 rfl rfl
      have f_x0 := S.f 2 0 rfl
      have c_x1 := S.cl 2 1 rfl rfl
      have f_x1 := S.f 2 1 rfl
      have hz : w.heap.size + 1 + 1 < w5.heap.size := S.lt 0 rfl
      replace S := Lib.hid S
      clear Q3 hg
      have S : St w _ [(w5.heap.size, #[.bool false, .slice A3 n3 c3], 42), (w.heap.size + 1 + 1, #[.bool false, .slice none 0 0, .slice none 0 0], 44), (w.heap.size + 1, #[.bool (ng (-v)), .slice A2 n2 c2], 42), (w.heap.size, #[.bool (ng (-u)), .slice A1 n1 c1], 42)] [(A3, n3, c3, limbs g), (A2, n2, c2, limbs (-v).natAbs), (A1, n1, c1, limbs (-u).natAbs), (A', n', c', limbs v.natAbs), (A, n, c, limbs u.natAbs)] := (S.out.allocAt (w5.heap.size) #[.bool false, .slice A3 n3 c3] 42 (noL2 _ _ _ _) (by simp))
      have a_x0 := S.cl 3 0 rfl rfl
      have b_x0 := S.f 3 0 rfl
      have a_x1 := S.cl 3 1 rfl rfl
      have b_x1 := S.f 3 1 rfl
      have a_y0 := S.cl 2 0 rfl rfl
      have b_y0 := S.f 2 0 rfl
      have a_y1 := S.cl 2 1 rfl rfl
      have b_y1 := S.f 2 1 rfl
      replace S := Lib.hid S
      go_wp2_with fail
      refine (hd1.out _ _ _ _ (S.out.r 2 rfl) (S.out.r 0 rfl)).mono ?_
      rintro e w6 ⟨A4, n4, c4, A5, n5, c5, rfl, Q4, Q5, bb⟩
      have T := ((S.out.call bb).read Q4)
      clear bb S c_r0 f_r0 c_r1 f_r1 c_r2 f_r2 c_y0 f_y0 c_y1 f_y1 c_x0 f_x0 c_x1 f_x1 hz a_x0 b_x0 a_x1 b_x1 a_y0 b_y0 a_y1 b_y1
      have S := T
      clear T
      have c_g0 := S.cl 0 0 rfl rfl
      have f_g0 := S.f 0 0 rfl
      have c_g1 := S.cl 0 1 rfl rfl
      have f_g1 := S.f 0 1 rfl
      have c_r0 := S.cl 1 0 rfl rfl
      have f_r0 := S.f 1 0 rfl
      have c_r1 := S.cl 1 1 rfl rfl
      have f_r1 := S.f 1 1 rfl
      have c_r2 := S.cl 1 2 rfl rfl
      have f_r2 := S.f 1 2 rfl
      have c_y0 := S.cl 2 0 rfl rfl
      have f_y0 := S.f 2 0 rfl
      have c_y1 := S.cl 2 1 rfl rfl
      have f_y1 := S.f 2 1 rfl
      have c_x0 := S.cl 3 0 rfl rfl
      have f_x0 := S.f 3 0 rfl
      have c_x1 := S.cl 3 1 rfl rfl
      have f_x1 := S.f 3 1 rfl
      have hz : w5.heap.size < w6.heap.size := S.lt 0 rfl
      replace S := Lib.hid S
      clear Q4 Q5 hd1
      have S : St w _ [(w6.heap.size + 1, #[.bool (ng r1), .slice A5 n5 c5], 42), (w6.heap.size, #[.bool (ng q.num), .slice A4 n4 c4], 42), (w5.heap.size, #[.bool false, .slice A3 n3 c3], 42), (w.heap.size + 1 + 1, #[.bool false, .slice none 0 0, .slice none 0 0], 44), (w.heap.size + 1, #[.bool (ng (-v)), .slice A2 n2 c2], 42), (w.heap.size, #[.bool (ng (-u)), .slice A1 n1 c1], 42)] [(A4, n4, c4, limbs q.num.natAbs), (A3, n3, c3, limbs g), (A2, n2, c2, limbs (-v).natAbs), (A1, n1, c1, limbs (-u).natAbs), (A', n', c', limbs v.natAbs), (A, n, c, limbs u.natAbs)] := ((S.out.allocAt (w6.heap.size) #[.bool (ng q.num), .slice A4 n4 c4] 42 (noL2 _ _ _ _) (by simp)).allocAt (w6.heap.size + 1) #[.bool (ng r1), .slice A5 n5 c5] 42 (noL2 _ _ _ _) (by simp))
      have a_y0 := S.cl 4 0 rfl rfl
      have b_y0 := S.f 4 0 rfl
      have a_y1 := S.cl 4 1 rfl rfl
      have b_y1 := S.f 4 1 rfl
      have a_g0 := S.cl 2 0 rfl rfl
      have b_g0 := S.f 2 0 rfl
      have a_g1 := S.cl 2 1 rfl rfl
      have b_g1 := S.f 2 1 rfl
      replace S := Lib.hid S
      go_wp2_with fail
      refine (hd2.out _ _ _ _ (S.out.r 2 rfl) (S.out.r 1 rfl)).mono ?_
      rintro e w7 ⟨A6, n6, c6, A7, n7, c7, rfl, Q6, Q7, bb⟩
      have T := ((S.out.call bb).read Q6)
      clear bb S c_g0 f_g0 c_g1 f_g1 c_r0 f_r0 c_r1 f_r1 c_r2 f_r2 c_y0 f_y0 c_y1 f_y1 c_x0 f_x0 c_x1 f_x1 hz a_y0 b_y0 a_y1 b_y1 a_g0 b_g0 a_g1 b_g1
      have S := T
      clear T
      have c_o0 := S.cl 0 0 rfl rfl
      have f_o0 := S.f 0 0 rfl
      have c_o1 := S.cl 0 1 rfl rfl
      have f_o1 := S.f 0 1 rfl
      have c_n0 := S.cl 1 0 rfl rfl
      have f_n0 := S.f 1 0 rfl
      have c_n1 := S.cl 1 1 rfl rfl
      have f_n1 := S.f 1 1 rfl
      have c_g0 := S.cl 2 0 rfl rfl
      have f_g0 := S.f 2 0 rfl
      have c_g1 := S.cl 2 1 rfl rfl
      have f_g1 := S.f 2 1 rfl
      have c_r0 := S.cl 3 0 rfl rfl
      have f_r0 := S.f 3 0 rfl
      have c_r1 := S.cl 3 1 rfl rfl
      have f_r1 := S.f 3 1 rfl
      have c_r2 := S.cl 3 2 rfl rfl
      have f_r2 := S.f 3 2 rfl
      have c_y0 := S.cl 4 0 rfl rfl
      have f_y0 := S.f 4 0 rfl
      have c_y1 := S.cl 4 1 rfl rfl
      have f_y1 := S.f 4 1 rfl
      have c_x0 := S.cl 5 0 rfl rfl
      have f_x0 := S.f 5 0 rfl
      have c_x1 := S.cl 5 1 rfl rfl
      have f_x1 := S.f 5 1 rfl
      have hz : w6.heap.size + 1 < w7.heap.size := S.lt 0 rfl
      replace S := Lib.hid S
      clear Q6 Q7 hd2
      rw [hngd.out]
      have S : St w _ [(w7.heap.size + 1, #[.bool (ng r2), .slice A7 n7 c7], 42), (w7.heap.size, #[.bool false, .slice A6 n6 c6], 42), (w6.heap.size + 1, #[.bool (ng r1), .slice A5 n5 c5], 42), (w6.heap.size, #[.bool (ng q.num), .slice A4 n4 c4], 42), (w5.heap.size, #[.bool false, .slice A3 n3 c3], 42), (w.heap.size + 1 + 1, #[.bool false, .slice none 0 0, .slice none 0 0], 44), (w.heap.size + 1, #[.bool (ng (-v)), .slice A2 n2 c2], 42), (w.heap.size, #[.bool (ng (-u)), .slice A1 n1 c1], 42)] [(A6, n6, c6, limbs q.den), (A4, n4, c4, limbs q.num.natAbs), (A3, n3, c3, limbs g), (A2, n2, c2, limbs (-v).natAbs), (A1, n1, c1, limbs (-u).natAbs), (A', n', c', limbs v.natAbs), (A, n, c, limbs u.natAbs)] := ((S.out.allocAt (w7.heap.size) #[.bool false, .slice A6 n6 c6] 42 (noL2 _ _ _ _) (by simp)).allocAt (w7.heap.size + 1) #[.bool (ng r2), .slice A7 n7 c7] 42 (noL2 _ _ _ _) (by simp))
      have a_n0 := S.cl 3 0 rfl rfl
      have b_n0 := S.f 3 0 rfl
      have a_n1 := S.cl 3 1 rfl rfl
      have b_n1 := S.f 3 1 rfl
      replace S := Lib.hid S
      by_cases hd : q.den = 1
      · rw [decide_eq_true hd] at h1
        replace h1 := Lib.hid h1
        have e1 := Lib.hid (dn_nil.2 hd)
        clear hd
        go_wp2_with fail
        refine (h1.out _ _ _ _ (S.out.r 0 rfl)).mono ?_
        rintro e w8 ⟨rfl, bb⟩
        have T := (S.out.call bb)
        clear bb S c_o0 f_o0 c_o1 f_o1 c_n0 f_n0 c_n1 f_n1 c_g0 f_g0 c_g1 f_g1 c_r0 f_r0 c_r1 f_r1 c_r2 f_r2 c_y0 f_y0 c_y1 f_y1 c_x0 f_x0 c_x1 f_x1 hz a_n0 b_n0 a_n1 b_n1
        have S := T
        clear T
        have c_p0 := S.cl 0 0 rfl rfl
        have f_p0 := S.f 0 0 rfl
        have c_p1 := S.cl 0 1 rfl rfl
        have f_p1 := S.f 0 1 rfl
        have c_d0 := S.cl 1 0 rfl rfl
        have f_d0 := S.f 1 0 rfl
        have c_d1 := S.cl 1 1 rfl rfl
        have f_d1 := S.f 1 1 rfl
        have c_o0 := S.cl 2 0 rfl rfl
        have f_o0 := S.f 2 0 rfl
        have c_o1 := S.cl 2 1 rfl rfl
        have f_o1 := S.f 2 1 rfl
        have c_n0 := S.cl 3 0 rfl rfl
        have f_n0 := S.f 3 0 rfl
        have c_n1 := S.cl 3 1 rfl rfl
        have f_n1 := S.f 3 1 rfl
        have c_g0 := S.cl 4 0 rfl rfl
        have f_g0 := S.f 4 0 rfl
        have c_g1 := S.cl 4 1 rfl rfl
        have f_g1 := S.f 4 1 rfl
        have c_r0 := S.cl 5 0 rfl rfl
        have f_r0 := S.f 5 0 rfl
        have c_r1 := S.cl 5 1 rfl rfl
        have f_r1 := S.f 5 1 rfl
        have c_r2 := S.cl 5 2 rfl rfl
        have f_r2 := S.f 5 2 rfl
        have c_y0 := S.cl 6 0 rfl rfl
        have f_y0 := S.f 6 0 rfl
        have c_y1 := S.cl 6 1 rfl rfl
        have f_y1 := S.f 6 1 rfl
        have c_x0 := S.cl 7 0 rfl rfl
        have f_x0 := S.f 7 0 rfl
        have c_x1 := S.cl 7 1 rfl rfl
        have f_x1 := S.f 7 1 rfl
        have hz : w7.heap.size + 1 < w8.heap.size := S.lt 0 rfl
        replace S := Lib.hid S
        have S : St w _ [(w7.heap.size + 1, #[.bool (ng r2), .slice A7 n7 c7], 42), (w7.heap.size, #[.bool false, .slice none 0 0], 42), (w6.heap.size + 1, #[.bool (ng r1), .slice A5 n5 c5], 42), (w6.heap.size, #[.bool (ng q.num), .slice A4 n4 c4], 42), (w5.heap.size, #[.bool false, .slice A3 n3 c3], 42), (w.heap.size + 1 + 1, #[.bool false, .slice none 0 0, .slice none 0 0], 44), (w.heap.size + 1, #[.bool (ng (-v)), .slice A2 n2 c2], 42), (w.heap.size, #[.bool (ng (-u)), .slice A1 n1 c1], 42)] [(A6, n6, c6, limbs q.den), (A4, n4, c4, limbs q.num.natAbs), (A3, n3, c3, limbs g), (A2, n2, c2, limbs (-v).natAbs), (A1, n1, c1, limbs (-u).natAbs), (A', n', c', limbs v.natAbs), (A, n, c, limbs u.natAbs)] := (S.out.set 1 1 (.slice none 0 0) rfl (by nofun))
        have a_n0 := S.cl 3 0 rfl rfl
        have b_n0 := S.f 3 0 rfl
        have a_n1 := S.cl 3 1 rfl rfl
        have b_n1 := S.f 3 1 rfl
        have a_r0 := S.cl 5 0 rfl rfl
        have b_r0 := S.f 5 0 rfl
        have a_r1 := S.cl 5 1 rfl rfl
        have b_r1 := S.f 5 1 rfl
        have a_r2 := S.cl 5 2 rfl rfl
        have b_r2 := S.f 5 2 rfl
        have a_d0 := S.cl 1 0 rfl rfl
        have b_d0 := S.f 1 0 rfl
        have a_d1 := S.cl 1 1 rfl rfl
        have b_d1 := S.f 1 1 rfl
        replace S := Lib.hid S
        have S : St w _ [(w7.heap.size + 1, #[.bool (ng r2), .slice A7 n7 c7], 42), (w7.heap.size, #[.bool false, .slice none 0 0], 42), (w6.heap.size + 1, #[.bool (ng r1), .slice A5 n5 c5], 42), (w6.heap.size, #[.bool (ng q.num), .slice A4 n4 c4], 42), (w5.heap.size, #[.bool false, .slice A3 n3 c3], 42), (w.heap.size + 1 + 1, #[.bool (ng q.num), .slice A4 n4 c4, .slice none 0 0], 44), (w.heap.size + 1, #[.bool (ng (-v)), .slice A2 n2 c2], 42), (w.heap.size, #[.bool (ng (-u)), .slice A1 n1 c1], 42)] [(A6, n6, c6, limbs q.den), (A4, n4, c4, limbs q.num.natAbs), (A3, n3, c3, limbs g), (A2, n2, c2, limbs (-v).natAbs), (A1, n1, c1, limbs (-u).natAbs), (A', n', c', limbs v.natAbs), (A, n, c, limbs u.natAbs)] := (((S.out.set 5 0 (.bool (ng q.num)) rfl (by nofun)).set 5 1 (.slice A4 n4 c4) rfl (by nofun)).set 5 2 (.slice none 0 0) rfl (by nofun))
        replace S := Lib.hid S
        go_wp2
        refine bodyPost_ret (res_rover _ _ (w.heap.size + 1 + 1) 44 rfl (S.out.bk _ (List.mem_of_getElem? (i := 5) rfl)).1) rfl ?_
        exact ⟨_, _, _, _, _, _, rfl, ⟨S.out.r 1 rfl, by rw [e1.out]; exact Rd.nil_ _ _ _⟩, S.out.bel⟩
      · rw [decide_eq_false hd] at h1
        replace h1 := Lib.hid h1
        have e1 : Hid (dn q = limbs q.den) := Lib.hid (by unfold dn; rw [if_neg hd])
        clear hd
        go_wp2_with fail
        refine (h1.out _ _ _ _ (S.out.r 0 rfl)).mono ?_
        rintro e w8 ⟨rfl, bb⟩
        have T := (S.out.call bb)
        clear bb S c_o0 f_o0 c_o1 f_o1 c_n0 f_n0 c_n1 f_n1 c_g0 f_g0 c_g1 f_g1 c_r0 f_r0 c_r1 f_r1 c_r2 f_r2 c_y0 f_y0 c_y1 f_y1 c_x0 f_x0 c_x1 f_x1 hz a_n0 b_n0 a_n1 b_n1
        have S := T
        clear T
        have c_p0 := S.cl 0 0 rfl rfl
        have f_p0 := S.f 0 0 rfl
        have c_p1 := S.cl 0 1 rfl rfl
        have f_p1 := S.f 0 1 rfl
        have c_d0 := S.cl 1 0 rfl rfl
        have f_d0 := S.f 1 0 rfl
        have c_d1 := S.cl 1 1 rfl rfl
        have f_d1 := S.f 1 1 rfl
        have c_o0 := S.cl 2 0 rfl rfl
        have f_o0 := S.f 2 0 rfl
        have c_o1 := S.cl 2 1 rfl rfl
        have f_o1 := S.f 2 1 rfl
        have c_n0 := S.cl 3 0 rfl rfl
        have f_n0 := S.f 3 0 rfl
        have c_n1 := S.cl 3 1 rfl rfl
        have f_n1 := S.f 3 1 rfl
        have c_g0 := S.cl 4 0 rfl rfl
        have f_g0 := S.f 4 0 rfl
        have c_g1 := S.cl 4 1 rfl rfl
        have f_g1 := S.f 4 1 rfl
        have c_r0 := S.cl 5 0 rfl rfl
        have f_r0 := S.f 5 0 rfl
        have c_r1 := S.cl 5 1 rfl rfl
        have f_r1 := S.f 5 1 rfl
        have c_r2 := S.cl 5 2 rfl rfl
        have f_r2 := S.f 5 2 rfl
        have c_y0 := S.cl 6 0 rfl rfl
        have f_y0 := S.f 6 0 rfl
        have c_y1 := S.cl 6 1 rfl rfl
        have f_y1 := S.f 6 1 rfl
        have c_x0 := S.cl 7 0 rfl rfl
        have f_x0 := S.f 7 0 rfl
        have c_x1 := S.cl 7 1 rfl rfl
        have f_x1 := S.f 7 1 rfl
        have hz : w7.heap.size + 1 < w8.heap.size := S.lt 0 rfl
        replace S := Lib.hid S
        have S : St w _ [(w7.heap.size + 1, #[.bool (ng r2), .slice A7 n7 c7], 42), (w7.heap.size, #[.bool false, .slice A6 n6 c6], 42), (w6.heap.size + 1, #[.bool (ng r1), .slice A5 n5 c5], 42), (w6.heap.size, #[.bool (ng q.num), .slice A4 n4 c4], 42), (w5.heap.size, #[.bool false, .slice A3 n3 c3], 42), (w.heap.size + 1 + 1, #[.bool (ng q.num), .slice A4 n4 c4, .slice A6 n6 c6], 44), (w.heap.size + 1, #[.bool (ng (-v)), .slice A2 n2 c2], 42), (w.heap.size, #[.bool (ng (-u)), .slice A1 n1 c1], 42)] [(A6, n6, c6, limbs q.den), (A4, n4, c4, limbs q.num.natAbs), (A3, n3, c3, limbs g), (A2, n2, c2, limbs (-v).natAbs), (A1, n1, c1, limbs (-u).natAbs), (A', n', c', limbs v.natAbs), (A, n, c, limbs u.natAbs)] := (((S.out.set 5 0 (.bool (ng q.num)) rfl (by nofun)).set 5 1 (.slice A4 n4 c4) rfl (by nofun)).set 5 2 (.slice A6 n6 c6) rfl (by nofun))
        replace S := Lib.hid S
        go_wp2
        refine bodyPost_ret (res_rover _ _ (w.heap.size + 1 + 1) 44 rfl (S.out.bk _ (List.mem_of_getElem? (i := 5) rfl)).1) rfl ?_
        exact ⟨_, _, _, _, _, _, rfl, ⟨S.out.r 1 rfl, by rw [e1.out]; exact S.out.r 0 rfl⟩, S.out.bel⟩
  · have hgp : Hid (0 < Int.gcd u v) := Lib.hid (Nat.gcd_pos_of_pos_right _ (by omega))
    have hgl : Hid ((limbs (Int.gcd u v)).length ≤ 400) := Lib.hid (gcd_len2 (by omega) l2)
    have hv0 : Hid (0 < v) := Lib.hid (by omega)
    rw [Int.sign_eq_one_of_pos (by omega)] at hsg
    replace hsg := Lib.hid hsg
    clear h l1 l2
    have hg : Hid (∀ W, Rd W A n c (limbs u.natAbs) → Rd W A' n' c' (limbs v.natAbs) → Calls Tryd.prog 58 #[.agg #[.bool (ng u), .slice A n c], .agg #[.bool (ng v), .slice A' n' c']] W (RetN (Int.gcd u v) W)) := Lib.hid fun W q1 q2 => by
      have := rgcdI_any (ng u) A n c _ (ng v) A' n' c' _ W q1 q2 (by omega) (by omega)
      rwa [iv_z, iv_z] at this
    have hd1 : Hid (∀ W A3 n3 c3, Rd W A n c (limbs u.natAbs) → Rd W A3 n3 c3 (limbs (Int.gcd u v)) → Calls Tryd.prog 59 #[.agg #[.bool (ng u), .slice A n c], .agg #[.bool false, .slice A3 n3 c3]] W (RetD2 (Rat.divInt u v).num (u % (Int.gcd u v : Int)) W)) := Lib.hid fun W A3 n3 c3 q1 q2 => by
      have l3 : n3 ≤ 400 := by rw [← q2.len]; exact hgl.out
      have := rdivI_any (ng u) A n c _ false A3 n3 c3 _ W q1 q2 (by omega) (by omega) (by rw [iv_pos]; have := hgp.out; omega)
      rwa [iv_z, iv_pos, ← (divInt_pos u hv0.out).1] at this
    have hd2 : Hid (∀ W A3 n3 c3, Rd W A' n' c' (limbs v.natAbs) → Rd W A3 n3 c3 (limbs (Int.gcd u v)) → Calls Tryd.prog 59 #[.agg #[.bool (ng v), .slice A' n' c'], .agg #[.bool false, .slice A3 n3 c3]] W (RetD2 ((Rat.divInt u v).den : Int) (v % (Int.gcd u v : Int)) W)) := Lib.hid fun W A3 n3 c3 q1 q2 => by
      have l3 : n3 ≤ 400 := by rw [← q2.len]; exact hgl.out
      have := rdivI_any (ng v) A' n' c' _ false A3 n3 c3 _ W q1 q2 (by omega) (by omega) (by rw [iv_pos]; have := hgp.out; omega)
      rwa [iv_z, iv_pos, ← (divInt_pos u hv0.out).2] at this
    have hngd : Hid (ng ((Rat.divInt u v).den : Int) = false) := Lib.hid (decide_eq_false (by omega))
    have h1 := fun W A n c h => one_any A n c (limbs (Rat.divInt u v).den) W h
    rw [is1_den] at h1
    generalize Rat.divInt u v = q at *
    generalize u % (Int.gcd u v : Int) = r1 at hd1
    generalize v % (Int.gcd u v : Int) = r2 at hd2
    generalize Int.gcd u v = g at *
    clear hn hn' hgp hgl hv0 hv
    go_enter Tryd.func32, Tryd.ntmps32
    go_wp2_with fail
    refine (hsg.out _ (S.out.r 0 rfl)).mono ?_
    rintro e w1 ⟨rfl, bb⟩
    have T := (S.out.call bb)
    clear bb S
    have S := T
    clear T
    have c_r0 := S.cl 0 0 rfl rfl
    have f_r0 := S.f 0 0 rfl
    have c_r1 := S.cl 0 1 rfl rfl
    have f_r1 := S.f 0 1 rfl
    have c_r2 := S.cl 0 2 rfl rfl
    have f_r2 := S.f 0 2 rfl
    have c_y0 := S.cl 1 0 rfl rfl
    have f_y0 := S.f 1 0 rfl
    have c_y1 := S.cl 1 1 rfl rfl
    have f_y1 := S.f 1 1 rfl
    have c_x0 := S.cl 2 0 rfl rfl
    have f_x0 := S.f 2 0 rfl
    have c_x1 := S.cl 2 1 rfl rfl
    have f_x1 := S.f 2 1 rfl
    have hz : w.heap.size + 1 + 1 < w1.heap.size := S.lt 0 rfl
    replace S := Lib.hid S
    clear hsg
    go_wp2_with fail
    refine (hg.out _ (S.out.r 1 rfl) (S.out.r 0 rfl)).mono ?_
    rintro e w2 ⟨A3, n3, c3, rfl, Q3, bb⟩
    have T := ((S.out.call bb).read Q3)
    clear bb S c_r0 f_r0 c_r1 f_r1 c_r2 f_r2 c_y0 f_y0 c_y1 f_y1 c_x0 f_x0 c_x1 f_x1 hz
    have S := T
    clear T
    have c_r0 := S.cl 0 0 rfl rfl
    have f_r0 := S.f 0 0 rfl
    have c_r1 := S.cl 0 1 rfl rfl
    have f_r1 := S.f 0 1 rfl
    have c_r2 := S.cl 0 2 rfl rfl
    have f_r2 := S.f 0 2 rfl
    have c_y0 := S.cl 1 0 rfl rfl
    have f_y0 := S.f 1 0 rfl
    have c_y1 := S.cl 1 1 rfl rfl
    have f_y1 := S.f 1 1 rfl
    have c_x0 := S.cl 2 0 rfl rfl
    have f_x0 := S.f 2 0 rfl
    have c_x1 := S.cl 2 1 rfl rfl
    have f_x1 := S.f 2 1 rfl
    have hz : w.heap.size + 1 + 1 < w2.heap.size := S.lt 0 rfl
    replace S := Lib.hid S
    clear Q3 hg
    have S : St w _ [(w2.heap.size, #[.bool false, .slice A3 n3 c3], 42), (w.heap.size + 1 + 1, #[.bool false, .slice none 0 0, .slice none 0 0], 44), (w.heap.size + 1, #[.bool (ng v), .slice A' n' c'], 42), (w.heap.size, #[.bool (ng u), .slice A n c], 42)] [(A3, n3, c3, limbs g), (A', n', c', limbs v.natAbs), (A, n, c, limbs u.natAbs)] := (S.out.allocAt (w2.heap.size) #[.bool false, .slice A3 n3 c3] 42 (noL2 _ _ _ _) (by simp))
    have a_x0 := S.cl 3 0 rfl rfl
    have b_x0 := S.f 3 0 rfl
    have a_x1 := S.cl 3 1 rfl rfl
    have b_x1 := S.f 3 1 rfl
    have a_y0 := S.cl 2 0 rfl rfl
    have b_y0 := S.f 2 0 rfl
    have a_y1 := S.cl 2 1 rfl rfl
    have b_y1 := S.f 2 1 rfl
    replace S := Lib.hid S
    go_wp2_with fail
    refine (hd1.out _ _ _ _ (S.out.r 2 rfl) (S.out.r 0 rfl)).mono ?_
    rintro e w3 ⟨A4, n4, c4, A5, n5, c5, rfl, Q4, Q5, bb⟩
    have T := ((S.out.call bb).read Q4)
    clear bb S c_r0 f_r0 c_r1 f_r1 c_r2 f_r2 c_y0 f_y0 c_y1 f_y1 c_x0 f_x0 c_x1 f_x1 hz a_x0 b_x0 a_x1 b_x1 a_y0 b_y0 a_y1 b_y1
    have S := T
    clear T
    have c_g0 := S.cl 0 0 rfl rfl
    have f_g0 := S.f 0 0 rfl
    have c_g1 := S.cl 0 1 rfl rfl
    have f_g1 := S.f 0 1 rfl
    have c_r0 := S.cl 1 0 rfl rfl
    have f_r0 := S.f 1 0 rfl
    have c_r1 := S.cl 1 1 rfl rfl
    have f_r1 := S.f 1 1 rfl
    have c_r2 := S.cl 1 2 rfl rfl
    have f_r2 := S.f 1 2 rfl
    have c_y0 := S.cl 2 0 rfl rfl
    have f_y0 := S.f 2 0 rfl
    have c_y1 := S.cl 2 1 rfl rfl
    have f_y1 := S.f 2 1 rfl
    have c_x0 := S.cl 3 0 rfl rfl
    have f_x0 := S.f 3 0 rfl
    have c_x1 := S.cl 3 1 rfl rfl
    have f_x1 := S.f 3 1 rfl
    have hz : w2.heap.size < w3.heap.size := S.lt 0 rfl
    replace S := Lib.hid S
    clear Q4 Q5 hd1
    have S : St w _ [(w3.heap.size + 1, #[.bool (ng r1), .slice A5 n5 c5], 42), (w3.heap.size, #[.bool (ng q.num), .slice A4 n4 c4], 42), (w2.heap.size, #[.bool false, .slice A3 n3 c3], 42), (w.heap.size + 1 + 1, #[.bool false, .slice none 0 0, .slice none 0 0], 44), (w.heap.size + 1, #[.bool (ng v), .slice A' n' c'], 42), (w.heap.size, #[.bool (ng u), .slice A n c], 42)] [(A4, n4, c4, limbs q.num.natAbs), (A3, n3, c3, limbs g), (A', n', c', limbs v.natAbs), (A, n, c, limbs u.natAbs)] := ((S.out.allocAt (w3.heap.size) #[.bool (ng q.num), .slice A4 n4 c4] 42 (noL2 _ _ _ _) (by simp)).allocAt (w3.heap.size + 1) #[.bool (ng r1), .slice A5 n5 c5] 42 (noL2 _ _ _ _) (by simp))
    have a_y0 := S.cl 4 0 rfl rfl
    have b_y0 := S.f 4 0 rfl
    have a_y1 := S.cl 4 1 rfl rfl
    have b_y1 := S.f 4 1 rfl
    have a_g0 := S.cl 2 0 rfl rfl
    have b_g0 := S.f 2 0 rfl
    have a_g1 := S.cl 2 1 rfl rfl
    have b_g1 := S.f 2 1 rfl
    replace S := Lib.hid S
    go_wp2_with fail
    refine (hd2.out _ _ _ _ (S.out.r 2 rfl) (S.out.r 1 rfl)).mono ?_
    rintro e w4 ⟨A6, n6, c6, A7, n7, c7, rfl, Q6, Q7, bb⟩
    have T := ((S.out.call bb).read Q6)
    clear bb S c_g0 f_g0 c_g1 f_g1 c_r0 f_r0 c_r1 f_r1 c_r2 f_r2 c_y0 f_y0 c_y1 f_y1 c_x0 f_x0 c_x1 f_x1 hz a_y0 b_y0 a_y1 b_y1 a_g0 b_g0 a_g1 b_g1
    have S := T
    clear T
    have c_o0 := S.cl 0 0 rfl rfl
    have f_o0 := S.f 0 0 rfl
    have c_o1 := S.cl 0 1 rfl rfl
    have f_o1 := S.f 0 1 rfl
    have c_n0 := S.cl 1 0 rfl rfl
    have f_n0 := S.f 1 0 rfl
    have c_n1 := S.cl 1 1 rfl rfl
    have f_n1 := S.f 1 1 rfl
    have c_g0 := S.cl 2 0 rfl rfl
    have f_g0 := S.f 2 0 rfl
    have c_g1 := S.cl 2 1 rfl rfl
    have f_g1 := S.f 2 1 rfl
    have c_r0 := S.cl 3 0 rfl rfl
    have f_r0 := S.f 3 0 rfl
    have c_r1 := S.cl 3 1 rfl rfl
    have f_r1 := S.f 3 1 rfl
    have c_r2 := S.cl 3 2 rfl rfl
    have f_r2 := S.f 3 2 rfl
    have c_y0 := S.cl 4 0 rfl rfl
    have f_y0 := S.f 4 0 rfl
    have c_y1 := S.cl 4 1 rfl rfl
    have f_y1 := S.f 4 1 rfl
    have c_x0 := S.cl 5 0 rfl rfl
    have f_x0 := S.f 5 0 rfl
    have c_x1 := S.cl 5 1 rfl rfl
    have f_x1 := S.f 5 1 rfl
    have hz : w3.heap.size + 1 < w4.heap.size := S.lt 0 rfl
    replace S := Lib.hid S
    clear Q6 Q7 hd2
    rw [hngd.out]
    have S : St w _ [(w4.heap.size + 1, #[.bool (ng r2), .slice A7 n7 c7], 42), (w4.heap.size, #[.bool false, .slice A6 n6 c6], 42), (w3.heap.size + 1, #[.bool (ng r1), .slice A5 n5 c5], 42), (w3.heap.size, #[.bool (ng q.num), .slice A4 n4 c4], 42), (w2.heap.size, #[.bool false, .slice A3 n3 c3], 42), (w.heap.size + 1 + 1, #[.bool false, .slice none 0 0, .slice none 0 0], 44), (w.heap.size + 1, #[.bool (ng v), .slice A' n' c'], 42), (w.heap.size, #[.bool (ng u), .slice A n c], 42)] [(A6, n6, c6, limbs q.den), (A4, n4, c4, limbs q.num.natAbs), (A3, n3, c3, limbs g), (A', n', c', limbs v.natAbs), (A, n, c, limbs u.natAbs)] := ((S.out.allocAt (w4.heap.size) #[.bool false, .slice A6 n6 c6] 42 (noL2 _ _ _ _) (by simp)).allocAt (w4.heap.size + 1) #[.bool (ng r2), .slice A7 n7 c7] 42 (noL2 _ _ _ _) (by simp))
    have a_n0 := S.cl 3 0 rfl rfl
    have b_n0 := S.f 3 0 rfl
    have a_n1 := S.cl 3 1 rfl rfl
    have b_n1 := S.f 3 1 rfl
    replace S := Lib.hid S
    by_cases hd : q.den = 1
    · rw [decide_eq_true hd] at h1
      replace h1 := Lib.hid h1
      have e1 := Lib.hid (dn_nil.2 hd)
      clear hd
      go_wp2_with fail
      refine (h1.out _ _ _ _ (S.out.r 0 rfl)).mono ?_
      rintro e w5 ⟨rfl, bb⟩
      have T := (S.out.call bb)
      clear bb S c_o0 f_o0 c_o1 f_o1 c_n0 f_n0 c_n1 f_n1 c_g0 f_g0 c_g1 f_g1 c_r0 f_r0 c_r1 f_r1 c_r2 f_r2 c_y0 f_y0 c_y1 f_y1 c_x0 f_x0 c_x1 f_x1 hz a_n0 b_n0 a_n1 b_n1
      have S := T
      clear T
      have c_p0 := S.cl 0 0 rfl rfl
      have f_p0 := S.f 0 0 rfl
      have c_p1 := S.cl 0 1 rfl rfl
      have f_p1 := S.f 0 1 rfl
      have c_d0 := S.cl 1 0 rfl rfl
      have f_d0 := S.f 1 0 rfl
      have c_d1 := S.cl 1 1 rfl rfl
      have f_d1 := S.f 1 1 rfl
      have c_o0 := S.cl 2 0 rfl rfl
      have f_o0 := S.f 2 0 rfl
      have c_o1 := S.cl 2 1 rfl rfl
      have f_o1 := S.f 2 1 rfl
      have c_n0 := S.cl 3 0 rfl rfl
      have f_n0 := S.f 3 0 rfl
      have c_n1 := S.cl 3 1 rfl rfl
      have f_n1 := S.f 3 1 rfl
      have c_g0 := S.cl 4 0 rfl rfl
      have f_g0 := S.f 4 0 rfl
      have c_g1 := S.cl 4 1 rfl rfl
      have f_g1 := S.f 4 1 rfl
      have c_r0 := S.cl 5 0 rfl rfl
      have f_r0 := S.f 5 0 rfl
      have c_r1 := S.cl 5 1 rfl rfl
      have f_r1 := S.f 5 1 rfl
      have c_r2 := S.cl 5 2 rfl rfl
      have f_r2 := S.f 5 2 rfl
      have c_y0 := S.cl 6 0 rfl rfl
      have f_y0 := S.f 6 0 rfl
      have c_y1 := S.cl 6 1 rfl rfl
      have f_y1 := S.f 6 1 rfl
      have c_x0 := S.cl 7 0 rfl rfl
      have f_x0 := S.f 7 0 rfl
      have c_x1 := S.cl 7 1 rfl rfl
      have f_x1 := S.f 7 1 rfl
      have hz : w4.heap.size + 1 < w5.heap.size := S.lt 0 rfl
      replace S := Lib.hid S
      have S : St w _ [(w4.heap.size + 1, #[.bool (ng r2), .slice A7 n7 c7], 42), (w4.heap.size, #[.bool false, .slice none 0 0], 42), (w3.heap.size + 1, #[.bool (ng r1), .slice A5 n5 c5], 42), (w3.heap.size, #[.bool (ng q.num), .slice A4 n4 c4], 42), (w2.heap.size, #[.bool false, .slice A3 n3 c3], 42), (w.heap.size + 1 + 1, #[.bool false, .slice none 0 0, .slice none 0 0], 44), (w.heap.size + 1, #[.bool (ng v), .slice A' n' c'], 42), (w.heap.size, #[.bool (ng u), .slice A n c], 42)] [(A6, n6, c6, limbs q.den), (A4, n4, c4, limbs q.num.natAbs), (A3, n3, c3, limbs g), (A', n', c', limbs v.natAbs), (A, n, c, limbs u.natAbs)] := (S.out.set 1 1 (.slice none 0 0) rfl (by nofun))
      have a_n0 := S.cl 3 0 rfl rfl
      have b_n0 := S.f 3 0 rfl
      have a_n1 := S.cl 3 1 rfl rfl
      have b_n1 := S.f 3 1 rfl
      have a_r0 := S.cl 5 0 rfl rfl
      have b_r0 := S.f 5 0 rfl
      have a_r1 := S.cl 5 1 rfl rfl
      have b_r1 := S.f 5 1 rfl
      have a_r2 := S.cl 5 2 rfl rfl
      have b_r2 := S.f 5 2 rfl
      have a_d0 := S.cl 1 0 rfl rfl
      have b_d0 := S.f 1 0 rfl
      have a_d1 := S.cl 1 1 rfl rfl
      have b_d1 := S.f 1 1 rfl
      replace S := Lib.hid S
      have S : St w _ [(w4.heap.size + 1, #[.bool (ng r2), .slice A7 n7 c7], 42), (w4.heap.size, #[.bool false, .slice none 0 0], 42), (w3.heap.size + 1, #[.bool (ng r1), .slice A5 n5 c5], 42), (w3.heap.size, #[.bool (ng q.num), .slice A4 n4 c4], 42), (w2.heap.size, #[.bool false, .slice A3 n3 c3], 42), (w.heap.size + 1 + 1, #[.bool (ng q.num), .slice A4 n4 c4, .slice none 0 0], 44), (w.heap.size + 1, #[.bool (ng v), .slice A' n' c'], 42), (w.heap.size, #[.bool (ng u), .slice A n c], 42)] [(A6, n6, c6, limbs q.den), (A4, n4, c4, limbs q.num.natAbs), (A3, n3, c3, limbs g), (A', n', c', limbs v.natAbs), (A, n, c, limbs u.natAbs)] := (((S.out.set 5 0 (.bool (ng q.num)) rfl (by nofun)).set 5 1 (.slice A4 n4 c4) rfl (by nofun)).set 5 2 (.slice none 0 0) rfl (by nofun))
      replace S := Lib.hid S
      go_wp2
      refine bodyPost_ret (res_rover _ _ (w.heap.size + 1 + 1) 44 rfl (S.out.bk _ (List.mem_of_getElem? (i := 5) rfl)).1) rfl ?_
      exact ⟨_, _, _, _, _, _, rfl, ⟨S.out.r 1 rfl, by rw [e1.out]; exact Rd.nil_ _ _ _⟩, S.out.bel⟩
    · rw [decide_eq_false hd] at h1
      replace h1 := Lib.hid h1
      have e1 : Hid (dn q = limbs q.den) := Lib.hid (by unfold dn; rw [if_neg hd])
      clear hd
      go_wp2_with fail
      refine (h1.out _ _ _ _ (S.out.r 0 rfl)).mono ?_
      rintro e w5 ⟨rfl, bb⟩
      have T := (S.out.call bb)
      clear bb S c_o0 f_o0 c_o1 f_o1 c_n0 f_n0 c_n1 f_n1 c_g0 f_g0 c_g1 f_g1 c_r0 f_r0 c_r1 f_r1 c_r2 f_r2 c_y0 f_y0 c_y1 f_y1 c_x0 f_x0 c_x1 f_x1 hz a_n0 b_n0 a_n1 b_n1
      have S := T
      clear T
      have c_p0 := S.cl 0 0 rfl rfl
      have f_p0 := S.f 0 0 rfl
      have c_p1 := S.cl 0 1 rfl rfl
      have f_p1 := S.f 0 1 rfl
      have c_d0 := S.cl 1 0 rfl rfl
      have f_d0 := S.f 1 0 rfl
      have c_d1 := S.cl 1 1 rfl rfl
      have f_d1 := S.f 1 1 rfl
      have c_o0 := S.cl 2 0 rfl rfl
      have f_o0 := S.f 2 0 rfl
      have c_o1 := S.cl 2 1 rfl rfl
      have f_o1 := S.f 2 1 rfl
      have c_n0 := S.cl 3 0 rfl rfl
      have f_n0 := S.f 3 0 rfl
      have c_n1 := S.cl 3 1 rfl rfl
      have f_n1 := S.f 3 1 rfl
      have c_g0 := S.cl 4 0 rfl rfl
      have f_g0 := S.f 4 0 rfl
      have c_g1 := S.cl 4 1 rfl rfl
      have f_g1 := S.f 4 1 rfl
      have c_r0 := S.cl 5 0 rfl rfl
      have f_r0 := S.f 5 0 rfl
      have c_r1 := S.cl 5 1 rfl rfl
      have f_r1 := S.f 5 1 rfl
      have c_r2 := S.cl 5 2 rfl rfl
      have f_r2 := S.f 5 2 rfl
      have c_y0 := S.cl 6 0 rfl rfl
      have f_y0 := S.f 6 0 rfl
      have c_y1 := S.cl 6 1 rfl rfl
      have f_y1 := S.f 6 1 rfl
      have c_x0 := S.cl 7 0 rfl rfl
      have f_x0 := S.f 7 0 rfl
      have c_x1 := S.cl 7 1 rfl rfl
      have f_x1 := S.f 7 1 rfl
      have hz : w4.heap.size + 1 < w5.heap.size := S.lt 0 rfl
      replace S := Lib.hid S
      have S : St w _ [(w4.heap.size + 1, #[.bool (ng r2), .slice A7 n7 c7], 42), (w4.heap.size, #[.bool false, .slice A6 n6 c6], 42), (w3.heap.size + 1, #[.bool (ng r1), .slice A5 n5 c5], 42), (w3.heap.size, #[.bool (ng q.num), .slice A4 n4 c4], 42), (w2.heap.size, #[.bool false, .slice A3 n3 c3], 42), (w.heap.size + 1 + 1, #[.bool (ng q.num), .slice A4 n4 c4, .slice A6 n6 c6], 44), (w.heap.size + 1, #[.bool (ng v), .slice A' n' c'], 42), (w.heap.size, #[.bool (ng u), .slice A n c], 42)] [(A6, n6, c6, limbs q.den), (A4, n4, c4, limbs q.num.natAbs), (A3, n3, c3, limbs g), (A', n', c', limbs v.natAbs), (A, n, c, limbs u.natAbs)] := (((S.out.set 5 0 (.bool (ng q.num)) rfl (by nofun)).set 5 1 (.slice A4 n4 c4) rfl (by nofun)).set 5 2 (.slice A6 n6 c6) rfl (by nofun))
      replace S := Lib.hid S
      go_wp2
      refine bodyPost_ret (res_rover _ _ (w.heap.size + 1 + 1) 44 rfl (S.out.bk _ (List.mem_of_getElem? (i := 5) rfl)).1) rfl ?_
      exact ⟨_, _, _, _, _, _, rfl, ⟨S.out.r 1 rfl, by rw [e1.out]; exact S.out.r 0 rfl⟩, S.out.bel⟩
end Go.Proofs.YtlflaalefilplaaDoor
namespace Go.Proofs.YtlflaalefilplaaDoor
open Go.RowKit RQ

set_option maxHeartbeats 4000000 in
theorem rsameR_true (q : Rat) (A : Option Addr) (n c : Nat) (D : Option Addr) (m d : Nat) (A' : Option Addr) (n' c' : Nat) (D' : Option Addr) (m' d' : Nat) (w : World) (h1 : RR w A n c D m d q) (h2 : RR w A' n' c' D' m' d' q) (hn : n ≤ 10000) (hm : m ≤ 10000) :
    Calls Tryd.prog 18 #[.agg #[.bool (ng q.num), .slice A n c, .slice D m d], .agg #[.bool (ng q.num), .slice A' n' c', .slice D' m' d']] w fun e w' => e = .returned (.bool true) ∧ Below w.heap.size w w' := by
  have R1 := h1.n
  have R2 := h1.d
  have R3 := h2.n
  have R4 := h2.d
  have hS := Lib.hid (fun W (p1 : Rd W A n c (limbs q.num.natAbs)) (p2 : Rd W A' n' c' (limbs q.num.natAbs)) => sameI_true q.num A n c A' n' c' W p1 p2 (by omega))
  have hT : Hid (∀ W, Rd W D m d (dn q) → Rd W D' m' d' (dn q) → Calls Tryd.prog 37 #[.slice D m d, .slice D' m' d'] W fun e w' => e = .returned (.bool true) ∧ Below W.heap.size W w') := Lib.hid fun W p1 p2 => (same_true D m d D' m' d' (dn q) W p1 p2 (by omega)).mono fun e w' h => by
    obtain ⟨he, k, hk⟩ := h
    refine ⟨he, ?_⟩; rw [hk]; exact below_drewN (Below.refl _ _) k
  clear h1 h2 hn hm
  have S : St w _ [(w.heap.size + 1, #[.bool (ng q.num), .slice A' n' c', .slice D' m' d'], 44), (w.heap.size, #[.bool (ng q.num), .slice A n c, .slice D m d], 44)] [(D', m', d', dn q), (A', n', c', limbs q.num.natAbs), (D, m, d, dn q), (A, n, c, limbs q.num.natAbs)] := (((((((St.new w).read R1).read R2).read R3).read R4).allocAt (w.heap.size) #[.bool (ng q.num), .slice A n c, .slice D m d] 44 (noL3 _ _ _ _ _ _ _) (by simp)).allocAt (w.heap.size + 1) #[.bool (ng q.num), .slice A' n' c', .slice D' m' d'] 44 (noL3 _ _ _ _ _ _ _) (by simp))
  replace S := Lib.hid S
  clear R1 R2 R3 R4
  go_enter Tryd.func18, Tryd.ntmps18
  go_wp2_with fail
  refine (hS.out _ (S.out.r 3 rfl) (S.out.r 1 rfl)).mono ?_
  rintro e w1 ⟨rfl, bb⟩
  have T := (S.out.call bb)
  clear bb S
  have S := T
  clear T
  have c_y0 := S.cl 0 0 rfl rfl
  have f_y0 := S.f 0 0 rfl
  have c_y1 := S.cl 0 1 rfl rfl
  have f_y1 := S.f 0 1 rfl
  have c_y2 := S.cl 0 2 rfl rfl
  have f_y2 := S.f 0 2 rfl
  have c_x0 := S.cl 1 0 rfl rfl
  have f_x0 := S.f 1 0 rfl
  have c_x1 := S.cl 1 1 rfl rfl
  have f_x1 := S.f 1 1 rfl
  have c_x2 := S.cl 1 2 rfl rfl
  have f_x2 := S.f 1 2 rfl
  have hz : w.heap.size + 1 < w1.heap.size := S.lt 0 rfl
  replace S := Lib.hid S
  go_wp2_with fail
  refine (hT.out _ (S.out.r 2 rfl) (S.out.r 0 rfl)).mono ?_
  rintro e w2 ⟨rfl, bb⟩
  have T := (S.out.call bb)
  clear bb S c_y0 f_y0 c_y1 f_y1 c_y2 f_y2 c_x0 f_x0 c_x1 f_x1 c_x2 f_x2 hz
  have S := T
  clear T
  have c_y0 := S.cl 0 0 rfl rfl
  have f_y0 := S.f 0 0 rfl
  have c_y1 := S.cl 0 1 rfl rfl
  have f_y1 := S.f 0 1 rfl
  have c_y2 := S.cl 0 2 rfl rfl
  have f_y2 := S.f 0 2 rfl
  have c_x0 := S.cl 1 0 rfl rfl
  have f_x0 := S.f 1 0 rfl
  have c_x1 := S.cl 1 1 rfl rfl
  have f_x1 := S.f 1 1 rfl
  have c_x2 := S.cl 1 2 rfl rfl
  have f_x2 := S.f 1 2 rfl
  have hz : w.heap.size + 1 < w2.heap.size := S.lt 0 rfl
  replace S := Lib.hid S
  have S : St w _ [(w.heap.size + 1, #[.bool (ng q.num), .slice A' n' c', .slice D' m' d'], 44), (w.heap.size, #[.bool (ng q.num), .slice A n c, .slice D m d], 44)] [(D', m', d', dn q), (A', n', c', limbs q.num.natAbs), (D, m, d, dn q), (A, n, c, limbs q.num.natAbs)] := S.out
  replace S := Lib.hid S
  go_wp2
  go_ret
  exact ⟨rfl, S.out.bel⟩
end Go.Proofs.YtlflaalefilplaaDoor
namespace Go.Proofs.YtlflaalefilplaaDoor
open Go.RowKit RQ

theorem dl_no {l : List UInt8} (h : allDig l = true) {c : UInt8} (hc : isDig c = false) : ∀ x ∈ l, x ≠ c := by
  intro x hx e
  subst e
  have := List.all_eq_true.1 h x hx
  rw [hc] at this; cases this
theorem hasB_no {l : List UInt8} {c : UInt8} (h : ∀ x ∈ l, x ≠ c) : hasB c l = false := by
  unfold hasB
  rw [Bool.eq_false_iff]
  intro hh
  have := List.contains_iff_mem.1 hh
  exact h c this rfl
theorem hasB_mid (l r : List UInt8) (c : UInt8) : hasB c (l ++ c :: r) = true := by
  unfold hasB; rw [List.contains_iff_mem]; simp
theorem bef_mid {l r : List UInt8} {c : UInt8} (h : ∀ x ∈ l, x ≠ c) : bef c (l ++ c :: r) = l ∧ aft c (l ++ c :: r) = r := by
  have hp : ∀ x ∈ l, (x != c) = true := fun x hx => by simpa using h x hx
  unfold bef aft
  rw [List.takeWhile_append_of_pos hp, List.dropWhile_append_of_pos hp]
  simp
theorem hasE_no {l : List UInt8} (h : allDig l = true) : hasE l = false := by
  unfold hasE
  rw [List.any_eq_false]
  intro x hx
  have hd := List.all_eq_true.1 h x hx
  unfold isE
  rw [Bool.not_eq_true, Bool.eq_false_iff]
  intro hh
  have hm := List.contains_iff_mem.1 hh
  simp at hm
  rcases hm with rfl | rfl <;> simp [isDig] at hd
theorem dec_ne (N : Nat) : Lib.decDigits N ≠ [] := by
  have := txt_pos N
  rw [txt_list] at this
  intro e; rw [e] at this; simp at this
theorem isDec_bs {N : Nat} (h : (Lib.decDigits N).length ≤ 4000) : isDec (bs (Lib.decDigits N)) = true := isDec_txt h
theorem ndec_bs {N : Nat} (h : (Lib.decDigits N).length ≤ 4000) : ndec (bs (Lib.decDigits N)) = N := by
  unfold ndec; rw [isDec_bs h, if_pos rfl]; exact (dec_all N).2
/-- The text without a sign. -/
def ubody (q : Rat) : List UInt8 := if q.den = 1 then Lib.decDigits q.num.natAbs else Lib.decDigits q.num.natAbs ++ 47 :: Lib.decDigits q.den
theorem qtxt_body (q : Rat) : qtxt q = bs ((if ng q.num = true then [45] else []) ++ ubody q) := by
  apply bs_inj
  rw [bs_list]
  have hi : (itxt q.num).data.toList = (if ng q.num = true then [45] else []) ++ Lib.decDigits q.num.natAbs := by
    unfold itxt
    split
    · rw [app_list, txt_list]
    · rw [txt_list]; rfl
  unfold qtxt ubody
  split
  · exact hi
  · rw [app_list, app_list, hi, itxt_nat, bs_list, txt_list]
    simp
theorem pref_45 {l : List UInt8} (h : ∀ c r, l = c :: r → c ≠ 45) : Lib.hasPrefix l [45] = false := by
  unfold Lib.hasPrefix
  cases l with
  | nil => rfl
  | cons c r =>
    have := h c r rfl
    simp [List.isPrefixOf]
    exact fun e => this e.symm
theorem dig_head {N : Nat} {r : List UInt8} {c : UInt8} {t : List UInt8} (h : Lib.decDigits N ++ r = c :: t) : isDig c = true := by
  cases hd : Lib.decDigits N with
  | nil => exact absurd hd (dec_ne N)
  | cons a b =>
    rw [hd] at h
    have hc : a = c := by injection h
    subst hc
    have := List.all_eq_true.1 (dec_all N).1 a (by rw [hd]; simp)
    exact this
theorem ubody_head (q : Rat) : ∀ c r, ubody q = c :: r → c ≠ 45 := by
  intro c r h e
  subst e
  have : isDig 45 = true := by
    unfold ubody at h
    split at h
    · exact dig_head (r := []) (by rw [List.append_nil]; exact h)
    · exact dig_head h
  simp [isDig] at this
theorem rest_q (q : Rat) : hm (qtxt q) = ng q.num ∧ rest (qtxt q) = bs (ubody q) := by
  have hp := pref_45 (ubody_head q)
  unfold hm rest Lib.trimPrefix
  rw [qtxt_body]
  cases hg : ng q.num
  · rw [if_neg (by simp)]
    have e : (bs ([] ++ ubody q)).data.toList = ubody q := rfl
    rw [e, hp]
    exact ⟨rfl, rfl⟩
  · rw [if_pos rfl]
    have e : (bs ([45] ++ ubody q)).data.toList = 45 :: ubody q := rfl
    have h1 : Lib.hasPrefix (45 :: ubody q) [45] = true := by unfold Lib.hasPrefix; simp [List.isPrefixOf]
    rw [e, h1]
    exact ⟨rfl, rfl⟩
theorem p1_q (q : Rat) (h1 : (Lib.decDigits q.num.natAbs).length ≤ 2000) (h2 : (Lib.decDigits q.den).length ≤ 2000) :
    p1ok (bs (ubody q)) = true ∧ p1q (bs (ubody q)) = Rat.divInt (q.num.natAbs : Int) (q.den : Int) := by
  have a1 := (dec_all q.num.natAbs).1
  have n47 := dl_no a1 (c := 47) (by decide)
  have n46 := dl_no a1 (c := 46) (by decide)
  unfold p1ok p1q
  rw [bs_list]
  by_cases hd : q.den = 1
  · have eb : ubody q = Lib.decDigits q.num.natAbs := by unfold ubody; rw [if_pos hd]
    rw [eb, hasB_no n47, if_neg (by simp), if_neg (by simp)]
    have hE := hasE_no a1
    have hM : pM (bs (Lib.decDigits q.num.natAbs)) = bs (Lib.decDigits q.num.natAbs) := by unfold pM; rw [bs_list, hE]; rfl
    have hB : pdB (bs (Lib.decDigits q.num.natAbs)) = bs (Lib.decDigits q.num.natAbs) := by unfold pdB; rw [bs_list, (index_no (hasB_no n46)).2]
    have hA : pdA (bs (Lib.decDigits q.num.natAbs)) = ⟨#[]⟩ := by unfold pdA; rw [bs_list, hasB_no n46]; rfl
    have hk : pdok (bs (Lib.decDigits q.num.natAbs)) = true := by unfold pdok; rw [hB, isDec_bs (by omega), bs_list, hasB_no n46]; rfl
    have hv : pdval (bs (Lib.decDigits q.num.natAbs)) = q.num.natAbs := by
      unfold pdval; rw [hk, if_pos rfl, hB, hA, bs_list]
      show dval (Lib.decDigits q.num.natAbs ++ []) = _
      rw [List.append_nil]; exact (dec_all _).2
    have hpl : pdpl (bs (Lib.decDigits q.num.natAbs)) = 0 := by unfold pdpl; rw [hk, if_pos rfl, hA]; rfl
    have hx : psx (bs (Lib.decDigits q.num.natAbs)) = 0 := by unfold psx; rw [bs_list, hE]; rfl
    have hok : psok (bs (Lib.decDigits q.num.natAbs)) = true := by unfold psok; rw [bs_list, hE, hM, hk]; rfl
    refine ⟨hok, ?_⟩
    unfold psq
    rw [hok, if_pos rfl, hM, hv, hpl, hx, hd]
    unfold qscale
    rw [if_pos (by decide)]
    show (((q.num.natAbs * 10 ^ 0 : Nat) : Int) : Rat) = _
    rw [Nat.pow_zero, Nat.mul_one]
    exact (over_one _).symm
  · have eb : ubody q = Lib.decDigits q.num.natAbs ++ 47 :: Lib.decDigits q.den := by unfold ubody; rw [if_neg hd]
    obtain ⟨b1, b2⟩ := bef_mid (r := Lib.decDigits q.den) n47
    have hk : fok (bs (Lib.decDigits q.num.natAbs)) (bs (Lib.decDigits q.den)) = true := by
      unfold fok; rw [isDec_bs (by omega), isDec_bs (by omega), ndec_bs (by omega)]
      have := q.den_nz
      simp [this]
    rw [eb, hasB_mid, if_pos rfl, if_pos rfl, b1, b2]
    refine ⟨hk, ?_⟩
    unfold fq
    rw [hk, if_pos rfl, ndec_bs (by omega), ndec_bs (by omega)]
theorem parse_back (q : Rat) (h1 : (Lib.decDigits q.num.natAbs).length ≤ 2000) (h2 : (Lib.decDigits q.den).length ≤ 2000) : pOk (qtxt q) = true ∧ pQ (qtxt q) = q := by
  obtain ⟨r1, r2⟩ := rest_q q
  obtain ⟨k1, k2⟩ := p1_q q h1 h2
  unfold pOk pQ
  rw [r1, r2, k1, k2]
  refine ⟨rfl, ?_⟩
  cases hg : ng q.num
  · have h0 : ¬ q.num < 0 := of_decide_eq_false (show decide (q.num < 0) = false from hg)
    rw [if_neg (by simp), show (q.num.natAbs : Int) = q.num by omega]
    exact over_eq q
  · have h0 : q.num < 0 := of_decide_eq_true (show decide (q.num < 0) = true from hg)
    rw [if_pos rfl, Rat.neg_divInt, show -(q.num.natAbs : Int) = q.num by omega]
    exact over_eq q
theorem asc_q (q : Rat) : Asc (qtxt q) := by
  rw [qtxt_body]
  refine asc_all ?_
  rw [bs_list, List.all_append]
  have hdig : ∀ l : List UInt8, allDig l = true → l.all (fun b => decide (b.toNat < 128)) = true := by
    intro l h
    rw [List.all_eq_true]
    intro x hx
    have := List.all_eq_true.1 h x hx
    simp [isDig] at this ⊢
    omega
  have e1 : (if ng q.num = true then [45] else ([] : List UInt8)).all (fun b => decide (b.toNat < 128)) = true := by split <;> decide
  rw [e1, Bool.true_and]
  unfold ubody
  split
  · exact hdig _ (dec_all _).1
  · rw [List.all_append, List.all_cons, hdig _ (dec_all _).1, hdig _ (dec_all _).1]; decide
theorem qtxt_size {q : Rat} (h : Rs q 8) : (qtxt q).size ≤ 300 ∧ (Lib.decDigits q.num.natAbs).length ≤ 81 ∧ (Lib.decDigits q.den).length ≤ 81 := by
  have a := small_bn h.n
  have b := small_bn h.d
  refine ⟨?_, a, b⟩
  rw [qtxt_body, bs_size, List.length_append]
  unfold ubody
  split <;> split <;> simp <;> omega
end Go.Proofs.YtlflaalefilplaaDoor
