/- Two; made's Mod; the ends of a root. -/
import Derived.Test.YtidhloliahfknaaGreatQVpz
import Derived.Test.YtidhloliahfknaaGreatQWqz
namespace Go.Proofs.YtidhloliahfknaaGreat
open Go.RowKit RQ
theorem lit_any {z : Nat} (hz : z < 4294967296) (h0 : 0 < z) (w : World) (t : Nat) : Rd (w.alloc (.cells #[.int .u32 (z : Int)] t)) (some ⟨w.heap.size, 0, none⟩) 1 1 (limbs z) := by
  have e : limbs z = [z] := by rw [limbs_pos h0, Nat.mod_eq_of_lt hz, Nat.div_eq_of_lt hz, limbs_zero]
  rw [e]
  refine ⟨rfl, Nat.le_refl _, fun x hx => by rw [List.mem_singleton.1 hx]; exact hz, .inr ⟨w.heap.size, 0, rfl, by simp, fun k hk => ?_⟩⟩
  obtain rfl : k = 0 := by omega
  rw [cell_of_row _ _ _ _ t (0, 0) (heap_alloc_new w _)]
  rfl
set_option maxHeartbeats 1000000 in
theorem mod65_any (v : Int) (w : World) (_ : -9223372036854775808 ≤ v) (_ : v ≤ 9223372036854775807) :
    Calls Tryz.prog 50 #[.int .i64 v, .int .i64 65] w fun e w' => ∃ k : Nat, k ≤ 64 ∧ e = .returned (.int .i64 (k : Int)) ∧ Below w.heap.size w w' := by
  have B := Lib.hid (Below.refl w.heap.size w)
  have b1 : -65 < v.tmod 65 := Int.lt_tmod_of_pos v (by decide)
  have b2 : v.tmod 65 < 65 := Int.tmod_lt_of_pos v (by decide)
  have w1' : IntKind.i64.wrap (v.tmod 65) = v.tmod 65 := IntWalk.i64_in _ (by omega)
  have w2' : IntKind.i64.wrap (v.tmod 65 + 65) = v.tmod 65 + 65 := IntWalk.i64_in _ (by omega)
  obtain ⟨r, hr⟩ : ∃ r, r = v.tmod 65 := ⟨_, rfl⟩
  rw [← hr] at w1' w2' b1 b2
  have hr' : v.tmod 65 = r := hr.symm
  by_cases hn : r < 0
  · obtain ⟨k, hk⟩ : ∃ k : Nat, (k : Int) = r + 65 := ⟨(r + 65).toNat, by omega⟩
    have hkb : Hid (k ≤ 64) := Lib.hid (by omega)
    have hg : decide (r < 0) = true := decide_eq_true hn
    rw [← hk] at w2'
    have hk' : r + 65 = (k : Int) := hk.symm
    clear hn b1 b2 hr hk
    go_enter Tryz.func50, Tryz.ntmps50
    go_wp2
    go_ret
    exact ⟨k, hkb.out, rfl, B.out⟩
  · obtain ⟨k, hk⟩ : ∃ k : Nat, (k : Int) = r := ⟨r.toNat, by omega⟩
    have hkb : Hid (k ≤ 64) := Lib.hid (by omega)
    have hg : decide (r < 0) = false := decide_eq_false hn
    subst hk
    clear hn b1 b2 hr w2'
    go_enter Tryz.func50, Tryz.ntmps50
    go_wp2
    go_ret
    exact ⟨k, hkb.out, rfl, B.out⟩
theorem res_two (W : World) (tmps : Array Value) (g t : Nat) {v0 v1 v2 : Value} (ht : tmps.getD 2 undef = .pointer (some ⟨g, 0, none⟩)) (h : Cb W g #[v0, v1, v2] t) :
    (results Tryz.f51 tmps).run Tryz.prog W = .ok (.agg #[v0, v1, v2]) W := by
  have c0 : W.cell? ⟨g, 0, none⟩ = some v0 := h.cell rfl
  have c1 : W.cell? ⟨g, 1, none⟩ = some v1 := h.cell rfl
  have c2 : W.cell? ⟨g, 2, none⟩ = some v2 := h.cell rfl
  have ht' : tmps[2]?.getD undef = .pointer (some ⟨g, 0, none⟩) := by rw [← ht]; simp [Array.getD_eq_getD_getElem?]
  simp [results, Tryz.results51, go_sem, ht', c0, c1, c2]

set_option maxRecDepth 100000 in
set_option maxHeartbeats 4000000 in
theorem two_any (k : Nat) (w : World) (hk : k ≤ 200) : Calls Tryz.prog 51 #[.int .i64 k] w (RetR (qz (2 ^ k)) w) := by
  have S := (St.new w).allocAt (w.heap.size) #[.bool false, .slice none 0 0, .slice none 0 0] 26 (noL3 _ _ _ _ _ _ _) (by simp)
  have R1 := lit_any (z := 1) (by decide) (by decide) (World.alloc w (.cells #[.bool false, .slice none 0 0, .slice none 0 0] 26)) 71
  rw [show (World.alloc w (.cells #[.bool false, .slice none 0 0, .slice none 0 0] 26)).heap.size = w.heap.size + 1 by simp] at R1
  have S := Lib.hid ((S.call ((Below.refl _ _).alloc (Nat.le_refl _) (.cells #[.int .u32 1] 71))).read R1)
  clear R1
  go_enter Tryz.func51, Tryz.ntmps51
  go_wp2
  go_loopw [3, 4] (fun ov iv wr => ∃ (i : Nat) (A : Option Addr) (n c : Nat), i ≤ k ∧ iv = .int .i64 i ∧ ov = .slice A n c ∧ St w wr [(w.heap.size, #[.bool false, .slice none 0 0, .slice none 0 0], 26)] [(A, n, c, limbs (2 ^ i))]) (fun _ iv _ => k - (intOf iv).toNat)
  case atStart => exact ⟨0, _, _, _, Nat.zero_le _, rfl, rfl, by rw [Nat.pow_zero]; exact S.out⟩
  case round =>
    clear S
    obtain ⟨i, A, n, c, hi, rfl, rfl, S⟩ := hrel
    have hn : n ≤ 10 := by have R := S.r 0 rfl; rw [← R.len]; exact limbs_len_le.2 (p2_lt (by omega))
    have hp : 2 ^ (i + 1) = 2 ^ i * 2 := Nat.pow_succ ..
    by_cases hlt : i < k
    · have hM : Hid (∀ W (g : Nat) (W0 : World), W = W0.alloc (.cells #[.int .u32 2] 71) → W0.heap.size = g → Rd W A n c (limbs (2 ^ i)) → Calls Tryz.prog 90 #[.slice A n c, .slice (some ⟨g, 0, none⟩) 1 1] W (RetN (2 ^ (i + 1)) W)) := Lib.hid fun W g W0 hW hg h => by
        subst hW; subst hg
        have := rmul_any A n c _ _ 1 1 _ _ h (lit_any (z := 2) (by decide) (by decide) W0 71) (by omega) (by decide)
        rwa [num_limbs, num_limbs, ← hp] at this
      have hlt' := Lib.hid hlt
      have hi' := Lib.hid hi
      replace hp := Lib.hid hp
      clear hi hlt
      have g1 : (i : Int) < (k : Int) := by have := hlt'.out; omega
      have S1 := Lib.hid (S.call ((Below.refl _ _).alloc (Nat.le_refl _) (.cells #[.int .u32 2] 71)))
      replace S := Lib.hid S
      replace hn := Lib.hid hn
      go_wp2_with fail
      refine (hM.out _ _ _ rfl (by simp) (S1.out.r 0 rfl)).mono ?_
      rintro e w3 ⟨A2, n2, c2, rfl, Q2, bb⟩
      have T := (S1.out.call bb).read Q2
      clear S S1 bb Q2
      have S := Lib.hid T
      clear T
      have hlt := hlt'.out
      go_wp2
      go_roundw
      case rel => exact ⟨i + 1, A2, n2, c2, by omega, by go_num, rfl, S.out.pick [0] [0] rfl (by decide) rfl⟩
      case measure => simp [intOf]; omega
    · obtain rfl : i = k := by omega
      obtain ⟨c0, c1, c2, f0, f1, f2⟩ := S.cf3 0 rfl
      have T := ((S.set 0 0 (.bool false) rfl (by nofun)).set 0 1 (.slice A n c) rfl (by nofun)).set 0 2 (.slice none 0 0) rfl (by nofun)
      clear S
      have S := Lib.hid T
      clear T hlt hi hp hn
      go_wp2
      refine bodyPost_ret (res_two _ _ (w.heap.size) 26 rfl (S.out.bk _ (List.mem_of_getElem? (i := 0) rfl)).1) rfl ?_
      exact ⟨A, n, c, none, 0, 0, by rw [qz_ng], qz_RR (S.out.r 0 rfl), S.out.bel⟩
theorem rtU_pos (k : Nat) : 0 < rtU k := Rat.inv_pos.2 ((qz_lt (a := 0)).2 (Nat.pow_pos (by decide)))
theorem rtU_eq (k : Nat) : rtU k * qz (2 ^ k) = 1 := Rat.inv_mul_cancel _ (fun h => by have := (qz_lt (a := 0)).2 (show 0 < 2 ^ k from Nat.pow_pos (by decide)); rw [h] at this; exact absurd this (by decide))
theorem rt_low {q : Rat} {k : Nat} (h : 0 ≤ q) : rtLo q k * rtLo q k ≤ q := by
  obtain ⟨a, _⟩ := isq_spec (rtN q k)
  have h1 : qz (rtN q k) ≤ q * qz (2 ^ (2 * k)) := by
    have := Rat.floor_le (q * qz (2 ^ (2 * k)))
    rw [rtN_floor h] at this; exact this
  have h2 := qz_le.2 a
  have p := rtU_eq k
  have pu := rtU_pos k
  have e : rtLo q k * rtLo q k = qz (isq (rtN q k) * isq (rtN q k)) * (rtU k * rtU k) := by unfold rtLo; rw [qz_mul]; grind
  rw [e]
  have h3 := Rat.mul_le_mul_of_nonneg_right (Rat.le_trans h2 h1) (Rat.mul_nonneg (Rat.le_of_lt pu) (Rat.le_of_lt pu))
  have e2 : q * qz (2 ^ (2 * k)) * (rtU k * rtU k) = q := by rw [show 2 * k = k + k by omega, Nat.pow_add, qz_mul]; grind
  rwa [e2] at h3
theorem rt_high {q : Rat} {k : Nat} (h : 0 ≤ q) : q < (rtLo q k + rtU k) * (rtLo q k + rtU k) := by
  obtain ⟨_, b⟩ := isq_spec (rtN q k)
  have h1 : q * qz (2 ^ (2 * k)) < qz (rtN q k + 1) := by
    have := Rat.lt_floor_add_one (q * qz (2 ^ (2 * k)))
    rw [rtN_floor h] at this; exact this
  have h2 : qz (rtN q k + 1) ≤ qz ((isq (rtN q k) + 1) * (isq (rtN q k) + 1)) := qz_le.2 (by omega)
  have p := rtU_eq k
  have pu := rtU_pos k
  have e : (rtLo q k + rtU k) * (rtLo q k + rtU k) = qz ((isq (rtN q k) + 1) * (isq (rtN q k) + 1)) * (rtU k * rtU k) := by
    unfold rtLo; rw [qz_mul, qz_add, show qz 1 = 1 from rfl]; grind
  rw [e]
  have h3 : q * qz (2 ^ (2 * k)) < qz ((isq (rtN q k) + 1) * (isq (rtN q k) + 1)) := by grind
  have h4 := Rat.mul_lt_mul_of_pos_right h3 (Rat.mul_pos pu pu)
  have e2 : q * qz (2 ^ (2 * k)) * (rtU k * rtU k) = q := by rw [show 2 * k = k + k by omega, Nat.pow_add, qz_mul]; grind
  rwa [e2] at h4
theorem rt_pos (q : Rat) (k : Nat) : 0 ≤ rtLo q k := Rat.mul_nonneg ((qz_le (a := 0)).2 (Nat.zero_le _)) (Rat.le_of_lt (rtU_pos k))
end Go.Proofs.YtidhloliahfknaaGreat
