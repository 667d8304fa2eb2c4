/- Contracts of the reference's limb, Add, Sub, times and Mul. -/
import Derived.Test.YtlflaalefilplaaDoorM01
import Derived.Deep.RegionHeld3
import Derived.RegionTactic
import Derived.Deep.RegionWith
namespace Go.Proofs.YtlflaalefilplaaDoor
open Go.RowKit

/-- A literal of one limb, 0 too. -/
theorem lit1 (w : World) (g d : Nat) (z : Int) (hg : g = w.heap.size) (hz : z = d) (hd : d < 4294967296) : Rd (w.alloc (.cells #[.int .u32 z] 77)) (some ⟨g, 0, none⟩) 1 1 [d] := by
  subst hg
  subst hz
  exact (Own.lit w [d] (by intro y hy; simp at hy; omega)).rd0 1 (by simp)

theorem limb_any (A : Option Addr) (n c : Nat) (xs : List Nat) (w : World) (i : Int) (k x : Nat) (h : Rd w A n c xs) (_ : n ≤ 100000) (hi : i = k) (hx : xs.getD k 0 = x) :
    Calls Tryd.prog 51 #[.slice A n c, .int .i64 i] w fun e w' => e = .returned (.int .u64 (x : Nat)) ∧ w = w' := by
  subst hi
  by_cases hk : k < n
  · obtain ⟨b, o, x', rfl, hb, hx', hxe, hc⟩ := h.at_ hk
    obtain rfl : x' = x := hxe.symm.trans hx
    have g1 : (0 : Int) ≤ (k : Int) := by omega
    have g2 : (k : Int) < (n : Int) := by omega
    clear h hx hxe
    go_enter Tryd.func51, Tryd.ntmps51
    go_wp2
    go_ret
    exact ⟨rfl, rfl⟩
  · obtain rfl : x = 0 := by rw [← hx]; exact getD_none (by rw [h.len]; omega)
    have g2 : (n : Int) ≤ (k : Int) := by omega
    clear h hx
    go_enter Tryd.func51, Tryd.ntmps51
    go_wp2
    go_ret
    exact ⟨rfl, rfl⟩

theorem radd_step {zs X Y : List Nat} {k cy x y : Nat} (hl : zs.length = k) (h : val zs + 4294967296 ^ k * cy = val (X.take k) + val (Y.take k)) (hx : X.getD k 0 = x) (hy : Y.getD k 0 = y) :
    val (zs ++ [(x + y + cy) % 4294967296]) + 4294967296 ^ (k + 1) * ((x + y + cy) / 4294967296) = val (X.take (k + 1)) + val (Y.take (k + 1)) := by
  rw [val_snoc, hl, val_take_succ_any X, val_take_succ_any Y, hx, hy, pow_mul_succ, Nat.add_assoc, ← Nat.mul_add, Nat.mod_add_div, Nat.mul_add, Nat.mul_add]
  omega

theorem radd_last {zs : List Nat} {x y n1 n2 k cy : Nat} (h1 : (limbs x).length = n1) (h2 : (limbs y).length = n2) (hk : k = max n1 n2 + 1)
    (h : val zs + 4294967296 ^ k * cy = val ((limbs x).take k) + val ((limbs y).take k)) : val zs = x + y := by
  rw [List.take_of_length_le (by omega), List.take_of_length_le (by omega), val_limbs, val_limbs] at h
  have a := lt_of_len h1
  have b := lt_of_len h2
  have a2 : 4294967296 ^ n1 ≤ 4294967296 ^ max n1 n2 := Nat.pow_le_pow_right (by omega) (by omega)
  have b2 : 4294967296 ^ n2 ≤ 4294967296 ^ max n1 n2 := Nat.pow_le_pow_right (by omega) (by omega)
  rcases Nat.eq_zero_or_pos cy with h0 | h0
  · subst h0; omega
  · have := Nat.mul_le_mul_left (4294967296 ^ k) h0
    rw [hk, Nat.pow_succ] at this
    rw [hk, Nat.pow_succ] at h
    omega

theorem own_ge {w : World} {base : Nat} {v : Value} {zs : List Nat} (h : Gr w base v zs) : ∀ k, v.ownBlock = some k → base ≤ k := fun k hk => (h.own.lt k hk).1

set_option maxHeartbeats 2000000 in
theorem radd_any (A : Option Addr) (n c : Nat) (xs : List Nat) (A' : Option Addr) (n' c' : Nat) (ys : List Nat) (w : World)
    (h1 : Rd w A n c xs) (h2 : Rd w A' n' c' ys) (hn : n ≤ 10000) (hn' : n' ≤ 10000) :
    Calls Tryd.prog 62 #[.slice A n c, .slice A' n' c'] w (RetN (num xs + num ys) w) := by
  replace h1 := Lib.hid h1
  replace h2 := Lib.hid h2
  go_enter Tryd.func62, Tryd.ntmps62
  go_wp2_with fail
  refine (take_any _ _ _ xs _ h1.out (by omega)).mono ?_
  rintro e w1 ⟨A1, n1, c1, rfl, R1, b1, l1⟩
  replace h2 := Lib.hid (h2.out.below b1)
  replace R1 := Lib.hid R1
  replace b1 := Lib.hid b1
  go_wp2_with fail
  refine (take_any _ _ _ ys _ h2.out (by omega)).mono ?_
  rintro e w2 ⟨A2, n2, c2, rfl, R2, b2, l2⟩
  replace R1 := Lib.hid (R1.out.below b2)
  replace R2 := Lib.hid R2
  replace b1 := Lib.hid (b1.out.trans (b2.mono b1.out.size))
  clear b2 h1 h2
  go_wp2
  go_loopw [5, 6, 7] (fun ov cv iv wr => ∃ (k cy : Nat) (zs : List Nat), k ≤ max n1 n2 + 1 ∧ iv = .int .i64 k ∧ cv = .int .u64 cy ∧ cy ≤ 1 ∧ zs.length = k ∧ Gr wr w2.heap.size ov zs ∧ Below w2.heap.size w2 wr ∧
      val zs + 4294967296 ^ k * cy = val ((limbs (num xs)).take k) + val ((limbs (num ys)).take k))
    (fun _ _ iv _ => max n1 n2 + 1 - (intOf iv).toNat)
  case atStart => exact ⟨0, 0, [], Nat.zero_le _, rfl, rfl, by omega, rfl, Gr.nil_ _ _, Below.refl _ _, by simp [val]⟩
  case round =>
    obtain ⟨k, cy, zs, hk, rfl, rfl, hcy, hl, hG, hB, hv⟩ := hrel
    replace hl := Lib.hid hl
    replace hG := Lib.hid hG
    replace hB := Lib.hid hB
    replace hv := Lib.hid hv
    by_cases hlt : k ≤ max n1 n2
    · obtain ⟨x1, hx1⟩ : ∃ x1, (limbs (num xs)).getD k 0 = x1 := ⟨_, rfl⟩
      obtain ⟨y1, hy1⟩ : ∃ y1, (limbs (num ys)).getD k 0 = y1 := ⟨_, rfl⟩
      have hx1b : x1 < 4294967296 := by rw [← hx1]; exact sm_get (sm_limbs _) k
      have hy1b : y1 < 4294967296 := by rw [← hy1]; exact sm_get (sm_limbs _) k
      replace hx1 := Lib.hid hx1
      replace hy1 := Lib.hid hy1
      go_wp2_with fail
      refine (limb_any _ _ _ _ _ _ k x1 (R1.out.below hB.out) (by omega) rfl hx1.out).mono ?_
      rintro e w' ⟨rfl, rfl⟩
      go_wp2_with fail
      refine (limb_any _ _ _ _ _ _ k y1 (R2.out.below hB.out) (by omega) rfl hy1.out).mono ?_
      rintro e w' ⟨rfl, rfl⟩
      go_wp2_with (at_builtin; refine wpList_append_u32 _ rfl (.tmp 31) (.tmp 34) rfl w2.heap.size _ zs rfl (hG.out.alloc _) ⟨wr.heap.size, 0, none⟩ 1 1 [(x1 + y1 + cy) % 4294967296] rfl (lit1 _ _ _ _ rfl ?c0 ?c3) ?c1 ?c2 ?_)
      case c0 => omega
      case c3 => omega
      case c1 => rw [hl.out]; omega
      case c2 => have := hB.out.size; simp; omega
      intro v' w' hG' hg
      have hB' := Lib.hid (Below.grown (hB.out.alloc hB.out.size _) hg (by have := hB.out.size; simp; omega) (own_ge hG.out))
      replace hG' := Lib.hid hG'
      clear hg
      go_wp2
      go_roundw
      case rel => exact ⟨k + 1, (x1 + y1 + cy) / 4294967296, _, by omega, by go_num, by go_num, by omega, by rw [List.length_append, hl.out]; rfl, hG'.out, hB'.out, radd_step hl.out hv.out hx1.out hy1.out⟩
      case measure => simp [intOf]; omega
    · have hke : k = max n1 n2 + 1 := by omega
      have hfin := Lib.hid (radd_last (n1 := n1) (n2 := n2) R1.out.len R2.out.len hke hv.out)
      obtain ⟨A3, c3, hv3, R3, _⟩ := hG.out.form
      subst hv3
      replace R3 := Lib.hid R3
      clear hke
      go_wp2_with fail
      refine (rtrim_any _ _ _ zs _ R3.out (by rw [hl.out]; omega)).mono ?_
      rintro e w' ⟨n', rfl, rfl, R⟩
      rw [hfin.out] at R
      replace R := Lib.hid R
      have hB' := Lib.hid (b1.out.trans (hB.out.mono b1.out.size))
      go_wp2
      go_ret
      exact ⟨_, _, _, rfl, R.out, hB'.out⟩

set_option maxHeartbeats 2000000 in
theorem rsub_lt (A : Option Addr) (n c : Nat) (xs : List Nat) (A' : Option Addr) (n' c' : Nat) (ys : List Nat) (w : World)
    (h1 : Rd w A n c xs) (h2 : Rd w A' n' c' ys) (hn : n ≤ 10000) (hn' : n' ≤ 10000) (hlt : num xs < num ys) :
    Calls Tryd.prog 63 #[.slice A n c, .slice A' n' c'] w fun e w' => e = .returned (.tuple #[.slice none 0 0, .bool false]) ∧ Below w.heap.size w w' := by
  replace h1 := Lib.hid h1
  replace h2 := Lib.hid h2
  replace hlt := Lib.hid hlt
  go_enter Tryd.func63, Tryd.ntmps63
  go_wp2_with fail
  refine (take_any _ _ _ xs _ h1.out (by omega)).mono ?_
  rintro e w1 ⟨A1, n1, c1, rfl, R1, b1, l1⟩
  replace h2 := Lib.hid (h2.out.below b1)
  replace R1 := Lib.hid R1
  replace b1 := Lib.hid b1
  go_wp2_with fail
  refine (take_any _ _ _ ys _ h2.out (by omega)).mono ?_
  rintro e w2 ⟨A2, n2, c2, rfl, R2, b2, l2⟩
  replace R1 := Lib.hid (R1.out.below b2)
  replace R2 := Lib.hid R2
  replace b1 := Lib.hid (b1.out.trans (b2.mono b1.out.size))
  clear b2 h1 h2
  go_wp2_with fail
  refine (rcmp_b _ _ _ _ _ _ _ _ _ R1.out R2.out (by omega) (by omega) (-1) (cmpi_lt (by have := hlt.out; omega))).mono ?_
  rintro e w3 ⟨rfl, b3⟩
  replace b1 := Lib.hid (b1.out.trans (b3.mono b1.out.size))
  clear b3
  go_wp2
  go_ret2
  exact ⟨rfl, b1.out⟩

theorem rsub_step {zs X Y : List Nat} {k br x y t d : Nat} (hl : zs.length = k) (h : val zs + val (Y.take k) = val (X.take k) + 4294967296 ^ k * br) (hx : X.getD k 0 = x) (hy : Y.getD k 0 = y)
    (ht : t + y + br = x + 4294967296) (hd : d = t % 4294967296) (hb : br ≤ 1) (hxb : x < 4294967296) :
    val (zs ++ [d]) + val (Y.take (k + 1)) = val (X.take (k + 1)) + 4294967296 ^ (k + 1) * (1 - t / 4294967296) := by
  rw [val_snoc, hl, val_take_succ_any X, val_take_succ_any Y, hx, hy, pow_mul_succ]
  have e : d + y + br = x + 4294967296 * (1 - t / 4294967296) := by omega
  have e2 : 4294967296 ^ k * (d + y + br) = 4294967296 ^ k * (x + 4294967296 * (1 - t / 4294967296)) := by rw [e]
  rw [Nat.mul_add, Nat.mul_add, Nat.mul_add] at e2
  omega

set_option maxHeartbeats 2000000 in
theorem rsub_ge (A : Option Addr) (n c : Nat) (xs : List Nat) (A' : Option Addr) (n' c' : Nat) (ys : List Nat) (w : World)
    (h1 : Rd w A n c xs) (h2 : Rd w A' n' c' ys) (hn : n ≤ 10000) (hn' : n' ≤ 10000) (hge : num ys ≤ num xs) :
    Calls Tryd.prog 63 #[.slice A n c, .slice A' n' c'] w fun e w' => ∃ A n c, e = .returned (.tuple #[.slice A n c, .bool true]) ∧ Rd w' A n c (limbs (num xs - num ys)) ∧ Below w.heap.size w w' := by
  replace h1 := Lib.hid h1
  replace h2 := Lib.hid h2
  replace hge := Lib.hid hge
  go_enter Tryd.func63, Tryd.ntmps63
  go_wp2_with fail
  refine (take_any _ _ _ xs _ h1.out (by omega)).mono ?_
  rintro e w1 ⟨A1, n1, c1, rfl, R1, b1, l1⟩
  replace h2 := Lib.hid (h2.out.below b1)
  replace R1 := Lib.hid R1
  replace b1 := Lib.hid b1
  go_wp2_with fail
  refine (take_any _ _ _ ys _ h2.out (by omega)).mono ?_
  rintro e w2 ⟨A2, n2, c2, rfl, R2, b2, l2⟩
  replace R1 := Lib.hid (R1.out.below b2)
  replace R2 := Lib.hid R2
  replace b1 := Lib.hid (b1.out.trans (b2.mono b1.out.size))
  clear b2 h1 h2
  obtain ⟨q, hq, hq0⟩ : ∃ q, cmpi (num xs) (num ys) = q ∧ 0 ≤ q := ⟨_, rfl, by unfold cmpi; have := hge.out; split; omega; split <;> omega⟩
  replace hq := Lib.hid hq
  have hq1 : decide (q < 0) = false := by simp; omega
  go_wp2_with fail
  refine (rcmp_b _ _ _ _ _ _ _ _ _ R1.out R2.out (by omega) (by omega) q hq.out).mono ?_
  rintro e w3 ⟨rfl, b3⟩
  replace R1 := Lib.hid (R1.out.below b3)
  replace R2 := Lib.hid (R2.out.below b3)
  replace b1 := Lib.hid (b1.out.trans (b3.mono b1.out.size))
  clear b3
  go_wp2
  go_loopw [6, 7, 8] (fun ov cv iv wr => ∃ (k br : Nat) (zs : List Nat), k ≤ n1 ∧ iv = .int .i64 k ∧ cv = .int .u64 br ∧ br ≤ 1 ∧ zs.length = k ∧ Gr wr w3.heap.size ov zs ∧ Below w3.heap.size w3 wr ∧
      val zs + val ((limbs (num ys)).take k) = val ((limbs (num xs)).take k) + 4294967296 ^ k * br)
    (fun _ _ iv _ => n1 - (intOf iv).toNat)
  case atStart => exact ⟨0, 0, [], Nat.zero_le _, rfl, rfl, by omega, rfl, Gr.nil_ _ _, Below.refl _ _, by simp [val]⟩
  case round =>
    obtain ⟨k, br, zs, hk, rfl, rfl, hbr, hl, hG, hB, hv⟩ := hrel
    replace hl := Lib.hid hl
    replace hG := Lib.hid hG
    replace hB := Lib.hid hB
    replace hv := Lib.hid hv
    by_cases hlt : k < n1
    · obtain ⟨x1, hx1⟩ : ∃ x1, (limbs (num xs)).getD k 0 = x1 := ⟨_, rfl⟩
      obtain ⟨y1, hy1⟩ : ∃ y1, (limbs (num ys)).getD k 0 = y1 := ⟨_, rfl⟩
      have hx1b : x1 < 4294967296 := by rw [← hx1]; exact sm_get (sm_limbs _) k
      have hy1b : y1 < 4294967296 := by rw [← hy1]; exact sm_get (sm_limbs _) k
      replace hx1 := Lib.hid hx1
      replace hy1 := Lib.hid hy1
      obtain ⟨t, ht⟩ : ∃ t, t + y1 + br = x1 + 4294967296 := ⟨x1 + 4294967296 - y1 - br, by omega⟩
      have htb : t ≤ 8589934591 := by omega
      have hst := rsub_step (zs := zs) (d := t % 4294967296) hl.out hv.out hx1.out hy1.out ht rfl hbr hx1b
      have hti : (x1 : Int) + 4294967296 - y1 - br = (t : Int) := by omega
      have hbd : t / 4294967296 ≤ 1 := by omega
      replace hst := Lib.hid hst
      clear ht
      go_wp2_with fail
      refine (limb_any _ _ _ _ _ _ k x1 (R1.out.below hB.out) (by omega) rfl hx1.out).mono ?_
      rintro e w' ⟨rfl, rfl⟩
      go_wp2_with fail
      refine (limb_any _ _ _ _ _ _ k y1 (R2.out.below hB.out) (by omega) rfl hy1.out).mono ?_
      rintro e w' ⟨rfl, rfl⟩
      go_wp2_with (at_builtin; refine wpList_append_u32 _ rfl (.tmp 34) (.tmp 37) rfl w3.heap.size _ zs rfl (hG.out.alloc _) ⟨wr.heap.size, 0, none⟩ 1 1 [t % 4294967296] rfl (lit1 _ _ _ _ rfl ?c0 ?c3) ?c1 ?c2 ?_)
      case c0 => omega
      case c3 => omega
      case c1 => rw [hl.out]; omega
      case c2 => have := hB.out.size; simp; omega
      intro v' w' hG' hg
      have hB' := Lib.hid (Below.grown (hB.out.alloc hB.out.size _) hg (by have := hB.out.size; simp; omega) (own_ge hG.out))
      replace hG' := Lib.hid hG'
      clear hg
      go_wp2
      go_roundw
      case rel => exact ⟨k + 1, 1 - t / 4294967296, _, by omega, by go_num, by go_num, by omega, by rw [List.length_append, hl.out]; rfl, hG'.out, hB'.out, hst.out⟩
      case measure => simp [intOf]; omega
    · obtain rfl : k = n1 := by omega
      have hzs : Sm zs := hG.out.sm
      have hfin := Lib.hid (sub_last hl.out hzs (by rw [List.take_of_length_le (by rw [hl.out]; omega)]; exact hv.out) R1.out.len hge.out)
      obtain ⟨A3, c3, hv3, R3, _⟩ := hG.out.form
      subst hv3
      replace R3 := Lib.hid R3
      clear hzs
      go_wp2_with fail
      refine (rtrim_any _ _ _ zs _ R3.out (by rw [hl.out]; omega)).mono ?_
      rintro e w' ⟨n', rfl, rfl, R⟩
      rw [hfin.out] at R
      replace R := Lib.hid R
      have hB' := Lib.hid (b1.out.trans (hB.out.mono b1.out.size))
      go_wp2
      go_ret2
      exact ⟨_, _, _, rfl, R.out, hB'.out⟩

end Go.Proofs.YtlflaalefilplaaDoor
namespace Go.Proofs.YtlflaalefilplaaDoor
open Go.RowKit

theorem times_step {zs X : List Nat} {b k cy x v t : Nat} (hl : zs.length = b + k) (h : val zs + 4294967296 ^ (b + k) * cy = 4294967296 ^ b * (v * val (X.take k))) (hx : X.getD k 0 = x) (ht : t = x * v + cy) :
    val (zs ++ [t % 4294967296]) + 4294967296 ^ (b + (k + 1)) * (t / 4294967296) = 4294967296 ^ b * (v * val (X.take (k + 1))) := by
  rw [val_snoc, hl, val_take_succ_any X, hx, show b + (k + 1) = b + k + 1 by omega, pow_mul_succ, Nat.add_assoc, ← Nat.mul_add, Nat.mod_add_div, ht]
  have e4 : 4294967296 ^ b * (v * (val (X.take k) + 4294967296 ^ k * x)) = 4294967296 ^ b * (v * val (X.take k)) + 4294967296 ^ (b + k) * (x * v) := by
    rw [Nat.mul_add, Nat.mul_add, Nat.pow_add]
    congr 1
    rw [Nat.mul_left_comm v, Nat.mul_assoc, Nat.mul_comm v x]
  rw [e4, Nat.mul_add, ← h]
  omega

theorem times_last {zs X : List Nat} {b n cy v : Nat} (hX : X.length = n) (hs : Sm X) (hv : v < 4294967296) (h : val zs + 4294967296 ^ (b + (n + 1)) * cy = 4294967296 ^ b * (v * val (X.take (n + 1)))) :
    val zs = val X * v * 4294967296 ^ b := by
  rw [List.take_of_length_le (by omega)] at h
  have hx := val_lt hs
  rw [hX] at hx
  have h1 : v * val X < 4294967296 * 4294967296 ^ n := by
    rcases Nat.eq_zero_or_pos v with h0 | h0
    · subst h0; rw [Nat.zero_mul]; exact Nat.mul_pos (by omega) (Nat.pow_pos (by omega))
    · exact Nat.lt_of_le_of_lt (Nat.mul_le_mul_right _ (Nat.le_of_lt hv)) (Nat.mul_lt_mul_of_pos_left hx (by omega))
  have h2 : 4294967296 ^ b * (v * val X) < 4294967296 ^ (b + (n + 1)) := by
    rw [Nat.pow_add, Nat.pow_succ, Nat.mul_comm (4294967296 ^ n)]
    exact Nat.mul_lt_mul_of_pos_left h1 (Nat.pow_pos (by omega))
  have e : 4294967296 ^ b * (v * val X) = val X * v * 4294967296 ^ b := by rw [Nat.mul_comm, Nat.mul_comm v]
  rcases Nat.eq_zero_or_pos cy with h0 | h0
  · subst h0; omega
  · have := Nat.mul_le_mul_left (4294967296 ^ (b + (n + 1))) h0
    omega

set_option maxHeartbeats 2000000 in
theorem times_any (A : Option Addr) (n c x v b : Nat) (bi vi : Int) (w : World)
    (h1 : Rd w A n c (limbs x)) (hn : n ≤ 10000) (hv : v < 4294967296) (hb : b ≤ 10000) (hbi : bi = b) (hvi : vi = v) :
    Calls Tryd.prog 80 #[.slice A n c, .int .u32 vi, .int .i64 bi] w (RetN (x * v * 4294967296 ^ b) w) := by
  subst hbi
  subst hvi
  have hmk : ∀ W : World, (Instr.makeSlice 40 (.int .i64 (b : Int)) (.int .i64 (b : Int))).run Tryd.prog W = .ok (.slice (some ⟨W.heap.size, 0, none⟩) b b) (W.alloc (.cells (madeCells #[.int .u32 0] b) 77)) := fun W => make_u32 b (by omega) .i64 .i64 W
  replace h1 := Lib.hid h1
  go_enter Tryd.func80, Tryd.ntmps80
  go_wp2
  go_loopw [7, 8, 9] (fun ov cv iv wr => ∃ (k cy : Nat) (zs : List Nat), k ≤ n + 1 ∧ iv = .int .i64 k ∧ cv = .int .u64 cy ∧ cy < 4294967296 ∧ zs.length = b + k ∧ Gr wr w.heap.size ov zs ∧ Below w.heap.size w wr ∧
      val zs + 4294967296 ^ (b + k) * cy = 4294967296 ^ b * (v * val ((limbs x).take k)))
    (fun _ _ iv _ => n + 1 - (intOf iv).toNat)
  case atStart => exact ⟨0, 0, List.replicate b 0, Nat.zero_le _, rfl, rfl, by omega, by simp, Gr.zeros w b (by omega), (Below.refl _ _).alloc (Nat.le_refl _) _, by simp [val, val_zeros]⟩
  case round =>
    clear hmk
    obtain ⟨k, cy, zs, hk, rfl, rfl, hcy, hl, hG, hB, hvv⟩ := hrel
    replace hl := Lib.hid hl
    replace hG := Lib.hid hG
    replace hB := Lib.hid hB
    replace hvv := Lib.hid hvv
    by_cases hlt : k ≤ n
    · obtain ⟨x1, hx1⟩ : ∃ x1, (limbs x).getD k 0 = x1 := ⟨_, rfl⟩
      have hx1b : x1 < 4294967296 := by rw [← hx1]; exact sm_get (sm_limbs _) k
      replace hx1 := Lib.hid hx1
      have hp : (x1 : Int) * (v : Int) ≤ 18446744065119617025 := by have := mul_bd hx1b hv; have e : ((x1 * v : Nat) : Int) = (x1 : Int) * v := Int.natCast_mul x1 v; omega
      have hp0 : 0 ≤ (x1 : Int) * (v : Int) := by have e : ((x1 * v : Nat) : Int) = (x1 : Int) * v := Int.natCast_mul x1 v; omega
      obtain ⟨t, ht⟩ : ∃ t, t = x1 * v + cy := ⟨_, rfl⟩
      have htc : (x1 : Int) * (v : Int) + (cy : Int) = (t : Int) := by rw [ht]; simp
      have htb : (t : Int) ≤ 18446744069414584320 := by omega
      have htd : t / 4294967296 < 4294967296 := by omega
      have hst := times_step hl.out hvv.out hx1.out ht
      replace hst := Lib.hid hst
      replace htd := Lib.hid htd
      clear ht
      go_wp2_with fail
      refine (limb_any _ _ _ _ _ _ k x1 (h1.out.below hB.out) (by omega) rfl hx1.out).mono ?_
      rintro e w' ⟨rfl, rfl⟩
      go_wp2_with (at_builtin; refine wpList_append_u32 _ rfl (.tmp 27) (.tmp 30) rfl w.heap.size _ zs rfl (hG.out.alloc _) ⟨wr.heap.size, 0, none⟩ 1 1 [t % 4294967296] rfl (lit1 _ _ _ _ rfl ?c0 ?c3) ?c1 ?c2 ?_)
      case c0 => omega
      case c3 => omega
      case c1 => rw [hl.out]; omega
      case c2 => have := hB.out.size; simp; omega
      intro v' w' hG' hg
      have hB' := Lib.hid (Below.grown (hB.out.alloc hB.out.size _) hg (by have := hB.out.size; simp; omega) (own_ge hG.out))
      replace hG' := Lib.hid hG'
      clear hg
      go_wp2
      go_roundw
      case rel => exact ⟨k + 1, t / 4294967296, _, by omega, by go_num, by go_num, htd.out, by rw [List.length_append, hl.out]; rfl, hG'.out, hB'.out, hst.out⟩
      case measure => simp [intOf]; omega
    · obtain rfl : k = n + 1 := by omega
      have hfin := Lib.hid (times_last h1.out.len (sm_limbs x) hv hvv.out)
      obtain ⟨A3, c3, hv3, R3, _⟩ := hG.out.form
      subst hv3
      replace R3 := Lib.hid R3
      go_wp2_with fail
      refine (rtrim_any _ _ _ zs _ R3.out (by rw [hl.out]; omega)).mono ?_
      rintro e w' ⟨n', rfl, rfl, R⟩
      rw [hfin.out, val_limbs] at R
      replace R := Lib.hid R
      go_wp2
      go_ret
      exact ⟨_, _, _, rfl, R.out, hB.out⟩

set_option maxHeartbeats 2000000 in
theorem rmul_any (A : Option Addr) (n c : Nat) (xs : List Nat) (A' : Option Addr) (n' c' : Nat) (ys : List Nat) (w : World)
    (h1 : Rd w A n c xs) (h2 : Rd w A' n' c' ys) (hn : n ≤ 2000) (hn' : n' ≤ 2000) :
    Calls Tryd.prog 64 #[.slice A n c, .slice A' n' c'] w (RetN (num xs * num ys) w) := by
  replace h1 := Lib.hid h1
  replace h2 := Lib.hid h2
  go_enter Tryd.func64, Tryd.ntmps64
  go_wp2_with fail
  refine (take_any _ _ _ xs _ h1.out (by omega)).mono ?_
  rintro e w1 ⟨A1, n1, c1, rfl, R1, b1, l1⟩
  replace h2 := Lib.hid (h2.out.below b1)
  replace R1 := Lib.hid R1
  replace b1 := Lib.hid b1
  go_wp2_with fail
  refine (take_any _ _ _ ys _ h2.out (by omega)).mono ?_
  rintro e w2 ⟨A2, n2, c2, rfl, R2, b2, l2⟩
  replace R1 := Lib.hid (R1.out.below b2)
  replace R2 := Lib.hid R2
  replace b1 := Lib.hid (b1.out.trans (b2.mono b1.out.size))
  clear b2 h1 h2
  go_wp2
  go_loopw [5, 6] (fun ov iv wr => ∃ (k : Nat) (A3 : Option Addr) (n3 c3 : Nat), k ≤ n2 ∧ iv = .int .i64 k ∧ ov = .slice A3 n3 c3 ∧ Rd wr A3 n3 c3 (limbs (num xs * val ((limbs (num ys)).take k))) ∧ Below w2.heap.size w2 wr)
    (fun _ iv _ => n2 - (intOf iv).toNat)
  case atStart => exact ⟨0, none, 0, 0, Nat.zero_le _, rfl, rfl, by simp only [List.take_zero, val, Nat.mul_zero, limbs_zero]; exact Rd.nil_ _ _ _, Below.refl _ _⟩
  case round =>
    obtain ⟨k, A3, n3, c3, hk, rfl, rfl, R3, hB⟩ := hrel
    have hX := lt_of_len R1.out.len
    have hn3 : n3 ≤ n1 + k := by
      rw [← R3.len]
      apply len_of_lt
      rw [Nat.pow_add]
      have := val_lt (sm_take (sm_limbs (num ys)) k)
      have h3 : 4294967296 ^ ((limbs (num ys)).take k).length ≤ 4294967296 ^ k := Nat.pow_le_pow_right (by omega) (by rw [List.length_take]; omega)
      exact Nat.mul_lt_mul_of_lt_of_le hX (by omega) (Nat.pow_pos (by omega))
    replace R3 := Lib.hid R3
    replace hB := Lib.hid hB
    replace hX := Lib.hid hX
    by_cases hlt : k < n2
    · obtain ⟨bb, ob, y1, rfl, hbb, hy1, hye, hcy⟩ := (R2.out.below hB.out).at_ hlt
      have hst : num xs * val ((limbs (num ys)).take k) + num xs * y1 * 4294967296 ^ k = num xs * val ((limbs (num ys)).take (k + 1)) := by
        rw [val_take_succ_any, hye, Nat.mul_add, Nat.mul_comm (4294967296 ^ k), Nat.mul_assoc]
      replace hst := Lib.hid hst
      clear hye
      have g1 : (0 : Int) ≤ (k : Int) := by omega
      have g2 : (k : Int) < (n2 : Int) := by omega
      go_wp2_with fail
      refine (times_any _ _ _ (num xs) y1 k _ _ _ (R1.out.below hB.out) (by omega) hy1 (by omega) rfl rfl).mono ?_
      rintro e w4 ⟨A4, n4, c4, rfl, R4, b4⟩
      have hn4 : n4 ≤ n1 + 1 + k := by
        rw [← R4.len]
        apply len_of_lt
        rw [Nat.pow_add, Nat.pow_succ]
        exact Nat.mul_lt_mul_of_pos_right (Nat.mul_lt_mul_of_lt_of_le hX.out (by omega) (by omega)) (Nat.pow_pos (by omega))
      replace R3 := Lib.hid (R3.out.below b4)
      replace R4 := Lib.hid R4
      replace hB := Lib.hid (hB.out.trans (b4.mono hB.out.size))
      clear b4 hcy
      go_wp2_with fail
      refine (radd_any _ _ _ _ _ _ _ _ _ R3.out R4.out (by omega) (by omega)).mono ?_
      rintro e w5 ⟨A5, n5, c5, rfl, R5, b5⟩
      rw [num_limbs, num_limbs, hst.out] at R5
      replace R5 := Lib.hid R5
      replace hB := Lib.hid (hB.out.trans (b5.mono hB.out.size))
      clear b5
      go_wp2
      go_roundw
      case rel => exact ⟨k + 1, _, _, _, by omega, by go_num, rfl, R5.out, hB.out⟩
      case measure => simp [intOf]; omega
    · obtain rfl : k = n2 := by omega
      have e : num xs * val ((limbs (num ys)).take k) = num xs * num ys := by rw [List.take_of_length_le (by rw [R2.out.len]; omega), val_limbs]
      have R6 := R3.out
      rw [e] at R6
      replace R6 := Lib.hid R6
      have hB' := Lib.hid (b1.out.trans (hB.out.mono b1.out.size))
      clear e
      go_wp2
      go_ret
      exact ⟨_, _, _, rfl, R6.out, hB'.out⟩

end Go.Proofs.YtlflaalefilplaaDoor
namespace Go.Proofs.YtlflaalefilplaaDoor
open Go.RowKit

/-- A contract's number, with its length. -/
def RetL (N p : Nat) (w : World) (e : Ending) (w' : World) : Prop := ∃ A n c, e = .returned (.slice A n c) ∧ Rd w' A n c (limbs N) ∧ Below w.heap.size w w' ∧ n ≤ p
theorem RetN.l {N p : Nat} {w : World} {e : Ending} {w' : World} (hp : N < 4294967296 ^ p) : RetN N w e w' → RetL N p w e w' := by
  rintro ⟨A, n, c, he, hR, hb⟩
  exact ⟨A, n, c, he, hR, hb, by rw [← hR.len]; exact len_of_lt hp⟩

set_option maxHeartbeats 1000000 in
theorem double_any (A : Option Addr) (n c x o : Nat) (oi : Int) (w : World) (h1 : Rd w A n c (limbs x)) (hn : n ≤ 2000) (ho : o < 2) (hoi : oi = o) :
    Calls Tryd.prog 69 #[.slice A n c, .int .u32 oi] w (RetN (2 * x + o) w) := by
  subst hoi
  have hx := lt_of_len h1.len
  replace h1 := Lib.hid h1
  replace hx := Lib.hid hx
  have ht := fun W h => times_any A n c x 2 0 0 2 W h (by omega) (by omega) (by omega) rfl rfl
  replace ht := Lib.hid ht
  by_cases h0 : o = 0
  · subst h0
    go_enter Tryd.func69, Tryd.ntmps69
    go_wp2_with fail
    refine (ht.out _ h1.out).mono ?_
    rintro e w1 ⟨A1, n1, c1, rfl, R1, b1⟩
    rw [Nat.pow_zero, Nat.mul_one, Nat.mul_comm] at R1
    replace R1 := Lib.hid R1
    replace b1 := Lib.hid b1
    go_wp2
    go_ret
    exact ⟨_, _, _, rfl, R1.out, b1.out⟩
  · obtain rfl : o = 1 := by omega
    clear h0
    go_enter Tryd.func69, Tryd.ntmps69
    go_wp2_with fail
    refine (ht.out _ h1.out).mono ?_
    rintro e w1 ⟨A1, n1, c1, rfl, R1, b1⟩
    rw [Nat.pow_zero, Nat.mul_one, Nat.mul_comm] at R1
    have hn1 : n1 ≤ n + 1 := by
      rw [← R1.len]; apply len_of_lt; rw [Nat.pow_succ]; have := hx.out; omega
    replace R1 := Lib.hid R1
    replace b1 := Lib.hid b1
    go_wp2_with fail
    refine (radd_any _ _ _ _ _ _ _ _ _ (R1.out.alloc _) (lit1 w1 _ 1 1 rfl rfl (by omega)) (by omega) (by omega)).mono ?_
    rintro e w2 ⟨A2, n2, c2, rfl, R2, b2⟩
    rw [num_limbs, show num [1] = 1 from rfl] at R2
    replace R2 := Lib.hid R2
    replace b2 : Hid (Below w.heap.size w w2) := Lib.hid ((b1.out.alloc b1.out.size _).trans (b2.mono (by have := b1.out.size; simp; omega)))
    go_wp2
    go_ret
    exact ⟨_, _, _, rfl, R2.out, b2.out⟩

theorem and_one_u32 (m : Nat) (hm : m < 4294967296) : bits .and .u32 (m : Int) 1 = ((m % 2 : Nat) : Int) := by
  have := u32_and_nat m 1 hm (by omega)
  rw [Nat.and_one_is_mod] at this
  exact this

set_option maxHeartbeats 1000000 in
theorem bit_any (A : Option Addr) (n c x i b : Nat) (ii : Int) (w : World) (h1 : Rd w A n c (limbs x)) (hn : n ≤ 2000) (hi : i < 32 * n) (hii : ii = i) (hb : x / 2 ^ i % 2 = b) :
    Calls Tryd.prog 70 #[.slice A n c, .int .i64 ii] w fun e w' => e = .returned (.int .u32 (b : Nat)) ∧ w = w' := by
  subst hii
  obtain ⟨bb, o, x1, rfl, hbb, hx1, hxe, hc⟩ := h1.at_ (k := i / 32) (by omega)
  have hbit := bit_at (limbs x) i (sm_limbs x)
  rw [hxe, val_limbs, hb] at hbit
  have hle : x1 / 2 ^ (i % 32) ≤ x1 := Nat.div_le_self _ _
  obtain ⟨m, hm⟩ : ∃ m, x1 / 2 ^ (i % 32) = m := ⟨_, rfl⟩
  rw [hm] at hbit hle
  have hmc : (x1 : Int) / 2 ^ (i % 32) = (m : Int) := by rw [← hm]; simp
  have hand := and_one_u32 m (by omega)
  rw [hbit] at hand
  replace hbit := Lib.hid hbit
  replace hm := Lib.hid hm
  clear h1 hxe hb
  have g1 : (0 : Int) ≤ (i : Int) := by omega
  have g2 : (i : Int) / 32 < (n : Int) := by omega
  go_enter Tryd.func70, Tryd.ntmps70
  go_wp2
  go_ret
  exact ⟨rfl, rfl⟩

theorem rsub_lt_b (A : Option Addr) (n c x : Nat) (A' : Option Addr) (n' c' y : Nat) (w : World) (h1 : Rd w A n c (limbs x)) (h2 : Rd w A' n' c' (limbs y)) (hn : n ≤ 2000) (hn' : n' ≤ 2000) (hlt : x < y) :
    Calls Tryd.prog 63 #[.slice A n c, .slice A' n' c'] w fun e w' => e = .returned (.tuple #[.slice none 0 0, .bool false]) ∧ Below w.heap.size w w' :=
  rsub_lt A n c (limbs x) A' n' c' (limbs y) w h1 h2 (by omega) (by omega) (by rw [num_limbs, num_limbs]; exact hlt)

theorem rsub_ge_b (A : Option Addr) (n c x : Nat) (A' : Option Addr) (n' c' y : Nat) (w : World) (h1 : Rd w A n c (limbs x)) (h2 : Rd w A' n' c' (limbs y)) (hn : n ≤ 2000) (hn' : n' ≤ 2000) (hge : y ≤ x) :
    Calls Tryd.prog 63 #[.slice A n c, .slice A' n' c'] w fun e w' => ∃ A n c, e = .returned (.tuple #[.slice A n c, .bool true]) ∧ Rd w' A n c (limbs (x - y)) ∧ Below w.heap.size w w' := by
  have := rsub_ge A n c (limbs x) A' n' c' (limbs y) w h1 h2 (by omega) (by omega) (by rw [num_limbs, num_limbs]; exact hge)
  rw [num_limbs, num_limbs] at this
  exact this

/-- The quotient so far has few limbs. -/
theorem quo_len {x y k p : Nat} (hx : x < 4294967296 ^ p) : (limbs (x / 2 ^ k / y)).length ≤ p :=
  len_of_lt (Nat.lt_of_le_of_lt (Nat.le_trans (Nat.div_le_self _ _) (Nat.div_le_self _ _)) hx)

set_option maxHeartbeats 4000000 in
theorem rdiv_any (A : Option Addr) (n c : Nat) (xs : List Nat) (A' : Option Addr) (n' c' : Nat) (ys : List Nat) (w : World)
    (h1 : Rd w A n c xs) (h2 : Rd w A' n' c' ys) (hn : n ≤ 1000) (hn' : n' ≤ 1000) (hy : 0 < num ys) :
    Calls Tryd.prog 50 #[.slice A n c, .slice A' n' c'] w (RetDiv (num xs) (num ys) w) := by
  replace h1 := Lib.hid h1
  replace h2 := Lib.hid h2
  replace hy := Lib.hid hy
  go_enter Tryd.func50, Tryd.ntmps50
  go_wp2_with fail
  refine (take_any _ _ _ xs _ h1.out (by omega)).mono ?_
  rintro e w1 ⟨A1, n1, c1, rfl, R1, b1, l1⟩
  replace h2 := Lib.hid (h2.out.below b1)
  replace R1 := Lib.hid R1
  replace b1 := Lib.hid b1
  go_wp2_with fail
  refine (take_any _ _ _ ys _ h2.out (by omega)).mono ?_
  rintro e w2 ⟨A2, n2, c2, rfl, R2, b2, l2⟩
  replace R1 := Lib.hid (R1.out.below b2)
  have hn2 : 1 ≤ n2 := limbs_ne R2.len hy.out
  replace R2 := Lib.hid R2
  replace b1 := Lib.hid (b1.out.trans (b2.mono b1.out.size))
  clear b2 h1 h2
  obtain ⟨x, hx⟩ : ∃ x, num xs = x := ⟨_, rfl⟩
  obtain ⟨y, hyy⟩ : ∃ y, num ys = y := ⟨_, rfl⟩
  have R1' : Hid (Rd w2 A1 n1 c1 (limbs x)) := by rw [← hx]; exact R1
  have R2' : Hid (Rd w2 A2 n2 c2 (limbs y)) := by rw [← hyy]; exact R2
  have hy0 : 0 < y := by rw [← hyy]; exact hy.out
  have hxl := lt_of_len R1'.out.len
  have hyl := lt_of_len R2'.out.len
  replace hx := Lib.hid hx
  replace hyy := Lib.hid hyy
  replace hxl := Lib.hid hxl
  replace hyl := Lib.hid hyl
  clear R1 R2 hy
  have hg0 : ((n2 : Int) == 0) = false := by simp; omega
  go_wp2
  go_loopw [7, 8, 9] (fun qv rv iv wr => ∃ (i : Int) (k : Nat) (A3 : Option Addr) (n3 c3 : Nat) (A4 : Option Addr) (n4 c4 : Nat), k ≤ 32 * n1 ∧ i + 1 = k ∧ iv = .int .i64 i ∧ qv = .slice A3 n3 c3 ∧ rv = .slice A4 n4 c4 ∧
      Rd wr A3 n3 c3 (limbs (x / 2 ^ k / y)) ∧ Rd wr A4 n4 c4 (limbs (x / 2 ^ k % y)) ∧ Below w2.heap.size w2 wr)
    (fun _ _ iv _ => (intOf iv + 1).toNat)
  case atStart =>
    have h0 : x / 2 ^ (32 * n1) = 0 := Nat.div_eq_of_lt (by rw [← pow_limb]; exact hxl.out)
    exact ⟨_, 32 * n1, none, 0, 0, none, 0, 0, Nat.le_refl _, by omega, rfl, rfl, rfl, by rw [h0, Nat.zero_div, limbs_zero]; exact Rd.nil_ _ _ _, by rw [h0, Nat.zero_mod, limbs_zero]; exact Rd.nil_ _ _ _, Below.refl _ _⟩
  case round =>
    obtain ⟨i, k, A3, n3, c3, A4, n4, c4, hk, hik, rfl, rfl, rfl, R3, R4, hB⟩ := hrel
    have hn3 : n3 ≤ n1 := by rw [← R3.len]; exact quo_len hxl.out
    have hn4 : n4 ≤ n2 := by rw [← R4.len]; exact len_of_lt (Nat.lt_trans (Nat.mod_lt _ hy0) hyl.out)
    by_cases h0 : k = 0
    · subst h0
      obtain rfl : i = -1 := by omega
      rw [Nat.pow_zero, Nat.div_one] at R3 R4
      rw [← hx.out, ← hyy.out] at R3 R4
      replace R3 := Lib.hid R3
      replace R4 := Lib.hid R4
      replace hB := Lib.hid (b1.out.trans (hB.mono b1.out.size))
      clear hik
      go_wp2
      go_ret3
      exact ⟨_, _, _, _, _, _, rfl, R3.out, R4.out, hB.out⟩
    · obtain ⟨j, rfl⟩ : ∃ j, k = j + 1 := ⟨k - 1, by omega⟩
      obtain rfl : i = j := by omega
      clear hik h0
      obtain ⟨b, hb⟩ : ∃ b, x / 2 ^ j % 2 = b := ⟨_, rfl⟩
      have hb2 : b < 2 := by rw [← hb]; exact Nat.mod_lt _ (by omega)
      have hhalf := half_step (x := x) (k := j)
      rw [hb] at hhalf
      obtain ⟨q, hq⟩ : ∃ q, x / 2 ^ (j + 1) / y = q := ⟨_, rfl⟩
      obtain ⟨r, hr⟩ : ∃ r, x / 2 ^ (j + 1) % y = r := ⟨_, rfl⟩
      have hry : r < y := by rw [← hr]; exact Nat.mod_lt _ hy0
      have hstep := bitdiv_step hry hq hr hb2
      rw [← hhalf] at hstep
      rw [hq] at R3
      rw [hr] at R4
      replace R3 := Lib.hid R3
      replace R4 := Lib.hid R4
      replace hB := Lib.hid hB
      replace hb := Lib.hid hb
      replace hstep := Lib.hid hstep
      clear hhalf hq hr
      have g1 : (0 : Int) ≤ (j : Int) := by omega
      go_wp2_with fail
      refine (bit_any _ _ _ x j b _ _ (R1'.out.below hB.out) (by omega) (by omega) rfl hb.out).mono ?_
      rintro e w' ⟨rfl, rfl⟩
      go_wp2_with fail
      refine (double_any _ _ _ r b _ _ R4.out (by omega) hb2 rfl).mono ?_
      rintro e w4 ⟨A5, n5, c5, rfl, R5, b5⟩
      have hn5 : n5 ≤ n2 + 1 := by rw [← R5.len]; apply len_of_lt; rw [Nat.pow_succ]; have := hyl.out; omega
      replace R3 := Lib.hid (R3.out.below b5)
      replace R5 := Lib.hid R5
      replace hB := Lib.hid (hB.out.trans (b5.mono hB.out.size))
      have R2'' := Lib.hid (R2'.out.below hB.out)
      clear R4 b5
      by_cases hge : y ≤ 2 * r + b
      · obtain ⟨hs1, hs2⟩ := hstep.out.1 hge
        replace hs1 := Lib.hid hs1
        replace hs2 := Lib.hid hs2
        go_wp2_with fail
        refine (rsub_ge_b _ _ _ _ _ _ _ _ _ R5.out R2''.out (by omega) (by omega) hge).mono ?_
        rintro e w5 ⟨A6, n6, c6, rfl, R6, b6⟩
        replace R3 := Lib.hid (R3.out.below b6)
        replace R6 := Lib.hid R6
        replace hB := Lib.hid (hB.out.trans (b6.mono hB.out.size))
        clear R5 b6 R2''
        go_wp2_with fail
        refine (double_any _ _ _ q 1 1 _ R3.out (by omega) (by omega) rfl).mono ?_
        rintro e w6 ⟨A7, n7, c7, rfl, R7, b7⟩
        replace R6 := Lib.hid (R6.out.below b7)
        replace R7 := Lib.hid R7
        replace hB := Lib.hid (hB.out.trans (b7.mono hB.out.size))
        clear b7 R3
        go_wp2
        go_roundw
        case rel => exact ⟨_, j, _, _, _, _, _, _, by omega, by omega, rfl, rfl, rfl, by rw [hs1.out]; exact R7.out, by rw [hs2.out]; exact R6.out, hB.out⟩
        case measure => simp [intOf]
      · obtain ⟨hs1, hs2⟩ := hstep.out.2 (by omega)
        replace hs1 := Lib.hid hs1
        replace hs2 := Lib.hid hs2
        go_wp2_with fail
        refine (rsub_lt_b _ _ _ _ _ _ _ _ _ R5.out R2''.out (by omega) (by omega) (by omega)).mono ?_
        rintro e w5 ⟨rfl, b6⟩
        replace R3 := Lib.hid (R3.out.below b6)
        replace R5 := Lib.hid (R5.out.below b6)
        replace hB := Lib.hid (hB.out.trans (b6.mono hB.out.size))
        clear b6 R2''
        go_wp2_with fail
        refine (double_any _ _ _ q 0 0 _ R3.out (by omega) (by omega) rfl).mono ?_
        rintro e w6 ⟨A7, n7, c7, rfl, R7, b7⟩
        replace R5 := Lib.hid (R5.out.below b7)
        replace R7 := Lib.hid R7
        replace hB := Lib.hid (hB.out.trans (b7.mono hB.out.size))
        clear b7 R3
        go_wp2
        go_roundw
        case rel => exact ⟨_, j, _, _, _, _, _, _, by omega, by omega, rfl, rfl, rfl, by rw [hs1.out]; exact R7.out, by rw [hs2.out]; exact R5.out, hB.out⟩
        case measure => simp [intOf]

set_option maxHeartbeats 2000000 in
theorem rdiv_zero (A : Option Addr) (n c : Nat) (xs : List Nat) (A' : Option Addr) (n' c' : Nat) (ys : List Nat) (w : World)
    (h1 : Rd w A n c xs) (h2 : Rd w A' n' c' ys) (hn : n ≤ 1000) (hn' : n' ≤ 1000) (hy : num ys = 0) :
    Calls Tryd.prog 50 #[.slice A n c, .slice A' n' c'] w fun e w' => e = .returned (.tuple #[.slice none 0 0, .slice none 0 0, .bool false]) ∧ Below w.heap.size w w' := by
  replace h1 := Lib.hid h1
  replace h2 := Lib.hid h2
  replace hy := Lib.hid hy
  go_enter Tryd.func50, Tryd.ntmps50
  go_wp2_with fail
  refine (take_any _ _ _ xs _ h1.out (by omega)).mono ?_
  rintro e w1 ⟨A1, n1, c1, rfl, R1, b1, l1⟩
  replace h2 := Lib.hid (h2.out.below b1)
  replace b1 := Lib.hid b1
  clear R1
  go_wp2_with fail
  refine (take_any _ _ _ ys _ h2.out (by omega)).mono ?_
  rintro e w2 ⟨A2, n2, c2, rfl, R2, b2, l2⟩
  obtain rfl : n2 = 0 := by have := R2.len; rw [hy.out, limbs_zero] at this; exact this.symm
  replace b1 := Lib.hid (b1.out.trans (b2.mono b1.out.size))
  clear b2 h1 h2 R2
  go_wp2
  go_ret3
  exact ⟨rfl, b1.out⟩

set_option maxHeartbeats 2000000 in
theorem rgcd_any (A : Option Addr) (n c : Nat) (xs : List Nat) (A' : Option Addr) (n' c' : Nat) (ys : List Nat) (w : World)
    (h1 : Rd w A n c xs) (h2 : Rd w A' n' c' ys) (hn : n ≤ 1000) (hn' : n' ≤ 1000) :
    Calls Tryd.prog 78 #[.slice A n c, .slice A' n' c'] w (RetN (Nat.gcd (num xs) (num ys)) w) := by
  replace h1 := Lib.hid h1
  replace h2 := Lib.hid h2
  go_enter Tryd.func78, Tryd.ntmps78
  go_wp2_with fail
  refine (take_any _ _ _ xs _ h1.out (by omega)).mono ?_
  rintro e w1 ⟨A1, n1, c1, rfl, R1, b1, l1⟩
  replace h2 := Lib.hid (h2.out.below b1)
  replace R1 := Lib.hid R1
  replace b1 := Lib.hid b1
  go_wp2_with fail
  refine (take_any _ _ _ ys _ h2.out (by omega)).mono ?_
  rintro e w2 ⟨A2, n2, c2, rfl, R2, b2, l2⟩
  replace R1 := Lib.hid (R1.out.below b2)
  replace R2 := Lib.hid R2
  replace b1 := Lib.hid (b1.out.trans (b2.mono b1.out.size))
  clear b2 h1 h2
  go_wp2
  go_loopg [0, 1] (num ys) (fun y av bv wr => ∃ (x : Nat) (A3 : Option Addr) (n3 c3 : Nat) (A4 : Option Addr) (n4 c4 : Nat), av = .slice A3 n3 c3 ∧ bv = .slice A4 n4 c4 ∧ n3 ≤ 1000 ∧ n4 ≤ 1000 ∧
      Rd wr A3 n3 c3 (limbs x) ∧ Rd wr A4 n4 c4 (limbs y) ∧ Nat.gcd x y = Nat.gcd (num xs) (num ys) ∧ Below w2.heap.size w2 wr)
  case atStart => exact ⟨num xs, _, _, _, _, _, _, rfl, rfl, by omega, by omega, R1.out, R2.out, rfl, Below.refl _ _⟩
  case round =>
    obtain ⟨x, A3, n3, c3, A4, n4, c4, rfl, rfl, l3, l4, R3, R4, hgcd, hB⟩ := hrel
    by_cases h0 : n4 = 0
    · subst h0
      have hy0 : gk = 0 := limbs_inj (by rw [limbs_zero]; exact List.eq_nil_of_length_eq_zero R4.len)
      rw [hy0, Nat.gcd_zero_right] at hgcd
      rw [hgcd] at R3
      replace R3 := Lib.hid R3
      replace hB := Lib.hid (b1.out.trans (hB.mono b1.out.size))
      clear R4 hgcd hy0
      go_wp2
      go_ret
      exact ⟨_, _, _, rfl, R3.out, hB.out⟩
    · have hy0 : 0 < gk := by
        rcases Nat.eq_zero_or_pos gk with h | h
        · rw [h, limbs_zero] at R4; exact absurd R4.len.symm h0
        · exact h
      have hpos : (0 : Int) < (n4 : Int) := by omega
      have hd := fun W h h' => rdiv_any A3 n3 c3 (limbs x) A4 n4 c4 (limbs gk) W h h' l3 l4 (by rw [num_limbs]; exact hy0)
      simp only [num_limbs] at hd
      have hml := Nat.mod_lt x hy0
      have hln := len_le (Nat.le_of_lt hml)
      rw [R4.len] at hln
      replace hd := Lib.hid hd
      replace R3 := Lib.hid R3
      replace R4 := Lib.hid R4
      replace hB := Lib.hid hB
      replace hgcd := Lib.hid hgcd
      replace hml := Lib.hid hml
      replace hln := Lib.hid hln
      clear h0
      go_wp2_with fail
      refine (hd.out _ R3.out R4.out).mono ?_
      rintro e w3 ⟨A5, n5, c5, A6, n6, c6, rfl, _, R6, b6⟩
      have l6 : n6 ≤ 1000 := by rw [← R6.len]; have := hln.out; omega
      replace R4 := Lib.hid (R4.out.below b6)
      replace R6 := Lib.hid R6
      replace hB := Lib.hid (hB.out.trans (b6.mono hB.out.size))
      clear b6 R3
      go_wp2
      go_roundg (x % gk)
      case measure => exact hml.out
      case rel => exact ⟨gk, _, _, _, _, _, _, rfl, rfl, l4, l6, R4.out, R6.out, by rw [← hgcd.out, Nat.gcd_comm, ← Nat.gcd_rec, Nat.gcd_comm], hB.out⟩

end Go.Proofs.YtlflaalefilplaaDoor
namespace Go.Proofs.YtlflaalefilplaaDoor
open Go.RowKit

end Go.Proofs.YtlflaalefilplaaDoor
namespace Go.Proofs.YtlflaalefilplaaDoor
open Go.RowKit

/-- The steps, and the remainders that they leave of the highest bits x and y. -/
structure Inv (x y r s a b c d : Nat) (o : Bool) : Prop where
  ex : d * r + b * s = x
  ey : c * r + a * s = y
  det : if o then b * c = a * d + 1 else a * d = b * c + 1
  d1 : 1 ≤ d
  bd : b ≤ d
  cd : c ≤ d
  shape : (a = 1 ∧ b = 0 ∧ c = 0 ∧ d = 1 ∧ o = false) ∨ (1 ≤ b ∧ a ≤ b ∧ 1 ≤ c)

/-- Steps that are right for all numbers with these highest bits. -/
def Good (x y a b c d : Nat) (o : Bool) : Prop :=
  (a = 1 ∧ b = 0 ∧ c = 0 ∧ d = 1 ∧ o = false) ∨ ∃ r s, Inv x y r s a b c d o ∧ 1 ≤ b ∧ d ≤ s ∧ b + d + s ≤ r

theorem Inv.first (x y : Nat) : Inv x y x y 1 0 0 1 false := ⟨by omega, by omega, by simp, by omega, by omega, by omega, .inl ⟨rfl, rfl, rfl, rfl, rfl⟩⟩

theorem Inv.next {x y r s a b c d : Nat} {o : Bool} (h : Inv x y r s a b c d o) (hs : 0 < s) (hrs : s ≤ r) : Inv x y s (r % s) c d (a + r / s * c) (b + r / s * d) (!o) := by
  have e := Nat.div_add_mod' r s
  have hq : 1 ≤ r / s := (Nat.le_div_iff_mul_le hs).2 (by omega)
  generalize r / s = q at *
  generalize r % s = t at *
  have hqd : d ≤ q * d := Nat.le_mul_of_pos_left d (by omega)
  have hqc : q * c ≤ q * d := Nat.mul_le_mul_left q h.cd
  refine ⟨?_, ?_, ?_, ?_, by omega, ?_, .inr ⟨h.d1, h.cd, ?_⟩⟩
  · rw [← h.ex, ← e, Nat.add_mul, Nat.mul_add, Nat.mul_right_comm, Nat.mul_comm d (q * s), Nat.mul_right_comm]; omega
  · rw [← h.ey, ← e, Nat.add_mul, Nat.mul_add, Nat.mul_right_comm, Nat.mul_comm c (q * s), Nat.mul_right_comm]; omega
  · have hdet := h.det
    have e1 : d * (a + q * c) = a * d + q * c * d := by rw [Nat.mul_add, Nat.mul_comm d a, Nat.mul_comm d]
    have e2 : c * (b + q * d) = b * c + q * c * d := by rw [Nat.mul_add, Nat.mul_comm c b, Nat.mul_comm c, Nat.mul_right_comm]
    cases o
    · simp only [Bool.not_false, if_true]
      simp at hdet
      rw [e1, e2]; omega
    · simp only [Bool.not_true]
      simp at hdet ⊢
      rw [e1, e2]; omega
  · have := h.d1; omega
  · rcases h.shape with ⟨rfl, rfl, rfl, rfl, _⟩ | ⟨h1, h2, h3⟩
    · simp; omega
    · omega
  · rcases h.shape with ⟨rfl, rfl, rfl, rfl, _⟩ | ⟨h1, h2, h3⟩
    · omega
    · have : c ≤ q * c := Nat.le_mul_of_pos_left c (by omega)
      omega

theorem Inv.small {x y r s a b c d : Nat} {o : Bool} (h : Inv x y r s a b c d o) (hd : d ≤ s) (hrs : s ≤ r) (hx : x < 18446744073709551616) : d < 4294967296 := by
  rcases Nat.lt_or_ge d 4294967296 with hl | hl
  · exact hl
  · exfalso
    have h1 := Nat.mul_le_mul hl (show 4294967296 ≤ r by omega)
    have := h.ex
    omega

theorem Inv.dx {x y r s a b c d : Nat} {o : Bool} (h : Inv x y r s a b c d o) (hr : 0 < r) : d ≤ x := by
  have := Nat.le_mul_of_pos_right d hr
  have := h.ex
  omega

/-- Five cells of a block are stored. -/
abbrev st5 (w : World) (g : Nat) (v0 v1 v2 v3 v4 : Value) : World := ((((w.setCell ⟨g, 0, none⟩ v0).setCell ⟨g, 1, none⟩ v1).setCell ⟨g, 2, none⟩ v2).setCell ⟨g, 3, none⟩ v3).setCell ⟨g, 4, none⟩ v4

theorem st5_far (w : World) (g g' : Nat) (v0 v1 v2 v3 v4 : Value) (h : g' ≠ g) : (st5 w g v0 v1 v2 v3 v4).heap[g']? = w.heap[g']? := by
  unfold st5
  rw [Below.heap_setCell _ _ _ _ h, Below.heap_setCell _ _ _ _ h, Below.heap_setCell _ _ _ _ h, Below.heap_setCell _ _ _ _ h, Below.heap_setCell _ _ _ _ h]

theorem st5_below {B : Nat} {a w : World} {g : Nat} (v0 v1 v2 v3 v4 : Value) (h : Below B a w) (hg : B ≤ g) : Below B a (st5 w g v0 v1 v2 v3 v4) :=
  ((((h.setCell hg _).setCell hg _).setCell hg _).setCell hg _).setCell hg _

end Go.Proofs.YtlflaalefilplaaDoor
namespace Go.Proofs.YtlflaalefilplaaDoor

theorem inv_even {xh yh r s a b c d : Nat} (h : Inv xh yh r s a b c d false) : a * xh = r + b * yh ∧ d * yh = s + c * xh := by
  have h1 := h.ex
  have h2 := h.ey
  have h3 : a * d = b * c + 1 := by have := h.det; simpa using this
  constructor
  · rw [← h1, ← h2, Nat.mul_add, Nat.mul_add, ← Nat.mul_assoc, ← Nat.mul_assoc, ← Nat.mul_assoc, ← Nat.mul_assoc, h3, Nat.add_mul, Nat.one_mul, Nat.mul_comm a b]; omega
  · rw [← h1, ← h2, Nat.mul_add, Nat.mul_add, ← Nat.mul_assoc, ← Nat.mul_assoc, ← Nat.mul_assoc, ← Nat.mul_assoc, Nat.mul_comm d a, h3, Nat.add_mul, Nat.one_mul, Nat.mul_comm d c, Nat.mul_comm c b]; omega

theorem inv_odd {xh yh r s a b c d : Nat} (h : Inv xh yh r s a b c d true) : b * yh = r + a * xh ∧ c * xh = s + d * yh := by
  have h1 := h.ex
  have h2 := h.ey
  have h3 : b * c = a * d + 1 := by have := h.det; simpa using this
  constructor
  · rw [← h1, ← h2, Nat.mul_add, Nat.mul_add, ← Nat.mul_assoc, ← Nat.mul_assoc, ← Nat.mul_assoc, ← Nat.mul_assoc, h3, Nat.add_mul, Nat.one_mul, Nat.mul_comm a b]; omega
  · rw [← h1, ← h2, Nat.mul_add, Nat.mul_add, ← Nat.mul_assoc, ← Nat.mul_assoc, ← Nat.mul_assoc, ← Nat.mul_assoc, Nat.mul_comm c b, h3, Nat.add_mul, Nat.one_mul, Nat.mul_comm d c, Nat.mul_comm d a]; omega

theorem comb {X Y X' Y' a b c d : Nat} (h : (X' + b * Y = a * X ∧ Y' + c * X = d * Y ∧ a * d = b * c + 1) ∨ (X' + a * X = b * Y ∧ Y' + d * Y = c * X ∧ b * c = a * d + 1)) :
    d * X' + b * Y' = X ∧ c * X' + a * Y' = Y := by
  rcases h with ⟨h1, h2, h3⟩ | ⟨h1, h2, h3⟩
  · have e1 : d * X' + d * (b * Y) = a * d * X := by rw [← Nat.mul_add, h1, ← Nat.mul_assoc, Nat.mul_comm d a]
    have e2 : b * Y' + b * c * X = d * (b * Y) := by rw [Nat.mul_assoc, ← Nat.mul_add, h2, Nat.mul_left_comm]
    have e3 : c * X' + b * c * Y = a * (c * X) := by rw [Nat.mul_comm b c, Nat.mul_assoc, ← Nat.mul_add, h1, Nat.mul_left_comm]
    have e4 : a * Y' + a * (c * X) = a * d * Y := by rw [← Nat.mul_add, h2, Nat.mul_assoc]
    rw [h3, Nat.add_mul, Nat.one_mul] at e1 e4
    omega
  · have e1 : d * X' + a * d * X = d * (b * Y) := by rw [Nat.mul_comm a d, Nat.mul_assoc, ← Nat.mul_add, h1]
    have e2 : b * Y' + d * (b * Y) = b * c * X := by rw [Nat.mul_left_comm, ← Nat.mul_add, h2, Nat.mul_assoc]
    have e3 : c * X' + a * (c * X) = b * c * Y := by rw [Nat.mul_left_comm, ← Nat.mul_add, h1, ← Nat.mul_assoc, Nat.mul_comm c b]
    have e4 : a * Y' + a * d * Y = a * (c * X) := by rw [Nat.mul_assoc, ← Nat.mul_add, h2]
    rw [h3, Nat.add_mul, Nat.one_mul] at e2 e3
    omega

theorem gcd_comb {X Y X' Y' a b c d : Nat} (h : (X' + b * Y = a * X ∧ Y' + c * X = d * Y) ∨ (X' + a * X = b * Y ∧ Y' + d * Y = c * X)) (e1 : d * X' + b * Y' = X) (e2 : c * X' + a * Y' = Y) : Nat.gcd X' Y' = Nat.gcd X Y := by
  apply Nat.dvd_antisymm
  · apply Nat.dvd_gcd
    · rw [← e1]; exact Nat.dvd_add (Nat.dvd_mul_left_of_dvd (Nat.gcd_dvd_left _ _) _) (Nat.dvd_mul_left_of_dvd (Nat.gcd_dvd_right _ _) _)
    · rw [← e2]; exact Nat.dvd_add (Nat.dvd_mul_left_of_dvd (Nat.gcd_dvd_left _ _) _) (Nat.dvd_mul_left_of_dvd (Nat.gcd_dvd_right _ _) _)
  · have gx : ∀ k, Nat.gcd X Y ∣ k * X := fun k => Nat.dvd_mul_left_of_dvd (Nat.gcd_dvd_left _ _) _
    have gy : ∀ k, Nat.gcd X Y ∣ k * Y := fun k => Nat.dvd_mul_left_of_dvd (Nat.gcd_dvd_right _ _) _
    rcases h with ⟨h1, h2⟩ | ⟨h1, h2⟩
    · apply Nat.dvd_gcd
      · exact (Nat.dvd_add_iff_left (gy b)).2 (by rw [h1]; exact gx a)
      · exact (Nat.dvd_add_iff_left (gx c)).2 (by rw [h2]; exact gy d)
    · apply Nat.dvd_gcd
      · exact (Nat.dvd_add_iff_left (gx a)).2 (by rw [h1]; exact gy b)
      · exact (Nat.dvd_add_iff_left (gy d)).2 (by rw [h2]; exact gx c)

/-- What two later members of Euclid's sequence are. -/
structure Later (X Y X' Y' : Nat) : Prop where
  gcd : Nat.gcd X' Y' = Nat.gcd X Y
  le : Y' ≤ X'
  lt : X' + Y' < X + Y
  lx : X' ≤ X

theorem later_of {X Y X' Y' a b c d : Nat} (hX : 0 < X) (hle : Y' ≤ X') (hb : 1 ≤ b) (hc : 1 ≤ c) (hd : 1 ≤ d)
    (h : (X' + b * Y = a * X ∧ Y' + c * X = d * Y ∧ a * d = b * c + 1) ∨ (X' + a * X = b * Y ∧ Y' + d * Y = c * X ∧ b * c = a * d + 1)) : Later X Y X' Y' := by
  obtain ⟨e1, e2⟩ := comb h
  have h' : (X' + b * Y = a * X ∧ Y' + c * X = d * Y) ∨ (X' + a * X = b * Y ∧ Y' + d * Y = c * X) := by
    rcases h with ⟨p, q, _⟩ | ⟨p, q, _⟩
    · exact .inl ⟨p, q⟩
    · exact .inr ⟨p, q⟩
  have m1 : X' ≤ d * X' := Nat.le_mul_of_pos_left X' (by omega)
  have m2 : Y' ≤ b * Y' := Nat.le_mul_of_pos_left Y' (by omega)
  have m3 : X' ≤ c * X' := Nat.le_mul_of_pos_left X' (by omega)
  have hx0 : 0 < X' := by
    rcases Nat.eq_zero_or_pos X' with h0 | h0
    · have hy0 : Y' = 0 := by omega
      rw [h0, hy0, Nat.mul_zero, Nat.mul_zero] at e1; omega
    · exact h0
  exact ⟨gcd_comb h' e1 e2, hle, by omega, by omega⟩

theorem lehmer_even {X Y T xl yl r s a b c d xh yh : Nat} (hX : X = xh * T + xl) (hxl : xl < T) (hY : Y = yh * T + yl) (hyl : yl < T) (h : Inv xh yh r s a b c d false) (hb : 1 ≤ b) (hc : 1 ≤ c) (hds : d ≤ s) (hr : b + d + s ≤ r) :
    ∃ X' Y', X' + b * Y = a * X ∧ Y' + c * X = d * Y ∧ Later X Y X' Y' := by
  obtain ⟨e1, e2⟩ := inv_even h
  have f1 : a * X = r * T + b * yh * T + a * xl := by rw [hX, Nat.mul_add, ← Nat.mul_assoc, e1, Nat.add_mul]
  have f2 : b * Y = b * yh * T + b * yl := by rw [hY, Nat.mul_add, ← Nat.mul_assoc]
  have f3 : d * Y = s * T + c * xh * T + d * yl := by rw [hY, Nat.mul_add, ← Nat.mul_assoc, e2, Nat.add_mul]
  have f4 : c * X = c * xh * T + c * xl := by rw [hX, Nat.mul_add, ← Nat.mul_assoc]
  have g1 : b * yl ≤ b * T := Nat.mul_le_mul_left b (by omega)
  have g2 : c * xl ≤ c * T := Nat.mul_le_mul_left c (by omega)
  have g3 : d * yl ≤ d * T := Nat.mul_le_mul_left d (by omega)
  have g4 : b * T + d * T + s * T ≤ r * T := by rw [← Nat.add_mul, ← Nat.add_mul]; exact Nat.mul_le_mul_right T hr
  have g5 : c * T ≤ d * T := Nat.mul_le_mul_right T h.cd
  have g6 : d * T ≤ s * T := Nat.mul_le_mul_right T hds
  have hX0 : 0 < X := by
    have h1 := h.ex
    have h2 := Nat.mul_pos (show 0 < d by have := h.d1; omega) (show 0 < r by omega)
    have h3 := Nat.mul_pos (show 0 < xh by omega) (show 0 < T by omega)
    omega
  obtain ⟨X', hX'⟩ : ∃ X', X' + b * Y = a * X := ⟨a * X - b * Y, by omega⟩
  obtain ⟨Y', hY'⟩ : ∃ Y', Y' + c * X = d * Y := ⟨d * Y - c * X, by omega⟩
  refine ⟨X', Y', hX', hY', later_of hX0 (by omega) hb hc h.d1 (.inl ⟨hX', hY', by have := h.det; simpa using this⟩)⟩

theorem lehmer_odd {X Y T xl yl r s a b c d xh yh : Nat} (hX : X = xh * T + xl) (hxl : xl < T) (hY : Y = yh * T + yl) (hyl : yl < T) (h : Inv xh yh r s a b c d true) (hb : 1 ≤ b) (ha : a ≤ b) (hc : 1 ≤ c) (hds : d ≤ s) (hr : b + d + s ≤ r) :
    ∃ X' Y', X' + a * X = b * Y ∧ Y' + d * Y = c * X ∧ Later X Y X' Y' := by
  obtain ⟨e1, e2⟩ := inv_odd h
  have f1 : a * X = a * xh * T + a * xl := by rw [hX, Nat.mul_add, ← Nat.mul_assoc]
  have f2 : b * Y = r * T + a * xh * T + b * yl := by rw [hY, Nat.mul_add, ← Nat.mul_assoc, e1, Nat.add_mul]
  have f3 : d * Y = d * yh * T + d * yl := by rw [hY, Nat.mul_add, ← Nat.mul_assoc]
  have f4 : c * X = s * T + d * yh * T + c * xl := by rw [hX, Nat.mul_add, ← Nat.mul_assoc, e2, Nat.add_mul]
  have g1 : a * xl ≤ a * T := Nat.mul_le_mul_left a (by omega)
  have g2 : c * xl ≤ c * T := Nat.mul_le_mul_left c (by omega)
  have g3 : d * yl ≤ d * T := Nat.mul_le_mul_left d (by omega)
  have g4 : b * T + d * T + s * T ≤ r * T := by rw [← Nat.add_mul, ← Nat.add_mul]; exact Nat.mul_le_mul_right T hr
  have g5 : c * T ≤ d * T := Nat.mul_le_mul_right T h.cd
  have g6 : d * T ≤ s * T := Nat.mul_le_mul_right T hds
  have g7 : a * T ≤ b * T := Nat.mul_le_mul_right T ha
  have hX0 : 0 < X := by
    have h1 := h.ex
    have h2 := Nat.mul_pos (show 0 < d by have := h.d1; omega) (show 0 < r by omega)
    have h3 := Nat.mul_pos (show 0 < xh by omega) (show 0 < T by omega)
    omega
  obtain ⟨X', hX'⟩ : ∃ X', X' + a * X = b * Y := ⟨b * Y - a * X, by omega⟩
  obtain ⟨Y', hY'⟩ : ∃ Y', Y' + d * Y = c * X := ⟨c * X - d * Y, by omega⟩
  refine ⟨X', Y', hX', hY', later_of hX0 (by omega) hb hc h.d1 (.inr ⟨hX', hY', by have := h.det; simpa using this⟩)⟩

theorem later_div {X Y : Nat} (hY : 0 < Y) (hle : Y ≤ X) : Later X Y Y (X % Y) := by
  have h := Nat.mod_lt X hY
  refine ⟨gcd_step X Y, by omega, by omega, hle⟩

theorem high_bound {X m l bl s : Nat} (hl : (limbs X).length = m + 3) (hle : (limbs X).getD (m + 2) 0 = l) (h1 : l < 2 ^ bl) (hs : s + bl = 32) : X / 4294967296 ^ m * 2 ^ s < 79228162514264337593543950336 := by
  have e := val_take_succ (limbs X) (m + 2) (by omega)
  rw [List.take_of_length_le (by omega), val_limbs, hle] at e
  have h2 := val_lt (sm_take (sm_limbs X) (m + 2))
  rw [List.length_take, Nat.min_eq_left (by omega)] at h2
  have h3 : X < 4294967296 ^ (m + 2) * 2 ^ bl := by
    have := Nat.mul_le_mul_left (4294967296 ^ (m + 2)) (show l + 1 ≤ 2 ^ bl by omega)
    rw [Nat.mul_add] at this; omega
  rw [Nat.pow_add, Nat.mul_assoc] at h3
  have h4 : X / 4294967296 ^ m < 4294967296 ^ 2 * 2 ^ bl := (Nat.div_lt_iff_lt_mul (Nat.pow_pos (by omega))).2 (by rw [Nat.mul_comm]; exact h3)
  have h5 := Nat.mul_lt_mul_of_pos_right h4 (Nat.pow_pos (n := s) (show 0 < 2 by omega))
  rw [Nat.mul_assoc, ← Nat.pow_add, show bl + s = 32 by omega] at h5
  exact h5

theorem high_64 {V s : Nat} (hs : s < 32) (h : V * 2 ^ s < 79228162514264337593543950336) : V / 2 ^ (32 - s) < 18446744073709551616 := by
  rw [Nat.div_lt_iff_lt_mul (Nat.pow_pos (by omega))]
  have hB : 2 ^ s * 2 ^ (32 - s) = 4294967296 := two_pow_32 hs
  have hp : 0 < 2 ^ s := Nat.pow_pos (by omega)
  apply Nat.lt_of_mul_lt_mul_right (a := 2 ^ s)
  rw [Nat.mul_assoc, Nat.mul_comm (2 ^ (32 - s)), hB]
  exact h

end Go.Proofs.YtlflaalefilplaaDoor
namespace Go.Proofs.YtlflaalefilplaaDoor
open Go.RowKit

/-- What reduce leaves. -/
def RetRed (X Y p : Nat) (w : World) (e : Ending) (w' : World) : Prop :=
  ∃ X' Y' A n c A' n' c', e = .returned (.tuple #[.slice A n c, .slice A' n' c']) ∧ Rd w' A n c (limbs X') ∧ Rd w' A' n' c' (limbs Y') ∧ Later X Y X' Y' ∧ n ≤ p ∧ n' ≤ p ∧ Below w.heap.size w w'

theorem skeep {a b : World} {g : Nat} {v0 v1 v2 v3 : Value} (hb : Below a.heap.size a b) (hg : g < a.heap.size)
    (h : a.cell? ⟨g, 0, none⟩ = some v0 ∧ a.cell? ⟨g, 1, none⟩ = some v1 ∧ a.cell? ⟨g, 2, none⟩ = some v2 ∧ a.cell? ⟨g, 3, none⟩ = some v3) :
    b.cell? ⟨g, 0, none⟩ = some v0 ∧ b.cell? ⟨g, 1, none⟩ = some v1 ∧ b.cell? ⟨g, 2, none⟩ = some v2 ∧ b.cell? ⟨g, 3, none⟩ = some v3 :=
  ⟨(hb.cell (p := ⟨g, 0, none⟩) hg).trans h.1, (hb.cell (p := ⟨g, 1, none⟩) hg).trans h.2.1, (hb.cell (p := ⟨g, 2, none⟩) hg).trans h.2.2.1, (hb.cell (p := ⟨g, 3, none⟩) hg).trans h.2.2.2⟩

theorem len_later {X n N : Nat} (h : (limbs X).length = n) (hle : N ≤ X) : (limbs N).length ≤ n := by
  have := len_le hle; omega

end Go.Proofs.YtlflaalefilplaaDoor
namespace Go.Proofs.YtlflaalefilplaaDoor
open Go.RowKit

/-- Is a pair of a sign and limbs valid? -/
def vldI (b : Bool) (xs : List Nat) : Bool := vldB xs && !(b && xs.length == 0)
/-- A sign and a size as an integer. -/
def sg (b : Bool) (N : Nat) : Int := if b then -(N : Int) else (N : Int)
/-- What a pair of a sign and limbs counts as. -/
def iv (b : Bool) (xs : List Nat) : Int := if vldI b xs then sg b (val xs) else 0
/-- The sign of an integer, as it is kept. -/
def ng (z : Int) : Bool := decide (z < 0)
theorem ng_sg {b : Bool} {N : Nat} (h : 0 < N) : ng (sg b N) = b := by
  unfold ng sg; cases b <;> simp <;> omega
theorem abs_sg (b : Bool) (N : Nat) : (sg b N).natAbs = N := by
  unfold sg; cases b <;> simp
theorem sg_zero (b : Bool) : sg b 0 = 0 := by unfold sg; cases b <;> simp
theorem sg_ng (z : Int) : sg (ng z) z.natAbs = z := by
  unfold sg ng
  by_cases h : z < 0
  · rw [decide_eq_true h]; simp; omega
  · rw [decide_eq_false h]; simp; omega
theorem vldI_z (z : Int) : vldI (ng z) (limbs z.natAbs) = true := by
  unfold vldI
  rw [vldB_limbs]
  by_cases h : z < 0
  · have : 0 < (limbs z.natAbs).length := by rw [limbs_pos (by omega)]; simp
    have h2 : ((limbs z.natAbs).length == 0) = false := by rw [beq_eq_false_iff_ne]; omega
    rw [h2]; simp
  · have : ng z = false := decide_eq_false h
    rw [this]; rfl
theorem iv_z (z : Int) : iv (ng z) (limbs z.natAbs) = z := by
  unfold iv; rw [vldI_z, if_pos rfl, val_limbs, sg_ng]
theorem iv_no {b : Bool} {xs : List Nat} (h : vldI b xs = false) : iv b xs = 0 := by unfold iv; rw [h]; rfl
theorem iv_yes {b : Bool} {xs : List Nat} (h : vldI b xs = true) : iv b xs = sg b (val xs) := by unfold iv; rw [h]; rfl
theorem vldI_parts {b : Bool} {xs : List Nat} (h : vldI b xs = true) : vldB xs = true ∧ (b = true → xs ≠ []) := by
  unfold vldI at h
  rw [Bool.and_eq_true] at h
  refine ⟨h.1, fun hb hx => ?_⟩
  rw [hb, hx] at h
  simp at h
/-- A valid pair is the one that belongs to its integer. -/
theorem canon {b : Bool} {xs : List Nat} (hs : Sm xs) (h : vldI b xs = true) : b = ng (iv b xs) ∧ xs = limbs (iv b xs).natAbs := by
  obtain ⟨h1, h2⟩ := vldI_parts h
  rw [iv_yes h, abs_sg, limbs_val hs h1]
  refine ⟨?_, rfl⟩
  by_cases hx : xs = []
  · subst hx
    have : b = false := by cases b; rfl; exact absurd rfl (h2 rfl)
    subst this; rfl
  · exact (ng_sg (val_pos h1 hx)).symm
theorem iv_abs {b : Bool} {xs : List Nat} {k : Nat} (hs : Sm xs) (hl : xs.length ≤ k) : (limbs (iv b xs).natAbs).length ≤ k := by
  cases h : vldI b xs
  · rw [iv_no h]; simp [limbs_zero]
  · rw [← (canon hs h).2]; exact hl

/-- A pair as a value. -/
abbrev iV (b : Bool) (A : Option Addr) (n c : Nat) : Value := .agg #[.bool b, .slice A n c]
/-- What a function that returns one integer leaves. -/
def RetI (z : Int) (w : World) (e : Ending) (w' : World) : Prop := ∃ A n c, e = .returned (.agg #[.bool (ng z), .slice A n c]) ∧ Rd w' A n c (limbs z.natAbs) ∧ Below w.heap.size w w'

/-- A block of the call's own that holds a pair. -/
def Bx (w : World) (g : Nat) (b : Bool) (A : Option Addr) (n c : Nat) : Prop := w.heap[g]? = some (.cells #[.bool b, .slice A n c] 42 (0, 0))
section
variable {w w' : World} {g : Nat} {b : Bool} {A : Option Addr} {n c : Nat}
theorem Bx.lt (h : Bx w g b A n c) : g < w.heap.size := by
  rcases Nat.lt_or_ge g w.heap.size with hlt | hge
  · exact hlt
  · unfold Bx at h; rw [Array.getElem?_eq_none hge] at h; cases h
theorem Bx.at_ (h : Bx w g b A n c) : w.cell? ⟨g, 0, none⟩ = some (.bool b) ∧ w.cell? ⟨g, 1, none⟩ = some (.slice A n c) ∧ w.frozen? ⟨g, 0, none⟩ = false ∧ w.frozen? ⟨g, 1, none⟩ = false := by
  refine ⟨?_, ?_, ?_, ?_⟩
  iterate 2 (rw [cell_of_row w g _ _ 42 (0, 0) h]; rfl)
  all_goals (unfold Bx at h; simp [World.frozen?, h])
theorem Bx.new (w : World) (b : Bool) (A : Option Addr) (n c : Nat) : Bx (w.alloc (.cells #[.bool b, .slice A n c] 42)) w.heap.size b A n c := heap_alloc_new w _
theorem Bx.keep (h : Bx w g b A n c) (hk : w'.heap[g]? = w.heap[g]?) : Bx w' g b A n c := hk.trans h
theorem Bx.alloc (h : Bx w g b A n c) (o : Obj) : Bx (w.alloc o) g b A n c := h.keep (Below.heap_alloc w o g h.lt)
theorem Bx.below {B : Nat} (h : Bx w g b A n c) (hb : Below B w w') (hg : g < B) : Bx w' g b A n c := h.keep (hb.block g hg)
theorem Bx.bel (h : Bx w g b A n c) (hb : Below w.heap.size w w') : Bx w' g b A n c := h.below hb h.lt
theorem Bx.drew (h : Bx w g b A n c) : Bx w.drew g b A n c := h
theorem Bx.drewN (h : Bx w g b A n c) (k : Nat) : Bx (w.drewN k) g b A n c := h
/-- A pair is stored whole. -/
theorem Bx.put (h : Bx w g b A n c) (b' : Bool) (A' : Option Addr) (n' c' : Nat) : Bx ((w.setCell ⟨g, 0, none⟩ (.bool b')).setCell ⟨g, 1, none⟩ (.slice A' n' c')) g b' A' n' c' := by
  unfold Bx at *
  simp [World.setCell, Array.getElem?_modify, h]
theorem Bx.far (h : Bx w g b A n c) {p : Addr} (hp : g ≠ p.block) (u : Value) : Bx (w.setCell p u) g b A n c := h.keep (Below.heap_setCell w p u g hp)
end
theorem put_below {B : Nat} {a w : World} {g : Nat} (v0 v1 : Value) (h : Below B a w) (hg : B ≤ g) : Below B a ((w.setCell ⟨g, 0, none⟩ v0).setCell ⟨g, 1, none⟩ v1) := (h.setCell hg _).setCell hg _

theorem cast_beq (n : Nat) : ((n : Int) == 0) = (n == 0) := by rw [Bool.eq_iff_iff]; simp

end Go.Proofs.YtlflaalefilplaaDoor
