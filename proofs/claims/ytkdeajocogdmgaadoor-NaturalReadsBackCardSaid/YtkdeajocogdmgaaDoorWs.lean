/- Contracts of the reference's limb, Add, Sub, times and Mul. -/
import Derived.Test.YtkdeajocogdmgaaDoorWr
namespace Go.Proofs.YtkdeajocogdmgaaDoor
open Go.RowKit

/-- A literal of one limb, 0 too. -/
theorem lit1 (w : World) (g d : Nat) (z : Int) (hg : g = w.heap.size) (hz : z = d) (hd : d < 4294967296) : Rd (w.alloc (.cells #[.int .u32 z] 53)) (some ⟨g, 0, none⟩) 1 1 [d] := by
  subst hg
  subst hz
  exact (Own.lit w [d] (by intro y hy; simp at hy; omega)).rd0 1 (by simp)

theorem limb_any (A : Option Addr) (n c : Nat) (xs : List Nat) (w : World) (i : Int) (k x : Nat) (h : Rd w A n c xs) (hn : n ≤ 100000) (hi : i = k) (hx : xs.getD k 0 = x) :
    Calls Tryd.prog 66 #[.slice A n c, .int .i64 i] w fun e w' => e = .returned (.int .u64 (x : Nat)) ∧ w = w' := by
  subst hi
  by_cases hk : k < n
  · obtain ⟨b, o, x', rfl, hb, hx', hxe, hc⟩ := h.at_ hk
    obtain rfl : x' = x := hxe.symm.trans hx
    have g1 : (0 : Int) ≤ (k : Int) := by omega
    have g2 : (k : Int) < (n : Int) := by omega
    clear h hx hxe
    go_enter Tryd.func66, Tryd.ntmps66
    go_wp2
    go_ret
    exact ⟨rfl, rfl⟩
  · obtain rfl : x = 0 := by rw [← hx]; exact getD_none (by rw [h.len]; omega)
    have g2 : (n : Int) ≤ (k : Int) := by omega
    clear h hx
    go_enter Tryd.func66, Tryd.ntmps66
    go_wp2
    go_ret
    exact ⟨rfl, rfl⟩

theorem radd_step {zs X Y : List Nat} {k cy x y : Nat} (hl : zs.length = k) (h : val zs + 4294967296 ^ k * cy = val (X.take k) + val (Y.take k)) (hx : X.getD k 0 = x) (hy : Y.getD k 0 = y) :
    val (zs ++ [(x + y + cy) % 4294967296]) + 4294967296 ^ (k + 1) * ((x + y + cy) / 4294967296) = val (X.take (k + 1)) + val (Y.take (k + 1)) := by
  rw [val_snoc, hl, val_take_succ_any X, val_take_succ_any Y, hx, hy, pow_mul_succ, Nat.add_assoc, ← Nat.mul_add, Nat.mod_add_div, Nat.mul_add, Nat.mul_add]
  omega

theorem radd_last {zs : List Nat} {x y n1 n2 k cy : Nat} (h1 : (limbs x).length = n1) (h2 : (limbs y).length = n2) (hk : k = max n1 n2 + 1)
    (h : val zs + 4294967296 ^ k * cy = val ((limbs x).take k) + val ((limbs y).take k)) : val zs = x + y := by
  rw [List.take_of_length_le (by omega), List.take_of_length_le (by omega), val_limbs, val_limbs] at h
  have a := lt_of_len h1
  have b := lt_of_len h2
  have a2 : 4294967296 ^ n1 ≤ 4294967296 ^ max n1 n2 := Nat.pow_le_pow_right (by omega) (by omega)
  have b2 : 4294967296 ^ n2 ≤ 4294967296 ^ max n1 n2 := Nat.pow_le_pow_right (by omega) (by omega)
  rcases Nat.eq_zero_or_pos cy with h0 | h0
  · subst h0; omega
  · have := Nat.mul_le_mul_left (4294967296 ^ k) h0
    rw [hk, Nat.pow_succ] at this
    rw [hk, Nat.pow_succ] at h
    omega

theorem own_ge {w : World} {base : Nat} {v : Value} {zs : List Nat} (h : Gr w base v zs) : ∀ k, v.ownBlock = some k → base ≤ k := fun k hk => (h.own.lt k hk).1

set_option maxHeartbeats 2000000 in
theorem radd_any (A : Option Addr) (n c : Nat) (xs : List Nat) (A' : Option Addr) (n' c' : Nat) (ys : List Nat) (w : World)
    (h1 : Rd w A n c xs) (h2 : Rd w A' n' c' ys) (hn : n ≤ 10000) (hn' : n' ≤ 10000) :
    Calls Tryd.prog 55 #[.slice A n c, .slice A' n' c'] w (RetN (num xs + num ys) w) := by
  replace h1 := Lib.hid h1
  replace h2 := Lib.hid h2
  go_enter Tryd.func55, Tryd.ntmps55
  go_wp2_with fail
  refine (take_any _ _ _ xs _ h1.out (by omega)).mono ?_
  rintro e w1 ⟨A1, n1, c1, rfl, R1, b1, l1⟩
  replace h2 := Lib.hid (h2.out.below b1)
  replace R1 := Lib.hid R1
  replace b1 := Lib.hid b1
  go_wp2_with fail
  refine (take_any _ _ _ ys _ h2.out (by omega)).mono ?_
  rintro e w2 ⟨A2, n2, c2, rfl, R2, b2, l2⟩
  replace R1 := Lib.hid (R1.out.below b2)
  replace R2 := Lib.hid R2
  replace b1 := Lib.hid (b1.out.trans (b2.mono b1.out.size))
  clear b2 h1 h2
  go_wp2
  go_loopw [5, 6, 7] (fun ov cv iv wr => ∃ (k cy : Nat) (zs : List Nat), k ≤ max n1 n2 + 1 ∧ iv = .int .i64 k ∧ cv = .int .u64 cy ∧ cy ≤ 1 ∧ zs.length = k ∧ Gr wr w2.heap.size ov zs ∧ Below w2.heap.size w2 wr ∧
      val zs + 4294967296 ^ k * cy = val ((limbs (num xs)).take k) + val ((limbs (num ys)).take k))
    (fun _ _ iv _ => max n1 n2 + 1 - (intOf iv).toNat)
  case atStart => exact ⟨0, 0, [], Nat.zero_le _, rfl, rfl, by omega, rfl, Gr.nil_ _ _, Below.refl _ _, by simp [val]⟩
  case round =>
    obtain ⟨k, cy, zs, hk, rfl, rfl, hcy, hl, hG, hB, hv⟩ := hrel
    replace hl := Lib.hid hl
    replace hG := Lib.hid hG
    replace hB := Lib.hid hB
    replace hv := Lib.hid hv
    by_cases hlt : k ≤ max n1 n2
    · obtain ⟨x1, hx1⟩ : ∃ x1, (limbs (num xs)).getD k 0 = x1 := ⟨_, rfl⟩
      obtain ⟨y1, hy1⟩ : ∃ y1, (limbs (num ys)).getD k 0 = y1 := ⟨_, rfl⟩
      have hx1b : x1 < 4294967296 := by rw [← hx1]; exact sm_get (sm_limbs _) k
      have hy1b : y1 < 4294967296 := by rw [← hy1]; exact sm_get (sm_limbs _) k
      replace hx1 := Lib.hid hx1
      replace hy1 := Lib.hid hy1
      go_wp2_with fail
      refine (limb_any _ _ _ _ _ _ k x1 (R1.out.below hB.out) (by omega) rfl hx1.out).mono ?_
      rintro e w' ⟨rfl, rfl⟩
      go_wp2_with fail
      refine (limb_any _ _ _ _ _ _ k y1 (R2.out.below hB.out) (by omega) rfl hy1.out).mono ?_
      rintro e w' ⟨rfl, rfl⟩
      go_wp2_with (at_builtin; refine wpList_append_u32 _ rfl (.tmp 31) (.tmp 34) rfl w2.heap.size _ zs rfl (hG.out.alloc _) ⟨wr.heap.size, 0, none⟩ 1 1 [(x1 + y1 + cy) % 4294967296] rfl (lit1 _ _ _ _ rfl ?c0 ?c3) ?c1 ?c2 ?_)
      case c0 => omega
      case c3 => omega
      case c1 => rw [hl.out]; omega
      case c2 => have := hB.out.size; simp; omega
      intro v' w' hG' hg
      have hB' := Lib.hid (Below.grown (hB.out.alloc hB.out.size _) hg (by have := hB.out.size; simp; omega) (own_ge hG.out))
      replace hG' := Lib.hid hG'
      clear hg
      go_wp2
      go_roundw
      case rel => exact ⟨k + 1, (x1 + y1 + cy) / 4294967296, _, by omega, by go_num, by go_num, by omega, by rw [List.length_append, hl.out]; rfl, hG'.out, hB'.out, radd_step hl.out hv.out hx1.out hy1.out⟩
      case measure => simp [intOf]; omega
    · have hke : k = max n1 n2 + 1 := by omega
      have hfin := Lib.hid (radd_last (n1 := n1) (n2 := n2) R1.out.len R2.out.len hke hv.out)
      obtain ⟨A3, c3, hv3, R3, _⟩ := hG.out.form
      subst hv3
      replace R3 := Lib.hid R3
      clear hke
      go_wp2_with fail
      refine (rtrim_any _ _ _ zs _ R3.out (by rw [hl.out]; omega)).mono ?_
      rintro e w' ⟨n', rfl, rfl, R⟩
      rw [hfin.out] at R
      replace R := Lib.hid R
      have hB' := Lib.hid (b1.out.trans (hB.out.mono b1.out.size))
      go_wp2
      go_ret
      exact ⟨_, _, _, rfl, R.out, hB'.out⟩

set_option maxHeartbeats 2000000 in
theorem rsub_lt (A : Option Addr) (n c : Nat) (xs : List Nat) (A' : Option Addr) (n' c' : Nat) (ys : List Nat) (w : World)
    (h1 : Rd w A n c xs) (h2 : Rd w A' n' c' ys) (hn : n ≤ 10000) (hn' : n' ≤ 10000) (hlt : num xs < num ys) :
    Calls Tryd.prog 79 #[.slice A n c, .slice A' n' c'] w fun e w' => e = .returned (.tuple #[.slice none 0 0, .bool false]) ∧ Below w.heap.size w w' := by
  replace h1 := Lib.hid h1
  replace h2 := Lib.hid h2
  replace hlt := Lib.hid hlt
  go_enter Tryd.func79, Tryd.ntmps79
  go_wp2_with fail
  refine (take_any _ _ _ xs _ h1.out (by omega)).mono ?_
  rintro e w1 ⟨A1, n1, c1, rfl, R1, b1, l1⟩
  replace h2 := Lib.hid (h2.out.below b1)
  replace R1 := Lib.hid R1
  replace b1 := Lib.hid b1
  go_wp2_with fail
  refine (take_any _ _ _ ys _ h2.out (by omega)).mono ?_
  rintro e w2 ⟨A2, n2, c2, rfl, R2, b2, l2⟩
  replace R1 := Lib.hid (R1.out.below b2)
  replace R2 := Lib.hid R2
  replace b1 := Lib.hid (b1.out.trans (b2.mono b1.out.size))
  clear b2 h1 h2
  go_wp2_with fail
  refine (rcmp_b _ _ _ _ _ _ _ _ _ R1.out R2.out (by omega) (by omega) (-1) (cmpi_lt (by have := hlt.out; omega))).mono ?_
  rintro e w3 ⟨rfl, b3⟩
  replace b1 := Lib.hid (b1.out.trans (b3.mono b1.out.size))
  clear b3
  go_wp2
  go_ret2
  exact ⟨rfl, b1.out⟩

theorem rsub_step {zs X Y : List Nat} {k br x y t d : Nat} (hl : zs.length = k) (h : val zs + val (Y.take k) = val (X.take k) + 4294967296 ^ k * br) (hx : X.getD k 0 = x) (hy : Y.getD k 0 = y)
    (ht : t + y + br = x + 4294967296) (hd : d = t % 4294967296) (hb : br ≤ 1) (hxb : x < 4294967296) :
    val (zs ++ [d]) + val (Y.take (k + 1)) = val (X.take (k + 1)) + 4294967296 ^ (k + 1) * (1 - t / 4294967296) := by
  rw [val_snoc, hl, val_take_succ_any X, val_take_succ_any Y, hx, hy, pow_mul_succ]
  have e : d + y + br = x + 4294967296 * (1 - t / 4294967296) := by omega
  have e2 : 4294967296 ^ k * (d + y + br) = 4294967296 ^ k * (x + 4294967296 * (1 - t / 4294967296)) := by rw [e]
  rw [Nat.mul_add, Nat.mul_add, Nat.mul_add] at e2
  omega

set_option maxHeartbeats 2000000 in
theorem rsub_ge (A : Option Addr) (n c : Nat) (xs : List Nat) (A' : Option Addr) (n' c' : Nat) (ys : List Nat) (w : World)
    (h1 : Rd w A n c xs) (h2 : Rd w A' n' c' ys) (hn : n ≤ 10000) (hn' : n' ≤ 10000) (hge : num ys ≤ num xs) :
    Calls Tryd.prog 79 #[.slice A n c, .slice A' n' c'] w fun e w' => ∃ A n c, e = .returned (.tuple #[.slice A n c, .bool true]) ∧ Rd w' A n c (limbs (num xs - num ys)) ∧ Below w.heap.size w w' := by
  replace h1 := Lib.hid h1
  replace h2 := Lib.hid h2
  replace hge := Lib.hid hge
  go_enter Tryd.func79, Tryd.ntmps79
  go_wp2_with fail
  refine (take_any _ _ _ xs _ h1.out (by omega)).mono ?_
  rintro e w1 ⟨A1, n1, c1, rfl, R1, b1, l1⟩
  replace h2 := Lib.hid (h2.out.below b1)
  replace R1 := Lib.hid R1
  replace b1 := Lib.hid b1
  go_wp2_with fail
  refine (take_any _ _ _ ys _ h2.out (by omega)).mono ?_
  rintro e w2 ⟨A2, n2, c2, rfl, R2, b2, l2⟩
  replace R1 := Lib.hid (R1.out.below b2)
  replace R2 := Lib.hid R2
  replace b1 := Lib.hid (b1.out.trans (b2.mono b1.out.size))
  clear b2 h1 h2
  obtain ⟨q, hq, hq0⟩ : ∃ q, cmpi (num xs) (num ys) = q ∧ 0 ≤ q := ⟨_, rfl, by unfold cmpi; have := hge.out; split; omega; split <;> omega⟩
  replace hq := Lib.hid hq
  have hq1 : decide (q < 0) = false := by simp; omega
  go_wp2_with fail
  refine (rcmp_b _ _ _ _ _ _ _ _ _ R1.out R2.out (by omega) (by omega) q hq.out).mono ?_
  rintro e w3 ⟨rfl, b3⟩
  replace R1 := Lib.hid (R1.out.below b3)
  replace R2 := Lib.hid (R2.out.below b3)
  replace b1 := Lib.hid (b1.out.trans (b3.mono b1.out.size))
  clear b3
  go_wp2
  go_loopw [6, 7, 8] (fun ov cv iv wr => ∃ (k br : Nat) (zs : List Nat), k ≤ n1 ∧ iv = .int .i64 k ∧ cv = .int .u64 br ∧ br ≤ 1 ∧ zs.length = k ∧ Gr wr w3.heap.size ov zs ∧ Below w3.heap.size w3 wr ∧
      val zs + val ((limbs (num ys)).take k) = val ((limbs (num xs)).take k) + 4294967296 ^ k * br)
    (fun _ _ iv _ => n1 - (intOf iv).toNat)
  case atStart => exact ⟨0, 0, [], Nat.zero_le _, rfl, rfl, by omega, rfl, Gr.nil_ _ _, Below.refl _ _, by simp [val]⟩
  case round =>
    obtain ⟨k, br, zs, hk, rfl, rfl, hbr, hl, hG, hB, hv⟩ := hrel
    replace hl := Lib.hid hl
    replace hG := Lib.hid hG
    replace hB := Lib.hid hB
    replace hv := Lib.hid hv
    by_cases hlt : k < n1
    · obtain ⟨x1, hx1⟩ : ∃ x1, (limbs (num xs)).getD k 0 = x1 := ⟨_, rfl⟩
      obtain ⟨y1, hy1⟩ : ∃ y1, (limbs (num ys)).getD k 0 = y1 := ⟨_, rfl⟩
      have hx1b : x1 < 4294967296 := by rw [← hx1]; exact sm_get (sm_limbs _) k
      have hy1b : y1 < 4294967296 := by rw [← hy1]; exact sm_get (sm_limbs _) k
      replace hx1 := Lib.hid hx1
      replace hy1 := Lib.hid hy1
      obtain ⟨t, ht⟩ : ∃ t, t + y1 + br = x1 + 4294967296 := ⟨x1 + 4294967296 - y1 - br, by omega⟩
      have htb : t ≤ 8589934591 := by omega
      have hst := rsub_step (zs := zs) (d := t % 4294967296) hl.out hv.out hx1.out hy1.out ht rfl hbr hx1b
      have hti : (x1 : Int) + 4294967296 - y1 - br = (t : Int) := by omega
      have hbd : t / 4294967296 ≤ 1 := by omega
      replace hst := Lib.hid hst
      clear ht
      go_wp2_with fail
      refine (limb_any _ _ _ _ _ _ k x1 (R1.out.below hB.out) (by omega) rfl hx1.out).mono ?_
      rintro e w' ⟨rfl, rfl⟩
      go_wp2_with fail
      refine (limb_any _ _ _ _ _ _ k y1 (R2.out.below hB.out) (by omega) rfl hy1.out).mono ?_
      rintro e w' ⟨rfl, rfl⟩
      go_wp2_with (at_builtin; refine wpList_append_u32 _ rfl (.tmp 34) (.tmp 37) rfl w3.heap.size _ zs rfl (hG.out.alloc _) ⟨wr.heap.size, 0, none⟩ 1 1 [t % 4294967296] rfl (lit1 _ _ _ _ rfl ?c0 ?c3) ?c1 ?c2 ?_)
      case c0 => omega
      case c3 => omega
      case c1 => rw [hl.out]; omega
      case c2 => have := hB.out.size; simp; omega
      intro v' w' hG' hg
      have hB' := Lib.hid (Below.grown (hB.out.alloc hB.out.size _) hg (by have := hB.out.size; simp; omega) (own_ge hG.out))
      replace hG' := Lib.hid hG'
      clear hg
      go_wp2
      go_roundw
      case rel => exact ⟨k + 1, 1 - t / 4294967296, _, by omega, by go_num, by go_num, by omega, by rw [List.length_append, hl.out]; rfl, hG'.out, hB'.out, hst.out⟩
      case measure => simp [intOf]; omega
    · obtain rfl : k = n1 := by omega
      have hzs : Sm zs := hG.out.sm
      have hfin := Lib.hid (sub_last hl.out hzs (by rw [List.take_of_length_le (by rw [hl.out]; omega)]; exact hv.out) R1.out.len hge.out)
      obtain ⟨A3, c3, hv3, R3, _⟩ := hG.out.form
      subst hv3
      replace R3 := Lib.hid R3
      clear hzs
      go_wp2_with fail
      refine (rtrim_any _ _ _ zs _ R3.out (by rw [hl.out]; omega)).mono ?_
      rintro e w' ⟨n', rfl, rfl, R⟩
      rw [hfin.out] at R
      replace R := Lib.hid R
      have hB' := Lib.hid (b1.out.trans (hB.out.mono b1.out.size))
      go_wp2
      go_ret2
      exact ⟨_, _, _, rfl, R.out, hB'.out⟩

end Go.Proofs.YtkdeajocogdmgaaDoor
