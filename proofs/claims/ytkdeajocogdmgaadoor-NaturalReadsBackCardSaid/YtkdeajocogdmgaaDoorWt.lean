/- Contracts of the reference's times and Mul. -/
import Derived.Test.YtkdeajocogdmgaaDoorWs
namespace Go.Proofs.YtkdeajocogdmgaaDoor
open Go.RowKit

theorem times_step {zs X : List Nat} {b k cy x v t : Nat} (hl : zs.length = b + k) (h : val zs + 4294967296 ^ (b + k) * cy = 4294967296 ^ b * (v * val (X.take k))) (hx : X.getD k 0 = x) (ht : t = x * v + cy) :
    val (zs ++ [t % 4294967296]) + 4294967296 ^ (b + (k + 1)) * (t / 4294967296) = 4294967296 ^ b * (v * val (X.take (k + 1))) := by
  rw [val_snoc, hl, val_take_succ_any X, hx, show b + (k + 1) = b + k + 1 by omega, pow_mul_succ, Nat.add_assoc, ← Nat.mul_add, Nat.mod_add_div, ht]
  have e4 : 4294967296 ^ b * (v * (val (X.take k) + 4294967296 ^ k * x)) = 4294967296 ^ b * (v * val (X.take k)) + 4294967296 ^ (b + k) * (x * v) := by
    rw [Nat.mul_add, Nat.mul_add, Nat.pow_add]
    congr 1
    rw [Nat.mul_left_comm v, Nat.mul_assoc, Nat.mul_comm v x]
  rw [e4, Nat.mul_add, ← h]
  omega

theorem times_last {zs X : List Nat} {b n cy v : Nat} (hX : X.length = n) (hs : Sm X) (hv : v < 4294967296) (h : val zs + 4294967296 ^ (b + (n + 1)) * cy = 4294967296 ^ b * (v * val (X.take (n + 1)))) :
    val zs = val X * v * 4294967296 ^ b := by
  rw [List.take_of_length_le (by omega)] at h
  have hx := val_lt hs
  rw [hX] at hx
  have h1 : v * val X < 4294967296 * 4294967296 ^ n := by
    rcases Nat.eq_zero_or_pos v with h0 | h0
    · subst h0; rw [Nat.zero_mul]; exact Nat.mul_pos (by omega) (Nat.pow_pos (by omega))
    · exact Nat.lt_of_le_of_lt (Nat.mul_le_mul_right _ (Nat.le_of_lt hv)) (Nat.mul_lt_mul_of_pos_left hx (by omega))
  have h2 : 4294967296 ^ b * (v * val X) < 4294967296 ^ (b + (n + 1)) := by
    rw [Nat.pow_add, Nat.pow_succ, Nat.mul_comm (4294967296 ^ n)]
    exact Nat.mul_lt_mul_of_pos_left h1 (Nat.pow_pos (by omega))
  have e : 4294967296 ^ b * (v * val X) = val X * v * 4294967296 ^ b := by rw [Nat.mul_comm, Nat.mul_comm v]
  rcases Nat.eq_zero_or_pos cy with h0 | h0
  · subst h0; omega
  · have := Nat.mul_le_mul_left (4294967296 ^ (b + (n + 1))) h0
    omega

set_option maxHeartbeats 2000000 in
theorem times_any (A : Option Addr) (n c x v b : Nat) (bi vi : Int) (w : World)
    (h1 : Rd w A n c (limbs x)) (hn : n ≤ 10000) (hv : v < 4294967296) (hb : b ≤ 10000) (hbi : bi = b) (hvi : vi = v) :
    Calls Tryd.prog 56 #[.slice A n c, .int .u32 vi, .int .i64 bi] w (RetN (x * v * 4294967296 ^ b) w) := by
  subst hbi
  subst hvi
  have hmk : ∀ W : World, (Instr.makeSlice 22 (.int .i64 (b : Int)) (.int .i64 (b : Int))).run Tryd.prog W = .ok (.slice (some ⟨W.heap.size, 0, none⟩) b b) (W.alloc (.cells (madeCells #[.int .u32 0] b) 53)) := fun W => make_u32 b (by omega) .i64 .i64 W
  replace h1 := Lib.hid h1
  go_enter Tryd.func56, Tryd.ntmps56
  go_wp2
  go_loopw [7, 8, 9] (fun ov cv iv wr => ∃ (k cy : Nat) (zs : List Nat), k ≤ n + 1 ∧ iv = .int .i64 k ∧ cv = .int .u64 cy ∧ cy < 4294967296 ∧ zs.length = b + k ∧ Gr wr w.heap.size ov zs ∧ Below w.heap.size w wr ∧
      val zs + 4294967296 ^ (b + k) * cy = 4294967296 ^ b * (v * val ((limbs x).take k)))
    (fun _ _ iv _ => n + 1 - (intOf iv).toNat)
  case atStart => exact ⟨0, 0, List.replicate b 0, Nat.zero_le _, rfl, rfl, by omega, by simp, Gr.zeros w b (by omega), (Below.refl _ _).alloc (Nat.le_refl _) _, by simp [val, val_zeros]⟩
  case round =>
    clear hmk
    obtain ⟨k, cy, zs, hk, rfl, rfl, hcy, hl, hG, hB, hvv⟩ := hrel
    replace hl := Lib.hid hl
    replace hG := Lib.hid hG
    replace hB := Lib.hid hB
    replace hvv := Lib.hid hvv
    by_cases hlt : k ≤ n
    · obtain ⟨x1, hx1⟩ : ∃ x1, (limbs x).getD k 0 = x1 := ⟨_, rfl⟩
      have hx1b : x1 < 4294967296 := by rw [← hx1]; exact sm_get (sm_limbs _) k
      replace hx1 := Lib.hid hx1
      have hp : (x1 : Int) * (v : Int) ≤ 18446744065119617025 := by have := mul_bd hx1b hv; have e : ((x1 * v : Nat) : Int) = (x1 : Int) * v := Int.natCast_mul x1 v; omega
      have hp0 : 0 ≤ (x1 : Int) * (v : Int) := by have e : ((x1 * v : Nat) : Int) = (x1 : Int) * v := Int.natCast_mul x1 v; omega
      obtain ⟨t, ht⟩ : ∃ t, t = x1 * v + cy := ⟨_, rfl⟩
      have htc : (x1 : Int) * (v : Int) + (cy : Int) = (t : Int) := by rw [ht]; simp
      have htb : (t : Int) ≤ 18446744069414584320 := by omega
      have htd : t / 4294967296 < 4294967296 := by omega
      have hst := times_step hl.out hvv.out hx1.out ht
      replace hst := Lib.hid hst
      replace htd := Lib.hid htd
      clear ht
      go_wp2_with fail
      refine (limb_any _ _ _ _ _ _ k x1 (h1.out.below hB.out) (by omega) rfl hx1.out).mono ?_
      rintro e w' ⟨rfl, rfl⟩
      go_wp2_with (at_builtin; refine wpList_append_u32 _ rfl (.tmp 27) (.tmp 30) rfl w.heap.size _ zs rfl (hG.out.alloc _) ⟨wr.heap.size, 0, none⟩ 1 1 [t % 4294967296] rfl (lit1 _ _ _ _ rfl ?c0 ?c3) ?c1 ?c2 ?_)
      case c0 => omega
      case c3 => omega
      case c1 => rw [hl.out]; omega
      case c2 => have := hB.out.size; simp; omega
      intro v' w' hG' hg
      have hB' := Lib.hid (Below.grown (hB.out.alloc hB.out.size _) hg (by have := hB.out.size; simp; omega) (own_ge hG.out))
      replace hG' := Lib.hid hG'
      clear hg
      go_wp2
      go_roundw
      case rel => exact ⟨k + 1, t / 4294967296, _, by omega, by go_num, by go_num, htd.out, by rw [List.length_append, hl.out]; rfl, hG'.out, hB'.out, hst.out⟩
      case measure => simp [intOf]; omega
    · obtain rfl : k = n + 1 := by omega
      have hfin := Lib.hid (times_last h1.out.len (sm_limbs x) hv hvv.out)
      obtain ⟨A3, c3, hv3, R3, _⟩ := hG.out.form
      subst hv3
      replace R3 := Lib.hid R3
      go_wp2_with fail
      refine (rtrim_any _ _ _ zs _ R3.out (by rw [hl.out]; omega)).mono ?_
      rintro e w' ⟨n', rfl, rfl, R⟩
      rw [hfin.out, val_limbs] at R
      replace R := Lib.hid R
      go_wp2
      go_ret
      exact ⟨_, _, _, rfl, R.out, hB.out⟩

set_option maxHeartbeats 2000000 in
theorem rmul_any (A : Option Addr) (n c : Nat) (xs : List Nat) (A' : Option Addr) (n' c' : Nat) (ys : List Nat) (w : World)
    (h1 : Rd w A n c xs) (h2 : Rd w A' n' c' ys) (hn : n ≤ 2000) (hn' : n' ≤ 2000) :
    Calls Tryd.prog 81 #[.slice A n c, .slice A' n' c'] w (RetN (num xs * num ys) w) := by
  replace h1 := Lib.hid h1
  replace h2 := Lib.hid h2
  go_enter Tryd.func81, Tryd.ntmps81
  go_wp2_with fail
  refine (take_any _ _ _ xs _ h1.out (by omega)).mono ?_
  rintro e w1 ⟨A1, n1, c1, rfl, R1, b1, l1⟩
  replace h2 := Lib.hid (h2.out.below b1)
  replace R1 := Lib.hid R1
  replace b1 := Lib.hid b1
  go_wp2_with fail
  refine (take_any _ _ _ ys _ h2.out (by omega)).mono ?_
  rintro e w2 ⟨A2, n2, c2, rfl, R2, b2, l2⟩
  replace R1 := Lib.hid (R1.out.below b2)
  replace R2 := Lib.hid R2
  replace b1 := Lib.hid (b1.out.trans (b2.mono b1.out.size))
  clear b2 h1 h2
  go_wp2
  go_loopw [5, 6] (fun ov iv wr => ∃ (k : Nat) (A3 : Option Addr) (n3 c3 : Nat), k ≤ n2 ∧ iv = .int .i64 k ∧ ov = .slice A3 n3 c3 ∧ Rd wr A3 n3 c3 (limbs (num xs * val ((limbs (num ys)).take k))) ∧ Below w2.heap.size w2 wr)
    (fun _ iv _ => n2 - (intOf iv).toNat)
  case atStart => exact ⟨0, none, 0, 0, Nat.zero_le _, rfl, rfl, by simp only [List.take_zero, val, Nat.mul_zero, limbs_zero]; exact Rd.nil_ _ _ _, Below.refl _ _⟩
  case round =>
    obtain ⟨k, A3, n3, c3, hk, rfl, rfl, R3, hB⟩ := hrel
    have hX := lt_of_len R1.out.len
    have hn3 : n3 ≤ n1 + k := by
      rw [← R3.len]
      apply len_of_lt
      rw [Nat.pow_add]
      have := val_lt (sm_take (sm_limbs (num ys)) k)
      have h3 : 4294967296 ^ ((limbs (num ys)).take k).length ≤ 4294967296 ^ k := Nat.pow_le_pow_right (by omega) (by rw [List.length_take]; omega)
      exact Nat.mul_lt_mul_of_lt_of_le hX (by omega) (Nat.pow_pos (by omega))
    replace R3 := Lib.hid R3
    replace hB := Lib.hid hB
    replace hX := Lib.hid hX
    by_cases hlt : k < n2
    · obtain ⟨bb, ob, y1, rfl, hbb, hy1, hye, hcy⟩ := (R2.out.below hB.out).at_ hlt
      have hst : num xs * val ((limbs (num ys)).take k) + num xs * y1 * 4294967296 ^ k = num xs * val ((limbs (num ys)).take (k + 1)) := by
        rw [val_take_succ_any, hye, Nat.mul_add, Nat.mul_comm (4294967296 ^ k), Nat.mul_assoc]
      replace hst := Lib.hid hst
      clear hye
      have g1 : (0 : Int) ≤ (k : Int) := by omega
      have g2 : (k : Int) < (n2 : Int) := by omega
      go_wp2_with fail
      refine (times_any _ _ _ (num xs) y1 k _ _ _ (R1.out.below hB.out) (by omega) hy1 (by omega) rfl rfl).mono ?_
      rintro e w4 ⟨A4, n4, c4, rfl, R4, b4⟩
      have hn4 : n4 ≤ n1 + 1 + k := by
        rw [← R4.len]
        apply len_of_lt
        rw [Nat.pow_add, Nat.pow_succ]
        exact Nat.mul_lt_mul_of_pos_right (Nat.mul_lt_mul_of_lt_of_le hX.out (by omega) (by omega)) (Nat.pow_pos (by omega))
      replace R3 := Lib.hid (R3.out.below b4)
      replace R4 := Lib.hid R4
      replace hB := Lib.hid (hB.out.trans (b4.mono hB.out.size))
      clear b4 hcy
      go_wp2_with fail
      refine (radd_any _ _ _ _ _ _ _ _ _ R3.out R4.out (by omega) (by omega)).mono ?_
      rintro e w5 ⟨A5, n5, c5, rfl, R5, b5⟩
      rw [num_limbs, num_limbs, hst.out] at R5
      replace R5 := Lib.hid R5
      replace hB := Lib.hid (hB.out.trans (b5.mono hB.out.size))
      clear b5
      go_wp2
      go_roundw
      case rel => exact ⟨k + 1, _, _, _, by omega, by go_num, rfl, R5.out, hB.out⟩
      case measure => simp [intOf]; omega
    · obtain rfl : k = n2 := by omega
      have e : num xs * val ((limbs (num ys)).take k) = num xs * num ys := by rw [List.take_of_length_le (by rw [R2.out.len]; omega), val_limbs]
      have R6 := R3.out
      rw [e] at R6
      replace R6 := Lib.hid R6
      have hB' := Lib.hid (b1.out.trans (hB.out.mono b1.out.size))
      clear e
      go_wp2
      go_ret
      exact ⟨_, _, _, rfl, R6.out, hB'.out⟩

end Go.Proofs.YtkdeajocogdmgaaDoor
