/- Contracts of gcdUint, limbAt and difference. -/
import Derived.Test.YtpafgkggkgmamaaWu
namespace Go.Proofs.Ytpafgkggkgmamaa
open Go.RowKit

set_option maxHeartbeats 1000000 in
theorem gcdUint_any (v y : Nat) (w : World) (hv : v < 18446744073709551616) (hy : y < 18446744073709551616) :
    Calls Try.prog 54 #[.int .u64 v, .int .u64 y] w fun e w' => e = .returned (.int .u64 (Nat.gcd v y : Nat)) ∧ Below w.heap.size w w' := by
  replace hv := Lib.hid hv
  replace hy := Lib.hid hy
  go_enter Try.func54, Try.ntmps54
  go_wp2
  go_loopg [0, 1] y (fun b av bv wr => ∃ a : Nat, av = .int .u64 a ∧ bv = .int .u64 b ∧ Nat.gcd a b = Nat.gcd v y ∧ Below w.heap.size w wr)
  case atStart => exact ⟨v, rfl, rfl, rfl, Below.refl _ _⟩
  case round =>
    obtain ⟨a, rfl, rfl, hg, hB⟩ := hrel
    by_cases h0 : gk = 0
    · subst h0
      rw [Nat.gcd_zero_right] at hg
      replace hg := Lib.hid hg
      replace hB := Lib.hid hB
      go_wp2
      go_ret
      exact ⟨ret_u32 (by rw [hg.out]), hB.out⟩
    · have hne : ((gk : Int) != 0) = true := by simp; omega
      have hpos : (1 : Int) ≤ (gk : Int) := by omega
      have ha0 : (0 : Int) ≤ (a : Int) := by omega
      have hml := Nat.mod_lt a (show 0 < gk by omega)
      have hmi : (a : Int) % (gk : Int) = ((a % gk : Nat) : Int) := (Int.natCast_emod a gk).symm
      have hg2 := (gcd_step a gk).trans hg
      replace hg2 := Lib.hid hg2
      replace hml := Lib.hid hml
      replace hB := Lib.hid hB
      clear hg h0
      go_wp2
      go_quiet (fail)
      go_wp2
      go_roundg (a % gk)
      case measure => exact hml.out
      case rel => exact ⟨gk, rfl, rfl, hg2.out, below_drewN hB.out _⟩

theorem limbAt_any (A : Option Addr) (n c : Nat) (xs : List Nat) (w : World) (i : Int) (k x : Nat) (h : Rd w A n c xs) (hn : n ≤ 100000) (hi : i = k) (hx : xs.getD k 0 = x) :
    Calls Try.prog 70 #[.slice A n c, .int .i64 i] w fun e w' => e = .returned (.int .u32 (x : Nat)) ∧ w' = w := by
  subst hi
  by_cases hk : k < n
  · obtain ⟨b, o, x', rfl, hb, hx', hxe, hc⟩ := h.at_ hk
    obtain rfl : x' = x := hxe.symm.trans hx
    have g1 : (0 : Int) ≤ (k : Int) := by omega
    have g2 : (k : Int) < (n : Int) := by omega
    clear h hx hxe
    go_enter Try.func70, Try.ntmps70
    go_wp2
    go_ret
    exact ⟨rfl, rfl⟩
  · obtain rfl : x = 0 := by rw [← hx]; exact getD_none (by rw [h.len]; omega)
    have g2 : (n : Int) ≤ (k : Int) := by omega
    clear h hx
    go_enter Try.func70, Try.ntmps70
    go_wp2
    go_ret
    exact ⟨rfl, rfl⟩

theorem limbAt_eq (A : Option Addr) (n c : Nat) (xs : List Nat) (w : World) (i : Int) (k x : Nat) (h : Rd w A n c xs) (hn : n ≤ 100000) (hi : i = k) (hx : xs.getD k 0 = x) :
    Calls Try.prog 70 #[.slice A n c, .int .i64 i] w fun e w' => e = .returned (.int .u32 (x : Nat)) ∧ w = w' :=
  (limbAt_any A n c xs w i k x h hn hi hx).mono fun _ _ ⟨a, b⟩ => ⟨a, b.symm⟩

set_option maxHeartbeats 4000000 in
theorem diff_any (A : Option Addr) (n c x : Nat) (A' : Option Addr) (n' c' y : Nat) (p q : Nat) (w : World)
    (h1 : Rd w A n c (limbs x)) (h2 : Rd w A' n' c' (limbs y)) (hn : n ≤ 10000) (hn' : n' ≤ 10000) (hp : p < 4294967296) (hq : q < 4294967296) (hle : q * y ≤ p * x) (hlt : p * x - q * y < 4294967296 ^ max n n') :
    Calls Try.prog 65 #[.int .u64 p, .slice A n c, .int .u64 q, .slice A' n' c'] w (RetN (p * x - q * y) w) := by
  have hmk : ∀ W : World, (Instr.makeSlice 22 (.int .i64 (max (n : Int) (n' : Int))) (.int .i64 (max (n : Int) (n' : Int)))).run Try.prog W = .ok (.slice (some ⟨W.heap.size, 0, none⟩) (max n n') (max n n')) (W.alloc (.cells (madeCells #[.int .u32 0] (max n n')) 41)) := fun W => by
    rw [show max (n : Int) (n' : Int) = ((max n n' : Nat) : Int) by omega]
    exact make_u32 (max n n') (by omega) .i64 .i64 W
  replace h1 := Lib.hid h1
  replace h2 := Lib.hid h2
  replace hle := Lib.hid hle
  replace hlt := Lib.hid hlt
  go_enter Try.func65, Try.ntmps65
  go_wp2
  go_loopw [10, 11, 12, 23] (fun pv mv bv iv wr => ∃ (k plus minus br : Nat) (zs : List Nat), k ≤ max n n' ∧ iv = .int .i64 k ∧ pv = .int .u64 plus ∧ mv = .int .u64 minus ∧ bv = .int .u64 br ∧ br ≤ 1 ∧ plus < 4294967296 ∧ minus < 4294967296 ∧
      zs.length = max n n' ∧ Own wr w.heap.size zs ∧ Below w.heap.size w wr ∧
      val (zs.take k) + q * val ((limbs y).take k) + 4294967296 ^ k * plus = p * val ((limbs x).take k) + 4294967296 ^ k * (minus + br))
    (fun _ _ _ iv _ => max n n' - (intOf iv).toNat)
  case atStart => exact ⟨0, 0, 0, 0, List.replicate (max n n') 0, Nat.zero_le _, rfl, rfl, rfl, rfl, by omega, by omega, by omega, by simp, Own.new _ _, (Below.refl _ _).alloc (Nat.le_refl _) _, by simp [val]⟩
  case round =>
    clear hmk
    obtain ⟨k, plus, minus, br, zs, hk, rfl, rfl, rfl, rfl, hbr, hpl, hmi, hl, hO, hB, hv⟩ := hrel
    replace hl := Lib.hid hl
    replace hO := Lib.hid hO
    replace hB := Lib.hid hB
    replace hv := Lib.hid hv
    by_cases hlt2 : k < max n n'
    · obtain ⟨x1, hx1⟩ : ∃ x1, (limbs x).getD k 0 = x1 := ⟨_, rfl⟩
      obtain ⟨y1, hy1⟩ : ∃ y1, (limbs y).getD k 0 = y1 := ⟨_, rfl⟩
      have hx1b : x1 < 4294967296 := by rw [← hx1]; exact sm_get (sm_limbs _) k
      have hy1b : y1 < 4294967296 := by rw [← hy1]; exact sm_get (sm_limbs _) k
      obtain ⟨P, hP⟩ : ∃ P, P = plus + p * x1 := ⟨_, rfl⟩
      obtain ⟨M, hM⟩ : ∃ M, M = minus + q * y1 := ⟨_, rfl⟩
      have hp1 := mul_bd hp hx1b
      have hq1 := mul_bd hq hy1b
      have hPc : (plus : Int) + (p : Int) * (x1 : Int) = (P : Int) := by rw [hP]; simp
      have hMc : (minus : Int) + (q : Int) * (y1 : Int) = (M : Int) := by rw [hM]; simp
      have hPb : (P : Int) ≤ 18446744069414584320 := by omega
      have hMb : (M : Int) ≤ 18446744069414584320 := by omega
      have hp2 : (p : Int) * (x1 : Int) ≤ 18446744065119617025 := by have e : ((p * x1 : Nat) : Int) = (p : Int) * x1 := Int.natCast_mul p x1; omega
      have hp3 : 0 ≤ (p : Int) * (x1 : Int) := by have e : ((p * x1 : Nat) : Int) = (p : Int) * x1 := Int.natCast_mul p x1; omega
      have hq2 : (q : Int) * (y1 : Int) ≤ 18446744065119617025 := by have e : ((q * y1 : Nat) : Int) = (q : Int) * y1 := Int.natCast_mul q y1; omega
      have hq3 : 0 ≤ (q : Int) * (y1 : Int) := by have e : ((q * y1 : Nat) : Int) = (q : Int) * y1 := Int.natCast_mul q y1; omega
      obtain ⟨d, b', hd, hb', hdd, he1, he2⟩ := diff_limb (P := P) (M := M) hbr
      have hst := diff_step (by rw [hl.out]; exact hlt2) hv.out hx1 hy1 hP hM hdd
      have hPd : P / 4294967296 < 4294967296 := by omega
      have hMd : M / 4294967296 < 4294967296 := by omega
      have hcell := hO.out.cell (k := k) (by rw [hl.out]; omega)
      have hfz := hO.out.frozen k
      replace hx1 := Lib.hid hx1
      replace hy1 := Lib.hid hy1
      replace hst := Lib.hid hst
      replace he1 := Lib.hid he1
      replace he2 := Lib.hid he2
      replace hPd := Lib.hid hPd
      replace hMd := Lib.hid hMd
      replace hd := Lib.hid hd
      clear hp1 hq1 hP hM hdd
      go_wp2_with fail
      refine (limbAt_eq _ _ _ _ _ _ k x1 (h1.out.below hB.out) (by omega) rfl hx1.out).mono ?_
      rintro e w' ⟨rfl, rfl⟩
      go_wp2_with fail
      refine (limbAt_eq _ _ _ _ _ _ k y1 (h2.out.below hB.out) (by omega) rfl hy1.out).mono ?_
      rintro e w' ⟨rfl, rfl⟩
      go_wp2
      go_roundw
      case rel =>
        have O2 := hO.out.set_ k d hd.out
        simp only [IntKind.wrap_u64]
        rw [he1.out, he2.out]
        exact ⟨k + 1, P / 4294967296, M / 4294967296, b', _, by omega, by go_num, by go_num, by go_num, rfl, hb', hPd.out, hMd.out, by rw [List.length_set]; exact hl.out, O2, hB.out.setCell (Nat.le_refl _) _, hst.out⟩
      case measure => simp [intOf]; omega
    · obtain rfl : k = max n n' := by omega
      have hfin := Lib.hid (diff_last hl.out hO.out.sm (by rw [h1.out.len]; omega) (by rw [h2.out.len]; omega) (val_limbs x) (val_limbs y) hv.out hle.out hlt.out)
      go_wp2_with fail
      refine (trim_any _ _ _ zs _ (hO.out.rdn hl.out (Nat.le_refl _)) (by omega)).mono ?_
      rintro e w' ⟨n', rfl, rfl, R⟩
      rw [hfin.out] at R
      replace R := Lib.hid R
      go_wp2
      go_ret
      exact ⟨_, _, _, rfl, R.out, hB.out⟩

end Go.Proofs.Ytpafgkggkgmamaa
