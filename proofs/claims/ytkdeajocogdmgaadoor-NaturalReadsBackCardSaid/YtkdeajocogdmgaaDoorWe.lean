/- Contracts of addProduct and of natural.Mul. -/
import Derived.Test.YtkdeajocogdmgaaDoorWd
namespace Go.Proofs.YtkdeajocogdmgaaDoor
open Go.RowKit

/-- A window of the block was increased by x times ys. -/
def RetAddP (g o m x : Nat) (zs ys : List Nat) (w : World) (e : Ending) (w' : World) : Prop :=
  ∃ (cy : Nat) (zs' : List Nat), e = .returned (.int .u32 cy) ∧ cy < 4294967296 ∧ Own w' g zs' ∧ zs'.length = zs.length ∧ zs'.take o = zs.take o ∧ zs'.drop (o + m) = zs.drop (o + m) ∧
    val zs' + 4294967296 ^ (o + m) * cy = val zs + 4294967296 ^ o * (x * val ys) ∧ w.grownBy w' (some g)

theorem grown_set {a w : World} {g : Nat} (h : a.grownBy w (some g)) (i : Nat) (u : Value) : a.grownBy (w.setCell ⟨g, i, none⟩ u) (some g) :=
  ⟨h.os, h.tape, h.output, by simpa [World.setCell] using h.size, fun j hj hne => (Below.heap_setCell w ⟨g, i, none⟩ u j (by rintro rfl; exact hne rfl)).trans (h.block j hj hne)⟩

set_option maxHeartbeats 1000000 in
theorem addProduct_any (g o m cs : Nat) (zs : List Nat) (A : Option Addr) (cb : Nat) (ys : List Nat) (x : Nat) (w : World)
    (hO : Own w g zs) (hom : o + m ≤ zs.length) (hR : RdX w g A m cb ys) (hx : x < 4294967296) (hm : m ≤ 100000) :
    Calls Tryd.prog 98 #[.slice (some ⟨g, o, none⟩) m cs, .slice A m cb, .int .u32 x] w (RetAddP g o m x zs ys w) := by
  replace hO := Lib.hid hO
  replace hR := Lib.hid hR
  replace hom := Lib.hid hom
  go_enter Tryd.func98, Tryd.ntmps98
  go_wp2
  go_loopw [7, 12] (fun cv iv wr => ∃ (k cy : Nat) (zs' : List Nat), k ≤ m ∧ iv = .int .i64 k ∧ cv = .int .u64 cy ∧ cy < 4294967296 ∧ Own wr g zs' ∧ zs'.length = zs.length ∧ zs'.take o = zs.take o ∧ zs'.drop (o + k) = zs.drop (o + k) ∧
    val zs' + 4294967296 ^ (o + k) * cy = val zs + 4294967296 ^ o * (x * val (ys.take k)) ∧ w.grownBy wr (some g))
    (fun _ iv _ => m - (intOf iv).toNat)
  case atStart => exact ⟨0, 0, zs, Nat.zero_le _, rfl, rfl, by omega, hO.out, rfl, rfl, rfl, by simp [val], World.grownBy.refl _ _⟩
  case round =>
    obtain ⟨k, cy, zs', hk, rfl, rfl, hcy, hO', hl, ht, hd, hv, hg⟩ := hrel
    replace hO' := Lib.hid hO'
    replace hl := Lib.hid hl
    replace ht := Lib.hid ht
    replace hd := Lib.hid hd
    replace hv := Lib.hid hv
    replace hg := Lib.hid hg
    by_cases hlt : k < m
    · have hkl : o + k < zs'.length := by rw [hl.out]; have := hom.out; omega
      obtain ⟨b2, o2, y1, rfl, hb2, hy1, hye, hcy2⟩ := (hR.out.grown hg.out).at_ hlt
      replace hye := Lib.hid hye
      have hcell := hO'.out.cell hkl
      obtain ⟨s, hs⟩ : ∃ s, zs'.getD (o + k) 0 = s := ⟨_, rfl⟩
      have hs1 : s < 4294967296 := by rw [← hs]; exact sm_get hO'.out.sm _
      rw [hs] at hcell
      replace hs := Lib.hid hs
      have hfz := hO'.out.frozen (o + k)
      have hkl := Lib.hid hkl
      have hp : (x : Int) * (y1 : Int) ≤ 18446744065119617025 := by have := mul_bd hx hy1; have e : ((x * y1 : Nat) : Int) = (x : Int) * y1 := Int.natCast_mul x y1; omega
      have hp0 : 0 ≤ (x : Int) * (y1 : Int) := by have e : ((x * y1 : Nat) : Int) = (x : Int) * y1 := Int.natCast_mul x y1; omega
      obtain ⟨t, ht'⟩ : ∃ t, t = cy + (x * y1 + s) := ⟨_, rfl⟩
      have htc : ((t : Nat) : Int) = (cy : Int) + ((x : Int) * y1 + s) := by rw [ht']; simp
      replace ht' := Lib.hid ht'
      replace htc := Lib.hid htc
      have htb : t / 4294967296 < 4294967296 := by have := ht'.out; have := mul_bd hx hy1; omega
      replace htb := Lib.hid htb
      go_wp2
      go_roundw
      case rel =>
        rw [← htc.out]
        have O2 := hO'.out.set_ (o + k) (t % 4294967296) (by omega)
        rw [show ((t % 4294967296 : Nat) : Int) = (t : Int) % 4294967296 by omega] at O2
        exact ⟨k + 1, t / 4294967296, _, by omega, by go_num, by go_num, htb.out, O2, by rw [List.length_set]; exact hl.out, by rw [take_set_low _ _ (by omega)]; exact ht.out, by rw [show o + (k + 1) = o + k + 1 by omega, drop_set_succ]; exact drop_step' hd.out, mul_step hkl.out hv.out hs.out hye.out ht'.out, grown_set hg.out _ _⟩
      case measure => simp [intOf]; omega
    · obtain rfl : k = m := by omega
      go_wp2
      go_ret
      have e : ys.take k = ys := List.take_of_length_le (by rw [hR.out.len]; omega)
      refine ⟨cy, zs', rfl, hcy, hO'.out, hl.out, ht.out, hd.out, ?_, hg.out⟩
      have := hv.out
      rw [e] at this
      exact this

set_option maxHeartbeats 1000000 in
theorem mul_any (A : Option Addr) (n c : Nat) (xs : List Nat) (A' : Option Addr) (n' c' : Nat) (ys : List Nat) (w : World)
    (h1 : Rd w A n c xs) (h2 : Rd w A' n' c' ys) (hn : n ≤ 10000) (hn' : n' ≤ 10000) :
    Calls Tryd.prog 80 #[.slice A n c, .slice A' n' c'] w (RetN (num xs * num ys) w) := by
  replace h1 := Lib.hid h1
  replace h2 := Lib.hid h2
  go_enter Tryd.func80, Tryd.ntmps80
  go_wp2_with fail
  refine (known_any _ _ _ xs _ h1.out (by omega)).mono ?_
  rintro e w' ⟨B1, n1, c1, rfl, rfl, R1, l1⟩
  replace R1 := Lib.hid R1
  go_wp2_with fail
  refine (known_any _ _ _ ys _ h2.out (by omega)).mono ?_
  rintro e w' ⟨B2, n2, c2, rfl, rfl, R2, l2⟩
  replace R2 := Lib.hid R2
  have hmk : ∀ W : World, (Instr.makeSlice 22 (.int .i64 ((n1 : Int) + n2)) (.int .i64 ((n1 : Int) + n2))).run Tryd.prog W = .ok (.slice (some ⟨W.heap.size, 0, none⟩) (n1 + n2) (n1 + n2)) (W.alloc (.cells (madeCells #[.int .u32 0] (n1 + n2)) 53)) := fun W => by
    have := make_u32 (n1 + n2) (by omega) .i64 .i64 W
    rw [Int.natCast_add] at this
    exact this
  go_wp2
  go_loopw [20] (fun iv wr => ∃ (k : Nat) (zs : List Nat), k ≤ n1 ∧ iv = .int .i64 k ∧ zs.length = n1 + n2 ∧ Own wr w.heap.size zs ∧ Below w.heap.size w wr ∧ val zs = val ((limbs (num xs)).take k) * num ys ∧ zs.drop (k + n2) = List.replicate (n1 - k) 0)
    (fun iv _ => n1 - (intOf iv).toNat)
  case atStart => exact ⟨0, List.replicate (n1 + n2) 0, Nat.zero_le _, rfl, by simp, Own.new _ _, (Below.refl _ _).alloc (Nat.le_refl _) _, by simp [val, val_zeros], by simp⟩
  case round =>
    clear hmk
    obtain ⟨k, zs, hk, rfl, hl, hO, hB, hv, hd⟩ := hrel
    replace hl := Lib.hid hl
    replace hO := Lib.hid hO
    replace hB := Lib.hid hB
    replace hv := Lib.hid hv
    replace hd := Lib.hid hd
    by_cases hlt : k < n1
    · obtain ⟨b1, o1, x1, rfl, hb1, hx1, hxe, hcx⟩ := (R1.out.base hB.out).at_ hlt
      replace hxe := Lib.hid hxe
      go_wp2_with fail
      rw [show k + n2 - k = n2 by omega]
      refine (addProduct_any w.heap.size k n2 _ zs B2 c2 (limbs (num ys)) x1 _ hO.out (by rw [hl.out]; omega) ((R2.out.base hB.out).x (Nat.le_refl _)) hx1 (by omega)).mono ?_
      rintro e w' ⟨cy, zs', rfl, hcy, O', hl', ht', hd', hv', hg'⟩
      have hkl : k + n2 < zs'.length := by rw [hl', hl.out]; omega
      have hz0 : zs'.getD (k + n2) 0 = 0 := getD_drop_zero (hd'.trans hd.out)
      have hcell := O'.cell hkl
      rw [hz0] at hcell
      have hfz := O'.frozen (k + n2)
      have O2 := O'.set_ (k + n2) cy hcy
      have hb' := Below.grown hB.out hg' (by have := hO.out.lt; omega) (by intro k hk; injection hk; omega)
      have hlen : (zs'.set (k + n2) cy).length = n1 + n2 := by rw [List.length_set, hl', hl.out]
      have hval : val (zs'.set (k + n2) cy) = val ((limbs (num xs)).take (k + 1)) * num ys := by
        have e1 := val_set zs' (k + n2) cy hkl
        rw [hz0, Nat.mul_zero, Nat.add_zero, hv', hv.out, val_limbs] at e1
        rw [e1, val_take_succ_any, hxe.out, Nat.add_mul, Nat.mul_assoc]
      have hdr : (zs'.set (k + n2) cy).drop (k + 1 + n2) = List.replicate (n1 - (k + 1)) 0 := by
        rw [show k + 1 + n2 = k + n2 + 1 by omega, drop_set_succ]
        have := congrArg (List.drop 1) (hd'.trans hd.out)
        rw [List.drop_drop] at this
        rw [this]
        simp
        omega
      replace O2 := Lib.hid O2
      replace hb' := Lib.hid hb'
      replace hlen := Lib.hid hlen
      replace hval := Lib.hid hval
      replace hdr := Lib.hid hdr
      clear O' hl' ht' hd' hv' hg' hkl hz0
      go_wp2
      go_roundw
      case rel => exact ⟨k + 1, _, by omega, by go_num, hlen.out, O2.out, hb'.out.setCell (Nat.le_refl _) _, hval.out, hdr.out⟩
      case measure => simp [intOf]; omega
    · obtain rfl : k = n1 := by omega
      go_wp2_with fail
      refine (trim_any _ _ _ zs _ (hO.out.rdn hl.out (Nat.le_refl _)) (by omega)).mono ?_
      rintro e w' ⟨n', rfl, rfl, R⟩
      replace R := Lib.hid R
      go_wp2
      go_ret
      exact ⟨_, _, _, rfl, by have := R.out; rw [hv.out, val_take_all (by rw [R1.out.len]; omega), val_limbs] at this; exact this, hB.out⟩

end Go.Proofs.YtkdeajocogdmgaaDoor
