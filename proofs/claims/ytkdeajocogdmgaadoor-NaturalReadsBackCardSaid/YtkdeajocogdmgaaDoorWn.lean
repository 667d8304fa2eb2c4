/- Contracts of subProduct and shiftLeft. -/
import Derived.Test.YtkdeajocogdmgaaDoorWm
namespace Go.Proofs.YtkdeajocogdmgaaDoor
open Go.RowKit

/-- A window of the block was decreased by x times ys. -/
def RetSubP (g o m x : Nat) (zs ys : List Nat) (w : World) (e : Ending) (w' : World) : Prop :=
  ∃ (cy : Nat) (zs' : List Nat), e = .returned (.int .u64 cy) ∧ cy < 4294967296 ∧ Own w' g zs' ∧ zs'.length = zs.length ∧ zs'.take o = zs.take o ∧ zs'.drop (o + m) = zs.drop (o + m) ∧
    val zs' + 4294967296 ^ o * (x * val ys) = val zs + 4294967296 ^ (o + m) * cy ∧ w.grownBy w' (some g)

set_option maxHeartbeats 2000000 in
theorem subProduct_any (g o m cs : Nat) (zs : List Nat) (A : Option Addr) (cb : Nat) (ys : List Nat) (x : Nat) (w : World)
    (hO : Own w g zs) (hom : o + m ≤ zs.length) (hR : RdX w g A m cb ys) (hx : x < 4294967296) (hm : m ≤ 100000) :
    Calls Tryd.prog 118 #[.slice (some ⟨g, o, none⟩) m cs, .slice A m cb, .int .u32 x] w (RetSubP g o m x zs ys w) := by
  replace hO := Lib.hid hO
  replace hR := Lib.hid hR
  replace hom := Lib.hid hom
  go_enter Tryd.func118, Tryd.ntmps118
  go_wp2
  go_loopw [7, 13] (fun cv iv wr => ∃ (k cy : Nat) (zs' : List Nat), k ≤ m ∧ iv = .int .i64 k ∧ cv = .int .u64 cy ∧ cy < 4294967296 ∧ Own wr g zs' ∧ zs'.length = zs.length ∧ zs'.take o = zs.take o ∧ zs'.drop (o + k) = zs.drop (o + k) ∧
    val zs' + 4294967296 ^ o * (x * val (ys.take k)) = val zs + 4294967296 ^ (o + k) * cy ∧ w.grownBy wr (some g))
    (fun _ iv _ => m - (intOf iv).toNat)
  case atStart => exact ⟨0, 0, zs, Nat.zero_le _, rfl, rfl, by omega, hO.out, rfl, rfl, rfl, by simp [val], World.grownBy.refl _ _⟩
  case round =>
    obtain ⟨k, cy, zs', hk, rfl, rfl, hcy, hO', hl, ht, hd, hv, hg⟩ := hrel
    replace hO' := Lib.hid hO'
    replace hl := Lib.hid hl
    replace ht := Lib.hid ht
    replace hd := Lib.hid hd
    replace hv := Lib.hid hv
    replace hg := Lib.hid hg
    by_cases hlt : k < m
    · have hkl : o + k < zs'.length := by rw [hl.out]; have := hom.out; omega
      obtain ⟨b2, o2, y1, rfl, hb2, hy1, hye, hcy2⟩ := (hR.out.grown hg.out).at_ hlt
      replace hye := Lib.hid hye
      have hcell := hO'.out.cell hkl
      obtain ⟨s, hs⟩ : ∃ s, zs'.getD (o + k) 0 = s := ⟨_, rfl⟩
      have hs1 : s < 4294967296 := by rw [← hs]; exact sm_get hO'.out.sm _
      rw [hs] at hcell
      replace hs := Lib.hid hs
      have hfz := hO'.out.frozen (o + k)
      have hkl := Lib.hid hkl
      have hp : (x : Int) * (y1 : Int) ≤ 18446744065119617025 := by have := mul_bd hx hy1; have e : ((x * y1 : Nat) : Int) = (x : Int) * y1 := Int.natCast_mul x y1; omega
      have hp0 : 0 ≤ (x : Int) * (y1 : Int) := by have e : ((x * y1 : Nat) : Int) = (x : Int) * y1 := Int.natCast_mul x y1; omega
      obtain ⟨t, ht'⟩ : ∃ t, cy + x * y1 = t := ⟨_, rfl⟩
      have htc : (cy : Int) + (x : Int) * (y1 : Int) = (t : Int) := by rw [← ht']; simp
      have htb : t ≤ 18446744069414584320 := by have := mul_bd hx hy1; omega
      have htb2 : (t : Int) ≤ 18446744069414584320 := by omega
      obtain ⟨d, c, hd1, hdd, hcc, hcase⟩ := sub_carry htb hs1
      replace ht' := Lib.hid ht'
      replace hdd := Lib.hid hdd
      replace hcc := Lib.hid hcc
      replace hd1 := Lib.hid hd1
      clear htb
      rcases hcase with ⟨hlow, rfl, hde⟩ | ⟨hlow, rfl, hde⟩
      · have hlowi : (s : Int) < (t : Int) % 4294967296 := by omega
        replace hde : Hid ((s : Int) - (t : Int) % 4294967296 = (d : Int) - 4294967296) := by show _ = _; omega
        clear hlow
        go_wp2
        go_roundw
        case rel =>
          have O2 := hO'.out.set_ (o + k) d hd1.out
          have e1 : ((s : Int) - t) % 4294967296 = d := by have := hde.out; have := hd1.out; omega
          rw [e1]
          exact ⟨k + 1, _, _, by omega, by go_num, by go_num, hcc.out, O2, by rw [List.length_set]; exact hl.out, by rw [take_set_low _ _ (by omega)]; exact ht.out, by rw [show o + (k + 1) = o + k + 1 by omega, drop_set_succ]; exact drop_step' hd.out, subp_step hkl.out hv.out hs.out hye.out ht'.out hdd.out rfl, grown_set hg.out _ _⟩
        case measure => simp [intOf]; omega
      · have hlowi : (t : Int) % 4294967296 ≤ (s : Int) := by omega
        replace hde : Hid ((s : Int) - (t : Int) % 4294967296 = (d : Int)) := by show _ = _; omega
        clear hlow
        go_wp2
        go_roundw
        case rel =>
          have O2 := hO'.out.set_ (o + k) d hd1.out
          have e1 : (s : Int) - (t : Int) % 4294967296 = d := hde.out
          rw [e1]
          exact ⟨k + 1, _, _, by omega, by go_num, by go_num, hcc.out, O2, by rw [List.length_set]; exact hl.out, by rw [take_set_low _ _ (by omega)]; exact ht.out, by rw [show o + (k + 1) = o + k + 1 by omega, drop_set_succ]; exact drop_step' hd.out, subp_step hkl.out hv.out hs.out hye.out ht'.out hdd.out rfl, grown_set hg.out _ _⟩
        case measure => simp [intOf]; omega
    · obtain rfl : k = m := by omega
      go_wp2
      go_ret
      have e : ys.take k = ys := List.take_of_length_le (by rw [hR.out.len]; omega)
      refine ⟨cy, zs', rfl, hcy, hO'.out, hl.out, ht.out, hd.out, ?_, hg.out⟩
      have := hv.out
      rw [e] at this
      exact this

set_option maxHeartbeats 2000000 in
theorem shiftLeft_any (A : Option Addr) (n c s : Nat) (xs : List Nat) (w : World) (hR : Rd w A n c xs) (hs : s < 32) (hn : n ≤ 100000) :
    Calls Tryd.prog 102 #[.slice A n c, .int .i64 s] w fun e w' => e = .returned (.slice (some ⟨w.heap.size, 0, none⟩) (n + 1) (n + 1)) ∧ ∃ zs, Own w' w.heap.size zs ∧ zs.length = n + 1 ∧ val zs = val xs * 2 ^ s ∧ Below w.heap.size w w' := by
  replace hR := Lib.hid hR
  have hmk : ∀ W : World, (Instr.makeSlice 22 (.int .i64 ((n : Int) + 1)) (.int .i64 ((n : Int) + 1))).run Tryd.prog W = .ok (.slice (some ⟨W.heap.size, 0, none⟩) (n + 1) (n + 1)) (W.alloc (.cells (madeCells #[.int .u32 0] (n + 1)) 53)) := fun W => make_u32 (n + 1) (by omega) .i64 .i64 W
  go_enter Tryd.func102, Tryd.ntmps102
  go_wp2
  go_loopw [15] (fun iv wr => ∃ (k : Nat) (zs : List Nat), k ≤ n ∧ iv = .int .i64 k ∧ zs.length = n + 1 ∧ Own wr w.heap.size zs ∧ Below w.heap.size w wr ∧ val (zs.take (k + 1)) = val (xs.take k) * 2 ^ s ∧ zs.getD k 0 < 2 ^ s ∧ zs.drop (k + 1) = List.replicate (n - k) 0)
    (fun iv _ => n - (intOf iv).toNat)
  case atStart => exact ⟨0, List.replicate (n + 1) 0, Nat.zero_le _, rfl, by simp, Own.new _ _, (Below.refl _ _).alloc (Nat.le_refl _) _, by simp [val, List.replicate_succ], by simp [List.replicate_succ]; exact Nat.pow_pos (by omega), by simp [List.replicate_succ]⟩
  case round =>
    clear hmk
    obtain ⟨k, zs, hk, rfl, hl, hO, hB, hv, hlow, hd⟩ := hrel
    replace hl := Lib.hid hl
    replace hO := Lib.hid hO
    replace hB := Lib.hid hB
    replace hv := Lib.hid hv
    replace hd := Lib.hid hd
    replace hlow := Lib.hid hlow
    by_cases hlt : k < n
    · obtain ⟨b2, o2, x1, rfl, hb2, hx1, hxe, hcx⟩ := (hR.out.base hB.out).at_ hlt
      replace hxe := Lib.hid hxe
      have hcell := hO.out.cell (k := k) (by rw [hl.out]; omega)
      obtain ⟨lo, hlo⟩ : ∃ lo, zs.getD k 0 = lo := ⟨_, rfl⟩
      rw [hlo] at hcell
      have hlob : lo < 4294967296 := by rw [← hlo]; exact sm_get hO.out.sm _
      have hfz := hO.out.frozen k
      have hcell2 := hO.out.cell (k := k + 1) (by rw [hl.out]; omega)
      have hfz2 := hO.out.frozen (k + 1)
      replace hlo := Lib.hid hlo
      obtain ⟨wd, hw⟩ : ∃ wd, x1 * 2 ^ s = wd := ⟨_, rfl⟩
      have hlow' := hlow.out
      rw [hlo.out] at hlow'
      obtain ⟨ho1, ho2⟩ := shl_low hs hlow' hw
      obtain ⟨hw1, hw2⟩ := shl_bd hs hx1 hw
      have hwc : (x1 : Int) * 2 ^ s = (wd : Int) := by rw [← hw]; simp
      have hwb : (wd : Int) ≤ 9223372034707292160 := by omega
      have hor : bits .or .u32 (lo : Int) ((wd : Int) % 4294967296) = ((lo + wd % 4294967296 : Nat) : Int) := by
        rw [show (wd : Int) % 4294967296 = ((wd % 4294967296 : Nat) : Int) by omega, u32_or_nat lo (wd % 4294967296) hlob (by omega), ho1]
      obtain ⟨lo', hlo'⟩ : ∃ lo', lo + wd % 4294967296 = lo' := ⟨_, rfl⟩
      rw [hlo'] at hor ho2
      have hst := shl_step (by rw [hl.out]; omega) hv.out hlo.out hxe.out hw
      rw [hlo'] at hst
      have O1 := (hO.out.set_ k lo' ho2).set_ (k + 1) (wd / 4294967296) (by have := pow31 hs; omega)
      rw [show ((wd / 4294967296 : Nat) : Int) = (wd : Int) / 4294967296 by omega] at O1
      have hget := getD_set (zs.set k lo') (k + 1) (wd / 4294967296) (by rw [List.length_set, hl.out]; omega)
      have hdr : ((zs.set k lo').set (k + 1) (wd / 4294967296)).drop (k + 1 + 1) = List.replicate (n - (k + 1)) 0 := by
        rw [drop_set_succ, drop_set_over]
        have := congrArg (List.drop 1) hd.out
        rw [List.drop_drop] at this
        rw [this]
        simp
        omega
      replace hst := Lib.hid hst
      replace O1 := Lib.hid O1
      replace hget := Lib.hid hget
      replace hdr := Lib.hid hdr
      replace hw2 := Lib.hid hw2
      clear ho1 hlow' hw hw1
      replace hlo' := Lib.hid hlo'
      go_wp2
      go_roundw
      case rel => exact ⟨k + 1, _, by omega, by go_num, by rw [List.length_set, List.length_set]; exact hl.out, O1.out, (hB.out.setCell (Nat.le_refl _) _).setCell (Nat.le_refl _) _, hst.out, by rw [hget.out]; exact hw2.out, hdr.out⟩
      case measure => simp [intOf]; omega
    · obtain rfl : k = n := by omega
      go_wp2
      go_ret
      refine ⟨rfl, zs, hO.out, hl.out, ?_, hB.out⟩
      have := hv.out
      rw [List.take_of_length_le (by rw [hl.out]; omega), List.take_of_length_le (by rw [hR.out.len]; omega)] at this
      exact this

end Go.Proofs.YtkdeajocogdmgaaDoor
