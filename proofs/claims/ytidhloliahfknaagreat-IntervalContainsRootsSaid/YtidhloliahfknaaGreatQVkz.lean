/- powerOfTwo of interval. bitLength of interval. -/
import Derived.Test.YtidhloliahfknaaGreatQVaz
import Derived.Test.YtidhloliahfknaaGreatQWez
import Derived.Test.YtidhloliahfknaaGreatQWjz
namespace Go.Proofs.YtidhloliahfknaaGreat
open Go.RowKit RQ
theorem res_pow2 (W : World) (tmps : Array Value) (g t : Nat) {v0 v1 v2 : Value} (ht : tmps.getD 2 undef = .pointer (some ⟨g, 0, none⟩)) (h : Cb W g #[v0, v1, v2] t) :
    (results Tryz.f70 tmps).run Tryz.prog W = .ok (.agg #[v0, v1, v2]) W := by
  have c0 : W.cell? ⟨g, 0, none⟩ = some v0 := h.cell rfl
  have c1 : W.cell? ⟨g, 1, none⟩ = some v1 := h.cell rfl
  have c2 : W.cell? ⟨g, 2, none⟩ = some v2 := h.cell rfl
  have ht' : tmps[2]?.getD undef = .pointer (some ⟨g, 0, none⟩) := by rw [← ht]; simp [Array.getD_eq_getD_getElem?]
  simp [results, Tryz.results70, go_sem, ht', c0, c1, c2]
theorem p2_den (s : Nat) : ((((2 ^ s : Nat) : Int) : Rat)⁻¹).num = 1 ∧ ((((2 ^ s : Nat) : Int) : Rat)⁻¹).den = 2 ^ s := by
  have hp : 0 < 2 ^ s := Nat.pow_pos (by decide)
  have hne : (((2 ^ s : Nat) : Int) : Rat) ≠ 0 := by
    intro h
    have := congrArg Rat.num h
    rw [Rat.num_intCast, show (0 : Rat).num = 0 from rfl] at this
    omega
  obtain ⟨h1, h2, h3⟩ := inv_parts hne
  rw [Rat.num_intCast] at h2 h3
  rw [Rat.den_intCast] at h1
  refine ⟨?_, by rw [h3]; simp⟩
  have h4 : ¬ ((((2 ^ s : Nat) : Int) : Rat)⁻¹).num < 0 := fun h => by have := h2.1 h; omega
  omega
theorem p2_RR {w : World} {A : Option Addr} {n c : Nat} {D : Option Addr} {m d : Nat} {s : Nat} (hs : 1 ≤ s) (h1 : Rd w A n c (limbs 1)) (h2 : Rd w D m d (limbs (2 ^ s))) : RR w A n c D m d (((2 ^ s : Nat) : Int) : Rat)⁻¹ := by
  obtain ⟨e1, e2⟩ := p2_den s
  refine ⟨by rw [e1]; exact h1, ?_⟩
  unfold dn
  rw [if_neg, e2]
  · exact h2
  · rw [e2]
    obtain ⟨j, rfl⟩ : ∃ j, s = j + 1 := ⟨s - 1, by omega⟩
    rw [Nat.pow_succ]
    have : 0 < 2 ^ j := Nat.pow_pos (by decide)
    omega
theorem p2_ng (s : Nat) : ng ((((2 ^ s : Nat) : Int) : Rat)⁻¹).num = false := by rw [(p2_den s).1]; rfl
theorem nat_ng (N : Nat) : ng (((N : Nat) : Int) : Rat).num = false := by rw [Rat.num_intCast]; exact decide_eq_false (by omega)

set_option maxRecDepth 100000 in
set_option maxHeartbeats 4000000 in
theorem pow2_pos (k : Nat) (w : World) (hk : k ≤ 100000) : Calls Tryz.prog 70 #[.int .i64 k] w (RetR (((2 ^ k : Nat) : Int) : Rat) w) := by
  have hmk : ∀ W : World, (Instr.makeSlice 22 (.int .i64 ((k : Int) / 32 + 1)) (.int .i64 ((k : Int) / 32 + 1))).run Tryz.prog W = .ok (.slice (some ⟨W.heap.size, 0, none⟩) (k / 32 + 1) (k / 32 + 1)) (W.alloc (.cells (madeCells #[.int .u32 0] (k / 32 + 1)) 71)) := by
    intro W
    have := make_u32 (k / 32 + 1) (by omega) .i64 .i64 W
    rw [show ((k / 32 + 1 : Nat) : Int) = (k : Int) / 32 + 1 by omega] at this
    exact this
  have O := Own.new (World.alloc w (.cells #[.bool false, .slice none 0 0, .slice none 0 0] 26)) (k / 32 + 1)
  have hcell := O.cell (k := k / 32) (by simp)
  have hfz := O.frozen (k / 32)
  have hp : 2 ^ (k % 32) < 4294967296 := Nat.lt_of_le_of_lt (Nat.pow_le_pow_right (by omega) (show k % 32 ≤ 31 by omega)) (by decide)
  have O2 := Own.newset (World.alloc w (.cells #[.bool false, .slice (some ⟨w.heap.size + 1, 0, none⟩) (k / 32 + 1) (k / 32 + 1), .slice none 0 0] 26)) (k / 32 + 1) (k / 32) (2 ^ (k % 32)) hp
  rw [pow_list] at O2
  have hl : (limbs (2 ^ k)).length = k / 32 + 1 := by rw [← pow_list]; simp
  have hc : ((2 ^ (k % 32) : Nat) : Int) = 2 ^ (k % 32) % 4294967296 := by
    have e : ((2 ^ (k % 32) : Nat) : Int) = 2 ^ (k % 32) := by simp
    rw [← e]; exact (Int.emod_eq_of_lt (Int.natCast_nonneg _) (Int.ofNat_lt.2 hp)).symm
  rw [hc] at O2
  have R := O2.rdn hl (Nat.le_refl _)
  rw [show (World.alloc w (.cells #[.bool false, .slice (some ⟨w.heap.size + 1, 0, none⟩) (k / 32 + 1) (k / 32 + 1), .slice none 0 0] 26)).heap.size = w.heap.size + 1 by simp] at R
  rw [show (World.alloc w (.cells #[.bool false, .slice none 0 0, .slice none 0 0] 26)).heap.size = w.heap.size + 1 by simp] at hcell hfz
  have S1 := (((St.new w).allocAt (w.heap.size) #[.bool false, .slice (some ⟨w.heap.size + 1, 0, none⟩) (k / 32 + 1) (k / 32 + 1), .slice none 0 0] 26 (noL3 _ _ _ _ _ _ _) (by simp)).call ((Below.refl _ _).alloc (Nat.le_refl _) (.cells ((madeCells #[.int .u32 0] (k / 32 + 1)).setIfInBounds (k / 32) (.int .u32 (2 ^ (k % 32) % 4294967296))) 71))).read R
  have S := Lib.hid S1
  have hmx : max (k : Int) (-(k : Int)) = (k : Int) := by omega
  have hw : IntKind.i64.wrap (-(k : Int)) = -(k : Int) := IntWalk.i64_in _ (by omega)
  clear O hc hp O2 R S1 hl
  go_enter Tryz.func70, Tryz.ntmps70
  go_wp2
  refine bodyPost_ret (res_pow2 _ _ (w.heap.size) 26 rfl (S.out.bk _ (List.mem_of_getElem? (i := 0) rfl)).1) rfl ?_
  exact ⟨some ⟨w.heap.size + 1, 0, none⟩, k / 32 + 1, k / 32 + 1, none, 0, 0, by rw [nat_ng], ⟨S.out.r 0 rfl, by rw [show dn (((2 ^ k : Nat) : Int) : Rat) = [] from rfl]; exact Rd.nil_ _ _ _⟩, S.out.bel⟩

set_option maxRecDepth 100000 in
set_option maxHeartbeats 4000000 in
theorem pow2_neg (k : Nat) (w : World) (h1 : 1 ≤ k) (hk : k ≤ 100000) : Calls Tryz.prog 70 #[.int .i64 (-(k : Int))] w (RetR (((2 ^ k : Nat) : Int) : Rat)⁻¹ w) := by
  have hmk : ∀ W : World, (Instr.makeSlice 22 (.int .i64 ((k : Int) / 32 + 1)) (.int .i64 ((k : Int) / 32 + 1))).run Tryz.prog W = .ok (.slice (some ⟨W.heap.size, 0, none⟩) (k / 32 + 1) (k / 32 + 1)) (W.alloc (.cells (madeCells #[.int .u32 0] (k / 32 + 1)) 71)) := by
    intro W
    have := make_u32 (k / 32 + 1) (by omega) .i64 .i64 W
    rw [show ((k / 32 + 1 : Nat) : Int) = (k : Int) / 32 + 1 by omega] at this
    exact this
  have O := Own.new (World.alloc w (.cells #[.bool false, .slice none 0 0, .slice none 0 0] 26)) (k / 32 + 1)
  have hcell := O.cell (k := k / 32) (by simp)
  have hfz := O.frozen (k / 32)
  have hp : 2 ^ (k % 32) < 4294967296 := Nat.lt_of_le_of_lt (Nat.pow_le_pow_right (by omega) (show k % 32 ≤ 31 by omega)) (by decide)
  have O2 := Own.newset (World.alloc w (.cells #[.bool false, .slice (some ⟨w.heap.size + 2, 0, none⟩) 1 1, .slice (some ⟨w.heap.size + 1, 0, none⟩) (k / 32 + 1) (k / 32 + 1)] 26)) (k / 32 + 1) (k / 32) (2 ^ (k % 32)) hp
  rw [pow_list] at O2
  have hl : (limbs (2 ^ k)).length = k / 32 + 1 := by rw [← pow_list]; simp
  have hc : ((2 ^ (k % 32) : Nat) : Int) = 2 ^ (k % 32) % 4294967296 := by
    have e : ((2 ^ (k % 32) : Nat) : Int) = 2 ^ (k % 32) := by simp
    rw [← e]; exact (Int.emod_eq_of_lt (Int.natCast_nonneg _) (Int.ofNat_lt.2 hp)).symm
  rw [hc] at O2
  have R := O2.rdn hl (Nat.le_refl _)
  rw [show (World.alloc w (.cells #[.bool false, .slice (some ⟨w.heap.size + 2, 0, none⟩) 1 1, .slice (some ⟨w.heap.size + 1, 0, none⟩) (k / 32 + 1) (k / 32 + 1)] 26)).heap.size = w.heap.size + 1 by simp] at R
  rw [show (World.alloc w (.cells #[.bool false, .slice none 0 0, .slice none 0 0] 26)).heap.size = w.heap.size + 1 by simp] at hcell hfz
  have S1 := (((St.new w).allocAt (w.heap.size) #[.bool false, .slice (some ⟨w.heap.size + 2, 0, none⟩) 1 1, .slice (some ⟨w.heap.size + 1, 0, none⟩) (k / 32 + 1) (k / 32 + 1)] 26 (noL3 _ _ _ _ _ _ _) (by simp)).call ((Below.refl _ _).alloc (Nat.le_refl _) (.cells ((madeCells #[.int .u32 0] (k / 32 + 1)).setIfInBounds (k / 32) (.int .u32 (2 ^ (k % 32) % 4294967296))) 71))).read R
  have O3 := Own.lit (World.alloc (World.alloc w (.cells #[.bool false, .slice (some ⟨w.heap.size + 2, 0, none⟩) 1 1, .slice (some ⟨w.heap.size + 1, 0, none⟩) (k / 32 + 1) (k / 32 + 1)] 26)) (.cells ((madeCells #[.int .u32 0] (k / 32 + 1)).setIfInBounds (k / 32) (.int .u32 (2 ^ (k % 32) % 4294967296))) 71)) [1] (by intro x hx; simp at hx; subst hx; decide)
  have R3 := O3.rdn (n := 1) rfl (Nat.le_refl _)
  rw [show (World.alloc (World.alloc w (.cells #[.bool false, .slice (some ⟨w.heap.size + 2, 0, none⟩) 1 1, .slice (some ⟨w.heap.size + 1, 0, none⟩) (k / 32 + 1) (k / 32 + 1)] 26)) (.cells ((madeCells #[.int .u32 0] (k / 32 + 1)).setIfInBounds (k / 32) (.int .u32 (2 ^ (k % 32) % 4294967296))) 71)).heap.size = w.heap.size + 2 by simp] at R3
  have S2 := (S1.call ((Below.refl _ _).alloc (Nat.le_refl _) (.cells #[.int .u32 1] 71))).read R3
  have S := Lib.hid S2
  have hmx : max (-(k : Int)) (k : Int) = (k : Int) := by omega
  have hw : IntKind.i64.wrap (k : Int) = (k : Int) := IntWalk.i64_in _ (by omega)
  have hlt : decide (-(k : Int) < 0) = true := decide_eq_true (by omega)
  have h1' := Lib.hid h1
  clear O hc hp O2 R S1 hl O3 R3 S2 h1
  go_enter Tryz.func70, Tryz.ntmps70
  go_wp2
  refine bodyPost_ret (res_pow2 _ _ (w.heap.size) 26 rfl (S.out.bk _ (List.mem_of_getElem? (i := 0) rfl)).1) rfl ?_
  exact ⟨_, _, _, _, _, _, by rw [p2_ng], p2_RR h1'.out (by rw [limbs_is1]; exact S.out.r 0 rfl) (S.out.r 1 rfl), S.out.bel⟩
end Go.Proofs.YtidhloliahfknaaGreat

namespace Go.Proofs.YtidhloliahfknaaGreat
open Go.RowKit RQ

set_option maxRecDepth 100000 in
set_option maxHeartbeats 4000000 in
theorem bitLength_any (b : Bool) (A : Option Addr) (n c N : Nat) (D : Option Addr) (m d : Nat) (w : World) (R : Rd w A n c (limbs N)) (hN : 0 < N) (hn : n ≤ 1000) : Calls Tryz.prog 118 #[.agg #[.bool b, .slice A n c, .slice D m d]] w fun e w' => ∃ B : Nat, e = .returned (.int .i64 B) ∧ isq N ≤ 2 ^ ((B + 1) / 2) ∧ B ≤ 32 * n ∧ Below w.heap.size w w' := by
  obtain ⟨j, hj⟩ : ∃ j, n = j + 1 := by
    have := R.len
    rw [limbs_pos hN] at this
    exact ⟨n - 1, by simp at this; omega⟩
  subst hj
  obtain ⟨bk, of, x, rfl, _, hx, hxe, hcell⟩ := R.at_ (k := j) (by omega)
  have hB := Tryz.bits_Len32 (x : Int)
  have hst := root_start (X := limbs N) (n := j) (b := Lib.bitLen x) R.sm R.len (by rw [hxe]; exact (bitLen_spec x (by omega)).1)
  rw [val_limbs] at hst
  have hbl : Lib.bitLen x ≤ 32 := Lib.bitLen_le x 32 (by omega) (by omega)
  have hL := Lib.hid (fun W => hB W (by omega) (by omega))
  rw [show ((x : Int)).toNat = x by omega] at hL
  have S := Lib.hid ((St.new w).allocAt (w.heap.size) #[.bool b, .slice (some ⟨bk, of, none⟩) (j + 1) c, .slice D m d] 26 (noL3 _ _ _ _ _ _ _) (by simp))
  have hcell2 := (R.alloc (.cells #[.bool b, .slice (some ⟨bk, of, none⟩) (j + 1) c, .slice D m d] 26)).at_ (k := j) (by omega)
  obtain ⟨bk2, of2, x2, e2, _, hx2, hxe2, hcell2⟩ := hcell2
  simp only [Option.some.injEq, Addr.mk.injEq, and_true] at e2
  obtain ⟨rfl, rfl⟩ := e2
  obtain rfl : x = x2 := hxe.symm.trans hxe2
  have w1 : IntKind.i64.wrap ((j : Int) + 1 - 1) = (j : Int) := by rw [show (j : Int) + 1 - 1 = (j : Int) by omega]; exact IntWalk.i64_in _ (by omega)
  have w2 : IntKind.i64.wrap (32 * (j : Int)) = 32 * (j : Int) := IntWalk.i64_in _ (by omega)
  have w3 : IntKind.i64.wrap (32 * (j : Int) + (Lib.bitLen x : Int)) = 32 * (j : Int) + (Lib.bitLen x : Int) := IntWalk.i64_in _ (by omega)
  have g1 : (0 : Int) ≤ (j : Int) := by omega
  have g2 : (j : Int) < (j : Int) + 1 := by omega
  generalize hbx : Lib.bitLen x = B at *
  replace hst := Lib.hid hst
  replace hbl := Lib.hid hbl
  clear hcell hx hxe hx2 hxe2 hB R
  go_enter Tryz.func118, Tryz.ntmps118
  go_wp2_with fail
  refine (hL.out _).mono ?_
  rintro e w1 ⟨rfl, rfl⟩
  go_wp2
  go_ret
  exact ⟨32 * j + B, by simp, hst.out, by have := hbl.out; omega, S.out.bel⟩
end Go.Proofs.YtidhloliahfknaaGreat
