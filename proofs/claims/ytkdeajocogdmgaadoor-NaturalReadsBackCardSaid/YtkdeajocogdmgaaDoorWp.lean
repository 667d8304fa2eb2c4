/- Contracts of divideLong and of natural.Div. -/
import Derived.Test.YtkdeajocogdmgaaDoorWo
namespace Go.Proofs.YtkdeajocogdmgaaDoor
open Go.RowKit

theorem lz_nat (l : Nat) (w : World) (h : l < 4294967296) : Calls Tryd.prog 86 #[.int .u32 l] w fun e w' => e = .returned (.int .i64 ((32 - Lib.bitLen l : Nat) : Int)) ∧ w = w' := by
  refine (lz32_any l w h).mono ?_
  rintro e w' ⟨rfl, rfl⟩
  have := Lib.bitLen_le l 32 (by omega) (by omega)
  exact ⟨by rw [show (32 - (Lib.bitLen l : Int)) = ((32 - Lib.bitLen l : Nat) : Int) by omega], rfl⟩

/-- What a long division leaves. -/
def RetLong (x y : Nat) (w : World) (e : Ending) (w' : World) : Prop :=
  ∃ A n c A' n' c', e = .returned (.tuple #[.slice A n c, .slice A' n' c']) ∧ Rd w' A n c (limbs (x / y)) ∧ Rd w' A' n' c' (limbs (x % y)) ∧ Below w.heap.size w w'

set_option maxRecDepth 100000 in
set_option maxHeartbeats 4000000 in
theorem long_any (A : Option Addr) (K p c : Nat) (xs : List Nat) (A' : Option Addr) (c' : Nat) (ys : List Nat) (w : World)
    (h1 : Rd w A (p + 2 + K) c xs) (h2 : Rd w A' (p + 2) c' ys) (hn : p + 2 + K ≤ 1000) (hvy : vldB ys = true) :
    Calls Tryd.prog 85 #[.slice A (p + 2 + K) c, .slice A' (p + 2) c'] w (RetLong (val xs) (val ys) w) := by
  obtain ⟨bb, ob, l, rfl, hbb, hlb, hle, hcl⟩ := h2.at_ (k := p + 1) (by omega)
  have hl0 : 0 < l := by
    unfold vldB at hvy
    rw [h2.len, show p + 2 - 1 = p + 1 by omega, hle] at hvy
    simp at hvy
    omega
  have hlz := fun W => lz_nat l W hlb
  have hbl := bitLen_spec l (by omega)
  have hbl32 := Lib.bitLen_le l 32 (by omega) (by omega)
  obtain ⟨bl, hble⟩ : ∃ bl, Lib.bitLen l = bl := ⟨_, rfl⟩
  rw [hble] at hbl hbl32
  have hbl1 : 1 ≤ bl := by
    rcases Nat.eq_zero_or_pos bl with h | h
    · rw [h] at hbl; have := hbl.1; simp at this; omega
    · exact h
  simp only [hble] at hlz
  clear hble
  obtain ⟨s, hs⟩ : ∃ s, 32 - bl = s := ⟨_, rfl⟩
  rw [hs] at hlz
  have hs31 : s < 32 := by omega
  replace hlz := Lib.hid hlz
  replace hbl := Lib.hid hbl
  have hsb := Lib.hid (show s + bl = 32 by omega)
  replace hle := Lib.hid hle
  clear hs
  replace h1 := Lib.hid h1
  replace h2 := Lib.hid h2
  go_enter Tryd.func85, Tryd.ntmps85
  go_wp2_with fail
  refine (hlz.out _).mono ?_
  rintro e w' ⟨rfl, rfl⟩
  go_wp2_with fail
  refine (shiftLeft_any _ _ _ s _ _ h1.out hs31 (by omega)).mono ?_
  rintro e w1 ⟨rfl, zs, O1, lz1, v1, b1⟩
  have h2' := Lib.hid (h2.out.below b1)
  replace O1 := Lib.hid O1
  replace lz1 := Lib.hid lz1
  replace v1 := Lib.hid v1
  replace b1 := Lib.hid b1
  go_wp2_with fail
  refine (shiftLeft_any _ _ _ s _ _ h2'.out hs31 (by omega)).mono ?_
  rintro e w2 ⟨rfl, ds, O2, lz2, v2, b2⟩
  obtain ⟨hdv, hdt, hdu, hdl⟩ := norm_top (m := p + 1) h2.out.len h2.out.sm hle.out hbl.out.1 (hbl.out.2 hl0) hsb.out lz2 O2.sm v2
  have hg12 : w.heap.size ≠ w1.heap.size := by have := O1.out.lt; omega
  replace O1 := Lib.hid (O1.out.below b2 O1.out.lt)
  replace O2 := Lib.hid O2
  replace lz2 := Lib.hid lz2
  replace b2 := Lib.hid (b1.out.trans (b2.mono b1.out.size))
  replace hdv := Lib.hid hdv
  replace hdt := Lib.hid hdt
  replace hdu := Lib.hid hdu
  replace hdl := Lib.hid hdl
  clear h2' b1 hle v2
  have hg1 : w.heap.size < w2.heap.size := O1.out.lt
  have hg2 : w1.heap.size < w2.heap.size := O2.out.lt
  have hmk : ∀ W : World, (Instr.makeSlice 22 (.int .i64 ((p : Int) + 2 + K - (p + 2) + 1)) (.int .i64 ((p : Int) + 2 + K - (p + 2) + 1))).run Tryd.prog W = .ok (.slice (some ⟨W.heap.size, 0, none⟩) (K + 1) (K + 1)) (W.alloc (.cells (madeCells #[.int .u32 0] (K + 1)) 53)) := fun W => by
    rw [show (p : Int) + 2 + K - (p + 2) + 1 = ((K + 1 : Nat) : Int) by omega]
    exact make_u32 (K + 1) (by omega) .i64 .i64 W
  have hD0 : 0 < val ys := val_pos hvy (by intro h; have := h2.out.len; rw [h] at this; cases this)
  replace hD0 := Lib.hid hD0
  obtain ⟨hfw1, hfw2⟩ := first_window (m := p + 1) (K := K) (s := s) (D := val ys * 2 ^ s) (by have := lz1.out; omega) (by have := h1.out.len; omega) h1.out.sm hs31 v1.out hdl.out
  replace hfw1 := Lib.hid hfw1
  replace hfw2 := Lib.hid hfw2
  have hvd : Hid (vldB (ds.take (p + 2)) = true) := by
    show vldB (ds.take (p + 2)) = true
    have e : (ds.take (p + 2)).getD (p + 1) 0 = ds.getD (p + 1) 0 := by simp [List.getD]
    have := vldB_last (xs := ds.take (p + 2)) (m := p + 1) (by rw [List.length_take, lz2.out]; omega) e
    rw [this, Bool.not_eq_true', beq_eq_false_iff_ne]
    have := hdt.out
    omega
  go_wp2
  go_loopw [9] (fun iv wr => ∃ (i : Int) (k : Nat) (zs' qs : List Nat), k ≤ K + 1 ∧ i + 1 = k ∧ iv = .int .i64 i ∧ Own wr w.heap.size zs' ∧ zs'.length = p + 2 + K + 1 ∧ Own wr w1.heap.size ds ∧ Own wr w2.heap.size qs ∧ qs.length = K + 1 ∧
      zs'.take k = zs.take k ∧ win zs' k (p + 2) < val ys * 2 ^ s ∧ val (zs.drop k) = val (qs.drop k) * (val ys * 2 ^ s) + win zs' k (p + 2) ∧ Below w.heap.size w wr)
    (fun iv _ => (intOf iv + 1).toNat)
  case atStart => exact ⟨_, K + 1, zs, List.replicate (K + 1) 0, Nat.le_refl _, by omega, rfl, O1.out.alloc _, lz1.out, O2.out.alloc _, Own.new _ _, by simp, rfl, hfw1.out, by rw [show (List.replicate (K + 1) 0).drop (K + 1) = [] by simp, hfw2.out]; simp [val], b2.out.alloc b2.out.size _⟩
  case round =>
    clear hmk hfw1 hfw2
    obtain ⟨i, k, zs', qs, hk, hik, rfl, O1', l1', O2', O3', l3', ht, hwl, hinv, hB⟩ := hrel
    replace O1' := Lib.hid O1'
    replace l1' := Lib.hid l1'
    replace O2' := Lib.hid O2'
    replace O3' := Lib.hid O3'
    replace l3' := Lib.hid l3'
    replace ht := Lib.hid ht
    replace hwl := Lib.hid hwl
    replace hinv := Lib.hid hinv
    replace hB := Lib.hid hB
    by_cases h0 : k = 0
    · subst h0
      obtain rfl : i = -1 := by omega
      clear hik
      go_wp2_with fail
      have O1p := O1'.out.pre (p + 2)
      refine (shiftRight_any w.heap.size (p + 2) _ s _ _ O1p (by rw [List.length_take, l1'.out]; omega) hs31 (by omega)).mono ?_
      rintro e w3 ⟨rfl, zs3, O4, l4, v4, gr4⟩
      have e0 : val (zs'.take (p + 2)) = win zs' 0 (p + 2) := by unfold win; rw [List.drop_zero]
      have hi0 := hinv.out
      rw [List.drop_zero, List.drop_zero, v1.out] at hi0
      obtain ⟨hq, hr⟩ := shifted_div hi0 hwl.out
      rw [e0, hr] at v4
      have O5 := O3'.out.grown gr4 (by intro h; injection h with h; omega)
      have b4 := Lib.hid (Below.grown hB.out gr4 (by have := O1'.out.lt; omega) (by intro k hk; injection hk; omega))
      replace hq := Lib.hid hq
      replace v4 := Lib.hid v4
      replace O4 := Lib.hid O4
      replace O5 := Lib.hid O5
      replace l4 := Lib.hid l4
      clear hr hi0 e0 gr4 O1p
      go_wp2_with fail
      refine (trim_any _ _ _ qs _ (O5.out.rdn l3'.out (Nat.le_refl _)) (by omega)).mono ?_
      rintro e w4 ⟨n6, rfl, rfl, R6⟩
      rw [hq.out] at R6
      replace R6 := Lib.hid R6
      go_wp2_with fail
      refine (trim_any _ _ _ zs3 _ (O4.out.rdn l4.out (by omega)) (by omega)).mono ?_
      rintro e w5 ⟨n7, rfl, rfl, R7⟩
      rw [v4.out] at R7
      replace R7 := Lib.hid R7
      go_wp2
      go_ret2
      exact ⟨_, _, _, _, _, _, rfl, R6.out, R7.out, b4.out⟩
    · obtain ⟨j, rfl⟩ : ∃ j, k = j + 1 := ⟨k - 1, by omega⟩
      obtain rfl : i = j := by omega
      clear hik h0
      obtain ⟨htx, ht1⟩ := take_step ht.out
      replace ht1 := Lib.hid ht1
      replace htx := Lib.hid htx
      have g1 : (0 : Int) ≤ (j : Int) := by omega
      have g2 : (j : Int) < (K : Int) + 1 := by omega
      go_wp2_with fail
      rw [show j + (p + 2) + 1 - j = p + 2 + 1 by omega]
      have hls := fun zs2 => long_step (zs := zs) (zs' := zs') (zs2 := zs2) (qs := qs) (i := j) (m := p + 2) (D := val ys * 2 ^ s) (by rw [lz1.out]; omega) (by rw [l1'.out]; omega) (by rw [l3'.out]; omega) htx.out hwl.out hinv.out (sm_get O1.out.sm j)
      have hd := divStep_any w.heap.size j p (p + 2 + K + 1 - j) zs' (some ⟨w1.heap.size, 0, none⟩) (p + 2 + 1) (ds.take (p + 2)) wr O1'.out (by rw [l1'.out]; omega) (by omega) (O2'.out.rdx hg12.symm (by rw [lz2.out]; omega) (by omega)) (by have e : (ds.take (p + 2)).getD (p + 1) 0 = ds.getD (p + 1) 0 := by { simp [List.getD] }; rw [e]; exact hdt.out) (by omega) hvd.out (by rw [hdv.out]; exact (hls zs').1)
      rw [hdv.out] at hd
      have hqb : win zs' j (p + 2 + 1) / (val ys * 2 ^ s) < 4294967296 := by
        rw [Nat.div_lt_iff_lt_mul (Nat.mul_pos hD0.out (Nat.pow_pos (by omega))), Nat.mul_comm]
        exact (hls zs').1
      unfold RetStep at hd
      obtain ⟨qd, hqd⟩ : ∃ qd, win zs' j (p + 2 + 1) / (val ys * 2 ^ s) = qd := ⟨_, rfl⟩
      rw [hqd] at hd hqb
      simp only [hqd] at hls
      replace hls := Lib.hid hls
      refine hd.mono ?_
      clear hd hqd
      rintro e w3 ⟨zs2, rfl, O1b, l1b, t1b, hw, gr⟩
      have hfin := ((hls.out zs2).2 hw)
      have O2b := O2'.out.grown gr (by intro h; injection h with h; omega)
      have O3b := O3'.out.grown gr (by intro h; injection h with h; omega)
      have hcell := O3b.cell (k := j) (by rw [l3'.out]; omega)
      have hfz := O3b.frozen j
      have O3c := O3b.set_ j qd hqb
      have hBb := Below.grown hB.out gr (by have := O1'.out.lt; omega) (by intro k hk; injection hk; omega)
      have ht2 := t1b.trans ht1.out
      replace hfin := Lib.hid hfin
      replace O1b := Lib.hid O1b
      replace O2b := Lib.hid O2b
      replace O3c := Lib.hid O3c
      replace hBb := Lib.hid hBb
      replace ht2 := Lib.hid ht2
      replace l1b := Lib.hid l1b
      clear hw gr O3b t1b
      go_wp2
      go_roundw
      case rel => exact ⟨_, j, zs2, _, by omega, by omega, rfl, O1b.out.far (by show w.heap.size ≠ w2.heap.size; omega) _, l1b.out.trans l1'.out, O2b.out.far (by show w1.heap.size ≠ w2.heap.size; omega) _, O3c.out, by rw [List.length_set]; exact l3'.out, ht2.out, hfin.out.2, hfin.out.1, hBb.out.setCell (by show w.heap.size ≤ w2.heap.size; omega) _⟩
      case measure => simp [intOf]

set_option maxHeartbeats 2000000 in
theorem div_long (A : Option Addr) (n c : Nat) (xs : List Nat) (A' : Option Addr) (n' c' : Nat) (ys : List Nat) (w : World)
    (h1 : Rd w A n c xs) (h2 : Rd w A' n' c' ys) (hn : n ≤ 1000) (hn' : n' ≤ 1000) (hge : num ys ≤ num xs) (hlen : 2 ≤ (limbs (num ys)).length) :
    Calls Tryd.prog 50 #[.slice A n c, .slice A' n' c'] w (RetDiv (num xs) (num ys) w) := by
  replace h1 := Lib.hid h1
  replace h2 := Lib.hid h2
  replace hge := Lib.hid hge
  replace hlen := Lib.hid hlen
  go_enter Tryd.func50, Tryd.ntmps50
  go_wp2_with fail
  refine (known_any _ _ _ xs _ h1.out (by omega)).mono ?_
  rintro e w' ⟨B1, n1, c1, rfl, rfl, R1, l1⟩
  replace R1 := Lib.hid R1
  go_wp2_with fail
  refine (known_any _ _ _ ys _ h2.out (by omega)).mono ?_
  rintro e w' ⟨B2, n2, c2, rfl, rfl, R2, l2⟩
  obtain ⟨p, rfl⟩ : ∃ p, n2 = p + 2 := ⟨n2 - 2, by have := R2.len; have := hlen.out; omega⟩
  obtain ⟨K, rfl⟩ : ∃ K, n1 = p + 2 + K := ⟨n1 - (p + 2), by have := R2.len; have := R1.out.len; have := len_le hge.out; omega⟩
  replace R2 := Lib.hid R2
  clear h1 h2
  have hg0 : ((p : Int) + 2 == 0) = false := by simp; omega
  have hg1 : ((p : Int) + 2 == 1) = false := by simp; omega
  go_wp2_with fail
  have hc := compare_any _ _ _ _ _ _ _ _ _ R1.out R2.out (by omega) (by omega)
  rw [num_limbs, num_limbs] at hc
  obtain ⟨q, hq, hq0⟩ : ∃ q, cmpi (num xs) (num ys) = q ∧ 0 ≤ q := ⟨_, rfl, by unfold cmpi; have := hge.out; split; omega; split <;> omega⟩
  rw [hq] at hc
  clear hq
  have hq1 : decide (q < 0) = false := by simp; omega
  refine hc.mono ?_
  clear hc
  rintro e w' ⟨rfl, m, rfl⟩
  have hl := long_any B1 K p c1 (limbs (num xs)) B2 c2 (limbs (num ys)) (w.drewN m) (R1.out.drewN m) (R2.out.drewN m) (by omega) (vldB_limbs _)
  rw [val_limbs, val_limbs] at hl
  replace hl := Lib.hid hl
  go_wp2_with fail
  refine (hl.out).mono ?_
  rintro e w3 ⟨A3, n3, c3, A4, n4, c4, rfl, R3, R4, b3⟩
  replace R3 := Lib.hid R3
  replace R4 := Lib.hid R4
  replace b3 : Hid (Below w.heap.size w w3) := Lib.hid ((drewN_below w m).trans b3)
  clear hl
  go_wp2
  go_ret3
  exact ⟨_, _, _, _, _, _, rfl, R3.out, R4.out, b3.out⟩

/-- natural.Div, for a divisor that is not 0. -/
theorem div_any (A : Option Addr) (n c : Nat) (xs : List Nat) (A' : Option Addr) (n' c' : Nat) (ys : List Nat) (w : World)
    (h1 : Rd w A n c xs) (h2 : Rd w A' n' c' ys) (hn : n ≤ 1000) (hn' : n' ≤ 1000) (hy : 0 < num ys) :
    Calls Tryd.prog 50 #[.slice A n c, .slice A' n' c'] w (RetDiv (num xs) (num ys) w) := by
  rcases Nat.lt_or_ge (num xs) (num ys) with h | h
  · exact div_less A n c xs A' n' c' ys w h1 h2 (by omega) (by omega) h
  · have h0 := limbs_ne (y := num ys) rfl hy
    by_cases h1' : (limbs (num ys)).length = 1
    · exact div_one A n c xs A' n' c' ys w h1 h2 (by omega) (by omega) h h1'
    · exact div_long A n c xs A' n' c' ys w h1 h2 hn hn' h (by omega)

theorem divsBy_any (x b : Nat) : DivsBy x b := by
  intro r W A n c A' n' c' h1 h2 hn hn' hr _
  have := div_any A n c (limbs x) A' n' c' (limbs r) W h1 h2 hn hn' (by rw [num_limbs]; exact hr)
  rw [num_limbs, num_limbs] at this
  exact this

theorem div_b (A : Option Addr) (n c : Nat) (x : Nat) (A' : Option Addr) (n' c' : Nat) (y : Nat) (w : World) (p q : Nat)
    (h1 : Rd w A n c (limbs x)) (h2 : Rd w A' n' c' (limbs y)) (hn : n ≤ p) (hn' : n' ≤ q) (hp : p ≤ 1000) (hq : q ≤ 1000) (hy : 0 < y) :
    Calls Tryd.prog 50 #[.slice A n c, .slice A' n' c'] w fun e w' => ∃ A n c A' n' c', e = .returned (.tuple #[.slice A n c, .slice A' n' c', .bool true]) ∧ Rd w' A n c (limbs (x / y)) ∧ Rd w' A' n' c' (limbs (x % y)) ∧ Below w.heap.size w w' ∧ n ≤ p ∧ n' ≤ q := by
  have := div_any A n c (limbs x) A' n' c' (limbs y) w h1 h2 (by omega) (by omega) (by rw [num_limbs]; exact hy)
  rw [num_limbs, num_limbs] at this
  refine this.mono ?_
  rintro e w' ⟨A2, n2, c2, A3, n3, c3, he, hR, hR', hb⟩
  refine ⟨A2, n2, c2, A3, n3, c3, he, hR, hR', hb, ?_, ?_⟩
  · have := len_le (Nat.div_le_self x y)
    have a := h1.len
    have b := hR.len
    omega
  · have := len_le (Nat.le_of_lt (Nat.mod_lt x hy))
    have a := h2.len
    have b := hR'.len
    omega

theorem root_b (A : Option Addr) (n c : Nat) (x : Nat) (w : World) (p : Nat) (h1 : Rd w A n c (limbs x)) (hn : n ≤ p) (hp : p ≤ 500) :
    Calls Tryd.prog 52 #[.slice A n c] w fun e w' => ∃ A n c, e = .returned (.slice A n c) ∧ Rd w' A n c (limbs (isq x)) ∧ Below w.heap.size w w' ∧ n ≤ p := by
  have := root_any A n c (limbs x) w (2 ^ (32 * n + 32)) h1 (by omega) (divsBy_any _ _) (by
    rw [num_limbs]
    intro m l hm hl
    have e := h1.len
    have hlb : l < 4294967296 := by rw [← hl]; exact sm_get (sm_limbs x) m
    have := Lib.bitLen_le l 32 (by omega) (by omega)
    exact Nat.pow_le_pow_right (by omega) (by omega))
  rw [num_limbs] at this
  refine this.mono ?_
  rintro e w' ⟨A2, n2, c2, he, hR, hb⟩
  refine ⟨A2, n2, c2, he, hR, hb, ?_⟩
  have h2 : isq x ≤ x := by
    have h3 := (isq_spec x).1
    rcases Nat.eq_zero_or_pos (isq x) with h | h
    · omega
    · have := Nat.mul_le_mul_left (isq x) h
      omega
  have := len_le h2
  have a := h1.len
  have b := hR.len
  omega

end Go.Proofs.YtkdeajocogdmgaaDoor
