/- The contract of natural.Root, over a contract of Div. -/
import Derived.Test.YtkdeajocogdmgaaDoorWi
import Derived.Test.YtkdeajocogdmgaaDoorWb
import Derived.Deep.LoopGhost
namespace Go.Proofs.YtkdeajocogdmgaaDoor
open Go.RowKit

/-- That Div divides a number by each one from 1 on, at most b. -/
def DivsBy (x b : Nat) : Prop := ∀ (r : Nat) (W : World) (A : Option Addr) (n c : Nat) (A' : Option Addr) (n' c' : Nat), Rd W A n c (limbs x) → Rd W A' n' c' (limbs r) → n ≤ 1000 → n' ≤ 1000 → 0 < r → r ≤ b →
  Calls Tryd.prog 50 #[.slice A n c, .slice A' n' c'] W (RetDiv x r W)

theorem lz32_any (l : Nat) (w : World) (h : l < 4294967296) : Calls Tryd.prog 86 #[.int .u32 l] w fun e w' => e = .returned (.int .i64 (32 - (Lib.bitLen l : Int))) ∧ w = w' := by
  have := Tryd.bits_LeadingZeros32 l w (by omega) (by omega)
  rw [show ((l : Int).toNat) = l by omega] at this
  exact this.mono fun _ _ ⟨a, b⟩ => ⟨a, b.symm⟩

set_option maxHeartbeats 2000000 in
theorem root_any (A : Option Addr) (n c : Nat) (xs : List Nat) (w : World) (b : Nat) (h1 : Rd w A n c xs) (hn : n ≤ 500)
    (hD : DivsBy (num xs) b) (hb : ∀ m l : Nat, (limbs (num xs)).length = m + 1 → (limbs (num xs)).getD m 0 = l → 2 ^ ((32 * m + Lib.bitLen l + 1) / 2) ≤ b) :
    Calls Tryd.prog 52 #[.slice A n c] w (RetN (isq (num xs)) w) := by
  replace h1 := Lib.hid h1
  replace hD := Lib.hid hD
  replace hb := Lib.hid hb
  go_enter Tryd.func52, Tryd.ntmps52
  go_wp2_with fail
  refine (known_any _ _ _ xs _ h1.out (by omega)).mono ?_
  rintro e w' ⟨B1, n1, c1, rfl, rfl, R1, l1⟩
  replace R1 := Lib.hid R1
  clear h1
  by_cases h0 : n1 = 0
  · subst h0
    have hx : num xs = 0 := limbs_inj (by rw [limbs_zero]; exact List.eq_nil_of_length_eq_zero R1.out.len)
    replace hx := Lib.hid hx
    go_wp2
    go_ret
    exact ⟨none, 0, 0, rfl, by rw [hx.out]; exact (by rw [show isq 0 = 0 from rfl, limbs_zero]; exact Rd.nil_ _ _ _), Below.refl _ _⟩
  · obtain ⟨m, rfl⟩ : ∃ m, n1 = m + 1 := ⟨n1 - 1, by omega⟩
    obtain ⟨bb, ob, l, rfl, hbb, hlb, hle, hcl⟩ := R1.out.at_ (k := m) (by omega)
    have hg : ((m : Int) + 1 == 0) = false := by simp; omega
    have hbl : Lib.bitLen l ≤ 32 := Lib.bitLen_le l 32 (by omega) (by omega)
    have hst : isq (num xs) ≤ 2 ^ ((32 * m + Lib.bitLen l + 1) / 2) := by
      have := root_start (X := limbs (num xs)) (b := Lib.bitLen l) R1.out.sm R1.out.len (by rw [hle]; exact (bitLen_spec l (by omega)).1)
      rw [val_limbs] at this
      exact this
    have hbb2 : 2 ^ ((32 * m + Lib.bitLen l + 1) / 2) ≤ b := hb.out m l R1.out.len hle
    replace hst := Lib.hid hst
    replace hbb2 := Lib.hid hbb2
    replace hle := Lib.hid hle
    clear h0
    go_wp2_with fail
    refine (lz32_any l _ hlb).mono ?_
    rintro e w' ⟨rfl, rfl⟩
    obtain ⟨bl, hbl2⟩ : ∃ bl, Lib.bitLen l = bl := ⟨_, rfl⟩
    have h32 : (0 : Int) ≤ 32 - (bl : Int) := by omega
    rw [hbl2] at hbl hst hbb2 ⊢
    replace hbl2 := Lib.hid hbl2
    go_wp2_with fail
    rw [show ((32 * ((m : Int) + 1) - (32 - (bl : Int)) + 1) / 2) = (((32 * m + bl + 1) / 2 : Nat) : Int) by omega]
    refine (powTwo_any _ _ (by omega)).mono ?_
    rintro e w2 ⟨A2, n2, c2, rfl, R2, b2⟩
    have hr0 : 0 < 2 ^ ((32 * m + bl + 1) / 2) := Nat.pow_pos (by omega)
    obtain ⟨r0, hr0e⟩ : ∃ r0, 2 ^ ((32 * m + bl + 1) / 2) = r0 := ⟨_, rfl⟩
    have hbd : ∀ r, r ≤ r0 → (limbs r).length ≤ m + 2 := fun r hr => root_bd (b := bl) hbl (by rw [hr0e]; exact hr)
    rw [hr0e] at R2 hr0 hst hbb2
    clear hr0e
    replace hbd := Lib.hid hbd
    replace R2 := Lib.hid R2
    replace b2 := Lib.hid b2
    go_wp2
    go_loopg [4] r0 (fun r rv wr => ∃ (A2 : Option Addr) (n2 c2 : Nat), rv = .slice A2 n2 c2 ∧ Rd wr A2 n2 c2 (limbs r) ∧ 0 < r ∧ r ≤ r0 ∧ isq (num xs) ≤ r ∧ Below w.heap.size w wr)
    case atStart => exact ⟨_, _, _, rfl, R2.out, hr0, Nat.le_refl _, hst.out, b2.out⟩
    case round =>
      clear R2 b2
      obtain ⟨A2, n2, c2, rfl, R2, hr, hrr, hsr, hB⟩ := hrel
      have hn2 : n2 ≤ m + 2 := by have := hbd.out gk hrr; have := R2.len; omega
      replace R2 := Lib.hid R2
      replace hB := Lib.hid hB
      replace hsr := Lib.hid hsr
      have R1' := Lib.hid (R1.out.below hB.out)
      go_wp2_with fail
      refine (hD.out gk _ _ _ _ _ _ _ R1'.out R2.out (by omega) (by omega) hr (by have := hbb2.out; omega)).mono ?_
      rintro e w3 ⟨A3, n3, c3, A4, n4, c4, rfl, R3, R4, b3⟩
      have hn3 : n3 ≤ m + 1 := by
        have h := len_le (Nat.div_le_self (num xs) gk)
        have := R3.len
        have := R1.out.len
        omega
      clear R4
      replace R2 := Lib.hid (R2.out.below b3)
      replace R3 := Lib.hid R3
      replace b3 := Lib.hid (hB.out.trans (b3.mono hB.out.size))
      clear R1' hB
      go_wp2_with fail
      refine (add_own _ _ _ _ _ _ _ _ _ R2.out R3.out (by omega) (by omega)).mono ?_
      rintro e w4 ⟨g, n5, c5, rfl, hg, O5, hl5, hc5, b5⟩
      rw [num_limbs, num_limbs] at O5 hl5
      have hn5 : n5 ≤ 10000 := by
        have h1 := lt_of_len R2.out.len
        have h2 := lt_of_len R3.out.len
        have h3 : 4294967296 ^ n2 ≤ 4294967296 ^ (m + 2) := Nat.pow_le_pow_right (by omega) hn2
        have h4 : 4294967296 ^ n3 ≤ 4294967296 ^ (m + 2) := Nat.pow_le_pow_right (by omega) (by omega)
        have h5 := len_of_lt (x := gk + num xs / gk) (n := m + 3) (by rw [Nat.pow_succ]; omega)
        omega
      have hs34 := b5.size
      have R2b := Lib.hid (R2.out.base b5)
      replace b5 := Lib.hid (b3.out.trans (b5.mono b3.out.size))
      replace O5 := Lib.hid O5
      replace hl5 := Lib.hid hl5
      have hgw : w.heap.size ≤ g := by have := b3.out.size; omega
      clear R3 b3
      go_wp2_with fail
      refine (shiftRight_any g n5 c5 1 _ _ O5.out hl5.out (by omega) (by omega)).mono ?_
      rintro e w5 ⟨rfl, zs', O6, hl6, hv6, hg6⟩
      have hgl := O5.out.lt
      have R2c : Hid (Rd w5 A2 n2 c2 (limbs gk)) := Lib.hid ((R2b.out.grown hg6 (by omega) hg).more (by have := hg6.size; omega))
      have b6 : Hid (Below w.heap.size w w5) := Lib.hid (Below.grown b5.out hg6 (by have := b5.out.size; omega) (by intro k hk; injection hk; omega))
      rw [val_limbs] at hv6
      replace O6 := Lib.hid O6
      replace hl6 := Lib.hid hl6
      replace hv6 := Lib.hid hv6
      clear hg6 R2b b5 R2 hg hgl hs34
      go_wp2_with fail
      refine (trim_any _ _ _ zs' _ (O6.out.rdn hl6.out hc5) (by omega)).mono ?_
      rintro e w6 ⟨n7, rfl, rfl, R7⟩
      rw [hv6.out, show 2 ^ 1 = 2 from rfl] at R7
      have hn7 : n7 ≤ n5 := by
        have h1 := R7.len
        have h2 := len_le (Nat.div_le_self (gk + num xs / gk) 2)
        have := hl5.out
        omega
      replace R7 := Lib.hid R7
      clear O5 O6
      go_wp2_with fail
      have hc := compare_any _ _ _ _ _ _ _ _ _ R7.out R2c.out (by omega) (by omega)
      rw [num_limbs, num_limbs] at hc
      by_cases hst2 : (gk + num xs / gk) / 2 < gk
      · rw [cmpi_lt (by omega)] at hc
        refine hc.mono ?_
        clear hc
        rintro e w7 ⟨rfl, q, rfl⟩
        have hge := newton_ge (x := num xs) hr
        have hpos : 0 < (gk + num xs / gk) / 2 := by
          have := isq_pos (x := num xs) (by
            rcases Nat.eq_zero_or_pos (num xs) with h | h
            · have := R1.out.len; rw [h, limbs_zero] at this; cases this
            · exact h)
          omega
        generalize (gk + num xs / gk) / 2 = nx at *
        go_wp2
        go_roundg nx
        case measure => exact hst2
        case rel => exact ⟨_, _, _, rfl, R7.out.drewN q, hpos, by omega, hge, below_drewN b6.out q⟩
      · obtain ⟨cq, hcq, hcq0⟩ : ∃ cq, cmpi ((gk + num xs / gk) / 2 : Nat) gk = cq ∧ 0 ≤ cq := ⟨_, rfl, by unfold cmpi; rw [if_neg (by omega)]; split <;> omega⟩
        rw [hcq] at hc
        refine hc.mono ?_
        clear hc hcq
        rintro e w7 ⟨rfl, q, rfl⟩
        have hfin := Lib.hid (newton_stop hr hsr.out (by omega))
        go_wp2
        go_ret
        exact ⟨_, _, _, rfl, by rw [hfin.out]; exact R2c.out.drewN q, below_drewN b6.out q⟩

end Go.Proofs.YtkdeajocogdmgaaDoor
