/- The contract of natural.Root, over a contract of Div. The law's sanity check returns true. Small forms of the contracts, for the laws' walks. Contracts of guessLimb, subProduct and shiftLeft. -/
import Derived.Test.YtkdeajocogdmgaaDoorQWez
import Derived.Test.YtkdeajocogdmgaaDoorQWaz
import Derived.Deep.LoopGhost
import Derived.OpenShut
namespace Go.Proofs.YtkdeajocogdmgaaDoor
open Go.RowKit

/-- That Div divides a number by each one from 1 on, at most b. -/
def DivsBy (x b : Nat) : Prop := ∀ (r : Nat) (W : World) (A : Option Addr) (n c : Nat) (A' : Option Addr) (n' c' : Nat), Rd W A n c (limbs x) → Rd W A' n' c' (limbs r) → n ≤ 1000 → n' ≤ 1000 → 0 < r → r ≤ b →
  Calls Tryd.prog 50 #[.slice A n c, .slice A' n' c'] W (RetDiv x r W)

theorem lz32_any (l : Nat) (w : World) (h : l < 4294967296) : Calls Tryd.prog 86 #[.int .u32 l] w fun e w' => e = .returned (.int .i64 (32 - (Lib.bitLen l : Int))) ∧ w = w' := by
  have := Tryd.bits_LeadingZeros32 l w (by omega) (by omega)
  rw [show ((l : Int).toNat) = l by omega] at this
  exact this.mono fun _ _ ⟨a, b⟩ => ⟨a, b.symm⟩

set_option maxHeartbeats 2000000 in
theorem root_any (A : Option Addr) (n c : Nat) (xs : List Nat) (w : World) (b : Nat) (h1 : Rd w A n c xs) (hn : n ≤ 500)
    (hD : DivsBy (num xs) b) (hb : ∀ m l : Nat, (limbs (num xs)).length = m + 1 → (limbs (num xs)).getD m 0 = l → 2 ^ ((32 * m + Lib.bitLen l + 1) / 2) ≤ b) :
    Calls Tryd.prog 52 #[.slice A n c] w (RetN (isq (num xs)) w) := by
  replace h1 := Lib.hid h1
  replace hD := Lib.hid hD
  replace hb := Lib.hid hb
  go_enter Tryd.func52, Tryd.ntmps52
  go_wp2_with fail
  refine (known_any _ _ _ xs _ h1.out (by omega)).mono ?_
  rintro e w' ⟨B1, n1, c1, rfl, rfl, R1, l1⟩
  replace R1 := Lib.hid R1
  clear h1
  by_cases h0 : n1 = 0
  · subst h0
    have hx : num xs = 0 := limbs_inj (by rw [limbs_zero]; exact List.eq_nil_of_length_eq_zero R1.out.len)
    replace hx := Lib.hid hx
    go_wp2
    go_ret
    exact ⟨none, 0, 0, rfl, by rw [hx.out]; exact (by rw [show isq 0 = 0 from rfl, limbs_zero]; exact Rd.nil_ _ _ _), Below.refl _ _⟩
  · obtain ⟨m, rfl⟩ : ∃ m, n1 = m + 1 := ⟨n1 - 1, by omega⟩
    obtain ⟨bb, ob, l, rfl, hbb, hlb, hle, hcl⟩ := R1.out.at_ (k := m) (by omega)
    have hg : ((m : Int) + 1 == 0) = false := by simp; omega
    have hbl : Lib.bitLen l ≤ 32 := Lib.bitLen_le l 32 (by omega) (by omega)
    have hst : isq (num xs) ≤ 2 ^ ((32 * m + Lib.bitLen l + 1) / 2) := by
      have := root_start (X := limbs (num xs)) (b := Lib.bitLen l) R1.out.sm R1.out.len (by rw [hle]; exact (bitLen_spec l (by omega)).1)
      rw [val_limbs] at this
      exact this
    have hbb2 : 2 ^ ((32 * m + Lib.bitLen l + 1) / 2) ≤ b := hb.out m l R1.out.len hle
    replace hst := Lib.hid hst
    replace hbb2 := Lib.hid hbb2
    replace hle := Lib.hid hle
    clear h0
    go_wp2_with fail
    refine (lz32_any l _ hlb).mono ?_
    rintro e w' ⟨rfl, rfl⟩
    obtain ⟨bl, hbl2⟩ : ∃ bl, Lib.bitLen l = bl := ⟨_, rfl⟩
    have h32 : (0 : Int) ≤ 32 - (bl : Int) := by omega
    rw [hbl2] at hbl hst hbb2 ⊢
    replace hbl2 := Lib.hid hbl2
    go_wp2_with fail
    rw [show ((32 * ((m : Int) + 1) - (32 - (bl : Int)) + 1) / 2) = (((32 * m + bl + 1) / 2 : Nat) : Int) by omega]
    refine (powTwo_any _ _ (by omega)).mono ?_
    rintro e w2 ⟨A2, n2, c2, rfl, R2, b2⟩
    have hr0 : 0 < 2 ^ ((32 * m + bl + 1) / 2) := Nat.pow_pos (by omega)
    obtain ⟨r0, hr0e⟩ : ∃ r0, 2 ^ ((32 * m + bl + 1) / 2) = r0 := ⟨_, rfl⟩
    have hbd : ∀ r, r ≤ r0 → (limbs r).length ≤ m + 2 := fun r hr => root_bd (b := bl) hbl (by rw [hr0e]; exact hr)
    rw [hr0e] at R2 hr0 hst hbb2
    clear hr0e
    replace hbd := Lib.hid hbd
    replace R2 := Lib.hid R2
    replace b2 := Lib.hid b2
    go_wp2
    go_loopg [4] r0 (fun r rv wr => ∃ (A2 : Option Addr) (n2 c2 : Nat), rv = .slice A2 n2 c2 ∧ Rd wr A2 n2 c2 (limbs r) ∧ 0 < r ∧ r ≤ r0 ∧ isq (num xs) ≤ r ∧ Below w.heap.size w wr)
    case atStart => exact ⟨_, _, _, rfl, R2.out, hr0, Nat.le_refl _, hst.out, b2.out⟩
    case round =>
      clear R2 b2
      obtain ⟨A2, n2, c2, rfl, R2, hr, hrr, hsr, hB⟩ := hrel
      have hn2 : n2 ≤ m + 2 := by have := hbd.out gk hrr; have := R2.len; omega
      replace R2 := Lib.hid R2
      replace hB := Lib.hid hB
      replace hsr := Lib.hid hsr
      have R1' := Lib.hid (R1.out.below hB.out)
      go_wp2_with fail
      refine (hD.out gk _ _ _ _ _ _ _ R1'.out R2.out (by omega) (by omega) hr (by have := hbb2.out; omega)).mono ?_
      rintro e w3 ⟨A3, n3, c3, A4, n4, c4, rfl, R3, R4, b3⟩
      have hn3 : n3 ≤ m + 1 := by
        have h := len_le (Nat.div_le_self (num xs) gk)
        have := R3.len
        have := R1.out.len
        omega
      clear R4
      replace R2 := Lib.hid (R2.out.below b3)
      replace R3 := Lib.hid R3
      replace b3 := Lib.hid (hB.out.trans (b3.mono hB.out.size))
      clear R1' hB
      go_wp2_with fail
      refine (add_own _ _ _ _ _ _ _ _ _ R2.out R3.out (by omega) (by omega)).mono ?_
      rintro e w4 ⟨g, n5, c5, rfl, hg, O5, hl5, hc5, b5⟩
      rw [num_limbs, num_limbs] at O5 hl5
      have hn5 : n5 ≤ 10000 := by
        have h1 := lt_of_len R2.out.len
        have h2 := lt_of_len R3.out.len
        have h3 : 4294967296 ^ n2 ≤ 4294967296 ^ (m + 2) := Nat.pow_le_pow_right (by omega) hn2
        have h4 : 4294967296 ^ n3 ≤ 4294967296 ^ (m + 2) := Nat.pow_le_pow_right (by omega) (by omega)
        have h5 := len_of_lt (x := gk + num xs / gk) (n := m + 3) (by rw [Nat.pow_succ]; omega)
        omega
      have hs34 := b5.size
      have R2b := Lib.hid (R2.out.base b5)
      replace b5 := Lib.hid (b3.out.trans (b5.mono b3.out.size))
      replace O5 := Lib.hid O5
      replace hl5 := Lib.hid hl5
      have hgw : w.heap.size ≤ g := by have := b3.out.size; omega
      clear R3 b3
      go_wp2_with fail
      refine (shiftRight_any g n5 c5 1 _ _ O5.out hl5.out (by omega) (by omega)).mono ?_
      rintro e w5 ⟨rfl, zs', O6, hl6, hv6, hg6⟩
      have hgl := O5.out.lt
      have R2c : Hid (Rd w5 A2 n2 c2 (limbs gk)) := Lib.hid ((R2b.out.grown hg6 (by omega) hg).more (by have := hg6.size; omega))
      have b6 : Hid (Below w.heap.size w w5) := Lib.hid (Below.grown b5.out hg6 (by have := b5.out.size; omega) (by intro k hk; injection hk; omega))
      rw [val_limbs] at hv6
      replace O6 := Lib.hid O6
      replace hl6 := Lib.hid hl6
      replace hv6 := Lib.hid hv6
      clear hg6 R2b b5 R2 hg hgl hs34
      go_wp2_with fail
      refine (trim_any _ _ _ zs' _ (O6.out.rdn hl6.out hc5) (by omega)).mono ?_
      rintro e w6 ⟨n7, rfl, rfl, R7⟩
      rw [hv6.out, show 2 ^ 1 = 2 from rfl] at R7
      have hn7 : n7 ≤ n5 := by
        have h1 := R7.len
        have h2 := len_le (Nat.div_le_self (gk + num xs / gk) 2)
        have := hl5.out
        omega
      replace R7 := Lib.hid R7
      clear O5 O6
      go_wp2_with fail
      have hc := compare_any _ _ _ _ _ _ _ _ _ R7.out R2c.out (by omega) (by omega)
      rw [num_limbs, num_limbs] at hc
      by_cases hst2 : (gk + num xs / gk) / 2 < gk
      · rw [cmpi_lt (by omega)] at hc
        refine hc.mono ?_
        clear hc
        rintro e w7 ⟨rfl, q, rfl⟩
        have hge := newton_ge (x := num xs) hr
        have hpos : 0 < (gk + num xs / gk) / 2 := by
          have := isq_pos (x := num xs) (by
            rcases Nat.eq_zero_or_pos (num xs) with h | h
            · have := R1.out.len; rw [h, limbs_zero] at this; cases this
            · exact h)
          omega
        generalize (gk + num xs / gk) / 2 = nx at *
        go_wp2
        go_roundg nx
        case measure => exact hst2
        case rel => exact ⟨_, _, _, rfl, R7.out.drewN q, hpos, by omega, hge, below_drewN b6.out q⟩
      · obtain ⟨cq, hcq, hcq0⟩ : ∃ cq, cmpi ((gk + num xs / gk) / 2 : Nat) gk = cq ∧ 0 ≤ cq := ⟨_, rfl, by unfold cmpi; rw [if_neg (by omega)]; split <;> omega⟩
        rw [hcq] at hc
        refine hc.mono ?_
        clear hc hcq
        rintro e w7 ⟨rfl, q, rfl⟩
        have hfin := Lib.hid (newton_stop hr hsr.out (by omega))
        go_wp2
        go_ret
        exact ⟨_, _, _, rfl, by rw [hfin.out]; exact R2c.out.drewN q, below_drewN b6.out q⟩

end Go.Proofs.YtkdeajocogdmgaaDoor

namespace Go.Proofs.YtkdeajocogdmgaaDoor
open Go.RowKit

theorem divsBy_small (x : Nat) : DivsBy x 4294967295 := by
  intro r W A n c A' n' c' h1 h2 hn hn' hr hb
  rcases Nat.lt_or_ge x r with h | h
  · have := div_less A n c (limbs x) A' n' c' (limbs r) W h1 h2 (by omega) (by omega) (by rw [num_limbs, num_limbs]; exact h)
    rw [num_limbs, num_limbs] at this
    exact this
  · have := div_one A n c (limbs x) A' n' c' (limbs r) W h1 h2 (by omega) (by omega) (by rw [num_limbs, num_limbs]; exact h) (by
      rw [num_limbs]
      have h1 := len_of_lt (x := r) (n := 1) (by rw [Nat.pow_one]; omega)
      have h2 := limbs_ne (y := r) rfl hr
      omega)
    rw [num_limbs, num_limbs] at this
    exact this

theorem limbs_small {x : Nat} (h0 : 0 < x) (h : x < 4294967296) : limbs x = [x] := by
  rw [limbs_pos h0, show x / 4294967296 = 0 by omega, limbs_zero, show x % 4294967296 = x by omega]

theorem isq_99 : isq 99 = 9 := isq_unique (by omega) (by omega)

/-- A literal of one limb. -/
theorem lit_one (w : World) (g x : Nat) (z : Int) (hg : g = w.heap.size) (hz : z = x) (h0 : 0 < x) (h : x < 4294967296) : Rd (w.alloc (.cells #[.int .u32 z] 53)) (some ⟨g, 0, none⟩) 1 1 (limbs x) := by
  subst hg
  subst hz
  have := (Own.lit w [x] (by intro y hy; simp at hy; omega)).rd0 1 (by simp)
  rw [limbs_small h0 h]
  exact this

theorem limbs_2_32 : limbs 4294967296 = [0, 1] := by
  rw [limbs_pos (by omega)]
  show 0 :: limbs 1 = [0, 1]
  rw [limbs_small (by omega) (by omega)]

theorem lit_two (w : World) (g : Nat) (hg : g = w.heap.size) : Rd (w.alloc (.cells #[.int .u32 0, .int .u32 1] 53)) (some ⟨g, 0, none⟩) 2 2 (limbs 4294967296) := by
  subst hg
  have := (Own.lit w [0, 1] (by intro y hy; simp at hy; omega)).rd0 2 (by simp)
  rw [limbs_2_32]
  exact this

theorem len_one {x n : Nat} (h : (limbs x).length = n) (hx : x < 4294967296) : n ≤ 1 := by
  have := len_of_lt (x := x) (n := 1) (by rw [Nat.pow_one]; exact hx)
  omega

set_option maxHeartbeats 2000000 in
theorem awake_any (w : World) : Calls Tryd.prog 13 #[] w fun e w' => e = .returned (.bool true) ∧ Below w.heap.size w w' := by
  go_enter Tryd.func13, Tryd.ntmps13
  go_wp2_with fail
  refine (divsBy_small 7 2 _ _ _ _ _ _ _ ((lit_one w w.heap.size 7 7 rfl rfl (by omega) (by omega)).alloc _) (lit_one _ (w.heap.size + 1) 2 2 (by simp) rfl (by omega) (by omega)) (by omega) (by omega) (by omega) (by omega)).mono ?_
  rintro e w1 ⟨A1, n1, c1, A2, n2, c2, rfl, Q, R, b1⟩
  replace b1 : Hid (Below w.heap.size w w1) := Lib.hid ((((Below.refl _ _).alloc (Nat.le_refl _) _).alloc (by simp) _).trans (b1.mono (by simp; omega)))
  replace Q := Lib.hid Q
  replace R := Lib.hid R
  go_wp2_with fail
  refine (fromUint_any 4294967296 w1 (by omega)).mono ?_
  rintro e w2 ⟨A3, n3, c3, rfl, R3, b3⟩
  replace Q := Lib.hid (Q.out.below b3)
  replace R := Lib.hid (R.out.below b3)
  replace b1 := Lib.hid (b1.out.trans (b3.mono b1.out.size))
  replace R3 := Lib.hid R3
  clear b3
  go_wp2_with fail
  refine (same_true _ _ _ _ _ _ (limbs 4294967296) _ (R3.out.alloc _) (lit_two w2 _ rfl) (by have := R3.out.len; rw [limbs_2_32] at this; simp at this; omega)).mono ?_
  rintro e w3 ⟨rfl, m3, rfl⟩
  replace Q := Lib.hid ((Q.out.alloc (.cells #[.int .u32 0, .int .u32 1] 53)).drewN m3)
  replace R := Lib.hid ((R.out.alloc (.cells #[.int .u32 0, .int .u32 1] 53)).drewN m3)
  replace b1 : Hid (Below w.heap.size w ((w2.alloc (.cells #[.int .u32 0, .int .u32 1] 53)).drewN m3)) := Lib.hid (below_drewN (b1.out.alloc b1.out.size _) m3)
  clear R3
  generalize (w2.alloc (.cells #[.int .u32 0, .int .u32 1] 53)).drewN m3 = w4 at Q R b1 ⊢
  go_wp2_with fail
  have hr := root_any (some ⟨w4.heap.size, 0, none⟩) 1 1 (limbs 99) (w4.alloc (.cells #[.int .u32 99] 53)) 4294967295 (lit_one w4 _ 99 99 rfl rfl (by omega) (by omega)) (by omega) (by rw [num_limbs]; exact divsBy_small 99) (by
    rw [num_limbs, limbs_small (by omega) (by omega)]
    intro m l hm hl
    obtain rfl : m = 0 := by simpa using hm.symm
    obtain rfl : l = 99 := by simpa using hl.symm
    have := Lib.bitLen_le 99 7 (by omega) (by omega)
    exact Nat.le_trans (Nat.pow_le_pow_right (by omega) (show (32 * 0 + Lib.bitLen 99 + 1) / 2 ≤ 4 by omega)) (by omega))
  rw [num_limbs, isq_99] at hr
  refine hr.mono ?_
  clear hr
  rintro e w5 ⟨A5, n5, c5, rfl, R5, b5⟩
  replace Q := Lib.hid ((Q.out.alloc (.cells #[.int .u32 99] 53)).below b5)
  replace R := Lib.hid ((R.out.alloc (.cells #[.int .u32 99] 53)).below b5)
  replace b1 : Hid (Below w.heap.size w w5) := Lib.hid ((b1.out.alloc b1.out.size (.cells #[.int .u32 99] 53)).trans (b5.mono (by have := b1.out.size; simp; omega)))
  replace R5 := Lib.hid R5
  clear b5
  go_wp2_with fail
  refine (same_true _ _ _ _ _ _ (limbs 9) _ (R5.out.alloc _) (lit_one w5 _ 9 9 rfl rfl (by omega) (by omega)) (by have := len_one R5.out.len (by omega); omega)).mono ?_
  rintro e w6 ⟨rfl, m6, rfl⟩
  replace Q := Lib.hid ((Q.out.alloc (.cells #[.int .u32 9] 53)).drewN m6)
  replace R := Lib.hid ((R.out.alloc (.cells #[.int .u32 9] 53)).drewN m6)
  replace b1 : Hid (Below w.heap.size w ((w5.alloc (.cells #[.int .u32 9] 53)).drewN m6)) := Lib.hid (below_drewN (b1.out.alloc b1.out.size _) m6)
  clear R5
  generalize (w5.alloc (.cells #[.int .u32 9] 53)).drewN m6 = w7 at Q R b1 ⊢
  go_wp2_with fail
  refine (same_true _ _ _ _ _ _ (limbs 3) _ (Q.out.alloc _) (lit_one w7 _ 3 3 rfl rfl (by omega) (by omega)) (by have := len_one Q.out.len (by omega); omega)).mono ?_
  rintro e w8 ⟨rfl, m8, rfl⟩
  replace R := Lib.hid ((R.out.alloc (.cells #[.int .u32 3] 53)).drewN m8)
  replace b1 : Hid (Below w.heap.size w ((w7.alloc (.cells #[.int .u32 3] 53)).drewN m8)) := Lib.hid (below_drewN (b1.out.alloc b1.out.size _) m8)
  clear Q
  generalize (w7.alloc (.cells #[.int .u32 3] 53)).drewN m8 = w9 at R b1 ⊢
  go_wp2_with fail
  refine (same_true _ _ _ _ _ _ (limbs 1) _ (R.out.alloc _) (lit_one w9 _ 1 1 rfl rfl (by omega) (by omega)) (by have := len_one R.out.len (by omega); omega)).mono ?_
  rintro e w10 ⟨rfl, m10, rfl⟩
  have b2 := Lib.hid (below_drewN (b1.out.alloc b1.out.size (.cells #[.int .u32 1] 53)) m10)
  go_wp2
  go_ret
  exact ⟨rfl, b2.out⟩

end Go.Proofs.YtkdeajocogdmgaaDoor

namespace Go.Proofs.YtkdeajocogdmgaaDoor
open Go.RowKit

/-- A slice of integers that came in, as limbs. -/
theorem rd_of_row {w : World} {a : Option Addr} {len cap : Nat} {zs : List Int}
    (h : (a = none ∧ len = 0 ∧ cap = 0 ∧ zs = []) ∨
      ∃ x, a = some x ∧ len ≤ cap ∧ cap ≤ maxLen ∧ zs.length = cap ∧ (∀ i, i < zs.length → w.cell? (x.add i) = some (.int .u32 (zs.getD i 0))) ∧ ∀ n ∈ zs, (Lit.int .u32 n).wf = true) :
    ∃ xs, Rd w a len cap xs ∧ len ≤ 9223372036854775807 := by
  rcases h with ⟨rfl, rfl, rfl, rfl⟩ | ⟨x, rfl, hl, hc, hz, hcell, hwf⟩
  · exact ⟨[], Rd.nil_ _ _ _, by omega⟩
  · have hm : len ≤ 9223372036854775807 := by unfold maxLen at hc; omega
    refine ⟨(zs.take len).map Int.toNat, ⟨by rw [List.length_map, List.length_take]; omega, hl, ?_, ?_⟩, hm⟩
    · intro y hy
      obtain ⟨z, hz1, rfl⟩ := List.mem_map.1 hy
      have := bounds_u32 (hwf z (List.mem_of_mem_take hz1))
      omega
    · rcases Nat.eq_zero_or_pos len with h0 | h0
      · exact .inl h0
      · right
        obtain ⟨b, o, rfl, hc2⟩ := ints_at hcell (by omega)
        refine ⟨b, o, rfl, World.block_lt_of_cell? (a := ⟨b, o, none⟩) w (show w.cell? ⟨b, o, none⟩ = some _ from hc2 0 (by omega)), fun k hk => ?_⟩
        rw [hc2 k (by omega)]
        have hkz : k < zs.length := by omega
        have hb := bounds_u32 (hwf zs[k] (List.getElem_mem hkz))
        simp [hk, hkz]
        omega

theorem fair_yes {n1 n2 n3 : Nat} {xs ys zs : List Nat} (h : fairB n1 n2 n3 xs ys zs = true) : n1 ≤ 12 ∧ n2 ≤ 12 ∧ n3 ≤ 12 ∧ vldB xs = true ∧ vldB ys = true ∧ vldB zs = true := by
  simpa [fairB] using h

theorem rd_limbs {w : World} {A : Option Addr} {n c : Nat} {xs : List Nat} (h : Rd w A n c xs) (hv : vldB xs = true) : Rd w A n c (limbs (val xs)) := by
  rw [limbs_val h.sm hv]; exact h

theorem same_b (A : Option Addr) (n c : Nat) (A' : Option Addr) (n' c' : Nat) (xs ys : List Nat) (w : World)
    (h1 : Rd w A n c xs) (h2 : Rd w A' n' c' ys) (hn : n ≤ 100000) (he : xs = ys) :
    Calls Tryd.prog 18 #[.slice A n c, .slice A' n' c'] w fun e w' => e = .returned (.bool true) ∧ Below w.heap.size w w' := by
  subst he
  refine (same_true A n c A' n' c' xs w h1 h2 hn).mono ?_
  rintro e w' ⟨he, m, rfl⟩
  exact ⟨he, drewN_below w m⟩

theorem compare_b (A : Option Addr) (n c : Nat) (x : Nat) (A' : Option Addr) (n' c' : Nat) (y : Nat) (w : World)
    (h1 : Rd w A n c (limbs x)) (h2 : Rd w A' n' c' (limbs y)) (hn : n ≤ 10000) (hn' : n' ≤ 10000) (q : Int) (hq : cmpi x y = q) :
    Calls Tryd.prog 76 #[.slice A n c, .slice A' n' c'] w fun e w' => e = .returned (.int .i64 q) ∧ Below w.heap.size w w' := by
  have := compare_any A n c (limbs x) A' n' c' (limbs y) w h1 h2 hn hn'
  rw [num_limbs, num_limbs, hq] at this
  refine this.mono ?_
  rintro e w' ⟨he, m, rfl⟩
  exact ⟨he, drewN_below w m⟩

theorem add_b (A : Option Addr) (n c : Nat) (x : Nat) (A' : Option Addr) (n' c' : Nat) (y : Nat) (w : World) (p : Nat)
    (h1 : Rd w A n c (limbs x)) (h2 : Rd w A' n' c' (limbs y)) (hn : n ≤ p) (hn' : n' ≤ p) (hp : p ≤ 10000) :
    Calls Tryd.prog 77 #[.slice A n c, .slice A' n' c'] w fun e w' => ∃ A n c, e = .returned (.slice A n c) ∧ Rd w' A n c (limbs (x + y)) ∧ Below w.heap.size w w' ∧ n ≤ p + 1 := by
  have := add_any A n c (limbs x) A' n' c' (limbs y) w h1 h2 (by omega) (by omega)
  rw [num_limbs, num_limbs] at this
  refine this.mono ?_
  rintro e w' ⟨A2, n2, c2, he, hR, hb⟩
  refine ⟨A2, n2, c2, he, hR, hb, ?_⟩
  rw [← hR.len]
  apply len_of_lt
  have a := lt_of_len h1.len
  have b := lt_of_len h2.len
  have a2 : 4294967296 ^ n ≤ 4294967296 ^ p := Nat.pow_le_pow_right (by omega) hn
  have b2 : 4294967296 ^ n' ≤ 4294967296 ^ p := Nat.pow_le_pow_right (by omega) hn'
  rw [Nat.pow_succ]
  omega

theorem mul_b (A : Option Addr) (n c : Nat) (x : Nat) (A' : Option Addr) (n' c' : Nat) (y : Nat) (w : World) (p q : Nat)
    (h1 : Rd w A n c (limbs x)) (h2 : Rd w A' n' c' (limbs y)) (hn : n ≤ p) (hn' : n' ≤ q) (hp : p ≤ 10000) (hq : q ≤ 10000) :
    Calls Tryd.prog 80 #[.slice A n c, .slice A' n' c'] w fun e w' => ∃ A n c, e = .returned (.slice A n c) ∧ Rd w' A n c (limbs (x * y)) ∧ Below w.heap.size w w' ∧ n ≤ p + q := by
  have := mul_any A n c (limbs x) A' n' c' (limbs y) w h1 h2 (by omega) (by omega)
  rw [num_limbs, num_limbs] at this
  refine this.mono ?_
  rintro e w' ⟨A2, n2, c2, he, hR, hb⟩
  refine ⟨A2, n2, c2, he, hR, hb, ?_⟩
  rw [← hR.len]
  apply len_of_lt
  have a := lt_of_len h1.len
  have b := lt_of_len h2.len
  have a2 : 4294967296 ^ n ≤ 4294967296 ^ p := Nat.pow_le_pow_right (by omega) hn
  have b2 : 4294967296 ^ n' ≤ 4294967296 ^ q := Nat.pow_le_pow_right (by omega) hn'
  rw [Nat.pow_add]
  exact Nat.mul_lt_mul_of_lt_of_le (by omega) (by omega) (by omega)

theorem sub_ge_b (A : Option Addr) (n c : Nat) (x : Nat) (A' : Option Addr) (n' c' : Nat) (y : Nat) (w : World) (p : Nat)
    (h1 : Rd w A n c (limbs x)) (h2 : Rd w A' n' c' (limbs y)) (hn : n ≤ p) (hn' : n' ≤ p) (hp : p ≤ 10000) (hge : y ≤ x) :
    Calls Tryd.prog 78 #[.slice A n c, .slice A' n' c'] w fun e w' => ∃ A n c, e = .returned (.tuple #[.slice A n c, .bool true]) ∧ Rd w' A n c (limbs (x - y)) ∧ Below w.heap.size w w' ∧ n ≤ p := by
  have := sub_ge A n c (limbs x) A' n' c' (limbs y) w h1 h2 (by omega) (by omega) (by rw [num_limbs, num_limbs]; exact hge)
  rw [num_limbs, num_limbs] at this
  refine this.mono ?_
  rintro e w' ⟨A2, n2, c2, he, hR, hb⟩
  refine ⟨A2, n2, c2, he, hR, hb, ?_⟩
  have := len_le (Nat.sub_le x y)
  have a := h1.len
  have b := hR.len
  omega

theorem sub_lt_b (A : Option Addr) (n c : Nat) (x : Nat) (A' : Option Addr) (n' c' : Nat) (y : Nat) (w : World)
    (h1 : Rd w A n c (limbs x)) (h2 : Rd w A' n' c' (limbs y)) (hn : n ≤ 10000) (hn' : n' ≤ 10000) (hlt : x < y) :
    Calls Tryd.prog 78 #[.slice A n c, .slice A' n' c'] w fun e w' => e = .returned (.tuple #[.slice none 0 0, .bool false]) ∧ Below w.heap.size w w' :=
  sub_lt A n c (limbs x) A' n' c' (limbs y) w h1 h2 hn hn' (by rw [num_limbs, num_limbs]; exact hlt)

theorem cmpi_neg (a b : Int) : cmpi b a = -cmpi a b := by
  unfold cmpi
  split <;> split <;> (try split) <;> omega

end Go.Proofs.YtkdeajocogdmgaaDoor

namespace Go.Proofs.YtkdeajocogdmgaaDoor
open Go.RowKit

theorem ret_u32 {k : IntKind} {a b : Int} (h : a = b) : Ending.returned (.int k a) = .returned (.int k b) := by rw [h]

set_option maxRecDepth 100000 in
set_option maxHeartbeats 2000000 in
theorem guess_any (a2 a1 a0 b1 b0 : Nat) (w : World) (h2 : a2 < 4294967296) (h1 : a1 < 4294967296) (h0 : a0 < 4294967296) (hb1 : 2147483648 ≤ b1) (hb1' : b1 < 4294967296) (hb0 : b0 < 4294967296)
    (hT : a2 * 4294967296 + a1 ≤ b1 * 4294967296 + b0) :
    Calls Tryd.prog 117 #[.int .u32 a2, .int .u32 a1, .int .u32 a0, .int .u32 b1, .int .u32 b0] w fun e w' => ∃ g, (e = .returned (.int .u32 (g : Nat)) ∧ GuessOk (a2 * 4294967296 + a1) a0 b1 b0 g) ∧ ∃ m, w' = w.drewN m := by
  have hor := or_limb a2 a1 h2 h1
  obtain ⟨T, hTe⟩ : ∃ T, a2 * 4294967296 + a1 = T := ⟨_, rfl⟩
  rw [hTe] at hor hT ⊢
  have hTb : (T : Int) ≤ 18446744073709551615 := by omega
  have hT0 : (0 : Int) ≤ (T : Int) := by omega
  have hq := gl_start hT hb1 hb0
  have hqi : (T : Int) / (b1 : Int) ≤ 4294967297 := by rw [← Int.natCast_ediv]; exact Int.ofNat_le.2 hq
  have hqi0 : 0 ≤ (T : Int) / (b1 : Int) := by rw [← Int.natCast_ediv]; exact Int.natCast_nonneg _
  have hb1i : (1 : Int) ≤ (b1 : Int) := by omega
  have hm0 := gl_start_m T a0 b1 b0 (by omega) h0
  have hr0 := Nat.mod_lt T (show 0 < b1 by omega)
  have hd0 := Nat.div_add_mod' T b1
  replace hq := Lib.hid hq
  replace hm0 := Lib.hid hm0
  replace hr0 := Lib.hid hr0
  replace hd0 := Lib.hid hd0
  replace hT := Lib.hid hT
  clear hTe
  go_enter Tryd.func117, Tryd.ntmps117
  go_wp2
  go_quiet (fail)
  go_wp2
  go_loopg [12, 13] (T / b1) (fun g gv rv wr => ∃ (rest m : Nat), gv = .int .u64 (g : Nat) ∧ rv = .int .u64 (rest : Nat) ∧ g * b1 + rest = T ∧ rest ≤ 4294967295 ∧ g ≤ 4294967297 ∧ (4294967295 ≤ g ∨ T * 4294967296 + a0 < (g + 1) * (b1 * 4294967296 + b0)) ∧ wr = w.drewN m)
  case atStart => exact ⟨T % b1, _, by rw [Int.natCast_ediv], by rw [Int.natCast_emod], hd0.out, by have := hr0.out; omega, hq.out, .inr hm0.out, rfl⟩
  case round =>
    clear hor hqi hqi0
    obtain ⟨rest, m, rfl, rfl, hg, hr, hgb, hmx, rfl⟩ := hrel
    replace hmx := Lib.hid hmx
    replace hg := Lib.hid hg
    have hb1t : (b1 : Int) < 4294967296 := by omega
    have hb1z : (0 : Int) ≤ (b1 : Int) := by omega
    have hlc : 1 ≤ gk → (gk : Int) - 1 = ((gk - 1 : Nat) : Int) := fun h => by omega
    have hlt0 : 1 ≤ gk → gk - 1 < gk := fun h => by omega
    by_cases hgt : 4294967295 < gk
    · have hgti : (4294967295 : Int) < (gk : Int) := by omega
      obtain ⟨hn1, hn2⟩ := gl_next (T := T) (g := gk - 1) (rest := rest) (by rw [show gk - 1 + 1 = gk by omega]; exact hg.out) (a0 := a0) (b0 := b0) (.inl (by omega))
      replace hn1 := Lib.hid hn1
      replace hn2 := Lib.hid hn2
      have hlt1 := hlt0 (by omega)
      by_cases hbr : 4294967295 < rest + b1
      · have hbri : (4294967295 : Int) < (rest : Int) + (b1 : Int) := by omega
        have hfin := gl_break hn1.out (by omega) hT.out hb0 hn2.out
        have hgl : (gk : Int) - 1 < 4294967296 := by have := hfin.1; omega
        replace hfin := Lib.hid hfin
        go_wp2
        go_ret
        exact ⟨gk - 1, ⟨(by first | rfl | exact ret_u32 (hlc (by omega))), hfin.out⟩, m, rfl⟩
      · have hbri : decide ((4294967295 : Int) < (rest : Int) + (b1 : Int)) = false := by simp; omega
        go_wp2
        go_roundg (gk - 1)
        case measure => exact hlt1
        case rel => exact ⟨rest + b1, m, by go_num, by go_num, hn1.out, by omega, by omega, hn2.out, rfl⟩
    · have hgti : decide ((4294967295 : Int) < (gk : Int)) = false := by simp; omega
      have hgtb : (gk : Int) < 4294967296 := by omega
      have hor2 := or_limb rest a0 (by omega) h0
      obtain ⟨t2, ht2⟩ : ∃ t2, rest * 4294967296 + a0 = t2 := ⟨_, rfl⟩
      rw [ht2] at hor2
      have ht2b : (t2 : Int) ≤ 18446744073709551615 := by omega
      obtain ⟨p, hpe⟩ : ∃ p, gk * b0 = p := ⟨_, rfl⟩
      have hpb := mul_bd (x := gk) (y := b0) (by omega) hb0
      rw [hpe] at hpb
      have hpc : (gk : Int) * (b0 : Int) = (p : Int) := by rw [← hpe, Int.natCast_mul]
      have hpb2 : (p : Int) ≤ 18446744065119617025 := by omega
      replace hpe := Lib.hid hpe
      replace ht2 := Lib.hid ht2
      clear hpb
      by_cases hlt : t2 < p
      · have hlti : (t2 : Int) < (p : Int) := by omega
        have hg1 : 1 ≤ gk := by
          rcases Nat.eq_zero_or_pos gk with h | h
          · exfalso; have := hpe.out; rw [h, Nat.zero_mul] at this; omega
          · exact h
        have hg1i : (1 : Int) ≤ (gk : Int) := by omega
        obtain ⟨hn1, hn2⟩ := gl_next (T := T) (g := gk - 1) (rest := rest) (by rw [show gk - 1 + 1 = gk by omega]; exact hg.out) (a0 := a0) (b0 := b0) (.inr (by rw [show gk - 1 + 1 = gk by omega, hpe.out, ht2.out]; exact hlt))
        replace hn1 := Lib.hid hn1
        replace hn2 := Lib.hid hn2
        have hlt1 := hlt0 hg1
        by_cases hbr : 4294967295 < rest + b1
        · have hbri : (4294967295 : Int) < (rest : Int) + (b1 : Int) := by omega
          have hfin := gl_break hn1.out (by omega) hT.out hb0 hn2.out
          have hgl : (gk : Int) - 1 < 4294967296 := by have := hfin.1; omega
          replace hfin := Lib.hid hfin
          go_wp2
          go_ret
          exact ⟨gk - 1, ⟨(by first | rfl | exact ret_u32 (hlc (by omega))), hfin.out⟩, m, rfl⟩
        · have hbri : decide ((4294967295 : Int) < (rest : Int) + (b1 : Int)) = false := by simp; omega
          go_wp2
          go_roundg (gk - 1)
          case measure => exact hlt1
          case rel => exact ⟨rest + b1, m, by go_num, by go_num, hn1.out, by omega, by omega, hn2.out, rfl⟩
      · have hlti : decide ((t2 : Int) < (p : Int)) = false := by simp; omega
        have hfin := Lib.hid (gl_stop hg.out (show gk ≤ 4294967295 by omega) (a0 := a0) (b0 := b0) (by rw [hpe.out, ht2.out]; omega) hmx.out)
        go_wp2
        go_ret
        exact ⟨gk, ⟨rfl, hfin.out⟩, m, rfl⟩

end Go.Proofs.YtkdeajocogdmgaaDoor
