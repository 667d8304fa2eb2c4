/- Small forms of the contracts, for the laws' walks. -/
import Derived.Test.YtkdeajocogdmgaaDoorWk
import Derived.OpenShut
namespace Go.Proofs.YtkdeajocogdmgaaDoor
open Go.RowKit

/-- A slice of integers that came in, as limbs. -/
theorem rd_of_row {w : World} {a : Option Addr} {len cap : Nat} {zs : List Int}
    (h : (a = none ∧ len = 0 ∧ cap = 0 ∧ zs = []) ∨
      ∃ x, a = some x ∧ len ≤ cap ∧ cap ≤ maxLen ∧ zs.length = cap ∧ (∀ i, i < zs.length → w.cell? (x.add i) = some (.int .u32 (zs.getD i 0))) ∧ ∀ n ∈ zs, (Lit.int .u32 n).wf = true) :
    ∃ xs, Rd w a len cap xs ∧ len ≤ 9223372036854775807 := by
  rcases h with ⟨rfl, rfl, rfl, rfl⟩ | ⟨x, rfl, hl, hc, hz, hcell, hwf⟩
  · exact ⟨[], Rd.nil_ _ _ _, by omega⟩
  · have hm : len ≤ 9223372036854775807 := by unfold maxLen at hc; omega
    refine ⟨(zs.take len).map Int.toNat, ⟨by rw [List.length_map, List.length_take]; omega, hl, ?_, ?_⟩, hm⟩
    · intro y hy
      obtain ⟨z, hz1, rfl⟩ := List.mem_map.1 hy
      have := bounds_u32 (hwf z (List.mem_of_mem_take hz1))
      omega
    · rcases Nat.eq_zero_or_pos len with h0 | h0
      · exact .inl h0
      · right
        obtain ⟨b, o, rfl, hc2⟩ := ints_at hcell (by omega)
        refine ⟨b, o, rfl, World.block_lt_of_cell? (a := ⟨b, o, none⟩) w (show w.cell? ⟨b, o, none⟩ = some _ from hc2 0 (by omega)), fun k hk => ?_⟩
        rw [hc2 k (by omega)]
        have hkz : k < zs.length := by omega
        have hb := bounds_u32 (hwf zs[k] (List.getElem_mem hkz))
        simp [hk, hkz]
        omega

theorem fair_yes {n1 n2 n3 : Nat} {xs ys zs : List Nat} (h : fairB n1 n2 n3 xs ys zs = true) : n1 ≤ 12 ∧ n2 ≤ 12 ∧ n3 ≤ 12 ∧ vldB xs = true ∧ vldB ys = true ∧ vldB zs = true := by
  simpa [fairB] using h

theorem rd_limbs {w : World} {A : Option Addr} {n c : Nat} {xs : List Nat} (h : Rd w A n c xs) (hv : vldB xs = true) : Rd w A n c (limbs (val xs)) := by
  rw [limbs_val h.sm hv]; exact h

theorem same_b (A : Option Addr) (n c : Nat) (A' : Option Addr) (n' c' : Nat) (xs ys : List Nat) (w : World)
    (h1 : Rd w A n c xs) (h2 : Rd w A' n' c' ys) (hn : n ≤ 100000) (he : xs = ys) :
    Calls Tryd.prog 18 #[.slice A n c, .slice A' n' c'] w fun e w' => e = .returned (.bool true) ∧ Below w.heap.size w w' := by
  subst he
  refine (same_true A n c A' n' c' xs w h1 h2 hn).mono ?_
  rintro e w' ⟨he, m, rfl⟩
  exact ⟨he, drewN_below w m⟩

theorem compare_b (A : Option Addr) (n c : Nat) (x : Nat) (A' : Option Addr) (n' c' : Nat) (y : Nat) (w : World)
    (h1 : Rd w A n c (limbs x)) (h2 : Rd w A' n' c' (limbs y)) (hn : n ≤ 10000) (hn' : n' ≤ 10000) (q : Int) (hq : cmpi x y = q) :
    Calls Tryd.prog 76 #[.slice A n c, .slice A' n' c'] w fun e w' => e = .returned (.int .i64 q) ∧ Below w.heap.size w w' := by
  have := compare_any A n c (limbs x) A' n' c' (limbs y) w h1 h2 hn hn'
  rw [num_limbs, num_limbs, hq] at this
  refine this.mono ?_
  rintro e w' ⟨he, m, rfl⟩
  exact ⟨he, drewN_below w m⟩

theorem add_b (A : Option Addr) (n c : Nat) (x : Nat) (A' : Option Addr) (n' c' : Nat) (y : Nat) (w : World) (p : Nat)
    (h1 : Rd w A n c (limbs x)) (h2 : Rd w A' n' c' (limbs y)) (hn : n ≤ p) (hn' : n' ≤ p) (hp : p ≤ 10000) :
    Calls Tryd.prog 77 #[.slice A n c, .slice A' n' c'] w fun e w' => ∃ A n c, e = .returned (.slice A n c) ∧ Rd w' A n c (limbs (x + y)) ∧ Below w.heap.size w w' ∧ n ≤ p + 1 := by
  have := add_any A n c (limbs x) A' n' c' (limbs y) w h1 h2 (by omega) (by omega)
  rw [num_limbs, num_limbs] at this
  refine this.mono ?_
  rintro e w' ⟨A2, n2, c2, he, hR, hb⟩
  refine ⟨A2, n2, c2, he, hR, hb, ?_⟩
  rw [← hR.len]
  apply len_of_lt
  have a := lt_of_len h1.len
  have b := lt_of_len h2.len
  have a2 : 4294967296 ^ n ≤ 4294967296 ^ p := Nat.pow_le_pow_right (by omega) hn
  have b2 : 4294967296 ^ n' ≤ 4294967296 ^ p := Nat.pow_le_pow_right (by omega) hn'
  rw [Nat.pow_succ]
  omega

theorem mul_b (A : Option Addr) (n c : Nat) (x : Nat) (A' : Option Addr) (n' c' : Nat) (y : Nat) (w : World) (p q : Nat)
    (h1 : Rd w A n c (limbs x)) (h2 : Rd w A' n' c' (limbs y)) (hn : n ≤ p) (hn' : n' ≤ q) (hp : p ≤ 10000) (hq : q ≤ 10000) :
    Calls Tryd.prog 80 #[.slice A n c, .slice A' n' c'] w fun e w' => ∃ A n c, e = .returned (.slice A n c) ∧ Rd w' A n c (limbs (x * y)) ∧ Below w.heap.size w w' ∧ n ≤ p + q := by
  have := mul_any A n c (limbs x) A' n' c' (limbs y) w h1 h2 (by omega) (by omega)
  rw [num_limbs, num_limbs] at this
  refine this.mono ?_
  rintro e w' ⟨A2, n2, c2, he, hR, hb⟩
  refine ⟨A2, n2, c2, he, hR, hb, ?_⟩
  rw [← hR.len]
  apply len_of_lt
  have a := lt_of_len h1.len
  have b := lt_of_len h2.len
  have a2 : 4294967296 ^ n ≤ 4294967296 ^ p := Nat.pow_le_pow_right (by omega) hn
  have b2 : 4294967296 ^ n' ≤ 4294967296 ^ q := Nat.pow_le_pow_right (by omega) hn'
  rw [Nat.pow_add]
  exact Nat.mul_lt_mul_of_lt_of_le (by omega) (by omega) (by omega)

theorem sub_ge_b (A : Option Addr) (n c : Nat) (x : Nat) (A' : Option Addr) (n' c' : Nat) (y : Nat) (w : World) (p : Nat)
    (h1 : Rd w A n c (limbs x)) (h2 : Rd w A' n' c' (limbs y)) (hn : n ≤ p) (hn' : n' ≤ p) (hp : p ≤ 10000) (hge : y ≤ x) :
    Calls Tryd.prog 78 #[.slice A n c, .slice A' n' c'] w fun e w' => ∃ A n c, e = .returned (.tuple #[.slice A n c, .bool true]) ∧ Rd w' A n c (limbs (x - y)) ∧ Below w.heap.size w w' ∧ n ≤ p := by
  have := sub_ge A n c (limbs x) A' n' c' (limbs y) w h1 h2 (by omega) (by omega) (by rw [num_limbs, num_limbs]; exact hge)
  rw [num_limbs, num_limbs] at this
  refine this.mono ?_
  rintro e w' ⟨A2, n2, c2, he, hR, hb⟩
  refine ⟨A2, n2, c2, he, hR, hb, ?_⟩
  have := len_le (Nat.sub_le x y)
  have a := h1.len
  have b := hR.len
  omega

theorem sub_lt_b (A : Option Addr) (n c : Nat) (x : Nat) (A' : Option Addr) (n' c' : Nat) (y : Nat) (w : World)
    (h1 : Rd w A n c (limbs x)) (h2 : Rd w A' n' c' (limbs y)) (hn : n ≤ 10000) (hn' : n' ≤ 10000) (hlt : x < y) :
    Calls Tryd.prog 78 #[.slice A n c, .slice A' n' c'] w fun e w' => e = .returned (.tuple #[.slice none 0 0, .bool false]) ∧ Below w.heap.size w w' :=
  sub_lt A n c (limbs x) A' n' c' (limbs y) w h1 h2 hn hn' (by rw [num_limbs, num_limbs]; exact hlt)

theorem cmpi_neg (a b : Int) : cmpi b a = -cmpi a b := by
  unfold cmpi
  split <;> split <;> (try split) <;> omega

end Go.Proofs.YtkdeajocogdmgaaDoor
