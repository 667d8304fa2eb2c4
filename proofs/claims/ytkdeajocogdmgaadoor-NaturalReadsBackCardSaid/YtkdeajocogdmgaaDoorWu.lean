/- Contracts of the reference's double, bit, Div and Gcd. -/
import Derived.Test.YtkdeajocogdmgaaDoorWt
namespace Go.Proofs.YtkdeajocogdmgaaDoor
open Go.RowKit

/-- A contract's number, with its length. -/
def RetL (N p : Nat) (w : World) (e : Ending) (w' : World) : Prop := ∃ A n c, e = .returned (.slice A n c) ∧ Rd w' A n c (limbs N) ∧ Below w.heap.size w w' ∧ n ≤ p
theorem RetN.l {N p : Nat} {w : World} {e : Ending} {w' : World} (hp : N < 4294967296 ^ p) : RetN N w e w' → RetL N p w e w' := by
  rintro ⟨A, n, c, he, hR, hb⟩
  exact ⟨A, n, c, he, hR, hb, by rw [← hR.len]; exact len_of_lt hp⟩

set_option maxHeartbeats 1000000 in
theorem double_any (A : Option Addr) (n c x o : Nat) (oi : Int) (w : World) (h1 : Rd w A n c (limbs x)) (hn : n ≤ 2000) (ho : o < 2) (hoi : oi = o) :
    Calls Tryd.prog 93 #[.slice A n c, .int .u32 oi] w (RetN (2 * x + o) w) := by
  subst hoi
  have hx := lt_of_len h1.len
  replace h1 := Lib.hid h1
  replace hx := Lib.hid hx
  have ht := fun W h => times_any A n c x 2 0 0 2 W h (by omega) (by omega) (by omega) rfl rfl
  replace ht := Lib.hid ht
  by_cases h0 : o = 0
  · subst h0
    go_enter Tryd.func93, Tryd.ntmps93
    go_wp2_with fail
    refine (ht.out _ h1.out).mono ?_
    rintro e w1 ⟨A1, n1, c1, rfl, R1, b1⟩
    rw [Nat.pow_zero, Nat.mul_one, Nat.mul_comm] at R1
    replace R1 := Lib.hid R1
    replace b1 := Lib.hid b1
    go_wp2
    go_ret
    exact ⟨_, _, _, rfl, R1.out, b1.out⟩
  · obtain rfl : o = 1 := by omega
    clear h0
    go_enter Tryd.func93, Tryd.ntmps93
    go_wp2_with fail
    refine (ht.out _ h1.out).mono ?_
    rintro e w1 ⟨A1, n1, c1, rfl, R1, b1⟩
    rw [Nat.pow_zero, Nat.mul_one, Nat.mul_comm] at R1
    have hn1 : n1 ≤ n + 1 := by
      rw [← R1.len]; apply len_of_lt; rw [Nat.pow_succ]; have := hx.out; omega
    replace R1 := Lib.hid R1
    replace b1 := Lib.hid b1
    go_wp2_with fail
    refine (radd_any _ _ _ _ _ _ _ _ _ (R1.out.alloc _) (lit1 w1 _ 1 1 rfl rfl (by omega)) (by omega) (by omega)).mono ?_
    rintro e w2 ⟨A2, n2, c2, rfl, R2, b2⟩
    rw [num_limbs, show num [1] = 1 from rfl] at R2
    replace R2 := Lib.hid R2
    replace b2 : Hid (Below w.heap.size w w2) := Lib.hid ((b1.out.alloc b1.out.size _).trans (b2.mono (by have := b1.out.size; simp; omega)))
    go_wp2
    go_ret
    exact ⟨_, _, _, rfl, R2.out, b2.out⟩

theorem and_one_u32 (m : Nat) (hm : m < 4294967296) : bits .and .u32 (m : Int) 1 = ((m % 2 : Nat) : Int) := by
  have := u32_and_nat m 1 hm (by omega)
  rw [Nat.and_one_is_mod] at this
  exact this

set_option maxHeartbeats 1000000 in
theorem bit_any (A : Option Addr) (n c x i b : Nat) (ii : Int) (w : World) (h1 : Rd w A n c (limbs x)) (hn : n ≤ 2000) (hi : i < 32 * n) (hii : ii = i) (hb : x / 2 ^ i % 2 = b) :
    Calls Tryd.prog 94 #[.slice A n c, .int .i64 ii] w fun e w' => e = .returned (.int .u32 (b : Nat)) ∧ w = w' := by
  subst hii
  obtain ⟨bb, o, x1, rfl, hbb, hx1, hxe, hc⟩ := h1.at_ (k := i / 32) (by omega)
  have hbit := bit_at (limbs x) i (sm_limbs x)
  rw [hxe, val_limbs, hb] at hbit
  have hle : x1 / 2 ^ (i % 32) ≤ x1 := Nat.div_le_self _ _
  obtain ⟨m, hm⟩ : ∃ m, x1 / 2 ^ (i % 32) = m := ⟨_, rfl⟩
  rw [hm] at hbit hle
  have hmc : (x1 : Int) / 2 ^ (i % 32) = (m : Int) := by rw [← hm]; simp
  have hand := and_one_u32 m (by omega)
  rw [hbit] at hand
  replace hbit := Lib.hid hbit
  replace hm := Lib.hid hm
  clear h1 hxe hb
  have g1 : (0 : Int) ≤ (i : Int) := by omega
  have g2 : (i : Int) / 32 < (n : Int) := by omega
  go_enter Tryd.func94, Tryd.ntmps94
  go_wp2
  go_ret
  exact ⟨rfl, rfl⟩

theorem rsub_lt_b (A : Option Addr) (n c x : Nat) (A' : Option Addr) (n' c' y : Nat) (w : World) (h1 : Rd w A n c (limbs x)) (h2 : Rd w A' n' c' (limbs y)) (hn : n ≤ 2000) (hn' : n' ≤ 2000) (hlt : x < y) :
    Calls Tryd.prog 79 #[.slice A n c, .slice A' n' c'] w fun e w' => e = .returned (.tuple #[.slice none 0 0, .bool false]) ∧ Below w.heap.size w w' :=
  rsub_lt A n c (limbs x) A' n' c' (limbs y) w h1 h2 (by omega) (by omega) (by rw [num_limbs, num_limbs]; exact hlt)

theorem rsub_ge_b (A : Option Addr) (n c x : Nat) (A' : Option Addr) (n' c' y : Nat) (w : World) (h1 : Rd w A n c (limbs x)) (h2 : Rd w A' n' c' (limbs y)) (hn : n ≤ 2000) (hn' : n' ≤ 2000) (hge : y ≤ x) :
    Calls Tryd.prog 79 #[.slice A n c, .slice A' n' c'] w fun e w' => ∃ A n c, e = .returned (.tuple #[.slice A n c, .bool true]) ∧ Rd w' A n c (limbs (x - y)) ∧ Below w.heap.size w w' := by
  have := rsub_ge A n c (limbs x) A' n' c' (limbs y) w h1 h2 (by omega) (by omega) (by rw [num_limbs, num_limbs]; exact hge)
  rw [num_limbs, num_limbs] at this
  exact this

/-- The quotient so far has few limbs. -/
theorem quo_len {x y k p : Nat} (hx : x < 4294967296 ^ p) : (limbs (x / 2 ^ k / y)).length ≤ p :=
  len_of_lt (Nat.lt_of_le_of_lt (Nat.le_trans (Nat.div_le_self _ _) (Nat.div_le_self _ _)) hx)

set_option maxHeartbeats 4000000 in
theorem rdiv_any (A : Option Addr) (n c : Nat) (xs : List Nat) (A' : Option Addr) (n' c' : Nat) (ys : List Nat) (w : World)
    (h1 : Rd w A n c xs) (h2 : Rd w A' n' c' ys) (hn : n ≤ 1000) (hn' : n' ≤ 1000) (hy : 0 < num ys) :
    Calls Tryd.prog 65 #[.slice A n c, .slice A' n' c'] w (RetDiv (num xs) (num ys) w) := by
  replace h1 := Lib.hid h1
  replace h2 := Lib.hid h2
  replace hy := Lib.hid hy
  go_enter Tryd.func65, Tryd.ntmps65
  go_wp2_with fail
  refine (take_any _ _ _ xs _ h1.out (by omega)).mono ?_
  rintro e w1 ⟨A1, n1, c1, rfl, R1, b1, l1⟩
  replace h2 := Lib.hid (h2.out.below b1)
  replace R1 := Lib.hid R1
  replace b1 := Lib.hid b1
  go_wp2_with fail
  refine (take_any _ _ _ ys _ h2.out (by omega)).mono ?_
  rintro e w2 ⟨A2, n2, c2, rfl, R2, b2, l2⟩
  replace R1 := Lib.hid (R1.out.below b2)
  have hn2 : 1 ≤ n2 := limbs_ne R2.len hy.out
  replace R2 := Lib.hid R2
  replace b1 := Lib.hid (b1.out.trans (b2.mono b1.out.size))
  clear b2 h1 h2
  obtain ⟨x, hx⟩ : ∃ x, num xs = x := ⟨_, rfl⟩
  obtain ⟨y, hyy⟩ : ∃ y, num ys = y := ⟨_, rfl⟩
  have R1' : Hid (Rd w2 A1 n1 c1 (limbs x)) := by rw [← hx]; exact R1
  have R2' : Hid (Rd w2 A2 n2 c2 (limbs y)) := by rw [← hyy]; exact R2
  have hy0 : 0 < y := by rw [← hyy]; exact hy.out
  have hxl := lt_of_len R1'.out.len
  have hyl := lt_of_len R2'.out.len
  replace hx := Lib.hid hx
  replace hyy := Lib.hid hyy
  replace hxl := Lib.hid hxl
  replace hyl := Lib.hid hyl
  clear R1 R2 hy
  have hg0 : ((n2 : Int) == 0) = false := by simp; omega
  go_wp2
  go_loopw [7, 8, 9] (fun qv rv iv wr => ∃ (i : Int) (k : Nat) (A3 : Option Addr) (n3 c3 : Nat) (A4 : Option Addr) (n4 c4 : Nat), k ≤ 32 * n1 ∧ i + 1 = k ∧ iv = .int .i64 i ∧ qv = .slice A3 n3 c3 ∧ rv = .slice A4 n4 c4 ∧
      Rd wr A3 n3 c3 (limbs (x / 2 ^ k / y)) ∧ Rd wr A4 n4 c4 (limbs (x / 2 ^ k % y)) ∧ Below w2.heap.size w2 wr)
    (fun _ _ iv _ => (intOf iv + 1).toNat)
  case atStart =>
    have h0 : x / 2 ^ (32 * n1) = 0 := Nat.div_eq_of_lt (by rw [← pow_limb]; exact hxl.out)
    exact ⟨_, 32 * n1, none, 0, 0, none, 0, 0, Nat.le_refl _, by omega, rfl, rfl, rfl, by rw [h0, Nat.zero_div, limbs_zero]; exact Rd.nil_ _ _ _, by rw [h0, Nat.zero_mod, limbs_zero]; exact Rd.nil_ _ _ _, Below.refl _ _⟩
  case round =>
    obtain ⟨i, k, A3, n3, c3, A4, n4, c4, hk, hik, rfl, rfl, rfl, R3, R4, hB⟩ := hrel
    have hn3 : n3 ≤ n1 := by rw [← R3.len]; exact quo_len hxl.out
    have hn4 : n4 ≤ n2 := by rw [← R4.len]; exact len_of_lt (Nat.lt_trans (Nat.mod_lt _ hy0) hyl.out)
    by_cases h0 : k = 0
    · subst h0
      obtain rfl : i = -1 := by omega
      rw [Nat.pow_zero, Nat.div_one] at R3 R4
      rw [← hx.out, ← hyy.out] at R3 R4
      replace R3 := Lib.hid R3
      replace R4 := Lib.hid R4
      replace hB := Lib.hid (b1.out.trans (hB.mono b1.out.size))
      clear hik
      go_wp2
      go_ret3
      exact ⟨_, _, _, _, _, _, rfl, R3.out, R4.out, hB.out⟩
    · obtain ⟨j, rfl⟩ : ∃ j, k = j + 1 := ⟨k - 1, by omega⟩
      obtain rfl : i = j := by omega
      clear hik h0
      obtain ⟨b, hb⟩ : ∃ b, x / 2 ^ j % 2 = b := ⟨_, rfl⟩
      have hb2 : b < 2 := by rw [← hb]; exact Nat.mod_lt _ (by omega)
      have hhalf := half_step (x := x) (k := j)
      rw [hb] at hhalf
      obtain ⟨q, hq⟩ : ∃ q, x / 2 ^ (j + 1) / y = q := ⟨_, rfl⟩
      obtain ⟨r, hr⟩ : ∃ r, x / 2 ^ (j + 1) % y = r := ⟨_, rfl⟩
      have hry : r < y := by rw [← hr]; exact Nat.mod_lt _ hy0
      have hstep := bitdiv_step hry hq hr hb2
      rw [← hhalf] at hstep
      rw [hq] at R3
      rw [hr] at R4
      replace R3 := Lib.hid R3
      replace R4 := Lib.hid R4
      replace hB := Lib.hid hB
      replace hb := Lib.hid hb
      replace hstep := Lib.hid hstep
      clear hhalf hq hr
      have g1 : (0 : Int) ≤ (j : Int) := by omega
      go_wp2_with fail
      refine (bit_any _ _ _ x j b _ _ (R1'.out.below hB.out) (by omega) (by omega) rfl hb.out).mono ?_
      rintro e w' ⟨rfl, rfl⟩
      go_wp2_with fail
      refine (double_any _ _ _ r b _ _ R4.out (by omega) hb2 rfl).mono ?_
      rintro e w4 ⟨A5, n5, c5, rfl, R5, b5⟩
      have hn5 : n5 ≤ n2 + 1 := by rw [← R5.len]; apply len_of_lt; rw [Nat.pow_succ]; have := hyl.out; omega
      replace R3 := Lib.hid (R3.out.below b5)
      replace R5 := Lib.hid R5
      replace hB := Lib.hid (hB.out.trans (b5.mono hB.out.size))
      have R2'' := Lib.hid (R2'.out.below hB.out)
      clear R4 b5
      by_cases hge : y ≤ 2 * r + b
      · obtain ⟨hs1, hs2⟩ := hstep.out.1 hge
        replace hs1 := Lib.hid hs1
        replace hs2 := Lib.hid hs2
        go_wp2_with fail
        refine (rsub_ge_b _ _ _ _ _ _ _ _ _ R5.out R2''.out (by omega) (by omega) hge).mono ?_
        rintro e w5 ⟨A6, n6, c6, rfl, R6, b6⟩
        replace R3 := Lib.hid (R3.out.below b6)
        replace R6 := Lib.hid R6
        replace hB := Lib.hid (hB.out.trans (b6.mono hB.out.size))
        clear R5 b6 R2''
        go_wp2_with fail
        refine (double_any _ _ _ q 1 1 _ R3.out (by omega) (by omega) rfl).mono ?_
        rintro e w6 ⟨A7, n7, c7, rfl, R7, b7⟩
        replace R6 := Lib.hid (R6.out.below b7)
        replace R7 := Lib.hid R7
        replace hB := Lib.hid (hB.out.trans (b7.mono hB.out.size))
        clear b7 R3
        go_wp2
        go_roundw
        case rel => exact ⟨_, j, _, _, _, _, _, _, by omega, by omega, rfl, rfl, rfl, by rw [hs1.out]; exact R7.out, by rw [hs2.out]; exact R6.out, hB.out⟩
        case measure => simp [intOf]
      · obtain ⟨hs1, hs2⟩ := hstep.out.2 (by omega)
        replace hs1 := Lib.hid hs1
        replace hs2 := Lib.hid hs2
        go_wp2_with fail
        refine (rsub_lt_b _ _ _ _ _ _ _ _ _ R5.out R2''.out (by omega) (by omega) (by omega)).mono ?_
        rintro e w5 ⟨rfl, b6⟩
        replace R3 := Lib.hid (R3.out.below b6)
        replace R5 := Lib.hid (R5.out.below b6)
        replace hB := Lib.hid (hB.out.trans (b6.mono hB.out.size))
        clear b6 R2''
        go_wp2_with fail
        refine (double_any _ _ _ q 0 0 _ R3.out (by omega) (by omega) rfl).mono ?_
        rintro e w6 ⟨A7, n7, c7, rfl, R7, b7⟩
        replace R5 := Lib.hid (R5.out.below b7)
        replace R7 := Lib.hid R7
        replace hB := Lib.hid (hB.out.trans (b7.mono hB.out.size))
        clear b7 R3
        go_wp2
        go_roundw
        case rel => exact ⟨_, j, _, _, _, _, _, _, by omega, by omega, rfl, rfl, rfl, by rw [hs1.out]; exact R7.out, by rw [hs2.out]; exact R5.out, hB.out⟩
        case measure => simp [intOf]

set_option maxHeartbeats 2000000 in
theorem rdiv_zero (A : Option Addr) (n c : Nat) (xs : List Nat) (A' : Option Addr) (n' c' : Nat) (ys : List Nat) (w : World)
    (h1 : Rd w A n c xs) (h2 : Rd w A' n' c' ys) (hn : n ≤ 1000) (hn' : n' ≤ 1000) (hy : num ys = 0) :
    Calls Tryd.prog 65 #[.slice A n c, .slice A' n' c'] w fun e w' => e = .returned (.tuple #[.slice none 0 0, .slice none 0 0, .bool false]) ∧ Below w.heap.size w w' := by
  replace h1 := Lib.hid h1
  replace h2 := Lib.hid h2
  replace hy := Lib.hid hy
  go_enter Tryd.func65, Tryd.ntmps65
  go_wp2_with fail
  refine (take_any _ _ _ xs _ h1.out (by omega)).mono ?_
  rintro e w1 ⟨A1, n1, c1, rfl, R1, b1, l1⟩
  replace h2 := Lib.hid (h2.out.below b1)
  replace b1 := Lib.hid b1
  clear R1
  go_wp2_with fail
  refine (take_any _ _ _ ys _ h2.out (by omega)).mono ?_
  rintro e w2 ⟨A2, n2, c2, rfl, R2, b2, l2⟩
  obtain rfl : n2 = 0 := by have := R2.len; rw [hy.out, limbs_zero] at this; exact this.symm
  replace b1 := Lib.hid (b1.out.trans (b2.mono b1.out.size))
  clear b2 h1 h2 R2
  go_wp2
  go_ret3
  exact ⟨rfl, b1.out⟩

set_option maxHeartbeats 2000000 in
theorem rgcd_any (A : Option Addr) (n c : Nat) (xs : List Nat) (A' : Option Addr) (n' c' : Nat) (ys : List Nat) (w : World)
    (h1 : Rd w A n c xs) (h2 : Rd w A' n' c' ys) (hn : n ≤ 1000) (hn' : n' ≤ 1000) :
    Calls Tryd.prog 83 #[.slice A n c, .slice A' n' c'] w (RetN (Nat.gcd (num xs) (num ys)) w) := by
  replace h1 := Lib.hid h1
  replace h2 := Lib.hid h2
  go_enter Tryd.func83, Tryd.ntmps83
  go_wp2_with fail
  refine (take_any _ _ _ xs _ h1.out (by omega)).mono ?_
  rintro e w1 ⟨A1, n1, c1, rfl, R1, b1, l1⟩
  replace h2 := Lib.hid (h2.out.below b1)
  replace R1 := Lib.hid R1
  replace b1 := Lib.hid b1
  go_wp2_with fail
  refine (take_any _ _ _ ys _ h2.out (by omega)).mono ?_
  rintro e w2 ⟨A2, n2, c2, rfl, R2, b2, l2⟩
  replace R1 := Lib.hid (R1.out.below b2)
  replace R2 := Lib.hid R2
  replace b1 := Lib.hid (b1.out.trans (b2.mono b1.out.size))
  clear b2 h1 h2
  go_wp2
  go_loopg [0, 1] (num ys) (fun y av bv wr => ∃ (x : Nat) (A3 : Option Addr) (n3 c3 : Nat) (A4 : Option Addr) (n4 c4 : Nat), av = .slice A3 n3 c3 ∧ bv = .slice A4 n4 c4 ∧ n3 ≤ 1000 ∧ n4 ≤ 1000 ∧
      Rd wr A3 n3 c3 (limbs x) ∧ Rd wr A4 n4 c4 (limbs y) ∧ Nat.gcd x y = Nat.gcd (num xs) (num ys) ∧ Below w2.heap.size w2 wr)
  case atStart => exact ⟨num xs, _, _, _, _, _, _, rfl, rfl, by omega, by omega, R1.out, R2.out, rfl, Below.refl _ _⟩
  case round =>
    obtain ⟨x, A3, n3, c3, A4, n4, c4, rfl, rfl, l3, l4, R3, R4, hgcd, hB⟩ := hrel
    by_cases h0 : n4 = 0
    · subst h0
      have hy0 : gk = 0 := limbs_inj (by rw [limbs_zero]; exact List.eq_nil_of_length_eq_zero R4.len)
      rw [hy0, Nat.gcd_zero_right] at hgcd
      rw [hgcd] at R3
      replace R3 := Lib.hid R3
      replace hB := Lib.hid (b1.out.trans (hB.mono b1.out.size))
      clear R4 hgcd hy0
      go_wp2
      go_ret
      exact ⟨_, _, _, rfl, R3.out, hB.out⟩
    · have hy0 : 0 < gk := by
        rcases Nat.eq_zero_or_pos gk with h | h
        · rw [h, limbs_zero] at R4; exact absurd R4.len.symm h0
        · exact h
      have hpos : (0 : Int) < (n4 : Int) := by omega
      have hd := fun W h h' => rdiv_any A3 n3 c3 (limbs x) A4 n4 c4 (limbs gk) W h h' l3 l4 (by rw [num_limbs]; exact hy0)
      simp only [num_limbs] at hd
      have hml := Nat.mod_lt x hy0
      have hln := len_le (Nat.le_of_lt hml)
      rw [R4.len] at hln
      replace hd := Lib.hid hd
      replace R3 := Lib.hid R3
      replace R4 := Lib.hid R4
      replace hB := Lib.hid hB
      replace hgcd := Lib.hid hgcd
      replace hml := Lib.hid hml
      replace hln := Lib.hid hln
      clear h0
      go_wp2_with fail
      refine (hd.out _ R3.out R4.out).mono ?_
      rintro e w3 ⟨A5, n5, c5, A6, n6, c6, rfl, _, R6, b6⟩
      have l6 : n6 ≤ 1000 := by rw [← R6.len]; have := hln.out; omega
      replace R4 := Lib.hid (R4.out.below b6)
      replace R6 := Lib.hid R6
      replace hB := Lib.hid (hB.out.trans (b6.mono hB.out.size))
      clear b6 R3
      go_wp2
      go_roundg (x % gk)
      case measure => exact hml.out
      case rel => exact ⟨gk, _, _, _, _, _, _, rfl, rfl, l4, l6, R4.out, R6.out, by rw [← hgcd.out, Nat.gcd_comm, ← Nat.gcd_rec, Nat.gcd_comm], hB.out⟩

end Go.Proofs.YtkdeajocogdmgaaDoor
