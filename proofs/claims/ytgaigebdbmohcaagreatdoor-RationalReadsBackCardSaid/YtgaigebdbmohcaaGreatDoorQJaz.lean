/- The contracts of integer in the form that the laws use. light and awake of the laws of integer. fair of the laws of integer. A draw leaves the table. -/
import Derived.Test.YtgaigebdbmohcaaGreatDoorQIez
import Derived.Test.YtgaigebdbmohcaaGreatDoorIg
import Derived.Test.YtgaigebdbmohcaaGreatDoorIh
import Derived.Test.YtgaigebdbmohcaaGreatDoorIi
import Derived.Test.YtgaigebdbmohcaaGreatDoorIk
import Derived.Test.YtgaigebdbmohcaaGreatDoorQIlz
import Derived.Test.YtgaigebdbmohcaaGreatDoorIp
import Derived.Test.YtgaigebdbmohcaaGreatDoorIq
import Derived.Test.YtgaigebdbmohcaaGreatDoorQIrz
import Derived.Test.YtgaigebdbmohcaaGreatDoorQItz
namespace Go.Proofs.YtgaigebdbmohcaaGreatDoor
open Go.RowKit

/-- The same, with a bound of its size. -/
abbrev RetB (z : Int) (p : Nat) (w : World) (e : Ending) (w' : World) : Prop := ∃ A n c, e = .returned (.agg #[.bool (ng z), .slice A n c]) ∧ Rd w' A n c (limbs z.natAbs) ∧ Below w.heap.size w w' ∧ n ≤ p
theorem RetI.b {z : Int} {p : Nat} {w : World} {e : Ending} {w' : World} (h : RetI z w e w') (hl : (limbs z.natAbs).length ≤ p) : RetB z p w e w' := by
  obtain ⟨A, n, c, he, R, B⟩ := h
  exact ⟨A, n, c, he, R, B, by have := R.len; omega⟩
theorem iv_lt {b : Bool} {xs : List Nat} {p : Nat} (hs : Sm xs) (hl : xs.length ≤ p) : (iv b xs).natAbs < 4294967296 ^ p := limbs_len_le.1 (iv_abs hs hl)
theorem rd_lt {w : World} {A : Option Addr} {n c p : Nat} {z : Int} (h : Rd w A n c (limbs z.natAbs)) (hn : n ≤ p) : z.natAbs < 4294967296 ^ p := limbs_len_le.1 (by have := h.len; omega)
theorem add_r (b : Bool) (A : Option Addr) (n c : Nat) (xs : List Nat) (b' : Bool) (A' : Option Addr) (n' c' : Nat) (ys : List Nat) (w : World) (p : Nat) (h1 : Rd w A n c xs) (h2 : Rd w A' n' c' ys) (hn : n ≤ p) (hn' : n' ≤ p) (hp : p ≤ 400) :
    Calls Tryz.prog 126 #[.agg #[.bool b, .slice A n c], .agg #[.bool b', .slice A' n' c']] w (RetB (iv b xs + iv b' ys) (p + 1) w) :=
  (addI_any b A n c xs b' A' n' c' ys w h1 h2 (by omega) (by omega)).mono fun _ _ h => h.b (add_len (iv_lt h1.sm (by have := h1.len; omega)) (iv_lt h2.sm (by have := h2.len; omega)))
theorem add_z (x : Int) (A : Option Addr) (n c : Nat) (y : Int) (A' : Option Addr) (n' c' : Nat) (w : World) (p : Nat) (h1 : Rd w A n c (limbs x.natAbs)) (h2 : Rd w A' n' c' (limbs y.natAbs)) (hn : n ≤ p) (hn' : n' ≤ p) (hp : p ≤ 400) :
    Calls Tryz.prog 126 #[.agg #[.bool (ng x), .slice A n c], .agg #[.bool (ng y), .slice A' n' c']] w (RetB (x + y) (p + 1) w) := by
  have := add_r (ng x) A n c _ (ng y) A' n' c' _ w p h1 h2 hn hn' hp
  rwa [iv_z, iv_z] at this
theorem mul_r (b : Bool) (A : Option Addr) (n c : Nat) (xs : List Nat) (b' : Bool) (A' : Option Addr) (n' c' : Nat) (ys : List Nat) (w : World) (p : Nat) (h1 : Rd w A n c xs) (h2 : Rd w A' n' c' ys) (hn : n ≤ p) (hn' : n' ≤ p) (hp : p ≤ 400) :
    Calls Tryz.prog 74 #[.agg #[.bool b, .slice A n c], .agg #[.bool b', .slice A' n' c']] w (RetB (iv b xs * iv b' ys) (p + p) w) :=
  (mulI_any b A n c xs b' A' n' c' ys w h1 h2 (by omega) (by omega)).mono fun _ _ h => h.b (mul_len (iv_lt h1.sm (by have := h1.len; omega)) (iv_lt h2.sm (by have := h2.len; omega)))
theorem mul_z (x : Int) (A : Option Addr) (n c : Nat) (y : Int) (A' : Option Addr) (n' c' : Nat) (w : World) (p : Nat) (h1 : Rd w A n c (limbs x.natAbs)) (h2 : Rd w A' n' c' (limbs y.natAbs)) (hn : n ≤ p) (hn' : n' ≤ p) (hp : p ≤ 400) :
    Calls Tryz.prog 74 #[.agg #[.bool (ng x), .slice A n c], .agg #[.bool (ng y), .slice A' n' c']] w (RetB (x * y) (p + p) w) := by
  have := mul_r (ng x) A n c _ (ng y) A' n' c' _ w p h1 h2 hn hn' hp
  rwa [iv_z, iv_z] at this
theorem neg_r (b : Bool) (A : Option Addr) (n c : Nat) (xs : List Nat) (w : World) (p : Nat) (h1 : Rd w A n c xs) (hn : n ≤ p) (hp : p ≤ 400) :
    Calls Tryz.prog 67 #[.agg #[.bool b, .slice A n c]] w (RetB (-(iv b xs)) p w) :=
  (negI_any b A n c xs w h1 (by omega)).mono fun _ _ h => h.b (by rw [Int.natAbs_neg]; exact iv_abs h1.sm (by have := h1.len; omega))
theorem neg_z (x : Int) (A : Option Addr) (n c : Nat) (w : World) (p : Nat) (h1 : Rd w A n c (limbs x.natAbs)) (hn : n ≤ p) (hp : p ≤ 400) :
    Calls Tryz.prog 67 #[.agg #[.bool (ng x), .slice A n c]] w (RetB (-x) p w) := by
  have := neg_r (ng x) A n c _ w p h1 hn hp
  rwa [iv_z] at this
theorem sign_z (x : Int) (A : Option Addr) (n c : Nat) (w : World) (k : Int) (h1 : Rd w A n c (limbs x.natAbs)) (hn : n ≤ 900) (hk : x.sign = k) :
    Calls Tryz.prog 64 #[.agg #[.bool (ng x), .slice A n c]] w fun e w' => e = .returned (.int .i64 k) ∧ Below w.heap.size w w' := by
  have := signI_any (ng x) A n c _ w h1 (by omega)
  rwa [iv_z, hk] at this
theorem compare_z (x : Int) (A : Option Addr) (n c : Nat) (y : Int) (A' : Option Addr) (n' c' : Nat) (w : World) (k : Int) (h1 : Rd w A n c (limbs x.natAbs)) (h2 : Rd w A' n' c' (limbs y.natAbs)) (hn : n ≤ 400) (hn' : n' ≤ 400) (hk : cmpi x y = k) :
    Calls Tryz.prog 73 #[.agg #[.bool (ng x), .slice A n c], .agg #[.bool (ng y), .slice A' n' c']] w fun e w' => e = .returned (.int .i64 k) ∧ Below w.heap.size w w' := by
  have := compareI_any (ng x) A n c _ (ng y) A' n' c' _ w h1 h2 (by omega) (by omega)
  rwa [iv_z, iv_z, hk] at this
theorem radd_r (b : Bool) (A : Option Addr) (n c : Nat) (xs : List Nat) (b' : Bool) (A' : Option Addr) (n' c' : Nat) (ys : List Nat) (w : World) (p : Nat) (h1 : Rd w A n c xs) (h2 : Rd w A' n' c' ys) (hn : n ≤ p) (hn' : n' ≤ p) (hp : p ≤ 400) :
    Calls Tryz.prog 85 #[.agg #[.bool b, .slice A n c], .agg #[.bool b', .slice A' n' c']] w (RetB (iv b xs + iv b' ys) (p + 1) w) :=
  (raddI_any b A n c xs b' A' n' c' ys w h1 h2 (by omega) (by omega)).mono fun _ _ h => h.b (add_len (iv_lt h1.sm (by have := h1.len; omega)) (iv_lt h2.sm (by have := h2.len; omega)))
theorem radd_z (x : Int) (A : Option Addr) (n c : Nat) (y : Int) (A' : Option Addr) (n' c' : Nat) (w : World) (p : Nat) (h1 : Rd w A n c (limbs x.natAbs)) (h2 : Rd w A' n' c' (limbs y.natAbs)) (hn : n ≤ p) (hn' : n' ≤ p) (hp : p ≤ 400) :
    Calls Tryz.prog 85 #[.agg #[.bool (ng x), .slice A n c], .agg #[.bool (ng y), .slice A' n' c']] w (RetB (x + y) (p + 1) w) := by
  have := radd_r (ng x) A n c _ (ng y) A' n' c' _ w p h1 h2 hn hn' hp
  rwa [iv_z, iv_z] at this
theorem rmul_r (b : Bool) (A : Option Addr) (n c : Nat) (xs : List Nat) (b' : Bool) (A' : Option Addr) (n' c' : Nat) (ys : List Nat) (w : World) (p : Nat) (h1 : Rd w A n c xs) (h2 : Rd w A' n' c' ys) (hn : n ≤ p) (hn' : n' ≤ p) (hp : p ≤ 400) :
    Calls Tryz.prog 49 #[.agg #[.bool b, .slice A n c], .agg #[.bool b', .slice A' n' c']] w (RetB (iv b xs * iv b' ys) (p + p) w) :=
  (rmulI_any b A n c xs b' A' n' c' ys w h1 h2 (by omega) (by omega)).mono fun _ _ h => h.b (mul_len (iv_lt h1.sm (by have := h1.len; omega)) (iv_lt h2.sm (by have := h2.len; omega)))
theorem rmul_z (x : Int) (A : Option Addr) (n c : Nat) (y : Int) (A' : Option Addr) (n' c' : Nat) (w : World) (p : Nat) (h1 : Rd w A n c (limbs x.natAbs)) (h2 : Rd w A' n' c' (limbs y.natAbs)) (hn : n ≤ p) (hn' : n' ≤ p) (hp : p ≤ 400) :
    Calls Tryz.prog 49 #[.agg #[.bool (ng x), .slice A n c], .agg #[.bool (ng y), .slice A' n' c']] w (RetB (x * y) (p + p) w) := by
  have := rmul_r (ng x) A n c _ (ng y) A' n' c' _ w p h1 h2 hn hn' hp
  rwa [iv_z, iv_z] at this
theorem rneg_r (b : Bool) (A : Option Addr) (n c : Nat) (xs : List Nat) (w : World) (p : Nat) (h1 : Rd w A n c xs) (hn : n ≤ p) (hp : p ≤ 400) :
    Calls Tryz.prog 69 #[.agg #[.bool b, .slice A n c]] w (RetB (-(iv b xs)) p w) :=
  (rnegI_any b A n c xs w h1 (by omega)).mono fun _ _ h => h.b (by rw [Int.natAbs_neg]; exact iv_abs h1.sm (by have := h1.len; omega))
theorem rneg_z (x : Int) (A : Option Addr) (n c : Nat) (w : World) (p : Nat) (h1 : Rd w A n c (limbs x.natAbs)) (hn : n ≤ p) (hp : p ≤ 400) :
    Calls Tryz.prog 69 #[.agg #[.bool (ng x), .slice A n c]] w (RetB (-x) p w) := by
  have := rneg_r (ng x) A n c _ w p h1 hn hp
  rwa [iv_z] at this
theorem rsign_z (x : Int) (A : Option Addr) (n c : Nat) (w : World) (k : Int) (h1 : Rd w A n c (limbs x.natAbs)) (hn : n ≤ 900) (hk : x.sign = k) :
    Calls Tryz.prog 48 #[.agg #[.bool (ng x), .slice A n c]] w fun e w' => e = .returned (.int .i64 k) ∧ Below w.heap.size w w' := by
  have := rsignI_any (ng x) A n c _ w h1 (by omega)
  rwa [iv_z, hk] at this
theorem same_z (x : Int) (A : Option Addr) (n c : Nat) (y : Int) (A' : Option Addr) (n' c' : Nat) (w : World) (h1 : Rd w A n c (limbs x.natAbs)) (h2 : Rd w A' n' c' (limbs y.natAbs)) (hn : n ≤ 100000) (he : x = y) :
    Calls Tryz.prog 28 #[.agg #[.bool (ng x), .slice A n c], .agg #[.bool (ng y), .slice A' n' c']] w fun e w' => e = .returned (.bool true) ∧ Below w.heap.size w w' := by
  subst he
  exact sameI_true x A n c A' n' c' w h1 h2 hn
theorem div_len {x y : Int} {p : Nat} (hy : y ≠ 0) (hx : x.natAbs < 4294967296 ^ p) (hy2 : y.natAbs < 4294967296 ^ p) : (limbs (x / y).natAbs).length ≤ p + 1 ∧ (limbs (x % y).natAbs).length ≤ p := by
  have hg := ng x
  have hm : x.natAbs % y.natAbs < y.natAbs := Nat.mod_lt _ (by omega)
  have hd : x.natAbs / y.natAbs ≤ x.natAbs := Nat.div_le_self _ _
  have h4 := pow_two_le p
  have h5 : 0 < 4294967296 ^ p := Nat.pow_pos (by decide)
  cases hq : ng x
  · obtain ⟨e1, e2⟩ := div_pos hy hq
    refine ⟨len_of_lt ?_, len_of_lt ?_⟩
    · rw [← e1, abs_sg]; omega
    · rw [← e2, abs_sg]; omega
  · rcases Nat.eq_zero_or_pos (x.natAbs % y.natAbs) with h0 | h0
    · obtain ⟨e1, e2⟩ := div_neg0 hy hq h0
      refine ⟨len_of_lt ?_, len_of_lt ?_⟩
      · rw [← e1, abs_sg]; omega
      · rw [← e2, abs_sg]; omega
    · obtain ⟨e1, e2⟩ := div_neg1 hy hq h0
      refine ⟨len_of_lt ?_, len_of_lt ?_⟩
      · rw [← e1, abs_sg]; omega
      · rw [← e2, abs_sg]; omega
/-- The same, with bounds of their sizes. -/
abbrev RetDB (q r : Int) (p : Nat) (w : World) (e : Ending) (w' : World) : Prop := ∃ A n c A' n' c', e = .returned (.tuple #[.agg #[.bool (ng q), .slice A n c], .agg #[.bool (ng r), .slice A' n' c'], .bool true]) ∧ Rd w' A n c (limbs q.natAbs) ∧ Rd w' A' n' c' (limbs r.natAbs) ∧ Below w.heap.size w w' ∧ n ≤ p + 1 ∧ n' ≤ p
theorem div_r (b : Bool) (A : Option Addr) (n c : Nat) (xs : List Nat) (b' : Bool) (A' : Option Addr) (n' c' : Nat) (ys : List Nat) (w : World) (p : Nat) (h1 : Rd w A n c xs) (h2 : Rd w A' n' c' ys) (hn : n ≤ p) (hn' : n' ≤ p) (hp : p ≤ 400) (hz : iv b' ys ≠ 0) :
    Calls Tryz.prog 76 #[.agg #[.bool b, .slice A n c], .agg #[.bool b', .slice A' n' c']] w (RetDB (iv b xs / iv b' ys) (iv b xs % iv b' ys) p w) :=
  (divI_any b A n c xs b' A' n' c' ys w h1 h2 (by omega) (by omega) hz).mono fun _ _ ⟨A, n, c, A', n', c', he, Q, Rr, B⟩ => by
    obtain ⟨l1, l2⟩ := div_len hz (iv_lt (b := b) (p := p) h1.sm (by have := h1.len; omega)) (iv_lt (p := p) h2.sm (by have := h2.len; omega))
    exact ⟨A, n, c, A', n', c', he, Q, Rr, B, by have := Q.len; omega, by have := Rr.len; omega⟩
theorem div_z (x : Int) (A : Option Addr) (n c : Nat) (y : Int) (A' : Option Addr) (n' c' : Nat) (w : World) (p : Nat) (h1 : Rd w A n c (limbs x.natAbs)) (h2 : Rd w A' n' c' (limbs y.natAbs)) (hn : n ≤ p) (hn' : n' ≤ p) (hp : p ≤ 400) (hz : y ≠ 0) :
    Calls Tryz.prog 76 #[.agg #[.bool (ng x), .slice A n c], .agg #[.bool (ng y), .slice A' n' c']] w (RetDB (x / y) (x % y) p w) := by
  have := div_r (ng x) A n c _ (ng y) A' n' c' _ w p h1 h2 hn hn' hp (by rw [iv_z]; exact hz)
  rwa [iv_z, iv_z] at this
theorem rdiv_r (b : Bool) (A : Option Addr) (n c : Nat) (xs : List Nat) (b' : Bool) (A' : Option Addr) (n' c' : Nat) (ys : List Nat) (w : World) (p : Nat) (h1 : Rd w A n c xs) (h2 : Rd w A' n' c' ys) (hn : n ≤ p) (hn' : n' ≤ p) (hp : p ≤ 400) (hz : iv b' ys ≠ 0) :
    Calls Tryz.prog 77 #[.agg #[.bool b, .slice A n c], .agg #[.bool b', .slice A' n' c']] w (RetDB (iv b xs / iv b' ys) (iv b xs % iv b' ys) p w) :=
  (rdivI_any b A n c xs b' A' n' c' ys w h1 h2 (by omega) (by omega) hz).mono fun _ _ ⟨A, n, c, A', n', c', he, Q, Rr, B⟩ => by
    obtain ⟨l1, l2⟩ := div_len hz (iv_lt (b := b) (p := p) h1.sm (by have := h1.len; omega)) (iv_lt (p := p) h2.sm (by have := h2.len; omega))
    exact ⟨A, n, c, A', n', c', he, Q, Rr, B, by have := Q.len; omega, by have := Rr.len; omega⟩
theorem rdiv_z (x : Int) (A : Option Addr) (n c : Nat) (y : Int) (A' : Option Addr) (n' c' : Nat) (w : World) (p : Nat) (h1 : Rd w A n c (limbs x.natAbs)) (h2 : Rd w A' n' c' (limbs y.natAbs)) (hn : n ≤ p) (hn' : n' ≤ p) (hp : p ≤ 400) (hz : y ≠ 0) :
    Calls Tryz.prog 77 #[.agg #[.bool (ng x), .slice A n c], .agg #[.bool (ng y), .slice A' n' c']] w (RetDB (x / y) (x % y) p w) := by
  have := rdiv_r (ng x) A n c _ (ng y) A' n' c' _ w p h1 h2 hn hn' hp (by rw [iv_z]; exact hz)
  rwa [iv_z, iv_z] at this
end Go.Proofs.YtgaigebdbmohcaaGreatDoor

namespace Go.Proofs.YtgaigebdbmohcaaGreatDoor
open Go.RowKit

theorem itxt_m4 : itxt (-4) = ⟨#[45, 52]⟩ := by
  have h : txt 4 = ⟨#[52]⟩ := by unfold txt; rw [Lib.decDigits_one (by decide)]; rfl
  unfold itxt
  rw [show ng (-4) = true from rfl, if_pos rfl, show (-4 : Int).natAbs = 4 from rfl, h]
  rfl
theorem itxt_1 : itxt 1 = ⟨#[49]⟩ := by
  have h : txt 1 = ⟨#[49]⟩ := by unfold txt; rw [Lib.decDigits_one (by decide)]; rfl
  unfold itxt
  rw [show ng 1 = false from rfl, show (1 : Int).natAbs = 1 from rfl, h]
  rfl
theorem limbs_2_63 : limbs (-9223372036854775808 : Int).natAbs = [0, 2147483648] := by
  rw [show (-9223372036854775808 : Int).natAbs = 9223372036854775808 from rfl, limbs_pos (by decide), show 9223372036854775808 % 4294967296 = 0 from rfl, show 9223372036854775808 / 4294967296 = 2147483648 from rfl, limbs_pos (by decide), show 2147483648 % 4294967296 = 2147483648 from rfl, show 2147483648 / 4294967296 = 0 from rfl, limbs_zero]
theorem fromInt_b (v : Int) (w : World) (h0 : -9223372036854775808 ≤ v) (h1 : v ≤ 9223372036854775807) :
    Calls Tryz.prog 62 #[.int .i64 v] w (RetB v 2 w) :=
  (fromInt_any v w h0 h1).mono fun _ _ h => h.b (len_of_lt (by rw [two_pow_64]; omega))
theorem rfromInt_b (v : Int) (w : World) (h0 : -9223372036854775808 ≤ v) (h1 : v ≤ 9223372036854775807) :
    Calls Tryz.prog 63 #[.int .i64 v] w (RetB v 2 w) :=
  (rfromInt_any v w h0 h1).mono fun _ _ h => h.b (len_of_lt (by rw [two_pow_64]; omega))
theorem format_z (x : Int) (A : Option Addr) (n c : Nat) (w : World) (S : ByteArray) (h : Rd w A n c (limbs x.natAbs)) (hn : n ≤ 100) (htab : Tab w) (hS : itxt x = S) :
    Calls Tryz.prog 95 #[.agg #[.bool (ng x), .slice A n c]] w fun e w' => e = .returned (.string S) ∧ Below w.heap.size w w' := by
  have := formatI_any (ng x) A n c _ w h hn htab
  rwa [iv_z, hS] at this

end Go.Proofs.YtgaigebdbmohcaaGreatDoor

namespace Go.Proofs.YtgaigebdbmohcaaGreatDoor
open Go.RowKit

/-- What fair gives. -/
def fairI (n1 n2 n3 : Nat) (b1 : Bool) (xs : List Nat) (b2 : Bool) (ys : List Nat) (b3 : Bool) (zs : List Nat) : Bool :=
  ((((decide (n1 ≤ 10) && decide (n2 ≤ 10)) && decide (n3 ≤ 10)) && vldI b1 xs) && vldI b2 ys) && vldI b3 zs
theorem fairI_yes {n1 n2 n3 : Nat} {b1 b2 b3 : Bool} {xs ys zs : List Nat} (h : fairI n1 n2 n3 b1 xs b2 ys b3 zs = true) : n1 ≤ 10 ∧ n2 ≤ 10 ∧ n3 ≤ 10 ∧ vldI b1 xs = true ∧ vldI b2 ys = true ∧ vldI b3 zs = true := by
  unfold fairI at h
  simp only [Bool.and_eq_true, decide_eq_true_eq] at h
  exact ⟨h.1.1.1.1.1, h.1.1.1.1.2, h.1.1.1.2, h.1.1.2, h.1.2, h.2⟩

end Go.Proofs.YtgaigebdbmohcaaGreatDoor

namespace Go.Proofs.YtgaigebdbmohcaaGreatDoor
open Go.RowKit

theorem tab_drew {w : World} (h : Tab w) : Tab w.drew := tab_below h ⟨rfl, rfl, rfl, Nat.le_refl _, fun _ _ => rfl⟩
end Go.Proofs.YtgaigebdbmohcaaGreatDoor
