/- The contracts of integer in the form that the laws use. light and awake of the laws of integer. fair of the laws of integer. A draw leaves the table. -/
import Derived.Test.YtkdeajocogdmgaaDoorQIez
import Derived.Test.YtkdeajocogdmgaaDoorIg
import Derived.Test.YtkdeajocogdmgaaDoorIh
import Derived.Test.YtkdeajocogdmgaaDoorIi
import Derived.Test.YtkdeajocogdmgaaDoorIk
import Derived.Test.YtkdeajocogdmgaaDoorQIlz
import Derived.Test.YtkdeajocogdmgaaDoorIp
import Derived.Test.YtkdeajocogdmgaaDoorIq
import Derived.Test.YtkdeajocogdmgaaDoorQIrz
import Derived.Test.YtkdeajocogdmgaaDoorQItz
namespace Go.Proofs.YtkdeajocogdmgaaDoor
open Go.RowKit

/-- The same, with a bound of its size. -/
abbrev RetB (z : Int) (p : Nat) (w : World) (e : Ending) (w' : World) : Prop := ∃ A n c, e = .returned (.agg #[.bool (ng z), .slice A n c]) ∧ Rd w' A n c (limbs z.natAbs) ∧ Below w.heap.size w w' ∧ n ≤ p
theorem RetI.b {z : Int} {p : Nat} {w : World} {e : Ending} {w' : World} (h : RetI z w e w') (hl : (limbs z.natAbs).length ≤ p) : RetB z p w e w' := by
  obtain ⟨A, n, c, he, R, B⟩ := h
  exact ⟨A, n, c, he, R, B, by have := R.len; omega⟩
theorem iv_lt {b : Bool} {xs : List Nat} {p : Nat} (hs : Sm xs) (hl : xs.length ≤ p) : (iv b xs).natAbs < 4294967296 ^ p := limbs_len_le.1 (iv_abs hs hl)
theorem rd_lt {w : World} {A : Option Addr} {n c p : Nat} {z : Int} (h : Rd w A n c (limbs z.natAbs)) (hn : n ≤ p) : z.natAbs < 4294967296 ^ p := limbs_len_le.1 (by have := h.len; omega)
theorem add_r (b : Bool) (A : Option Addr) (n c : Nat) (xs : List Nat) (b' : Bool) (A' : Option Addr) (n' c' : Nat) (ys : List Nat) (w : World) (p : Nat) (h1 : Rd w A n c xs) (h2 : Rd w A' n' c' ys) (hn : n ≤ p) (hn' : n' ≤ p) (hp : p ≤ 400) :
    Calls Tryd.prog 37 #[.agg #[.bool b, .slice A n c], .agg #[.bool b', .slice A' n' c']] w (RetB (iv b xs + iv b' ys) (p + 1) w) :=
  (addI_any b A n c xs b' A' n' c' ys w h1 h2 (by omega) (by omega)).mono fun _ _ h => h.b (add_len (iv_lt h1.sm (by have := h1.len; omega)) (iv_lt h2.sm (by have := h2.len; omega)))
theorem add_z (x : Int) (A : Option Addr) (n c : Nat) (y : Int) (A' : Option Addr) (n' c' : Nat) (w : World) (p : Nat) (h1 : Rd w A n c (limbs x.natAbs)) (h2 : Rd w A' n' c' (limbs y.natAbs)) (hn : n ≤ p) (hn' : n' ≤ p) (hp : p ≤ 400) :
    Calls Tryd.prog 37 #[.agg #[.bool (ng x), .slice A n c], .agg #[.bool (ng y), .slice A' n' c']] w (RetB (x + y) (p + 1) w) := by
  have := add_r (ng x) A n c _ (ng y) A' n' c' _ w p h1 h2 hn hn' hp
  rwa [iv_z, iv_z] at this
theorem sub_r (b : Bool) (A : Option Addr) (n c : Nat) (xs : List Nat) (b' : Bool) (A' : Option Addr) (n' c' : Nat) (ys : List Nat) (w : World) (p : Nat) (h1 : Rd w A n c xs) (h2 : Rd w A' n' c' ys) (hn : n ≤ p) (hn' : n' ≤ p) (hp : p ≤ 400) :
    Calls Tryd.prog 39 #[.agg #[.bool b, .slice A n c], .agg #[.bool b', .slice A' n' c']] w (RetB (iv b xs - iv b' ys) (p + 1) w) :=
  (subI_any b A n c xs b' A' n' c' ys w h1 h2 (by omega) (by omega)).mono fun _ _ h => h.b (sub_len (iv_lt h1.sm (by have := h1.len; omega)) (iv_lt h2.sm (by have := h2.len; omega)))
theorem sub_z (x : Int) (A : Option Addr) (n c : Nat) (y : Int) (A' : Option Addr) (n' c' : Nat) (w : World) (p : Nat) (h1 : Rd w A n c (limbs x.natAbs)) (h2 : Rd w A' n' c' (limbs y.natAbs)) (hn : n ≤ p) (hn' : n' ≤ p) (hp : p ≤ 400) :
    Calls Tryd.prog 39 #[.agg #[.bool (ng x), .slice A n c], .agg #[.bool (ng y), .slice A' n' c']] w (RetB (x - y) (p + 1) w) := by
  have := sub_r (ng x) A n c _ (ng y) A' n' c' _ w p h1 h2 hn hn' hp
  rwa [iv_z, iv_z] at this
theorem mul_r (b : Bool) (A : Option Addr) (n c : Nat) (xs : List Nat) (b' : Bool) (A' : Option Addr) (n' c' : Nat) (ys : List Nat) (w : World) (p : Nat) (h1 : Rd w A n c xs) (h2 : Rd w A' n' c' ys) (hn : n ≤ p) (hn' : n' ≤ p) (hp : p ≤ 400) :
    Calls Tryd.prog 41 #[.agg #[.bool b, .slice A n c], .agg #[.bool b', .slice A' n' c']] w (RetB (iv b xs * iv b' ys) (p + p) w) :=
  (mulI_any b A n c xs b' A' n' c' ys w h1 h2 (by omega) (by omega)).mono fun _ _ h => h.b (mul_len (iv_lt h1.sm (by have := h1.len; omega)) (iv_lt h2.sm (by have := h2.len; omega)))
theorem mul_z (x : Int) (A : Option Addr) (n c : Nat) (y : Int) (A' : Option Addr) (n' c' : Nat) (w : World) (p : Nat) (h1 : Rd w A n c (limbs x.natAbs)) (h2 : Rd w A' n' c' (limbs y.natAbs)) (hn : n ≤ p) (hn' : n' ≤ p) (hp : p ≤ 400) :
    Calls Tryd.prog 41 #[.agg #[.bool (ng x), .slice A n c], .agg #[.bool (ng y), .slice A' n' c']] w (RetB (x * y) (p + p) w) := by
  have := mul_r (ng x) A n c _ (ng y) A' n' c' _ w p h1 h2 hn hn' hp
  rwa [iv_z, iv_z] at this
theorem neg_r (b : Bool) (A : Option Addr) (n c : Nat) (xs : List Nat) (w : World) (p : Nat) (h1 : Rd w A n c xs) (hn : n ≤ p) (hp : p ≤ 400) :
    Calls Tryd.prog 31 #[.agg #[.bool b, .slice A n c]] w (RetB (-(iv b xs)) p w) :=
  (negI_any b A n c xs w h1 (by omega)).mono fun _ _ h => h.b (by rw [Int.natAbs_neg]; exact iv_abs h1.sm (by have := h1.len; omega))
theorem neg_z (x : Int) (A : Option Addr) (n c : Nat) (w : World) (p : Nat) (h1 : Rd w A n c (limbs x.natAbs)) (hn : n ≤ p) (hp : p ≤ 400) :
    Calls Tryd.prog 31 #[.agg #[.bool (ng x), .slice A n c]] w (RetB (-x) p w) := by
  have := neg_r (ng x) A n c _ w p h1 hn hp
  rwa [iv_z] at this
theorem sign_z (x : Int) (A : Option Addr) (n c : Nat) (w : World) (k : Int) (h1 : Rd w A n c (limbs x.natAbs)) (hn : n ≤ 900) (hk : x.sign = k) :
    Calls Tryd.prog 29 #[.agg #[.bool (ng x), .slice A n c]] w fun e w' => e = .returned (.int .i64 k) ∧ Below w.heap.size w w' := by
  have := signI_any (ng x) A n c _ w h1 (by omega)
  rwa [iv_z, hk] at this
theorem compare_z (x : Int) (A : Option Addr) (n c : Nat) (y : Int) (A' : Option Addr) (n' c' : Nat) (w : World) (k : Int) (h1 : Rd w A n c (limbs x.natAbs)) (h2 : Rd w A' n' c' (limbs y.natAbs)) (hn : n ≤ 400) (hn' : n' ≤ 400) (hk : cmpi x y = k) :
    Calls Tryd.prog 33 #[.agg #[.bool (ng x), .slice A n c], .agg #[.bool (ng y), .slice A' n' c']] w fun e w' => e = .returned (.int .i64 k) ∧ Below w.heap.size w w' := by
  have := compareI_any (ng x) A n c _ (ng y) A' n' c' _ w h1 h2 (by omega) (by omega)
  rwa [iv_z, iv_z, hk] at this
theorem radd_r (b : Bool) (A : Option Addr) (n c : Nat) (xs : List Nat) (b' : Bool) (A' : Option Addr) (n' c' : Nat) (ys : List Nat) (w : World) (p : Nat) (h1 : Rd w A n c xs) (h2 : Rd w A' n' c' ys) (hn : n ≤ p) (hn' : n' ≤ p) (hp : p ≤ 400) :
    Calls Tryd.prog 38 #[.agg #[.bool b, .slice A n c], .agg #[.bool b', .slice A' n' c']] w (RetB (iv b xs + iv b' ys) (p + 1) w) :=
  (raddI_any b A n c xs b' A' n' c' ys w h1 h2 (by omega) (by omega)).mono fun _ _ h => h.b (add_len (iv_lt h1.sm (by have := h1.len; omega)) (iv_lt h2.sm (by have := h2.len; omega)))
theorem radd_z (x : Int) (A : Option Addr) (n c : Nat) (y : Int) (A' : Option Addr) (n' c' : Nat) (w : World) (p : Nat) (h1 : Rd w A n c (limbs x.natAbs)) (h2 : Rd w A' n' c' (limbs y.natAbs)) (hn : n ≤ p) (hn' : n' ≤ p) (hp : p ≤ 400) :
    Calls Tryd.prog 38 #[.agg #[.bool (ng x), .slice A n c], .agg #[.bool (ng y), .slice A' n' c']] w (RetB (x + y) (p + 1) w) := by
  have := radd_r (ng x) A n c _ (ng y) A' n' c' _ w p h1 h2 hn hn' hp
  rwa [iv_z, iv_z] at this
theorem rsub_r (b : Bool) (A : Option Addr) (n c : Nat) (xs : List Nat) (b' : Bool) (A' : Option Addr) (n' c' : Nat) (ys : List Nat) (w : World) (p : Nat) (h1 : Rd w A n c xs) (h2 : Rd w A' n' c' ys) (hn : n ≤ p) (hn' : n' ≤ p) (hp : p ≤ 400) :
    Calls Tryd.prog 40 #[.agg #[.bool b, .slice A n c], .agg #[.bool b', .slice A' n' c']] w (RetB (iv b xs - iv b' ys) (p + 1) w) :=
  (rsubI_any b A n c xs b' A' n' c' ys w h1 h2 (by omega) (by omega)).mono fun _ _ h => h.b (sub_len (iv_lt h1.sm (by have := h1.len; omega)) (iv_lt h2.sm (by have := h2.len; omega)))
theorem rsub_z (x : Int) (A : Option Addr) (n c : Nat) (y : Int) (A' : Option Addr) (n' c' : Nat) (w : World) (p : Nat) (h1 : Rd w A n c (limbs x.natAbs)) (h2 : Rd w A' n' c' (limbs y.natAbs)) (hn : n ≤ p) (hn' : n' ≤ p) (hp : p ≤ 400) :
    Calls Tryd.prog 40 #[.agg #[.bool (ng x), .slice A n c], .agg #[.bool (ng y), .slice A' n' c']] w (RetB (x - y) (p + 1) w) := by
  have := rsub_r (ng x) A n c _ (ng y) A' n' c' _ w p h1 h2 hn hn' hp
  rwa [iv_z, iv_z] at this
theorem rmul_r (b : Bool) (A : Option Addr) (n c : Nat) (xs : List Nat) (b' : Bool) (A' : Option Addr) (n' c' : Nat) (ys : List Nat) (w : World) (p : Nat) (h1 : Rd w A n c xs) (h2 : Rd w A' n' c' ys) (hn : n ≤ p) (hn' : n' ≤ p) (hp : p ≤ 400) :
    Calls Tryd.prog 42 #[.agg #[.bool b, .slice A n c], .agg #[.bool b', .slice A' n' c']] w (RetB (iv b xs * iv b' ys) (p + p) w) :=
  (rmulI_any b A n c xs b' A' n' c' ys w h1 h2 (by omega) (by omega)).mono fun _ _ h => h.b (mul_len (iv_lt h1.sm (by have := h1.len; omega)) (iv_lt h2.sm (by have := h2.len; omega)))
theorem rmul_z (x : Int) (A : Option Addr) (n c : Nat) (y : Int) (A' : Option Addr) (n' c' : Nat) (w : World) (p : Nat) (h1 : Rd w A n c (limbs x.natAbs)) (h2 : Rd w A' n' c' (limbs y.natAbs)) (hn : n ≤ p) (hn' : n' ≤ p) (hp : p ≤ 400) :
    Calls Tryd.prog 42 #[.agg #[.bool (ng x), .slice A n c], .agg #[.bool (ng y), .slice A' n' c']] w (RetB (x * y) (p + p) w) := by
  have := rmul_r (ng x) A n c _ (ng y) A' n' c' _ w p h1 h2 hn hn' hp
  rwa [iv_z, iv_z] at this
theorem rneg_r (b : Bool) (A : Option Addr) (n c : Nat) (xs : List Nat) (w : World) (p : Nat) (h1 : Rd w A n c xs) (hn : n ≤ p) (hp : p ≤ 400) :
    Calls Tryd.prog 32 #[.agg #[.bool b, .slice A n c]] w (RetB (-(iv b xs)) p w) :=
  (rnegI_any b A n c xs w h1 (by omega)).mono fun _ _ h => h.b (by rw [Int.natAbs_neg]; exact iv_abs h1.sm (by have := h1.len; omega))
theorem rneg_z (x : Int) (A : Option Addr) (n c : Nat) (w : World) (p : Nat) (h1 : Rd w A n c (limbs x.natAbs)) (hn : n ≤ p) (hp : p ≤ 400) :
    Calls Tryd.prog 32 #[.agg #[.bool (ng x), .slice A n c]] w (RetB (-x) p w) := by
  have := rneg_r (ng x) A n c _ w p h1 hn hp
  rwa [iv_z] at this
theorem rsign_z (x : Int) (A : Option Addr) (n c : Nat) (w : World) (k : Int) (h1 : Rd w A n c (limbs x.natAbs)) (hn : n ≤ 900) (hk : x.sign = k) :
    Calls Tryd.prog 30 #[.agg #[.bool (ng x), .slice A n c]] w fun e w' => e = .returned (.int .i64 k) ∧ Below w.heap.size w w' := by
  have := rsignI_any (ng x) A n c _ w h1 (by omega)
  rwa [iv_z, hk] at this
theorem rcompare_z (x : Int) (A : Option Addr) (n c : Nat) (y : Int) (A' : Option Addr) (n' c' : Nat) (w : World) (k : Int) (h1 : Rd w A n c (limbs x.natAbs)) (h2 : Rd w A' n' c' (limbs y.natAbs)) (hn : n ≤ 400) (hn' : n' ≤ 400) (hk : cmpi x y = k) :
    Calls Tryd.prog 34 #[.agg #[.bool (ng x), .slice A n c], .agg #[.bool (ng y), .slice A' n' c']] w fun e w' => e = .returned (.int .i64 k) ∧ Below w.heap.size w w' := by
  have := rcompareI_any (ng x) A n c _ (ng y) A' n' c' _ w h1 h2 (by omega) (by omega)
  rwa [iv_z, iv_z, hk] at this
theorem same_z (x : Int) (A : Option Addr) (n c : Nat) (y : Int) (A' : Option Addr) (n' c' : Nat) (w : World) (h1 : Rd w A n c (limbs x.natAbs)) (h2 : Rd w A' n' c' (limbs y.natAbs)) (hn : n ≤ 100000) (he : x = y) :
    Calls Tryd.prog 26 #[.agg #[.bool (ng x), .slice A n c], .agg #[.bool (ng y), .slice A' n' c']] w fun e w' => e = .returned (.bool true) ∧ Below w.heap.size w w' := by
  subst he
  exact sameI_true x A n c A' n' c' w h1 h2 hn
theorem div_len {x y : Int} {p : Nat} (hy : y ≠ 0) (hx : x.natAbs < 4294967296 ^ p) (hy2 : y.natAbs < 4294967296 ^ p) : (limbs (x / y).natAbs).length ≤ p + 1 ∧ (limbs (x % y).natAbs).length ≤ p := by
  have hg := ng x
  have hm : x.natAbs % y.natAbs < y.natAbs := Nat.mod_lt _ (by omega)
  have hd : x.natAbs / y.natAbs ≤ x.natAbs := Nat.div_le_self _ _
  have h4 := pow_two_le p
  have h5 : 0 < 4294967296 ^ p := Nat.pow_pos (by decide)
  cases hq : ng x
  · obtain ⟨e1, e2⟩ := div_pos hy hq
    refine ⟨len_of_lt ?_, len_of_lt ?_⟩
    · rw [← e1, abs_sg]; omega
    · rw [← e2, abs_sg]; omega
  · rcases Nat.eq_zero_or_pos (x.natAbs % y.natAbs) with h0 | h0
    · obtain ⟨e1, e2⟩ := div_neg0 hy hq h0
      refine ⟨len_of_lt ?_, len_of_lt ?_⟩
      · rw [← e1, abs_sg]; omega
      · rw [← e2, abs_sg]; omega
    · obtain ⟨e1, e2⟩ := div_neg1 hy hq h0
      refine ⟨len_of_lt ?_, len_of_lt ?_⟩
      · rw [← e1, abs_sg]; omega
      · rw [← e2, abs_sg]; omega
/-- The same, with bounds of their sizes. -/
abbrev RetDB (q r : Int) (p : Nat) (w : World) (e : Ending) (w' : World) : Prop := ∃ A n c A' n' c', e = .returned (.tuple #[.agg #[.bool (ng q), .slice A n c], .agg #[.bool (ng r), .slice A' n' c'], .bool true]) ∧ Rd w' A n c (limbs q.natAbs) ∧ Rd w' A' n' c' (limbs r.natAbs) ∧ Below w.heap.size w w' ∧ n ≤ p + 1 ∧ n' ≤ p
theorem div_r (b : Bool) (A : Option Addr) (n c : Nat) (xs : List Nat) (b' : Bool) (A' : Option Addr) (n' c' : Nat) (ys : List Nat) (w : World) (p : Nat) (h1 : Rd w A n c xs) (h2 : Rd w A' n' c' ys) (hn : n ≤ p) (hn' : n' ≤ p) (hp : p ≤ 400) (hz : iv b' ys ≠ 0) :
    Calls Tryd.prog 35 #[.agg #[.bool b, .slice A n c], .agg #[.bool b', .slice A' n' c']] w (RetDB (iv b xs / iv b' ys) (iv b xs % iv b' ys) p w) :=
  (divI_any b A n c xs b' A' n' c' ys w h1 h2 (by omega) (by omega) hz).mono fun _ _ ⟨A, n, c, A', n', c', he, Q, Rr, B⟩ => by
    obtain ⟨l1, l2⟩ := div_len hz (iv_lt (b := b) (p := p) h1.sm (by have := h1.len; omega)) (iv_lt (p := p) h2.sm (by have := h2.len; omega))
    exact ⟨A, n, c, A', n', c', he, Q, Rr, B, by have := Q.len; omega, by have := Rr.len; omega⟩
theorem div_z (x : Int) (A : Option Addr) (n c : Nat) (y : Int) (A' : Option Addr) (n' c' : Nat) (w : World) (p : Nat) (h1 : Rd w A n c (limbs x.natAbs)) (h2 : Rd w A' n' c' (limbs y.natAbs)) (hn : n ≤ p) (hn' : n' ≤ p) (hp : p ≤ 400) (hz : y ≠ 0) :
    Calls Tryd.prog 35 #[.agg #[.bool (ng x), .slice A n c], .agg #[.bool (ng y), .slice A' n' c']] w (RetDB (x / y) (x % y) p w) := by
  have := div_r (ng x) A n c _ (ng y) A' n' c' _ w p h1 h2 hn hn' hp (by rw [iv_z]; exact hz)
  rwa [iv_z, iv_z] at this
theorem rdiv_r (b : Bool) (A : Option Addr) (n c : Nat) (xs : List Nat) (b' : Bool) (A' : Option Addr) (n' c' : Nat) (ys : List Nat) (w : World) (p : Nat) (h1 : Rd w A n c xs) (h2 : Rd w A' n' c' ys) (hn : n ≤ p) (hn' : n' ≤ p) (hp : p ≤ 400) (hz : iv b' ys ≠ 0) :
    Calls Tryd.prog 36 #[.agg #[.bool b, .slice A n c], .agg #[.bool b', .slice A' n' c']] w (RetDB (iv b xs / iv b' ys) (iv b xs % iv b' ys) p w) :=
  (rdivI_any b A n c xs b' A' n' c' ys w h1 h2 (by omega) (by omega) hz).mono fun _ _ ⟨A, n, c, A', n', c', he, Q, Rr, B⟩ => by
    obtain ⟨l1, l2⟩ := div_len hz (iv_lt (b := b) (p := p) h1.sm (by have := h1.len; omega)) (iv_lt (p := p) h2.sm (by have := h2.len; omega))
    exact ⟨A, n, c, A', n', c', he, Q, Rr, B, by have := Q.len; omega, by have := Rr.len; omega⟩
theorem rdiv_z (x : Int) (A : Option Addr) (n c : Nat) (y : Int) (A' : Option Addr) (n' c' : Nat) (w : World) (p : Nat) (h1 : Rd w A n c (limbs x.natAbs)) (h2 : Rd w A' n' c' (limbs y.natAbs)) (hn : n ≤ p) (hn' : n' ≤ p) (hp : p ≤ 400) (hz : y ≠ 0) :
    Calls Tryd.prog 36 #[.agg #[.bool (ng x), .slice A n c], .agg #[.bool (ng y), .slice A' n' c']] w (RetDB (x / y) (x % y) p w) := by
  have := rdiv_r (ng x) A n c _ (ng y) A' n' c' _ w p h1 h2 hn hn' hp (by rw [iv_z]; exact hz)
  rwa [iv_z, iv_z] at this
end Go.Proofs.YtkdeajocogdmgaaDoor

namespace Go.Proofs.YtkdeajocogdmgaaDoor
open Go.RowKit

theorem lightI_any (b : Bool) (A : Option Addr) (n c : Nat) (w : World) (hn : n ≤ 9223372036854775807) :
    Calls Tryd.prog 20 #[.agg #[.bool b, .slice A n c]] w fun e w' => e = .returned (.bool (decide (n ≤ 10))) ∧ Below w.heap.size w w' := by
  have Bw := Lib.hid ((Below.refl w.heap.size w).alloc (Nat.le_refl _) (.cells #[.bool b, .slice A n c] 31))
  have h1 : (n : Int) ≤ 9223372036854775807 := by omega
  go_enter Tryd.func20, Tryd.ntmps20
  go_wp2
  go_ret
  exact ⟨congrArg (fun q => Ending.returned (.bool q)) (by rw [Bool.eq_iff_iff, decide_eq_true_iff, decide_eq_true_iff]; omega), Bw.out⟩

theorem itxt_m4 : itxt (-4) = ⟨#[45, 52]⟩ := by
  have h : txt 4 = ⟨#[52]⟩ := by unfold txt; rw [Lib.decDigits_one (by decide)]; rfl
  unfold itxt
  rw [show ng (-4) = true from rfl, if_pos rfl, show (-4 : Int).natAbs = 4 from rfl, h]
  rfl
theorem itxt_1 : itxt 1 = ⟨#[49]⟩ := by
  have h : txt 1 = ⟨#[49]⟩ := by unfold txt; rw [Lib.decDigits_one (by decide)]; rfl
  unfold itxt
  rw [show ng 1 = false from rfl, show (1 : Int).natAbs = 1 from rfl, h]
  rfl
theorem limbs_2_63 : limbs (-9223372036854775808 : Int).natAbs = [0, 2147483648] := by
  rw [show (-9223372036854775808 : Int).natAbs = 9223372036854775808 from rfl, limbs_pos (by decide), show 9223372036854775808 % 4294967296 = 0 from rfl, show 9223372036854775808 / 4294967296 = 2147483648 from rfl, limbs_pos (by decide), show 2147483648 % 4294967296 = 2147483648 from rfl, show 2147483648 / 4294967296 = 0 from rfl, limbs_zero]
theorem fromInt_b (v : Int) (w : World) (h0 : -9223372036854775808 ≤ v) (h1 : v ≤ 9223372036854775807) :
    Calls Tryd.prog 27 #[.int .i64 v] w (RetB v 2 w) :=
  (fromInt_any v w h0 h1).mono fun _ _ h => h.b (len_of_lt (by rw [two_pow_64]; omega))
theorem rfromInt_b (v : Int) (w : World) (h0 : -9223372036854775808 ≤ v) (h1 : v ≤ 9223372036854775807) :
    Calls Tryd.prog 28 #[.int .i64 v] w (RetB v 2 w) :=
  (rfromInt_any v w h0 h1).mono fun _ _ h => h.b (len_of_lt (by rw [two_pow_64]; omega))
theorem format_z (x : Int) (A : Option Addr) (n c : Nat) (w : World) (S : ByteArray) (h : Rd w A n c (limbs x.natAbs)) (hn : n ≤ 100) (htab : Tab w) (hS : itxt x = S) :
    Calls Tryd.prog 47 #[.agg #[.bool (ng x), .slice A n c]] w fun e w' => e = .returned (.string S) ∧ Below w.heap.size w w' := by
  have := formatI_any (ng x) A n c _ w h hn htab
  rwa [iv_z, hS] at this

set_option maxHeartbeats 4000000 in
theorem awakeI_any (w : World) (htab : Tab w) : Calls Tryd.prog 21 #[] w fun e w' => e = .returned (.bool true) ∧ Below w.heap.size w w' := by
  have Bw := Lib.hid (Below.refl w.heap.size w)
  replace htab := Lib.hid htab
  go_enter Tryd.func21, Tryd.ntmps21
  go_wp2_with fail
  refine (fromInt_b (-7) w (by omega) (by omega)).mono ?_
  rintro e w1 ⟨A1, n1, c1, rfl, R1, bb, l1⟩
  replace Bw := Lib.hid (Bw.out.trans (bb.mono Bw.out.size))
  clear bb
  replace R1 := Lib.hid R1
  go_wp2_with fail
  refine (fromInt_b 2 w1 (by omega) (by omega)).mono ?_
  rintro e w2 ⟨A2, n2, c2, rfl, R2, bb, l2⟩
  replace R1 := Lib.hid (R1.out.below bb)
  replace Bw := Lib.hid (Bw.out.trans (bb.mono Bw.out.size))
  clear bb
  replace R2 := Lib.hid R2
  have hd := div_z (-7) A1 n1 c1 2 A2 n2 c2 w2 2 R1.out R2.out l1 l2 (by omega) (by decide)
  rw [show (-7 : Int) / 2 = -4 by decide, show (-7 : Int) % 2 = 1 by decide] at hd
  replace hd := Lib.hid hd
  clear R1 R2 l1 l2
  go_wp2_with fail
  refine hd.out.mono ?_
  rintro e w3 ⟨A3, n3, c3, A4, n4, c4, rfl, Q, R, bb, l3, l4⟩
  clear hd
  have X := B2.new w3 (ng (-4)) A3 n3 c3 (ng 1) A4 n4 c4
  have Q' := Lib.hid (Q.below X.bel)
  have R' := Lib.hid (R.below X.bel)
  have hT := Lib.hid (tab_below htab.out ((Bw.out.trans (bb.mono Bw.out.size)).trans (X.bel.mono (Nat.le_trans Bw.out.size bb.size))))
  have Bz := Lib.hid ((Bw.out.trans (bb.mono Bw.out.size)).trans (X.bel.mono (Nat.le_trans Bw.out.size bb.size)))
  replace X := Lib.hid X
  clear bb Q R Bw htab
  go_wp2_with fail
  refine (format_z (-4) A3 n3 c3 _ _ Q'.out (by omega) hT.out itxt_m4).mono ?_
  rintro e w4 ⟨rfl, bb⟩
  replace X := X.out.on bb
  obtain ⟨d0, d1, d2, d3⟩ := X.x2.at_
  replace R' := Lib.hid (R'.out.below bb)
  replace hT := Lib.hid (tab_below hT.out bb)
  replace Bz := Lib.hid (Bz.out.trans (bb.mono Bz.out.size))
  clear bb X Q'
  go_wp2_with fail
  refine (format_z 1 A4 n4 c4 _ _ R'.out (by omega) hT.out itxt_1).mono ?_
  rintro e w5 ⟨rfl, bb⟩
  replace Bz := Lib.hid (Bz.out.trans (bb.mono Bz.out.size))
  clear bb R' hT d0 d1 d2 d3
  go_wp2_with fail
  refine (fromInt_b (-9223372036854775808) w5 (by omega) (by omega)).mono ?_
  rintro e w6 ⟨A6, n6, c6, rfl, R6, bb, l6⟩
  replace Bz := Lib.hid (Bz.out.trans (bb.mono Bz.out.size))
  clear bb
  have O := Own.lit w6 [0, 2147483648] (by intro x hx; simp at hx; omega)
  have R7 : Rd (w6.alloc (.cells #[.int .u32 0, .int .u32 2147483648] 53)) (some ⟨w6.heap.size, 0, none⟩) 2 2 (limbs (-9223372036854775808 : Int).natAbs) := by
    rw [limbs_2_63]; exact O.rd0 2 (Nat.le_refl 2)
  have hsm := sameI_true (-9223372036854775808) A6 n6 c6 (some ⟨w6.heap.size, 0, none⟩) 2 2 _ (R6.alloc (.cells #[.int .u32 0, .int .u32 2147483648] 53)) (by exact R7) (by omega)
  rw [show ng (-9223372036854775808) = true from rfl] at hsm
  replace hsm := Lib.hid hsm
  replace Bz := Lib.hid (Bz.out.alloc Bz.out.size (.cells #[.int .u32 0, .int .u32 2147483648] 53))
  rw [show ng (-9223372036854775808) = true from rfl]
  clear O R7 R6 l6
  go_wp2_with fail
  refine hsm.out.mono ?_
  rintro e w8 ⟨rfl, bb⟩
  replace Bz := Lib.hid (Bz.out.trans (bb.mono Bz.out.size))
  clear bb hsm
  go_wp2
  go_ret
  exact ⟨rfl, Bz.out⟩
end Go.Proofs.YtkdeajocogdmgaaDoor

namespace Go.Proofs.YtkdeajocogdmgaaDoor
open Go.RowKit

/-- What fair gives. -/
def fairI (n1 n2 n3 : Nat) (b1 : Bool) (xs : List Nat) (b2 : Bool) (ys : List Nat) (b3 : Bool) (zs : List Nat) : Bool :=
  ((((decide (n1 ≤ 10) && decide (n2 ≤ 10)) && decide (n3 ≤ 10)) && vldI b1 xs) && vldI b2 ys) && vldI b3 zs
theorem fairI_yes {n1 n2 n3 : Nat} {b1 b2 b3 : Bool} {xs ys zs : List Nat} (h : fairI n1 n2 n3 b1 xs b2 ys b3 zs = true) : n1 ≤ 10 ∧ n2 ≤ 10 ∧ n3 ≤ 10 ∧ vldI b1 xs = true ∧ vldI b2 ys = true ∧ vldI b3 zs = true := by
  unfold fairI at h
  simp only [Bool.and_eq_true, decide_eq_true_eq] at h
  exact ⟨h.1.1.1.1.1, h.1.1.1.1.2, h.1.1.1.2, h.1.1.2, h.1.2, h.2⟩

set_option maxHeartbeats 4000000 in
theorem fairI_any (b1 : Bool) (A1 : Option Addr) (n1 c1 : Nat) (xs : List Nat) (b2 : Bool) (A2 : Option Addr) (n2 c2 : Nat) (ys : List Nat) (b3 : Bool) (A3 : Option Addr) (n3 c3 : Nat) (zs : List Nat) (w : World) (h1 : Rd w A1 n1 c1 xs) (m1 : n1 ≤ 9223372036854775807) (h2 : Rd w A2 n2 c2 ys) (m2 : n2 ≤ 9223372036854775807) (h3 : Rd w A3 n3 c3 zs) (m3 : n3 ≤ 9223372036854775807) :
    Calls Tryd.prog 49 #[.agg #[.bool b1, .slice A1 n1 c1], .agg #[.bool b2, .slice A2 n2 c2], .agg #[.bool b3, .slice A3 n3 c3]] w fun e w' => e = .returned (.bool (fairI n1 n2 n3 b1 xs b2 ys b3 zs)) ∧ Below w.heap.size w w' := by
  have X := B3.new w b1 A1 n1 c1 b2 A2 n2 c2 b3 A3 n3 c3
  have R1 := Lib.hid (h1.below X.bel)
  have R2 := Lib.hid (h2.below X.bel)
  have R3 := Lib.hid (h3.below X.bel)
  have L1 := fun W => lightI_any b1 A1 n1 c1 W m1
  have L2 := fun W => lightI_any b2 A2 n2 c2 W m2
  have L3 := fun W => lightI_any b3 A3 n3 c3 W m3
  have V1 := fun W (h : Rd W A1 n1 c1 xs) (hn : n1 ≤ 10000) => rvalidI_any b1 A1 n1 c1 xs W h hn
  have V2 := fun W (h : Rd W A2 n2 c2 ys) (hn : n2 ≤ 10000) => rvalidI_any b2 A2 n2 c2 ys W h hn
  have V3 := fun W (h : Rd W A3 n3 c3 zs) (hn : n3 ≤ 10000) => rvalidI_any b3 A3 n3 c3 zs W h hn
  obtain ⟨F, hF⟩ : ∃ F, fairI n1 n2 n3 b1 xs b2 ys b3 zs = F := ⟨_, rfl⟩
  rw [hF]
  unfold fairI at hF
  have g1 : Hid (decide (n1 ≤ 10) = true → n1 ≤ 10) := Lib.hid (fun h => by simpa using h)
  have g2 : Hid (decide (n2 ≤ 10) = true → n2 ≤ 10) := Lib.hid (fun h => by simpa using h)
  have g3 : Hid (decide (n3 ≤ 10) = true → n3 ≤ 10) := Lib.hid (fun h => by simpa using h)
  generalize decide (n1 ≤ 10) = q1 at L1 hF g1
  generalize decide (n2 ≤ 10) = q2 at L2 hF g2
  generalize decide (n3 ≤ 10) = q3 at L3 hF g3
  generalize vldI b1 xs = q4 at V1 hF
  generalize vldI b2 ys = q5 at V2 hF
  generalize vldI b3 zs = q6 at V3 hF
  replace L1 := Lib.hid L1
  replace L2 := Lib.hid L2
  replace L3 := Lib.hid L3
  replace V1 := Lib.hid V1
  replace V2 := Lib.hid V2
  replace V3 := Lib.hid V3
  replace X := Lib.hid X
  clear h1 h2 h3 m1 m2 m3
  cases q1
  · replace hF := Lib.hid hF
    go_enter Tryd.func49, Tryd.ntmps49
    go_wp2_with fail
    refine (L1.out _).mono ?_
    rintro e w1 ⟨rfl, bb⟩
    replace X := Lib.hid (X.out.on bb)
    replace R1 := Lib.hid (R1.out.below bb)
    replace R2 := Lib.hid (R2.out.below bb)
    replace R3 := Lib.hid (R3.out.below bb)
    clear bb
    obtain ⟨e0, e1, _⟩ := X.out.x1.at_
    obtain ⟨e2, e3, _⟩ := X.out.x2.at_
    obtain ⟨e4, e5, _⟩ := X.out.x3.at_
    go_wp2
    go_ret
    exact ⟨by rw [← hF.out]; rfl, X.out.bel⟩
  replace g1 := g1.out rfl
  cases q2
  · replace hF := Lib.hid hF
    go_enter Tryd.func49, Tryd.ntmps49
    go_wp2_with fail
    refine (L1.out _).mono ?_
    rintro e w1 ⟨rfl, bb⟩
    replace X := Lib.hid (X.out.on bb)
    replace R1 := Lib.hid (R1.out.below bb)
    replace R2 := Lib.hid (R2.out.below bb)
    replace R3 := Lib.hid (R3.out.below bb)
    clear bb
    obtain ⟨e0, e1, _⟩ := X.out.x1.at_
    obtain ⟨e2, e3, _⟩ := X.out.x2.at_
    obtain ⟨e4, e5, _⟩ := X.out.x3.at_
    go_wp2_with fail
    refine (L2.out _).mono ?_
    rintro e w2 ⟨rfl, bb⟩
    replace X := Lib.hid (X.out.on bb)
    replace R1 := Lib.hid (R1.out.below bb)
    replace R2 := Lib.hid (R2.out.below bb)
    replace R3 := Lib.hid (R3.out.below bb)
    clear bb
    obtain ⟨e0, e1, _⟩ := X.out.x1.at_
    obtain ⟨e2, e3, _⟩ := X.out.x2.at_
    obtain ⟨e4, e5, _⟩ := X.out.x3.at_
    go_wp2
    go_ret
    exact ⟨by rw [← hF.out]; rfl, X.out.bel⟩
  replace g2 := g2.out rfl
  cases q3
  · replace hF := Lib.hid hF
    go_enter Tryd.func49, Tryd.ntmps49
    go_wp2_with fail
    refine (L1.out _).mono ?_
    rintro e w1 ⟨rfl, bb⟩
    replace X := Lib.hid (X.out.on bb)
    replace R1 := Lib.hid (R1.out.below bb)
    replace R2 := Lib.hid (R2.out.below bb)
    replace R3 := Lib.hid (R3.out.below bb)
    clear bb
    obtain ⟨e0, e1, _⟩ := X.out.x1.at_
    obtain ⟨e2, e3, _⟩ := X.out.x2.at_
    obtain ⟨e4, e5, _⟩ := X.out.x3.at_
    go_wp2_with fail
    refine (L2.out _).mono ?_
    rintro e w2 ⟨rfl, bb⟩
    replace X := Lib.hid (X.out.on bb)
    replace R1 := Lib.hid (R1.out.below bb)
    replace R2 := Lib.hid (R2.out.below bb)
    replace R3 := Lib.hid (R3.out.below bb)
    clear bb
    obtain ⟨e0, e1, _⟩ := X.out.x1.at_
    obtain ⟨e2, e3, _⟩ := X.out.x2.at_
    obtain ⟨e4, e5, _⟩ := X.out.x3.at_
    go_wp2_with fail
    refine (L3.out _).mono ?_
    rintro e w3 ⟨rfl, bb⟩
    replace X := Lib.hid (X.out.on bb)
    replace R1 := Lib.hid (R1.out.below bb)
    replace R2 := Lib.hid (R2.out.below bb)
    replace R3 := Lib.hid (R3.out.below bb)
    clear bb
    obtain ⟨e0, e1, _⟩ := X.out.x1.at_
    obtain ⟨e2, e3, _⟩ := X.out.x2.at_
    obtain ⟨e4, e5, _⟩ := X.out.x3.at_
    go_wp2
    go_ret
    exact ⟨by rw [← hF.out]; rfl, X.out.bel⟩
  replace g3 := g3.out rfl
  cases q4
  · replace hF := Lib.hid hF
    go_enter Tryd.func49, Tryd.ntmps49
    go_wp2_with fail
    refine (L1.out _).mono ?_
    rintro e w1 ⟨rfl, bb⟩
    replace X := Lib.hid (X.out.on bb)
    replace R1 := Lib.hid (R1.out.below bb)
    replace R2 := Lib.hid (R2.out.below bb)
    replace R3 := Lib.hid (R3.out.below bb)
    clear bb
    obtain ⟨e0, e1, _⟩ := X.out.x1.at_
    obtain ⟨e2, e3, _⟩ := X.out.x2.at_
    obtain ⟨e4, e5, _⟩ := X.out.x3.at_
    go_wp2_with fail
    refine (L2.out _).mono ?_
    rintro e w2 ⟨rfl, bb⟩
    replace X := Lib.hid (X.out.on bb)
    replace R1 := Lib.hid (R1.out.below bb)
    replace R2 := Lib.hid (R2.out.below bb)
    replace R3 := Lib.hid (R3.out.below bb)
    clear bb
    obtain ⟨e0, e1, _⟩ := X.out.x1.at_
    obtain ⟨e2, e3, _⟩ := X.out.x2.at_
    obtain ⟨e4, e5, _⟩ := X.out.x3.at_
    go_wp2_with fail
    refine (L3.out _).mono ?_
    rintro e w3 ⟨rfl, bb⟩
    replace X := Lib.hid (X.out.on bb)
    replace R1 := Lib.hid (R1.out.below bb)
    replace R2 := Lib.hid (R2.out.below bb)
    replace R3 := Lib.hid (R3.out.below bb)
    clear bb
    obtain ⟨e0, e1, _⟩ := X.out.x1.at_
    obtain ⟨e2, e3, _⟩ := X.out.x2.at_
    obtain ⟨e4, e5, _⟩ := X.out.x3.at_
    go_wp2_with fail
    refine (V1.out _ R1.out (by omega)).mono ?_
    rintro e w4 ⟨rfl, bb⟩
    replace X := Lib.hid (X.out.on bb)
    replace R1 := Lib.hid (R1.out.below bb)
    replace R2 := Lib.hid (R2.out.below bb)
    replace R3 := Lib.hid (R3.out.below bb)
    clear bb
    obtain ⟨e0, e1, _⟩ := X.out.x1.at_
    obtain ⟨e2, e3, _⟩ := X.out.x2.at_
    obtain ⟨e4, e5, _⟩ := X.out.x3.at_
    go_wp2
    go_ret
    exact ⟨by rw [← hF.out]; rfl, X.out.bel⟩
  cases q5
  · replace hF := Lib.hid hF
    go_enter Tryd.func49, Tryd.ntmps49
    go_wp2_with fail
    refine (L1.out _).mono ?_
    rintro e w1 ⟨rfl, bb⟩
    replace X := Lib.hid (X.out.on bb)
    replace R1 := Lib.hid (R1.out.below bb)
    replace R2 := Lib.hid (R2.out.below bb)
    replace R3 := Lib.hid (R3.out.below bb)
    clear bb
    obtain ⟨e0, e1, _⟩ := X.out.x1.at_
    obtain ⟨e2, e3, _⟩ := X.out.x2.at_
    obtain ⟨e4, e5, _⟩ := X.out.x3.at_
    go_wp2_with fail
    refine (L2.out _).mono ?_
    rintro e w2 ⟨rfl, bb⟩
    replace X := Lib.hid (X.out.on bb)
    replace R1 := Lib.hid (R1.out.below bb)
    replace R2 := Lib.hid (R2.out.below bb)
    replace R3 := Lib.hid (R3.out.below bb)
    clear bb
    obtain ⟨e0, e1, _⟩ := X.out.x1.at_
    obtain ⟨e2, e3, _⟩ := X.out.x2.at_
    obtain ⟨e4, e5, _⟩ := X.out.x3.at_
    go_wp2_with fail
    refine (L3.out _).mono ?_
    rintro e w3 ⟨rfl, bb⟩
    replace X := Lib.hid (X.out.on bb)
    replace R1 := Lib.hid (R1.out.below bb)
    replace R2 := Lib.hid (R2.out.below bb)
    replace R3 := Lib.hid (R3.out.below bb)
    clear bb
    obtain ⟨e0, e1, _⟩ := X.out.x1.at_
    obtain ⟨e2, e3, _⟩ := X.out.x2.at_
    obtain ⟨e4, e5, _⟩ := X.out.x3.at_
    go_wp2_with fail
    refine (V1.out _ R1.out (by omega)).mono ?_
    rintro e w4 ⟨rfl, bb⟩
    replace X := Lib.hid (X.out.on bb)
    replace R1 := Lib.hid (R1.out.below bb)
    replace R2 := Lib.hid (R2.out.below bb)
    replace R3 := Lib.hid (R3.out.below bb)
    clear bb
    obtain ⟨e0, e1, _⟩ := X.out.x1.at_
    obtain ⟨e2, e3, _⟩ := X.out.x2.at_
    obtain ⟨e4, e5, _⟩ := X.out.x3.at_
    go_wp2_with fail
    refine (V2.out _ R2.out (by omega)).mono ?_
    rintro e w5 ⟨rfl, bb⟩
    replace X := Lib.hid (X.out.on bb)
    replace R1 := Lib.hid (R1.out.below bb)
    replace R2 := Lib.hid (R2.out.below bb)
    replace R3 := Lib.hid (R3.out.below bb)
    clear bb
    obtain ⟨e0, e1, _⟩ := X.out.x1.at_
    obtain ⟨e2, e3, _⟩ := X.out.x2.at_
    obtain ⟨e4, e5, _⟩ := X.out.x3.at_
    go_wp2
    go_ret
    exact ⟨by rw [← hF.out]; rfl, X.out.bel⟩
  cases q6
  · replace hF := Lib.hid hF
    go_enter Tryd.func49, Tryd.ntmps49
    go_wp2_with fail
    refine (L1.out _).mono ?_
    rintro e w1 ⟨rfl, bb⟩
    replace X := Lib.hid (X.out.on bb)
    replace R1 := Lib.hid (R1.out.below bb)
    replace R2 := Lib.hid (R2.out.below bb)
    replace R3 := Lib.hid (R3.out.below bb)
    clear bb
    obtain ⟨e0, e1, _⟩ := X.out.x1.at_
    obtain ⟨e2, e3, _⟩ := X.out.x2.at_
    obtain ⟨e4, e5, _⟩ := X.out.x3.at_
    go_wp2_with fail
    refine (L2.out _).mono ?_
    rintro e w2 ⟨rfl, bb⟩
    replace X := Lib.hid (X.out.on bb)
    replace R1 := Lib.hid (R1.out.below bb)
    replace R2 := Lib.hid (R2.out.below bb)
    replace R3 := Lib.hid (R3.out.below bb)
    clear bb
    obtain ⟨e0, e1, _⟩ := X.out.x1.at_
    obtain ⟨e2, e3, _⟩ := X.out.x2.at_
    obtain ⟨e4, e5, _⟩ := X.out.x3.at_
    go_wp2_with fail
    refine (L3.out _).mono ?_
    rintro e w3 ⟨rfl, bb⟩
    replace X := Lib.hid (X.out.on bb)
    replace R1 := Lib.hid (R1.out.below bb)
    replace R2 := Lib.hid (R2.out.below bb)
    replace R3 := Lib.hid (R3.out.below bb)
    clear bb
    obtain ⟨e0, e1, _⟩ := X.out.x1.at_
    obtain ⟨e2, e3, _⟩ := X.out.x2.at_
    obtain ⟨e4, e5, _⟩ := X.out.x3.at_
    go_wp2_with fail
    refine (V1.out _ R1.out (by omega)).mono ?_
    rintro e w4 ⟨rfl, bb⟩
    replace X := Lib.hid (X.out.on bb)
    replace R1 := Lib.hid (R1.out.below bb)
    replace R2 := Lib.hid (R2.out.below bb)
    replace R3 := Lib.hid (R3.out.below bb)
    clear bb
    obtain ⟨e0, e1, _⟩ := X.out.x1.at_
    obtain ⟨e2, e3, _⟩ := X.out.x2.at_
    obtain ⟨e4, e5, _⟩ := X.out.x3.at_
    go_wp2_with fail
    refine (V2.out _ R2.out (by omega)).mono ?_
    rintro e w5 ⟨rfl, bb⟩
    replace X := Lib.hid (X.out.on bb)
    replace R1 := Lib.hid (R1.out.below bb)
    replace R2 := Lib.hid (R2.out.below bb)
    replace R3 := Lib.hid (R3.out.below bb)
    clear bb
    obtain ⟨e0, e1, _⟩ := X.out.x1.at_
    obtain ⟨e2, e3, _⟩ := X.out.x2.at_
    obtain ⟨e4, e5, _⟩ := X.out.x3.at_
    go_wp2_with fail
    refine (V3.out _ R3.out (by omega)).mono ?_
    rintro e w6 ⟨rfl, bb⟩
    replace X := Lib.hid (X.out.on bb)
    replace R1 := Lib.hid (R1.out.below bb)
    replace R2 := Lib.hid (R2.out.below bb)
    replace R3 := Lib.hid (R3.out.below bb)
    clear bb
    obtain ⟨e0, e1, _⟩ := X.out.x1.at_
    obtain ⟨e2, e3, _⟩ := X.out.x2.at_
    obtain ⟨e4, e5, _⟩ := X.out.x3.at_
    go_wp2
    go_ret
    exact ⟨by rw [← hF.out]; rfl, X.out.bel⟩
  replace hF := Lib.hid hF
  go_enter Tryd.func49, Tryd.ntmps49
  go_wp2_with fail
  refine (L1.out _).mono ?_
  rintro e w1 ⟨rfl, bb⟩
  replace X := Lib.hid (X.out.on bb)
  replace R1 := Lib.hid (R1.out.below bb)
  replace R2 := Lib.hid (R2.out.below bb)
  replace R3 := Lib.hid (R3.out.below bb)
  clear bb
  obtain ⟨e0, e1, _⟩ := X.out.x1.at_
  obtain ⟨e2, e3, _⟩ := X.out.x2.at_
  obtain ⟨e4, e5, _⟩ := X.out.x3.at_
  go_wp2_with fail
  refine (L2.out _).mono ?_
  rintro e w2 ⟨rfl, bb⟩
  replace X := Lib.hid (X.out.on bb)
  replace R1 := Lib.hid (R1.out.below bb)
  replace R2 := Lib.hid (R2.out.below bb)
  replace R3 := Lib.hid (R3.out.below bb)
  clear bb
  obtain ⟨e0, e1, _⟩ := X.out.x1.at_
  obtain ⟨e2, e3, _⟩ := X.out.x2.at_
  obtain ⟨e4, e5, _⟩ := X.out.x3.at_
  go_wp2_with fail
  refine (L3.out _).mono ?_
  rintro e w3 ⟨rfl, bb⟩
  replace X := Lib.hid (X.out.on bb)
  replace R1 := Lib.hid (R1.out.below bb)
  replace R2 := Lib.hid (R2.out.below bb)
  replace R3 := Lib.hid (R3.out.below bb)
  clear bb
  obtain ⟨e0, e1, _⟩ := X.out.x1.at_
  obtain ⟨e2, e3, _⟩ := X.out.x2.at_
  obtain ⟨e4, e5, _⟩ := X.out.x3.at_
  go_wp2_with fail
  refine (V1.out _ R1.out (by omega)).mono ?_
  rintro e w4 ⟨rfl, bb⟩
  replace X := Lib.hid (X.out.on bb)
  replace R1 := Lib.hid (R1.out.below bb)
  replace R2 := Lib.hid (R2.out.below bb)
  replace R3 := Lib.hid (R3.out.below bb)
  clear bb
  obtain ⟨e0, e1, _⟩ := X.out.x1.at_
  obtain ⟨e2, e3, _⟩ := X.out.x2.at_
  obtain ⟨e4, e5, _⟩ := X.out.x3.at_
  go_wp2_with fail
  refine (V2.out _ R2.out (by omega)).mono ?_
  rintro e w5 ⟨rfl, bb⟩
  replace X := Lib.hid (X.out.on bb)
  replace R1 := Lib.hid (R1.out.below bb)
  replace R2 := Lib.hid (R2.out.below bb)
  replace R3 := Lib.hid (R3.out.below bb)
  clear bb
  obtain ⟨e0, e1, _⟩ := X.out.x1.at_
  obtain ⟨e2, e3, _⟩ := X.out.x2.at_
  obtain ⟨e4, e5, _⟩ := X.out.x3.at_
  go_wp2_with fail
  refine (V3.out _ R3.out (by omega)).mono ?_
  rintro e w6 ⟨rfl, bb⟩
  replace X := Lib.hid (X.out.on bb)
  replace R1 := Lib.hid (R1.out.below bb)
  replace R2 := Lib.hid (R2.out.below bb)
  replace R3 := Lib.hid (R3.out.below bb)
  clear bb
  obtain ⟨e0, e1, _⟩ := X.out.x1.at_
  obtain ⟨e2, e3, _⟩ := X.out.x2.at_
  obtain ⟨e4, e5, _⟩ := X.out.x3.at_
  go_wp2
  go_ret
  exact ⟨by rw [← hF.out]; rfl, X.out.bel⟩
end Go.Proofs.YtkdeajocogdmgaaDoor

namespace Go.Proofs.YtkdeajocogdmgaaDoor
open Go.RowKit

theorem tab_drew {w : World} (h : Tab w) : Tab w.drew := tab_below h ⟨rfl, rfl, rfl, Nat.le_refl _, fun _ _ => rfl⟩
end Go.Proofs.YtkdeajocogdmgaaDoor
