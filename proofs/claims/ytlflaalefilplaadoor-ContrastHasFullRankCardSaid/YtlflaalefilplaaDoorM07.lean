/- The contracts of integer in the form that the laws use. -/
import Derived.Test.YtlflaalefilplaaDoorM06
import Derived.Test.YtlflaalefilplaaDoorM05
import Derived.Test.YtlflaalefilplaaDoorM03
import Derived.Test.YtlflaalefilplaaDoorM02
import Derived.IntWalk
import Derived.Deep.CutBlock
import Derived.Shelf.Strconv.Itoa0
import Derived.Shelf.Strconv.Itoa1
import Derived.Shelf.LaysM
import Derived.Shelf.Strconv.Itoa2
import Derived.Shelf.Strconv.Itoa3
import Derived.Test.YtlflaalefilplaaDoorProg
import Derived.Test.YtlflaalefilplaaDoorM01
import Derived.Lib.BitFns
import Derived.Test.YtlflaalefilplaaDoorM04
import Derived.RegionTactic
namespace Go.Proofs.YtlflaalefilplaaDoor
open Go.RowKit

/-- The same, with a bound of its size. -/
abbrev RetB (z : Int) (p : Nat) (w : World) (e : Ending) (w' : World) : Prop := ∃ A n c, e = .returned (.agg #[.bool (ng z), .slice A n c]) ∧ Rd w' A n c (limbs z.natAbs) ∧ Below w.heap.size w w' ∧ n ≤ p
theorem RetI.b {z : Int} {p : Nat} {w : World} {e : Ending} {w' : World} (h : RetI z w e w') (hl : (limbs z.natAbs).length ≤ p) : RetB z p w e w' := by
  obtain ⟨A, n, c, he, R, B⟩ := h
  exact ⟨A, n, c, he, R, B, by have := R.len; omega⟩
theorem iv_lt {b : Bool} {xs : List Nat} {p : Nat} (hs : Sm xs) (hl : xs.length ≤ p) : (iv b xs).natAbs < 4294967296 ^ p := limbs_len_le.1 (iv_abs hs hl)
theorem rd_lt {w : World} {A : Option Addr} {n c p : Nat} {z : Int} (h : Rd w A n c (limbs z.natAbs)) (hn : n ≤ p) : z.natAbs < 4294967296 ^ p := limbs_len_le.1 (by have := h.len; omega)
theorem radd_r (b : Bool) (A : Option Addr) (n c : Nat) (xs : List Nat) (b' : Bool) (A' : Option Addr) (n' c' : Nat) (ys : List Nat) (w : World) (p : Nat) (h1 : Rd w A n c xs) (h2 : Rd w A' n' c' ys) (hn : n ≤ p) (hn' : n' ≤ p) (hp : p ≤ 400) :
    Calls Tryd.prog 33 #[.agg #[.bool b, .slice A n c], .agg #[.bool b', .slice A' n' c']] w (RetB (iv b xs + iv b' ys) (p + 1) w) :=
  (raddI_any b A n c xs b' A' n' c' ys w h1 h2 (by omega) (by omega)).mono fun _ _ h => h.b (add_len (iv_lt h1.sm (by have := h1.len; omega)) (iv_lt h2.sm (by have := h2.len; omega)))
theorem radd_z (x : Int) (A : Option Addr) (n c : Nat) (y : Int) (A' : Option Addr) (n' c' : Nat) (w : World) (p : Nat) (h1 : Rd w A n c (limbs x.natAbs)) (h2 : Rd w A' n' c' (limbs y.natAbs)) (hn : n ≤ p) (hn' : n' ≤ p) (hp : p ≤ 400) :
    Calls Tryd.prog 33 #[.agg #[.bool (ng x), .slice A n c], .agg #[.bool (ng y), .slice A' n' c']] w (RetB (x + y) (p + 1) w) := by
  have := radd_r (ng x) A n c _ (ng y) A' n' c' _ w p h1 h2 hn hn' hp
  rwa [iv_z, iv_z] at this
theorem rmul_r (b : Bool) (A : Option Addr) (n c : Nat) (xs : List Nat) (b' : Bool) (A' : Option Addr) (n' c' : Nat) (ys : List Nat) (w : World) (p : Nat) (h1 : Rd w A n c xs) (h2 : Rd w A' n' c' ys) (hn : n ≤ p) (hn' : n' ≤ p) (hp : p ≤ 400) :
    Calls Tryd.prog 34 #[.agg #[.bool b, .slice A n c], .agg #[.bool b', .slice A' n' c']] w (RetB (iv b xs * iv b' ys) (p + p) w) :=
  (rmulI_any b A n c xs b' A' n' c' ys w h1 h2 (by omega) (by omega)).mono fun _ _ h => h.b (mul_len (iv_lt h1.sm (by have := h1.len; omega)) (iv_lt h2.sm (by have := h2.len; omega)))
theorem rmul_z (x : Int) (A : Option Addr) (n c : Nat) (y : Int) (A' : Option Addr) (n' c' : Nat) (w : World) (p : Nat) (h1 : Rd w A n c (limbs x.natAbs)) (h2 : Rd w A' n' c' (limbs y.natAbs)) (hn : n ≤ p) (hn' : n' ≤ p) (hp : p ≤ 400) :
    Calls Tryd.prog 34 #[.agg #[.bool (ng x), .slice A n c], .agg #[.bool (ng y), .slice A' n' c']] w (RetB (x * y) (p + p) w) := by
  have := rmul_r (ng x) A n c _ (ng y) A' n' c' _ w p h1 h2 hn hn' hp
  rwa [iv_z, iv_z] at this
theorem rneg_r (b : Bool) (A : Option Addr) (n c : Nat) (xs : List Nat) (w : World) (p : Nat) (h1 : Rd w A n c xs) (hn : n ≤ p) (hp : p ≤ 400) :
    Calls Tryd.prog 57 #[.agg #[.bool b, .slice A n c]] w (RetB (-(iv b xs)) p w) :=
  (rnegI_any b A n c xs w h1 (by omega)).mono fun _ _ h => h.b (by rw [Int.natAbs_neg]; exact iv_abs h1.sm (by have := h1.len; omega))
theorem rneg_z (x : Int) (A : Option Addr) (n c : Nat) (w : World) (p : Nat) (h1 : Rd w A n c (limbs x.natAbs)) (hn : n ≤ p) (hp : p ≤ 400) :
    Calls Tryd.prog 57 #[.agg #[.bool (ng x), .slice A n c]] w (RetB (-x) p w) := by
  have := rneg_r (ng x) A n c _ w p h1 hn hp
  rwa [iv_z] at this
theorem rsign_z (x : Int) (A : Option Addr) (n c : Nat) (w : World) (k : Int) (h1 : Rd w A n c (limbs x.natAbs)) (hn : n ≤ 900) (hk : x.sign = k) :
    Calls Tryd.prog 39 #[.agg #[.bool (ng x), .slice A n c]] w fun e w' => e = .returned (.int .i64 k) ∧ Below w.heap.size w w' := by
  have := rsignI_any (ng x) A n c _ w h1 (by omega)
  rwa [iv_z, hk] at this
theorem same_z (x : Int) (A : Option Addr) (n c : Nat) (y : Int) (A' : Option Addr) (n' c' : Nat) (w : World) (h1 : Rd w A n c (limbs x.natAbs)) (h2 : Rd w A' n' c' (limbs y.natAbs)) (hn : n ≤ 100000) (he : x = y) :
    Calls Tryd.prog 36 #[.agg #[.bool (ng x), .slice A n c], .agg #[.bool (ng y), .slice A' n' c']] w fun e w' => e = .returned (.bool true) ∧ Below w.heap.size w w' := by
  subst he
  exact sameI_true x A n c A' n' c' w h1 h2 hn
theorem div_len {x y : Int} {p : Nat} (hy : y ≠ 0) (hx : x.natAbs < 4294967296 ^ p) (hy2 : y.natAbs < 4294967296 ^ p) : (limbs (x / y).natAbs).length ≤ p + 1 ∧ (limbs (x % y).natAbs).length ≤ p := by
  have hg := ng x
  have hm : x.natAbs % y.natAbs < y.natAbs := Nat.mod_lt _ (by omega)
  have hd : x.natAbs / y.natAbs ≤ x.natAbs := Nat.div_le_self _ _
  have h4 := pow_two_le p
  have h5 : 0 < 4294967296 ^ p := Nat.pow_pos (by decide)
  cases hq : ng x
  · obtain ⟨e1, e2⟩ := div_pos hy hq
    refine ⟨len_of_lt ?_, len_of_lt ?_⟩
    · rw [← e1, abs_sg]; omega
    · rw [← e2, abs_sg]; omega
  · rcases Nat.eq_zero_or_pos (x.natAbs % y.natAbs) with h0 | h0
    · obtain ⟨e1, e2⟩ := div_neg0 hy hq h0
      refine ⟨len_of_lt ?_, len_of_lt ?_⟩
      · rw [← e1, abs_sg]; omega
      · rw [← e2, abs_sg]; omega
    · obtain ⟨e1, e2⟩ := div_neg1 hy hq h0
      refine ⟨len_of_lt ?_, len_of_lt ?_⟩
      · rw [← e1, abs_sg]; omega
      · rw [← e2, abs_sg]; omega
/-- The same, with bounds of their sizes. -/
abbrev RetDB (q r : Int) (p : Nat) (w : World) (e : Ending) (w' : World) : Prop := ∃ A n c A' n' c', e = .returned (.tuple #[.agg #[.bool (ng q), .slice A n c], .agg #[.bool (ng r), .slice A' n' c'], .bool true]) ∧ Rd w' A n c (limbs q.natAbs) ∧ Rd w' A' n' c' (limbs r.natAbs) ∧ Below w.heap.size w w' ∧ n ≤ p + 1 ∧ n' ≤ p
theorem rdiv_r (b : Bool) (A : Option Addr) (n c : Nat) (xs : List Nat) (b' : Bool) (A' : Option Addr) (n' c' : Nat) (ys : List Nat) (w : World) (p : Nat) (h1 : Rd w A n c xs) (h2 : Rd w A' n' c' ys) (hn : n ≤ p) (hn' : n' ≤ p) (hp : p ≤ 400) (hz : iv b' ys ≠ 0) :
    Calls Tryd.prog 59 #[.agg #[.bool b, .slice A n c], .agg #[.bool b', .slice A' n' c']] w (RetDB (iv b xs / iv b' ys) (iv b xs % iv b' ys) p w) :=
  (rdivI_any b A n c xs b' A' n' c' ys w h1 h2 (by omega) (by omega) hz).mono fun _ _ ⟨A, n, c, A', n', c', he, Q, Rr, B⟩ => by
    obtain ⟨l1, l2⟩ := div_len hz (iv_lt (b := b) (p := p) h1.sm (by have := h1.len; omega)) (iv_lt (p := p) h2.sm (by have := h2.len; omega))
    exact ⟨A, n, c, A', n', c', he, Q, Rr, B, by have := Q.len; omega, by have := Rr.len; omega⟩
theorem rdiv_z (x : Int) (A : Option Addr) (n c : Nat) (y : Int) (A' : Option Addr) (n' c' : Nat) (w : World) (p : Nat) (h1 : Rd w A n c (limbs x.natAbs)) (h2 : Rd w A' n' c' (limbs y.natAbs)) (hn : n ≤ p) (hn' : n' ≤ p) (hp : p ≤ 400) (hz : y ≠ 0) :
    Calls Tryd.prog 59 #[.agg #[.bool (ng x), .slice A n c], .agg #[.bool (ng y), .slice A' n' c']] w (RetDB (x / y) (x % y) p w) := by
  have := rdiv_r (ng x) A n c _ (ng y) A' n' c' _ w p h1 h2 hn hn' hp (by rw [iv_z]; exact hz)
  rwa [iv_z, iv_z] at this
end Go.Proofs.YtlflaalefilplaaDoor
namespace Go.Proofs.YtlflaalefilplaaDoor
open Go.RowKit RQ

/-- The denominator as it is kept. -/
def dn (q : Rat) : List Nat := if q.den = 1 then [] else limbs q.den
/-- What the limbs of a denominator say. -/
def dv (ds : List Nat) : Nat := if ds.isEmpty then 1 else val ds
/-- Is this row the number 1? -/
def is1 (ds : List Nat) : Bool := ds == [1]
def vldD (xs ds : List Nat) : Bool := ds.isEmpty || (vldB ds && !(is1 ds) && Nat.gcd (val xs) (val ds) == 1)
def vldR (b : Bool) (xs ds : List Nat) : Bool := vldI b xs && vldD xs ds
def rv (b : Bool) (xs ds : List Nat) : Rat := if vldR b xs ds then mkRat (sg b (val xs)) (dv ds) else 0

theorem limbs_is1 : limbs 1 = [1] := by rw [limbs_pos (by decide), show 1 % 4294967296 = 1 from rfl, show 1 / 4294967296 = 0 from rfl, limbs_zero]
theorem limbs_inj1 {a b : Nat} (h : limbs a = limbs b) : a = b := by have := congrArg val h; rwa [val_limbs, val_limbs] at this
theorem dn_nil {q : Rat} : dn q = [] ↔ q.den = 1 := by
  unfold dn; split
  · simp [*]
  · rename_i h
    constructor
    · intro e; have : val (limbs q.den) = 0 := by rw [e]; rfl
      rw [val_limbs] at this; have := q.den_nz; omega
    · intro e; exact absurd e h
theorem dv_dn (q : Rat) : dv (dn q) = q.den := by
  unfold dv
  cases h : (dn q).isEmpty
  · unfold dn at h ⊢
    split at h
    · cases h
    · rename_i h2; rw [if_neg h2, if_neg (by simp), val_limbs]
  · rw [if_pos rfl]; exact (dn_nil.1 (List.isEmpty_iff.1 h)).symm
theorem sg_val (z : Int) : sg (ng z) (val (limbs z.natAbs)) = z := by rw [val_limbs, sg_ng]
theorem vldR_z (q : Rat) : vldR (ng q.num) (limbs q.num.natAbs) (dn q) = true := by
  unfold vldR vldD
  rw [vldI_z, Bool.true_and]
  by_cases h : q.den = 1
  · rw [dn_nil.2 h]; rfl
  · have e : dn q = limbs q.den := by unfold dn; rw [if_neg h]
    rw [e, vldB_limbs, val_limbs, val_limbs]
    have h1 : is1 (limbs q.den) = false := by
      unfold is1; rw [beq_eq_false_iff_ne, ← limbs_is1]; intro hh; exact h (limbs_inj1 hh)
    have h2 : Nat.gcd q.num.natAbs q.den = 1 := q.reduced
    rw [h1, h2]; simp
theorem rv_z (q : Rat) : rv (ng q.num) (limbs q.num.natAbs) (dn q) = q := by
  unfold rv; rw [vldR_z, if_pos rfl, sg_val, dv_dn, Rat.mkRat_self]
theorem rv_no {b : Bool} {xs ds : List Nat} (h : vldR b xs ds = false) : rv b xs ds = 0 := by unfold rv; rw [h]; rfl
theorem canonR {b : Bool} {xs ds : List Nat} (hs : Sm xs) (hd : Sm ds) (h : vldR b xs ds = true) : b = ng (rv b xs ds).num ∧ xs = limbs (rv b xs ds).num.natAbs ∧ ds = dn (rv b xs ds) := by
  have h0 := h
  unfold vldR at h
  rw [Bool.and_eq_true] at h
  obtain ⟨h1, h2⟩ := h
  obtain ⟨c1, c2⟩ := canon hs h1
  rw [iv_yes h1] at c1 c2
  have ea : (sg b (val xs)).natAbs = val xs := abs_sg _ _
  have key : (rv b xs ds).num = sg b (val xs) ∧ (rv b xs ds).den = dv ds := by
    unfold rv; rw [h0, if_pos rfl]
    unfold vldD at h2
    cases he : ds.isEmpty
    · rw [he, Bool.false_or, Bool.and_eq_true, Bool.and_eq_true, beq_iff_eq] at h2
      obtain ⟨⟨h3, h4⟩, h5⟩ := h2
      have hp : 0 < val ds := val_pos h3 (by intro e; rw [e] at he; cases he)
      have e2 : dv ds = val ds := by unfold dv; rw [he]; rfl
      rw [e2, Rat.num_mkRat, Rat.den_mkRat, if_neg (by omega), if_neg (by omega), Nat.gcd_comm, ea, h5]
      simp
    · have e2 : dv ds = 1 := by unfold dv; rw [he]; rfl
      rw [e2, Rat.num_mkRat, Rat.den_mkRat]; simp
  refine ⟨by rw [key.1]; exact c1, by rw [key.1]; exact c2, ?_⟩
  unfold dn
  rw [key.2]
  unfold vldD at h2
  cases he : ds.isEmpty
  · rw [he, Bool.false_or, Bool.and_eq_true, Bool.and_eq_true] at h2
    obtain ⟨⟨h3, h4⟩, _⟩ := h2
    have e2 : dv ds = val ds := by unfold dv; rw [he]; rfl
    rw [e2]
    have e3 : limbs (val ds) = ds := limbs_val hd h3
    rw [if_neg, e3]
    intro e; rw [e, limbs_is1] at e3
    rw [← e3] at h4; simp [is1] at h4
  · have e2 : dv ds = 1 := by unfold dv; rw [he]; rfl
    rw [e2, if_pos rfl]; exact List.isEmpty_iff.1 he

/-- A rational number reads at two slices. -/
structure RR (w : World) (A : Option Addr) (n c : Nat) (D : Option Addr) (m d : Nat) (q : Rat) : Prop where
  n : Rd w A n c (limbs q.num.natAbs)
  d : Rd w D m d (dn q)
theorem RR.below {w w' : World} {A : Option Addr} {n c : Nat} {D : Option Addr} {m d : Nat} {q : Rat} (h : RR w A n c D m d q) (hb : Below w.heap.size w w') : RR w' A n c D m d q := ⟨h.n.below hb, h.d.below hb⟩
theorem dn_len {q : Rat} {p : Nat} (h : Rs q p) : (dn q).length ≤ p := by
  unfold dn; split
  · exact Nat.zero_le _
  · exact limbs_len_le.2 h.d
theorem RR.lens {w : World} {A : Option Addr} {n c : Nat} {D : Option Addr} {m d : Nat} {q : Rat} {p : Nat} (h : RR w A n c D m d q) (hq : Rs q p) : n ≤ p ∧ m ≤ p := by
  have h1 := h.n.len; have h2 := h.d.len
  have h3 : (limbs q.num.natAbs).length ≤ p := limbs_len_le.2 hq.n
  have h4 := dn_len hq
  omega
/-- What a function that returns one rational number leaves. -/
def RetR (q : Rat) (w : World) (e : Ending) (w' : World) : Prop := ∃ A n c D m d, e = .returned (.agg #[.bool (ng q.num), .slice A n c, .slice D m d]) ∧ RR w' A n c D m d q ∧ Below w.heap.size w w'
/-- .. and a word on errors. -/
theorem zero_RR (w : World) (A D : Option Addr) (c d : Nat) : RR w A 0 c D 0 d 0 := ⟨by rw [show (0 : Rat).num.natAbs = 0 from rfl, limbs_zero]; exact Rd.nil_ _ _ _, by rw [show dn 0 = [] from rfl]; exact Rd.nil_ _ _ _⟩
/-- A row that came in, as a number. -/
theorem RR.of {w : World} {b : Bool} {A : Option Addr} {n c : Nat} {xs : List Nat} {D : Option Addr} {m d : Nat} {ds : List Nat} (h1 : Rd w A n c xs) (h2 : Rd w D m d ds) (h : vldR b xs ds = true) : RR w A n c D m d (rv b xs ds) := by
  obtain ⟨_, e2, e3⟩ := canonR h1.sm h2.sm h
  exact ⟨e2 ▸ h1, e3 ▸ h2⟩
theorem Rs.of {b : Bool} {xs ds : List Nat} {p : Nat} (h1 : Sm xs) (h2 : Sm ds) (l1 : xs.length ≤ p) (l2 : ds.length ≤ p) (hp : 1 ≤ p) : Rs (rv b xs ds) p := by
  have hpow := pow_mono hp
  cases h : vldR b xs ds
  · rw [rv_no h]; exact ⟨by show 0 < _; omega, by show 1 < _; omega⟩
  · obtain ⟨_, e2, e3⟩ := canonR h1 h2 h
    rw [e2] at l1
    rw [e3] at l2
    refine ⟨limbs_len_le.1 l1, ?_⟩
    unfold dn at l2
    split at l2
    · rename_i e; rw [e]; omega
    · exact limbs_len_le.1 l2
end Go.Proofs.YtlflaalefilplaaDoor
namespace Go.Proofs.YtlflaalefilplaaDoor
open Go.RowKit RQ

theorem dec1_neg {z : Int} (h : ng z = true) : decide (z = 1) = false := by
  have := of_decide_eq_true (show decide (z < 0) = true from h)
  exact decide_eq_false (by omega)
theorem dec1_len {z : Int} {n : Nat} (h : (limbs z.natAbs).length = n) (hn : n ≠ 1) : decide (z = 1) = false := by
  refine decide_eq_false ?_
  rintro rfl
  rw [show (1 : Int).natAbs = 1 from rfl, limbs_is1] at h
  exact hn h.symm
theorem dec1_one {z : Int} {x : Nat} (h : (limbs z.natAbs).length = 1) (hx : (limbs z.natAbs).getD 0 0 = x) (hg : ng z = false) : decide (z = 1) = decide (x = 1) ∧ z = x := by
  have hz : ¬ z < 0 := of_decide_eq_false (show decide (z < 0) = false from hg)
  have e : limbs z.natAbs = [x] := by
    match hq : limbs z.natAbs with
    | [y] => rw [hq] at hx; simp at hx; rw [hx]
    | [] => rw [hq] at h; simp at h
    | _ :: _ :: _ => rw [hq] at h; simp at h
  have := congrArg val e
  rw [val_limbs] at this
  have h2 : val [x] = x := by simp [val]
  rw [h2] at this
  refine ⟨?_, by omega⟩
  rw [decide_eq_decide]; omega
theorem dn_len0 {q : Rat} {m : Nat} (h : (dn q).length = m) : (m = 0 → (q.den : Int) = 1) ∧ (m ≠ 0 → dn q = limbs q.den) := by
  constructor
  · intro e; rw [e] at h
    have := dn_nil.1 (List.eq_nil_of_length_eq_zero h); omega
  · intro e
    unfold dn at h ⊢
    split
    · rename_i h2; rw [if_pos h2] at h; exact absurd h.symm e
    · rfl
end Go.Proofs.YtlflaalefilplaaDoor
namespace Go.Proofs.YtlflaalefilplaaDoor
open Go.RowKit RQ

theorem iv_pos (N : Nat) : iv false (limbs N) = (N : Int) := by
  have := iv_z (N : Int)
  rwa [show ng (N : Int) = false from decide_eq_false (by omega), Int.natAbs_natCast] at this
theorem vldR_nil (b : Bool) (xs : List Nat) : vldR b xs [] = vldI b xs := by unfold vldR vldD; simp
theorem vldR_row {b : Bool} {xs ds : List Nat} (h : ds ≠ []) : vldR b xs ds = (vldI b xs && (vldB ds && !(is1 ds) && Nat.gcd (val xs) (val ds) == 1)) := by
  unfold vldR vldD
  cases ds
  · exact absurd rfl h
  · simp
theorem is1_val {ds : List Nat} (hs : Sm ds) (h : vldB ds = true) : is1 ds = decide ((val ds : Int) = 1) := by
  unfold is1
  rw [Bool.eq_iff_iff, beq_iff_eq, decide_eq_true_iff]
  constructor
  · intro e; rw [e]; simp [val]
  · intro e
    have : val ds = 1 := by omega
    have h2 := limbs_val hs h
    rw [this, limbs_is1] at h2
    exact h2.symm
theorem vldI_false (ds : List Nat) : vldI false ds = vldB ds := by unfold vldI; simp
end Go.Proofs.YtlflaalefilplaaDoor
namespace Go.Proofs.YtlflaalefilplaaDoor
open Go.RowKit RQ
theorem res_fromIntR (W : World) (tmps : Array Value) (g t : Nat) {v0 v1 v2 : Value} (ht : tmps.getD 2 undef = .pointer (some ⟨g, 0, none⟩)) (h : Cb W g #[v0, v1, v2] t) :
    (results Tryd.f23 tmps).run Tryd.prog W = .ok (.agg #[v0, v1, v2]) W := by
  have c0 : W.cell? ⟨g, 0, none⟩ = some v0 := h.cell rfl
  have c1 : W.cell? ⟨g, 1, none⟩ = some v1 := h.cell rfl
  have c2 : W.cell? ⟨g, 2, none⟩ = some v2 := h.cell rfl
  have ht' : tmps[2]?.getD undef = .pointer (some ⟨g, 0, none⟩) := by rw [← ht]; simp [Array.getD_eq_getD_getElem?]
  simp [results, Tryd.results23, go_sem, ht', c0, c1, c2]

theorem int_RR {w : World} {A : Option Addr} {n c : Nat} {D : Option Addr} {d : Nat} {z : Int} (h : Rd w A n c (limbs z.natAbs)) : RR w A n c D 0 d (z : Rat) := ⟨h, by rw [show dn (z : Rat) = [] from rfl]; exact Rd.nil_ _ _ _⟩
set_option maxHeartbeats 1000000 in
theorem fromIntR_any (v : Int) (w : World) (h0 : -9223372036854775808 ≤ v) (h1 : v ≤ 9223372036854775807) :
    Calls Tryd.prog 23 #[.int .i64 v] w (RetR (v : Rat) w) := by
  have hF := Lib.hid (fun W => fromInt_any v W h0 h1)
  clear h0 h1
  have S : St w _ [(w.heap.size, #[.bool false, .slice none 0 0, .slice none 0 0], 44)] [] := ((St.new w).allocAt (w.heap.size) #[.bool false, .slice none 0 0, .slice none 0 0] 44 (noL3 _ _ _ _ _ _ _) (by simp))
  replace S := Lib.hid S
  go_enter Tryd.func23, Tryd.ntmps23
  go_wp2_with fail
  refine (hF.out _).mono ?_
  rintro e w1 ⟨A1, n1, c1, rfl, Q, bb⟩
  have T := ((S.out.call bb).read Q)
  clear bb S
  have S := T
  clear T
  have c_r0 := S.cl 0 0 rfl rfl
  have f_r0 := S.f 0 0 rfl
  have c_r1 := S.cl 0 1 rfl rfl
  have f_r1 := S.f 0 1 rfl
  have c_r2 := S.cl 0 2 rfl rfl
  have f_r2 := S.f 0 2 rfl
  have hz : w.heap.size < w1.heap.size := S.lt 0 rfl
  replace S := Lib.hid S
  clear Q
  have S : St w _ [(w.heap.size, #[.bool (ng v), .slice A1 n1 c1, .slice none 0 0], 44)] [(A1, n1, c1, limbs v.natAbs)] := (((S.out.set 0 0 (.bool (ng v)) rfl (by nofun)).set 0 1 (.slice A1 n1 c1) rfl (by nofun)).set 0 2 (.slice none 0 0) rfl (by nofun))
  replace S := Lib.hid S
  go_wp2
  refine bodyPost_ret (res_fromIntR _ _ (w.heap.size) 44 rfl (S.out.bk _ (List.mem_of_getElem? (i := 0) rfl)).1) rfl ?_
  exact ⟨_, _, _, _, _, _, rfl, int_RR (S.out.r 0 rfl), S.out.bel⟩

theorem field_num (b : Bool) (A : Option Addr) (n c : Nat) (D : Option Addr) (m d : Nat) (w : World) : (Instr.field 44 (.agg #[.bool b, .slice A n c, .slice D m d]) 0).run Tryd.prog w = .ok (.agg #[.bool b, .slice A n c]) w := by kernel_rfl
theorem neg_RR {w : World} {A : Option Addr} {n c : Nat} {D : Option Addr} {m d : Nat} {q : Rat} (h1 : Rd w A n c (limbs (-q.num).natAbs)) (h2 : Rd w D m d (dn q)) : RR w A n c D m d (-q) := ⟨h1, h2⟩
theorem abs_num (q : Rat) : q.abs.num = (q.num.natAbs : Int) ∧ q.abs.den = q.den := by
  unfold Rat.abs
  split
  · rename_i h; have := Rat.num_nonneg.2 h; exact ⟨by omega, rfl⟩
  · rename_i h; have : ¬ 0 ≤ q.num := fun e => h (Rat.num_nonneg.1 e); exact ⟨by rw [Rat.neg_num]; omega, rfl⟩
theorem abs_RR {w : World} {A : Option Addr} {n c : Nat} {D : Option Addr} {m d : Nat} {q : Rat} (h1 : Rd w A n c (limbs q.num.natAbs)) (h2 : Rd w D m d (dn q)) : RR w A n c D m d q.abs := by
  refine ⟨by rw [(abs_num q).1, Int.natAbs_natCast]; exact h1, ?_⟩
  unfold dn at h2 ⊢; rw [(abs_num q).2]; exact h2
theorem abs_ng (q : Rat) : ng q.abs.num = false := by rw [(abs_num q).1]; exact decide_eq_false (by omega)
end Go.Proofs.YtlflaalefilplaaDoor
namespace Go.Proofs.YtlflaalefilplaaDoor
open Go.RowKit RQ
/-- What a function that returns one rational number and a word leaves. -/
def RetRE (q : Rat) (er : Value) (w : World) (e : Ending) (w' : World) : Prop := ∃ A n c D m d, e = .returned (.tuple #[.agg #[.bool (ng q.num), .slice A n c, .slice D m d], er]) ∧ RR w' A n c D m d q ∧ Below w.heap.size w w'
def mkE (z : Int) : Int := if z = 0 then 5 else 0
theorem gcd_len {u v : Int} {p : Nat} (hv : v ≠ 0) (h : v.natAbs < 4294967296 ^ p) : (limbs (Int.gcd u v)).length ≤ p :=
  limbs_len_le.2 (Nat.lt_of_le_of_lt (Nat.le_of_dvd (by omega) (Nat.gcd_dvd_right _ _)) h)

end Go.Proofs.YtlflaalefilplaaDoor
namespace Go.Proofs
open Go.Shelf
def Tryd.laysM243_ren : Go.Shelf.Ren := ⟨fun | 243 => 81 | 246 => 84 | 283 => 85 | 284 => 86 | 285 => 87 | 286 => 88 | 129 => 90 | 317 => 89 | 318 => 91 | 319 => 92 | 320 => 93 | 337 => 94 | 338 => 95 | n => n, fun | 3 => 3 | 9 => 9 | 2 => 2 | 4 => 4 | 171 => 105 | 0 => 0 | 53 => 60 | 37 => 79 | 5 => 5 | 173 => 108 | 212 => 111 | 51 => 77 | 20 => 20 | 213 => 112 | 46 => 80 | 232 => 116 | 233 => 117 | n => n, fun | 17 => 0 | 18 => 1 | 19 => 2 | n => n⟩
theorem Tryd.laysM243 : Go.Proofs.LaysM.n243 Tryd.prog Tryd.laysM243_ren := {
  mixed := by kernel_rfl
  f129 := Tryd.func90.trans (congrArg some (by kernel_rfl))
  f243 := Tryd.func81.trans (congrArg some (by kernel_rfl))
  f246 := Tryd.func84.trans (congrArg some (by kernel_rfl))
  f283 := Tryd.func85.trans (congrArg some (by kernel_rfl))
  f284 := Tryd.func86.trans (congrArg some (by kernel_rfl))
  f285 := Tryd.func87.trans (congrArg some (by kernel_rfl))
  f286 := Tryd.func88.trans (congrArg some (by kernel_rfl))
  f317 := Tryd.func89.trans (congrArg some (by kernel_rfl))
  f318 := Tryd.func91.trans (congrArg some (by kernel_rfl))
  f319 := Tryd.func92.trans (congrArg some (by kernel_rfl))
  f320 := Tryd.func93.trans (congrArg some (by kernel_rfl))
  f337 := Tryd.func94.trans (congrArg some (by kernel_rfl))
  f338 := Tryd.func95.trans (congrArg some (by kernel_rfl))
  t0 := Tryd.underlying0
  a0 := Tryd.isAgg0
  z0 := Tryd.sizeOf0
  v0 := Tryd.zeroValue0
  t2 := Tryd.underlying2
  a2 := Tryd.isAgg2
  z2 := Tryd.sizeOf2
  v2 := Tryd.zeroValue2
  t3 := Tryd.underlying3
  a3 := Tryd.isAgg3
  z3 := Tryd.sizeOf3
  v3 := Tryd.zeroValue3
  t4 := Tryd.underlying4
  a4 := Tryd.isAgg4
  z4 := Tryd.sizeOf4
  v4 := Tryd.zeroValue4
  t5 := Tryd.underlying5
  a5 := Tryd.isAgg5
  z5 := Tryd.sizeOf5
  v5 := Tryd.zeroValue5
  t9 := Tryd.underlying9
  a9 := Tryd.isAgg9
  z9 := Tryd.sizeOf9
  v9 := Tryd.zeroValue9
  t20 := Tryd.underlying20
  a20 := Tryd.isAgg20
  z20 := Tryd.sizeOf20
  v20 := Tryd.zeroValue20
  t37 := Tryd.underlying79
  a37 := Tryd.isAgg79
  z37 := Tryd.sizeOf79
  v37 := Tryd.zeroValue79
  t46 := Tryd.underlying80
  a46 := Tryd.isAgg80
  z46 := Tryd.sizeOf80
  v46 := Tryd.zeroValue80
  t51 := Tryd.underlying77
  a51 := Tryd.isAgg77
  z51 := Tryd.sizeOf77
  v51 := Tryd.zeroValue77
  t53 := Tryd.underlying60
  a53 := Tryd.isAgg60
  z53 := Tryd.sizeOf60
  v53 := Tryd.zeroValue60
  t171 := Tryd.underlying105
  a171 := Tryd.isAgg105
  z171 := Tryd.sizeOf105
  v171 := Tryd.zeroValue105
  t173 := Tryd.underlying108
  a173 := Tryd.isAgg108
  z173 := Tryd.sizeOf108
  v173 := Tryd.zeroValue108
  t212 := Tryd.underlying111
  a212 := Tryd.isAgg111
  z212 := Tryd.sizeOf111
  v212 := Tryd.zeroValue111
  t213 := Tryd.underlying112
  a213 := Tryd.isAgg112
  z213 := Tryd.sizeOf112
  t232 := Tryd.underlying116
  a232 := Tryd.isAgg116
  z232 := Tryd.sizeOf116
  v232 := Tryd.zeroValue116
  t233 := Tryd.underlying117
  a233 := Tryd.isAgg117
  z233 := Tryd.sizeOf117
  v233 := Tryd.zeroValue117
  g17 := by kernel_rfl
  g18 := by kernel_rfl
  g19 := by kernel_rfl
  i0 := by kernel_rfl
  i2 := by kernel_rfl
  i3 := by kernel_rfl
  i4 := by kernel_rfl
  i5 := by kernel_rfl
  i9 := by kernel_rfl
  i20 := by kernel_rfl
  i37 := by kernel_rfl
  i46 := by kernel_rfl
  i51 := by kernel_rfl
  i53 := by kernel_rfl
  i171 := by kernel_rfl
  i173 := by kernel_rfl
  i212 := by kernel_rfl
  i232 := by kernel_rfl
  i233 := by kernel_rfl
  m17 := by kernel_rfl
  m18 := by kernel_rfl
  m19 := by kernel_rfl }
open Go.RowKit Go.Sort Go.Lib in
theorem Tryd.internal_strconv_Itoa (n : Int) (h0 : -9223372036854775808 ≤ n) (h1 : n ≤ 9223372036854775807) (w : World) (htab : Lib.TabIs Tryd.prog w "internal/strconv.uint64pow10" .u64 Lib.pow10Tab) :
    Calls Tryd.prog 81 #[.int .i64 n] w fun e w' => e = .returned (.string ⟨(Lib.itoa n).toArray⟩) ∧ ∃ k os, w' = grow (w.drewN k) os := Any.internal_strconv_Itoa Tryd.laysM243 n h0 h1 w htab
end Go.Proofs
namespace Go.Proofs.YtlflaalefilplaaDoor
open Go.RowKit RQ

theorem ngN (N : Nat) : ng (N : Int) = false := decide_eq_false (by omega)
/-- What a function that returns one number without a sign leaves. -/
def RetU (N : Nat) (w : World) (e : Ending) (w' : World) : Prop := ∃ A n c, e = .returned (.agg #[.bool false, .slice A n c]) ∧ Rd w' A n c (limbs N) ∧ Below w.heap.size w w'
theorem RetI.u {N : Nat} {w : World} {e : Ending} {w' : World} (h : RetI (N : Int) w e w') : RetU N w e w' := by
  obtain ⟨A, n, c, he, R, B⟩ := h
  rw [ngN] at he
  rw [Int.natAbs_natCast] at R
  exact ⟨A, n, c, he, R, B⟩
theorem RetU.i {N : Nat} {w : World} {e : Ending} {w' : World} (h : RetU N w e w') : RetI (N : Int) w e w' := by
  obtain ⟨A, n, c, he, R, B⟩ := h
  refine ⟨A, n, c, by rw [ngN]; exact he, by rw [Int.natAbs_natCast]; exact R, B⟩
theorem i64_and1 (n : Int) : bits .and .i64 n 1 = n % 2 := by
  have h127 : (BitVec.ofInt 64 1).toNat = 2 ^ 1 - 1 := by decide
  have key : (BitVec.ofInt 64 n &&& BitVec.ofInt 64 1).toNat = (n % ((2 ^ 64 : Nat) : Int)).toNat % 2 ^ 1 := by
    rw [BitVec.toNat_and, BitVec.toNat_ofInt, h127, Nat.and_two_pow_sub_one_eq_mod]
  show IntKind.i64.wrap ((BitVec.ofInt 64 n &&& BitVec.ofInt 64 1).toNat : Nat) = n % 2
  rw [key, IntKind.wrap_i64]
  omega
theorem pow10_lt (j : Nat) : 10 ^ j < 4294967296 ^ (j + 1) := by
  have h1 : 10 ^ j ≤ 4294967296 ^ j := Nat.pow_le_pow_left (by decide) j
  have h2 : 0 < 4294967296 ^ j := Nat.pow_pos (by decide)
  rw [Nat.pow_succ]; omega
theorem pow10_len (j : Nat) : (limbs (10 ^ j)).length ≤ j + 1 := limbs_len_le.2 (pow10_lt j)

theorem limb_mod2 {N x : Nat} (h : (limbs N).getD 0 0 = x) (hp : 0 < (limbs N).length) : N % 2 = x % 2 := by
  rcases Nat.eq_zero_or_pos N with h0 | h0
  · subst h0; rw [limbs_zero] at hp; simp at hp
  · rw [limbs_pos h0] at h; simp at h; omega
theorem fromIntU_any (v : Nat) (w : World) (h1 : v ≤ 9223372036854775807) : Calls Tryd.prog 47 #[.int .i64 (v : Int)] w (RetU v w) :=
  (fromInt_any v w (by omega) (by omega)).mono fun _ _ h => h.u
theorem bitLen_div : ∀ (f x : Nat), x < 2 ^ f → x / 2 ^ Lib.bitLenAux f x = 0 ∧ Lib.bitLenAux f x ≤ f
  | 0, x, h => by simp at h; subst h; simp [Lib.bitLenAux]
  | f + 1, x, h => by
    unfold Lib.bitLenAux
    split
    · rename_i h0; subst h0; simp
    · obtain ⟨a, b⟩ := bitLen_div f (x / 2) (by rw [Nat.pow_succ] at h; omega)
      refine ⟨?_, by omega⟩
      rw [Nat.add_comm 1, Nat.pow_succ, Nat.mul_comm, ← Nat.div_div_eq_div_mul]; exact a
theorem exp_step (k j : Nat) : k / 2 ^ j = 2 * (k / 2 ^ (j + 1)) + k / 2 ^ j % 2 := by
  rw [Nat.pow_succ, ← Nat.div_div_eq_div_mul]; omega
end Go.Proofs.YtlflaalefilplaaDoor
namespace Go.Proofs.YtlflaalefilplaaDoor
open Go.RowKit RQ
end Go.Proofs.YtlflaalefilplaaDoor
namespace Go.Proofs.YtlflaalefilplaaDoor
open Go.RowKit RQ

/-- Are numerator and denominator so small that two products of them fit into an int? -/
def shq (q : Rat) : Bool := decide (q.num.natAbs ≤ 2147483647) && decide (q.den ≤ 2147483647)
def shN (q : Rat) : Int := if shq q = true then q.num else 0
def shD (q : Rat) : Int := if shq q = true then (q.den : Int) else 0
theorem len1 {N n : Nat} (h : (limbs N).length = n) (hn : n ≤ 1) : N < 4294967296 ∧ (n = 0 → N = 0) ∧ (n = 1 → (limbs N).getD 0 0 = N) := by
  have h1 : N < 4294967296 ^ 1 := limbs_len_le.1 (by omega)
  rw [Nat.pow_one] at h1
  refine ⟨h1, fun e => ?_, fun e => ?_⟩
  · have := congrArg val (List.eq_nil_of_length_eq_zero (h.trans e)); rwa [val_limbs] at this
  · have hp : 0 < N := by
      rcases Nat.eq_zero_or_pos N with h0 | h0
      · rw [h0, limbs_zero] at h; simp at h; omega
      · exact h0
    rw [limbs_pos hp]; simp; omega
theorem big_len {N n : Nat} (h : (limbs N).length = n) (hn : 1 < n) : 2147483647 < N := by
  rcases Nat.lt_or_ge 2147483647 N with h1 | h1
  · exact h1
  · have : (limbs N).length ≤ 1 := limbs_len_le.2 (by rw [Nat.pow_one]; omega)
    omega

end Go.Proofs.YtlflaalefilplaaDoor
namespace Go.Proofs.YtlflaalefilplaaDoor
open Go.RowKit RQ

/-- What bothShort leaves. -/
def RetBS (x y : Rat) (w : World) (e : Ending) (w' : World) : Prop := ∃ a b c d : Int, e = .returned (.tuple #[.agg #[.int .i64 a, .int .i64 b], .agg #[.int .i64 c, .int .i64 d], .bool (shq x && shq y)]) ∧ ((shq x && shq y) = true → a = x.num ∧ b = x.den ∧ c = y.num ∧ d = y.den) ∧ Below w.heap.size w w'
end Go.Proofs.YtlflaalefilplaaDoor
namespace Go.Proofs.YtlflaalefilplaaDoor
open Go.RowKit RQ
theorem quo_facts (n d : Int) (hd : 0 < d) (g : Nat) (hg : Nat.gcd n.natAbs d.natAbs = g) : 0 < g ∧ n.tdiv (g : Int) = (Rat.divInt n d).num ∧ d.tdiv (g : Int) = ((Rat.divInt n d).den : Int) := by
  obtain ⟨h1, h2⟩ := divInt_pos n hd
  have e : Int.gcd n d = g := hg
  rw [e] at h1 h2
  have hp : 0 < g := by rw [← hg]; exact Nat.gcd_pos_of_pos_right _ (by omega)
  have d1 : (g : Int) ∣ n := by rw [← e]; exact Int.gcd_dvd_left ..
  refine ⟨hp, ?_, ?_⟩
  · rw [h1]; exact Int.tdiv_eq_ediv_of_dvd d1
  · rw [h2]; exact Int.tdiv_eq_ediv_of_nonneg (by omega)
theorem num_len (n d : Int) (hd : 0 < d) : (Rat.divInt n d).num.natAbs ≤ n.natAbs ∧ ((Rat.divInt n d).den : Int) ≤ d := ⟨num_divInt_le n hd, den_divInt_le n hd⟩
end Go.Proofs.YtlflaalefilplaaDoor
namespace Go.Proofs.YtlflaalefilplaaDoor
open Go.RowKit RQ
theorem mulq_bd {a b : Int} (h1 : a.natAbs ≤ 2147483647) (h2 : b.natAbs ≤ 2147483647) : (a * b).natAbs ≤ 4611686014132420609 := by
  rw [Int.natAbs_mul]; exact Nat.mul_le_mul h1 h2
theorem shq_true {x y : Rat} (h : (shq x && shq y) = true) : x.num.natAbs ≤ 2147483647 ∧ (x.den : Int).natAbs ≤ 2147483647 ∧ y.num.natAbs ≤ 2147483647 ∧ (y.den : Int).natAbs ≤ 2147483647 := by
  unfold shq at h; simp only [Bool.and_eq_true, decide_eq_true_eq] at h; omega
end Go.Proofs.YtlflaalefilplaaDoor
namespace Go.Proofs.YtlflaalefilplaaDoor
open Go.RowKit RQ
theorem len_mono2 {a b p : Nat} (h : a ≤ b) (hb : (limbs b).length ≤ p) : (limbs a).length ≤ p := limbs_len_le.2 (Nat.lt_of_le_of_lt h (limbs_len_le.1 hb))
theorem addI_len2 {a b : Int} {p : Nat} (h1 : (limbs a.natAbs).length ≤ p) (h2 : (limbs b.natAbs).length ≤ p) : (limbs (a + b).natAbs).length ≤ p + 1 := by
  rw [limbs_len_le] at *
  have := Int.natAbs_add_le a b
  rw [Nat.pow_succ]; omega
theorem mulI_len2 {a b : Int} {p k : Nat} (h1 : (limbs a.natAbs).length ≤ p) (h2 : (limbs b.natAbs).length ≤ k) : (limbs (a * b).natAbs).length ≤ p + k := by
  rw [limbs_len_le] at *
  rw [Int.natAbs_mul, Nat.pow_add]; exact mul_lt h1 h2
end Go.Proofs.YtlflaalefilplaaDoor
namespace Go.Proofs.YtlflaalefilplaaDoor
open Go.RowKit RQ

end Go.Proofs.YtlflaalefilplaaDoor
namespace Go.Proofs.YtlflaalefilplaaDoor
open Go.RowKit RQ
/-- The word that Div adds. -/
def dvE (q : Rat) : Int := if q = 0 then 5 else 0
end Go.Proofs.YtlflaalefilplaaDoor
namespace Go.Proofs.YtlflaalefilplaaDoor
open Go.RowKit
theorem ne_len {xs ys : List Nat} {n n' : Nat} (h : xs.length = n) (h' : ys.length = n') (hn : n ≠ n') : decide (xs = ys) = false := decide_eq_false (by rintro rfl; omega)
theorem ne_at {xs ys : List Nat} {k : Nat} (h : xs.getD k 0 ≠ ys.getD k 0) : decide (xs = ys) = false := decide_eq_false (by rintro rfl; exact h rfl)
theorem take_eq {xs ys : List Nat} {k : Nat} (h : xs.take k = ys.take k) (hk : k < xs.length) (hk' : k < ys.length) (he : xs.getD k 0 = ys.getD k 0) : xs.take (k + 1) = ys.take (k + 1) := by
  rw [List.take_succ_eq_append_getElem hk, List.take_succ_eq_append_getElem hk', h]
  simp [List.getD_eq_getElem?_getD, List.getElem?_eq_getElem hk, List.getElem?_eq_getElem hk'] at he
  rw [he]
theorem all_eq {xs ys : List Nat} {n : Nat} (h : xs.take n = ys.take n) (h1 : xs.length = n) (h2 : ys.length = n) : decide (xs = ys) = true := decide_eq_true (by
  rw [← h1, List.take_length, h1, ← h2, List.take_length] at h; exact h)

set_option maxHeartbeats 1000000 in
theorem same1_any (A : Option Addr) (n c : Nat) (A' : Option Addr) (n' c' : Nat) (xs ys : List Nat) (w : World)
    (h1 : Rd w A n c xs) (h2 : Rd w A' n' c' ys) (hn : n ≤ 100000) (hn' : n' ≤ 100000) :
    Calls Tryd.prog 37 #[.slice A n c, .slice A' n' c'] w fun e w' => e = .returned (.bool (decide (xs = ys))) ∧ Below w.heap.size w w' := by
  by_cases hnn : n = n'
  · subst hnn
    replace h1 := Lib.hid h1
    replace h2 := Lib.hid h2
    go_enter Tryd.func37, Tryd.ntmps37
    go_wp2
    go_loopw [5] (fun iv wr => ∃ (k m : Nat), k ≤ n ∧ iv = .int .i64 k ∧ wr = w.drewN m ∧ xs.take k = ys.take k) (fun iv _ => n - (intOf iv).toNat)
    case atStart => exact ⟨0, 0, Nat.zero_le _, rfl, rfl, by simp⟩
    case round =>
      obtain ⟨k, m, hk, rfl, rfl, ht⟩ := hrel
      replace ht := Lib.hid ht
      by_cases hlt : k < n
      · obtain ⟨b1, o1, x1, rfl, hb1, hx1, hxe, hcx⟩ := h1.out.at_ hlt
        obtain ⟨b2, o2, y1, rfl, hb2, hy1, hye, hcy⟩ := h2.out.at_ hlt
        have g1 : (0 : Int) ≤ (k : Int) := by omega
        have g2 : (k : Int) < (n : Int) := by omega
        by_cases hxy : x1 = y1
        · have ht' : Hid (xs.take (k + 1) = ys.take (k + 1)) := Lib.hid (take_eq ht.out (by rw [h1.out.len]; exact hlt) (by rw [h2.out.len]; exact hlt) (by rw [hxe, hye, hxy]))
          clear hxe hye
          subst hxy
          have hq : ((x1 : Int) != (x1 : Int)) = false := by simp
          go_wp2
          go_quiet (fail)
          go_wp2
          go_roundw
          case rel => exact ⟨k + 1, _, by omega, by go_num, rfl, ht'.out⟩
          case measure => simp [intOf]; omega
        · have hf : Hid (decide (xs = ys) = false) := Lib.hid (ne_at (k := k) (by rw [hxe, hye]; exact hxy))
          have hq : ((x1 : Int) != (y1 : Int)) = true := by simp; omega
          clear hxe hye ht
          go_wp2
          go_quiet (fail)
          go_wp2
          go_ret
          rw [hf.out]
          exact ⟨rfl, below_drewN (below_drewN (Below.refl _ _) _) _⟩
      · have ek : k = n := by omega
        have hf : Hid (decide (xs = ys) = true) := Lib.hid (all_eq (n := n) (ek ▸ ht.out) h1.out.len h2.out.len)
        clear ek
        clear ht
        go_wp2
        go_ret
        rw [hf.out]
        exact ⟨rfl, below_drewN (Below.refl _ _) _⟩
  · have hf : Hid (decide (xs = ys) = false) := Lib.hid (ne_len h1.len h2.len hnn)
    have B := Lib.hid (Below.refl w.heap.size w)
    clear h1 h2
    go_enter Tryd.func37, Tryd.ntmps37
    go_wp2
    go_ret
    rw [hf.out]
    exact ⟨rfl, B.out⟩
end Go.Proofs.YtlflaalefilplaaDoor
namespace Go.Proofs.YtlflaalefilplaaDoor
open Go.RowKit RQ
theorem cmpi_sign (a b : Int) : cmpi a b = (a - b).sign := by
  unfold cmpi
  rcases Int.lt_trichotomy a b with h | h | h
  · rw [if_pos h, Int.sign_eq_neg_one_of_neg (by omega)]
  · rw [if_neg (by omega), if_neg (by omega), h, Int.sub_self]; rfl
  · rw [if_neg (by omega), if_pos h, Int.sign_eq_one_of_pos (by omega)]
theorem libcmp_sign (a b : Int) : Lib.compareInt a b = (a - b).sign := by
  rw [← cmpi_sign]; rfl
theorem cmpq_same {x y : Rat} (h : dn x = dn y) : cmpi x.num y.num = cmpq x y := by
  have e : x.den = y.den := by rw [← dv_dn, ← dv_dn, h]
  have hp := den_pos' y
  rw [cmpi_sign]; unfold cmpq
  rw [e, ← Int.sub_mul, Int.sign_mul, Int.sign_eq_one_of_pos hp, Int.mul_one]

end Go.Proofs.YtlflaalefilplaaDoor
namespace Go.Proofs.YtlflaalefilplaaDoor
open Go.RowKit

/-- A byte that is a decimal digit. -/
def isDig (c : UInt8) : Bool := decide (48 ≤ c.toNat) && decide (c.toNat ≤ 57)
def allDig (l : List UInt8) : Bool := l.all isDig
/-- What Parse takes. -/
def isDec (s : ByteArray) : Bool := decide (0 < s.size) && decide (s.size ≤ 4000) && !(decide (1 < s.size) && decide ((s.get! 0).toNat = 48)) && allDig s.data.toList

theorem getBang {s : ByteArray} {k : Nat} (h : k < s.size) : s.get! k = s[k] := by
  show s.data[k]! = _
  rw [getElem!_pos]; rfl
theorem toList_get {s : ByteArray} {k : Nat} (h : k < s.size) : s.data.toList[k]? = some s[k] := by
  rw [Array.getElem?_toList, Array.getElem?_eq_getElem h]; rfl
theorem toList_len (s : ByteArray) : s.data.toList.length = s.size := Array.length_toList
theorem allDig_step {s : ByteArray} {k : Nat} (h : k < s.size) (ha : allDig (s.data.toList.take k) = true) (hd : isDig s[k] = true) : allDig (s.data.toList.take (k + 1)) = true := by
  unfold allDig at *
  rw [List.take_add_one, toList_get h, List.all_append, ha]
  simpa using hd
theorem allDig_no {s : ByteArray} {k : Nat} (h : k < s.size) (hd : isDig s[k] = false) : allDig s.data.toList = false := by
  unfold allDig
  rw [List.all_eq_false]
  exact ⟨s[k], List.mem_of_getElem? (toList_get h), by rw [hd]; simp⟩

theorem isDec_size {s : ByteArray} (h : s.size = 0 ∨ 4000 < s.size) : isDec s = false := by
  unfold isDec
  rcases h with h | h
  · have : decide (0 < s.size) = false := by rw [decide_eq_false_iff_not]; omega
    rw [this]; rfl
  · have : decide (s.size ≤ 4000) = false := by rw [decide_eq_false_iff_not]; omega
    rw [this]; simp
theorem isDec_zero {s : ByteArray} (h : 1 < s.size) (hz : s[0].toNat = 48) : isDec s = false := by
  unfold isDec
  have h1 : decide (1 < s.size) = true := by rw [decide_eq_true_eq]; omega
  have h2 : decide ((s.get! 0).toNat = 48) = true := by rw [getBang (by omega)]; simpa using hz
  rw [h1, h2]; simp
theorem isDec_digs {s : ByteArray} (h0 : 0 < s.size) (h1 : s.size ≤ 4000) (h2 : ¬ (1 < s.size ∧ (s.get! 0).toNat = 48)) : isDec s = allDig s.data.toList := by
  unfold isDec
  have a0 : decide (0 < s.size) = true := by simpa using h0
  have a1 : decide (s.size ≤ 4000) = true := by simpa using h1
  have a2 : (decide (1 < s.size) && decide ((s.get! 0).toNat = 48)) = false := by
    rw [Bool.eq_false_iff]; intro h; rw [Bool.and_eq_true, decide_eq_true_eq, decide_eq_true_eq] at h; exact h2 h
  rw [a0, a1, a2]; rfl

end Go.Proofs.YtlflaalefilplaaDoor
namespace Go.Proofs.YtlflaalefilplaaDoor
open Go.RowKit

def dval (l : List UInt8) : Nat := l.foldl (fun a c => a * 10 + (c.toNat - 48)) 0
theorem dval_app (l m : List UInt8) : dval (l ++ m) = dval l * 10 ^ m.length + dval m := by
  unfold dval
  rw [List.foldl_append]
  generalize List.foldl _ 0 l = a
  induction m generalizing a with
  | nil => simp
  | cons c r ih =>
    rw [List.foldl_cons, List.foldl_cons, ih, ih (0 * 10 + _), List.length_cons, Nat.pow_succ]
    rw [Nat.zero_mul, Nat.zero_add, Nat.add_mul, Nat.mul_assoc, Nat.mul_comm 10]
    omega
theorem dval_lt {l : List UInt8} (h : allDig l = true) : dval l < 10 ^ l.length := by
  have : ∀ r : List UInt8, dval (r.reverse) < 10 ^ r.length ∨ allDig r.reverse = false := by
    intro r
    induction r with
    | nil => left; simp [dval]
    | cons c r ih =>
      rw [List.reverse_cons, dval_app]
      rcases ih with ih | ih
      · by_cases hc : isDig c = true
        · left
          unfold isDig at hc
          simp only [Bool.and_eq_true, decide_eq_true_eq] at hc
          have : dval [c] = c.toNat - 48 := by simp [dval]
          rw [this, show (c :: r).length = r.length + 1 from rfl, Nat.pow_succ 10 r.length]
          rw [List.length_singleton, Nat.pow_one]
          omega
        · right
          unfold allDig
          rw [List.all_append, List.all_cons]
          simp [hc]
      · right
        unfold allDig at *
        rw [List.all_append, ih]; rfl
  have h2 := this l.reverse
  rw [List.reverse_reverse, List.length_reverse, h] at h2
  rcases h2 with h2 | h2
  · exact h2
  · cases h2

theorem Gr.set_ {w : World} {base g n c : Nat} {zs : List Nat} (h : Gr w base (.slice (some ⟨g, 0, none⟩) n c) zs) (i x : Nat) (hx : x < 4294967296) :
    Gr (w.setCell ⟨g, i, none⟩ (.int .u32 (x : Int))) base (.slice (some ⟨g, 0, none⟩) n c) (zs.set i x) := by
  refine ⟨?_, sm_set h.sm i x hx⟩
  obtain ⟨h1, h2⟩ := h.own
  refine ⟨by simp, ?_⟩
  rcases h2 with ⟨h2, _⟩ | ⟨g', cap, cur, hv, hb, hh, hn, hm, hs, ht⟩
  · cases h2
  · right
    injection hv with e1 e2 e3
    injection e1 with e1
    injection e1 with e1
    subst e1 e3
    refine ⟨g, c, cur.setIfInBounds i (u32 x), by rw [List.length_set, e2], hb, ?_, by rw [List.length_set]; exact hn, hm, by simpa using hs, ?_⟩
    · simp [World.setCell, Array.getElem?_modify, hh, u32]
    · rw [Array.toList_setIfInBounds, List.length_set, List.take_set, ht, List.map_set]

theorem ac_step {zs zs0 : List Nat} {k n cy d x t : Nat} (hk : k < n) (hl : zs.length = n)
    (h : val (zs.take k) + 4294967296 ^ k * cy = val (zs0.take k) * 1000000000 + d) (hd : zs.drop k = zs0.drop k) (hx : zs.getD k 0 = x) (ht : t = cy + x * 1000000000) :
    val ((zs.set k (t % 4294967296)).take (k + 1)) + 4294967296 ^ (k + 1) * (t / 4294967296) = val (zs0.take (k + 1)) * 1000000000 + d := by
  have hx0 : zs0.getD k 0 = x := by
    rw [← hx]
    have := congrArg (fun l => l.getD 0 0) hd
    simpa [List.getD_eq_getElem?_getD] using this.symm
  rw [val_take_succ_any zs0, hx0, val_take_succ_any, take_set_low _ _ (Nat.le_refl _)]
  have : (zs.set k (t % 4294967296)).getD k 0 = t % 4294967296 := by simp [List.getD_eq_getElem?_getD, hl, hk]
  rw [this, Nat.pow_succ, Nat.mul_assoc, Nat.add_assoc, ← Nat.mul_add, Nat.mod_add_div, ht, Nat.mul_add, ← Nat.add_assoc, h, Nat.add_mul, Nat.mul_assoc]
  omega
theorem ac_drop {zs zs0 : List Nat} {k v : Nat} (hd : zs.drop k = zs0.drop k) : (zs.set k v).drop (k + 1) = zs0.drop (k + 1) := by
  rw [drop_set_succ, ← List.drop_drop, ← List.drop_drop, hd]

theorem vld_of {zs : List Nat} (hs : Sm zs) (h : zs.length = 0 ∨ 4294967296 ^ (zs.length - 1) ≤ val zs) : zs = limbs (val zs) := by
  rcases Nat.eq_zero_or_pos zs.length with h0 | h0
  · have := List.eq_nil_of_length_eq_zero h0; subst this; simp [val, limbs_zero]
  rw [trim_take hs, List.take_of_length_le]
  rcases Nat.lt_or_ge (limbs (val zs)).length zs.length with hlt | hge
  · have h1 := limbs_len_le.1 (show (limbs (val zs)).length ≤ zs.length - 1 by omega)
    omega
  · exact hge
theorem ac_same {zs : List Nat} {N d n : Nat} (hs : Sm zs) (hl : zs.length = n) (hN : (limbs N).length = n) (h : val zs = N * 1000000000 + d) : zs = limbs (N * 1000000000 + d) := by
  rw [← h]
  refine vld_of hs ?_
  rcases Nat.eq_zero_or_pos n with h0 | h0
  · left; omega
  · right
    rw [hl, h]
    have := val_ge (vldB_limbs N) (by omega)
    rw [val_limbs, hN] at this
    omega
theorem ac_more {zs : List Nat} {N d n cy : Nat} (hs : Sm zs) (hl : zs.length = n) (hc : cy < 4294967296) (h0 : 0 < cy) (h : val zs + 4294967296 ^ n * cy = N * 1000000000 + d) : zs ++ [cy] = limbs (N * 1000000000 + d) := by
  rw [← h, ← hl, ← val_snoc]
  refine vld_of ?_ (.inr ?_)
  · intro z hz
    rcases List.mem_append.1 hz with hz | hz
    · exact hs z hz
    · rw [List.mem_singleton.1 hz]; exact hc
  · rw [val_snoc, List.length_append]
    show 4294967296 ^ (zs.length + 1 - 1) ≤ _
    rw [Nat.add_sub_cancel]
    have := Nat.mul_le_mul_left (4294967296 ^ zs.length) h0
    omega
theorem ac_end {zs zs0 : List Nat} {n cy d N : Nat} (hl : zs.length = n) (h0 : zs0.length = n) (hN : zs0 = limbs N)
    (h : val (zs.take n) + 4294967296 ^ n * cy = val (zs0.take n) * 1000000000 + d) : val zs + 4294967296 ^ n * cy = N * 1000000000 + d := by
  rw [List.take_of_length_le (by omega), List.take_of_length_le (by omega), hN, val_limbs] at h
  exact h

theorem Gr.below {w w' : World} {base : Nat} {v : Value} {zs : List Nat} (h : Gr w base v zs) (hb : Below w.heap.size w w') : Gr w' base v zs := by
  refine ⟨⟨h.own.1, ?_⟩, h.sm⟩
  rcases h.own.2 with h2 | ⟨g, cap, cur, hv, hbg, hh, hr⟩
  · exact .inl h2
  · have hlt : g < w.heap.size := by
      rcases Nat.lt_or_ge g w.heap.size with h | h
      · exact h
      · rw [Array.getElem?_eq_none h] at hh; cases hh
    exact .inr ⟨g, cap, cur, hv, hbg, by rw [hb.block g hlt]; exact hh, hr⟩

end Go.Proofs.YtlflaalefilplaaDoor
namespace Go.Proofs.YtlflaalefilplaaDoor
open Go.RowKit

def RetP (s : ByteArray) (w : World) (e : Ending) (w' : World) : Prop :=
  ∃ A n c, e = .returned (.tuple #[.slice A n c, .bool (isDec s)]) ∧ Rd w' A n c (if isDec s = true then limbs (dval s.data.toList) else []) ∧ Below w.heap.size w w'

theorem isDec_yes' {s : ByteArray} (h : isDec s = true) : 0 < s.size ∧ s.size ≤ 4000 ∧ allDig s.data.toList = true := by
  unfold isDec at h
  simp only [Bool.and_eq_true, decide_eq_true_eq] at h
  exact ⟨h.1.1.1, h.1.1.2, h.2⟩
theorem dec_len_k {l : List UInt8} {k : Nat} (ha : allDig l = true) (hl : l.length ≤ 9 * k) : (limbs (dval l)).length ≤ k := by
  apply len_of_lt
  have h1 := dval_lt ha
  have h2 : 10 ^ l.length ≤ 10 ^ (9 * k) := Nat.pow_le_pow_right (by decide) hl
  have h3 : (10 : Nat) ^ (9 * k) = (10 ^ 9) ^ k := by rw [Nat.pow_mul]
  have h4 : ((10 : Nat) ^ 9) ^ k ≤ 4294967296 ^ k := Nat.pow_le_pow_left (by decide) _
  omega
theorem dec_len {l : List UInt8} (ha : allDig l = true) (hl : l.length ≤ 4000) : (limbs (dval l)).length ≤ 445 := dec_len_k ha (by omega)

theorem ext_take (t : ByteArray) (m : Nat) : (t.extract 0 m).data.toList = t.data.toList.take m := by
  simp [ByteArray.data_extract]
theorem ext_drop (t : ByteArray) (m : Nat) : (t.extract m t.size).data.toList = t.data.toList.drop m := by
  rw [ByteArray.data_extract, Array.toList_extract, List.extract_eq_take_drop]
  apply List.take_of_length_le
  rw [List.length_drop, toList_len]; omega
theorem ext_take_size {t : ByteArray} {m : Nat} (h : m ≤ t.size) : (t.extract 0 m).size = m := by
  rw [← toList_len, ext_take, List.length_take, toList_len]; omega
theorem ext_drop_size (t : ByteArray) (m : Nat) : (t.extract m t.size).size = t.size - m := by
  rw [← toList_len, ext_drop, List.length_drop, toList_len]
theorem allDig_take {l : List UInt8} (h : allDig l = true) (m : Nat) : allDig (l.take m) = true := by
  unfold allDig at *
  rw [List.all_eq_true] at *
  exact fun c hc => h c (List.mem_of_mem_take hc)

end Go.Proofs.YtlflaalefilplaaDoor
namespace Go.Proofs.YtlflaalefilplaaDoor
open Go.RowKit

theorem dval_snoc {s : ByteArray} {k : Nat} (h : k < s.size) : dval (s.data.toList.take (k + 1)) = dval (s.data.toList.take k) * 10 + (s[k].toNat - 48) := by
  rw [List.take_add_one, toList_get h, dval_app]
  simp [dval]

theorem ne_list {s : ByteArray} (h : 0 < s.size) : s.toList.isEmpty = false := by
  rw [ByteArray.toList_eq]
  cases hl : s.data.toList with
  | nil => have := toList_len s; rw [hl] at this; simp at this; omega
  | cons _ _ => rfl
theorem ne_list2 {s : ByteArray} (h : 0 < s.size) : ¬ s.toList = [] := by
  intro h'; have := ne_list h; rw [h'] at this; cases this

theorem retP_no {s : ByteArray} {w w' : World} (h : isDec s = false) (hB : Below w.heap.size w w') : RetP s w (.returned (.tuple #[.slice none 0 0, .bool false])) w' := by
  unfold RetP; rw [h]; exact ⟨none, 0, 0, rfl, Rd.nil_ _ _ _, hB⟩
theorem retP_yes {s : ByteArray} {w w' : World} {A : Option Addr} {n c : Nat} (h : isDec s = true) (R : Rd w' A n c (limbs (dval s.data.toList))) (hB : Below w.heap.size w w') : RetP s w (.returned (.tuple #[.slice A n c, .bool true])) w' := by
  unfold RetP; rw [h]; exact ⟨A, n, c, rfl, R, hB⟩
theorem wrap_dig {x : Nat} (h1 : 48 ≤ x) (h2 : x ≤ 57) : IntKind.u64.wrap (IntKind.u8.wrap ((x : Int) - 48)) = ((x - 48 : Nat) : Int) := by
  have e : IntKind.u8.wrap ((x : Int) - 48) = (x : Int) - 48 := by rw [IntKind.wrap_u8]; omega
  rw [e, IntKind.wrap_u64]; omega
theorem rfromUint_i (z : Int) (v : Nat) (w : World) (hz : z = v) (hv : v < 18446744073709551616) : Calls Tryd.prog 29 #[.int .u64 z] w (RetN v w) := by
  subst hz; exact rfromUint_any v w hv

end Go.Proofs.YtlflaalefilplaaDoor
namespace Go.Proofs.YtlflaalefilplaaDoor
open Go.RowKit
theorem nDigits_le : ∀ (k u : Nat), u < 10 ^ (k + 1) → Lib.nDigits u ≤ k + 1
  | 0, u, h => by rw [Lib.nDigits_small (by simpa using h)]; omega
  | k + 1, u, h => by
    by_cases hu : u < 10
    · rw [Lib.nDigits_small hu]; omega
    · rw [Nat.pow_succ] at h
      rw [Lib.nDigits_big hu]
      have := nDigits_le k (u / 10) (by omega)
      omega
theorem digits_bn {u n : Nat} (h : u < 4294967296 ^ n) : (Lib.decDigits u).length ≤ 10 * n + 1 := by
  rw [Lib.decDigits_length]
  apply nDigits_le (10 * n)
  have h1 : 4294967296 ^ n ≤ (10 ^ 10) ^ n := Nat.pow_le_pow_left (by decide) _
  rw [← Nat.pow_mul] at h1
  have h2 : 10 ^ (10 * n) ≤ 10 ^ (10 * n + 1) := Nat.pow_le_pow_right (by decide) (by omega)
  omega
theorem digits_bd {u n : Nat} (h : u < 4294967296 ^ n) (hn : n ≤ 1000) : (Lib.decDigits u).length ≤ 10001 := by
  have := digits_bn h
  omega
theorem conv_one (W : World) (d : Nat) (hd : d < 10) : (convert 79 9 (.slice (some ⟨W.heap.size, 0, none⟩) 1 1)).run Tryd.prog (W.alloc (.cells #[.int .u8 (48 + (d : Int))] 5)) =
    .ok (.string ⟨#[UInt8.ofNat (48 + d)]⟩) (W.alloc (.cells #[.int .u8 (48 + (d : Int))] 5)) := by
  refine run_convert_bytes_back (P := Tryd.prog) _ 79 9 5 ⟨W.heap.size, 0, none⟩ 1 [UInt8.ofNat (48 + d)] Tryd.underlying79 Tryd.underlying5 Tryd.underlying9 ?_
  intro j hj
  have hj0 : j = 0 := by simpa using hj
  subst hj0
  have : (⟨W.heap.size, 0, none⟩ : Addr).add 0 = ⟨W.heap.size, 0, none⟩ := rfl
  rw [this, cell_of_row _ W.heap.size 0 #[.int .u8 (48 + (d : Int))] 5 (0, 0) (heap_alloc_new W _)]
  have e : (UInt8.ofNat (48 + d)).toNat = 48 + d := by rw [UInt8.toNat_ofNat']; omega
  simp
  omega

set_option maxHeartbeats 2000000 in
theorem rformat_any (A : Option Addr) (n c : Nat) (xs : List Nat) (w : World) (h : Rd w A n c xs) (hn : n ≤ 1000) :
    Calls Tryd.prog 28 #[.slice A n c] w fun e w' => e = .returned (.string ⟨(Lib.decDigits (num xs)).toArray⟩) ∧ Below w.heap.size w w' := by
  obtain ⟨N, hN⟩ : ∃ N, num xs = N := ⟨_, rfl⟩
  have ht := take_any A n c xs w h (by omega)
  rw [hN] at ht ⊢
  obtain ⟨D, hD⟩ : ∃ D, Lib.decDigits N = D := ⟨_, rfl⟩
  rw [hD]
  have hDl : D.length ≤ 10001 := by
    rw [← hD]
    refine digits_bd (n := n) ?_ hn
    rw [← hN, ← h.len]
    exact num_lt h.sm
  replace hDl := Lib.hid hDl
  replace hD := Lib.hid hD
  replace ht := Lib.hid ht
  replace hN := Lib.hid hN
  replace h := Lib.hid h
  go_enter Tryd.func28, Tryd.ntmps28
  go_wp2_with (go_at_call 49; refine ht.out.mono ?_; rintro e w1 ⟨A1, n1, c1, rfl, R1, B1, l1⟩; refine Hid.out ?_)
  refine Lib.hid ?_
  replace R1 := Lib.hid R1
  replace B1 := Lib.hid B1
  go_wp2
  go_loopg [0, 3] N (fun x av sv wr => ∃ (m k : Nat) (A : Option Addr) (t : ByteArray), av = .slice A m k ∧ m ≤ 1000 ∧ Rd wr A m k (limbs x) ∧ sv = .string t ∧ D = Lib.decDigits x ++ t.data.toList ∧ D.length = (Lib.decDigits x).length + t.size ∧ Below w.heap.size w wr)
  case atStart => exact ⟨_, _, _, _, rfl, by omega, R1.out, rfl, by rw [← hD.out]; simp, by rw [← hD.out]; rfl, B1.out⟩
  case round =>
    obtain ⟨m, k, A2, t, rfl, hm, R, rfl, hdd, hts, hB⟩ := hrel
    have hx0 : (limbs (gk % 10)).getD 0 0 = gk % 10 := by
      rcases Nat.eq_zero_or_pos (gk % 10) with h0 | h0
      · rw [h0, limbs_zero]; rfl
      · rw [limbs_pos h0]; simp; omega
    have hdiv := fun (W : World) (A' : Option Addr) (h1 : Rd W A2 m k (limbs gk)) (h2 : Rd W A' 1 1 [10]) => rdiv_any A2 m k (limbs gk) A' 1 1 [10] W h1 h2 (by omega) (by omega) (by decide)
    rw [num_limbs, show num [10] = 10 from by decide] at hdiv
    replace R := Lib.hid R
    obtain ⟨d, hd⟩ : ∃ d, gk % 10 = d := ⟨_, rfl⟩
    have hd10 : d < 10 := by omega
    rw [hd] at hx0
    replace hd := Lib.hid hd
    replace hB := Lib.hid hB
    replace hdd := Lib.hid hdd
    replace hts := Lib.hid hts
    replace hdiv := Lib.hid hdiv
    replace hx0 := Lib.hid hx0
    go_wp2_with (first
      | (go_at_call 50; refine (hdiv.out _ _ (R.out.alloc _) (lit1 _ _ _ _ rfl rfl (by omega))).mono ?_; rintro e w2 ⟨Aq, nq, cq, Ar, nr, cr, rfl, Q2, R2, B2⟩; refine Hid.out ?_))
    refine Lib.hid ?_
    have hB2 := Lib.hid ((hB.out.alloc hB.out.size _).trans (B2.mono (by have := hB.out.size; simp; omega)))
    clear B2
    rw [hd.out] at R2
    replace Q2 := Lib.hid Q2
    have hnr : nr ≤ 100000 := by
      have := len_of_lt (x := d) (n := 1) (by omega)
      rw [R2.len] at this; omega
    replace R2 := Lib.hid R2
    go_wp2_with (first
      | (go_at_call 51; refine (limb_any Ar nr cr (limbs d) _ 0 0 d R2.out hnr rfl hx0.out).mono ?_; rintro e w3 ⟨rfl, rfl⟩; refine Hid.out ?_))
    refine Lib.hid ?_
    clear hdiv hx0
    have hconv := conv_one w2 d hd10
    obtain ⟨cb, hcb⟩ : ∃ cb, UInt8.ofNat (48 + d) = cb := ⟨_, rfl⟩
    rw [hcb] at hconv
    replace hcb := Lib.hid hcb
    have hsz : ((⟨#[cb]⟩ : ByteArray) ++ t).size ≤ 20000 := by
      have := hts.out
      have := hDl.out
      rw [ByteArray.size_append]
      show 1 + t.size ≤ 20000
      omega
    replace hsz := Lib.hid hsz
    have hts2 : t.size ≤ 10001 := by have := hts.out; have := hDl.out; omega
    replace hts2 := Lib.hid hts2
    have hts3 : ¬ 9223372036854775807 < 1 + t.size := by have := hts2.out; omega
    have hB4 := Lib.hid (hB2.out.alloc hB2.out.size (.cells #[Value.int IntKind.u8 (48 + (d : Int))] 5))
    have hQ4 := Lib.hid (Q2.out.alloc (.cells #[Value.int IntKind.u8 (48 + (d : Int))] 5))
    have hstr : ((⟨#[cb]⟩ : ByteArray) ++ t).data.toList = cb :: t.data.toList := by rw [ByteArray.data_append]; simp
    replace hstr := Lib.hid hstr
    by_cases hq : gk / 10 = 0
    · have hn0 : nq = 0 := by rw [← Q2.out.len, hq, limbs_zero]; rfl
      subst hn0
      have hfin : (⟨#[cb]⟩ : ByteArray) ++ t = ⟨D.toArray⟩ := by
        apply ByteArray.ext
        apply Array.toList_inj.1
        rw [hstr.out, hdd.out, Lib.decDigits_one (by omega), show gk = d by have := hd.out; omega, hcb.out]
        simp
      replace hfin := Lib.hid hfin
      clear hq
      go_wp2
      go_ret
      exact ⟨by rw [← hfin.out]; rfl, hB4.out⟩
    · have hnq : ((nq : Int) == 0) = false := by
        rw [beq_eq_false_iff_ne]
        intro h
        have h1 := Q2.out.len
        have h2 : nq = 0 := by omega
        rw [h2] at h1
        have h3 := congrArg val (List.eq_nil_of_length_eq_zero h1)
        rw [val_limbs] at h3
        exact hq h3
      have hlt : gk / 10 < gk := by omega
      have hdec : D = Lib.decDigits (gk / 10) ++ ((⟨#[cb]⟩ : ByteArray) ++ t).data.toList := by
        rw [hstr.out, hdd.out, Lib.decDigits, dif_neg (by omega), hd.out, hcb.out, List.append_assoc]; rfl
      have hlen : D.length = (Lib.decDigits (gk / 10)).length + ((⟨#[cb]⟩ : ByteArray) ++ t).size := by
        rw [← toList_len, hdec, List.length_append]
      have hnq2 : nq ≤ 1000 := by
        have h1 := Q2.out.len
        have h2 := len_le (x := gk) (y := gk / 10) (by omega)
        rw [R.out.len] at h2
        omega
      replace hdec := Lib.hid hdec
      replace hlen := Lib.hid hlen
      replace hlt := Lib.hid hlt
      clear hq
      go_wp2
      go_roundg (gk / 10)
      case measure => exact hlt.out
      case rel => exact ⟨_, _, _, _, rfl, hnq2, hQ4.out, rfl, hdec.out, hlen.out, hB4.out⟩
end Go.Proofs.YtlflaalefilplaaDoor
