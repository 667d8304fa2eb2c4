/- Lists of limbs of 32 bits and the numbers that they stand for: plain lemmas; no program. -/
namespace Go.Proofs.Ytpafgkggkgmamaa

/-- The value of a list of limbs of 32 bits, the least significant one first. -/
def val : List Nat → Nat
  | [] => 0
  | x :: r => x + 4294967296 * val r

/-- Whether the last limb, if there is one, is not 0. -/
def vldB (xs : List Nat) : Bool := xs.length == 0 || !(xs.getD (xs.length - 1) 0 == 0)

/-- The number that a list of limbs counts as. -/
def num (xs : List Nat) : Nat := if vldB xs then val xs else 0

/-- Every limb fits into 32 bits. -/
def Sm (xs : List Nat) : Prop := ∀ x ∈ xs, x < 4294967296

/-- The limbs of a number. -/
def limbs (n : Nat) : List Nat := if h : n = 0 then [] else (n % 4294967296) :: limbs (n / 4294967296)
termination_by n
decreasing_by omega

theorem limbs_zero : limbs 0 = [] := by rw [limbs]; simp
theorem limbs_pos {n : Nat} (h : 0 < n) : limbs n = (n % 4294967296) :: limbs (n / 4294967296) := by rw [limbs, dif_neg (by omega)]

theorem val_limbs (n : Nat) : val (limbs n) = n := by
  induction n using Nat.strongRecOn with
  | ind n ih =>
    by_cases h : n = 0
    · subst h; rw [limbs_zero]; rfl
    · rw [limbs_pos (by omega), val, ih _ (by omega)]; omega

theorem sm_limbs (n : Nat) : Sm (limbs n) := by
  induction n using Nat.strongRecOn with
  | ind n ih =>
    by_cases h : n = 0
    · subst h; rw [limbs_zero]; intro x hx; simp at hx
    · rw [limbs_pos (by omega)]
      intro x hx
      rcases List.mem_cons.1 hx with rfl | hx
      · omega
      · exact ih _ (by omega) x hx

theorem vldB_nil : vldB [] = true := rfl
theorem vldB_one (x : Nat) : vldB [x] = !(x == 0) := by simp [vldB]
theorem vldB_cons (x y : Nat) (r : List Nat) : vldB (x :: y :: r) = vldB (y :: r) := by
  simp [vldB]

theorem vldB_limbs (n : Nat) : vldB (limbs n) = true := by
  induction n using Nat.strongRecOn with
  | ind n ih =>
    by_cases h : n = 0
    · subst h; rw [limbs_zero]; rfl
    · rw [limbs_pos (by omega)]
      by_cases h2 : n / 4294967296 = 0
      · rw [h2, limbs_zero, vldB_one]; simp; omega
      · have := ih (n / 4294967296) (by omega)
        rw [limbs_pos (by omega)] at this ⊢
        rw [vldB_cons]; exact this

theorem val_pos : ∀ {xs : List Nat}, vldB xs = true → xs ≠ [] → 0 < val xs
  | [], _, h => absurd rfl h
  | [x], h, _ => by rw [vldB_one] at h; simp at h; simp [val]; omega
  | x :: y :: r, h, _ => by
    rw [vldB_cons] at h
    have := val_pos h (by simp)
    rw [val]; omega

theorem limbs_val : ∀ {xs : List Nat}, Sm xs → vldB xs = true → limbs (val xs) = xs
  | [], _, _ => limbs_zero
  | [x], hs, h => by
    rw [vldB_one] at h; simp at h
    have := hs x (by simp)
    show limbs (x + 4294967296 * 0) = [x]
    rw [limbs_pos (by omega), show (x + 4294967296 * 0) / 4294967296 = 0 by omega, limbs_zero, show (x + 4294967296 * 0) % 4294967296 = x by omega]
  | x :: y :: r, hs, h => by
    have hx := hs x (by simp)
    rw [vldB_cons] at h
    have ih := limbs_val (xs := y :: r) (fun z hz => hs z (by simp at hz ⊢; right; exact hz)) h
    have hp := val_pos h (by simp)
    rw [val, limbs_pos (by omega), show (x + 4294967296 * val (y :: r)) / 4294967296 = val (y :: r) by omega, show (x + 4294967296 * val (y :: r)) % 4294967296 = x by omega, ih]

theorem num_limbs (n : Nat) : num (limbs n) = n := by rw [num, vldB_limbs, if_pos rfl, val_limbs]
theorem num_of_vld {xs : List Nat} (h : vldB xs = true) : num xs = val xs := by rw [num, if_pos h]

theorem limbs_inj {a b : Nat} (h : limbs a = limbs b) : a = b := by rw [← val_limbs a, h, val_limbs]

theorem val_append (xs ys : List Nat) : val (xs ++ ys) = val xs + 4294967296 ^ xs.length * val ys := by
  induction xs with
  | nil => simp [val]
  | cons x r ih => simp only [List.cons_append, val, ih, List.length_cons, Nat.pow_succ]; rw [Nat.mul_add]; rw [Nat.mul_comm (4294967296 ^ r.length) 4294967296, Nat.mul_assoc]; omega

theorem val_lt {xs : List Nat} (h : Sm xs) : val xs < 4294967296 ^ xs.length := by
  induction xs with
  | nil => simp [val]
  | cons x r ih =>
    have hx := h x (by simp)
    have := ih (fun z hz => h z (by simp [hz]))
    simp only [val, List.length_cons, Nat.pow_succ]
    omega

theorem val_snoc (xs : List Nat) (x : Nat) : val (xs ++ [x]) = val xs + 4294967296 ^ xs.length * x := by
  rw [val_append]; simp [val]

theorem val_take_succ (xs : List Nat) (k : Nat) (h : k < xs.length) : val (xs.take (k + 1)) = val (xs.take k) + 4294967296 ^ k * xs.getD k 0 := by
  rw [List.take_succ_eq_append_getElem h, val_snoc, List.length_take, Nat.min_eq_left (by omega)]
  simp [List.getD, List.getElem?_eq_getElem h]

/-- Beyond the end nothing is added. -/
theorem val_take_succ_any (xs : List Nat) (k : Nat) : val (xs.take (k + 1)) = val (xs.take k) + 4294967296 ^ k * xs.getD k 0 := by
  by_cases h : k < xs.length
  · exact val_take_succ xs k h
  · rw [List.take_of_length_le (by omega), List.take_of_length_le (by omega)]
    simp [List.getD, List.getElem?_eq_none (show xs.length ≤ k by omega)]

theorem val_ge {xs : List Nat} (h : vldB xs = true) (hn : 0 < xs.length) : 4294967296 ^ (xs.length - 1) ≤ val xs := by
  have e : xs = xs.take (xs.length - 1) ++ [xs.getD (xs.length - 1) 0] := by
    have := List.take_succ_eq_append_getElem (l := xs) (i := xs.length - 1) (by omega)
    rw [show xs.length - 1 + 1 = xs.length by omega, List.take_length] at this
    rw [List.getD_eq_getElem?_getD, List.getElem?_eq_getElem (by omega)]
    exact this
  have h0 : xs.getD (xs.length - 1) 0 ≠ 0 := by
    unfold vldB at h; simp at h; rcases h with h | h
    · subst h; simp at hn
    · simpa using h
  rw [e, val_snoc, ← e, List.length_take, Nat.min_eq_left (by omega)]
  have := Nat.mul_le_mul_left (4294967296 ^ (xs.length - 1)) (show 1 ≤ xs.getD (xs.length - 1) 0 by omega)
  omega

/-- How many limbs stay when zeros at the end are cut off, out of the first k. -/
def tl (xs : List Nat) : Nat → Nat
  | 0 => 0
  | k + 1 => if xs.getD k 0 = 0 then tl xs k else k + 1

theorem tl_le (xs : List Nat) (k : Nat) : tl xs k ≤ k := by
  induction k with
  | zero => simp [tl]
  | succ k ih => unfold tl; split <;> omega

theorem tl_val (xs : List Nat) (k : Nat) : val (xs.take (tl xs k)) = val (xs.take k) := by
  induction k with
  | zero => simp [tl]
  | succ k ih =>
    unfold tl
    split
    · rename_i h; rw [ih, val_take_succ_any, h]; omega
    · rfl

theorem tl_vld (xs : List Nat) (k : Nat) (h : k ≤ xs.length) : vldB (xs.take (tl xs k)) = true := by
  induction k with
  | zero => simp [tl, vldB]
  | succ k ih =>
    unfold tl
    split
    · exact ih (by omega)
    · rename_i h0
      unfold vldB
      rw [List.length_take, Nat.min_eq_left h]
      simp at h0 ⊢
      exact h0

theorem sm_take {xs : List Nat} (h : Sm xs) (k : Nat) : Sm (xs.take k) := fun x hx => h x (List.mem_of_mem_take hx)
theorem sm_drop {xs : List Nat} (h : Sm xs) (k : Nat) : Sm (xs.drop k) := fun x hx => h x (List.mem_of_mem_drop hx)
theorem sm_set {xs : List Nat} (h : Sm xs) (k x : Nat) (hx : x < 4294967296) : Sm (xs.set k x) := by
  intro y hy
  rcases List.mem_or_eq_of_mem_set hy with hy | rfl
  · exact h y hy
  · exact hx
theorem sm_replicate (k : Nat) : Sm (List.replicate k 0) := by
  intro x hx; rw [List.eq_of_mem_replicate hx]; omega
theorem sm_get {xs : List Nat} (h : Sm xs) (k : Nat) : xs.getD k 0 < 4294967296 := by
  by_cases hk : k < xs.length
  · rw [List.getD_eq_getElem?_getD, List.getElem?_eq_getElem hk]; exact h _ (List.getElem_mem hk)
  · rw [List.getD_eq_getElem?_getD, List.getElem?_eq_none (by omega)]; simp
theorem sm_nil : Sm [] := by intro x hx; simp at hx

/-- Trimming gives the limbs of the value. -/
theorem tl_limbs {xs : List Nat} (h : Sm xs) (k : Nat) (hk : k ≤ xs.length) : xs.take (tl xs k) = limbs (val (xs.take k)) := by
  rw [← tl_val, limbs_val (sm_take h _) (tl_vld xs k hk)]

/-- What 'known' makes of a list. -/
def kn (xs : List Nat) : List Nat := if vldB xs then xs else []
theorem kn_limbs {xs : List Nat} (h : Sm xs) : kn xs = limbs (num xs) := by
  unfold kn num
  split
  · rename_i hv; rw [limbs_val h hv]
  · rw [limbs_zero]
theorem sm_kn {xs : List Nat} (h : Sm xs) : Sm (kn xs) := by unfold kn; split; exact h; exact sm_nil

theorem limbs_len_le {n k : Nat} : (limbs n).length ≤ k ↔ n < 4294967296 ^ k := by
  constructor
  · intro h
    have := val_lt (sm_limbs n)
    rw [val_limbs] at this
    exact Nat.lt_of_lt_of_le this (Nat.pow_le_pow_right (by omega) h)
  · intro h
    rcases Nat.lt_or_ge k (limbs n).length with hk | hk
    · have := val_ge (vldB_limbs n) (by omega)
      rw [val_limbs] at this
      have h2 : 4294967296 ^ k ≤ 4294967296 ^ ((limbs n).length - 1) := Nat.pow_le_pow_right (by omega) (by omega)
      omega
    · exact hk

theorem num_lt {xs : List Nat} (h : Sm xs) : num xs < 4294967296 ^ xs.length := by
  unfold num; split
  · exact val_lt h
  · exact Nat.pow_pos (by omega)

theorem take_set_succ (zs : List Nat) (k v : Nat) (h : k < zs.length) : val ((zs.set k v).take (k + 1)) = val (zs.take k) + 4294967296 ^ k * v := by
  rw [val_take_succ _ _ (by simpa using h), List.take_set_of_le (Nat.le_refl _)]
  congr 2
  simp [List.getD, h]

theorem pow_mul_succ (k a : Nat) : 4294967296 ^ (k + 1) * a = 4294967296 ^ k * (4294967296 * a) := by
  rw [Nat.pow_succ, Nat.mul_assoc]

theorem add_step {zs X Y : List Nat} {k cy x y : Nat} (hk : k < zs.length) (h : val (zs.take k) + 4294967296 ^ k * cy = val (X.take k) + val (Y.take k))
    (hx : X.getD k 0 = x) (hy : Y.getD k 0 = y) :
    val ((zs.set k ((cy + x + y) % 4294967296)).take (k + 1)) + 4294967296 ^ (k + 1) * ((cy + x + y) / 4294967296) = val (X.take (k + 1)) + val (Y.take (k + 1)) := by
  rw [take_set_succ _ _ _ hk, val_take_succ_any X, val_take_succ_any Y, hx, hy, pow_mul_succ, Nat.add_assoc, ← Nat.mul_add]
  have e : (cy + x + y) % 4294967296 + 4294967296 * ((cy + x + y) / 4294967296) = cy + x + y := Nat.mod_add_div _ _
  rw [e, Nat.mul_add, Nat.mul_add]
  omega

theorem add_last {zs X Y : List Nat} {k cy : Nat} (hl : zs.length = k + 1) (h : val (zs.take k) + 4294967296 ^ k * cy = val (X.take k) + val (Y.take k))
    (hX : X.length ≤ k) (hY : Y.length ≤ k) : val (zs.set k cy) = val X + val Y := by
  have := take_set_succ zs k cy (by omega)
  rw [h, List.take_of_length_le (by rw [List.length_set]; omega), List.take_of_length_le hX, List.take_of_length_le hY] at this
  exact this

theorem getD_none {X : List Nat} {k : Nat} (h : X.length ≤ k) : X.getD k 0 = 0 := by
  rw [List.getD_eq_getElem?_getD, List.getElem?_eq_none h]; rfl

theorem val_take_all {X : List Nat} {k : Nat} (h : X.length ≤ k) : val (X.take k) = val X := by rw [List.take_of_length_le h]

theorem limbs_of {zs : List Nat} (n : Nat) (h : val zs = n) : limbs (val zs) = limbs n := by rw [h]

theorem drop_get {X : List Nat} {j : Nat} (h : j < X.length) : X.drop j = X.getD j 0 :: X.drop (j + 1) := by
  rw [List.drop_eq_getElem_cons h, List.getD_eq_getElem?_getD, List.getElem?_eq_getElem h]; rfl

theorem drop_same {X Y : List Nat} {j : Nat} (hX : j < X.length) (hY : j < Y.length) (h : X.drop (j + 1) = Y.drop (j + 1)) (he : X.getD j 0 = Y.getD j 0) : X.drop j = Y.drop j := by
  rw [drop_get hX, drop_get hY, h, he]

theorem val_split (X : List Nat) (k : Nat) (h : k ≤ X.length) : val X = val (X.take k) + 4294967296 ^ k * val (X.drop k) := by
  have := val_append (X.take k) (X.drop k)
  rw [List.take_append_drop, List.length_take, Nat.min_eq_left h] at this
  exact this

theorem lt_at {X Y : List Nat} {j : Nat} (hX : j < X.length) (hY : j < Y.length) (h : X.drop (j + 1) = Y.drop (j + 1)) (hs : Sm X) (hlt : X.getD j 0 < Y.getD j 0) : val X < val Y := by
  rw [val_split X j (by omega), val_split Y j (by omega), drop_get hX, drop_get hY, h, val, val]
  have := val_lt (sm_take hs j)
  rw [List.length_take, Nat.min_eq_left (by omega)] at this
  have h2 : 4294967296 ^ j * (X.getD j 0 + 4294967296 * val (Y.drop (j + 1)) + 1) ≤ 4294967296 ^ j * (Y.getD j 0 + 4294967296 * val (Y.drop (j + 1))) := Nat.mul_le_mul_left _ (by omega)
  rw [Nat.mul_add _ _ 1] at h2
  omega

theorem lt_len {x y : Nat} (h : (limbs x).length < (limbs y).length) : x < y := by
  have h1 := (limbs_len_le (n := x) (k := (limbs x).length)).1 (Nat.le_refl _)
  have h2 := mt (limbs_len_le (n := y) (k := (limbs x).length)).2 (by omega)
  omega

theorem drop_step {zs X : List Nat} {k : Nat} (h : zs.drop k = X.drop k) (hz : k < zs.length) (hX : k < X.length) : zs.getD k 0 = X.getD k 0 ∧ zs.drop (k + 1) = X.drop (k + 1) := by
  have e1 := drop_get hz
  have e2 := drop_get hX
  rw [h, e2] at e1
  injection e1 with a b
  exact ⟨a.symm, b.symm⟩

theorem drop_set_succ (zs : List Nat) (k v : Nat) : (zs.set k v).drop (k + 1) = zs.drop (k + 1) := by
  rw [List.drop_set_of_lt (by omega)]

theorem sub_step {zs X Y : List Nat} {k br b' x y d : Nat} (hk : k < zs.length) (h : val (zs.take k) + val (Y.take k) = val (X.take k) + 4294967296 ^ k * br)
    (hx : X.getD k 0 = x) (hy : Y.getD k 0 = y) (hd : d + y + br = x + 4294967296 * b') :
    val ((zs.set k d).take (k + 1)) + val (Y.take (k + 1)) = val (X.take (k + 1)) + 4294967296 ^ (k + 1) * b' := by
  rw [take_set_succ _ _ _ hk, val_take_succ_any X, val_take_succ_any Y, hx, hy, pow_mul_succ]
  have e : 4294967296 ^ k * (d + y + br) = 4294967296 ^ k * (x + 4294967296 * b') := by rw [hd]
  rw [Nat.mul_add, Nat.mul_add, Nat.mul_add] at e
  omega

theorem len_le {x y : Nat} (h : y ≤ x) : (limbs y).length ≤ (limbs x).length := by
  rcases Nat.lt_or_ge (limbs x).length (limbs y).length with hl | hl
  · have := lt_len hl; omega
  · exact hl

theorem sub_last {zs : List Nat} {x y k br : Nat} (hl : zs.length = k) (hs : Sm zs) (h : val (zs.take k) + val ((limbs y).take k) = val ((limbs x).take k) + 4294967296 ^ k * br)
    (hX : (limbs x).length = k) (hle : y ≤ x) : val zs = x - y := by
  have hY := len_le hle
  rw [List.take_of_length_le (by omega), List.take_of_length_le (by omega), List.take_of_length_le (by omega), val_limbs, val_limbs] at h
  have hv := val_lt hs
  rw [hl] at hv
  rcases Nat.eq_zero_or_pos br with h0 | h0
  · subst h0; omega
  · have := Nat.mul_le_mul_left (4294967296 ^ k) h0
    omega

theorem sub_limb (x br y : Nat) (hx : x < 4294967296) (hbr : br ≤ 1) (hy : y < 4294967296) :
    ∃ d b' : Nat, d < 4294967296 ∧ b' ≤ 1 ∧ d + y + br = x + 4294967296 * b' ∧
      (((x : Int) - br) % 18446744073709551616 - y) % 18446744073709551616 / 9223372036854775808 = (b' : Int) ∧
      (((x : Int) - br) % 18446744073709551616 - y) % 18446744073709551616 % 4294967296 = (d : Int) := by
  by_cases h : br + y ≤ x
  · exact ⟨x - br - y, 0, by omega, by omega, by omega, by omega, by omega⟩
  · exact ⟨x + 4294967296 - br - y, 1, by omega, by omega, by omega, by omega, by omega⟩

theorem val_set (zs : List Nat) (i v : Nat) (h : i < zs.length) : val (zs.set i v) + 4294967296 ^ i * zs.getD i 0 = val zs + 4294967296 ^ i * v := by
  have e1 := val_split zs (i + 1) (by omega)
  have e2 := val_split (zs.set i v) (i + 1) (by rw [List.length_set]; omega)
  rw [take_set_succ _ _ _ h, drop_set_succ] at e2
  rw [val_take_succ _ _ h] at e1
  omega

theorem getD_set (zs : List Nat) (i v : Nat) (h : i < zs.length) : (zs.set i v).getD i 0 = v := by
  rw [List.getD_eq_getElem?_getD, List.getElem?_set_self h]; rfl

theorem mul_step {zs zs' ys : List Nat} {o k cy x y s t : Nat} (hk : o + k < zs'.length) (h : val zs' + 4294967296 ^ (o + k) * cy = val zs + 4294967296 ^ o * (x * val (ys.take k)))
    (hs : zs'.getD (o + k) 0 = s) (hy : ys.getD k 0 = y) (ht : t = cy + (x * y + s)) :
    val (zs'.set (o + k) (t % 4294967296)) + 4294967296 ^ (o + (k + 1)) * (t / 4294967296) = val zs + 4294967296 ^ o * (x * val (ys.take (k + 1))) := by
  have e := val_set zs' (o + k) (t % 4294967296) hk
  rw [hs] at e
  have e2 : t % 4294967296 + 4294967296 * (t / 4294967296) = cy + (x * y + s) := by rw [← ht]; exact Nat.mod_add_div _ _
  have e3 : 4294967296 ^ (o + k) * (t % 4294967296 + 4294967296 * (t / 4294967296)) = 4294967296 ^ (o + k) * (cy + (x * y + s)) := by rw [e2]
  rw [show o + (k + 1) = o + k + 1 by omega, pow_mul_succ, val_take_succ_any, hy]
  rw [Nat.mul_add, Nat.mul_add, Nat.mul_add] at e3
  have e4 : 4294967296 ^ o * (x * (val (ys.take k) + 4294967296 ^ k * y)) = 4294967296 ^ o * (x * val (ys.take k)) + 4294967296 ^ (o + k) * (x * y) := by
    rw [Nat.mul_add, Nat.mul_add, Nat.pow_add]
    congr 1
    rw [Nat.mul_left_comm x, Nat.mul_assoc]
  rw [e4]
  omega

theorem take_set_low (zs : List Nat) {o i : Nat} (v : Nat) (h : o ≤ i) : (zs.set i v).take o = zs.take o := by
  rw [List.take_set_of_le h]

theorem mul_bd {x y : Nat} (hx : x < 4294967296) (hy : y < 4294967296) : x * y ≤ 18446744065119617025 := by
  have := Nat.mul_le_mul (show x ≤ 4294967295 by omega) (show y ≤ 4294967295 by omega)
  omega

theorem drop_step' {zs X : List Nat} {k : Nat} (h : zs.drop k = X.drop k) : zs.drop (k + 1) = X.drop (k + 1) := by
  have := congrArg (List.drop 1) h
  rw [List.drop_drop, List.drop_drop] at this
  exact this

theorem val_zeros (n : Nat) : val (List.replicate n 0) = 0 := by
  induction n with
  | zero => rfl
  | succ n ih => rw [List.replicate_succ, val, ih]

theorem getD_drop_zero {zs : List Nat} {k n : Nat} (h : zs.drop k = List.replicate n 0) : zs.getD k 0 = 0 := by
  have := congrArg (fun l => l.getD 0 0) h
  simp only [List.getD_eq_getElem?_getD, List.getElem?_drop, Nat.add_zero] at this
  rw [List.getD_eq_getElem?_getD, this]
  cases n <;> simp

theorem take_step {zs X : List Nat} {j : Nat} (h : zs.take (j + 1) = X.take (j + 1)) : zs.getD j 0 = X.getD j 0 ∧ zs.take j = X.take j := by
  constructor
  · have := congrArg (fun l => l.getD j 0) h
    simpa using this
  · have := congrArg (List.take j) h
    rw [List.take_take, List.take_take, Nat.min_eq_left (by omega)] at this
    exact this

theorem drop_set_self {zs : List Nat} {j q : Nat} (h : j < zs.length) : (zs.set j q).drop j = q :: zs.drop (j + 1) := by
  rw [drop_get (by rw [List.length_set]; exact h), getD_set _ _ _ h, drop_set_succ]

theorem div_step {zs zs' : List Nat} {j b rest x t : Nat} (hl : j < zs'.length) (hl2 : j < zs.length) (h : val (zs'.drop (j + 1)) * b + rest = val (zs.drop (j + 1)))
    (hx : zs.getD j 0 = x) (ht : t = rest * 4294967296 + x) : val ((zs'.set j (t / b)).drop j) * b + t % b = val (zs.drop j) := by
  rw [drop_set_self hl, drop_get hl2, val, val, hx, ← h, Nat.add_mul]
  have e : t / b * b + t % b = t := Nat.div_add_mod' t b
  rw [Nat.mul_add, Nat.mul_assoc]
  omega

theorem quo_bd {rest b x t : Nat} (hr : rest < b) (hx : x < 4294967296) (ht : t = rest * 4294967296 + x) : t / b < 4294967296 := by
  rw [Nat.div_lt_iff_lt_mul (by omega)]
  have := Nat.mul_le_mul_left 4294967296 (show rest + 1 ≤ b by omega)
  omega

theorem pow_limb (i : Nat) : 4294967296 ^ i = 2 ^ (32 * i) := by
  rw [Nat.pow_mul]

theorem pow_split (k : Nat) : 4294967296 ^ (k / 32) * 2 ^ (k % 32) = 2 ^ k := by
  rw [pow_limb, ← Nat.pow_add]
  congr 1
  omega

theorem pow_list (k : Nat) : (List.replicate (k / 32 + 1) 0).set (k / 32) (2 ^ (k % 32)) = limbs (2 ^ k) := by
  have hp : 2 ^ (k % 32) < 4294967296 := Nat.lt_of_le_of_lt (Nat.pow_le_pow_right (by omega) (show k % 32 ≤ 31 by omega)) (by decide)
  have hv := val_set (List.replicate (k / 32 + 1) 0) (k / 32) (2 ^ (k % 32)) (by simp)
  rw [val_zeros, pow_split, Nat.zero_add] at hv
  have hz : (List.replicate (k / 32 + 1) 0).getD (k / 32) 0 = 0 := by simp [List.getD]
  rw [hz, Nat.mul_zero, Nat.add_zero] at hv
  rw [← hv, limbs_val (sm_set (sm_replicate _) _ _ hp)]
  unfold vldB
  rw [List.length_set, List.length_replicate, Nat.add_sub_cancel, getD_set _ _ _ (by simp)]
  have := Nat.pow_pos (n := k % 32) (show 0 < 2 by omega)
  simp

theorem shr_math (x low V p q : Nat) (hB : p * q = 4294967296) (hp : 0 < p) (hx : x < 4294967296) (hlow : low = V % 4294967296) :
    (low * 4294967296 + x) / p % 4294967296 + 4294967296 * (V / p) = (x + 4294967296 * V) / p := by
  obtain ⟨U, hU⟩ : ∃ U, V = low + 4294967296 * U := ⟨V / 4294967296, by omega⟩
  have e1 : (low * 4294967296 + x) / p = q * low + x / p := by
    rw [← hB, show low * (p * q) + x = x + p * (q * low) by rw [Nat.mul_comm low, Nat.mul_assoc, Nat.add_comm], Nat.add_mul_div_left _ _ hp, Nat.add_comm]
  have e2 : (x + 4294967296 * V) / p = x / p + q * V := by
    rw [← hB, Nat.mul_assoc, Nat.add_mul_div_left _ _ hp]
  have e3 : V / p = low / p + q * U := by
    rw [hU, ← hB, Nat.mul_assoc, Nat.add_mul_div_left _ _ hp]
  have e4 : low = p * (low / p) + low % p := (Nat.div_add_mod low p).symm
  have hr : low % p < p := Nat.mod_lt _ hp
  have hxp : x / p < q := by rw [Nat.div_lt_iff_lt_mul hp, Nat.mul_comm, hB]; exact hx
  have e5 : q * low = 4294967296 * (low / p) + q * (low % p) := by
    have : q * low = q * (p * (low / p) + low % p) := by rw [← e4]
    rw [this, Nat.mul_add, ← Nat.mul_assoc, Nat.mul_comm q p, hB]
  have h6 : q * (low % p) + x / p < 4294967296 := by
    have := Nat.mul_le_mul_left q (show low % p + 1 ≤ p by omega)
    rw [Nat.mul_comm q p, hB, Nat.mul_add] at this
    omega
  rw [e1, e2, e3, hU, Nat.mul_add, Nat.mul_add, e5]
  have e7 : q * (4294967296 * U) = 4294967296 * (q * U) := Nat.mul_left_comm _ _ _
  rw [e7, Nat.add_assoc, Nat.mul_add_mod]
  rw [Nat.mod_eq_of_lt h6]
  omega

theorem low_mod {zs : List Nat} {k low : Nat} (hs : Sm zs) (h : low = zs.getD k 0) : low = val (zs.drop k) % 4294967296 := by
  by_cases hk : k < zs.length
  · rw [drop_get hk, val, ← h]
    have := sm_get hs k
    omega
  · rw [List.drop_of_length_le (by omega), h, getD_none (by omega)]; rfl

theorem two_pow_32 {s : Nat} (hs : s < 32) : 2 ^ s * 2 ^ (32 - s) = 4294967296 := by
  rw [← Nat.pow_add, show s + (32 - s) = 32 by omega]

theorem shr_step {zs zs' : List Nat} {j low x t s : Nat} (hl : j < zs'.length) (hl2 : j < zs.length) (hs : s < 32) (hsm : Sm zs) (h : val (zs'.drop (j + 1)) = val (zs.drop (j + 1)) / 2 ^ s)
    (hlow : low = zs.getD (j + 1) 0) (hx : zs.getD j 0 = x) (ht : t = low * 4294967296 + x) : val ((zs'.set j (t / 2 ^ s % 4294967296)).drop j) = val (zs.drop j) / 2 ^ s := by
  rw [drop_set_self hl, drop_get hl2, val, val, hx, h, ht]
  exact shr_math x low _ _ _ (two_pow_32 hs) (Nat.pow_pos (by omega)) (by rw [← hx]; exact sm_get hsm j) (low_mod hsm hlow)

theorem trim_take {xs : List Nat} (hs : Sm xs) : limbs (val xs) = xs.take (limbs (val xs)).length := by
  have h := tl_limbs hs xs.length (Nat.le_refl _)
  rw [List.take_length] at h
  have hl := congrArg List.length h
  rw [List.length_take, Nat.min_eq_left (tl_le _ _)] at hl
  rw [← hl]
  exact h.symm

/-- The integer part of the square root. -/
def isq : Nat → Nat
  | 0 => 0
  | n + 1 => if (isq n + 1) * (isq n + 1) ≤ n + 1 then isq n + 1 else isq n

theorem isq_spec (x : Nat) : isq x * isq x ≤ x ∧ x < (isq x + 1) * (isq x + 1) := by
  induction x with
  | zero => simp [isq]
  | succ n ih =>
    unfold isq
    split
    · rename_i h
      refine ⟨h, ?_⟩
      have e : (isq n + 1 + 1) * (isq n + 1 + 1) = (isq n + 1) * (isq n + 1) + 2 * isq n + 3 := by
        rw [Nat.add_mul, Nat.mul_add, Nat.mul_add]; omega
      omega
    · rename_i h; omega

theorem sq_mono {a b : Nat} (h : a ≤ b) : a * a ≤ b * b := Nat.mul_le_mul h h

theorem isq_unique {x r : Nat} (h1 : r * r ≤ x) (h2 : x < (r + 1) * (r + 1)) : isq x = r := by
  obtain ⟨a, b⟩ := isq_spec x
  rcases Nat.lt_trichotomy (isq x) r with h | h | h
  · have := sq_mono (show isq x + 1 ≤ r by omega); omega
  · exact h
  · have := sq_mono (show r + 1 ≤ isq x by omega); omega

theorem isq_le_of {x r : Nat} (h : x < (r + 1) * (r + 1)) : isq x ≤ r := by
  obtain ⟨a, b⟩ := isq_spec x
  rcases Nat.lt_or_ge r (isq x) with hl | hl
  · have := sq_mono (show r + 1 ≤ isq x by omega); omega
  · exact hl

theorem am_gm {a d r : Nat} (h : 2 * a = r + d) : d * r ≤ a * a := by
  rcases Nat.le_total r a with h1 | h1
  · obtain ⟨u, rfl⟩ : ∃ u, a = r + u := ⟨a - r, by omega⟩
    obtain rfl : d = r + 2 * u := by omega
    have e1 : (r + 2 * u) * r = r * r + 2 * (u * r) := by rw [Nat.add_mul, Nat.mul_assoc]
    have e2 : (r + u) * (r + u) = r * r + 2 * (u * r) + u * u := by rw [Nat.add_mul, Nat.mul_add, Nat.mul_add, Nat.mul_comm r u]; omega
    omega
  · obtain ⟨u, rfl⟩ : ∃ u, r = a + u := ⟨r - a, by omega⟩
    obtain rfl : a = d + u := by omega
    have e1 : d * (d + u + u) = d * d + 2 * (d * u) := by rw [Nat.mul_add, Nat.mul_add]; omega
    have e2 : (d + u) * (d + u) = d * d + 2 * (d * u) + u * u := by rw [Nat.add_mul, Nat.mul_add, Nat.mul_add, Nat.mul_comm u d]; omega
    omega

/-- Newton's step stays above the root. -/
theorem newton_ge {x r : Nat} (hr : 0 < r) : isq x ≤ (r + x / r) / 2 := by
  obtain ⟨a, _⟩ := isq_spec x
  have h3 : ∀ d, d * r ≤ x → d ≤ x / r := fun d hd => (Nat.le_div_iff_mul_le hr).2 hd
  generalize x / r = q at h3 ⊢
  have h : 2 * isq x ≤ r + q := by
    rcases Nat.lt_or_ge r (2 * isq x) with hl | hl
    · obtain ⟨d, hd⟩ : ∃ d, 2 * isq x = r + d := ⟨2 * isq x - r, by omega⟩
      have h1 : d * r ≤ isq x * isq x := am_gm hd
      have h2 : d ≤ q := h3 d (by omega)
      omega
    · omega
  omega

/-- Where a step does not fall, the root has been found. -/
theorem newton_stop {x r : Nat} (hr : 0 < r) (h : isq x ≤ r) (hs : r ≤ (r + x / r) / 2) : isq x = r := by
  have h2 : r * r ≤ x := (Nat.le_div_iff_mul_le hr).1 (by generalize x / r = q at hs ⊢; omega)
  obtain ⟨a, b⟩ := isq_spec x
  have : r ≤ isq x := by
    rcases Nat.lt_or_ge (isq x) r with hl | hl
    · have := sq_mono (show isq x + 1 ≤ r by omega); omega
    · exact hl
  omega

theorem root_start {X : List Nat} {n b : Nat} (hs : Sm X) (hl : X.length = n + 1) (hb : X.getD n 0 < 2 ^ b) : isq (val X) ≤ 2 ^ ((32 * n + b + 1) / 2) := by
  apply isq_le_of
  have h1 : val X < 2 ^ (32 * n + b) := by
    have e := val_take_succ X n (by omega)
    rw [List.take_of_length_le (by omega)] at e
    have h2 := val_lt (sm_take hs n)
    rw [List.length_take, Nat.min_eq_left (by omega)] at h2
    rw [Nat.pow_add, ← pow_limb]
    have := Nat.mul_le_mul_left (4294967296 ^ n) (show X.getD n 0 + 1 ≤ 2 ^ b by omega)
    rw [Nat.mul_add] at this
    omega
  have h3 : 2 ^ (32 * n + b) ≤ 2 ^ ((32 * n + b + 1) / 2) * 2 ^ ((32 * n + b + 1) / 2) := by
    rw [← Nat.pow_add]
    exact Nat.pow_le_pow_right (by omega) (by omega)
  have := sq_mono (show 2 ^ ((32 * n + b + 1) / 2) ≤ 2 ^ ((32 * n + b + 1) / 2) + 1 by omega)
  omega

theorem len_of_lt {x n : Nat} (h : x < 4294967296 ^ n) : (limbs x).length ≤ n := limbs_len_le.2 h
theorem lt_of_len {x n : Nat} (h : (limbs x).length = n) : x < 4294967296 ^ n := limbs_len_le.1 (by omega)

theorem root_bd {n b r : Nat} (hb : b ≤ 32) (hr : r ≤ 2 ^ ((32 * n + b + 1) / 2)) : (limbs r).length ≤ n + 2 := by
  apply len_of_lt
  rw [pow_limb]
  exact Nat.lt_of_le_of_lt hr (Nat.pow_lt_pow_right (by omega) (by omega))

theorem isq_pos {x : Nat} (h : 0 < x) : 0 < isq x := by
  obtain ⟨_, b⟩ := isq_spec x
  rcases Nat.eq_zero_or_pos (isq x) with h0 | h0
  · rw [h0] at b; omega
  · exact h0

end Go.Proofs.Ytpafgkggkgmamaa
