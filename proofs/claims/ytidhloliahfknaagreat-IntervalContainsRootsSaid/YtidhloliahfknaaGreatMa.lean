/- Plain facts on intervals of rational numbers. -/
namespace Go.Proofs.YtidhloliahfknaaGreat
namespace RQ
/-- The ends of the interval that a pair of ends counts as. -/
def klo (x y : Rat) : Rat := if y < x then 0 else x
def khi (x y : Rat) : Rat := if y < x then 0 else y
def mn (x y : Rat) : Rat := if y < x then y else x
def mx (x y : Rat) : Rat := if x < y then y else x
def minL : List Rat → Rat
  | [] => 0
  | x :: l => l.foldl mn x
def maxL : List Rat → Rat
  | [] => 0
  | x :: l => l.foldl mx x
theorem kle (x y : Rat) : klo x y ≤ khi x y := by
  unfold klo khi; split
  · exact Rat.le_refl
  · rename_i h; exact Rat.not_lt.1 h
theorem mn_le1 (x y : Rat) : mn x y ≤ x := by
  unfold mn; split
  · rename_i h; exact Rat.le_of_lt h
  · exact Rat.le_refl
theorem mn_le2 (x y : Rat) : mn x y ≤ y := by
  unfold mn; split
  · exact Rat.le_refl
  · rename_i h; exact Rat.not_lt.1 h
theorem mx_le1 (x y : Rat) : x ≤ mx x y := by
  unfold mx; split
  · rename_i h; exact Rat.le_of_lt h
  · exact Rat.le_refl
theorem mx_le2 (x y : Rat) : y ≤ mx x y := by
  unfold mx; split
  · exact Rat.le_refl
  · rename_i h; exact Rat.not_lt.1 h
theorem mn_or (x y : Rat) : mn x y = x ∨ mn x y = y := by unfold mn; split <;> simp
theorem mx_or (x y : Rat) : mx x y = x ∨ mx x y = y := by unfold mx; split <;> simp
theorem foldl_mn_le (l : List Rat) : ∀ x, l.foldl mn x ≤ x ∧ ∀ y ∈ l, l.foldl mn x ≤ y := by
  induction l with
  | nil => intro x; exact ⟨Rat.le_refl, by simp⟩
  | cons z l ih =>
    intro x
    obtain ⟨h1, h2⟩ := ih (mn x z)
    refine ⟨Rat.le_trans h1 (mn_le1 x z), fun y hy => ?_⟩
    rcases List.mem_cons.1 hy with rfl | hy
    · exact Rat.le_trans h1 (mn_le2 x y)
    · exact h2 y hy
theorem foldl_mx_le (l : List Rat) : ∀ x, x ≤ l.foldl mx x ∧ ∀ y ∈ l, y ≤ l.foldl mx x := by
  induction l with
  | nil => intro x; exact ⟨Rat.le_refl, by simp⟩
  | cons z l ih =>
    intro x
    obtain ⟨h1, h2⟩ := ih (mx x z)
    refine ⟨Rat.le_trans (mx_le1 x z) h1, fun y hy => ?_⟩
    rcases List.mem_cons.1 hy with rfl | hy
    · exact Rat.le_trans (mx_le2 x y) h1
    · exact h2 y hy
theorem foldl_mn_mem (l : List Rat) : ∀ x, l.foldl mn x ∈ x :: l := by
  induction l with
  | nil => intro x; simp
  | cons z l ih =>
    intro x
    have := ih (mn x z)
    rcases List.mem_cons.1 this with h | h
    · rw [List.foldl_cons, h]
      rcases mn_or x z with e | e <;> rw [e] <;> simp
    · exact List.mem_cons_of_mem _ (List.mem_cons_of_mem _ h)
theorem foldl_mx_mem (l : List Rat) : ∀ x, l.foldl mx x ∈ x :: l := by
  induction l with
  | nil => intro x; simp
  | cons z l ih =>
    intro x
    have := ih (mx x z)
    rcases List.mem_cons.1 this with h | h
    · rw [List.foldl_cons, h]
      rcases mx_or x z with e | e <;> rw [e] <;> simp
    · exact List.mem_cons_of_mem _ (List.mem_cons_of_mem _ h)
theorem minL_le {l : List Rat} {y : Rat} (h : y ∈ l) : minL l ≤ y := by
  cases l with
  | nil => simp at h
  | cons x l =>
    rcases List.mem_cons.1 h with rfl | h
    · exact (foldl_mn_le l y).1
    · exact (foldl_mn_le l x).2 y h
theorem le_maxL {l : List Rat} {y : Rat} (h : y ∈ l) : y ≤ maxL l := by
  cases l with
  | nil => simp at h
  | cons x l =>
    rcases List.mem_cons.1 h with rfl | h
    · exact (foldl_mx_le l y).1
    · exact (foldl_mx_le l x).2 y h
theorem minL_mem {l : List Rat} (h : l ≠ []) : minL l ∈ l := by
  cases l with
  | nil => exact absurd rfl h
  | cons x l => exact foldl_mn_mem l x
theorem maxL_mem {l : List Rat} (h : l ≠ []) : maxL l ∈ l := by
  cases l with
  | nil => exact absurd rfl h
  | cons x l => exact foldl_mx_mem l x
theorem le_minL {l : List Rat} {z : Rat} (h : l ≠ []) (hz : ∀ y ∈ l, z ≤ y) : z ≤ minL l := hz _ (minL_mem h)
theorem maxL_le {l : List Rat} {z : Rat} (h : l ≠ []) (hz : ∀ y ∈ l, y ≤ z) : maxL l ≤ z := hz _ (maxL_mem h)
theorem min_max {l : List Rat} (h : l ≠ []) : minL l ≤ maxL l := minL_le (maxL_mem h)
theorem mul_mono {x y z : Rat} (h : x ≤ y) (hz : 0 ≤ z) : x * z ≤ y * z := Rat.mul_le_mul_of_nonneg_right h hz
theorem mul_anti {x y z : Rat} (h : x ≤ y) (hz : z ≤ 0) : y * z ≤ x * z := by
  have := mul_mono h (z := -z) (by grind)
  grind
theorem lin_low {a b x : Rat} (y : Rat) (h1 : a ≤ x) (h2 : x ≤ b) : a * y ≤ x * y ∨ b * y ≤ x * y := by
  rcases Rat.le_total (a := 0) (b := y) with h | h
  · exact .inl (mul_mono h1 h)
  · exact .inr (mul_anti h2 h)
theorem lin_high {a b x : Rat} (y : Rat) (h1 : a ≤ x) (h2 : x ≤ b) : x * y ≤ a * y ∨ x * y ≤ b * y := by
  rcases Rat.le_total (a := 0) (b := y) with h | h
  · exact .inr (mul_mono h2 h)
  · exact .inl (mul_anti h1 h)
/-- The ends of a product. -/
def mulL (a b c d : Rat) : List Rat := [a * c, a * d, b * c, b * d]
theorem mul_in {a b c d x y : Rat} (h1 : a ≤ x) (h2 : x ≤ b) (h3 : c ≤ y) (h4 : y ≤ d) : minL (mulL a b c d) ≤ x * y ∧ x * y ≤ maxL (mulL a b c d) := by
  have m1 : a * c ∈ mulL a b c d := by simp [mulL]
  have m2 : a * d ∈ mulL a b c d := by simp [mulL]
  have m3 : b * c ∈ mulL a b c d := by simp [mulL]
  have m4 : b * d ∈ mulL a b c d := by simp [mulL]
  have key : ∀ e, (e * c ∈ mulL a b c d) → (e * d ∈ mulL a b c d) → minL (mulL a b c d) ≤ e * y ∧ e * y ≤ maxL (mulL a b c d) := by
    intro e p q
    have l := lin_low e h3 h4
    have r := lin_high e h3 h4
    rw [Rat.mul_comm c, Rat.mul_comm y, Rat.mul_comm d] at l r
    have := minL_le p; have := minL_le q; have := le_maxL p; have := le_maxL q
    constructor
    · rcases l with l | l
      · exact Rat.le_trans (minL_le p) l
      · exact Rat.le_trans (minL_le q) l
    · rcases r with r | r
      · exact Rat.le_trans r (le_maxL p)
      · exact Rat.le_trans r (le_maxL q)
  obtain ⟨k1, k2⟩ := key a m1 m2
  obtain ⟨k3, k4⟩ := key b m3 m4
  constructor
  · rcases lin_low y h1 h2 with l | l
    · exact Rat.le_trans k1 l
    · exact Rat.le_trans k3 l
  · rcases lin_high y h1 h2 with l | l
    · exact Rat.le_trans l k2
    · exact Rat.le_trans l k4
/-- The ends of a square. -/
def sqL (a b : Rat) : List Rat := if a ≤ 0 ∧ 0 ≤ b then [0, a * a, b * b] else [a * a, b * b]
theorem sq_nonneg (x : Rat) : 0 ≤ x * x := by
  rcases Rat.le_total (a := 0) (b := x) with h | h
  · exact Rat.mul_nonneg h h
  · have := Rat.mul_nonneg (a := -x) (b := -x) (by grind) (by grind); grind
theorem sq_in {a b x : Rat} (h1 : a ≤ x) (h2 : x ≤ b) : minL (sqL a b) ≤ x * x ∧ x * x ≤ maxL (sqL a b) := by
  have m1 : a * a ∈ sqL a b := by unfold sqL; split <;> simp
  have m2 : b * b ∈ sqL a b := by unfold sqL; split <;> simp
  constructor
  · by_cases h : a ≤ 0 ∧ 0 ≤ b
    · exact Rat.le_trans (minL_le (y := 0) (by unfold sqL; rw [if_pos h]; simp)) (sq_nonneg x)
    · by_cases ha : a ≤ 0
      · have hb : b ≤ 0 := by grind
        refine Rat.le_trans (minL_le m2) ?_
        have e1 := mul_anti h2 (z := b) hb
        have e2 := mul_anti h2 (z := x) (by grind)
        grind
      · refine Rat.le_trans (minL_le m1) ?_
        have e1 := mul_mono h1 (z := a) (by grind)
        have e2 := mul_mono h1 (z := x) (by grind)
        grind
  · rcases Rat.le_total (a := 0) (b := x) with h | h
    · refine Rat.le_trans ?_ (le_maxL m2)
      have e1 := mul_mono h2 (z := x) h
      have e2 := mul_mono h2 (z := b) (by grind)
      grind
    · refine Rat.le_trans ?_ (le_maxL m1)
      have e1 := mul_anti h1 (z := x) h
      have e2 := mul_anti h1 (z := a) (by grind)
      grind
theorem inv_neg' {x : Rat} (h : x < 0) : x⁻¹ < 0 := by
  have h1 : 0 < (-x)⁻¹ := Rat.inv_pos.2 (by grind)
  have h2 := Rat.mul_inv_cancel (-x) (by grind)
  have h3 := Rat.mul_inv_cancel x (by grind)
  have : (-x)⁻¹ = - x⁻¹ := by
    apply Rat.inv_eq_of_mul_eq_one; grind
  grind
/-- Inverses turn the order around. -/
theorem inv_le {x y : Rat} (h : x ≤ y) (hs : 0 < x ∨ y < 0) : y⁻¹ ≤ x⁻¹ := by
  have hx : x ≠ 0 := by grind
  have hy : y ≠ 0 := by grind
  have e1 : x * (x⁻¹ * y⁻¹) = y⁻¹ := by rw [← Rat.mul_assoc, Rat.mul_inv_cancel x hx, Rat.one_mul]
  have e2 : y * (x⁻¹ * y⁻¹) = x⁻¹ := by rw [Rat.mul_comm x⁻¹, ← Rat.mul_assoc, Rat.mul_inv_cancel y hy, Rat.one_mul]
  rcases hs with hs | hs
  · have p1 : 0 < x⁻¹ := Rat.inv_pos.2 hs
    have p2 : 0 < y⁻¹ := Rat.inv_pos.2 (by grind)
    have := mul_mono h (z := x⁻¹ * y⁻¹) (Rat.mul_nonneg (Rat.le_of_lt p1) (Rat.le_of_lt p2))
    rwa [e1, e2] at this
  · have p1 : x⁻¹ < 0 := inv_neg' (by grind)
    have p2 : y⁻¹ < 0 := inv_neg' hs
    have := mul_mono h (z := x⁻¹ * y⁻¹) (by have := Rat.mul_nonneg (a := -x⁻¹) (b := -y⁻¹) (by grind) (by grind); grind)
    rwa [e1, e2] at this
/-- The quotients of two intervals. -/
theorem div_in {a b c d x y : Rat} (h1 : a ≤ x) (h2 : x ≤ b) (h3 : c ≤ y) (h4 : y ≤ d) (hs : 0 < c ∨ d < 0) : minL (mulL a b d⁻¹ c⁻¹) ≤ x / y ∧ x / y ≤ maxL (mulL a b d⁻¹ c⁻¹) := by
  rw [Rat.div_def]
  exact mul_in h1 h2 (inv_le h4 (by grind)) (inv_le h3 (by grind))
theorem inv_ord {c d : Rat} (h : c ≤ d) (hs : 0 < c ∨ d < 0) : d⁻¹ ≤ c⁻¹ := inv_le h (by grind)
/-- Parts of an interval. -/
theorem mul_part {a b c d a' b' : Rat} (h1 : a' ≤ a) (h2 : a ≤ b) (h3 : b ≤ b') (h4 : c ≤ d) : minL (mulL a' b' c d) ≤ minL (mulL a b c d) ∧ maxL (mulL a b c d) ≤ maxL (mulL a' b' c d) := by
  have key : ∀ e ∈ mulL a b c d, minL (mulL a' b' c d) ≤ e ∧ e ≤ maxL (mulL a' b' c d) := by
    intro e he
    simp only [mulL, List.mem_cons, List.not_mem_nil, or_false] at he
    rcases he with rfl | rfl | rfl | rfl
    · exact mul_in h1 (Rat.le_trans h2 h3) Rat.le_refl h4
    · exact mul_in h1 (Rat.le_trans h2 h3) h4 Rat.le_refl
    · exact mul_in (Rat.le_trans h1 h2) h3 Rat.le_refl h4
    · exact mul_in (Rat.le_trans h1 h2) h3 h4 Rat.le_refl
  exact ⟨le_minL (by simp [mulL]) fun y hy => (key y hy).1, maxL_le (by simp [mulL]) fun y hy => (key y hy).2⟩
theorem sqL_ne (a b : Rat) : sqL a b ≠ [] := by unfold sqL; split <;> simp
theorem sq_part {a b a' b' : Rat} (h1 : a' ≤ a) (h2 : a ≤ b) (h3 : b ≤ b') : minL (sqL a' b') ≤ minL (sqL a b) ∧ maxL (sqL a b) ≤ maxL (sqL a' b') := by
  have key : ∀ e ∈ sqL a b, minL (sqL a' b') ≤ e ∧ e ≤ maxL (sqL a' b') := by
    intro e he
    have ka := sq_in h1 (Rat.le_trans h2 h3)
    have kb := sq_in (Rat.le_trans h1 h2) h3
    unfold sqL at he
    split at he
    · rename_i h
      simp only [List.mem_cons, List.not_mem_nil, or_false] at he
      rcases he with rfl | rfl | rfl
      · have := sq_in (x := 0) (Rat.le_trans h1 h.1) (Rat.le_trans h.2 h3)
        simpa using this
      · exact ka
      · exact kb
    · simp only [List.mem_cons, List.not_mem_nil, or_false] at he
      rcases he with rfl | rfl
      · exact ka
      · exact kb
  exact ⟨le_minL (sqL_ne _ _) fun y hy => (key y hy).1, maxL_le (sqL_ne _ _) fun y hy => (key y hy).2⟩
theorem sq_mul {a b : Rat} (h : a ≤ b) : minL (mulL a b a b) ≤ minL (sqL a b) ∧ maxL (sqL a b) ≤ maxL (mulL a b a b) := by
  have ka := mul_in (Rat.le_refl (a := a)) h (Rat.le_refl (a := a)) h
  have kb := mul_in h (Rat.le_refl (a := b)) h (Rat.le_refl (a := b))
  have key : ∀ e ∈ sqL a b, minL (mulL a b a b) ≤ e ∧ e ≤ maxL (mulL a b a b) := by
    intro e he
    unfold sqL at he
    split at he
    · rename_i h0
      simp only [List.mem_cons, List.not_mem_nil, or_false] at he
      rcases he with rfl | rfl | rfl
      · have := mul_in h0.1 h0.2 h0.1 h0.2
        simpa using this
      · exact ka
      · exact kb
    · simp only [List.mem_cons, List.not_mem_nil, or_false] at he
      rcases he with rfl | rfl
      · exact ka
      · exact kb
  exact ⟨le_minL (sqL_ne _ _) fun y hy => (key y hy).1, maxL_le (sqL_ne _ _) fun y hy => (key y hy).2⟩
theorem sq_low (a b : Rat) (h : a ≤ b) : (minL (sqL a b) = 0) ↔ (a ≤ 0 ∧ 0 ≤ b) := by
  unfold sqL
  by_cases h0 : a ≤ 0 ∧ 0 ≤ b
  · rw [if_pos h0]
    refine ⟨fun _ => h0, fun _ => Rat.le_antisymm (minL_le (by simp)) (le_minL (by simp) fun y hy => ?_)⟩
    simp only [List.mem_cons, List.not_mem_nil, or_false] at hy
    rcases hy with rfl | rfl | rfl
    · exact Rat.le_refl
    · exact sq_nonneg _
    · exact sq_nonneg _
  · rw [if_neg h0]
    refine ⟨fun e => ?_, fun e => absurd e h0⟩
    have := minL_mem (l := [a * a, b * b]) (by simp)
    rw [e] at this
    simp only [List.mem_cons, List.not_mem_nil, or_false] at this
    rcases this with e | e
    · rcases Rat.mul_eq_zero.1 e.symm with e | e <;> subst e <;> exact ⟨Rat.le_refl, h⟩
    · rcases Rat.mul_eq_zero.1 e.symm with e | e <;> subst e <;> exact ⟨h, Rat.le_refl⟩
theorem sq_high (a b : Rat) : maxL (sqL a b) = a * a ∨ maxL (sqL a b) = b * b := by
  have := maxL_mem (sqL_ne a b)
  unfold sqL at this ⊢
  split at this
  · rename_i h0
    rw [if_pos h0]
    simp only [List.mem_cons, List.not_mem_nil, or_false] at this
    rcases this with e | e | e
    · have := le_maxL (l := [0, a * a, b * b]) (y := a * a) (by simp)
      have := sq_nonneg a
      exact .inl (Rat.le_antisymm (by rw [e]; exact this) (by assumption))
    · exact .inl e
    · exact .inr e
  · rename_i h0
    rw [if_neg h0]
    simpa using this
end RQ
end Go.Proofs.YtidhloliahfknaaGreat
