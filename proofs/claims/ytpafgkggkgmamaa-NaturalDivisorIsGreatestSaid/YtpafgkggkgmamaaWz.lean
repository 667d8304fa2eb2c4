/- Lehmer's steps: plain lemmas. -/
import Derived.Test.YtpafgkggkgmamaaWw
namespace Go.Proofs.Ytpafgkggkgmamaa

theorem inv_even {xh yh r s a b c d : Nat} (h : Inv xh yh r s a b c d false) : a * xh = r + b * yh ∧ d * yh = s + c * xh := by
  have h1 := h.ex
  have h2 := h.ey
  have h3 : a * d = b * c + 1 := by have := h.det; simpa using this
  constructor
  · rw [← h1, ← h2, Nat.mul_add, Nat.mul_add, ← Nat.mul_assoc, ← Nat.mul_assoc, ← Nat.mul_assoc, ← Nat.mul_assoc, h3, Nat.add_mul, Nat.one_mul, Nat.mul_comm a b]; omega
  · rw [← h1, ← h2, Nat.mul_add, Nat.mul_add, ← Nat.mul_assoc, ← Nat.mul_assoc, ← Nat.mul_assoc, ← Nat.mul_assoc, Nat.mul_comm d a, h3, Nat.add_mul, Nat.one_mul, Nat.mul_comm d c, Nat.mul_comm c b]; omega

theorem inv_odd {xh yh r s a b c d : Nat} (h : Inv xh yh r s a b c d true) : b * yh = r + a * xh ∧ c * xh = s + d * yh := by
  have h1 := h.ex
  have h2 := h.ey
  have h3 : b * c = a * d + 1 := by have := h.det; simpa using this
  constructor
  · rw [← h1, ← h2, Nat.mul_add, Nat.mul_add, ← Nat.mul_assoc, ← Nat.mul_assoc, ← Nat.mul_assoc, ← Nat.mul_assoc, h3, Nat.add_mul, Nat.one_mul, Nat.mul_comm a b]; omega
  · rw [← h1, ← h2, Nat.mul_add, Nat.mul_add, ← Nat.mul_assoc, ← Nat.mul_assoc, ← Nat.mul_assoc, ← Nat.mul_assoc, Nat.mul_comm c b, h3, Nat.add_mul, Nat.one_mul, Nat.mul_comm d c, Nat.mul_comm d a]; omega

theorem comb {X Y X' Y' a b c d : Nat} (h : (X' + b * Y = a * X ∧ Y' + c * X = d * Y ∧ a * d = b * c + 1) ∨ (X' + a * X = b * Y ∧ Y' + d * Y = c * X ∧ b * c = a * d + 1)) :
    d * X' + b * Y' = X ∧ c * X' + a * Y' = Y := by
  rcases h with ⟨h1, h2, h3⟩ | ⟨h1, h2, h3⟩
  · have e1 : d * X' + d * (b * Y) = a * d * X := by rw [← Nat.mul_add, h1, ← Nat.mul_assoc, Nat.mul_comm d a]
    have e2 : b * Y' + b * c * X = d * (b * Y) := by rw [Nat.mul_assoc, ← Nat.mul_add, h2, Nat.mul_left_comm]
    have e3 : c * X' + b * c * Y = a * (c * X) := by rw [Nat.mul_comm b c, Nat.mul_assoc, ← Nat.mul_add, h1, Nat.mul_left_comm]
    have e4 : a * Y' + a * (c * X) = a * d * Y := by rw [← Nat.mul_add, h2, Nat.mul_assoc]
    rw [h3, Nat.add_mul, Nat.one_mul] at e1 e4
    omega
  · have e1 : d * X' + a * d * X = d * (b * Y) := by rw [Nat.mul_comm a d, Nat.mul_assoc, ← Nat.mul_add, h1]
    have e2 : b * Y' + d * (b * Y) = b * c * X := by rw [Nat.mul_left_comm, ← Nat.mul_add, h2, Nat.mul_assoc]
    have e3 : c * X' + a * (c * X) = b * c * Y := by rw [Nat.mul_left_comm, ← Nat.mul_add, h1, ← Nat.mul_assoc, Nat.mul_comm c b]
    have e4 : a * Y' + a * d * Y = a * (c * X) := by rw [Nat.mul_assoc, ← Nat.mul_add, h2]
    rw [h3, Nat.add_mul, Nat.one_mul] at e2 e3
    omega

theorem gcd_comb {X Y X' Y' a b c d : Nat} (h : (X' + b * Y = a * X ∧ Y' + c * X = d * Y) ∨ (X' + a * X = b * Y ∧ Y' + d * Y = c * X)) (e1 : d * X' + b * Y' = X) (e2 : c * X' + a * Y' = Y) : Nat.gcd X' Y' = Nat.gcd X Y := by
  apply Nat.dvd_antisymm
  · apply Nat.dvd_gcd
    · rw [← e1]; exact Nat.dvd_add (Nat.dvd_mul_left_of_dvd (Nat.gcd_dvd_left _ _) _) (Nat.dvd_mul_left_of_dvd (Nat.gcd_dvd_right _ _) _)
    · rw [← e2]; exact Nat.dvd_add (Nat.dvd_mul_left_of_dvd (Nat.gcd_dvd_left _ _) _) (Nat.dvd_mul_left_of_dvd (Nat.gcd_dvd_right _ _) _)
  · have gx : ∀ k, Nat.gcd X Y ∣ k * X := fun k => Nat.dvd_mul_left_of_dvd (Nat.gcd_dvd_left _ _) _
    have gy : ∀ k, Nat.gcd X Y ∣ k * Y := fun k => Nat.dvd_mul_left_of_dvd (Nat.gcd_dvd_right _ _) _
    rcases h with ⟨h1, h2⟩ | ⟨h1, h2⟩
    · apply Nat.dvd_gcd
      · exact (Nat.dvd_add_iff_left (gy b)).2 (by rw [h1]; exact gx a)
      · exact (Nat.dvd_add_iff_left (gx c)).2 (by rw [h2]; exact gy d)
    · apply Nat.dvd_gcd
      · exact (Nat.dvd_add_iff_left (gx a)).2 (by rw [h1]; exact gy b)
      · exact (Nat.dvd_add_iff_left (gy d)).2 (by rw [h2]; exact gx c)

/-- What two later members of Euclid's sequence are. -/
structure Later (X Y X' Y' : Nat) : Prop where
  gcd : Nat.gcd X' Y' = Nat.gcd X Y
  le : Y' ≤ X'
  lt : X' + Y' < X + Y
  lx : X' ≤ X

theorem later_of {X Y X' Y' a b c d : Nat} (hX : 0 < X) (hle : Y' ≤ X') (hb : 1 ≤ b) (hc : 1 ≤ c) (hd : 1 ≤ d)
    (h : (X' + b * Y = a * X ∧ Y' + c * X = d * Y ∧ a * d = b * c + 1) ∨ (X' + a * X = b * Y ∧ Y' + d * Y = c * X ∧ b * c = a * d + 1)) : Later X Y X' Y' := by
  obtain ⟨e1, e2⟩ := comb h
  have h' : (X' + b * Y = a * X ∧ Y' + c * X = d * Y) ∨ (X' + a * X = b * Y ∧ Y' + d * Y = c * X) := by
    rcases h with ⟨p, q, _⟩ | ⟨p, q, _⟩
    · exact .inl ⟨p, q⟩
    · exact .inr ⟨p, q⟩
  have m1 : X' ≤ d * X' := Nat.le_mul_of_pos_left X' (by omega)
  have m2 : Y' ≤ b * Y' := Nat.le_mul_of_pos_left Y' (by omega)
  have m3 : X' ≤ c * X' := Nat.le_mul_of_pos_left X' (by omega)
  have hx0 : 0 < X' := by
    rcases Nat.eq_zero_or_pos X' with h0 | h0
    · have hy0 : Y' = 0 := by omega
      rw [h0, hy0, Nat.mul_zero, Nat.mul_zero] at e1; omega
    · exact h0
  exact ⟨gcd_comb h' e1 e2, hle, by omega, by omega⟩

theorem lehmer_even {X Y T xl yl r s a b c d xh yh : Nat} (hX : X = xh * T + xl) (hxl : xl < T) (hY : Y = yh * T + yl) (hyl : yl < T) (h : Inv xh yh r s a b c d false) (hb : 1 ≤ b) (hc : 1 ≤ c) (hds : d ≤ s) (hr : b + d + s ≤ r) :
    ∃ X' Y', X' + b * Y = a * X ∧ Y' + c * X = d * Y ∧ Later X Y X' Y' := by
  obtain ⟨e1, e2⟩ := inv_even h
  have f1 : a * X = r * T + b * yh * T + a * xl := by rw [hX, Nat.mul_add, ← Nat.mul_assoc, e1, Nat.add_mul]
  have f2 : b * Y = b * yh * T + b * yl := by rw [hY, Nat.mul_add, ← Nat.mul_assoc]
  have f3 : d * Y = s * T + c * xh * T + d * yl := by rw [hY, Nat.mul_add, ← Nat.mul_assoc, e2, Nat.add_mul]
  have f4 : c * X = c * xh * T + c * xl := by rw [hX, Nat.mul_add, ← Nat.mul_assoc]
  have g1 : b * yl ≤ b * T := Nat.mul_le_mul_left b (by omega)
  have g2 : c * xl ≤ c * T := Nat.mul_le_mul_left c (by omega)
  have g3 : d * yl ≤ d * T := Nat.mul_le_mul_left d (by omega)
  have g4 : b * T + d * T + s * T ≤ r * T := by rw [← Nat.add_mul, ← Nat.add_mul]; exact Nat.mul_le_mul_right T hr
  have g5 : c * T ≤ d * T := Nat.mul_le_mul_right T h.cd
  have g6 : d * T ≤ s * T := Nat.mul_le_mul_right T hds
  have hX0 : 0 < X := by
    have h1 := h.ex
    have h2 := Nat.mul_pos (show 0 < d by have := h.d1; omega) (show 0 < r by omega)
    have h3 := Nat.mul_pos (show 0 < xh by omega) (show 0 < T by omega)
    omega
  obtain ⟨X', hX'⟩ : ∃ X', X' + b * Y = a * X := ⟨a * X - b * Y, by omega⟩
  obtain ⟨Y', hY'⟩ : ∃ Y', Y' + c * X = d * Y := ⟨d * Y - c * X, by omega⟩
  refine ⟨X', Y', hX', hY', later_of hX0 (by omega) hb hc h.d1 (.inl ⟨hX', hY', by have := h.det; simpa using this⟩)⟩

theorem lehmer_odd {X Y T xl yl r s a b c d xh yh : Nat} (hX : X = xh * T + xl) (hxl : xl < T) (hY : Y = yh * T + yl) (hyl : yl < T) (h : Inv xh yh r s a b c d true) (hb : 1 ≤ b) (ha : a ≤ b) (hc : 1 ≤ c) (hds : d ≤ s) (hr : b + d + s ≤ r) :
    ∃ X' Y', X' + a * X = b * Y ∧ Y' + d * Y = c * X ∧ Later X Y X' Y' := by
  obtain ⟨e1, e2⟩ := inv_odd h
  have f1 : a * X = a * xh * T + a * xl := by rw [hX, Nat.mul_add, ← Nat.mul_assoc]
  have f2 : b * Y = r * T + a * xh * T + b * yl := by rw [hY, Nat.mul_add, ← Nat.mul_assoc, e1, Nat.add_mul]
  have f3 : d * Y = d * yh * T + d * yl := by rw [hY, Nat.mul_add, ← Nat.mul_assoc]
  have f4 : c * X = s * T + d * yh * T + c * xl := by rw [hX, Nat.mul_add, ← Nat.mul_assoc, e2, Nat.add_mul]
  have g1 : a * xl ≤ a * T := Nat.mul_le_mul_left a (by omega)
  have g2 : c * xl ≤ c * T := Nat.mul_le_mul_left c (by omega)
  have g3 : d * yl ≤ d * T := Nat.mul_le_mul_left d (by omega)
  have g4 : b * T + d * T + s * T ≤ r * T := by rw [← Nat.add_mul, ← Nat.add_mul]; exact Nat.mul_le_mul_right T hr
  have g5 : c * T ≤ d * T := Nat.mul_le_mul_right T h.cd
  have g6 : d * T ≤ s * T := Nat.mul_le_mul_right T hds
  have g7 : a * T ≤ b * T := Nat.mul_le_mul_right T ha
  have hX0 : 0 < X := by
    have h1 := h.ex
    have h2 := Nat.mul_pos (show 0 < d by have := h.d1; omega) (show 0 < r by omega)
    have h3 := Nat.mul_pos (show 0 < xh by omega) (show 0 < T by omega)
    omega
  obtain ⟨X', hX'⟩ : ∃ X', X' + a * X = b * Y := ⟨b * Y - a * X, by omega⟩
  obtain ⟨Y', hY'⟩ : ∃ Y', Y' + d * Y = c * X := ⟨c * X - d * Y, by omega⟩
  refine ⟨X', Y', hX', hY', later_of hX0 (by omega) hb hc h.d1 (.inr ⟨hX', hY', by have := h.det; simpa using this⟩)⟩

theorem later_div {X Y : Nat} (hY : 0 < Y) (hle : Y ≤ X) : Later X Y Y (X % Y) := by
  have h := Nat.mod_lt X hY
  refine ⟨gcd_step X Y, by omega, by omega, hle⟩

theorem high_bound {X m l bl s : Nat} (hl : (limbs X).length = m + 3) (hle : (limbs X).getD (m + 2) 0 = l) (h1 : l < 2 ^ bl) (hs : s + bl = 32) : X / 4294967296 ^ m * 2 ^ s < 79228162514264337593543950336 := by
  have e := val_take_succ (limbs X) (m + 2) (by omega)
  rw [List.take_of_length_le (by omega), val_limbs, hle] at e
  have h2 := val_lt (sm_take (sm_limbs X) (m + 2))
  rw [List.length_take, Nat.min_eq_left (by omega)] at h2
  have h3 : X < 4294967296 ^ (m + 2) * 2 ^ bl := by
    have := Nat.mul_le_mul_left (4294967296 ^ (m + 2)) (show l + 1 ≤ 2 ^ bl by omega)
    rw [Nat.mul_add] at this; omega
  rw [Nat.pow_add, Nat.mul_assoc] at h3
  have h4 : X / 4294967296 ^ m < 4294967296 ^ 2 * 2 ^ bl := (Nat.div_lt_iff_lt_mul (Nat.pow_pos (by omega))).2 (by rw [Nat.mul_comm]; exact h3)
  have h5 := Nat.mul_lt_mul_of_pos_right h4 (Nat.pow_pos (n := s) (show 0 < 2 by omega))
  rw [Nat.mul_assoc, ← Nat.pow_add, show bl + s = 32 by omega] at h5
  exact h5

theorem high_64 {V s : Nat} (hs : s < 32) (h : V * 2 ^ s < 79228162514264337593543950336) : V / 2 ^ (32 - s) < 18446744073709551616 := by
  rw [Nat.div_lt_iff_lt_mul (Nat.pow_pos (by omega))]
  have hB : 2 ^ s * 2 ^ (32 - s) = 4294967296 := two_pow_32 hs
  have hp : 0 < 2 ^ s := Nat.pow_pos (by omega)
  apply Nat.lt_of_mul_lt_mul_right (a := 2 ^ s)
  rw [Nat.mul_assoc, Nat.mul_comm (2 ^ (32 - s)), hB]
  exact h

end Go.Proofs.Ytpafgkggkgmamaa
