/- The law's fair; the law RationalIsOrdered. -/
import Derived.Test.YtidhloliahfknaaGreatQTkz
namespace Go.Proofs.YtidhloliahfknaaGreat
open Go.RowKit RQ
theorem sign_div {n : Int} {g : Nat} (hg : 0 < g) (hd : (g : Int) ∣ n) : (n / (g : Int)).sign = n.sign := by
  obtain ⟨k, rfl⟩ := hd
  have h1 : (g : Int).sign = 1 := Int.sign_eq_one_of_pos (by omega)
  rw [Int.mul_ediv_cancel_left _ (by omega), Int.sign_mul, h1, Int.one_mul]
theorem sign_divInt (n : Int) {d : Int} (hd : 0 < d) : (Rat.divInt n d).num.sign = n.sign := by
  rw [(divInt_pos n hd).1]
  exact sign_div (Nat.gcd_pos_of_pos_right _ (by omega)) (Int.gcd_dvd_left ..)
theorem sign_mulq (x y : Rat) : (x * y).num.sign = x.num.sign * y.num.sign := by
  rw [mul_eq, sign_divInt _ (den_mul_pos x y), Int.sign_mul]
theorem cmpq_swap (x y : Rat) : cmpq y x = -cmpq x y := by
  unfold cmpq; rw [← Int.sign_neg]; congr 1; omega
theorem cmpq_add (x y z : Rat) : cmpq (x + z) (y + z) = cmpq x y := by
  rw [cmpq_sub, cmpq_sub]
  congr 2
  rw [Rat.sub_eq_add_neg, Rat.sub_eq_add_neg, Rat.neg_add]
  rw [Rat.add_assoc, ← Rat.add_assoc z, Rat.add_comm z, Rat.add_assoc (-y), Rat.add_neg_cancel, Rat.add_zero]
theorem cmpq_mul (x y z : Rat) : cmpq (x * z) (y * z) = cmpq x y * z.num.sign := by
  rw [cmpq_sub, cmpq_sub, ← sign_mulq]
  congr 2
  rw [Rat.sub_eq_add_neg, Rat.sub_eq_add_neg, Rat.add_mul, Rat.neg_mul]
theorem sign_cases (z : Int) : z.sign = -1 ∨ z.sign = 0 ∨ z.sign = 1 := by
  rcases Int.lt_trichotomy z 0 with h | h | h
  · exact .inl (Int.sign_eq_neg_one_of_neg h)
  · subst h; exact .inr (.inl rfl)
  · exact .inr (.inr (Int.sign_eq_one_of_pos h))
theorem cmpq_cases (x y : Rat) : cmpq x y = -1 ∨ cmpq x y = 0 ∨ cmpq x y = 1 := sign_cases _
theorem cmpq_beq (x y : Rat) : (cmpq x y == 0) = decide (x = y) := by
  rw [Bool.eq_iff_iff, beq_iff_eq, decide_eq_true_iff, cmpq_zero]
theorem light_le {n m : Nat} (h : lightB n m = true) : n ≤ 500 ∧ m ≤ 500 := by
  unfold lightB at h; simp only [Bool.and_eq_true, decide_eq_true_eq] at h; omega
theorem rs_light {w : World} {b : Bool} {A : Option Addr} {n c : Nat} {xs : List Nat} {D : Option Addr} {m d : Nat} {ds : List Nat} (R1 : Rd w A n c xs) (R2 : Rd w D m d ds) (h : lightB n m = true) : Rs (rv b xs ds) 8 := by
  unfold lightB at h
  simp only [Bool.and_eq_true, decide_eq_true_eq] at h
  exact Rs.of R1.sm R2.sm (by rw [R1.len]; exact h.1) (by rw [R2.len]; exact h.2) (by decide)
def fairR (n m n' m' n'' m'' : Nat) (v1 v2 v3 : Bool) : Bool := lightB n m && (lightB n' m' && (lightB n'' m'' && (v1 && (v2 && v3))))

end Go.Proofs.YtidhloliahfknaaGreat
