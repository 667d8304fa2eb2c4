/- Sums of a coding's columns. -/
import Derived.Test.YtlflaalefilplaaDoorM24
import Derived.Test.YtlflaalefilplaaDoorM11
namespace Go.Proofs.YtlflaalefilplaaDoor
open Go.RowKit RQ
set_option linter.unusedVariables false

/-- A sum of the first numbers. -/
def psum (f : Nat → Int) : Nat → Int
  | 0 => 0
  | m + 1 => psum f m + f m
theorem psum_bd {f : Nat → Int} {B : Nat} (hf : ∀ i, (f i).natAbs ≤ B) : ∀ m, (psum f m).natAbs ≤ m * B
  | 0 => Nat.zero_le _
  | m + 1 => by
    have h1 := psum_bd hf m
    have h2 := hf m
    rw [psum, Nat.add_mul, Nat.one_mul]
    omega
/-- One in each row of Indicator. -/
theorem psum_ind (n i : Nat) : ∀ m, psum (fun k => ent 4 n i k) m = if i < m then 1 else 0
  | 0 => by simp [psum]
  | m + 1 => by
    rw [psum, psum_ind n i m]
    show (if i < m then 1 else 0) + tru ((i : Int) == (m : Int)) = _
    by_cases h : i = m
    · subst h
      rw [tru_1 rfl]; simp
    · rw [tru_0 (by omega)]
      by_cases h2 : i < m
      · rw [if_pos h2, if_pos (by omega)]; rfl
      · rw [if_neg h2, if_neg (by omega)]; rfl
/-- A column of SumToZero. -/
theorem psum_sum (n j : Nat) (hj : j + 1 < n) : ∀ m, m ≤ n → psum (fun i => ent 2 n i j) m = (if j < m then 1 else 0) + if m = n then -1 else 0
  | 0, _ => by simp [psum]; omega
  | m + 1, hm => by
    rw [psum, psum_sum n j hj m (by omega)]
    show _ + (if (m : Int) = (n : Int) - 1 then -1 else tru ((m : Int) == (j : Int))) = _
    rw [if_neg (show ¬ m = n by omega)]
    by_cases h1 : (m : Int) = (n : Int) - 1
    · rw [if_pos h1, if_pos (show j < m by omega), if_pos (show j < m + 1 by omega), if_pos (show m + 1 = n by omega)]; rfl
    · rw [if_neg h1, if_neg (show ¬ m + 1 = n by omega)]
      by_cases h2 : m = j
      · rw [tru_1 (by omega), if_neg (show ¬ j < m by omega), if_pos (show j < m + 1 by omega)]; rfl
      · rw [tru_0 (by omega)]
        by_cases h3 : j < m
        · rw [if_pos h3, if_pos (show j < m + 1 by omega)]; rfl
        · rw [if_neg h3, if_neg (show ¬ j < m + 1 by omega)]; rfl
/-- A column of Helmert. -/
theorem psum_hel (n j : Nat) : ∀ m, psum (fun i => ent 3 n i j) m = if m ≤ j + 1 then -(m : Int) else 0
  | 0 => by simp [psum]
  | m + 1 => by
    rw [psum, psum_hel n j m]
    show _ + (if (m : Int) ≤ (j : Int) then -1 else if (m : Int) = (j : Int) + 1 then (m : Int) else 0) = _
    by_cases h : m ≤ j
    · rw [if_pos (by omega), if_pos (by omega), if_pos (by omega)]; omega
    · by_cases h2 : m = j + 1
      · rw [if_pos (by omega), if_neg (by omega), if_pos (by omega), if_neg (by omega)]; omega
      · rw [if_neg (by omega), if_neg (by omega), if_neg (by omega), if_neg (by omega)]; rfl
/-- Two columns of Helmert. -/
theorem psum_two (n j k : Nat) (hk : k < j) : ∀ m, psum (fun i => ent 3 n i j * ent 3 n i k) m = if m ≤ k + 1 then (m : Int) else 0
  | 0 => by simp [psum]
  | m + 1 => by
    rw [psum, psum_two n j k hk m]
    show _ + (if (m : Int) ≤ (j : Int) then -1 else if (m : Int) = (j : Int) + 1 then (m : Int) else 0) * (if (m : Int) ≤ (k : Int) then -1 else if (m : Int) = (k : Int) + 1 then (m : Int) else 0) = _
    by_cases h : m ≤ k
    · rw [if_pos (by omega), if_pos (by omega), if_pos (by omega), if_pos (by omega)]; omega
    · rw [if_neg (show ¬ (m : Int) ≤ (k : Int) by omega)]
      by_cases h2 : m = k + 1
      · rw [if_pos (by omega), if_pos (by omega), if_pos (by omega), if_neg (by omega)]; omega
      · rw [if_neg (by omega), if_neg (show ¬ (m : Int) = (k : Int) + 1 by omega), Int.mul_zero, if_neg (by omega)]; rfl
/-- A number of a matrix, where it lies. -/
theorem el_get {W : World} {A : Option Addr} {n : Nat} {L : List (Sl Rw)} {k : Int} (h : LR (slC rwC) W A n L) (hM : MatV L (cM k n)) {i j : Nat} (hi : i < n) (hj : j < cols k n) : ∃ (b o : Nat) (s : Sl Rw) (b2 o2 : Nat) (y : Rw), A = some ⟨b, o, none⟩ ∧ W.cell? ⟨b, o + i, none⟩ = some (.slice (some ⟨b2, o2, none⟩) (cols k n) s.c) ∧ W.cell? ⟨b2, o2 + j * 3, none⟩ = some (.bool y.b) ∧ W.cell? ⟨b2, o2 + j * 3 + 1, none⟩ = some (.slice y.x.A y.x.n y.x.c) ∧ W.cell? ⟨b2, o2 + j * 3 + 2, none⟩ = some (.slice y.y.A y.y.n y.y.c) ∧ Rd W y.x.A y.x.n y.x.c y.x.x ∧ Rd W y.y.A y.y.n y.y.c y.y.x ∧ rwV y = qV ((ent k n i j : Int) : Rat) := by
  obtain ⟨b, o, s, rfl, hs, _, e0, hrow⟩ := mat_get h hi
  obtain ⟨q, hq, _, hsq⟩ := map_at hM hs
  have h2 : (cM k n)[i]? = some (rowM k n i) := by
    unfold cM
    rw [List.getElem?_map, List.getElem?_range hi]; rfl
  rw [hq] at h2
  obtain rfl := Option.some.inj h2
  have hl : s.L.length = cols k n := by have := congrArg List.length hsq; rw [List.length_map, List.length_map, rowM_len] at this; exact this
  rw [hl] at e0 hrow
  obtain ⟨b2, o2, y, hA, hy, _, y0, y1, y2, R1, R2⟩ := row_get hrow hj
  obtain ⟨q, hq, _, hyq⟩ := map_at hsq hy
  have h3 : (rowM k n i)[j]? = some ((ent k n i j : Int) : Rat) := by
    unfold rowM
    rw [List.getElem?_map, List.getElem?_range hj]; rfl
  rw [hq] at h3
  obtain rfl := Option.some.inj h3
  rw [hA] at e0
  exact ⟨b, o, s, b2, o2, y, rfl, e0, y0, y1, y2, R1, R2, hyq⟩
/-- .. how many columns a row has. -/
theorem row_len {W : World} {A : Option Addr} {n : Nat} {L : List (Sl Rw)} {k : Int} (h : LR (slC rwC) W A n L) (hM : MatV L (cM k n)) {i : Nat} (hi : i < n) : ∃ (b o : Nat) (s : Sl Rw), A = some ⟨b, o, none⟩ ∧ W.cell? ⟨b, o + i, none⟩ = some (.slice s.A (cols k n) s.c) := by
  obtain ⟨b, o, s, rfl, hs, _, e0, hrow⟩ := mat_get h hi
  obtain ⟨q, hq, _, hsq⟩ := map_at hM hs
  have h2 : (cM k n)[i]? = some (rowM k n i) := by
    unfold cM
    rw [List.getElem?_map, List.getElem?_range hi]; rfl
  rw [hq] at h2
  obtain rfl := Option.some.inj h2
  have hl : s.L.length = cols k n := by have := congrArg List.length hsq; rw [List.length_map, List.length_map, rowM_len] at this; exact this
  rw [hl] at e0
  exact ⟨b, o, s, rfl, e0⟩
/-- The reference's sum and product at valid numbers. -/
theorem faddQ (q r : Rat) (A : Option Addr) (n c : Nat) (D : Option Addr) (m d : Nat) (A' : Option Addr) (n' c' : Nat) (D' : Option Addr) (m' d' : Nat) (W : World) (X : RR W A n c D m d q) (Y : RR W A' n' c' D' m' d' r) (hs : Rs q 99) (hs' : Rs r 99) : Calls Tryd.prog 17 #[.agg #[.bool (ng q.num), .slice A n c, .slice D m d], .agg #[.bool (ng r.num), .slice A' n' c', .slice D' m' d']] W (RetR (q + r) W) := by
  have l := X.lens hs
  have l' := Y.lens hs'
  have := Fadd_any (ng q.num) A n c _ D m d _ (ng r.num) A' n' c' _ D' m' d' _ W X.n X.d Y.n Y.d l.1 l.2 l'.1 l'.2
  rwa [rv_z, rv_z] at this
theorem fmulQ (q r : Rat) (A : Option Addr) (n c : Nat) (D : Option Addr) (m d : Nat) (A' : Option Addr) (n' c' : Nat) (D' : Option Addr) (m' d' : Nat) (W : World) (X : RR W A n c D m d q) (Y : RR W A' n' c' D' m' d' r) (hs : Rs q 99) (hs' : Rs r 99) : Calls Tryd.prog 20 #[.agg #[.bool (ng q.num), .slice A n c, .slice D m d], .agg #[.bool (ng r.num), .slice A' n' c', .slice D' m' d']] W (RetR (q * r) W) := by
  have l := X.lens hs
  have l' := Y.lens hs'
  have := Fmul_any (ng q.num) A n c _ D m d _ (ng r.num) A' n' c' _ D' m' d' _ W X.n X.d Y.n Y.d l.1 l.2 l'.1 l'.2
  rwa [rv_z, rv_z] at this
theorem rs_int {z : Int} (h : z.natAbs ≤ 1000000) (p : Nat) (hp : 1 ≤ p) : Rs (z : Rat) p := by
  refine Rs.int ?_ hp
  have h1 : z.natAbs < 4294967296 ^ 1 := by omega
  exact Nat.lt_of_lt_of_le h1 (Nat.pow_le_pow_right (by decide) hp)
end Go.Proofs.YtlflaalefilplaaDoor
