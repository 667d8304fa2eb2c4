/- What Format writes is read back by Parse. -/
import Derived.Test.YtgaigebdbmohcaaGreatDoorQRnz
namespace Go.Proofs.YtgaigebdbmohcaaGreatDoor
open Go.RowKit RQ

theorem dl_no {l : List UInt8} (h : allDig l = true) {c : UInt8} (hc : isDig c = false) : ∀ x ∈ l, x ≠ c := by
  intro x hx e
  subst e
  have := List.all_eq_true.1 h x hx
  rw [hc] at this; cases this
theorem hasB_no {l : List UInt8} {c : UInt8} (h : ∀ x ∈ l, x ≠ c) : hasB c l = false := by
  unfold hasB
  rw [Bool.eq_false_iff]
  intro hh
  have := List.contains_iff_mem.1 hh
  exact h c this rfl
theorem hasB_mid (l r : List UInt8) (c : UInt8) : hasB c (l ++ c :: r) = true := by
  unfold hasB; rw [List.contains_iff_mem]; simp
theorem bef_mid {l r : List UInt8} {c : UInt8} (h : ∀ x ∈ l, x ≠ c) : bef c (l ++ c :: r) = l ∧ aft c (l ++ c :: r) = r := by
  have hp : ∀ x ∈ l, (x != c) = true := fun x hx => by simpa using h x hx
  unfold bef aft
  rw [List.takeWhile_append_of_pos hp, List.dropWhile_append_of_pos hp]
  simp
theorem hasE_no {l : List UInt8} (h : allDig l = true) : hasE l = false := by
  unfold hasE
  rw [List.any_eq_false]
  intro x hx
  have hd := List.all_eq_true.1 h x hx
  unfold isE
  rw [Bool.not_eq_true, Bool.eq_false_iff]
  intro hh
  have hm := List.contains_iff_mem.1 hh
  simp at hm
  rcases hm with rfl | rfl <;> simp [isDig] at hd
theorem dec_ne (N : Nat) : Lib.decDigits N ≠ [] := by
  have := txt_pos N
  rw [txt_list] at this
  intro e; rw [e] at this; simp at this
theorem isDec_bs {N : Nat} (h : (Lib.decDigits N).length ≤ 4000) : isDec (bs (Lib.decDigits N)) = true := isDec_txt h
theorem ndec_bs {N : Nat} (h : (Lib.decDigits N).length ≤ 4000) : ndec (bs (Lib.decDigits N)) = N := by
  unfold ndec; rw [isDec_bs h, if_pos rfl]; exact (dec_all N).2
/-- The text without a sign. -/
def ubody (q : Rat) : List UInt8 := if q.den = 1 then Lib.decDigits q.num.natAbs else Lib.decDigits q.num.natAbs ++ 47 :: Lib.decDigits q.den
theorem qtxt_body (q : Rat) : qtxt q = bs ((if ng q.num = true then [45] else []) ++ ubody q) := by
  apply bs_inj
  rw [bs_list]
  have hi : (itxt q.num).data.toList = (if ng q.num = true then [45] else []) ++ Lib.decDigits q.num.natAbs := by
    unfold itxt
    split
    · rw [app_list, txt_list]
    · rw [txt_list]; rfl
  unfold qtxt ubody
  split
  · exact hi
  · rw [app_list, app_list, hi, itxt_nat, bs_list, txt_list]
    simp
theorem pref_45 {l : List UInt8} (h : ∀ c r, l = c :: r → c ≠ 45) : Lib.hasPrefix l [45] = false := by
  unfold Lib.hasPrefix
  cases l with
  | nil => rfl
  | cons c r =>
    have := h c r rfl
    simp [List.isPrefixOf]
    exact fun e => this e.symm
theorem dig_head {N : Nat} {r : List UInt8} {c : UInt8} {t : List UInt8} (h : Lib.decDigits N ++ r = c :: t) : isDig c = true := by
  cases hd : Lib.decDigits N with
  | nil => exact absurd hd (dec_ne N)
  | cons a b =>
    rw [hd] at h
    have hc : a = c := by injection h
    subst hc
    have := List.all_eq_true.1 (dec_all N).1 a (by rw [hd]; simp)
    exact this
theorem ubody_head (q : Rat) : ∀ c r, ubody q = c :: r → c ≠ 45 := by
  intro c r h e
  subst e
  have : isDig 45 = true := by
    unfold ubody at h
    split at h
    · exact dig_head (r := []) (by rw [List.append_nil]; exact h)
    · exact dig_head h
  simp [isDig] at this
theorem rest_q (q : Rat) : hm (qtxt q) = ng q.num ∧ rest (qtxt q) = bs (ubody q) := by
  have hp := pref_45 (ubody_head q)
  unfold hm rest Lib.trimPrefix
  rw [qtxt_body]
  cases hg : ng q.num
  · rw [if_neg (by simp)]
    have e : (bs ([] ++ ubody q)).data.toList = ubody q := rfl
    rw [e, hp]
    exact ⟨rfl, rfl⟩
  · rw [if_pos rfl]
    have e : (bs ([45] ++ ubody q)).data.toList = 45 :: ubody q := rfl
    have h1 : Lib.hasPrefix (45 :: ubody q) [45] = true := by unfold Lib.hasPrefix; simp [List.isPrefixOf]
    rw [e, h1]
    exact ⟨rfl, rfl⟩
theorem p1_q (q : Rat) (h1 : (Lib.decDigits q.num.natAbs).length ≤ 2000) (h2 : (Lib.decDigits q.den).length ≤ 2000) :
    p1ok (bs (ubody q)) = true ∧ p1q (bs (ubody q)) = Rat.divInt (q.num.natAbs : Int) (q.den : Int) := by
  have a1 := (dec_all q.num.natAbs).1
  have n47 := dl_no a1 (c := 47) (by decide)
  have n46 := dl_no a1 (c := 46) (by decide)
  unfold p1ok p1q
  rw [bs_list]
  by_cases hd : q.den = 1
  · have eb : ubody q = Lib.decDigits q.num.natAbs := by unfold ubody; rw [if_pos hd]
    rw [eb, hasB_no n47, if_neg (by simp), if_neg (by simp)]
    have hE := hasE_no a1
    have hM : pM (bs (Lib.decDigits q.num.natAbs)) = bs (Lib.decDigits q.num.natAbs) := by unfold pM; rw [bs_list, hE]; rfl
    have hB : pdB (bs (Lib.decDigits q.num.natAbs)) = bs (Lib.decDigits q.num.natAbs) := by unfold pdB; rw [bs_list, (index_no (hasB_no n46)).2]
    have hA : pdA (bs (Lib.decDigits q.num.natAbs)) = ⟨#[]⟩ := by unfold pdA; rw [bs_list, hasB_no n46]; rfl
    have hk : pdok (bs (Lib.decDigits q.num.natAbs)) = true := by unfold pdok; rw [hB, isDec_bs (by omega), bs_list, hasB_no n46]; rfl
    have hv : pdval (bs (Lib.decDigits q.num.natAbs)) = q.num.natAbs := by
      unfold pdval; rw [hk, if_pos rfl, hB, hA, bs_list]
      show dval (Lib.decDigits q.num.natAbs ++ []) = _
      rw [List.append_nil]; exact (dec_all _).2
    have hpl : pdpl (bs (Lib.decDigits q.num.natAbs)) = 0 := by unfold pdpl; rw [hk, if_pos rfl, hA]; rfl
    have hx : psx (bs (Lib.decDigits q.num.natAbs)) = 0 := by unfold psx; rw [bs_list, hE]; rfl
    have hok : psok (bs (Lib.decDigits q.num.natAbs)) = true := by unfold psok; rw [bs_list, hE, hM, hk]; rfl
    refine ⟨hok, ?_⟩
    unfold psq
    rw [hok, if_pos rfl, hM, hv, hpl, hx, hd]
    unfold qscale
    rw [if_pos (by decide)]
    show (((q.num.natAbs * 10 ^ 0 : Nat) : Int) : Rat) = _
    rw [Nat.pow_zero, Nat.mul_one]
    exact (over_one _).symm
  · have eb : ubody q = Lib.decDigits q.num.natAbs ++ 47 :: Lib.decDigits q.den := by unfold ubody; rw [if_neg hd]
    obtain ⟨b1, b2⟩ := bef_mid (r := Lib.decDigits q.den) n47
    have hk : fok (bs (Lib.decDigits q.num.natAbs)) (bs (Lib.decDigits q.den)) = true := by
      unfold fok; rw [isDec_bs (by omega), isDec_bs (by omega), ndec_bs (by omega)]
      have := q.den_nz
      simp [this]
    rw [eb, hasB_mid, if_pos rfl, if_pos rfl, b1, b2]
    refine ⟨hk, ?_⟩
    unfold fq
    rw [hk, if_pos rfl, ndec_bs (by omega), ndec_bs (by omega)]
theorem parse_back (q : Rat) (h1 : (Lib.decDigits q.num.natAbs).length ≤ 2000) (h2 : (Lib.decDigits q.den).length ≤ 2000) : pOk (qtxt q) = true ∧ pQ (qtxt q) = q := by
  obtain ⟨r1, r2⟩ := rest_q q
  obtain ⟨k1, k2⟩ := p1_q q h1 h2
  unfold pOk pQ
  rw [r1, r2, k1, k2]
  refine ⟨rfl, ?_⟩
  cases hg : ng q.num
  · have h0 : ¬ q.num < 0 := of_decide_eq_false (show decide (q.num < 0) = false from hg)
    rw [if_neg (by simp), show (q.num.natAbs : Int) = q.num by omega]
    exact over_eq q
  · have h0 : q.num < 0 := of_decide_eq_true (show decide (q.num < 0) = true from hg)
    rw [if_pos rfl, Rat.neg_divInt, show -(q.num.natAbs : Int) = q.num by omega]
    exact over_eq q
theorem asc_q (q : Rat) : Asc (qtxt q) := by
  rw [qtxt_body]
  refine asc_all ?_
  rw [bs_list, List.all_append]
  have hdig : ∀ l : List UInt8, allDig l = true → l.all (fun b => decide (b.toNat < 128)) = true := by
    intro l h
    rw [List.all_eq_true]
    intro x hx
    have := List.all_eq_true.1 h x hx
    simp [isDig] at this ⊢
    omega
  have e1 : (if ng q.num = true then [45] else ([] : List UInt8)).all (fun b => decide (b.toNat < 128)) = true := by split <;> decide
  rw [e1, Bool.true_and]
  unfold ubody
  split
  · exact hdig _ (dec_all _).1
  · rw [List.all_append, List.all_cons, hdig _ (dec_all _).1, hdig _ (dec_all _).1]; decide
theorem qtxt_size {q : Rat} (h : Rs q 8) : (qtxt q).size ≤ 300 ∧ (Lib.decDigits q.num.natAbs).length ≤ 81 ∧ (Lib.decDigits q.den).length ≤ 81 := by
  have a := small_bn h.n
  have b := small_bn h.d
  refine ⟨?_, a, b⟩
  rw [qtxt_body, bs_size, List.length_append]
  unfold ubody
  split <;> split <;> simp <;> omega
end Go.Proofs.YtgaigebdbmohcaaGreatDoor
