/- The reference's Valid of rational; Light; the law RationalReadsBack. -/
import Derived.Test.YtlflaalefilplaaDoorM09
import Derived.Test.YtlflaalefilplaaDoorM07
import Derived.Test.YtlflaalefilplaaDoorM05
import Derived.Test.YtlflaalefilplaaDoorM06
namespace Go.Proofs.YtlflaalefilplaaDoor
open Go.RowKit RQ

def lightB (n m : Nat) : Bool := decide (n ≤ 8) && decide (m ≤ 8)
theorem is1_gcd (G : Nat) : is1 (limbs G) = (G == 1) := by
  unfold is1; rw [Bool.eq_iff_iff, beq_iff_eq, beq_iff_eq, ← limbs_is1]
  exact ⟨fun h => limbs_inj h, fun h => by rw [h]⟩
set_option maxHeartbeats 4000000 in
theorem rvalidR_any (b : Bool) (A : Option Addr) (n c : Nat) (xs : List Nat) (D : Option Addr) (m d : Nat) (ds : List Nat) (w : World) (R1 : Rd w A n c xs) (R2 : Rd w D m d ds) (hn : n ≤ 500) (hm : m ≤ 500) :
    Calls Tryd.prog 55 #[.agg #[.bool b, .slice A n c, .slice D m d]] w fun e w' => e = .returned (.bool (vldR b xs ds)) ∧ Below w.heap.size w w' := by
  have hl1 := R1.len
  have hl2 := R2.len
  have s2 := R2.sm
  have hV : Hid (∀ W, Rd W A n c xs → Calls Tryd.prog 77 #[.agg #[.bool b, .slice A n c]] W fun e w' => e = .returned (.bool (vldI b xs)) ∧ Below W.heap.size W w') := Lib.hid fun W h => rvalidI_any b A n c xs W h (by omega)
  have hU : Hid (∀ W, Rd W D m d ds → Calls Tryd.prog 68 #[.slice D m d] W fun e w' => e = .returned (.bool (vldB ds)) ∧ Below W.heap.size W w') := Lib.hid fun W h => (rvalid_any D m d ds W h (by omega)).mono fun e w' hh => ⟨hh.1, by rw [hh.2]; exact Below.refl _ _⟩
  have hO : Hid (∀ W, Rd W D m d ds → Calls Tryd.prog 60 #[.slice D m d] W fun e w' => e = .returned (.bool (is1 ds)) ∧ Below W.heap.size W w') := Lib.hid fun W h => one_any D m d ds W h
  have hG : Hid (∀ W, Rd W A n c xs → Rd W D m d ds → Calls Tryd.prog 78 #[.slice A n c, .slice D m d] W (RetN (Nat.gcd (num xs) (num ds)) W)) := Lib.hid fun W q1 q2 => rgcd_any A n c xs D m d ds W q1 q2 (by omega) (by omega)
  have hP := Lib.hid (fun W A n c q => one_any A n c (limbs (Nat.gcd (num xs) (num ds))) W q)
  have S : St w _ [(w.heap.size, #[.bool b, .slice A n c, .slice D m d], 44)] [(D, m, d, ds), (A, n, c, xs)] := ((((St.new w).read R1).read R2).allocAt (w.heap.size) #[.bool b, .slice A n c, .slice D m d] 44 (noL3 _ _ _ _ _ _ _) (by simp))
  replace S := Lib.hid S
  clear R1 R2
  cases hb : vldI b xs
  · have hr : Hid (vldR b xs ds = false) := Lib.hid (by unfold vldR; rw [hb]; rfl)
    rw [hb] at hV
    clear hU hO hG hP hb hl1 hl2 s2 hn hm
    go_enter Tryd.func55, Tryd.ntmps55
    go_wp2_with fail
    refine (hV.out _ (S.out.r 1 rfl)).mono ?_
    rintro e w1 ⟨rfl, bb⟩
    have T := (S.out.call bb)
    clear bb S
    have S := T
    clear T
    have c_x0 := S.cl 0 0 rfl rfl
    have f_x0 := S.f 0 0 rfl
    have c_x1 := S.cl 0 1 rfl rfl
    have f_x1 := S.f 0 1 rfl
    have c_x2 := S.cl 0 2 rfl rfl
    have f_x2 := S.f 0 2 rfl
    have hz : w.heap.size < w1.heap.size := S.lt 0 rfl
    replace S := Lib.hid S
    have S : St w _ [(w.heap.size, #[.bool b, .slice A n c, .slice D m d], 44)] [(D, m, d, ds), (A, n, c, xs)] := S.out
    replace S := Lib.hid S
    go_wp2
    go_ret
    exact ⟨congrArg (fun q => Ending.returned (.bool q)) hr.out.symm, S.out.bel⟩
  cases hd : vldB ds
  · have hne : ds ≠ [] := by rintro rfl; simp [vldB] at hd
    have hr : Hid (vldR b xs ds = false) := Lib.hid (by rw [vldR_row hne, hd]; simp)
    rw [hb] at hV
    rw [hd] at hU
    clear hO hG hP hb hd hne hl1 hl2 s2 hn hm
    go_enter Tryd.func55, Tryd.ntmps55
    go_wp2_with fail
    refine (hV.out _ (S.out.r 1 rfl)).mono ?_
    rintro e w1 ⟨rfl, bb⟩
    have T := (S.out.call bb)
    clear bb S
    have S := T
    clear T
    have c_x0 := S.cl 0 0 rfl rfl
    have f_x0 := S.f 0 0 rfl
    have c_x1 := S.cl 0 1 rfl rfl
    have f_x1 := S.f 0 1 rfl
    have c_x2 := S.cl 0 2 rfl rfl
    have f_x2 := S.f 0 2 rfl
    have hz : w.heap.size < w1.heap.size := S.lt 0 rfl
    replace S := Lib.hid S
    go_wp2_with fail
    refine (hU.out _ (S.out.r 0 rfl)).mono ?_
    rintro e w2 ⟨rfl, bb⟩
    have T := (S.out.call bb)
    clear bb S c_x0 f_x0 c_x1 f_x1 c_x2 f_x2 hz
    have S := T
    clear T
    have c_x0 := S.cl 0 0 rfl rfl
    have f_x0 := S.f 0 0 rfl
    have c_x1 := S.cl 0 1 rfl rfl
    have f_x1 := S.f 0 1 rfl
    have c_x2 := S.cl 0 2 rfl rfl
    have f_x2 := S.f 0 2 rfl
    have hz : w.heap.size < w2.heap.size := S.lt 0 rfl
    replace S := Lib.hid S
    have S : St w _ [(w.heap.size, #[.bool b, .slice A n c, .slice D m d], 44)] [(D, m, d, ds), (A, n, c, xs)] := S.out
    replace S := Lib.hid S
    go_wp2
    go_ret
    exact ⟨congrArg (fun q => Ending.returned (.bool q)) hr.out.symm, S.out.bel⟩
  cases h1 : is1 ds
  case true =>
    have hne : ds ≠ [] := by rintro rfl; simp [is1] at h1
    have hr : Hid (vldR b xs ds = false) := Lib.hid (by rw [vldR_row hne, hd, h1]; simp)
    rw [hb] at hV
    rw [hd] at hU
    rw [h1] at hO
    clear hG hP hb hd h1 hne hl1 hl2 s2 hn hm
    go_enter Tryd.func55, Tryd.ntmps55
    go_wp2_with fail
    refine (hV.out _ (S.out.r 1 rfl)).mono ?_
    rintro e w1 ⟨rfl, bb⟩
    have T := (S.out.call bb)
    clear bb S
    have S := T
    clear T
    have c_x0 := S.cl 0 0 rfl rfl
    have f_x0 := S.f 0 0 rfl
    have c_x1 := S.cl 0 1 rfl rfl
    have f_x1 := S.f 0 1 rfl
    have c_x2 := S.cl 0 2 rfl rfl
    have f_x2 := S.f 0 2 rfl
    have hz : w.heap.size < w1.heap.size := S.lt 0 rfl
    replace S := Lib.hid S
    go_wp2_with fail
    refine (hU.out _ (S.out.r 0 rfl)).mono ?_
    rintro e w2 ⟨rfl, bb⟩
    have T := (S.out.call bb)
    clear bb S c_x0 f_x0 c_x1 f_x1 c_x2 f_x2 hz
    have S := T
    clear T
    have c_x0 := S.cl 0 0 rfl rfl
    have f_x0 := S.f 0 0 rfl
    have c_x1 := S.cl 0 1 rfl rfl
    have f_x1 := S.f 0 1 rfl
    have c_x2 := S.cl 0 2 rfl rfl
    have f_x2 := S.f 0 2 rfl
    have hz : w.heap.size < w2.heap.size := S.lt 0 rfl
    replace S := Lib.hid S
    go_wp2_with fail
    refine (hO.out _ (S.out.r 0 rfl)).mono ?_
    rintro e w3 ⟨rfl, bb⟩
    have T := (S.out.call bb)
    clear bb S c_x0 f_x0 c_x1 f_x1 c_x2 f_x2 hz
    have S := T
    clear T
    have c_x0 := S.cl 0 0 rfl rfl
    have f_x0 := S.f 0 0 rfl
    have c_x1 := S.cl 0 1 rfl rfl
    have f_x1 := S.f 0 1 rfl
    have c_x2 := S.cl 0 2 rfl rfl
    have f_x2 := S.f 0 2 rfl
    have hz : w.heap.size < w3.heap.size := S.lt 0 rfl
    replace S := Lib.hid S
    have S : St w _ [(w.heap.size, #[.bool b, .slice A n c, .slice D m d], 44)] [(D, m, d, ds), (A, n, c, xs)] := S.out
    replace S := Lib.hid S
    go_wp2
    go_ret
    exact ⟨congrArg (fun q => Ending.returned (.bool q)) hr.out.symm, S.out.bel⟩
  by_cases h0 : m = 0
  · have hd0 : ds = [] := List.eq_nil_of_length_eq_zero (by omega)
    have hr : Hid (vldR b xs ds = true) := Lib.hid (by rw [hd0, vldR_nil, hb])
    have g0 : ((m : Int) == 0) = true := by rw [beq_iff_eq]; omega
    rw [hb] at hV
    rw [hd] at hU
    rw [h1] at hO
    clear hG hP hb hd h1 hd0 h0 hl1 hl2 s2 hn hm
    go_enter Tryd.func55, Tryd.ntmps55
    go_wp2_with fail
    refine (hV.out _ (S.out.r 1 rfl)).mono ?_
    rintro e w1 ⟨rfl, bb⟩
    have T := (S.out.call bb)
    clear bb S
    have S := T
    clear T
    have c_x0 := S.cl 0 0 rfl rfl
    have f_x0 := S.f 0 0 rfl
    have c_x1 := S.cl 0 1 rfl rfl
    have f_x1 := S.f 0 1 rfl
    have c_x2 := S.cl 0 2 rfl rfl
    have f_x2 := S.f 0 2 rfl
    have hz : w.heap.size < w1.heap.size := S.lt 0 rfl
    replace S := Lib.hid S
    go_wp2_with fail
    refine (hU.out _ (S.out.r 0 rfl)).mono ?_
    rintro e w2 ⟨rfl, bb⟩
    have T := (S.out.call bb)
    clear bb S c_x0 f_x0 c_x1 f_x1 c_x2 f_x2 hz
    have S := T
    clear T
    have c_x0 := S.cl 0 0 rfl rfl
    have f_x0 := S.f 0 0 rfl
    have c_x1 := S.cl 0 1 rfl rfl
    have f_x1 := S.f 0 1 rfl
    have c_x2 := S.cl 0 2 rfl rfl
    have f_x2 := S.f 0 2 rfl
    have hz : w.heap.size < w2.heap.size := S.lt 0 rfl
    replace S := Lib.hid S
    go_wp2_with fail
    refine (hO.out _ (S.out.r 0 rfl)).mono ?_
    rintro e w3 ⟨rfl, bb⟩
    have T := (S.out.call bb)
    clear bb S c_x0 f_x0 c_x1 f_x1 c_x2 f_x2 hz
    have S := T
    clear T
    have c_x0 := S.cl 0 0 rfl rfl
    have f_x0 := S.f 0 0 rfl
    have c_x1 := S.cl 0 1 rfl rfl
    have f_x1 := S.f 0 1 rfl
    have c_x2 := S.cl 0 2 rfl rfl
    have f_x2 := S.f 0 2 rfl
    have hz : w.heap.size < w3.heap.size := S.lt 0 rfl
    replace S := Lib.hid S
    have S : St w _ [(w.heap.size, #[.bool b, .slice A n c, .slice D m d], 44)] [(D, m, d, ds), (A, n, c, xs)] := S.out
    replace S := Lib.hid S
    go_wp2
    go_ret
    exact ⟨congrArg (fun q => Ending.returned (.bool q)) hr.out.symm, S.out.bel⟩
  have hne : ds ≠ [] := by rintro rfl; exact h0 hl2.symm
  have g0 : ((m : Int) == 0) = false := by rw [beq_eq_false_iff_ne]; omega
  have hvd : num ds = val ds := by unfold num; rw [hd]; rfl
  have hvx : num xs = val xs := by unfold num; rw [(vldI_parts hb).1]; rfl
  have hr0 : vldR b xs ds = (Nat.gcd (val xs) (val ds) == 1) := by rw [vldR_row hne, hb, hd, h1]; simp
  by_cases hn0 : n = 0
  · have hx0 : xs = [] := List.eq_nil_of_length_eq_zero (by omega)
    have hr : Hid (vldR b xs ds = false) := Lib.hid (by
      rw [hr0, hx0, show val [] = 0 from rfl, Nat.gcd_zero_left, beq_eq_false_iff_ne]
      intro e
      rw [is1_val s2 hd, e] at h1
      simp at h1)
    have gn : (n : Int) ≤ 0 := by omega
    have gn2 : ((n : Int)) = 0 := by omega
    subst hn0
    rw [hb] at hV
    rw [hd] at hU
    rw [h1] at hO
    clear hG hP hb hd h1 h0 hl1 hl2 s2 hn hm hne hvd hvx hr0 hx0 gn gn2
    go_enter Tryd.func55, Tryd.ntmps55
    go_wp2_with fail
    refine (hV.out _ (S.out.r 1 rfl)).mono ?_
    rintro e w1 ⟨rfl, bb⟩
    have T := (S.out.call bb)
    clear bb S
    have S := T
    clear T
    have c_x0 := S.cl 0 0 rfl rfl
    have f_x0 := S.f 0 0 rfl
    have c_x1 := S.cl 0 1 rfl rfl
    have f_x1 := S.f 0 1 rfl
    have c_x2 := S.cl 0 2 rfl rfl
    have f_x2 := S.f 0 2 rfl
    have hz : w.heap.size < w1.heap.size := S.lt 0 rfl
    replace S := Lib.hid S
    go_wp2_with fail
    refine (hU.out _ (S.out.r 0 rfl)).mono ?_
    rintro e w2 ⟨rfl, bb⟩
    have T := (S.out.call bb)
    clear bb S c_x0 f_x0 c_x1 f_x1 c_x2 f_x2 hz
    have S := T
    clear T
    have c_x0 := S.cl 0 0 rfl rfl
    have f_x0 := S.f 0 0 rfl
    have c_x1 := S.cl 0 1 rfl rfl
    have f_x1 := S.f 0 1 rfl
    have c_x2 := S.cl 0 2 rfl rfl
    have f_x2 := S.f 0 2 rfl
    have hz : w.heap.size < w2.heap.size := S.lt 0 rfl
    replace S := Lib.hid S
    go_wp2_with fail
    refine (hO.out _ (S.out.r 0 rfl)).mono ?_
    rintro e w3 ⟨rfl, bb⟩
    have T := (S.out.call bb)
    clear bb S c_x0 f_x0 c_x1 f_x1 c_x2 f_x2 hz
    have S := T
    clear T
    have c_x0 := S.cl 0 0 rfl rfl
    have f_x0 := S.f 0 0 rfl
    have c_x1 := S.cl 0 1 rfl rfl
    have f_x1 := S.f 0 1 rfl
    have c_x2 := S.cl 0 2 rfl rfl
    have f_x2 := S.f 0 2 rfl
    have hz : w.heap.size < w3.heap.size := S.lt 0 rfl
    replace S := Lib.hid S
    have S : St w _ [(w.heap.size, #[.bool b, .slice A 0 c, .slice D m d], 44)] [(D, m, d, ds), (A, 0, c, xs)] := S.out
    replace S := Lib.hid S
    go_wp2
    go_ret
    exact ⟨congrArg (fun q => Ending.returned (.bool q)) hr.out.symm, S.out.bel⟩
  have hr : Hid (vldR b xs ds = is1 (limbs (Nat.gcd (num xs) (num ds)))) := Lib.hid (by rw [hr0, is1_gcd, hvd, hvx])
  have gn : (0 : Int) < (n : Int) := by omega
  have gn2 : 0 < n := by omega
  generalize Nat.gcd (num xs) (num ds) = G at hG hP hr
  rw [hb] at hV
  rw [hd] at hU
  rw [h1] at hO
  clear hb hd h1 h0 hl1 hl2 s2 hn hm hne hvd hvx hr0 hn0
  go_enter Tryd.func55, Tryd.ntmps55
  go_wp2_with fail
  refine (hV.out _ (S.out.r 1 rfl)).mono ?_
  rintro e w1 ⟨rfl, bb⟩
  have T := (S.out.call bb)
  clear bb S
  have S := T
  clear T
  have c_x0 := S.cl 0 0 rfl rfl
  have f_x0 := S.f 0 0 rfl
  have c_x1 := S.cl 0 1 rfl rfl
  have f_x1 := S.f 0 1 rfl
  have c_x2 := S.cl 0 2 rfl rfl
  have f_x2 := S.f 0 2 rfl
  have hz : w.heap.size < w1.heap.size := S.lt 0 rfl
  replace S := Lib.hid S
  go_wp2_with fail
  refine (hU.out _ (S.out.r 0 rfl)).mono ?_
  rintro e w2 ⟨rfl, bb⟩
  have T := (S.out.call bb)
  clear bb S c_x0 f_x0 c_x1 f_x1 c_x2 f_x2 hz
  have S := T
  clear T
  have c_x0 := S.cl 0 0 rfl rfl
  have f_x0 := S.f 0 0 rfl
  have c_x1 := S.cl 0 1 rfl rfl
  have f_x1 := S.f 0 1 rfl
  have c_x2 := S.cl 0 2 rfl rfl
  have f_x2 := S.f 0 2 rfl
  have hz : w.heap.size < w2.heap.size := S.lt 0 rfl
  replace S := Lib.hid S
  go_wp2_with fail
  refine (hO.out _ (S.out.r 0 rfl)).mono ?_
  rintro e w3 ⟨rfl, bb⟩
  have T := (S.out.call bb)
  clear bb S c_x0 f_x0 c_x1 f_x1 c_x2 f_x2 hz
  have S := T
  clear T
  have c_x0 := S.cl 0 0 rfl rfl
  have f_x0 := S.f 0 0 rfl
  have c_x1 := S.cl 0 1 rfl rfl
  have f_x1 := S.f 0 1 rfl
  have c_x2 := S.cl 0 2 rfl rfl
  have f_x2 := S.f 0 2 rfl
  have hz : w.heap.size < w3.heap.size := S.lt 0 rfl
  replace S := Lib.hid S
  go_wp2_with fail
  refine (hG.out _ (S.out.r 1 rfl) (S.out.r 0 rfl)).mono ?_
  rintro e w4 ⟨A3, n3, c3, rfl, Q3, bb⟩
  have T := ((S.out.call bb).read Q3)
  clear bb S c_x0 f_x0 c_x1 f_x1 c_x2 f_x2 hz
  have S := T
  clear T
  have c_x0 := S.cl 0 0 rfl rfl
  have f_x0 := S.f 0 0 rfl
  have c_x1 := S.cl 0 1 rfl rfl
  have f_x1 := S.f 0 1 rfl
  have c_x2 := S.cl 0 2 rfl rfl
  have f_x2 := S.f 0 2 rfl
  have hz : w.heap.size < w4.heap.size := S.lt 0 rfl
  replace S := Lib.hid S
  go_wp2_with fail
  refine (hP.out _ A3 n3 c3 (S.out.r 0 rfl)).mono ?_
  rintro e w5 ⟨rfl, bb⟩
  have T := (S.out.call bb)
  clear bb S c_x0 f_x0 c_x1 f_x1 c_x2 f_x2 hz
  have S := T
  clear T
  have c_x0 := S.cl 0 0 rfl rfl
  have f_x0 := S.f 0 0 rfl
  have c_x1 := S.cl 0 1 rfl rfl
  have f_x1 := S.f 0 1 rfl
  have c_x2 := S.cl 0 2 rfl rfl
  have f_x2 := S.f 0 2 rfl
  have hz : w.heap.size < w5.heap.size := S.lt 0 rfl
  replace S := Lib.hid S
  have S : St w _ [(w.heap.size, #[.bool b, .slice A n c, .slice D m d], 44)] [(A3, n3, c3, limbs G), (D, m, d, ds), (A, n, c, xs)] := S.out
  replace S := Lib.hid S
  go_wp2
  go_ret
  exact ⟨congrArg (fun q => Ending.returned (.bool q)) hr.out.symm, S.out.bel⟩

theorem rv_canon {b : Bool} {xs ds : List Nat} (h1 : Sm xs) (h2 : Sm ds) (h : vldR b xs ds = true) : ∃ q : Rat, b = ng q.num ∧ xs = limbs q.num.natAbs ∧ ds = dn q := ⟨rv b xs ds, canonR h1 h2 h⟩
theorem Rs.ofRow {q : Rat} {p : Nat} (h1 : (limbs q.num.natAbs).length ≤ p) (h2 : (dn q).length ≤ p) (hp : 1 ≤ p) : Rs q p := by
  refine ⟨limbs_len_le.1 h1, ?_⟩
  unfold dn at h2
  split at h2
  · rename_i e; rw [e]; have := pow_mono hp; omega
  · exact limbs_len_le.1 h2
end Go.Proofs.YtlflaalefilplaaDoor
namespace Go.Proofs.YtlflaalefilplaaDoor
open Go.RowKit RQ
theorem rvalidQ (q : Rat) (A : Option Addr) (n c : Nat) (D : Option Addr) (m d : Nat) (W : World) (h : RR W A n c D m d q) (hs : Rs q 200) : Calls Tryd.prog 55 #[.agg #[.bool (ng q.num), .slice A n c, .slice D m d]] W (fun e w' => e = .returned (.bool true) ∧ Below W.heap.size W w') := by
  have l := h.lens hs
  have := rvalidR_any (ng q.num) A n c _ D m d _ W h.n h.d (by omega) (by omega)
  rwa [vldR_z] at this
theorem dn_inj {q r : Rat} (h : dn q = dn r) : q.den = r.den := by rw [← dv_dn, ← dv_dn, h]
theorem same_parts (q r : Rat) : ((decide (ng q.num = ng r.num) && decide (limbs q.num.natAbs = limbs r.num.natAbs)) && decide (dn q = dn r)) = decide (q = r) := by
  rw [Bool.eq_iff_iff]
  simp only [Bool.and_eq_true, decide_eq_true_eq]
  constructor
  · rintro ⟨⟨h1, h2⟩, h3⟩
    have e1 := limbs_inj1 h2
    have e2 : q.num = r.num := by rw [← sg_ng q.num, ← sg_ng r.num, h1, e1]
    exact Rat.ext e2 (dn_inj h3)
  · rintro rfl; exact ⟨⟨rfl, rfl⟩, rfl⟩

set_option maxHeartbeats 4000000 in
theorem same2_any (b : Bool) (A : Option Addr) (n c : Nat) (xs : List Nat) (b' : Bool) (A' : Option Addr) (n' c' : Nat) (ys : List Nat) (w : World) (R1 : Rd w A n c xs) (R2 : Rd w A' n' c' ys) (hn : n ≤ 10000) (hn' : n' ≤ 10000) :
    Calls Tryd.prog 36 #[.agg #[.bool b, .slice A n c], .agg #[.bool b', .slice A' n' c']] w fun e w' => e = .returned (.bool (decide (b = b') && decide (xs = ys))) ∧ Below w.heap.size w w' := by
  have hS := Lib.hid (fun W p1 p2 => same1_any A n c A' n' c' xs ys W p1 p2 (by omega) (by omega))
  have S : St w _ [(w.heap.size + 1, #[.bool b', .slice A' n' c'], 42), (w.heap.size, #[.bool b, .slice A n c], 42)] [(A', n', c', ys), (A, n, c, xs)] := (((((St.new w).read R1).read R2).allocAt (w.heap.size) #[.bool b, .slice A n c] 42 (noL2 _ _ _ _) (by simp)).allocAt (w.heap.size + 1) #[.bool b', .slice A' n' c'] 42 (noL2 _ _ _ _) (by simp))
  replace S := Lib.hid S
  clear R1 R2 hn hn'
  generalize decide (xs = ys) = eq at *
  have hb : ((b : Bool) == b') = decide (b = b') := by cases b <;> cases b' <;> rfl
  cases hbb : decide (b = b')
  · rw [hbb] at hb
    clear hbb hS
    have B := Lib.hid S.out.bel
    go_enter Tryd.func36, Tryd.ntmps36
    go_wp2
    go_ret
    exact ⟨rfl, B.out⟩
  · rw [hbb] at hb
    clear hbb
    rw [Bool.true_and]
    go_enter Tryd.func36, Tryd.ntmps36
    go_wp2_with fail
    refine (hS.out _ (S.out.r 1 rfl) (S.out.r 0 rfl)).mono ?_
    rintro e w1 ⟨rfl, bb⟩
    have T := (S.out.call bb)
    clear bb S
    have S := T
    clear T
    have c_y0 := S.cl 0 0 rfl rfl
    have f_y0 := S.f 0 0 rfl
    have c_y1 := S.cl 0 1 rfl rfl
    have f_y1 := S.f 0 1 rfl
    have c_x0 := S.cl 1 0 rfl rfl
    have f_x0 := S.f 1 0 rfl
    have c_x1 := S.cl 1 1 rfl rfl
    have f_x1 := S.f 1 1 rfl
    have hz : w.heap.size + 1 < w1.heap.size := S.lt 0 rfl
    replace S := Lib.hid S
    have B := Lib.hid S.out.bel
    go_wp2
    go_ret
    exact ⟨rfl, B.out⟩

set_option maxHeartbeats 4000000 in
theorem sameQ (q r : Rat) (A : Option Addr) (n c : Nat) (D : Option Addr) (m d : Nat) (A' : Option Addr) (n' c' : Nat) (D' : Option Addr) (m' d' : Nat) (w : World) (X : RR w A n c D m d q) (Y : RR w A' n' c' D' m' d' r) (hs : Rs q 200) (hs' : Rs r 200) :
    Calls Tryd.prog 18 #[.agg #[.bool (ng q.num), .slice A n c, .slice D m d], .agg #[.bool (ng r.num), .slice A' n' c', .slice D' m' d']] w fun e w' => e = .returned (.bool (decide (q = r))) ∧ Below w.heap.size w w' := by
  have l := X.lens hs
  have l' := Y.lens hs'
  have hS := Lib.hid (fun W p1 p2 => same2_any (ng q.num) A n c (limbs q.num.natAbs) (ng r.num) A' n' c' (limbs r.num.natAbs) W p1 p2 (by omega) (by omega))
  have hT := Lib.hid (fun W p1 p2 => same1_any D m d D' m' d' (dn q) (dn r) W p1 p2 (by omega) (by omega))
  have R1 := X.n
  have R2 := X.d
  have R3 := Y.n
  have R4 := Y.d
  rw [← same_parts]
  have S : St w _ [(w.heap.size + 1, #[.bool (ng r.num), .slice A' n' c', .slice D' m' d'], 44), (w.heap.size, #[.bool (ng q.num), .slice A n c, .slice D m d], 44)] [(D', m', d', dn r), (A', n', c', limbs r.num.natAbs), (D, m, d, dn q), (A, n, c, limbs q.num.natAbs)] := (((((((St.new w).read R1).read R2).read R3).read R4).allocAt (w.heap.size) #[.bool (ng q.num), .slice A n c, .slice D m d] 44 (noL3 _ _ _ _ _ _ _) (by simp)).allocAt (w.heap.size + 1) #[.bool (ng r.num), .slice A' n' c', .slice D' m' d'] 44 (noL3 _ _ _ _ _ _ _) (by simp))
  replace S := Lib.hid S
  clear X Y R1 R2 R3 R4 l l' hs hs'
  generalize decide (dn q = dn r) = e2 at *
  generalize (decide (ng q.num = ng r.num) && decide (limbs q.num.natAbs = limbs r.num.natAbs)) = e1 at *
  cases e1
  · clear hT
    go_enter Tryd.func18, Tryd.ntmps18
    go_wp2_with fail
    refine (hS.out _ (S.out.r 3 rfl) (S.out.r 1 rfl)).mono ?_
    rintro e w1 ⟨rfl, bb⟩
    have T := (S.out.call bb)
    clear bb S
    have S := T
    clear T
    have c_y0 := S.cl 0 0 rfl rfl
    have f_y0 := S.f 0 0 rfl
    have c_y1 := S.cl 0 1 rfl rfl
    have f_y1 := S.f 0 1 rfl
    have c_y2 := S.cl 0 2 rfl rfl
    have f_y2 := S.f 0 2 rfl
    have c_x0 := S.cl 1 0 rfl rfl
    have f_x0 := S.f 1 0 rfl
    have c_x1 := S.cl 1 1 rfl rfl
    have f_x1 := S.f 1 1 rfl
    have c_x2 := S.cl 1 2 rfl rfl
    have f_x2 := S.f 1 2 rfl
    have hz : w.heap.size + 1 < w1.heap.size := S.lt 0 rfl
    replace S := Lib.hid S
    clear hS
    have B := Lib.hid S.out.bel
    go_wp2
    go_ret
    exact ⟨rfl, B.out⟩
  · rw [Bool.true_and]
    go_enter Tryd.func18, Tryd.ntmps18
    go_wp2_with fail
    refine (hS.out _ (S.out.r 3 rfl) (S.out.r 1 rfl)).mono ?_
    rintro e w1 ⟨rfl, bb⟩
    have T := (S.out.call bb)
    clear bb S
    have S := T
    clear T
    have c_y0 := S.cl 0 0 rfl rfl
    have f_y0 := S.f 0 0 rfl
    have c_y1 := S.cl 0 1 rfl rfl
    have f_y1 := S.f 0 1 rfl
    have c_y2 := S.cl 0 2 rfl rfl
    have f_y2 := S.f 0 2 rfl
    have c_x0 := S.cl 1 0 rfl rfl
    have f_x0 := S.f 1 0 rfl
    have c_x1 := S.cl 1 1 rfl rfl
    have f_x1 := S.f 1 1 rfl
    have c_x2 := S.cl 1 2 rfl rfl
    have f_x2 := S.f 1 2 rfl
    have hz : w.heap.size + 1 < w1.heap.size := S.lt 0 rfl
    replace S := Lib.hid S
    clear hS
    go_wp2_with fail
    refine (hT.out _ (S.out.r 2 rfl) (S.out.r 0 rfl)).mono ?_
    rintro e w2 ⟨rfl, bb⟩
    have T := (S.out.call bb)
    clear bb S c_y0 f_y0 c_y1 f_y1 c_y2 f_y2 c_x0 f_x0 c_x1 f_x1 c_x2 f_x2 hz
    have S := T
    clear T
    have c_y0 := S.cl 0 0 rfl rfl
    have f_y0 := S.f 0 0 rfl
    have c_y1 := S.cl 0 1 rfl rfl
    have f_y1 := S.f 0 1 rfl
    have c_y2 := S.cl 0 2 rfl rfl
    have f_y2 := S.f 0 2 rfl
    have c_x0 := S.cl 1 0 rfl rfl
    have f_x0 := S.f 1 0 rfl
    have c_x1 := S.cl 1 1 rfl rfl
    have f_x1 := S.f 1 1 rfl
    have c_x2 := S.cl 1 2 rfl rfl
    have f_x2 := S.f 1 2 rfl
    have hz : w.heap.size + 1 < w2.heap.size := S.lt 0 rfl
    replace S := Lib.hid S
    clear hT
    have B := Lib.hid S.out.bel
    go_wp2
    go_ret
    exact ⟨rfl, B.out⟩
end Go.Proofs.YtlflaalefilplaaDoor
namespace Go.Proofs.YtlflaalefilplaaDoor
open Go.RowKit RQ
theorem res_rtake (W : World) (tmps : Array Value) (g t : Nat) {v0 v1 v2 : Value} (ht : tmps.getD 2 undef = .pointer (some ⟨g, 0, none⟩)) (h : Cb W g #[v0, v1, v2] t) :
    (results Tryd.f31 tmps).run Tryd.prog W = .ok (.agg #[v0, v1, v2]) W := by
  have c0 : W.cell? ⟨g, 0, none⟩ = some v0 := h.cell rfl
  have c1 : W.cell? ⟨g, 1, none⟩ = some v1 := h.cell rfl
  have c2 : W.cell? ⟨g, 2, none⟩ = some v2 := h.cell rfl
  have ht' : tmps[2]?.getD undef = .pointer (some ⟨g, 0, none⟩) := by rw [← ht]; simp [Array.getD_eq_getD_getElem?]
  simp [results, Tryd.results31, go_sem, ht', c0, c1, c2]

theorem num_dn (q : Rat) : limbs (num (dn q)) = dn q := by
  unfold dn
  split
  · rw [show num [] = 0 from rfl, limbs_zero]
  · rw [show num (limbs q.den) = val (limbs q.den) by unfold num; rw [vldB_limbs]; rfl, val_limbs]
set_option maxRecDepth 100000 in
set_option maxHeartbeats 4000000 in
theorem rtakeR_any (b : Bool) (A : Option Addr) (n c : Nat) (xs : List Nat) (D : Option Addr) (m d : Nat) (ds : List Nat) (w : World) (R1 : Rd w A n c xs) (R2 : Rd w D m d ds) (hn : n ≤ 200) (hm : m ≤ 200) : Calls Tryd.prog 31 #[.agg #[.bool b, .slice A n c, .slice D m d]] w (RetR (rv b xs ds) w) := by
  have hV := fun W q1 q2 => rvalidR_any b A n c xs D m d ds W q1 q2 (by omega) (by omega)
  have S : St w _ [(w.heap.size + 1, #[.bool false, .slice none 0 0, .slice none 0 0], 44), (w.heap.size, #[.bool b, .slice A n c, .slice D m d], 44)] [(D, m, d, ds), (A, n, c, xs)] := (((((St.new w).read R1).read R2).allocAt (w.heap.size) #[.bool b, .slice A n c, .slice D m d] 44 (noL3 _ _ _ _ _ _ _) (by simp)).allocAt (w.heap.size + 1) #[.bool false, .slice none 0 0, .slice none 0 0] 44 (noL3 _ _ _ _ _ _ _) (by simp))
  replace S := Lib.hid S
  cases hv : vldR b xs ds
  · rw [hv] at hV
    rw [rv_no hv]
    replace hV := Lib.hid hV
    clear hv R1 R2 hn hm
    go_enter Tryd.func31, Tryd.ntmps31
    go_wp2_with fail
    refine (hV.out _ (S.out.r 1 rfl) (S.out.r 0 rfl)).mono ?_
    rintro e w1 ⟨rfl, bb⟩
    have T := (S.out.call bb)
    clear bb S
    have S := T
    clear T
    have c_r0 := S.cl 0 0 rfl rfl
    have f_r0 := S.f 0 0 rfl
    have c_r1 := S.cl 0 1 rfl rfl
    have f_r1 := S.f 0 1 rfl
    have c_r2 := S.cl 0 2 rfl rfl
    have f_r2 := S.f 0 2 rfl
    have c_x0 := S.cl 1 0 rfl rfl
    have f_x0 := S.f 1 0 rfl
    have c_x1 := S.cl 1 1 rfl rfl
    have f_x1 := S.f 1 1 rfl
    have c_x2 := S.cl 1 2 rfl rfl
    have f_x2 := S.f 1 2 rfl
    have hz : w.heap.size + 1 < w1.heap.size := S.lt 0 rfl
    replace S := Lib.hid S
    clear hV
    have S : St w _ [(w.heap.size + 1, #[.bool false, .slice none 0 0, .slice none 0 0], 44), (w.heap.size, #[.bool b, .slice A n c, .slice D m d], 44)] [(D, m, d, ds), (A, n, c, xs)] := (((S.out.set 0 0 (.bool false) rfl (by nofun)).set 0 1 (.slice none 0 0) rfl (by nofun)).set 0 2 (.slice none 0 0) rfl (by nofun))
    replace S := Lib.hid S
    go_wp2
    refine bodyPost_ret (res_rtake _ _ (w.heap.size + 1) 44 rfl (S.out.bk _ (List.mem_of_getElem? (i := 0) rfl)).1) rfl ?_
    exact ⟨_, _, _, _, _, _, rfl, zero_RR _ _ _ _ _, S.out.bel⟩
  rw [hv] at hV
  obtain ⟨e1, e2, e3⟩ := canonR R1.sm R2.sm hv
  generalize rv b xs ds = q at *
  subst e1; subst e2; subst e3
  have h2 : Hid (∀ W, Rd W A n c (limbs q.num.natAbs) → Calls Tryd.prog 56 #[.agg #[.bool (ng q.num), .slice A n c]] W (RetI q.num W)) := Lib.hid fun W p => by
    have := takeI_any (ng q.num) A n c _ W p (by omega)
    rwa [iv_z] at this
  have h1 : Hid (∀ W, Rd W D m d (dn q) → Calls Tryd.prog 49 #[.slice D m d] W fun e w' => ∃ A' n' c', e = .returned (.slice A' n' c') ∧ Rd w' A' n' c' (dn q) ∧ Below W.heap.size W w') := Lib.hid fun W p => (take_any D m d _ W p (by omega)).mono fun e w' h => by
    obtain ⟨A', n', c', he, hr, hb, _⟩ := h
    rw [num_dn] at hr
    exact ⟨A', n', c', he, hr, hb⟩
  replace hV := Lib.hid hV
  clear hv R1 R2 hn hm
  go_enter Tryd.func31, Tryd.ntmps31
  go_wp2_with fail
  refine (hV.out _ (S.out.r 1 rfl) (S.out.r 0 rfl)).mono ?_
  rintro e w1 ⟨rfl, bb⟩
  have T := (S.out.call bb)
  clear bb S
  have S := T
  clear T
  have c_r0 := S.cl 0 0 rfl rfl
  have f_r0 := S.f 0 0 rfl
  have c_r1 := S.cl 0 1 rfl rfl
  have f_r1 := S.f 0 1 rfl
  have c_r2 := S.cl 0 2 rfl rfl
  have f_r2 := S.f 0 2 rfl
  have c_x0 := S.cl 1 0 rfl rfl
  have f_x0 := S.f 1 0 rfl
  have c_x1 := S.cl 1 1 rfl rfl
  have f_x1 := S.f 1 1 rfl
  have c_x2 := S.cl 1 2 rfl rfl
  have f_x2 := S.f 1 2 rfl
  have hz : w.heap.size + 1 < w1.heap.size := S.lt 0 rfl
  replace S := Lib.hid S
  clear hV
  go_upto_region 3 with fail
  clear c_r0 f_r0 c_r1 f_r1 c_r2 f_r2 c_x0 f_x0 c_x1 f_x1 c_x2 f_x2 hz
  refine RW.begin (Z := []) (S := (fun W => Cb W (w.heap.size) #[.bool (ng q.num), .slice A n c, .slice D m d] 44)) (by kernel_rfl) ?_ S.out ?_
  · exact ⟨by kernel_rfl, zis_nil, by decide, by decide, nol_nil, (fun _ _ h => h.kb 1 rfl)⟩
  intro hzk
  clear S
  refine RW.t (i := 0) (v := .pointer (some ⟨w.heap.size, 0, none⟩)) (some 7) at0 (hy := fun _ _ => by kernel_rfl) (h := ?_)
  refine RW.t (i := 1) (v := .agg #[.bool (ng q.num), .slice A n c]) (some 8) at1 (hy := fun W hS => by (have k0 := Cb.cell (i := 0) hS rfl; have k1 := Cb.cell (i := 1) hS rfl; clear hS; go_simp)) (h := ?_)
  refine RW.t (i := 3) (v := .pointer (some ⟨w.heap.size, 2, none⟩)) (some 10) at3 (hy := fun _ _ => by kernel_rfl) (h := ?_)
  refine RW.t (i := 4) (v := .slice D m d) (some 11) at4 (hy := fun W hS => by (have k2 := Cb.cell (i := 2) hS rfl; clear hS; go_simp)) (h := ?_)
  refine RW.c (i := 2) (args := #[.agg #[.bool (ng q.num), .slice A n c]]) (some 9) hzk.out at2 (hx := fun _ => by kernel_rfl) (h := fun _ S => (h2.out _ (S.r 1 rfl)).mono ?_)
  rintro e w2 ⟨A1, n1, c1, rfl, Q1, bb⟩
  refine ⟨bb, _, [(A1, n1, c1, limbs q.num.natAbs)], rfl, (rd_cons Q1 rd_nil), ?_⟩
  clear bb S Q1
  refine RW.c (i := 5) (args := #[.slice D m d]) (some 12) hzk.out at5 (hx := fun _ => by kernel_rfl) (h := fun _ S => (h1.out _ (S.r 1 rfl)).mono ?_)
  rintro e w3 ⟨D2, m2, d2, rfl, Q2, bb⟩
  refine ⟨bb, _, [(D2, m2, d2, dn q)], rfl, (rd_cons Q2 rd_nil), ?_⟩
  clear bb S Q2
  refine RW.t (i := 6) (v := .agg #[.bool (ng q.num), .slice A1 n1 c1, .slice D2 m2 d2]) (some 13) at6 (hy := fun _ _ => by kernel_rfl) (h := ?_)
  refine RW.tail hzk.out (by kernel_rfl) ?_
  intro gs w4 hgs hS S
  obtain rfl := len0 hgs
  clear hS hgs hzk
  simp only [mark, fill, Act.put, List.setIfInBounds_toArray, List.set_cons_zero, List.set_cons_succ]
  replace S := Lib.hid S
  refine Wk.o (i := 7) at7 (by kernel_rfl) fun K' hK => ?_
  have q7_r0 := St.cl (S.out) 0 0 rfl rfl
  have q7_r1 := St.cl (S.out) 0 1 rfl rfl
  have q7_r2 := St.cl (S.out) 0 2 rfl rfl
  have q7z_r0 := St.f (S.out) 0 0 rfl
  have q7z_r1 := St.f (S.out) 0 1 rfl
  have q7z_r2 := St.f (S.out) 0 2 rfl
  go_simp
  have SN := (((S.out.set 0 0 (.bool (ng q.num)) rfl (by nofun)).set 0 1 (.slice A1 n1 c1) rfl (by nofun)).set 0 2 (.slice D2 m2 d2) rfl (by nofun))
  clear S q7_r0 q7_r1 q7_r2 q7z_r0 q7z_r1 q7z_r2
  have S := SN
  clear SN
  refine hK.out _ _ (S.cb 1 rfl) ?_
  clear hK K'
  replace S := Lib.hid S
  try simp only [Act.put, List.setIfInBounds_toArray, List.set_cons_zero, List.set_cons_succ]
  refine Wk.done (by kernel_rfl) ?_
  go_simp
  replace S := S.out
  have S : St w _ [(w.heap.size + 1, #[.bool (ng q.num), .slice A1 n1 c1, .slice D2 m2 d2], 44), (w.heap.size, #[.bool (ng q.num), .slice A n c, .slice D m d], 44)] [(D2, m2, d2, dn q), (A1, n1, c1, limbs q.num.natAbs), (D, m, d, dn q), (A, n, c, limbs q.num.natAbs)] := S
  generalize hW5 : (World.setCell (World.setCell (World.setCell w4 ⟨w.heap.size + 1, 0, none⟩ (.bool (ng q.num))) ⟨w.heap.size + 1, 1, none⟩ (.slice A1 n1 c1)) ⟨w.heap.size + 1, 2, none⟩ (.slice D2 m2 d2)) = w5 at S ⊢
  clear hW5
  replace S := Lib.hid S
  replace S := S.out
  replace S := Lib.hid S
  have S : St w _ [(w.heap.size + 1, #[.bool (ng q.num), .slice A1 n1 c1, .slice D2 m2 d2], 44), (w.heap.size, #[.bool (ng q.num), .slice A n c, .slice D m d], 44)] [(D2, m2, d2, dn q), (A1, n1, c1, limbs q.num.natAbs), (D, m, d, dn q), (A, n, c, limbs q.num.natAbs)] := S.out
  replace S := Lib.hid S
  go_wp2
  refine bodyPost_ret (res_rtake _ _ (w.heap.size + 1) 44 rfl (S.out.bk _ (List.mem_of_getElem? (i := 0) rfl)).1) rfl ?_
  exact ⟨_, _, _, _, _, _, rfl, ⟨S.out.r 1 rfl, S.out.r 0 rfl⟩, S.out.bel⟩

set_option maxRecDepth 100000 in
set_option maxHeartbeats 4000000 in
theorem rsignR_any (b : Bool) (A : Option Addr) (n c : Nat) (xs : List Nat) (D : Option Addr) (m d : Nat) (ds : List Nat) (w : World) (R1 : Rd w A n c xs) (R2 : Rd w D m d ds) (hn : n ≤ 200) (hm : m ≤ 200) : Calls Tryd.prog 21 #[.agg #[.bool b, .slice A n c, .slice D m d]] w (fun e w' => e = .returned (.int .i64 (rv b xs ds).num.sign) ∧ Below w.heap.size w w') := by
  have hT := Lib.hid (fun W q1 q2 => rtakeR_any b A n c xs D m d ds W q1 q2 hn hm)
  have hs : Rs (rv b xs ds) 200 := Rs.of R1.sm R2.sm (by rw [R1.len]; exact hn) (by rw [R2.len]; exact hm) (by decide)
  generalize rv b xs ds = q at *
  have hS : Hid (∀ W A n c, Rd W A n c (limbs q.num.natAbs) → Calls Tryd.prog 39 #[.agg #[.bool (ng q.num), .slice A n c]] W fun e w' => e = .returned (.int .i64 q.num.sign) ∧ Below W.heap.size W w') := Lib.hid fun W A n c p => by
    have l : n ≤ 200 := by rw [← p.len]; exact limbs_len_le.2 hs.n
    have := rsignI_any (ng q.num) A n c _ W p (by omega)
    rwa [iv_z] at this
  have hF := Lib.hid (fun A n c D m d W => field_num (ng q.num) A n c D m d W)
  have S : St w _ [(w.heap.size, #[.bool b, .slice A n c, .slice D m d], 44)] [(D, m, d, ds), (A, n, c, xs)] := ((((St.new w).read R1).read R2).allocAt (w.heap.size) #[.bool b, .slice A n c, .slice D m d] 44 (noL3 _ _ _ _ _ _ _) (by simp))
  replace S := Lib.hid S
  clear R1 R2 hn hm hs
  go_enter Tryd.func21, Tryd.ntmps21
  go_wp2_with fail
  refine (hT.out _ (S.out.r 1 rfl) (S.out.r 0 rfl)).mono ?_
  rintro e w1 ⟨A1, n1, c1, D1, m1, d1, rfl, Q1, bb⟩
  have T := (((S.out.call bb).read Q1.n).read Q1.d)
  clear bb S
  have S := T
  clear T
  have c_x0 := S.cl 0 0 rfl rfl
  have f_x0 := S.f 0 0 rfl
  have c_x1 := S.cl 0 1 rfl rfl
  have f_x1 := S.f 0 1 rfl
  have c_x2 := S.cl 0 2 rfl rfl
  have f_x2 := S.f 0 2 rfl
  have hz : w.heap.size < w1.heap.size := S.lt 0 rfl
  replace S := Lib.hid S
  clear Q1 hT
  have hF' := hF.out A1 n1 c1 D1 m1 d1 w1
  go_wp2_with fail
  refine (hS.out _ _ _ _ (S.out.r 1 rfl)).mono ?_
  rintro e w2 ⟨rfl, bb⟩
  have T := (S.out.call bb)
  clear bb S c_x0 f_x0 c_x1 f_x1 c_x2 f_x2 hz
  have S := T
  clear T
  have c_x0 := S.cl 0 0 rfl rfl
  have f_x0 := S.f 0 0 rfl
  have c_x1 := S.cl 0 1 rfl rfl
  have f_x1 := S.f 0 1 rfl
  have c_x2 := S.cl 0 2 rfl rfl
  have f_x2 := S.f 0 2 rfl
  have hz : w.heap.size < w2.heap.size := S.lt 0 rfl
  replace S := Lib.hid S
  clear hS hF hF'
  have S : St w _ [(w.heap.size, #[.bool b, .slice A n c, .slice D m d], 44)] [(D1, m1, d1, dn q), (A1, n1, c1, limbs q.num.natAbs), (D, m, d, ds), (A, n, c, xs)] := S.out
  replace S := Lib.hid S
  go_wp2
  go_ret
  exact ⟨rfl, S.out.bel⟩
theorem rsignQ (q : Rat) (A : Option Addr) (n c : Nat) (D : Option Addr) (m d : Nat) (W : World) (h : RR W A n c D m d q) (hs : Rs q 200) : Calls Tryd.prog 21 #[.agg #[.bool (ng q.num), .slice A n c, .slice D m d]] W (fun e w' => e = .returned (.int .i64 q.num.sign) ∧ Below W.heap.size W w') := by
  have l := h.lens hs
  have := rsignR_any (ng q.num) A n c _ D m d _ W h.n h.d (by omega) (by omega)
  rwa [rv_z] at this
theorem rtakeQ (q : Rat) (A : Option Addr) (n c : Nat) (D : Option Addr) (m d : Nat) (W : World) (h : RR W A n c D m d q) (hs : Rs q 200) : Calls Tryd.prog 31 #[.agg #[.bool (ng q.num), .slice A n c, .slice D m d]] W (RetR q W) := by
  have l := h.lens hs
  have := rtakeR_any (ng q.num) A n c _ D m d _ W h.n h.d (by omega) (by omega)
  rwa [rv_z] at this
theorem sameT (q r : Rat) (he : q = r) (A : Option Addr) (n c : Nat) (D : Option Addr) (m d : Nat) (A' : Option Addr) (n' c' : Nat) (D' : Option Addr) (m' d' : Nat) (w : World) (X : RR w A n c D m d q) (Y : RR w A' n' c' D' m' d' r) (hs : Rs q 200) (hs' : Rs r 200) :
    Calls Tryd.prog 18 #[.agg #[.bool (ng q.num), .slice A n c, .slice D m d], .agg #[.bool (ng r.num), .slice A' n' c', .slice D' m' d']] w fun e w' => e = .returned (.bool true) ∧ Below w.heap.size w w' := by
  have := sameQ q r A n c D m d A' n' c' D' m' d' w X Y hs hs'
  rwa [decide_eq_true he] at this
end Go.Proofs.YtlflaalefilplaaDoor
namespace Go.Proofs.YtlflaalefilplaaDoor
open Go.RowKit RQ
theorem res_rden (W : World) (tmps : Array Value) (g t : Nat) {v0 v1 : Value} (ht : tmps.getD 2 undef = .pointer (some ⟨g, 0, none⟩)) (h : Cb W g #[v0, v1] t) :
    (results Tryd.f35 tmps).run Tryd.prog W = .ok (.agg #[v0, v1]) W := by
  have c0 : W.cell? ⟨g, 0, none⟩ = some v0 := h.cell rfl
  have c1 : W.cell? ⟨g, 1, none⟩ = some v1 := h.cell rfl
  have ht' : tmps[2]?.getD undef = .pointer (some ⟨g, 0, none⟩) := by rw [← ht]; simp [Array.getD_eq_getD_getElem?]
  simp [results, Tryd.results35, go_sem, ht', c0, c1]

set_option maxHeartbeats 2000000 in
theorem rden_any (q : Rat) (A : Option Addr) (n c : Nat) (D : Option Addr) (m d : Nat) (w : World) (R : RR w A n c D m d q) (hm : m ≤ 10000) :
    Calls Tryd.prog 35 #[.agg #[.bool (ng q.num), .slice A n c, .slice D m d]] w (RetU q.den w) := by
  obtain ⟨h0, h1⟩ := dn_len0 R.d.len
  have R2 := R.d
  by_cases hm0 : m = 0
  · have e1 : q.den = 1 := by have := h0 hm0; omega
    have h2 : ((m : Int) == 0) = true := by rw [beq_iff_eq]; omega
    have e2 : limbs q.den = [1] := by rw [e1, limbs_is1]
    have S0 : St w _ _ _ := (St.new w).allocAt (w.heap.size) #[.bool (ng q.num), .slice A n c, .slice D m d] 44 (noL3 _ _ _ _ _ _ _) rfl
    have S1 := S0.allocAt (w.heap.size + 1) #[.bool false, .slice (some ⟨w.heap.size + 1 + 1, 0, none⟩) 1 1] 42 (noL2 _ _ _ _) (by simp)
    have hb : ((w.alloc (.cells #[.bool (ng q.num), .slice A n c, .slice D m d] 44)).alloc (.cells #[.bool false, .slice (some ⟨w.heap.size + 1 + 1, 0, none⟩) 1 1] 42)).heap.size = w.heap.size + 1 + 1 := by simp
    have O := (Own.lit ((w.alloc (.cells #[.bool (ng q.num), .slice A n c, .slice D m d] 44)).alloc (.cells #[.bool false, .slice (some ⟨w.heap.size + 1 + 1, 0, none⟩) 1 1] 42)) [1] (by intro x hx; simp at hx; omega)).rd0 1 (Nat.le_refl 1)
    rw [hb] at O
    have B2 := (Below.refl ((w.alloc (.cells #[.bool (ng q.num), .slice A n c, .slice D m d] 44)).alloc (.cells #[.bool false, .slice (some ⟨w.heap.size + 1 + 1, 0, none⟩) 1 1] 42)).heap.size _).alloc (Nat.le_refl _) (.cells #[.int .u32 1] 77)
    have S2 := Lib.hid ((S1.call B2).read O)
    replace e2 := Lib.hid e2
    clear R R2 h0 h1 hm0 e1 S0 S1 O B2 hb hm
    go_enter Tryd.func35, Tryd.ntmps35
    go_wp2
    refine bodyPost_ret (res_rden _ _ (w.heap.size + 1) 42 rfl (S2.out.bk _ (List.mem_of_getElem? (i := 0) rfl)).1) rfl ?_
    exact ⟨_, _, _, rfl, by rw [e2.out]; exact S2.out.r 0 rfl, S2.out.bel⟩
  · have e1 := h1 hm0
    rw [e1] at R2
    have h2 : ((m : Int) == 0) = false := by rw [beq_eq_false_iff_ne]; omega
    have hT := fun W h => take_any D m d (limbs q.den) W h hm
    rw [num_limbs] at hT
    replace hT := Lib.hid hT
    clear h0 h1 hm0 R e1 hm
    have S : St w _ [(w.heap.size + 1, #[.bool false, .slice none 0 0], 42), (w.heap.size, #[.bool (ng q.num), .slice A n c, .slice D m d], 44)] [(D, m, d, limbs q.den)] := ((((St.new w).read R2).allocAt (w.heap.size) #[.bool (ng q.num), .slice A n c, .slice D m d] 44 (noL3 _ _ _ _ _ _ _) (by simp)).allocAt (w.heap.size + 1) #[.bool false, .slice none 0 0] 42 (noL2 _ _ _ _) (by simp))
    replace S := Lib.hid S
    clear R2
    go_enter Tryd.func35, Tryd.ntmps35
    go_wp2_with fail
    refine (hT.out _ (S.out.r 0 rfl)).mono ?_
    rintro e w1 ⟨A1, n1, c1, rfl, Q, bb, _⟩
    have T := ((S.out.call bb).read Q)
    clear bb S
    have S := T
    clear T
    have c_r0 := S.cl 0 0 rfl rfl
    have f_r0 := S.f 0 0 rfl
    have c_r1 := S.cl 0 1 rfl rfl
    have f_r1 := S.f 0 1 rfl
    have c_x0 := S.cl 1 0 rfl rfl
    have f_x0 := S.f 1 0 rfl
    have c_x1 := S.cl 1 1 rfl rfl
    have f_x1 := S.f 1 1 rfl
    have c_x2 := S.cl 1 2 rfl rfl
    have f_x2 := S.f 1 2 rfl
    have hz : w.heap.size + 1 < w1.heap.size := S.lt 0 rfl
    replace S := Lib.hid S
    clear Q
    have S : St w _ [(w.heap.size + 1, #[.bool false, .slice A1 n1 c1], 42), (w.heap.size, #[.bool (ng q.num), .slice A n c, .slice D m d], 44)] [(A1, n1, c1, limbs q.den), (D, m, d, limbs q.den)] := ((S.out.set 0 0 (.bool false) rfl (by nofun)).set 0 1 (.slice A1 n1 c1) rfl (by nofun))
    replace S := Lib.hid S
    go_wp2
    refine bodyPost_ret (res_rden _ _ (w.heap.size + 1) 42 rfl (S.out.bk _ (List.mem_of_getElem? (i := 0) rfl)).1) rfl ?_
    exact ⟨_, _, _, rfl, S.out.r 0 rfl, S.out.bel⟩

theorem divInt_cross (u v : Int) (hv : v ≠ 0) : (Rat.divInt u v).num * v = (Rat.divInt u v).den * u := by
  have h := Rat.num_divInt_den (Rat.divInt u v)
  have h2 := (Rat.divInt_eq_divInt_iff (by have := (Rat.divInt u v).den_pos; omega) hv).1 h
  rw [h2, Int.mul_comm]
theorem mulI_len {u v : Int} {p k : Nat} (h1 : (limbs u.natAbs).length ≤ p) (h2 : (limbs v.natAbs).length ≤ k) : (limbs (u * v).natAbs).length ≤ p + k := by
  refine limbs_len_le.2 ?_
  rw [Int.natAbs_mul, Nat.pow_add]
  exact mul_lt (limbs_len_le.1 h1) (limbs_len_le.1 h2)
end Go.Proofs.YtlflaalefilplaaDoor
