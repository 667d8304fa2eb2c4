/- The law RationalHasAFloor. -/
import Derived.Test.YtgpgpkkgpedifaaGreatDoorTk
namespace Go.Proofs.YtgpgpkkgpedifaaGreatDoor
open Go.RowKit RQ
theorem floor_facts (q : Rat) : (0 : Int) ≤ (q - (q.floor : Rat)).num.sign ∧ cmpq (q - (q.floor : Rat)) 1 < 0 := by
  have h1 := Rat.floor_le q
  have h2 := Rat.lt_floor_add_one q
  constructor
  · have : 0 ≤ (q - (q.floor : Rat)).num := Rat.num_nonneg.2 ((Rat.le_iff_sub_nonneg _ _).1 h1)
    rcases Int.lt_or_eq_of_le this with h | h
    · rw [Int.sign_eq_one_of_pos h]; decide
    · rw [← h]; decide
  · rw [cmpq_neg]
    rw [Rat.sub_lt_iff]
    rw [Rat.intCast_add, Rat.add_comm] at h2
    exact h2
theorem floor_len {q : Rat} {p : Nat} (h : Rs q p) : (limbs q.floor.natAbs).length ≤ p + 1 := by
  rw [floor_parts]
  refine limbs_len_le.2 ?_
  have h1 := h.n
  have hp := q.den_pos
  have : (q.num / (q.den : Int)).natAbs ≤ q.num.natAbs + 1 := by
    have h2 := Int.ediv_mul_le q.num (b := (q.den : Int)) (by omega)
    have h3 := Int.lt_ediv_add_one_mul_self q.num (b := (q.den : Int)) (by omega)
    rcases Int.lt_or_le q.num 0 with h0 | h0
    · have a : q.num / (q.den : Int) < 0 := Int.ediv_neg_of_neg_of_pos h0 (by omega)
      have : (q.num / (q.den : Int) + 1) * 1 ≥ (q.num / (q.den : Int) + 1) * (q.den : Int) := Int.mul_le_mul_of_nonpos_left (by omega) (by omega)
      omega
    · have a : 0 ≤ q.num / (q.den : Int) := Int.ediv_nonneg h0 (by omega)
      have : q.num / (q.den : Int) * 1 ≤ q.num / (q.den : Int) * (q.den : Int) := Int.mul_le_mul_of_nonneg_left (by omega) a
      omega
  rw [Nat.pow_succ]
  omega
set_option maxRecDepth 100000 in
set_option maxHeartbeats 8000000 in
theorem law_floor (b : Bool) (A : Option Addr) (n c : Nat) (xs : List Nat) (D : Option Addr) (m d : Nat) (ds : List Nat) (w : World) (R1 : Rd w A n c xs) (m1 : n ≤ 9223372036854775807) (R2 : Rd w D m d ds) (m2 : m ≤ 9223372036854775807) (htab : Tab w) :
    Calls Tryz.prog 3 #[.agg #[.bool b, .slice A n c, .slice D m d]] w fun e w' => e = .returned (.bool true) ∧ Below w.heap.size w w' := by
  have hA := Lib.hid (fun W t => awakeR_any W t)
  replace htab := Lib.hid htab
  have hL := fun W => lightR_any b A n c D m d W m1 m2
  have l1 := R1.len
  have l2 := R2.len
  have s1 := R1.sm
  have s2 := R2.sm
  have S : St w _ [(w.heap.size, #[.bool (b), .slice (A) (n) (c), .slice (D) (m) (d)], 26)] [(D, m, d, ds), (A, n, c, xs)] := ((((St.new w).read R1).read R2).allocAt (w.heap.size) #[.bool (b), .slice (A) (n) (c), .slice (D) (m) (d)] 26 (noL3 _ _ _ _ _ _ _) (by simp))
  replace S := Lib.hid S
  cases hb : lightB n m
  · rw [hb] at hL
    replace hL := Lib.hid hL
    clear hb l1 l2 s1 s2 m1 m2 R1 R2
    go_enter Tryz.func3, Tryz.ntmps3
    go_wp2_with fail
    refine (hL.out _).mono ?_
    rintro e w1 ⟨rfl, bb⟩
    have T : St w w1 [(w.heap.size, #[.bool (b), .slice (A) (n) (c), .slice (D) (m) (d)], 26)] [(D, m, d, ds), (A, n, c, xs)] := (S.out.call bb)
    clear bb S
    have S := T
    clear T
    have c_x0 := S.cl 0 0 rfl rfl
    have f_x0 := S.f 0 0 rfl
    have c_x1 := S.cl 0 1 rfl rfl
    have f_x1 := S.f 0 1 rfl
    have c_x2 := S.cl 0 2 rfl rfl
    have f_x2 := S.f 0 2 rfl
    have hz : w.heap.size < w1.heap.size := S.lt 0 rfl
    replace S := Lib.hid S
    go_wp2_with fail
    refine (hA.out _ (tab_below htab.out S.out.bel)).mono ?_
    rintro e w2 ⟨rfl, bb⟩
    have T : St w w2 [(w.heap.size, #[.bool (b), .slice (A) (n) (c), .slice (D) (m) (d)], 26)] [(D, m, d, ds), (A, n, c, xs)] := (S.out.call bb)
    clear bb S c_x0 f_x0 c_x1 f_x1 c_x2 f_x2 hz
    have S := T
    clear T
    have c_x0 := S.cl 0 0 rfl rfl
    have f_x0 := S.f 0 0 rfl
    have c_x1 := S.cl 0 1 rfl rfl
    have f_x1 := S.f 0 1 rfl
    have c_x2 := S.cl 0 2 rfl rfl
    have f_x2 := S.f 0 2 rfl
    have hz : w.heap.size < w2.heap.size := S.lt 0 rfl
    replace S := Lib.hid S
    have S : St w _ [(w.heap.size, #[.bool (b), .slice (A) (n) (c), .slice (D) (m) (d)], 26)] [(D, m, d, ds), (A, n, c, xs)] := S.out
    replace S := Lib.hid S
    go_wp2
    go_ret
    exact ⟨rfl, S.out.bel⟩
  rw [hb] at hL
  unfold lightB at hb
  rw [Bool.and_eq_true, decide_eq_true_eq, decide_eq_true_eq] at hb
  obtain ⟨b1, b2⟩ := hb
  have hV := fun W q1 q2 => rvalidR_any b A n c xs D m d ds W q1 q2 (by omega) (by omega)
  cases hv : vldR b xs ds
  · rw [hv] at hV
    replace hL := Lib.hid hL
    replace hV := Lib.hid hV
    clear hv b1 b2 l1 l2 s1 s2 m1 m2 R1 R2
    go_enter Tryz.func3, Tryz.ntmps3
    go_wp2_with fail
    refine (hL.out _).mono ?_
    rintro e w1 ⟨rfl, bb⟩
    have T : St w w1 [(w.heap.size, #[.bool (b), .slice (A) (n) (c), .slice (D) (m) (d)], 26)] [(D, m, d, ds), (A, n, c, xs)] := (S.out.call bb)
    clear bb S
    have S := T
    clear T
    have c_x0 := S.cl 0 0 rfl rfl
    have f_x0 := S.f 0 0 rfl
    have c_x1 := S.cl 0 1 rfl rfl
    have f_x1 := S.f 0 1 rfl
    have c_x2 := S.cl 0 2 rfl rfl
    have f_x2 := S.f 0 2 rfl
    have hz : w.heap.size < w1.heap.size := S.lt 0 rfl
    replace S := Lib.hid S
    go_wp2_with fail
    refine (hV.out _ (S.out.r 1 rfl) (S.out.r 0 rfl)).mono ?_
    rintro e w2 ⟨rfl, bb⟩
    have T : St w w2 [(w.heap.size, #[.bool (b), .slice (A) (n) (c), .slice (D) (m) (d)], 26)] [(D, m, d, ds), (A, n, c, xs)] := (S.out.call bb)
    clear bb S c_x0 f_x0 c_x1 f_x1 c_x2 f_x2 hz
    have S := T
    clear T
    have c_x0 := S.cl 0 0 rfl rfl
    have f_x0 := S.f 0 0 rfl
    have c_x1 := S.cl 0 1 rfl rfl
    have f_x1 := S.f 0 1 rfl
    have c_x2 := S.cl 0 2 rfl rfl
    have f_x2 := S.f 0 2 rfl
    have hz : w.heap.size < w2.heap.size := S.lt 0 rfl
    replace S := Lib.hid S
    go_wp2_with fail
    refine (hA.out _ (tab_below htab.out S.out.bel)).mono ?_
    rintro e w3 ⟨rfl, bb⟩
    have T : St w w3 [(w.heap.size, #[.bool (b), .slice (A) (n) (c), .slice (D) (m) (d)], 26)] [(D, m, d, ds), (A, n, c, xs)] := (S.out.call bb)
    clear bb S c_x0 f_x0 c_x1 f_x1 c_x2 f_x2 hz
    have S := T
    clear T
    have c_x0 := S.cl 0 0 rfl rfl
    have f_x0 := S.f 0 0 rfl
    have c_x1 := S.cl 0 1 rfl rfl
    have f_x1 := S.f 0 1 rfl
    have c_x2 := S.cl 0 2 rfl rfl
    have f_x2 := S.f 0 2 rfl
    have hz : w.heap.size < w3.heap.size := S.lt 0 rfl
    replace S := Lib.hid S
    have S : St w _ [(w.heap.size, #[.bool (b), .slice (A) (n) (c), .slice (D) (m) (d)], 26)] [(D, m, d, ds), (A, n, c, xs)] := S.out
    replace S := Lib.hid S
    go_wp2
    go_ret
    exact ⟨rfl, S.out.bel⟩
  rw [hv] at hV
  have hs : Rs (rv b xs ds) 8 := Rs.of s1 s2 (by omega) (by omega) (by decide)
  obtain ⟨f1, f2⟩ := floor_facts (rv b xs ds)
  have f3 := floor_len hs
  obtain ⟨e1, e2, e3⟩ := canonR s1 s2 hv
  have e4 : RR w A n c D m d (rv b xs ds) := RR.of R1 R2 hv
  generalize rv b xs ds = q at *
  subst e1; subst e2; subst e3
  have hF := fun W A n c D m d h => floorQ q A n c D m d W h (hs.mono (by decide))
  have hfl : Rs (q.floor : Rat) 9 := Rs.int (limbs_len_le.1 f3) (by decide)
  have hS := fun A n c D m d A' n' c' D' m' d' W h h' => subQ q (q.floor : Rat) A n c D m d A' n' c' D' m' d' W h h' (hs.mono (by decide)) (hfl.mono (by decide))
  have hs2 : Rs (q - (q.floor : Rat)) 100 := (Rs.sub hs hfl).mono (by decide)
  generalize q - (q.floor : Rat) = dq at *
  have hVf := Lib.hid (fun W A n c D m d h => rvalidQ (q.floor : Rat) A n c D m d W h (hfl.mono (by decide)))
  have hSg := Lib.hid (fun W A n c D m d h => signQ dq A n c D m d W h (hs2.mono (by decide)))
  have hI := Lib.hid (fun W => fromIntR_any 1 W (by decide) (by decide))
  have hC := Lib.hid (fun W A n c D m d A' n' c' D' m' d' h h' => compareQ dq ((1 : Int) : Rat) A n c D m d A' n' c' D' m' d' W h h' (hs2.mono (by decide)) (Rs.int (z := 1) (p := 200) (by decide) (by decide)))
  have f2' : cmpq dq ((1 : Int) : Rat) < 0 := f2
  clear f2
  generalize hfq : (q.floor : Rat) = fq at *
  have e5 : Hid (ng q.floor = ng fq.num ∧ limbs q.floor.natAbs = limbs fq.num.natAbs ∧ dn fq = []) := Lib.hid (by rw [← hfq]; exact ⟨rfl, rfl, rfl⟩)
  have hF' : Hid (∀ W A n c D m d, RR W A n c D m d q → Calls Tryz.prog 13 #[.agg #[.bool (ng q.num), .slice A n c, .slice D m d]] W fun e w' => ∃ A n c, e = .returned (.agg #[.bool (ng fq.num), .slice A n c]) ∧ Rd w' A n c (limbs fq.num.natAbs) ∧ Below W.heap.size W w') := Lib.hid fun W A n c D m d h => by
    have := hF W A n c D m d h
    unfold RetI at this
    rwa [e5.out.1, e5.out.2.1] at this
  have e6 : Hid (∀ W A n c, Rd W A n c (limbs fq.num.natAbs) → RR W A n c none 0 0 fq) := Lib.hid fun W A n c h => ⟨h, by rw [e5.out.2.2]; exact Rd.nil_ _ _ _⟩
  clear hfq e5
  generalize dq.num.sign = sg0 at *
  generalize cmpq dq ((1 : Int) : Rat) = cc at *
  generalize ((1 : Int) : Rat) = q1 at *
  replace hL := Lib.hid hL
  replace hV := Lib.hid hV
  replace hS := Lib.hid hS
  clear hF hs hs2 hfl f3 hv b1 b2 l1 l2 s1 s2 m1 m2 e4
  clear R1 R2
  go_enter Tryz.func3, Tryz.ntmps3
  go_wp2_with fail
  refine (hL.out _).mono ?_
  rintro e w1 ⟨rfl, bb⟩
  have T : St w w1 [(w.heap.size, #[.bool (ng q.num), .slice (A) (n) (c), .slice (D) (m) (d)], 26)] [(D, m, d, dn q), (A, n, c, limbs q.num.natAbs)] := (S.out.call bb)
  clear bb S
  have S := T
  clear T
  have c_x0 := S.cl 0 0 rfl rfl
  have f_x0 := S.f 0 0 rfl
  have c_x1 := S.cl 0 1 rfl rfl
  have f_x1 := S.f 0 1 rfl
  have c_x2 := S.cl 0 2 rfl rfl
  have f_x2 := S.f 0 2 rfl
  have hz : w.heap.size < w1.heap.size := S.lt 0 rfl
  replace S := Lib.hid S
  go_wp2_with fail
  refine (hV.out _ (S.out.r 1 rfl) (S.out.r 0 rfl)).mono ?_
  rintro e w2 ⟨rfl, bb⟩
  have T : St w w2 [(w.heap.size, #[.bool (ng q.num), .slice (A) (n) (c), .slice (D) (m) (d)], 26)] [(D, m, d, dn q), (A, n, c, limbs q.num.natAbs)] := (S.out.call bb)
  clear bb S c_x0 f_x0 c_x1 f_x1 c_x2 f_x2 hz
  have S := T
  clear T
  have c_x0 := S.cl 0 0 rfl rfl
  have f_x0 := S.f 0 0 rfl
  have c_x1 := S.cl 0 1 rfl rfl
  have f_x1 := S.f 0 1 rfl
  have c_x2 := S.cl 0 2 rfl rfl
  have f_x2 := S.f 0 2 rfl
  have hz : w.heap.size < w2.heap.size := S.lt 0 rfl
  replace S := Lib.hid S
  clear hL hV
  go_wp2_with fail
  refine (hF'.out _ _ _ _ _ _ _ ⟨S.out.r 1 rfl, S.out.r 0 rfl⟩).mono ?_
  rintro e w3 ⟨A1, n1, c1, rfl, Q1, bb⟩
  have T : St w w3 [(w.heap.size, #[.bool (ng q.num), .slice (A) (n) (c), .slice (D) (m) (d)], 26)] [(A1, n1, c1, limbs fq.num.natAbs), (D, m, d, dn q), (A, n, c, limbs q.num.natAbs)] := ((S.out.call bb).read Q1)
  clear bb S c_x0 f_x0 c_x1 f_x1 c_x2 f_x2 hz
  have S := T
  clear T
  have c_x0 := S.cl 0 0 rfl rfl
  have f_x0 := S.f 0 0 rfl
  have c_x1 := S.cl 0 1 rfl rfl
  have f_x1 := S.f 0 1 rfl
  have c_x2 := S.cl 0 2 rfl rfl
  have f_x2 := S.f 0 2 rfl
  have hz : w.heap.size < w3.heap.size := S.lt 0 rfl
  replace S := Lib.hid S
  clear Q1 hF'
  have S : St w _ [(w3.heap.size, #[.bool (ng fq.num), .slice (A1) (n1) (c1), .slice none 0 0], 26), (w.heap.size, #[.bool (ng q.num), .slice (A) (n) (c), .slice (D) (m) (d)], 26)] [(A1, n1, c1, limbs fq.num.natAbs), (D, m, d, dn q), (A, n, c, limbs q.num.natAbs)] := (S.out.allocAt (w3.heap.size) #[.bool (ng fq.num), .slice (A1) (n1) (c1), .slice none 0 0] 26 (noL3 _ _ _ _ _ _ _) (by simp))
  have a_x0 := S.cl 1 0 rfl rfl
  have b_x0 := S.f 1 0 rfl
  have a_x1 := S.cl 1 1 rfl rfl
  have b_x1 := S.f 1 1 rfl
  have a_x2 := S.cl 1 2 rfl rfl
  have b_x2 := S.f 1 2 rfl
  have a_f0 := S.cl 0 0 rfl rfl
  have b_f0 := S.f 0 0 rfl
  have a_f1 := S.cl 0 1 rfl rfl
  have b_f1 := S.f 0 1 rfl
  have a_f2 := S.cl 0 2 rfl rfl
  have b_f2 := S.f 0 2 rfl
  replace S := Lib.hid S
  go_wp2_with fail
  refine (hS.out _ _ _ _ _ _ _ _ _ _ _ _ _ ⟨S.out.r 2 rfl, S.out.r 1 rfl⟩ (e6.out _ _ _ _ (S.out.r 0 rfl))).mono ?_
  rintro e w4 ⟨A2, n2, c2, D2, m2, d2, rfl, Q2, bb⟩
  have T : St w w4 [(w3.heap.size, #[.bool (ng fq.num), .slice (A1) (n1) (c1), .slice none 0 0], 26), (w.heap.size, #[.bool (ng q.num), .slice (A) (n) (c), .slice (D) (m) (d)], 26)] [(D2, m2, d2, dn dq), (A2, n2, c2, limbs dq.num.natAbs), (A1, n1, c1, limbs fq.num.natAbs), (D, m, d, dn q), (A, n, c, limbs q.num.natAbs)] := (((S.out.call bb).read Q2.n).read Q2.d)
  clear bb S c_x0 f_x0 c_x1 f_x1 c_x2 f_x2 hz a_x0 b_x0 a_x1 b_x1 a_x2 b_x2 a_f0 b_f0 a_f1 b_f1 a_f2 b_f2
  have S := T
  clear T
  have c_f0 := S.cl 0 0 rfl rfl
  have f_f0 := S.f 0 0 rfl
  have c_f1 := S.cl 0 1 rfl rfl
  have f_f1 := S.f 0 1 rfl
  have c_f2 := S.cl 0 2 rfl rfl
  have f_f2 := S.f 0 2 rfl
  have c_x0 := S.cl 1 0 rfl rfl
  have f_x0 := S.f 1 0 rfl
  have c_x1 := S.cl 1 1 rfl rfl
  have f_x1 := S.f 1 1 rfl
  have c_x2 := S.cl 1 2 rfl rfl
  have f_x2 := S.f 1 2 rfl
  have hz : w3.heap.size < w4.heap.size := S.lt 0 rfl
  replace S := Lib.hid S
  clear Q2 hS
  go_upto_region 5 with fail
  clear c_f0 f_f0 c_f1 f_f1 c_f2 f_f2 c_x0 f_x0 c_x1 f_x1 c_x2 f_x2 hz
  have S : St w _ [(w4.heap.size, #[.bool (ng dq.num), .slice (A2) (n2) (c2), .slice (D2) (m2) (d2)], 26), (w3.heap.size, #[.bool (ng fq.num), .slice (A1) (n1) (c1), .slice none 0 0], 26), (w.heap.size, #[.bool (ng q.num), .slice (A) (n) (c), .slice (D) (m) (d)], 26)] [(D2, m2, d2, dn dq), (A2, n2, c2, limbs dq.num.natAbs), (A1, n1, c1, limbs fq.num.natAbs), (D, m, d, dn q), (A, n, c, limbs q.num.natAbs)] := (S.out.allocAt (w4.heap.size) #[.bool (ng dq.num), .slice (A2) (n2) (c2), .slice (D2) (m2) (d2)] 26 (noL3 _ _ _ _ _ _ _) (by simp))
  generalize hW5 : (World.alloc w4 (.cells #[.bool (ng dq.num), .slice (A2) (n2) (c2), .slice (D2) (m2) (d2)] 26)) = w5 at S ⊢
  clear hW5
  replace S := Lib.hid S
  refine RW.begin (Z := []) (S := (fun W => Cb W (w3.heap.size) #[.bool (ng fq.num), .slice (A1) (n1) (c1), .slice none 0 0] 26 ∧ Cb W (w4.heap.size) #[.bool (ng dq.num), .slice (A2) (n2) (c2), .slice (D2) (m2) (d2)] 26)) (bs := [(w4.heap.size, #[.bool (ng dq.num), .slice (A2) (n2) (c2), .slice (D2) (m2) (d2)], 26), (w3.heap.size, #[.bool (ng fq.num), .slice (A1) (n1) (c1), .slice none 0 0], 26), (w.heap.size, #[.bool (ng q.num), .slice (A) (n) (c), .slice (D) (m) (d)], 26)]) (by kernel_rfl) ?_ S.out ?_
  · exact ⟨by kernel_rfl, zis_nil, by decide, by decide, nol_nil, (fun _ _ h => ⟨(h.bk _ (List.mem_append_right _ (List.mem_of_getElem? (i := 1) rfl))).1, (h.bk _ (List.mem_append_right _ (List.mem_of_getElem? (i := 0) rfl))).1⟩)⟩
  intro hzk
  clear S
  refine RW.c (i := 0) (args := #[]) (some 20) hzk.out at0 rfl (by kernel_rfl) (by kernel_rfl) (fun _ => by kernel_rfl) (fun _ S => (hA.out _ (tab_below htab.out S.bel)).mono ?_)
  rintro e w6 ⟨rfl, bb⟩
  refine ⟨bb, _, [], rfl, rd_nil, ?_⟩
  clear bb S
  refine RW.t (i := 1) (v := .bool true) (some 21) at1 rfl (by kernel_rfl) (by kernel_rfl) (fun _ _ _ h => h) (fun _ _ => by kernel_rfl) ?_
  refine RW.t (i := 2) (v := .agg #[.bool (ng fq.num), .slice (A1) (n1) (c1), .slice none 0 0]) (some 22) at2 rfl (by kernel_rfl) (by kernel_rfl) (fun _ _ _ h => h) (fun W hS => by (have k0 := Cb.cell (i := 0) hS.1 rfl; have k1 := Cb.cell (i := 1) hS.1 rfl; have k2 := Cb.cell (i := 2) hS.1 rfl; clear hS; go_simp)) ?_
  refine RW.c (i := 3) (args := #[.agg #[.bool (ng fq.num), .slice (A1) (n1) (c1), .slice none 0 0]]) (some 23) hzk.out at3 rfl (by kernel_rfl) (by kernel_rfl) (fun _ => by kernel_rfl) (fun _ S => (hVf.out _ _ _ _ _ _ _ (e6.out _ _ _ _ (S.r 2 rfl))).mono ?_)
  rintro e w7 ⟨rfl, bb⟩
  refine ⟨bb, _, [], rfl, rd_nil, ?_⟩
  clear bb S
  refine RW.t (i := 4) (v := .bool true) (some 24) at4 rfl (by kernel_rfl) (by kernel_rfl) (fun _ _ _ h => h) (fun _ _ => by kernel_rfl) ?_
  refine RW.t (i := 5) (v := .bool true) (some 25) at5 rfl (by kernel_rfl) (by kernel_rfl) (fun _ _ _ h => h) (fun _ _ => by kernel_rfl) ?_
  refine RW.t (i := 6) (v := .agg #[.bool (ng dq.num), .slice (A2) (n2) (c2), .slice (D2) (m2) (d2)]) (some 26) at6 rfl (by kernel_rfl) (by kernel_rfl) (fun _ _ _ h => h) (fun W hS => by (have k0 := Cb.cell (i := 0) hS.2 rfl; have k1 := Cb.cell (i := 1) hS.2 rfl; have k2 := Cb.cell (i := 2) hS.2 rfl; clear hS; go_simp)) ?_
  refine RW.c (i := 7) (args := #[.agg #[.bool (ng dq.num), .slice (A2) (n2) (c2), .slice (D2) (m2) (d2)]]) (some 27) hzk.out at7 rfl (by kernel_rfl) (by kernel_rfl) (fun _ => by kernel_rfl) (fun _ S => (hSg.out _ _ _ _ _ _ _ ⟨S.r 1 rfl, S.r 0 rfl⟩).mono ?_)
  rintro e w8 ⟨rfl, bb⟩
  refine ⟨bb, _, [], rfl, rd_nil, ?_⟩
  clear bb S
  refine RW.t (i := 8) (v := .bool true) (some 28) at8 rfl (by kernel_rfl) (by kernel_rfl) (fun _ _ _ h => h) (fun _ _ => by go_simp) ?_
  refine RW.t (i := 9) (v := .bool true) (some 29) at9 rfl (by kernel_rfl) (by kernel_rfl) (fun _ _ _ h => h) (fun _ _ => by kernel_rfl) ?_
  refine RW.t (i := 10) (v := .bool true) (some 30) at10 rfl (by kernel_rfl) (by kernel_rfl) (fun _ _ _ h => h) (fun _ _ => by kernel_rfl) ?_
  refine RW.t (i := 11) (v := .agg #[.bool (ng dq.num), .slice (A2) (n2) (c2), .slice (D2) (m2) (d2)]) (some 31) at11 rfl (by kernel_rfl) (by kernel_rfl) (fun _ _ _ h => h) (fun W hS => by (have k0 := Cb.cell (i := 0) hS.2 rfl; have k1 := Cb.cell (i := 1) hS.2 rfl; have k2 := Cb.cell (i := 2) hS.2 rfl; clear hS; go_simp)) ?_
  refine RW.c (i := 12) (args := #[.int .i64 1]) (some 32) hzk.out at12 rfl (by kernel_rfl) (by kernel_rfl) (fun _ => by kernel_rfl) (fun _ S => (hI.out _).mono ?_)
  rintro e w9 ⟨A3, n3, c3, D3, m3, d3, rfl, Q3, bb⟩
  refine ⟨bb, _, [(D3, m3, d3, dn q1), (A3, n3, c3, limbs q1.num.natAbs)], rfl, (rd_cons Q3.d (rd_cons Q3.n rd_nil)), ?_⟩
  clear bb S Q3
  refine RW.c (i := 13) (args := #[.agg #[.bool (ng dq.num), .slice (A2) (n2) (c2), .slice (D2) (m2) (d2)], .agg #[.bool (ng q1.num), .slice (A3) (n3) (c3), .slice (D3) (m3) (d3)]]) (some 33) hzk.out at13 rfl (by kernel_rfl) (by kernel_rfl) (fun _ => by kernel_rfl) (fun _ S => (hC.out _ _ _ _ _ _ _ _ _ _ _ _ _ ⟨S.r 3 rfl, S.r 2 rfl⟩ ⟨S.r 1 rfl, S.r 0 rfl⟩).mono ?_)
  rintro e w10 ⟨rfl, bb⟩
  refine ⟨bb, _, [], rfl, rd_nil, ?_⟩
  clear bb S
  refine RW.t (i := 14) (v := .bool true) (some 34) at14 rfl (by kernel_rfl) (by kernel_rfl) (fun _ _ _ h => h) (fun _ _ => by go_simp) ?_
  refine RW.t (i := 15) (v := .bool true) (some 35) at15 rfl (by kernel_rfl) (by kernel_rfl) (fun _ _ _ h => h) (fun _ _ => by kernel_rfl) ?_
  refine RW.tail hzk.out (by kernel_rfl) ?_
  intro gs w11 hgs hS S
  obtain rfl := len0 hgs
  replace S : St w w11 [(w4.heap.size, #[.bool (ng dq.num), .slice (A2) (n2) (c2), .slice (D2) (m2) (d2)], 26), (w3.heap.size, #[.bool (ng fq.num), .slice (A1) (n1) (c1), .slice none 0 0], 26), (w.heap.size, #[.bool (ng q.num), .slice (A) (n) (c), .slice (D) (m) (d)], 26)] [(D3, m3, d3, dn q1), (A3, n3, c3, limbs q1.num.natAbs), (D2, m2, d2, dn dq), (A2, n2, c2, limbs dq.num.natAbs), (A1, n1, c1, limbs fq.num.natAbs), (D, m, d, dn q), (A, n, c, limbs q.num.natAbs)] := S
  clear hS hgs hzk
  simp only [mark, fill, Act.put, List.setIfInBounds_toArray, List.set_cons_zero, List.set_cons_succ]
  replace S := Lib.hid S
  refine Wk.o (i := 16) at16 (by kernel_rfl) fun K' hK => ?_
  go_simp
  have SN := S.out
  clear S
  have S := SN
  clear SN
  refine hK.out _ _ ⟨(S.bk _ (List.mem_of_getElem? (i := 1) rfl)).1, (S.bk _ (List.mem_of_getElem? (i := 0) rfl)).1⟩ ?_
  clear hK K'
  replace S := Lib.hid S
  try simp only [Act.put, List.setIfInBounds_toArray, List.set_cons_zero, List.set_cons_succ]
  refine Wk.done (by kernel_rfl) ?_
  go_simp
  replace S := S.out
  have S : St w _ [(w4.heap.size, #[.bool (ng dq.num), .slice (A2) (n2) (c2), .slice (D2) (m2) (d2)], 26), (w3.heap.size, #[.bool (ng fq.num), .slice (A1) (n1) (c1), .slice none 0 0], 26), (w.heap.size, #[.bool (ng q.num), .slice (A) (n) (c), .slice (D) (m) (d)], 26)] [(D3, m3, d3, dn q1), (A3, n3, c3, limbs q1.num.natAbs), (D2, m2, d2, dn dq), (A2, n2, c2, limbs dq.num.natAbs), (A1, n1, c1, limbs fq.num.natAbs), (D, m, d, dn q), (A, n, c, limbs q.num.natAbs)] := S
  replace S := Lib.hid S
  replace S := S.out
  have c_d0 := S.cl 0 0 rfl rfl
  have f_d0 := S.f 0 0 rfl
  have c_d1 := S.cl 0 1 rfl rfl
  have f_d1 := S.f 0 1 rfl
  have c_d2 := S.cl 0 2 rfl rfl
  have f_d2 := S.f 0 2 rfl
  have c_f0 := S.cl 1 0 rfl rfl
  have f_f0 := S.f 1 0 rfl
  have c_f1 := S.cl 1 1 rfl rfl
  have f_f1 := S.f 1 1 rfl
  have c_f2 := S.cl 1 2 rfl rfl
  have f_f2 := S.f 1 2 rfl
  have c_x0 := S.cl 2 0 rfl rfl
  have f_x0 := S.f 2 0 rfl
  have c_x1 := S.cl 2 1 rfl rfl
  have f_x1 := S.f 2 1 rfl
  have c_x2 := S.cl 2 2 rfl rfl
  have f_x2 := S.f 2 2 rfl
  have hz : w4.heap.size < w11.heap.size := S.lt 0 rfl
  replace S := Lib.hid S
  have S : St w _ [(w4.heap.size, #[.bool (ng dq.num), .slice (A2) (n2) (c2), .slice (D2) (m2) (d2)], 26), (w3.heap.size, #[.bool (ng fq.num), .slice (A1) (n1) (c1), .slice none 0 0], 26), (w.heap.size, #[.bool (ng q.num), .slice (A) (n) (c), .slice (D) (m) (d)], 26)] [(D3, m3, d3, dn q1), (A3, n3, c3, limbs q1.num.natAbs), (D2, m2, d2, dn dq), (A2, n2, c2, limbs dq.num.natAbs), (A1, n1, c1, limbs fq.num.natAbs), (D, m, d, dn q), (A, n, c, limbs q.num.natAbs)] := S.out
  replace S := Lib.hid S
  go_wp2
  go_ret
  exact ⟨rfl, S.out.bel⟩
end Go.Proofs.YtgpgpkkgpedifaaGreatDoor
