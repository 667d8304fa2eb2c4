/- The law FormulaGrows. -/
import Derived.Test.YtpdfliocldhblaaDoorM22
namespace Go.Proofs.YtpdfliocldhblaaDoor
open Go.RowKit
set_option linter.unusedVariables false

theorem mmod_eq (k n : Int) (h0 : 0 < n) : k % n = if k.tmod n < 0 then k.tmod n + n else k.tmod n := by
  have e1 := Int.tmod_add_mul_tdiv k n
  have l1 : k.tmod n < n := Int.tmod_lt_of_pos k h0
  have l2 : -n < k.tmod n := Int.lt_tmod_of_pos k h0
  split
  · rename_i h
    have : k = (k.tmod n + n) + n * (k.tdiv n - 1) := by rw [Int.mul_sub]; omega
    conv => lhs; rw [this]
    rw [Int.add_mul_emod_self_left]
    exact Int.emod_eq_of_lt (by omega) (by omega)
  · rename_i h
    conv => lhs; rw [← e1]
    rw [Int.add_mul_emod_self_left]
    exact Int.emod_eq_of_lt (by omega) l1
set_option maxRecDepth 100000 in
set_option maxHeartbeats 4000000 in
theorem mmod_any (k n : Int) (w : World) (h0 : 0 < n) (h1 : n ≤ 100000) : Calls Tryd.prog 26 #[.int .i64 k, .int .i64 n] w fun e w' => e = .returned (.int .i64 (k % n)) ∧ w' = w := by
  rw [mmod_eq k n h0]
  have l1 : k.tmod n < n := Int.tmod_lt_of_pos k h0
  have l2 : -n < k.tmod n := Int.lt_tmod_of_pos k h0
  have g0 : ¬ n = 0 := by omega
  have w1 : ∀ m : Int, -n < m → m < 0 → wrap64 (m + n) = m + n := fun m h2 h3 => by unfold wrap64; omega
  by_cases hm : k.tmod n < 0
  · rw [if_pos hm, ← w1 _ l2 hm]
    clear w1 l1 l2
    go_enter Tryd.func26, Tryd.ntmps26
    go_wp2
    go_ret
    exact ⟨rfl, rfl⟩
  · rw [if_neg hm]
    clear w1 l1 l2
    go_enter Tryd.func26, Tryd.ntmps26
    go_wp2
    go_ret
    exact ⟨rfl, rfl⟩


theorem grow_ok {s s1 s2 : ByteArray} {L1 L2 : List Nd} {op : Int} (h1 : frmB s1 L1 = true) (h2 : frmB s2 L2 = true) (a : 5 ≤ op) (b : op ≤ 9) : frmB s1 (⟨op, ⟨#[]⟩, 0⟩ :: (L1 ++ L2)) = decide ((L1.length : Int) + 1 + (L2.length : Int) ≤ 64) := by
  have n1 := (frm_len h1).2
  unfold frmB at h1 h2
  simp only [Bool.and_eq_true] at h1 h2
  obtain ⟨p1, p2⟩ := exc_cnt L1 1 h1.2
  obtain ⟨q1, q2⟩ := exc_cnt L2 1 h2.2
  have g := cnt_exc _ 1 (F9.grows (op := op.toNat) (by omega) (by omega) p1 q1)
  have e : ((⟨op.toNat, [], 0⟩ : F9.Nd) :: (L1.map ofNd ++ L2.map ofNd)).map toNd = (⟨op, ⟨#[]⟩, 0⟩ : Nd) :: (L1 ++ L2) := by
    rw [List.map_cons, List.map_append, p2, q2]
    congr 1
    show (⟨((op.toNat : Nat) : Int), ⟨([] : List UInt8).toArray⟩, ((0 : Nat) : Int)⟩ : Nd) = _
    rw [Int.toNat_of_nonneg (by omega)]
    rfl
  rw [e] at g
  unfold frmB
  have g' : excB 1 ((⟨op, ⟨#[]⟩, 0⟩ : Nd) :: (L1 ++ L2)) = true := g
  rw [n1, g', Bool.true_and, Bool.and_true, decide_eq_decide, List.length_cons, List.length_append]
  omega

set_option maxRecDepth 100000 in
set_option maxHeartbeats 8000000 in
theorem law_grows (s1 : ByteArray) (A1 : Option Addr) (c1 : Nat) (L1 : List Nd) (s2 : ByteArray) (A2 : Option Addr) (c2 : Nat) (L2 : List Nd) (k : Int) (w : World) (h1 : LR ndC w A1 L1.length L1) (hc1 : L1.length ≤ c1) (h2 : LR ndC w A2 L2.length L2) (hc2 : L2.length ≤ c2) (hO : Og w) : Calls Tryd.prog 9 #[.agg #[.string s1, .slice A1 L1.length c1], .agg #[.string s2, .slice A2 L2.length c2], .int .i64 k] w fun e w' => e = .returned (.bool true) ∧ Below w.heap.size w w' := by
  have hb := Lib.hid hO
  have hz0 := hO.1
  have S0 := Lib.hid (((St.new w).allocAt w.heap.size #[.string s1, .slice A1 L1.length c1] 25 (noLof rfl) rfl).allocAt (w.heap.size + 1) #[.string s2, .slice A2 L2.length c2] 25 (noLof rfl) (by simp))
  have hP1 : Hid (∀ W, Below w.heap.size w W → Calls Tryd.prog 20 #[.agg #[.string s1, .slice A1 L1.length c1]] W fun e w' => e = .returned (.bool (litB s1 L1)) ∧ Below W.heap.size W w') := Lib.hid fun W hB => light_any s1 L1 A1 L1.length c1 W (h1.bel hB) hc1
  have hP2 : Hid (∀ W, Below w.heap.size w W → Calls Tryd.prog 20 #[.agg #[.string s2, .slice A2 L2.length c2]] W fun e w' => e = .returned (.bool (litB s2 L2)) ∧ Below W.heap.size W w') := Lib.hid fun W hB => light_any s2 L2 A2 L2.length c2 W (h2.bel hB) hc2
  have hL1 := Lib.hid h1
  have hL2 := Lib.hid h2
  have hll : ∀ {s : ByteArray} {L : List Nd}, litB s L = true → L.length ≤ 80 := fun {s L} h => by
    unfold litB at h
    simp only [Bool.and_eq_true, decide_eq_true_eq] at h
    exact h.1.2
  clear hO h1 h2 hc1 hc2
  cases hq0 : litB s1 L1 with
  | false =>
    rw [hq0] at hP1
    clear hq0
    go_enter Tryd.func9, Tryd.ntmps9
    go_wp2_with fail
    refine (hP1.out _ S0.out.bel).mono ?_
    rintro e w1 ⟨rfl, hB⟩
    have S1 := S0.out.call hB
    have c_0 := S1.cl 1 0 rfl rfl
    have c_1 := S1.cl 1 1 rfl rfl
    have d_0 := S1.cl 0 0 rfl rfl
    have d_1 := S1.cl 0 1 rfl rfl
    replace S1 := Lib.hid S1
    clear hP1 S0 hB
    clear c_0 c_1 d_0 d_1
    go_wp2_with fail
    refine (awake_any _ (hb.out.bel S1.out.bel)).mono ?_
    rintro e w9 ⟨rfl, hB⟩
    have S9 := Lib.hid (S1.out.call hB)
    clear S1 hB
    go_wp2
    go_ret
    exact ⟨rfl, S9.out.bel⟩
  | true =>
    rw [hq0] at hP1
    have l1 := Lib.hid (hll hq0)
    clear hq0
    cases hq1 : litB s2 L2 with
    | false =>
      rw [hq1] at hP2
      clear hq1
      go_enter Tryd.func9, Tryd.ntmps9
      go_wp2_with fail
      refine (hP1.out _ S0.out.bel).mono ?_
      rintro e w1 ⟨rfl, hB⟩
      have S1 := S0.out.call hB
      have c_0 := S1.cl 1 0 rfl rfl
      have c_1 := S1.cl 1 1 rfl rfl
      have d_0 := S1.cl 0 0 rfl rfl
      have d_1 := S1.cl 0 1 rfl rfl
      replace S1 := Lib.hid S1
      clear hP1 S0 hB
      go_wp2_with fail
      refine (hP2.out _ S1.out.bel).mono ?_
      rintro e w2 ⟨rfl, hB⟩
      have S2 := S1.out.call hB
      clear c_0 c_1 d_0 d_1
      have c_0 := S2.cl 1 0 rfl rfl
      have c_1 := S2.cl 1 1 rfl rfl
      have d_0 := S2.cl 0 0 rfl rfl
      have d_1 := S2.cl 0 1 rfl rfl
      replace S2 := Lib.hid S2
      clear hP2 S1 hB
      clear c_0 c_1 d_0 d_1
      go_wp2_with fail
      refine (awake_any _ (hb.out.bel S2.out.bel)).mono ?_
      rintro e w9 ⟨rfl, hB⟩
      have S9 := Lib.hid (S2.out.call hB)
      clear S2 hB
      go_wp2
      go_ret
      exact ⟨rfl, S9.out.bel⟩
    | true =>
      rw [hq1] at hP2
      have l2 := Lib.hid (hll hq1)
      clear hq1
      have hP3 : Hid (∀ W, Below w.heap.size w W → Calls Tryd.prog 24 #[.agg #[.string s1, .slice A1 L1.length c1]] W fun e w' => e = .returned (.bool (frmB s1 L1)) ∧ Below W.heap.size W w') := Lib.hid fun W hB => rvalid_any s1 L1 A1 L1.length c1 W (hL1.out.bel hB) (by have := l1.out; omega)
      have hP4 : Hid (∀ W, Below w.heap.size w W → Calls Tryd.prog 24 #[.agg #[.string s2, .slice A2 L2.length c2]] W fun e w' => e = .returned (.bool (frmB s2 L2)) ∧ Below W.heap.size W w') := Lib.hid fun W hB => rvalid_any s2 L2 A2 L2.length c2 W (hL2.out.bel hB) (by have := l2.out; omega)
      cases hq2 : frmB s1 L1 with
      | false =>
        rw [hq2] at hP3
        clear hq2
        go_enter Tryd.func9, Tryd.ntmps9
        go_wp2_with fail
        refine (hP1.out _ S0.out.bel).mono ?_
        rintro e w1 ⟨rfl, hB⟩
        have S1 := S0.out.call hB
        have c_0 := S1.cl 1 0 rfl rfl
        have c_1 := S1.cl 1 1 rfl rfl
        have d_0 := S1.cl 0 0 rfl rfl
        have d_1 := S1.cl 0 1 rfl rfl
        replace S1 := Lib.hid S1
        clear hP1 S0 hB
        go_wp2_with fail
        refine (hP2.out _ S1.out.bel).mono ?_
        rintro e w2 ⟨rfl, hB⟩
        have S2 := S1.out.call hB
        clear c_0 c_1 d_0 d_1
        have c_0 := S2.cl 1 0 rfl rfl
        have c_1 := S2.cl 1 1 rfl rfl
        have d_0 := S2.cl 0 0 rfl rfl
        have d_1 := S2.cl 0 1 rfl rfl
        replace S2 := Lib.hid S2
        clear hP2 S1 hB
        go_wp2_with fail
        refine (hP3.out _ S2.out.bel).mono ?_
        rintro e w3 ⟨rfl, hB⟩
        have S3 := S2.out.call hB
        clear c_0 c_1 d_0 d_1
        have c_0 := S3.cl 1 0 rfl rfl
        have c_1 := S3.cl 1 1 rfl rfl
        have d_0 := S3.cl 0 0 rfl rfl
        have d_1 := S3.cl 0 1 rfl rfl
        replace S3 := Lib.hid S3
        clear hP3 S2 hB
        clear c_0 c_1 d_0 d_1
        go_wp2_with fail
        refine (awake_any _ (hb.out.bel S3.out.bel)).mono ?_
        rintro e w9 ⟨rfl, hB⟩
        have S9 := Lib.hid (S3.out.call hB)
        clear S3 hB
        go_wp2
        go_ret
        exact ⟨rfl, S9.out.bel⟩
      | true =>
        rw [hq2] at hP3
        have f1 := Lib.hid hq2
        clear hq2
        cases hq3 : frmB s2 L2 with
        | false =>
          rw [hq3] at hP4
          clear hq3
          go_enter Tryd.func9, Tryd.ntmps9
          go_wp2_with fail
          refine (hP1.out _ S0.out.bel).mono ?_
          rintro e w1 ⟨rfl, hB⟩
          have S1 := S0.out.call hB
          have c_0 := S1.cl 1 0 rfl rfl
          have c_1 := S1.cl 1 1 rfl rfl
          have d_0 := S1.cl 0 0 rfl rfl
          have d_1 := S1.cl 0 1 rfl rfl
          replace S1 := Lib.hid S1
          clear hP1 S0 hB
          go_wp2_with fail
          refine (hP2.out _ S1.out.bel).mono ?_
          rintro e w2 ⟨rfl, hB⟩
          have S2 := S1.out.call hB
          clear c_0 c_1 d_0 d_1
          have c_0 := S2.cl 1 0 rfl rfl
          have c_1 := S2.cl 1 1 rfl rfl
          have d_0 := S2.cl 0 0 rfl rfl
          have d_1 := S2.cl 0 1 rfl rfl
          replace S2 := Lib.hid S2
          clear hP2 S1 hB
          go_wp2_with fail
          refine (hP3.out _ S2.out.bel).mono ?_
          rintro e w3 ⟨rfl, hB⟩
          have S3 := S2.out.call hB
          clear c_0 c_1 d_0 d_1
          have c_0 := S3.cl 1 0 rfl rfl
          have c_1 := S3.cl 1 1 rfl rfl
          have d_0 := S3.cl 0 0 rfl rfl
          have d_1 := S3.cl 0 1 rfl rfl
          replace S3 := Lib.hid S3
          clear hP3 S2 hB
          go_wp2_with fail
          refine (hP4.out _ S3.out.bel).mono ?_
          rintro e w4 ⟨rfl, hB⟩
          have S4 := S3.out.call hB
          clear c_0 c_1 d_0 d_1
          have c_0 := S4.cl 1 0 rfl rfl
          have c_1 := S4.cl 1 1 rfl rfl
          have d_0 := S4.cl 0 0 rfl rfl
          have d_1 := S4.cl 0 1 rfl rfl
          replace S4 := Lib.hid S4
          clear hP4 S3 hB
          clear c_0 c_1 d_0 d_1
          go_wp2_with fail
          refine (awake_any _ (hb.out.bel S4.out.bel)).mono ?_
          rintro e w9 ⟨rfl, hB⟩
          have S9 := Lib.hid (S4.out.call hB)
          clear S4 hB
          go_wp2
          go_ret
          exact ⟨rfl, S9.out.bel⟩
        | true =>
          rw [hq3] at hP4
          have f2 := Lib.hid hq3
          clear hq3
          clear hll
          obtain ⟨op, hop⟩ : ∃ z : Int, z = 5 + k % 5 := ⟨_, rfl⟩
          have hkm1 := Int.emod_nonneg k (show (5 : Int) ≠ 0 by decide)
          have hkm2 := Int.emod_lt_of_pos k (show (0 : Int) < 5 by decide)
          have ho1 : 5 ≤ op := by omega
          have ho2 : op ≤ 9 := by omega
          obtain ⟨bv, hbv⟩ : ∃ b, b = decide ((L1.length : Int) + 1 + (L2.length : Int) ≤ 64) := ⟨_, rfl⟩
          have hgr := Lib.hid (grow_ok (s := s2) f1.out f2.out ho1 ho2)
          rw [← hbv] at hgr
          replace hbv := Lib.hid hbv
          have hmd : Hid (∀ W, Calls Tryd.prog 26 #[.int .i64 k, .int .i64 5] W fun e w' => e = .returned (.int .i64 (k % 5)) ∧ w' = W) := Lib.hid fun W => mmod_any k 5 W (by decide) (by decide)
          have hw5 : Hid (wrap64 (5 + k % 5) = op) := Lib.hid (by rw [hop]; unfold wrap64; omega)
          generalize k % 5 = km at *
          clear f1 f2
          go_enter Tryd.func9, Tryd.ntmps9
          go_wp2_with fail
          refine (hP1.out _ S0.out.bel).mono ?_
          rintro e w1 ⟨rfl, hB⟩
          have S1 := S0.out.call hB
          have c_0 := S1.cl 1 0 rfl rfl
          have c_1 := S1.cl 1 1 rfl rfl
          have d_0 := S1.cl 0 0 rfl rfl
          have d_1 := S1.cl 0 1 rfl rfl
          replace S1 := Lib.hid S1
          clear hP1 S0 hB
          go_wp2_with fail
          refine (hP2.out _ S1.out.bel).mono ?_
          rintro e w2 ⟨rfl, hB⟩
          have S2 := S1.out.call hB
          clear c_0 c_1 d_0 d_1
          have c_0 := S2.cl 1 0 rfl rfl
          have c_1 := S2.cl 1 1 rfl rfl
          have d_0 := S2.cl 0 0 rfl rfl
          have d_1 := S2.cl 0 1 rfl rfl
          replace S2 := Lib.hid S2
          clear hP2 S1 hB
          go_wp2_with fail
          refine (hP3.out _ S2.out.bel).mono ?_
          rintro e w3 ⟨rfl, hB⟩
          have S3 := S2.out.call hB
          clear c_0 c_1 d_0 d_1
          have c_0 := S3.cl 1 0 rfl rfl
          have c_1 := S3.cl 1 1 rfl rfl
          have d_0 := S3.cl 0 0 rfl rfl
          have d_1 := S3.cl 0 1 rfl rfl
          replace S3 := Lib.hid S3
          clear hP3 S2 hB
          go_wp2_with fail
          refine (hP4.out _ S3.out.bel).mono ?_
          rintro e w4 ⟨rfl, hB⟩
          have S4 := S3.out.call hB
          clear c_0 c_1 d_0 d_1
          have c_0 := S4.cl 1 0 rfl rfl
          have c_1 := S4.cl 1 1 rfl rfl
          have d_0 := S4.cl 0 0 rfl rfl
          have d_1 := S4.cl 0 1 rfl rfl
          replace S4 := Lib.hid S4
          clear hP4 S3 hB
          go_wp2_with fail
          refine (hmd.out _).mono ?_
          rintro e w5 ⟨rfl, hwe⟩
          subst hwe
          clear hmd
          have hw6 := hw5.out
          have hop2 := Lib.hid hop
          clear hop
          go_upto_region 4 with fail
          have hop3 : 5 + km = op := hop2.out.symm
          try rw [hw6]
          try rw [hop3]
          clear hw6 hw5
          obtain ⟨b1, hb1⟩ : ∃ b, b = w.heap.size := ⟨_, rfl⟩
          obtain ⟨b2, hb2⟩ : ∃ b, b = w.heap.size + 1 := ⟨_, rfl⟩
          rw [← hb2] at d_0 d_1 ⊢
          rw [← hb1] at c_0 c_1 ⊢
          clear hb1 hb2
          have hM1 := Lib.hid (hL1.out.bel S4.out.bel)
          have hM2 := Lib.hid (hL2.out.bel S4.out.bel)
          have hSb := Lib.hid S4.out.bel
          clear S4 hL1 hL2
          have hbase := Lib.hid (St.new w5)
          refine RW.begin (Z := []) (S := (fun V => Below w5.heap.size w5 V)) (by kernel_rfl) ?_ hbase.out ?_
          · exact ⟨by kernel_rfl, zis_nil, by decide, by decide, nol_nil, (fun _ _ h => h.bel)⟩
          intro hzk
          refine RW.t (i := 0) (v := .pointer (some ⟨b1, 0, none⟩)) (some 30) at0 (hy := fun _ _ => by go_simp) (h := ?_)
          refine RW.t (i := 1) (v := .string s1) (some 31) at1 (hy := fun V hS => by (have k0 := bel_cell hS c_0; clear hS; go_simp)) (h := ?_)
          refine RW.t (i := 2) (v := .int .i64 op) (some 32) at2 (hy := fun _ _ => by kernel_rfl) (h := ?_)
          refine RW.t (i := 3) (v := .agg #[.int .i64 op, .string ⟨#[]⟩, .int .i64 0]) (some 33) at3 (hy := fun _ _ => by go_simp) (h := ?_)
          refine RW.t (i := 5) (v := .pointer (some ⟨b1, 1, none⟩)) (some 35) at5 (hy := fun _ _ => by go_simp) (h := ?_)
          refine RW.t (i := 6) (v := .slice A1 L1.length c1) (some 36) at6 (hy := fun V hS => by (have k0 := bel_cell hS c_1; clear hS; go_simp)) (h := ?_)
          refine RW.t (i := 8) (v := .pointer (some ⟨b2, 1, none⟩)) (some 38) at8 (hy := fun _ _ => by go_simp) (h := ?_)
          refine RW.t (i := 9) (v := .slice A2 L2.length c2) (some 39) at9 (hy := fun V hS => by (have k0 := bel_cell hS d_1; clear hS; go_simp)) (h := ?_)
          refine RW.tail hzk.out (by kernel_rfl) ?_
          intro gs' V hgs' hS Sb
          obtain rfl := len0 hgs'
          simp only [mark, fill, Act.put, List.setIfInBounds_toArray, List.set_cons_zero, List.set_cons_succ]
          have S := Lib.hid (hbase.out.call hS)
          replace hM1 := Lib.hid (fun X (hX : Below w5.heap.size w5 X) => hM1.out.bel hX)
          replace hM2 := Lib.hid (fun X (hX : Below w5.heap.size w5 X) => hM2.out.bel hX)
          clear hbase hzk Sb hS hgs' c_0 c_1 d_0 d_1
          refine Wk.two (i := 4) (j := 12) at4 at12 (by kernel_rfl) (fun K' hK => ?_) (fun K' hK => ?_)
          · go_simp
            have S' := Lib.hid (S.out.alloc #[.int .i64 op, .string ⟨#[]⟩, .int .i64 0] 38 (noLof rfl))
            clear S
            refine hK.out _ _ S'.out.bel ?_
            clear hK K'
            try simp only [Act.put, List.setIfInBounds_toArray, List.set_cons_zero, List.set_cons_succ]
            have G := Lib.hid (Gro.one (C := ndC) (y := ⟨op, ⟨#[]⟩, 0⟩) S'.out (nd_in _))
            clear S'
            obtain ⟨V1, hV1⟩ : ∃ X, X = V.alloc (.cells #[.int .i64 op, .string ⟨#[]⟩, .int .i64 0] 38) := ⟨_, rfl⟩
            obtain ⟨n1, hn1⟩ : ∃ b, b = V.heap.size := ⟨_, rfl⟩
            rw [← hV1] at G ⊢
            rw [← hn1] at G ⊢
            clear hV1 hn1
            refine Wk.two (i := 7) (j := 12) at7 at12 (by kernel_rfl) (fun K' hK => ?_) (fun K' hK => ?_)
            · have hm := hM1.out _ G.out.st.bel
              refine Gro.opm (.tmp 34) (.tmp 36) 23 rfl (.agg #[.int .i64 0, .string ⟨#[]⟩, .int .i64 0]) 32 Tryd.underlying23 (by kernel_rfl) rfl (fun v hv z e => by simp [Value.cells] at hv; subst e; simp at hv) rfl G.out L1 A1 c1 rfl hm (fun y _ => nd_in y) (by have := l1.out; have := l2.out; simp; omega) (by have := l1.out; have := l2.out; unfold maxLen; simp; omega) ?_
              intro av X7 G'
              obtain ⟨A7, c7, hav, _⟩ := G'.lr
              subst hav
              clear G hm
              have G := Lib.hid G'
              clear G'
              refine hK.out _ _ G.out.st.bel ?_
              clear hK K'
              try simp only [Act.put, List.setIfInBounds_toArray, List.set_cons_zero, List.set_cons_succ]
              refine Wk.two (i := 10) (j := 12) at10 at12 (by kernel_rfl) (fun K' hK => ?_) (fun K' hK => ?_)
              · have hm := hM2.out _ G.out.st.bel
                refine Gro.opm (.tmp 37) (.tmp 39) 23 rfl (.agg #[.int .i64 0, .string ⟨#[]⟩, .int .i64 0]) 32 Tryd.underlying23 (by kernel_rfl) rfl (fun v hv z e => by simp [Value.cells] at hv; subst e; simp at hv) rfl G.out L2 A2 c2 rfl hm (fun y _ => nd_in y) (by have := l1.out; have := l2.out; simp; omega) (by have := l1.out; have := l2.out; unfold maxLen; simp; omega) ?_
                intro av X10 G'
                obtain ⟨A10, c10, hav, _⟩ := G'.lr
                subst hav
                clear G hm
                have G := Lib.hid G'
                clear G'
                refine hK.out _ _ G.out.st.bel ?_
                clear hK K'
                try simp only [Act.put, List.setIfInBounds_toArray, List.set_cons_zero, List.set_cons_succ]
                obtain ⟨H, hH⟩ : ∃ H : List Nd, H = [⟨op, ⟨#[]⟩, 0⟩] ++ L1 ++ L2 := ⟨_, rfl⟩
                rw [← hH] at G ⊢
                have hlen : Hid (H.length = L1.length + 1 + L2.length) := Lib.hid (by rw [hH]; simp; omega)
                have hHc : Hid (H = ⟨op, ⟨#[]⟩, 0⟩ :: (L1 ++ L2)) := Lib.hid (by rw [hH]; simp)
                obtain ⟨nH, hnH⟩ : ∃ n, n = H.length := ⟨_, rfl⟩
                rw [← hnH] at G ⊢
                replace hnH := Lib.hid hnH
                clear hH
                refine Wk.t (i := 11) (v := .agg #[.string s1, .slice A10 nH c10]) (some 41) at11 (hS := G.out.st.bel) (hy := fun _ _ => by kernel_rfl) (h := ?_)
                try simp only [Act.put, List.setIfInBounds_toArray, List.set_cons_zero, List.set_cons_succ]
                refine Wk.o (i := 12) at12 (by kernel_rfl) fun K' hK => ?_
                go_simp
                have G' := Lib.hid (G.out.alloc #[.string ⟨#[]⟩, .slice none 0 0] 25 (noLof rfl))
                clear G
                have G := G'
                clear G'
                refine hK.out _ _ G.out.st.bel ?_
                clear hK K'
                try simp only [Act.put, List.setIfInBounds_toArray, List.set_cons_zero, List.set_cons_succ]
                obtain ⟨V2, hV2⟩ : ∃ X, X = X10.alloc (.cells #[.string ⟨#[]⟩, .slice none 0 0] 25) := ⟨_, rfl⟩
                obtain ⟨n2, hn2⟩ : ∃ b, b = X10.heap.size := ⟨_, rfl⟩
                rw [← hV2] at G ⊢
                rw [← hn2] at G ⊢
                clear hV2 hn2
                refine Wk.o (i := 13) at13 (by kernel_rfl) fun K' hK => ?_
                have c_0 := G.out.st.cl 0 0 rfl rfl
                have c_1 := G.out.st.cl 0 1 rfl rfl
                have f_0 := G.out.st.f 0 0 rfl
                have f_1 := G.out.st.f 0 1 rfl
                have z_0 := G.out.st.lt 0 rfl
                have G2 := Lib.hid ((G.out.put 0 rfl 0 (.string s1) (fun _ => by simp) (fun _ _ => nd_in _)).put 0 rfl 1 (.slice A10 nH c10) (fun _ => by simp) (fun _ _ => nd_in _))
                replace G := Lib.hid G.out
                go_simp
                refine hK.out _ _ G2.out.st.bel ?_
                clear hK K'
                try simp only [Act.put, List.setIfInBounds_toArray, List.set_cons_zero, List.set_cons_succ]
                clear c_0 c_1 f_0 f_1 z_0 G hM1 hM2
                refine Wk.done (by kernel_rfl) ?_
                try go_simp
                obtain ⟨hLR, hcap, _⟩ := G2.out.lenc
                have d_0 := G2.out.st.cl 0 0 rfl rfl
                have d_1 := G2.out.st.cl 0 1 rfl rfl
                have hB2 := G2.out.st.bel
                clear G2
                generalize hY : World.setCell (World.setCell V2 _ _) _ _ = Y at *
                clear hY
                have hOY := Lib.hid (hb.out.bel (hSb.out.trans (hB2.mono hSb.out.size)))
                have hBY := Lib.hid (hSb.out.trans (hB2.mono hSb.out.size))
                have hV : Hid (∀ Z, Below Y.heap.size Y Z → Calls Tryd.prog 23 #[.agg #[.string s1, .slice A10 nH c10]] Z fun e w' => e = .returned (.bool bv) ∧ Below Z.heap.size Z w') := Lib.hid fun Z hYZ => by have := valid_any s1 H A10 nH c10 Z (hLR.bel hYZ) (by have := l1.out; have := l2.out; have := hlen.out; have := hnH.out; omega) (hOY.out.bel hYZ); rwa [hHc.out, hgr.out] at this
                have hbn : Hid (decide ((nH : Int) ≤ 64) = bv) := Lib.hid (by rw [hbv.out, decide_eq_decide]; have := hlen.out; have := hnH.out; omega)
                clear hLR hB2 hcap hgr
                go_upto_region 5 with fail
                have hbase := Lib.hid (St.new Y)
                refine RW.begin (Z := []) (S := (fun V => Below Y.heap.size Y V)) (by kernel_rfl) ?_ hbase.out ?_
                · exact ⟨by kernel_rfl, zis_nil, by decide, by decide, nol_nil, (fun _ _ h => h.bel)⟩
                intro hzk
                refine RW.c (i := 0) (args := #[]) (some 42) hzk.out at0 (hx := fun _ => by kernel_rfl) (h := fun Z S => (awake_any Z (hOY.out.bel S.bel)).mono ?_)
                rintro e w9 ⟨rfl, hB9⟩
                refine ⟨hB9, _, [], rfl, (fun r hr => by cases hr), ?_⟩
                clear hB9
                refine RW.t (i := 1) (v := .bool true) (some 43) at1 (hy := fun _ _ => by kernel_rfl) (h := ?_)
                refine RW.t (i := 2) (v := .agg #[.string s1, .slice A10 nH c10]) (some 44) at2 (hy := fun V hS => by (have k0 := bel_cell hS d_0; have k1 := bel_cell hS d_1; clear hS; go_simp)) (h := ?_)
                refine RW.t (i := 4) (v := .pointer (some ⟨n2, 1, none⟩)) (some 46) at4 (hy := fun _ _ => by go_simp) (h := ?_)
                refine RW.t (i := 5) (v := .slice A10 nH c10) (some 47) at5 (hy := fun V hS => by (have k0 := bel_cell hS d_0; have k1 := bel_cell hS d_1; clear hS; go_simp)) (h := ?_)
                refine RW.t (i := 6) (v := .int .i64 (nH : Nat)) (some 48) at6 (hy := fun _ _ => by go_simp) (h := ?_)
                refine RW.t (i := 7) (v := .bool bv) (some 49) at7 (hy := fun _ _ => by (have hbn2 := hbn.out; go_simp)) (h := ?_)
                refine RW.c (i := 3) (args := #[.agg #[.string s1, .slice A10 nH c10]]) (some 45) hzk.out at3 (hx := fun _ => by kernel_rfl) (h := fun Z S => (hV.out Z S.bel).mono ?_)
                rintro e w9 ⟨rfl, hB9⟩
                refine ⟨hB9, _, [], rfl, (fun r hr => by cases hr), ?_⟩
                clear hB9
                refine RW.t (i := 8) (v := .bool true) (some 50) at8 (hy := fun _ _ => by (cases bv <;> go_simp)) (h := ?_)
                refine RW.t (i := 9) (v := .bool true) (some 51) at9 (hy := fun _ _ => by kernel_rfl) (h := ?_)
                refine RW.tail hzk.out (by kernel_rfl) ?_
                intro gs' wz hgs' hS Sb
                obtain rfl := len0 hgs'
                simp only [mark, fill, Act.put, List.setIfInBounds_toArray, List.set_cons_zero, List.set_cons_succ]
                refine Wk.o (i := 10) at10 (by kernel_rfl) fun K' hK => ?_
                go_simp
                refine hK.out _ _ hS ?_
                clear hK K'
                try simp only [Act.put, List.setIfInBounds_toArray, List.set_cons_zero, List.set_cons_succ]
                refine Wk.done (by kernel_rfl) ?_
                have hEnd := Lib.hid (hBY.out.trans (hS.mono hBY.out.size))
                clear Sb hgs' hzk hbase hS hV d_0 d_1
                try go_simp
                go_wp2
                go_ret
                exact ⟨rfl, hEnd.out⟩
              · go_simp
                have G' := Lib.hid (G.out.alloc #[.string ⟨#[]⟩, .slice none 0 0] 25 (noLof rfl))
                clear G
                have G := G'
                clear G'
                refine hK.out _ _ G.out.st.bel ?_
                clear hK K'
                try simp only [Act.put, List.setIfInBounds_toArray, List.set_cons_zero, List.set_cons_succ]
                obtain ⟨V3, hV3⟩ : ∃ X, X = X7.alloc (.cells #[.string ⟨#[]⟩, .slice none 0 0] 25) := ⟨_, rfl⟩
                obtain ⟨n3, hn3⟩ : ∃ b, b = X7.heap.size := ⟨_, rfl⟩
                rw [← hV3] at G ⊢
                rw [← hn3] at G ⊢
                clear hV3 hn3
                refine Wk.o (i := 10) at10 (by kernel_rfl) fun K' hK => ?_
                have hm := hM2.out _ G.out.st.bel
                refine Gro.opm (.tmp 37) (.tmp 39) 23 rfl (.agg #[.int .i64 0, .string ⟨#[]⟩, .int .i64 0]) 32 Tryd.underlying23 (by kernel_rfl) rfl (fun v hv z e => by simp [Value.cells] at hv; subst e; simp at hv) rfl G.out L2 A2 c2 rfl hm (fun y _ => nd_in y) (by have := l1.out; have := l2.out; simp; omega) (by have := l1.out; have := l2.out; unfold maxLen; simp; omega) ?_
                intro av X10 G'
                obtain ⟨A10, c10, hav, _⟩ := G'.lr
                subst hav
                clear G hm
                have G := Lib.hid G'
                clear G'
                refine hK.out _ _ G.out.st.bel ?_
                clear hK K'
                try simp only [Act.put, List.setIfInBounds_toArray, List.set_cons_zero, List.set_cons_succ]
                obtain ⟨H, hH⟩ : ∃ H : List Nd, H = [⟨op, ⟨#[]⟩, 0⟩] ++ L1 ++ L2 := ⟨_, rfl⟩
                rw [← hH] at G ⊢
                have hlen : Hid (H.length = L1.length + 1 + L2.length) := Lib.hid (by rw [hH]; simp; omega)
                have hHc : Hid (H = ⟨op, ⟨#[]⟩, 0⟩ :: (L1 ++ L2)) := Lib.hid (by rw [hH]; simp)
                obtain ⟨nH, hnH⟩ : ∃ n, n = H.length := ⟨_, rfl⟩
                rw [← hnH] at G ⊢
                replace hnH := Lib.hid hnH
                clear hH
                refine Wk.t (i := 11) (v := .agg #[.string s1, .slice A10 nH c10]) (some 41) at11 (hS := G.out.st.bel) (hy := fun _ _ => by kernel_rfl) (h := ?_)
                try simp only [Act.put, List.setIfInBounds_toArray, List.set_cons_zero, List.set_cons_succ]
                refine Wk.o (i := 13) at13 (by kernel_rfl) fun K' hK => ?_
                have c_0 := G.out.st.cl 0 0 rfl rfl
                have c_1 := G.out.st.cl 0 1 rfl rfl
                have f_0 := G.out.st.f 0 0 rfl
                have f_1 := G.out.st.f 0 1 rfl
                have z_0 := G.out.st.lt 0 rfl
                have G2 := Lib.hid ((G.out.put 0 rfl 0 (.string s1) (fun _ => by simp) (fun _ _ => nd_in _)).put 0 rfl 1 (.slice A10 nH c10) (fun _ => by simp) (fun _ _ => nd_in _))
                replace G := Lib.hid G.out
                go_simp
                refine hK.out _ _ G2.out.st.bel ?_
                clear hK K'
                try simp only [Act.put, List.setIfInBounds_toArray, List.set_cons_zero, List.set_cons_succ]
                clear c_0 c_1 f_0 f_1 z_0 G hM1 hM2
                refine Wk.done (by kernel_rfl) ?_
                try go_simp
                obtain ⟨hLR, hcap, _⟩ := G2.out.lenc
                have d_0 := G2.out.st.cl 0 0 rfl rfl
                have d_1 := G2.out.st.cl 0 1 rfl rfl
                have hB2 := G2.out.st.bel
                clear G2
                generalize hY : World.setCell (World.setCell X10 _ _) _ _ = Y at *
                clear hY
                have hOY := Lib.hid (hb.out.bel (hSb.out.trans (hB2.mono hSb.out.size)))
                have hBY := Lib.hid (hSb.out.trans (hB2.mono hSb.out.size))
                have hV : Hid (∀ Z, Below Y.heap.size Y Z → Calls Tryd.prog 23 #[.agg #[.string s1, .slice A10 nH c10]] Z fun e w' => e = .returned (.bool bv) ∧ Below Z.heap.size Z w') := Lib.hid fun Z hYZ => by have := valid_any s1 H A10 nH c10 Z (hLR.bel hYZ) (by have := l1.out; have := l2.out; have := hlen.out; have := hnH.out; omega) (hOY.out.bel hYZ); rwa [hHc.out, hgr.out] at this
                have hbn : Hid (decide ((nH : Int) ≤ 64) = bv) := Lib.hid (by rw [hbv.out, decide_eq_decide]; have := hlen.out; have := hnH.out; omega)
                clear hLR hB2 hcap hgr
                go_upto_region 5 with fail
                have hbase := Lib.hid (St.new Y)
                refine RW.begin (Z := []) (S := (fun V => Below Y.heap.size Y V)) (by kernel_rfl) ?_ hbase.out ?_
                · exact ⟨by kernel_rfl, zis_nil, by decide, by decide, nol_nil, (fun _ _ h => h.bel)⟩
                intro hzk
                refine RW.c (i := 0) (args := #[]) (some 42) hzk.out at0 (hx := fun _ => by kernel_rfl) (h := fun Z S => (awake_any Z (hOY.out.bel S.bel)).mono ?_)
                rintro e w9 ⟨rfl, hB9⟩
                refine ⟨hB9, _, [], rfl, (fun r hr => by cases hr), ?_⟩
                clear hB9
                refine RW.t (i := 1) (v := .bool true) (some 43) at1 (hy := fun _ _ => by kernel_rfl) (h := ?_)
                refine RW.t (i := 2) (v := .agg #[.string s1, .slice A10 nH c10]) (some 44) at2 (hy := fun V hS => by (have k0 := bel_cell hS d_0; have k1 := bel_cell hS d_1; clear hS; go_simp)) (h := ?_)
                refine RW.t (i := 4) (v := .pointer (some ⟨n3, 1, none⟩)) (some 46) at4 (hy := fun _ _ => by go_simp) (h := ?_)
                refine RW.t (i := 5) (v := .slice A10 nH c10) (some 47) at5 (hy := fun V hS => by (have k0 := bel_cell hS d_0; have k1 := bel_cell hS d_1; clear hS; go_simp)) (h := ?_)
                refine RW.t (i := 6) (v := .int .i64 (nH : Nat)) (some 48) at6 (hy := fun _ _ => by go_simp) (h := ?_)
                refine RW.t (i := 7) (v := .bool bv) (some 49) at7 (hy := fun _ _ => by (have hbn2 := hbn.out; go_simp)) (h := ?_)
                refine RW.c (i := 3) (args := #[.agg #[.string s1, .slice A10 nH c10]]) (some 45) hzk.out at3 (hx := fun _ => by kernel_rfl) (h := fun Z S => (hV.out Z S.bel).mono ?_)
                rintro e w9 ⟨rfl, hB9⟩
                refine ⟨hB9, _, [], rfl, (fun r hr => by cases hr), ?_⟩
                clear hB9
                refine RW.t (i := 8) (v := .bool true) (some 50) at8 (hy := fun _ _ => by (cases bv <;> go_simp)) (h := ?_)
                refine RW.t (i := 9) (v := .bool true) (some 51) at9 (hy := fun _ _ => by kernel_rfl) (h := ?_)
                refine RW.tail hzk.out (by kernel_rfl) ?_
                intro gs' wz hgs' hS Sb
                obtain rfl := len0 hgs'
                simp only [mark, fill, Act.put, List.setIfInBounds_toArray, List.set_cons_zero, List.set_cons_succ]
                refine Wk.o (i := 10) at10 (by kernel_rfl) fun K' hK => ?_
                go_simp
                refine hK.out _ _ hS ?_
                clear hK K'
                try simp only [Act.put, List.setIfInBounds_toArray, List.set_cons_zero, List.set_cons_succ]
                refine Wk.done (by kernel_rfl) ?_
                have hEnd := Lib.hid (hBY.out.trans (hS.mono hBY.out.size))
                clear Sb hgs' hzk hbase hS hV d_0 d_1
                try go_simp
                go_wp2
                go_ret
                exact ⟨rfl, hEnd.out⟩
            · go_simp
              have G' := Lib.hid (G.out.alloc #[.string ⟨#[]⟩, .slice none 0 0] 25 (noLof rfl))
              clear G
              have G := G'
              clear G'
              refine hK.out _ _ G.out.st.bel ?_
              clear hK K'
              try simp only [Act.put, List.setIfInBounds_toArray, List.set_cons_zero, List.set_cons_succ]
              obtain ⟨V4, hV4⟩ : ∃ X, X = V1.alloc (.cells #[.string ⟨#[]⟩, .slice none 0 0] 25) := ⟨_, rfl⟩
              obtain ⟨n4, hn4⟩ : ∃ b, b = V1.heap.size := ⟨_, rfl⟩
              rw [← hV4] at G ⊢
              rw [← hn4] at G ⊢
              clear hV4 hn4
              refine Wk.o (i := 7) at7 (by kernel_rfl) fun K' hK => ?_
              have hm := hM1.out _ G.out.st.bel
              refine Gro.opm (.tmp 34) (.tmp 36) 23 rfl (.agg #[.int .i64 0, .string ⟨#[]⟩, .int .i64 0]) 32 Tryd.underlying23 (by kernel_rfl) rfl (fun v hv z e => by simp [Value.cells] at hv; subst e; simp at hv) rfl G.out L1 A1 c1 rfl hm (fun y _ => nd_in y) (by have := l1.out; have := l2.out; simp; omega) (by have := l1.out; have := l2.out; unfold maxLen; simp; omega) ?_
              intro av X7 G'
              obtain ⟨A7, c7, hav, _⟩ := G'.lr
              subst hav
              clear G hm
              have G := Lib.hid G'
              clear G'
              refine hK.out _ _ G.out.st.bel ?_
              clear hK K'
              try simp only [Act.put, List.setIfInBounds_toArray, List.set_cons_zero, List.set_cons_succ]
              refine Wk.o (i := 10) at10 (by kernel_rfl) fun K' hK => ?_
              have hm := hM2.out _ G.out.st.bel
              refine Gro.opm (.tmp 37) (.tmp 39) 23 rfl (.agg #[.int .i64 0, .string ⟨#[]⟩, .int .i64 0]) 32 Tryd.underlying23 (by kernel_rfl) rfl (fun v hv z e => by simp [Value.cells] at hv; subst e; simp at hv) rfl G.out L2 A2 c2 rfl hm (fun y _ => nd_in y) (by have := l1.out; have := l2.out; simp; omega) (by have := l1.out; have := l2.out; unfold maxLen; simp; omega) ?_
              intro av X10 G'
              obtain ⟨A10, c10, hav, _⟩ := G'.lr
              subst hav
              clear G hm
              have G := Lib.hid G'
              clear G'
              refine hK.out _ _ G.out.st.bel ?_
              clear hK K'
              try simp only [Act.put, List.setIfInBounds_toArray, List.set_cons_zero, List.set_cons_succ]
              obtain ⟨H, hH⟩ : ∃ H : List Nd, H = [⟨op, ⟨#[]⟩, 0⟩] ++ L1 ++ L2 := ⟨_, rfl⟩
              rw [← hH] at G ⊢
              have hlen : Hid (H.length = L1.length + 1 + L2.length) := Lib.hid (by rw [hH]; simp; omega)
              have hHc : Hid (H = ⟨op, ⟨#[]⟩, 0⟩ :: (L1 ++ L2)) := Lib.hid (by rw [hH]; simp)
              obtain ⟨nH, hnH⟩ : ∃ n, n = H.length := ⟨_, rfl⟩
              rw [← hnH] at G ⊢
              replace hnH := Lib.hid hnH
              clear hH
              refine Wk.t (i := 11) (v := .agg #[.string s1, .slice A10 nH c10]) (some 41) at11 (hS := G.out.st.bel) (hy := fun _ _ => by kernel_rfl) (h := ?_)
              try simp only [Act.put, List.setIfInBounds_toArray, List.set_cons_zero, List.set_cons_succ]
              refine Wk.o (i := 13) at13 (by kernel_rfl) fun K' hK => ?_
              have c_0 := G.out.st.cl 0 0 rfl rfl
              have c_1 := G.out.st.cl 0 1 rfl rfl
              have f_0 := G.out.st.f 0 0 rfl
              have f_1 := G.out.st.f 0 1 rfl
              have z_0 := G.out.st.lt 0 rfl
              have G2 := Lib.hid ((G.out.put 0 rfl 0 (.string s1) (fun _ => by simp) (fun _ _ => nd_in _)).put 0 rfl 1 (.slice A10 nH c10) (fun _ => by simp) (fun _ _ => nd_in _))
              replace G := Lib.hid G.out
              go_simp
              refine hK.out _ _ G2.out.st.bel ?_
              clear hK K'
              try simp only [Act.put, List.setIfInBounds_toArray, List.set_cons_zero, List.set_cons_succ]
              clear c_0 c_1 f_0 f_1 z_0 G hM1 hM2
              refine Wk.done (by kernel_rfl) ?_
              try go_simp
              obtain ⟨hLR, hcap, _⟩ := G2.out.lenc
              have d_0 := G2.out.st.cl 0 0 rfl rfl
              have d_1 := G2.out.st.cl 0 1 rfl rfl
              have hB2 := G2.out.st.bel
              clear G2
              generalize hY : World.setCell (World.setCell X10 _ _) _ _ = Y at *
              clear hY
              have hOY := Lib.hid (hb.out.bel (hSb.out.trans (hB2.mono hSb.out.size)))
              have hBY := Lib.hid (hSb.out.trans (hB2.mono hSb.out.size))
              have hV : Hid (∀ Z, Below Y.heap.size Y Z → Calls Tryd.prog 23 #[.agg #[.string s1, .slice A10 nH c10]] Z fun e w' => e = .returned (.bool bv) ∧ Below Z.heap.size Z w') := Lib.hid fun Z hYZ => by have := valid_any s1 H A10 nH c10 Z (hLR.bel hYZ) (by have := l1.out; have := l2.out; have := hlen.out; have := hnH.out; omega) (hOY.out.bel hYZ); rwa [hHc.out, hgr.out] at this
              have hbn : Hid (decide ((nH : Int) ≤ 64) = bv) := Lib.hid (by rw [hbv.out, decide_eq_decide]; have := hlen.out; have := hnH.out; omega)
              clear hLR hB2 hcap hgr
              go_upto_region 5 with fail
              have hbase := Lib.hid (St.new Y)
              refine RW.begin (Z := []) (S := (fun V => Below Y.heap.size Y V)) (by kernel_rfl) ?_ hbase.out ?_
              · exact ⟨by kernel_rfl, zis_nil, by decide, by decide, nol_nil, (fun _ _ h => h.bel)⟩
              intro hzk
              refine RW.c (i := 0) (args := #[]) (some 42) hzk.out at0 (hx := fun _ => by kernel_rfl) (h := fun Z S => (awake_any Z (hOY.out.bel S.bel)).mono ?_)
              rintro e w9 ⟨rfl, hB9⟩
              refine ⟨hB9, _, [], rfl, (fun r hr => by cases hr), ?_⟩
              clear hB9
              refine RW.t (i := 1) (v := .bool true) (some 43) at1 (hy := fun _ _ => by kernel_rfl) (h := ?_)
              refine RW.t (i := 2) (v := .agg #[.string s1, .slice A10 nH c10]) (some 44) at2 (hy := fun V hS => by (have k0 := bel_cell hS d_0; have k1 := bel_cell hS d_1; clear hS; go_simp)) (h := ?_)
              refine RW.t (i := 4) (v := .pointer (some ⟨n4, 1, none⟩)) (some 46) at4 (hy := fun _ _ => by go_simp) (h := ?_)
              refine RW.t (i := 5) (v := .slice A10 nH c10) (some 47) at5 (hy := fun V hS => by (have k0 := bel_cell hS d_0; have k1 := bel_cell hS d_1; clear hS; go_simp)) (h := ?_)
              refine RW.t (i := 6) (v := .int .i64 (nH : Nat)) (some 48) at6 (hy := fun _ _ => by go_simp) (h := ?_)
              refine RW.t (i := 7) (v := .bool bv) (some 49) at7 (hy := fun _ _ => by (have hbn2 := hbn.out; go_simp)) (h := ?_)
              refine RW.c (i := 3) (args := #[.agg #[.string s1, .slice A10 nH c10]]) (some 45) hzk.out at3 (hx := fun _ => by kernel_rfl) (h := fun Z S => (hV.out Z S.bel).mono ?_)
              rintro e w9 ⟨rfl, hB9⟩
              refine ⟨hB9, _, [], rfl, (fun r hr => by cases hr), ?_⟩
              clear hB9
              refine RW.t (i := 8) (v := .bool true) (some 50) at8 (hy := fun _ _ => by (cases bv <;> go_simp)) (h := ?_)
              refine RW.t (i := 9) (v := .bool true) (some 51) at9 (hy := fun _ _ => by kernel_rfl) (h := ?_)
              refine RW.tail hzk.out (by kernel_rfl) ?_
              intro gs' wz hgs' hS Sb
              obtain rfl := len0 hgs'
              simp only [mark, fill, Act.put, List.setIfInBounds_toArray, List.set_cons_zero, List.set_cons_succ]
              refine Wk.o (i := 10) at10 (by kernel_rfl) fun K' hK => ?_
              go_simp
              refine hK.out _ _ hS ?_
              clear hK K'
              try simp only [Act.put, List.setIfInBounds_toArray, List.set_cons_zero, List.set_cons_succ]
              refine Wk.done (by kernel_rfl) ?_
              have hEnd := Lib.hid (hBY.out.trans (hS.mono hBY.out.size))
              clear Sb hgs' hzk hbase hS hV d_0 d_1
              try go_simp
              go_wp2
              go_ret
              exact ⟨rfl, hEnd.out⟩
          · go_simp
            have S' := Lib.hid (S.out.alloc #[.string ⟨#[]⟩, .slice none 0 0] 25 (noLof rfl))
            clear S
            have S := S'
            clear S'
            refine hK.out _ _ S.out.bel ?_
            clear hK K'
            try simp only [Act.put, List.setIfInBounds_toArray, List.set_cons_zero, List.set_cons_succ]
            obtain ⟨V5, hV5⟩ : ∃ X, X = V.alloc (.cells #[.string ⟨#[]⟩, .slice none 0 0] 25) := ⟨_, rfl⟩
            obtain ⟨n5, hn5⟩ : ∃ b, b = V.heap.size := ⟨_, rfl⟩
            rw [← hV5] at S ⊢
            rw [← hn5] at S ⊢
            clear hV5 hn5
            refine Wk.o (i := 4) at4 (by kernel_rfl) fun K' hK => ?_
            go_simp
            have S' := Lib.hid (S.out.alloc #[.int .i64 op, .string ⟨#[]⟩, .int .i64 0] 38 (noLof rfl))
            clear S
            refine hK.out _ _ S'.out.bel ?_
            clear hK K'
            try simp only [Act.put, List.setIfInBounds_toArray, List.set_cons_zero, List.set_cons_succ]
            have G := Lib.hid (Gro.one (C := ndC) (y := ⟨op, ⟨#[]⟩, 0⟩) S'.out (nd_in _))
            clear S'
            obtain ⟨V6, hV6⟩ : ∃ X, X = V5.alloc (.cells #[.int .i64 op, .string ⟨#[]⟩, .int .i64 0] 38) := ⟨_, rfl⟩
            obtain ⟨n6, hn6⟩ : ∃ b, b = V5.heap.size := ⟨_, rfl⟩
            rw [← hV6] at G ⊢
            rw [← hn6] at G ⊢
            clear hV6 hn6
            refine Wk.o (i := 7) at7 (by kernel_rfl) fun K' hK => ?_
            have hm := hM1.out _ G.out.st.bel
            refine Gro.opm (.tmp 34) (.tmp 36) 23 rfl (.agg #[.int .i64 0, .string ⟨#[]⟩, .int .i64 0]) 32 Tryd.underlying23 (by kernel_rfl) rfl (fun v hv z e => by simp [Value.cells] at hv; subst e; simp at hv) rfl G.out L1 A1 c1 rfl hm (fun y _ => nd_in y) (by have := l1.out; have := l2.out; simp; omega) (by have := l1.out; have := l2.out; unfold maxLen; simp; omega) ?_
            intro av X7 G'
            obtain ⟨A7, c7, hav, _⟩ := G'.lr
            subst hav
            clear G hm
            have G := Lib.hid G'
            clear G'
            refine hK.out _ _ G.out.st.bel ?_
            clear hK K'
            try simp only [Act.put, List.setIfInBounds_toArray, List.set_cons_zero, List.set_cons_succ]
            refine Wk.o (i := 10) at10 (by kernel_rfl) fun K' hK => ?_
            have hm := hM2.out _ G.out.st.bel
            refine Gro.opm (.tmp 37) (.tmp 39) 23 rfl (.agg #[.int .i64 0, .string ⟨#[]⟩, .int .i64 0]) 32 Tryd.underlying23 (by kernel_rfl) rfl (fun v hv z e => by simp [Value.cells] at hv; subst e; simp at hv) rfl G.out L2 A2 c2 rfl hm (fun y _ => nd_in y) (by have := l1.out; have := l2.out; simp; omega) (by have := l1.out; have := l2.out; unfold maxLen; simp; omega) ?_
            intro av X10 G'
            obtain ⟨A10, c10, hav, _⟩ := G'.lr
            subst hav
            clear G hm
            have G := Lib.hid G'
            clear G'
            refine hK.out _ _ G.out.st.bel ?_
            clear hK K'
            try simp only [Act.put, List.setIfInBounds_toArray, List.set_cons_zero, List.set_cons_succ]
            obtain ⟨H, hH⟩ : ∃ H : List Nd, H = [⟨op, ⟨#[]⟩, 0⟩] ++ L1 ++ L2 := ⟨_, rfl⟩
            rw [← hH] at G ⊢
            have hlen : Hid (H.length = L1.length + 1 + L2.length) := Lib.hid (by rw [hH]; simp; omega)
            have hHc : Hid (H = ⟨op, ⟨#[]⟩, 0⟩ :: (L1 ++ L2)) := Lib.hid (by rw [hH]; simp)
            obtain ⟨nH, hnH⟩ : ∃ n, n = H.length := ⟨_, rfl⟩
            rw [← hnH] at G ⊢
            replace hnH := Lib.hid hnH
            clear hH
            refine Wk.t (i := 11) (v := .agg #[.string s1, .slice A10 nH c10]) (some 41) at11 (hS := G.out.st.bel) (hy := fun _ _ => by kernel_rfl) (h := ?_)
            try simp only [Act.put, List.setIfInBounds_toArray, List.set_cons_zero, List.set_cons_succ]
            refine Wk.o (i := 13) at13 (by kernel_rfl) fun K' hK => ?_
            have c_0 := G.out.st.cl 0 0 rfl rfl
            have c_1 := G.out.st.cl 0 1 rfl rfl
            have f_0 := G.out.st.f 0 0 rfl
            have f_1 := G.out.st.f 0 1 rfl
            have z_0 := G.out.st.lt 0 rfl
            have G2 := Lib.hid ((G.out.put 0 rfl 0 (.string s1) (fun _ => by simp) (fun _ _ => nd_in _)).put 0 rfl 1 (.slice A10 nH c10) (fun _ => by simp) (fun _ _ => nd_in _))
            replace G := Lib.hid G.out
            go_simp
            refine hK.out _ _ G2.out.st.bel ?_
            clear hK K'
            try simp only [Act.put, List.setIfInBounds_toArray, List.set_cons_zero, List.set_cons_succ]
            clear c_0 c_1 f_0 f_1 z_0 G hM1 hM2
            refine Wk.done (by kernel_rfl) ?_
            try go_simp
            obtain ⟨hLR, hcap, _⟩ := G2.out.lenc
            have d_0 := G2.out.st.cl 0 0 rfl rfl
            have d_1 := G2.out.st.cl 0 1 rfl rfl
            have hB2 := G2.out.st.bel
            clear G2
            generalize hY : World.setCell (World.setCell X10 _ _) _ _ = Y at *
            clear hY
            have hOY := Lib.hid (hb.out.bel (hSb.out.trans (hB2.mono hSb.out.size)))
            have hBY := Lib.hid (hSb.out.trans (hB2.mono hSb.out.size))
            have hV : Hid (∀ Z, Below Y.heap.size Y Z → Calls Tryd.prog 23 #[.agg #[.string s1, .slice A10 nH c10]] Z fun e w' => e = .returned (.bool bv) ∧ Below Z.heap.size Z w') := Lib.hid fun Z hYZ => by have := valid_any s1 H A10 nH c10 Z (hLR.bel hYZ) (by have := l1.out; have := l2.out; have := hlen.out; have := hnH.out; omega) (hOY.out.bel hYZ); rwa [hHc.out, hgr.out] at this
            have hbn : Hid (decide ((nH : Int) ≤ 64) = bv) := Lib.hid (by rw [hbv.out, decide_eq_decide]; have := hlen.out; have := hnH.out; omega)
            clear hLR hB2 hcap hgr
            go_upto_region 5 with fail
            have hbase := Lib.hid (St.new Y)
            refine RW.begin (Z := []) (S := (fun V => Below Y.heap.size Y V)) (by kernel_rfl) ?_ hbase.out ?_
            · exact ⟨by kernel_rfl, zis_nil, by decide, by decide, nol_nil, (fun _ _ h => h.bel)⟩
            intro hzk
            refine RW.c (i := 0) (args := #[]) (some 42) hzk.out at0 (hx := fun _ => by kernel_rfl) (h := fun Z S => (awake_any Z (hOY.out.bel S.bel)).mono ?_)
            rintro e w9 ⟨rfl, hB9⟩
            refine ⟨hB9, _, [], rfl, (fun r hr => by cases hr), ?_⟩
            clear hB9
            refine RW.t (i := 1) (v := .bool true) (some 43) at1 (hy := fun _ _ => by kernel_rfl) (h := ?_)
            refine RW.t (i := 2) (v := .agg #[.string s1, .slice A10 nH c10]) (some 44) at2 (hy := fun V hS => by (have k0 := bel_cell hS d_0; have k1 := bel_cell hS d_1; clear hS; go_simp)) (h := ?_)
            refine RW.t (i := 4) (v := .pointer (some ⟨n5, 1, none⟩)) (some 46) at4 (hy := fun _ _ => by go_simp) (h := ?_)
            refine RW.t (i := 5) (v := .slice A10 nH c10) (some 47) at5 (hy := fun V hS => by (have k0 := bel_cell hS d_0; have k1 := bel_cell hS d_1; clear hS; go_simp)) (h := ?_)
            refine RW.t (i := 6) (v := .int .i64 (nH : Nat)) (some 48) at6 (hy := fun _ _ => by go_simp) (h := ?_)
            refine RW.t (i := 7) (v := .bool bv) (some 49) at7 (hy := fun _ _ => by (have hbn2 := hbn.out; go_simp)) (h := ?_)
            refine RW.c (i := 3) (args := #[.agg #[.string s1, .slice A10 nH c10]]) (some 45) hzk.out at3 (hx := fun _ => by kernel_rfl) (h := fun Z S => (hV.out Z S.bel).mono ?_)
            rintro e w9 ⟨rfl, hB9⟩
            refine ⟨hB9, _, [], rfl, (fun r hr => by cases hr), ?_⟩
            clear hB9
            refine RW.t (i := 8) (v := .bool true) (some 50) at8 (hy := fun _ _ => by (cases bv <;> go_simp)) (h := ?_)
            refine RW.t (i := 9) (v := .bool true) (some 51) at9 (hy := fun _ _ => by kernel_rfl) (h := ?_)
            refine RW.tail hzk.out (by kernel_rfl) ?_
            intro gs' wz hgs' hS Sb
            obtain rfl := len0 hgs'
            simp only [mark, fill, Act.put, List.setIfInBounds_toArray, List.set_cons_zero, List.set_cons_succ]
            refine Wk.o (i := 10) at10 (by kernel_rfl) fun K' hK => ?_
            go_simp
            refine hK.out _ _ hS ?_
            clear hK K'
            try simp only [Act.put, List.setIfInBounds_toArray, List.set_cons_zero, List.set_cons_succ]
            refine Wk.done (by kernel_rfl) ?_
            have hEnd := Lib.hid (hBY.out.trans (hS.mono hBY.out.size))
            clear Sb hgs' hzk hbase hS hV d_0 d_1
            try go_simp
            go_wp2
            go_ret
            exact ⟨rfl, hEnd.out⟩
end Go.Proofs.YtpdfliocldhblaaDoor
