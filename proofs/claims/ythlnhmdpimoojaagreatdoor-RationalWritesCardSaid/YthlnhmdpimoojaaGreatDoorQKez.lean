/- The reference's Parse of every text; its Format. The reference's Decimal. The law RationalWrites. -/
import Derived.Test.YthlnhmdpimoojaaGreatDoorKd
import Derived.Test.YthlnhmdpimoojaaGreatDoorQScz
import Derived.Test.YthlnhmdpimoojaaGreatDoorQRnz
namespace Go.Proofs.YthlnhmdpimoojaaGreatDoor
open Go.RowKit RQ
set_option linter.unusedVariables false

theorem ndec_lt (s : ByteArray) : ndec s < 10 ^ s.size := by
  unfold ndec
  split
  · rename_i h
    obtain ⟨_, _, ha⟩ := isDec_yes' h
    have := dval_lt ha
    rwa [toList_len] at this
  · exact Nat.pow_pos (by decide)
theorem Rs.mul_le {x y : Rat} {p k t : Nat} (h1 : Rs x p) (h2 : Rs y k) (h : p + k ≤ t) : Rs (x * y) t := (h1.mul h2).mono h
theorem p10q_size {v : Nat} (h : v ≤ 40) : Rs (p10q v) 8 := by
  have h1 : (10 : Nat) ^ v ≤ 10 ^ 40 := Nat.pow_le_pow_right (by decide) h
  have h2 : (10 : Nat) ^ 40 < 4294967296 ^ 8 := by decide
  exact Rs.int (by rw [Int.natAbs_natCast]; omega) (by decide)
theorem p1_size {s : ByteArray} (hs : s.size ≤ 300) : Rs (p1q s) 60 := by
  unfold p1q
  cases hb : hasB 47 s.data.toList
  · rw [if_neg (by simp)]
    cases he : hasE s.data.toList
    · rw [(psq_plain he).2]
      exact (dcq_size (by have := pM_size s; omega)).mono (by decide)
    · cases hk : psok s
      · rw [psq_bad hk]; exact ⟨by decide, by decide⟩
      · have h2 : xok (pX s) = true ∧ pdok (pM s) = true := by
          unfold psok at hk; rw [he] at hk
          simpa using hk
        rw [(psq_exp he h2.2 h2.1).2]
        have hv : ndec (rest (pX s)) ≤ 40 := by
          have := h2.1; unfold xok at this; rw [Bool.and_eq_true] at this; exact of_decide_eq_true this.2
        have h3 := dcq_size (s := pM s) (by have := pM_size s; omega)
        have h4 := p10q_size hv
        split
        · rw [Rat.div_def]
          exact Rs.mul_le h3 (h4.inv (by decide)) (by decide)
        · exact Rs.mul_le h3 h4 (by decide)
  · rw [if_pos rfl]
    obtain ⟨l1, l2⟩ := bef_size 47 s hb
    unfold fq
    split
    · rename_i h
      have hy : 0 < ndec (bs (aft 47 s.data.toList)) := by
        unfold fok at h
        rw [Bool.and_eq_true, Bool.not_eq_true', beq_eq_false_iff_ne] at h
        omega
      have h1 := ndec_lt (bs (bef 47 s.data.toList))
      have h2 := ndec_lt (bs (aft 47 s.data.toList))
      have h3 := limbs_len_le.1 (pow10_l32 (k := (bs (bef 47 s.data.toList)).size) (by omega))
      have h4 := limbs_len_le.1 (pow10_l32 (k := (bs (aft 47 s.data.toList)).size) (by omega))
      have h5 : (4294967296 : Nat) ^ 32 ≤ 4294967296 ^ 60 := pow_mono (by decide)
      exact Rs.divInt (by omega) (by rw [Int.natAbs_natCast]; omega) (by rw [Int.natAbs_natCast]; omega)
    · exact ⟨by decide, by decide⟩
theorem hm_cons {T : ByteArray} (h : hm T = true) : ∃ r, T.data.toList = 45 :: r := by
  unfold hm Lib.hasPrefix at h
  cases hl : T.data.toList with
  | nil => rw [hl] at h; cases h
  | cons c r =>
    rw [hl] at h
    simp [List.isPrefixOf] at h
    exact ⟨r, by rw [← h]⟩
theorem dec_45 (r : List UInt8) : isDec (bs (45 :: r)) = false := hm_dec (by unfold hm Lib.hasPrefix; rw [bs_list]; simp [List.isPrefixOf])
theorem pd_45 {s : ByteArray} {r : List UInt8} (h : s.data.toList = 45 :: r) : pdok s = false := by
  unfold pdok pdB
  rw [h]
  have e : bef 46 (45 :: r) = 45 :: bef 46 r := by unfold bef; rw [List.takeWhile_cons_of_pos (by decide)]
  rw [e, dec_45]; rfl
theorem p1_45 {T : ByteArray} (h : hm T = true) : p1ok T = false ∧ p1q T = 0 := by
  obtain ⟨r, hr⟩ := hm_cons h
  have e47 : bef 47 (45 :: r) = 45 :: bef 47 r := by unfold bef; rw [List.takeWhile_cons_of_pos (by decide)]
  have hf : hasB 47 T.data.toList = true → fok (bs (bef 47 T.data.toList)) (bs (aft 47 T.data.toList)) = false := fun _ => by
    unfold fok; rw [hr, e47, dec_45]; rfl
  have hp : pdok (pM T) = false := by
    unfold pM
    split
    · refine pd_45 (r := befE r) ?_
      rw [bs_list, hr]; unfold befE; rw [List.takeWhile_cons_of_pos (by decide)]
    · exact pd_45 hr
  have hk : psok T = false := by unfold psok; rw [hp, Bool.and_false]
  unfold p1ok p1q
  cases hb : hasB 47 T.data.toList
  · rw [if_neg (by simp), if_neg (by simp)]; exact ⟨hk, psq_bad hk⟩
  · rw [if_pos rfl, if_pos rfl]; exact ⟨hf hb, by unfold fq; rw [hf hb]; rfl⟩
theorem rest_list {s : ByteArray} (h : hm s = true) : s.data.toList = 45 :: (rest s).data.toList := by
  obtain ⟨r, hr⟩ := hm_cons h
  unfold rest Lib.trimPrefix
  have : Lib.hasPrefix s.data.toList [45] = true := h
  rw [this, if_pos rfl, hr]; rfl
theorem ba_get {s : ByteArray} {i : Nat} {c : UInt8} (hi : i < s.size) (h : s.data.toList[i]? = some c) : s[i] = c := by
  obtain ⟨hl, e⟩ := List.getElem?_eq_some_iff.1 h
  exact e
theorem rparse_one (s : ByteArray) (w : World) (hs : s.size ≤ 300) (hh : hm s = false) : Calls Tryz.prog 7 #[.string s] w (RetRE (p1q s) (.bool (p1ok s)) w) := by
  cases hb : hasB 47 s.data.toList
  · exact rparse_plain s w hs hh hb
  · exact rparse_slash s w hs hh hb

set_option maxRecDepth 100000 in
set_option maxHeartbeats 8000000 in
theorem rparseR_any (s : ByteArray) (w : World) (hs : s.size ≤ 300) : Calls Tryz.prog 7 #[.string s] w (RetRE (pQ s) (.bool (pOk s)) w) := by
  cases hh : hm s
  · have e1 : pQ s = p1q s := by unfold pQ; rw [hh, hm_no hh]; rfl
    have e2 : pOk s = p1ok s := by unfold pOk; rw [hm_no hh]
    rw [e1, e2]; exact rparse_one s w hs hh
  have e1 : pQ s = -(p1q (rest s)) := by unfold pQ; rw [hh]; rfl
  have e2 : pOk s = p1ok (rest s) := rfl
  rw [e1, e2]
  obtain ⟨h0, h45⟩ := hm_size hh
  have hrl := rest_list hh
  have hre := hm_rest hh
  have hrs : (rest s).size + 1 = s.size := by
    have := congrArg List.length hrl
    rw [toList_len, List.length_cons, toList_len] at this; omega
  have hz0 : (0 : Int) < (s.size : Int) := by omega
  have heq : (((s[0]).toNat : Int) == 45) = true := by rw [beq_iff_eq]; omega
  generalize rest s = T at *
  have hps := p1_size (s := T) (by omega)
  have hNg : Hid (∀ W A n c D m d, RR W A n c D m d (p1q T) → Calls Tryz.prog 19 #[.agg #[.bool (ng (p1q T).num), .slice A n c, .slice D m d]] W (RetR (-(p1q T)) W)) := Lib.hid fun W A n c D m d h => by
    have l := h.lens hps
    have := Fneg_any (ng (p1q T).num) A n c _ D m d _ W h.n h.d (by omega) (by omega)
    rwa [rv_z] at this
  have S : St w _ [(w.heap.size, #[.bool false, .slice none 0 0, .slice none 0 0], 26)] [] := ((St.new w).allocAt (w.heap.size) #[.bool false, .slice none 0 0, .slice none 0 0] 26 (noL3 _ _ _ _ _ _ _) (by simp))
  replace S := Lib.hid S
  cases ht : hm T
  · have hP := Lib.hid (fun W => rparse_one T W (by omega) ht)
    unfold RetRE at hP
    generalize p1q T = q at *
    generalize p1ok T = d at *
    rcases Nat.eq_zero_or_pos T.size with t0 | t0
    · have hx : True := trivial
      have hs1 : ¬ (1 : Int) < (s.size : Int) := by omega
      have hs1' : decide ((1 : Int) < (s.size : Int)) = false := decide_eq_false hs1
      have hs2 : (1 : Int) ≤ (s.size : Int) := by omega
      have hex : s.extract 1 s.size = T := hre.symm
      clear hre hrl hh ht
      go_enter Tryz.func7, Tryz.ntmps7
      go_wp2_with fail
      refine (hP.out _).mono ?_
      rintro e w1 ⟨A1, n1, c1, D1, m1, d1, rfl, Q, bb⟩
      have T := (((S.out.call bb).read Q.n).read Q.d)
      clear bb S
      have S := T
      clear T
      have c_r0 := S.cl 0 0 rfl rfl
      have f_r0 := S.f 0 0 rfl
      have c_r1 := S.cl 0 1 rfl rfl
      have f_r1 := S.f 0 1 rfl
      have c_r2 := S.cl 0 2 rfl rfl
      have f_r2 := S.f 0 2 rfl
      have hz : w.heap.size < w1.heap.size := S.lt 0 rfl
      replace S := Lib.hid S
      clear Q hP
      have S : St w _ [(w1.heap.size, #[.bool (ng q.num), .slice A1 n1 c1, .slice D1 m1 d1], 26), (w.heap.size, #[.bool false, .slice none 0 0, .slice none 0 0], 26)] [(D1, m1, d1, dn q), (A1, n1, c1, limbs q.num.natAbs)] := (S.out.allocAt (w1.heap.size) #[.bool (ng q.num), .slice A1 n1 c1, .slice D1 m1 d1] 26 (noL3 _ _ _ _ _ _ _) (by simp))
      have a_r0 := S.cl 1 0 rfl rfl
      have b_r0 := S.f 1 0 rfl
      have a_r1 := S.cl 1 1 rfl rfl
      have b_r1 := S.f 1 1 rfl
      have a_r2 := S.cl 1 2 rfl rfl
      have b_r2 := S.f 1 2 rfl
      replace S := Lib.hid S
      go_wp2_with fail
      refine (hNg.out _ _ _ _ _ _ _ ⟨(S.out.r 1 rfl), (S.out.r 0 rfl)⟩).mono ?_
      rintro e w2 ⟨A9, n9, c9, D9, m9, d9, rfl, Q, bb⟩
      have T := (((S.out.call bb).read Q.n).read Q.d)
      clear bb S c_r0 f_r0 c_r1 f_r1 c_r2 f_r2 hz a_r0 b_r0 a_r1 b_r1 a_r2 b_r2
      have S := T
      clear T
      have c_x0 := S.cl 0 0 rfl rfl
      have f_x0 := S.f 0 0 rfl
      have c_x1 := S.cl 0 1 rfl rfl
      have f_x1 := S.f 0 1 rfl
      have c_x2 := S.cl 0 2 rfl rfl
      have f_x2 := S.f 0 2 rfl
      have c_r0 := S.cl 1 0 rfl rfl
      have f_r0 := S.f 1 0 rfl
      have c_r1 := S.cl 1 1 rfl rfl
      have f_r1 := S.f 1 1 rfl
      have c_r2 := S.cl 1 2 rfl rfl
      have f_r2 := S.f 1 2 rfl
      have hz : w1.heap.size < w2.heap.size := S.lt 0 rfl
      replace S := Lib.hid S
      clear Q
      have S : St w _ [(w1.heap.size, #[.bool (ng q.num), .slice A1 n1 c1, .slice D1 m1 d1], 26), (w.heap.size, #[.bool (ng (-q).num), .slice A9 n9 c9, .slice D9 m9 d9], 26)] [(D9, m9, d9, dn (-q)), (A9, n9, c9, limbs (-q).num.natAbs), (D1, m1, d1, dn q), (A1, n1, c1, limbs q.num.natAbs)] := (((S.out.set 1 0 (.bool (ng (-q).num)) rfl (by nofun)).set 1 1 (.slice A9 n9 c9) rfl (by nofun)).set 1 2 (.slice D9 m9 d9) rfl (by nofun))
      replace S := Lib.hid S
      go_wp2
      refine bodyPost_ret (res_rParse _ _ (w.heap.size) 26 rfl rfl (S.out.bk _ (List.mem_of_getElem? (i := 1) rfl)).1) rfl ?_
      exact ⟨_, _, _, _, _, _, rfl, ⟨S.out.r 1 rfl, S.out.r 0 rfl⟩, S.out.bel⟩
    · have hx : True := trivial
      have hs1 : (1 : Int) < (s.size : Int) := by omega
      have hs2 : (1 : Int) ≤ (s.size : Int) := by omega
      have h1 : 1 < s.size := by omega
      have e10 : s[1] = T[0] := ba_get h1 (by rw [hrl]; show T.data.toList[0]? = _; rw [List.getElem?_eq_getElem (by rw [toList_len]; exact t0)]; rfl)
      have heq1 : (((s[1]).toNat : Int) == 45) = false := by rw [e10, beq_eq_false_iff_ne]; have := hm_not ht t0; omega
      have hex : s.extract 1 s.size = T := hre.symm
      clear hre hrl hh ht e10
      go_enter Tryz.func7, Tryz.ntmps7
      go_wp2_with fail
      refine (hP.out _).mono ?_
      rintro e w1 ⟨A1, n1, c1, D1, m1, d1, rfl, Q, bb⟩
      have T := (((S.out.call bb).read Q.n).read Q.d)
      clear bb S
      have S := T
      clear T
      have c_r0 := S.cl 0 0 rfl rfl
      have f_r0 := S.f 0 0 rfl
      have c_r1 := S.cl 0 1 rfl rfl
      have f_r1 := S.f 0 1 rfl
      have c_r2 := S.cl 0 2 rfl rfl
      have f_r2 := S.f 0 2 rfl
      have hz : w.heap.size < w1.heap.size := S.lt 0 rfl
      replace S := Lib.hid S
      clear Q hP
      have S : St w _ [(w1.heap.size, #[.bool (ng q.num), .slice A1 n1 c1, .slice D1 m1 d1], 26), (w.heap.size, #[.bool false, .slice none 0 0, .slice none 0 0], 26)] [(D1, m1, d1, dn q), (A1, n1, c1, limbs q.num.natAbs)] := (S.out.allocAt (w1.heap.size) #[.bool (ng q.num), .slice A1 n1 c1, .slice D1 m1 d1] 26 (noL3 _ _ _ _ _ _ _) (by simp))
      have a_r0 := S.cl 1 0 rfl rfl
      have b_r0 := S.f 1 0 rfl
      have a_r1 := S.cl 1 1 rfl rfl
      have b_r1 := S.f 1 1 rfl
      have a_r2 := S.cl 1 2 rfl rfl
      have b_r2 := S.f 1 2 rfl
      replace S := Lib.hid S
      go_wp2_with fail
      refine (hNg.out _ _ _ _ _ _ _ ⟨(S.out.r 1 rfl), (S.out.r 0 rfl)⟩).mono ?_
      rintro e w2 ⟨A9, n9, c9, D9, m9, d9, rfl, Q, bb⟩
      have T := (((S.out.call bb).read Q.n).read Q.d)
      clear bb S c_r0 f_r0 c_r1 f_r1 c_r2 f_r2 hz a_r0 b_r0 a_r1 b_r1 a_r2 b_r2
      have S := T
      clear T
      have c_x0 := S.cl 0 0 rfl rfl
      have f_x0 := S.f 0 0 rfl
      have c_x1 := S.cl 0 1 rfl rfl
      have f_x1 := S.f 0 1 rfl
      have c_x2 := S.cl 0 2 rfl rfl
      have f_x2 := S.f 0 2 rfl
      have c_r0 := S.cl 1 0 rfl rfl
      have f_r0 := S.f 1 0 rfl
      have c_r1 := S.cl 1 1 rfl rfl
      have f_r1 := S.f 1 1 rfl
      have c_r2 := S.cl 1 2 rfl rfl
      have f_r2 := S.f 1 2 rfl
      have hz : w1.heap.size < w2.heap.size := S.lt 0 rfl
      replace S := Lib.hid S
      clear Q
      have S : St w _ [(w1.heap.size, #[.bool (ng q.num), .slice A1 n1 c1, .slice D1 m1 d1], 26), (w.heap.size, #[.bool (ng (-q).num), .slice A9 n9 c9, .slice D9 m9 d9], 26)] [(D9, m9, d9, dn (-q)), (A9, n9, c9, limbs (-q).num.natAbs), (D1, m1, d1, dn q), (A1, n1, c1, limbs q.num.natAbs)] := (((S.out.set 1 0 (.bool (ng (-q).num)) rfl (by nofun)).set 1 1 (.slice A9 n9 c9) rfl (by nofun)).set 1 2 (.slice D9 m9 d9) rfl (by nofun))
      replace S := Lib.hid S
      go_wp2
      refine bodyPost_ret (res_rParse _ _ (w.heap.size) 26 rfl rfl (S.out.bk _ (List.mem_of_getElem? (i := 1) rfl)).1) rfl ?_
      exact ⟨_, _, _, _, _, _, rfl, ⟨S.out.r 1 rfl, S.out.r 0 rfl⟩, S.out.bel⟩
  · obtain ⟨p1, p2⟩ := p1_45 ht
    rw [p1, p2]
    obtain ⟨t0, t45⟩ := hm_size ht
    have hs1 : (1 : Int) < (s.size : Int) := by omega
    have h1 : 1 < s.size := by omega
    have e10 : s[1] = T[0] := ba_get h1 (by rw [hrl]; show T.data.toList[0]? = _; rw [List.getElem?_eq_getElem (by rw [toList_len]; exact t0)]; rfl)
    have heq1 : (((s[1]).toNat : Int) == 45) = true := by rw [e10, beq_iff_eq]; omega
    clear hre hrl hh ht e10 p1 p2 t45 hNg hps
    go_enter Tryz.func7, Tryz.ntmps7
    have S : St w _ [(w.heap.size, #[.bool false, .slice none 0 0, .slice none 0 0], 26)] [] := S.out
    replace S := Lib.hid S
    go_wp2
    refine bodyPost_ret (res_rParse _ _ (w.heap.size) 26 rfl rfl (S.out.bk _ (List.mem_of_getElem? (i := 0) rfl)).1) rfl ?_
    exact ⟨none, 0, 0, none, 0, 0, rfl, zero_RR _ _ _ _ _, S.out.bel⟩

theorem rformatZ_any (z : Int) (A : Option Addr) (n c : Nat) (w : World) (h : Rd w A n c (limbs z.natAbs)) (hn : n ≤ 100) :
    Calls Tryz.prog 30 #[.agg #[.bool (ng z), .slice A n c]] w fun e w' => e = .returned (.string (itxt z)) ∧ Below w.heap.size w w' := by
  have := rformatI_any (ng z) A n c _ w h hn
  rwa [iv_z] at this
set_option maxHeartbeats 8000000 in
theorem rformatR_any (b : Bool) (A : Option Addr) (n c : Nat) (xs : List Nat) (D : Option Addr) (m d : Nat) (ds : List Nat) (w : World) (R1 : Rd w A n c xs) (R2 : Rd w D m d ds) (hn : n ≤ 100) (hm : m ≤ 100) :
    Calls Tryz.prog 9 #[.agg #[.bool b, .slice A n c, .slice D m d]] w fun e w' => e = .returned (.string (qtxt (rv b xs ds))) ∧ Below w.heap.size w w' := by
  have hs := Rs.of (b := b) R1.sm R2.sm (Nat.le_trans (Nat.le_of_eq R1.len) hn) (Nat.le_trans (Nat.le_of_eq R2.len) hm) (by decide)
  have hK := fun W h h' => rtakeR_any b A n c xs D m d ds W h h' (by omega) (by omega)
  have S : St w _ [(w.heap.size, #[.bool b, .slice A n c, .slice D m d], 26)] [(D, m, d, ds), (A, n, c, xs)] := ((((St.new w).read R1).read R2).allocAt (w.heap.size) #[.bool b, .slice A n c, .slice D m d] 26 (noL3 _ _ _ _ _ _ _) (by simp))
  replace S := Lib.hid S
  generalize rv b xs ds = q at hK hs ⊢
  have hsn : (limbs q.num.natAbs).length ≤ 100 := limbs_len_le.2 hs.n
  have hsd : (limbs q.den).length ≤ 100 := limbs_len_le.2 hs.d
  have z1 := itxt_size hsn (Nat.le_refl _)
  have z2 : (itxt (q.den : Int)).size ≤ 2000 := itxt_size (by rw [Int.natAbs_natCast]; exact hsd) (Nat.le_refl _)
  have z3 : ¬ 9223372036854775807 < (itxt q.num).size + 1 := by omega
  have z4 : ¬ 9223372036854775807 < (itxt q.num).size + 1 + (itxt (q.den : Int)).size := by omega
  replace z1 := Lib.hid z1
  replace z2 := Lib.hid z2
  have hF : Hid (∀ W A n c, Rd W A n c (limbs q.num.natAbs) → Calls Tryz.prog 30 #[.agg #[.bool (ng q.num), .slice A n c]] W fun e w' => e = .returned (.string (itxt q.num)) ∧ Below W.heap.size W w') := Lib.hid fun W A n c h => rformatZ_any q.num A n c W h (by rw [← h.len]; exact hsn)
  have hG : Hid (∀ W A n c, Rd W A n c (limbs q.den) → Calls Tryz.prog 31 #[.slice A n c] W fun e w' => e = .returned (.string (itxt (q.den : Int))) ∧ Below W.heap.size W w') := Lib.hid fun W A n c h => by
    have := rformat_n A n c q.den W h (by rw [← h.len]; omega)
    rwa [show txt q.den = itxt (q.den : Int) from by unfold itxt; rw [ngN]; rfl] at this
  replace hK := Lib.hid hK
  clear R1 R2 hn hm hsn hsd hs
  go_enter Tryz.func9, Tryz.ntmps9
  go_wp2_with fail
  refine (hK.out _ (S.out.r 1 rfl) (S.out.r 0 rfl)).mono ?_
  rintro e w1 ⟨A1, n1, c1, D1, m1, d1, rfl, Q, bb⟩
  have T := (((S.out.call bb).read Q.n).read Q.d)
  clear bb S
  have S := T
  clear T
  have c_x0 := S.cl 0 0 rfl rfl
  have f_x0 := S.f 0 0 rfl
  have c_x1 := S.cl 0 1 rfl rfl
  have f_x1 := S.f 0 1 rfl
  have c_x2 := S.cl 0 2 rfl rfl
  have f_x2 := S.f 0 2 rfl
  have hz : w.heap.size < w1.heap.size := S.lt 0 rfl
  replace S := Lib.hid S
  obtain ⟨e0, e1⟩ := dn_len0 Q.d.len
  clear Q hK
  by_cases hm : m1 = 0
  · have hq : Hid (qtxt q = itxt q.num) := Lib.hid (by unfold qtxt; rw [if_pos (by have := e0 hm; omega)])
    have h2 : ((m1 : Int) == 0) = true := by rw [beq_iff_eq]; omega
    clear e0 e1 hm hG
    have S : St w _ [(w.heap.size, #[.bool (ng q.num), .slice A1 n1 c1, .slice D1 m1 d1], 26)] [(D1, m1, d1, dn q), (A1, n1, c1, limbs q.num.natAbs), (D, m, d, ds), (A, n, c, xs)] := (((S.out.set 0 0 (.bool (ng q.num)) rfl (by nofun)).set 0 1 (.slice A1 n1 c1) rfl (by nofun)).set 0 2 (.slice D1 m1 d1) rfl (by nofun))
    have a_x0 := S.cl 0 0 rfl rfl
    have b_x0 := S.f 0 0 rfl
    have a_x1 := S.cl 0 1 rfl rfl
    have b_x1 := S.f 0 1 rfl
    have a_x2 := S.cl 0 2 rfl rfl
    have b_x2 := S.f 0 2 rfl
    replace S := Lib.hid S
    go_wp2_with fail
    refine (hF.out _ _ _ _ (S.out.r 1 rfl)).mono ?_
    rintro e w2 ⟨rfl, bb⟩
    have T := (S.out.call bb)
    clear bb S c_x0 f_x0 c_x1 f_x1 c_x2 f_x2 hz a_x0 b_x0 a_x1 b_x1 a_x2 b_x2
    have S := T
    clear T
    have c_x0 := S.cl 0 0 rfl rfl
    have f_x0 := S.f 0 0 rfl
    have c_x1 := S.cl 0 1 rfl rfl
    have f_x1 := S.f 0 1 rfl
    have c_x2 := S.cl 0 2 rfl rfl
    have f_x2 := S.f 0 2 rfl
    have hz : w.heap.size < w2.heap.size := S.lt 0 rfl
    replace S := Lib.hid S
    have S : St w _ [(w.heap.size, #[.bool (ng q.num), .slice A1 n1 c1, .slice D1 m1 d1], 26)] [(D1, m1, d1, dn q), (A1, n1, c1, limbs q.num.natAbs), (D, m, d, ds), (A, n, c, xs)] := S.out
    replace S := Lib.hid S
    go_wp2
    go_ret
    exact ⟨congrArg (fun s => Ending.returned (.string s)) hq.out.symm, S.out.bel⟩
  · have hq : Hid (qtxt q = itxt q.num ++ ⟨#[47]⟩ ++ itxt (q.den : Int)) := Lib.hid (by unfold qtxt; rw [if_neg (fun h => by have h2 := dn_nil.2 h; rw [e1 hm, h, limbs_is1] at h2; cases h2)])
    have h2 : ((m1 : Int) == 0) = false := by rw [beq_eq_false_iff_ne]; omega
    replace e1 := e1 hm
    rw [e1] at S
    clear e0 e1 hm
    have S : St w _ [(w.heap.size, #[.bool (ng q.num), .slice A1 n1 c1, .slice D1 m1 d1], 26)] [(D1, m1, d1, limbs q.den), (A1, n1, c1, limbs q.num.natAbs), (D, m, d, ds), (A, n, c, xs)] := (((S.out.set 0 0 (.bool (ng q.num)) rfl (by nofun)).set 0 1 (.slice A1 n1 c1) rfl (by nofun)).set 0 2 (.slice D1 m1 d1) rfl (by nofun))
    have a_x0 := S.cl 0 0 rfl rfl
    have b_x0 := S.f 0 0 rfl
    have a_x1 := S.cl 0 1 rfl rfl
    have b_x1 := S.f 0 1 rfl
    have a_x2 := S.cl 0 2 rfl rfl
    have b_x2 := S.f 0 2 rfl
    replace S := Lib.hid S
    go_wp2_with fail
    clear c_x0 f_x0 c_x1 f_x1 c_x2 f_x2 hz a_x0 b_x0 a_x1 b_x1 a_x2 b_x2
    have S : St w _ [(w.heap.size, #[.bool (ng q.num), .slice A1 n1 c1, .slice D1 m1 d1], 26)] [(D1, m1, d1, limbs q.den), (A1, n1, c1, limbs q.num.natAbs), (D, m, d, ds), (A, n, c, xs)] := S.out
    generalize hW2 : (World.setCell (World.setCell (World.setCell w1 ⟨w.heap.size, 0, none⟩ (.bool (ng q.num))) ⟨w.heap.size, 1, none⟩ (.slice A1 n1 c1)) ⟨w.heap.size, 2, none⟩ (.slice D1 m1 d1)) = w2 at S ⊢
    clear hW2
    replace S := Lib.hid S
    have d_x0 := St.cl (S.out) 0 0 rfl rfl
    have d_x1 := St.cl (S.out) 0 1 rfl rfl
    have d_x2 := St.cl (S.out) 0 2 rfl rfl
    have SD := Lib.hid (S.out.drew)
    go_region_held3 (fun w' => World.cell? w' ⟨w.heap.size, 0, none⟩ = some (.bool (ng q.num)) ∧ World.cell? w' ⟨w.heap.size, 1, none⟩ = some (.slice A1 n1 c1) ∧ World.cell? w' ⟨w.heap.size, 2, none⟩ = some (.slice D1 m1 d1))
      (first | exact ⟨d_x0, d_x1, d_x2⟩ | exact ⟨e0_x0, e0_x1, e0_x2⟩ | exact ⟨e1_x0, e1_x1, e1_x2⟩)
      (first
        | (go_at_call_of 30 (Value.agg #[.bool (ng q.num), .slice A1 n1 c1]); refine (hF.out _ _ _ _ (SD.out.r 1 rfl)).mono ?_; rintro e w3 ⟨rfl, bb0⟩; have S0 : St w w3 [(w.heap.size, #[.bool (ng q.num), .slice A1 n1 c1, .slice D1 m1 d1], 26)] [(D1, m1, d1, limbs q.den), (A1, n1, c1, limbs q.num.natAbs), (D, m, d, ds), (A, n, c, xs)] := (SD.out.call bb0); have e0_x0 := St.cl (S0) 0 0 rfl rfl; have e0_x1 := St.cl (S0) 0 1 rfl rfl; have e0_x2 := St.cl (S0) 0 2 rfl rfl)
        | (go_at_call 31; refine (hG.out _ _ _ _ (S0.r 0 rfl)).mono ?_; rintro e w4 ⟨rfl, bb1⟩; have S1 : St w w4 [(w.heap.size, #[.bool (ng q.num), .slice A1 n1 c1, .slice D1 m1 d1], 26)] [(D1, m1, d1, limbs q.den), (A1, n1, c1, limbs q.num.natAbs), (D, m, d, ds), (A, n, c, xs)] := (S0.call bb1); have e1_x0 := St.cl (S1) 0 0 rfl rfl; have e1_x1 := St.cl (S1) 0 1 rfl rfl; have e1_x2 := St.cl (S1) 0 2 rfl rfl))
    all_goals
      have S := S1
      clear d_x0 d_x1 d_x2 e0_x0 e0_x1 e0_x2 e1_x0 e1_x1 e1_x2 SD bb0 bb1 S0 S1
      replace S := Lib.hid S
      have S : St w _ [(w.heap.size, #[.bool (ng q.num), .slice A1 n1 c1, .slice D1 m1 d1], 26)] [(D1, m1, d1, limbs q.den), (A1, n1, c1, limbs q.num.natAbs), (D, m, d, ds), (A, n, c, xs)] := S.out
      replace S := Lib.hid S
      go_wp2
      go_ret
      exact ⟨congrArg (fun s => Ending.returned (.string s)) hq.out.symm, S.out.bel⟩
end Go.Proofs.YthlnhmdpimoojaaGreatDoor

namespace Go.Proofs.YthlnhmdpimoojaaGreatDoor
open Go.RowKit RQ
set_option linter.unusedVariables false

theorem near_parts (v : Rat) (N D r F : Nat) (hD : 0 < D) (h : v * (D:Rat) = (N:Rat)) (hN : N = D * F + r) (hr : r < D) : v.floor = (F:Int) ∧ ((1:Rat) < (v - ((F:Int):Rat)) * 2 ↔ D < 2 * r) ∧ ((v - ((F:Int):Rat)) * 2 = 1 ↔ 2 * r = D) ∧ (v - ((F:Int):Rat)) * (D:Rat) = (r:Rat) := by
  have hD' : (0:Rat) < (D:Rat) := by exact_mod_cast hD
  have e : (N:Rat) = D * F + r := by rw [hN]; push_cast; rfl
  have hr' : (r:Rat) < D := by exact_mod_cast hr
  have hr0 : (0:Rat) ≤ r := by exact_mod_cast Nat.zero_le r
  have hF : (((F:Int):Rat)) = (F:Rat) := rfl
  rw [hF]
  have k : (v - F) * (D:Rat) = r := by grind
  have k2 : (v - F) * 2 * (D:Rat) = 2 * r := by grind
  refine ⟨?_, ?_, ?_, k⟩
  · have h1 : (F:Int) ≤ v.floor := by
      rw [Rat.le_floor_iff, hF]
      refine Rat.le_of_mul_le_mul_right (c := (D:Rat)) ?_ hD'
      grind
    have h2 : v.floor < (F:Int) + 1 := by
      rw [Rat.floor_lt_iff]
      have : (((F:Int) + 1 : Int) : Rat) = (F:Rat) + 1 := by push_cast; rfl
      rw [this]
      refine Rat.lt_of_mul_lt_mul_right (c := (D:Rat)) ?_ (Rat.le_of_lt hD')
      grind
    omega
  · constructor
    · intro h1
      have : (D:Rat) < 2 * r := by
        have := Rat.mul_lt_mul_of_pos_right h1 hD'
        grind
      exact_mod_cast this
    · intro h1
      have h2 : (D:Rat) < 2 * r := by exact_mod_cast h1
      refine Rat.lt_of_mul_lt_mul_right (c := (D:Rat)) ?_ (Rat.le_of_lt hD')
      grind
  · constructor
    · intro h1
      have : (2:Rat) * r = D := by grind
      exact_mod_cast this
    · intro h1
      have h2 : (2:Rat) * r = D := by exact_mod_cast h1
      have h3 : ((v - F) * 2 - 1) * (D:Rat) = 0 := by grind
      rcases Rat.mul_eq_zero.1 h3 with h4 | h4
      · grind
      · grind
/-- The number, without its sign, in units of the last digit. -/
def ppq (q : Rat) (k : Nat) : Rat := q.abs * p10q k
theorem ppq_den (q : Rat) (k : Nat) : ppq q k * (q.den : Rat) = ((q.num.natAbs * 10 ^ k : Nat) : Rat) := by
  have h1 := den_mul q.abs
  obtain ⟨a, b⟩ := abs_num q
  rw [a, b] at h1
  have h2 : (((q.num.natAbs : Nat) : Int) : Rat) = ((q.num.natAbs : Nat) : Rat) := rfl
  have h3 : (((q.den : Nat) : Int) : Rat) = ((q.den : Nat) : Rat) := rfl
  have h4 : p10q k = ((10 ^ k : Nat) : Rat) := rfl
  unfold ppq
  rw [h4, ← h3]
  rw [show ((q.num.natAbs * 10 ^ k : Nat) : Rat) = ((q.num.natAbs : Nat) : Rat) * ((10 ^ k : Nat) : Rat) by push_cast; rfl, ← h2, ← h1]
  grind
theorem ppq_size {q : Rat} {k : Nat} (h : Rs q 40) (hk : k ≤ 100) : Rs (ppq q k) 52 := by
  have h1 := limbs_len_le.1 (limbs_len_le.2 (pow10_small hk) : (limbs (10 ^ k)).length ≤ 12)
  exact Rs.mul_le h.abs (Rs.int (p := 12) (by rw [Int.natAbs_natCast]; exact h1) (by decide)) (by decide)
theorem odd_at {w : World} {A : Option Addr} {n c F : Nat} (R : Rd w A n c (limbs F)) (h : 0 < n) : ∃ b o x, A = some ⟨b, o, none⟩ ∧ x < 4294967296 ∧ w.cell? ⟨b, o, none⟩ = some (.int .u32 ((x : Nat) : Int)) ∧ F % 2 = x % 2 := by
  obtain ⟨p, q, x, e, _, hx, hget, hc⟩ := R.at_ (k := 0) h
  rw [Nat.add_zero] at hc
  exact ⟨p, q, x, e, hx, hc, limb_mod2 hget (by rw [R.len]; exact h)⟩
theorem odd_nil {w : World} {A : Option Addr} {n c F : Nat} (R : Rd w A n c (limbs F)) (h : n = 0) : F = 0 := by
  have := List.eq_nil_of_length_eq_zero (R.len.trans h)
  have h2 := congrArg val this
  rwa [val_limbs] at h2
theorem sign_ng (z : Int) : decide (z.sign < 0) = ng z := by
  unfold ng
  rw [decide_eq_decide, Int.sign_neg_iff]
set_option maxRecDepth 100000 in
set_option maxHeartbeats 1000000 in
theorem rdecimal_no (b : Bool) (A : Option Addr) (n c : Nat) (D : Option Addr) (m d : Nat) (k : Int) (w : World) (h : k < 0 ∨ 100 < k) :
    Calls Tryz.prog 12 #[.agg #[.bool b, .slice A n c, .slice D m d], .int .i64 k] w fun e w' => e = .returned (.string ⟨#[]⟩) ∧ Below w.heap.size w w' := by
  have B := Lib.hid ((Below.refl w.heap.size w).alloc (Nat.le_refl _) (.cells #[.bool b, .slice A n c, .slice D m d] 26))
  rcases h with h | h
  · go_enter Tryz.func12, Tryz.ntmps12
    go_wp2
    go_ret
    exact ⟨rfl, B.out⟩
  · have h2 : (0 : Int) ≤ k := by omega
    go_enter Tryz.func12, Tryz.ntmps12
    go_wp2
    go_ret
    exact ⟨rfl, B.out⟩
set_option maxRecDepth 100000 in
set_option maxHeartbeats 16000000 in
theorem rdecimalD_any (b : Bool) (A : Option Addr) (n c : Nat) (xs : List Nat) (D : Option Addr) (m d : Nat) (ds : List Nat) (k : Nat) (w : World) (R1 : Rd w A n c xs) (R2 : Rd w D m d ds) (hn : n ≤ 40) (hm : m ≤ 40) (hk : k ≤ 100) :
    Calls Tryz.prog 12 #[.agg #[.bool b, .slice A n c, .slice D m d], .int .i64 (k : Int)] w fun e w' => e = .returned (.string (dtxt (rv b xs ds) k)) ∧ Below w.heap.size w w' := by
  have hs := Rs.of (b := b) R1.sm R2.sm (Nat.le_trans (Nat.le_of_eq R1.len) hn) (Nat.le_trans (Nat.le_of_eq R2.len) hm) (by decide)
  have hA := fun W h h' => Fabs_any b A n c xs D m d ds W h h' (by omega) (by omega)
  have hG := fun W h h' => rsignR_any b A n c xs D m d ds W h h' (by omega) (by omega)
  have S : St w _ [(w.heap.size, #[.bool b, .slice A n c, .slice D m d], 26)] [(D, m, d, ds), (A, n, c, xs)] := ((((St.new w).read R1).read R2).allocAt (w.heap.size) #[.bool b, .slice A n c, .slice D m d] 26 (noL3 _ _ _ _ _ _ _) (by simp))
  replace S := Lib.hid S
  generalize rv b xs ds = q at hA hG hs ⊢
  have lR := drnd_len hs hk
  have lt1 := txt_len lR
  have lt0 := txt_pos (drnd q k)
  have lT : (limbs (10 ^ k)).length ≤ 12 := limbs_len_le.2 (pow10_small hk)
  have hps := ppq_size hs hk
  have hpd := ppq_den q k
  obtain ⟨N, hN⟩ : ∃ N, N = q.num.natAbs * 10 ^ k := ⟨_, rfl⟩
  have hnr : drnd q k = near N q.den := by rw [hN]; rfl
  rw [← hN] at hpd
  obtain ⟨F, hF⟩ : ∃ F, F = N / q.den := ⟨_, rfl⟩
  obtain ⟨r, hr⟩ : ∃ r, r = N % q.den := ⟨_, rfl⟩
  obtain ⟨p1, p2, p3, p4⟩ := near_parts (ppq q k) N q.den r F q.den_pos hpd (by rw [hF, hr]; exact (Nat.div_add_mod N q.den).symm) (by rw [hr]; exact Nat.mod_lt _ q.den_pos)
  unfold near at hnr
  rw [← hF, ← hr] at hnr
  have hFl : (limbs F).length ≤ 52 := by
    refine limbs_len_le.2 (Nat.lt_of_le_of_lt (m := N) (by rw [hF]; exact Nat.div_le_self _ _) ?_)
    rw [hN]
    have h1 := mul_lt hs.n (pow10_small hk); rwa [← Nat.pow_add] at h1
  obtain ⟨C, hC⟩ : ∃ C, C = cmpq ((ppq q k - ((F : Int) : Rat)) * ((2 : Int) : Rat)) ((1 : Int) : Rat) := ⟨_, rfl⟩
  have hC1 : 0 < C ↔ q.den < 2 * r := by rw [hC, cmpq_pos]; exact p2
  have hC0 : C = 0 ↔ 2 * r = q.den := by rw [hC, cmpq_zero]; exact p3
  have hMv : Hid (∀ W A9 n9 c9 D9 m9 d9 A5 n5 c5, RR W A9 n9 c9 D9 m9 d9 q.abs → Rd W A5 n5 c5 (limbs (10 ^ k)) → Calls Tryz.prog 40 #[.agg #[.bool (ng q.abs.num), .slice A9 n9 c9, .slice D9 m9 d9], .agg #[.bool false, .slice A5 n5 c5, .slice none 0 0]] W (RetR (ppq q k) W)) := Lib.hid fun W A9 n9 c9 D9 m9 d9 A5 n5 c5 h h5 => by
    have l := h.lens hs.abs
    have l5 : n5 ≤ 12 := by rw [← h5.len]; exact lT
    have := Fmul_any (ng q.abs.num) A9 n9 c9 _ D9 m9 d9 _ false A5 n5 c5 _ none 0 0 [] W h.n h.d h5 (Rd.nil_ _ _ _) (by omega) (by omega) (by omega) (by decide)
    rwa [rv_z, rv_nat] at this
  have hFv : Hid (∀ W A9 n9 c9 D9 m9 d9, RR W A9 n9 c9 D9 m9 d9 (ppq q k) → Calls Tryz.prog 42 #[.agg #[.bool (ng (ppq q k).num), .slice A9 n9 c9, .slice D9 m9 d9]] W (RetU F W)) := Lib.hid fun W A9 n9 c9 D9 m9 d9 h => by
    have l := h.lens hps
    have := Ffloor_any (ng (ppq q k).num) A9 n9 c9 _ D9 m9 d9 _ W h.n h.d (by omega) (by omega)
    rw [rv_z, p1] at this
    exact this.mono fun _ _ h => h.u
  obtain ⟨u, hu⟩ : ∃ u, u = ppq q k - ((F : Int) : Rat) := ⟨_, rfl⟩
  have hSu : Hid (∀ W A9 n9 c9 D9 m9 d9 A5 n5 c5, RR W A9 n9 c9 D9 m9 d9 (ppq q k) → Rd W A5 n5 c5 (limbs F) → Calls Tryz.prog 44 #[.agg #[.bool (ng (ppq q k).num), .slice A9 n9 c9, .slice D9 m9 d9], .agg #[.bool false, .slice A5 n5 c5, .slice none 0 0]] W (RetR u W)) := Lib.hid fun W A9 n9 c9 D9 m9 d9 A5 n5 c5 h h5 => by
    have l := h.lens hps
    have l5 : n5 ≤ 52 := by rw [← h5.len]; exact hFl
    have := Fsub_any (ng (ppq q k).num) A9 n9 c9 _ D9 m9 d9 _ false A5 n5 c5 _ none 0 0 [] W h.n h.d h5 (Rd.nil_ _ _ _) (by omega) (by omega) (by omega) (by decide)
    rwa [rv_z, rv_nat, ← hu] at this
  obtain ⟨tw, htw⟩ : ∃ tw : Rat, tw = ((2 : Int) : Rat) := ⟨_, rfl⟩
  obtain ⟨on, hon⟩ : ∃ on : Rat, on = ((1 : Int) : Rat) := ⟨_, rfl⟩
  have hu40 : Rs u 40 := by
    have e : u = Rat.divInt (r : Int) (q.den : Int) := by
      rw [Rat.divInt_eq_div]
      have h0 : ((q.den : Int) : Rat) ≠ 0 := by
        have := Rat.intCast_pos.2 (den_pos' q)
        exact fun e => Rat.lt_irrefl (e ▸ this)
      rw [← hu] at p4
      rw [show (((r : Nat) : Int) : Rat) = ((r : Nat) : Rat) from rfl, ← p4, show ((q.den : Nat) : Rat) = (((q.den : Nat) : Int) : Rat) from rfl]
      exact (Rat.mul_div_cancel h0).symm
    have hrd : r < q.den := by rw [hr]; exact Nat.mod_lt _ q.den_pos
    have := hs.d
    rw [e]; exact Rs.divInt (den_pos' q) (by rw [Int.natAbs_natCast]; omega) (by rw [Int.natAbs_natCast]; omega)
  have htw1 : Rs tw 1 := by rw [htw]; exact Rs.int (by decide) (by decide)
  have hon1 : Rs on 1 := by rw [hon]; exact Rs.int (by decide) (by decide)
  have hF2 : Hid (∀ W, Calls Tryz.prog 45 #[.int .i64 2] W (RetR tw W)) := Lib.hid fun W => by rw [htw]; exact FfromInt_any 2 W (by decide) (by decide)
  have hF1 : Hid (∀ W, Calls Tryz.prog 45 #[.int .i64 1] W (RetR on W)) := Lib.hid fun W => by rw [hon]; exact FfromInt_any 1 W (by decide) (by decide)
  obtain ⟨du, hdu⟩ : ∃ du : Rat, du = u * tw := ⟨_, rfl⟩
  have hdu41 : Rs du 41 := by rw [hdu]; exact hu40.mul htw1
  have hMd : Hid (∀ W A9 n9 c9 D9 m9 d9 A5 n5 c5 D5 m5 d5, RR W A9 n9 c9 D9 m9 d9 u → RR W A5 n5 c5 D5 m5 d5 tw → Calls Tryz.prog 40 #[.agg #[.bool (ng u.num), .slice A9 n9 c9, .slice D9 m9 d9], .agg #[.bool (ng tw.num), .slice A5 n5 c5, .slice D5 m5 d5]] W (RetR du W)) := Lib.hid fun W A9 n9 c9 D9 m9 d9 A5 n5 c5 D5 m5 d5 h h5 => by
    have l := h.lens hu40
    have l5 := h5.lens htw1
    have := Fmul_any (ng u.num) A9 n9 c9 _ D9 m9 d9 _ (ng tw.num) A5 n5 c5 _ D5 m5 d5 _ W h.n h.d h5.n h5.d (by omega) (by omega) (by omega) (by omega)
    rwa [rv_z, rv_z, ← hdu] at this
  have hCc : Hid (∀ W A9 n9 c9 D9 m9 d9 A5 n5 c5 D5 m5 d5, RR W A9 n9 c9 D9 m9 d9 du → RR W A5 n5 c5 D5 m5 d5 on → Calls Tryz.prog 43 #[.agg #[.bool (ng du.num), .slice A9 n9 c9, .slice D9 m9 d9], .agg #[.bool (ng on.num), .slice A5 n5 c5, .slice D5 m5 d5]] W fun e w' => e = .returned (.int .i64 C) ∧ Below W.heap.size W w') := Lib.hid fun W A9 n9 c9 D9 m9 d9 A5 n5 c5 D5 m5 d5 h h5 => by
    have l := h.lens hdu41
    have l5 := h5.lens hon1
    have := Fcompare_any (ng du.num) A9 n9 c9 _ D9 m9 d9 _ (ng on.num) A5 n5 c5 _ D5 m5 d5 _ W h.n h.d h5.n h5.d (by omega) (by omega) (by omega) (by omega)
    have e : cmpq du on = C := by rw [hdu, hu, htw, hon, hC]
    rwa [rv_z, rv_z, e] at this
  have hAd : Hid (∀ W A9 n9 c9 A5 n5 c5, Rd W A9 n9 c9 (limbs F) → Rd W A5 n5 c5 (limbs 1) → Calls Tryz.prog 46 #[.agg #[.bool false, .slice A9 n9 c9], .agg #[.bool false, .slice A5 n5 c5]] W (RetU (F + 1) W)) := Lib.hid fun W A9 n9 c9 A5 n5 c5 h h5 => by
    have := radd_ii (z := (F : Int)) (y := ((1 : Nat) : Int)) (by rw [Int.natAbs_natCast]; omega) (by rw [Int.natAbs_natCast, limbs_is1]; decide) W A9 n9 c9 A5 n5 c5 (by rwa [Int.natAbs_natCast]) (by rwa [Int.natAbs_natCast])
    rw [ngN, ngN, ← Int.natCast_add] at this
    exact this.mono fun _ _ h => h.u
  have hI1 : Hid (∀ W, Calls Tryz.prog 47 #[.int .i64 1] W (RetU 1 W)) := Lib.hid fun W => (rfromInt_any ((1 : Nat) : Int) W (by decide) (by decide)).mono fun _ _ h => h.u
  have hFm : Hid (∀ W A n c, Rd W A n c (limbs (drnd q k)) → Calls Tryz.prog 30 #[.agg #[.bool false, .slice A n c]] W fun e w' => e = .returned (.string (bs (txt (drnd q k)).data.toList)) ∧ Below W.heap.size W w') := Lib.hid fun W A n c h => by
    have := rformatZ_any (drnd q k : Int) A n c W (by rw [Int.natAbs_natCast]; exact h) (by rw [← h.len]; omega)
    rwa [ngN, itxt_nat] at this
  have hSg : Hid (∀ W A n c, Rd W A n c (limbs (drnd q k)) → Calls Tryz.prog 49 #[.agg #[.bool false, .slice A n c]] W fun e w' => e = .returned (.int .i64 (drnd q k : Int).sign) ∧ Below W.heap.size W w') := Lib.hid fun W A n c h => by
    have := rsignI_any false A n c _ W h (by rw [← h.len]; omega)
    rwa [iv_pos] at this
  have hMm : Hid (∀ W A n c A' (j : Nat), j < k → Rd W A n c (limbs (10 ^ j)) → Rd W A' 1 1 (limbs 10) → Calls Tryz.prog 39 #[.slice A n c, .slice A' 1 1] W (RetN (10 ^ (j + 1)) W)) := Lib.hid fun W A n c A' j hj q1 q2 => by
    have l1 : n ≤ 32 := by rw [← q1.len]; exact pow10_l32 (by omega)
    have := rmul_any A n c _ A' 1 1 _ W q1 q2 (by omega) (by omega)
    rwa [num_limbs, num_limbs, ← Nat.pow_succ] at this
  have hLit1 : Hid (∀ (W0 : World) (g : Nat), W0.heap.size = g → Rd (W0.alloc (.cells #[.int .u32 1] 38)) (some ⟨g, 0, none⟩) 1 1 (limbs 1)) := Lib.hid fun W0 g hg => by subst hg; exact lit_any (z := 1) (by decide) (by decide) W0 _
  have hLit10 : Hid (∀ (W0 : World), Rd (W0.alloc (.cells #[.int .u32 10] 38)) (some ⟨W0.heap.size, 0, none⟩) 1 1 (limbs 10)) := Lib.hid fun W0 => lit_any (z := 10) (by decide) (by decide) W0 _
  have hd0 : Hid (dtxt q k = if ng q.num = true ∧ drnd q k ≠ 0 then ⟨#[45]⟩ ++ bs (dbody q k) else bs (dbody q k)) := Lib.hid rfl
  have hdb : Hid (dbody q k = wp (txt (drnd q k)).data.toList k) := Lib.hid rfl
  have k0 : (0 : Int) ≤ (k : Int) := by omega
  have k1 : (k : Int) ≤ 100 := by omega
  have hsg := sign_ng q.num
  obtain ⟨hLx, hLx'⟩ := pad0_len (txt (drnd q k)).data.toList k
  generalize dtxt q k = Y at *
  generalize dbody q k = B at *
  generalize (txt (drnd q k)).data.toList = L at *
  generalize drnd q k = R at *
  generalize ppq q k = v at *
  obtain ⟨sg, hsgn⟩ : ∃ sg, sg = q.num.sign := ⟨_, rfl⟩
  rw [← hsgn] at hsg hG
  obtain ⟨ab, hab⟩ : ∃ ab, ab = q.abs := ⟨_, rfl⟩
  rw [← hab] at hA hMv
  replace hA := Lib.hid hA
  replace hG := Lib.hid hG
  replace hkk := Lib.hid hk
  replace lt1 := Lib.hid lt1
  replace lt0 := Lib.hid lt0
  replace hnr := Lib.hid hnr
  replace hC1 := Lib.hid hC1
  replace hC0 := Lib.hid hC0
  replace hsg := Lib.hid hsg
  clear R1 R2 hn hm hk hs lR lT hps hpd hN hF hr p1 p2 p3 p4 hFl hC hu htw hon hu40 htw1 hon1 hdu hdu41 hsgn hab hLx'
  go_enter Tryz.func12, Tryz.ntmps12
  have O := hLit1.out (World.alloc w (.cells #[.bool b, .slice A n c, .slice D m d] 26)) (w.heap.size + 1) (by simp)
  have B2 := (Below.refl (World.alloc w (.cells #[.bool b, .slice A n c, .slice D m d] 26)).heap.size (World.alloc w (.cells #[.bool b, .slice A n c, .slice D m d] 26))).alloc (Nat.le_refl _) (.cells #[.int .u32 1] 38)
  have S2 := Lib.hid ((S.out.call B2).read O)
  clear O B2 S
  go_wp2
  go_loopw [5, 6] (fun tv iv wr => ∃ (A0 : Option Addr) (n0 c0 j : Nat), j ≤ k ∧ tv = .slice A0 n0 c0 ∧ iv = .int .i64 (j : Int) ∧ St w wr [(w.heap.size, #[.bool b, .slice A n c, .slice D m d], 26)] [(A0, n0, c0, limbs (10 ^ j)), (D, m, d, ds), (A, n, c, xs)]) (fun _ iv _ => k - (intOf iv).toNat)
  case atStart => exact ⟨_, _, _, 0, Nat.zero_le _, rfl, rfl, S2.out.pick [0] [0, 1, 2] rfl (by decide) rfl⟩
  case round =>
    clear S2
    obtain ⟨A0, n0, c0, j, hj, rfl, rfl, S⟩ := hrel
    by_cases hlt : j < k
    · have hltI : (j : Int) < (k : Int) := by omega
      have O := hLit10.out wr
      have B2 := (Below.refl wr.heap.size wr).alloc (Nat.le_refl _) (.cells #[.int .u32 10] 38)
      have S2 := Lib.hid ((S.call B2).read O)
      clear O B2 S
      go_wp2_with fail
      refine (hMm.out _ _ _ _ _ j hlt (S2.out.r 1 rfl) (S2.out.r 0 rfl)).mono ?_
      rintro e w9 ⟨A9, n9, c9, rfl, Q, bb⟩
      have S3 := Lib.hid ((S2.out.call bb).read Q)
      clear Q bb S2
      go_wp2
      go_roundw
      case rel => exact ⟨A9, n9, c9, j + 1, by omega, rfl, by go_num, S3.out.pick [0] [0, 3, 4] rfl (by decide) rfl⟩
      case measure => simp [intOf]; omega
    · obtain rfl : j = k := by omega
      have c_x0 := S.cl 0 0 rfl rfl
      have f_x0 := S.f 0 0 rfl
      have c_x1 := S.cl 0 1 rfl rfl
      have f_x1 := S.f 0 1 rfl
      have c_x2 := S.cl 0 2 rfl rfl
      have f_x2 := S.f 0 2 rfl
      have hz : w.heap.size < wr.heap.size := S.lt 0 rfl
      replace S := Lib.hid S
      go_wp2_with fail
      refine (hA.out _ (S.out.r 2 rfl) (S.out.r 1 rfl)).mono ?_
      rintro e w1 ⟨A1, n1, c1, D1, m1, d1, rfl, Q, bb⟩
      have T := (((S.out.call bb).read Q.n).read Q.d)
      clear bb S c_x0 f_x0 c_x1 f_x1 c_x2 f_x2 hz
      have S := T
      clear T
      have c_x0 := S.cl 0 0 rfl rfl
      have f_x0 := S.f 0 0 rfl
      have c_x1 := S.cl 0 1 rfl rfl
      have f_x1 := S.f 0 1 rfl
      have c_x2 := S.cl 0 2 rfl rfl
      have f_x2 := S.f 0 2 rfl
      have hz : w.heap.size < w1.heap.size := S.lt 0 rfl
      replace S := Lib.hid S
      clear Q hA
      go_wp2_with fail
      refine (hMv.out _ _ _ _ _ _ _ _ _ _ ⟨(S.out.r 1 rfl), (S.out.r 0 rfl)⟩ (S.out.r 2 rfl)).mono ?_
      rintro e w2 ⟨A2, n2, c2, D2, m2, d2, rfl, Q, bb⟩
      have T := (((S.out.call bb).read Q.n).read Q.d)
      clear bb S c_x0 f_x0 c_x1 f_x1 c_x2 f_x2 hz
      have S := T
      clear T
      have c_x0 := S.cl 0 0 rfl rfl
      have f_x0 := S.f 0 0 rfl
      have c_x1 := S.cl 0 1 rfl rfl
      have f_x1 := S.f 0 1 rfl
      have c_x2 := S.cl 0 2 rfl rfl
      have f_x2 := S.f 0 2 rfl
      have hz : w.heap.size < w2.heap.size := S.lt 0 rfl
      replace S := Lib.hid S
      clear Q hMv
      have S : St w _ [(w2.heap.size, #[.bool (ng v.num), .slice A2 n2 c2, .slice D2 m2 d2], 26), (w.heap.size, #[.bool b, .slice A n c, .slice D m d], 26)] [(D2, m2, d2, dn v), (A2, n2, c2, limbs v.num.natAbs), (D1, m1, d1, dn ab), (A1, n1, c1, limbs ab.num.natAbs), (A0, n0, c0, limbs (10 ^ j)), (D, m, d, ds), (A, n, c, xs)] := (S.out.allocAt (w2.heap.size) #[.bool (ng v.num), .slice A2 n2 c2, .slice D2 m2 d2] 26 (noL3 _ _ _ _ _ _ _) (by simp))
      have a_x0 := S.cl 1 0 rfl rfl
      have b_x0 := S.f 1 0 rfl
      have a_x1 := S.cl 1 1 rfl rfl
      have b_x1 := S.f 1 1 rfl
      have a_x2 := S.cl 1 2 rfl rfl
      have b_x2 := S.f 1 2 rfl
      replace S := Lib.hid S
      go_wp2_with fail
      refine (hFv.out _ _ _ _ _ _ _ ⟨(S.out.r 1 rfl), (S.out.r 0 rfl)⟩).mono ?_
      rintro e w3 ⟨A3, n3, c3, rfl, Q, bb⟩
      have T := ((S.out.call bb).read Q)
      clear bb S c_x0 f_x0 c_x1 f_x1 c_x2 f_x2 hz a_x0 b_x0 a_x1 b_x1 a_x2 b_x2
      have S := T
      clear T
      have c_v0 := S.cl 0 0 rfl rfl
      have f_v0 := S.f 0 0 rfl
      have c_v1 := S.cl 0 1 rfl rfl
      have f_v1 := S.f 0 1 rfl
      have c_v2 := S.cl 0 2 rfl rfl
      have f_v2 := S.f 0 2 rfl
      have c_x0 := S.cl 1 0 rfl rfl
      have f_x0 := S.f 1 0 rfl
      have c_x1 := S.cl 1 1 rfl rfl
      have f_x1 := S.f 1 1 rfl
      have c_x2 := S.cl 1 2 rfl rfl
      have f_x2 := S.f 1 2 rfl
      have hz : w2.heap.size < w3.heap.size := S.lt 0 rfl
      replace S := Lib.hid S
      clear Q hFv
      have S : St w _ [(w3.heap.size, #[.bool false, .slice A3 n3 c3], 24), (w2.heap.size, #[.bool (ng v.num), .slice A2 n2 c2, .slice D2 m2 d2], 26), (w.heap.size, #[.bool b, .slice A n c, .slice D m d], 26)] [(A3, n3, c3, limbs F), (D2, m2, d2, dn v), (A2, n2, c2, limbs v.num.natAbs), (D1, m1, d1, dn ab), (A1, n1, c1, limbs ab.num.natAbs), (A0, n0, c0, limbs (10 ^ j)), (D, m, d, ds), (A, n, c, xs)] := (S.out.allocAt (w3.heap.size) #[.bool false, .slice A3 n3 c3] 24 (noL2 _ _ _ _) (by simp))
      have a_v0 := S.cl 1 0 rfl rfl
      have b_v0 := S.f 1 0 rfl
      have a_v1 := S.cl 1 1 rfl rfl
      have b_v1 := S.f 1 1 rfl
      have a_v2 := S.cl 1 2 rfl rfl
      have b_v2 := S.f 1 2 rfl
      have a_x0 := S.cl 2 0 rfl rfl
      have b_x0 := S.f 2 0 rfl
      have a_x1 := S.cl 2 1 rfl rfl
      have b_x1 := S.f 2 1 rfl
      have a_x2 := S.cl 2 2 rfl rfl
      have b_x2 := S.f 2 2 rfl
      replace S := Lib.hid S
      go_wp2_with fail
      refine (hSu.out _ _ _ _ _ _ _ _ _ _ ⟨(S.out.r 2 rfl), (S.out.r 1 rfl)⟩ (S.out.r 0 rfl)).mono ?_
      rintro e w4 ⟨A4, n4, c4, D4, m4, d4, rfl, Q, bb⟩
      have T := (((S.out.call bb).read Q.n).read Q.d)
      clear bb S c_v0 f_v0 c_v1 f_v1 c_v2 f_v2 c_x0 f_x0 c_x1 f_x1 c_x2 f_x2 hz a_v0 b_v0 a_v1 b_v1 a_v2 b_v2 a_x0 b_x0 a_x1 b_x1 a_x2 b_x2
      have S := T
      clear T
      have c_f0 := S.cl 0 0 rfl rfl
      have f_f0 := S.f 0 0 rfl
      have c_f1 := S.cl 0 1 rfl rfl
      have f_f1 := S.f 0 1 rfl
      have c_v0 := S.cl 1 0 rfl rfl
      have f_v0 := S.f 1 0 rfl
      have c_v1 := S.cl 1 1 rfl rfl
      have f_v1 := S.f 1 1 rfl
      have c_v2 := S.cl 1 2 rfl rfl
      have f_v2 := S.f 1 2 rfl
      have c_x0 := S.cl 2 0 rfl rfl
      have f_x0 := S.f 2 0 rfl
      have c_x1 := S.cl 2 1 rfl rfl
      have f_x1 := S.f 2 1 rfl
      have c_x2 := S.cl 2 2 rfl rfl
      have f_x2 := S.f 2 2 rfl
      have hz : w3.heap.size < w4.heap.size := S.lt 0 rfl
      replace S := Lib.hid S
      clear Q hSu
      go_wp2_with fail
      refine (hF2.out _).mono ?_
      rintro e w5 ⟨A5, n5, c5, D5, m5, d5, rfl, Q, bb⟩
      have T := (((S.out.call bb).read Q.n).read Q.d)
      clear bb S c_f0 f_f0 c_f1 f_f1 c_v0 f_v0 c_v1 f_v1 c_v2 f_v2 c_x0 f_x0 c_x1 f_x1 c_x2 f_x2 hz
      have S := T
      clear T
      have c_f0 := S.cl 0 0 rfl rfl
      have f_f0 := S.f 0 0 rfl
      have c_f1 := S.cl 0 1 rfl rfl
      have f_f1 := S.f 0 1 rfl
      have c_v0 := S.cl 1 0 rfl rfl
      have f_v0 := S.f 1 0 rfl
      have c_v1 := S.cl 1 1 rfl rfl
      have f_v1 := S.f 1 1 rfl
      have c_v2 := S.cl 1 2 rfl rfl
      have f_v2 := S.f 1 2 rfl
      have c_x0 := S.cl 2 0 rfl rfl
      have f_x0 := S.f 2 0 rfl
      have c_x1 := S.cl 2 1 rfl rfl
      have f_x1 := S.f 2 1 rfl
      have c_x2 := S.cl 2 2 rfl rfl
      have f_x2 := S.f 2 2 rfl
      have hz : w3.heap.size < w5.heap.size := S.lt 0 rfl
      replace S := Lib.hid S
      clear Q hF2
      go_wp2_with fail
      refine (hMd.out _ _ _ _ _ _ _ _ _ _ _ _ _ ⟨(S.out.r 3 rfl), (S.out.r 2 rfl)⟩ ⟨(S.out.r 1 rfl), (S.out.r 0 rfl)⟩).mono ?_
      rintro e w6 ⟨A6, n6, c6, D6, m6, d6, rfl, Q, bb⟩
      have T := (((S.out.call bb).read Q.n).read Q.d)
      clear bb S c_f0 f_f0 c_f1 f_f1 c_v0 f_v0 c_v1 f_v1 c_v2 f_v2 c_x0 f_x0 c_x1 f_x1 c_x2 f_x2 hz
      have S := T
      clear T
      have c_f0 := S.cl 0 0 rfl rfl
      have f_f0 := S.f 0 0 rfl
      have c_f1 := S.cl 0 1 rfl rfl
      have f_f1 := S.f 0 1 rfl
      have c_v0 := S.cl 1 0 rfl rfl
      have f_v0 := S.f 1 0 rfl
      have c_v1 := S.cl 1 1 rfl rfl
      have f_v1 := S.f 1 1 rfl
      have c_v2 := S.cl 1 2 rfl rfl
      have f_v2 := S.f 1 2 rfl
      have c_x0 := S.cl 2 0 rfl rfl
      have f_x0 := S.f 2 0 rfl
      have c_x1 := S.cl 2 1 rfl rfl
      have f_x1 := S.f 2 1 rfl
      have c_x2 := S.cl 2 2 rfl rfl
      have f_x2 := S.f 2 2 rfl
      have hz : w3.heap.size < w6.heap.size := S.lt 0 rfl
      replace S := Lib.hid S
      clear Q hMd
      go_wp2_with fail
      refine (hF1.out _).mono ?_
      rintro e w7 ⟨A7, n7, c7, D7, m7, d7, rfl, Q, bb⟩
      have T := (((S.out.call bb).read Q.n).read Q.d)
      clear bb S c_f0 f_f0 c_f1 f_f1 c_v0 f_v0 c_v1 f_v1 c_v2 f_v2 c_x0 f_x0 c_x1 f_x1 c_x2 f_x2 hz
      have S := T
      clear T
      have c_f0 := S.cl 0 0 rfl rfl
      have f_f0 := S.f 0 0 rfl
      have c_f1 := S.cl 0 1 rfl rfl
      have f_f1 := S.f 0 1 rfl
      have c_v0 := S.cl 1 0 rfl rfl
      have f_v0 := S.f 1 0 rfl
      have c_v1 := S.cl 1 1 rfl rfl
      have f_v1 := S.f 1 1 rfl
      have c_v2 := S.cl 1 2 rfl rfl
      have f_v2 := S.f 1 2 rfl
      have c_x0 := S.cl 2 0 rfl rfl
      have f_x0 := S.f 2 0 rfl
      have c_x1 := S.cl 2 1 rfl rfl
      have f_x1 := S.f 2 1 rfl
      have c_x2 := S.cl 2 2 rfl rfl
      have f_x2 := S.f 2 2 rfl
      have hz : w3.heap.size < w7.heap.size := S.lt 0 rfl
      replace S := Lib.hid S
      clear Q hF1
      go_wp2_with fail
      refine (hCc.out _ _ _ _ _ _ _ _ _ _ _ _ _ ⟨(S.out.r 3 rfl), (S.out.r 2 rfl)⟩ ⟨(S.out.r 1 rfl), (S.out.r 0 rfl)⟩).mono ?_
      rintro e w8 ⟨rfl, bb⟩
      have T := (S.out.call bb)
      clear bb S c_f0 f_f0 c_f1 f_f1 c_v0 f_v0 c_v1 f_v1 c_v2 f_v2 c_x0 f_x0 c_x1 f_x1 c_x2 f_x2 hz
      have S := T
      clear T
      have c_f0 := S.cl 0 0 rfl rfl
      have f_f0 := S.f 0 0 rfl
      have c_f1 := S.cl 0 1 rfl rfl
      have f_f1 := S.f 0 1 rfl
      have c_v0 := S.cl 1 0 rfl rfl
      have f_v0 := S.f 1 0 rfl
      have c_v1 := S.cl 1 1 rfl rfl
      have f_v1 := S.f 1 1 rfl
      have c_v2 := S.cl 1 2 rfl rfl
      have f_v2 := S.f 1 2 rfl
      have c_x0 := S.cl 2 0 rfl rfl
      have f_x0 := S.f 2 0 rfl
      have c_x1 := S.cl 2 1 rfl rfl
      have f_x1 := S.f 2 1 rfl
      have c_x2 := S.cl 2 2 rfl rfl
      have f_x2 := S.f 2 2 rfl
      have hz : w3.heap.size < w8.heap.size := S.lt 0 rfl
      replace S := Lib.hid S
      clear hCc
      have T : St w _ [(w3.heap.size, #[.bool false, .slice A3 n3 c3], 24), (w.heap.size, #[.bool b, .slice A n c, .slice D m d], 26)] [(A3, n3, c3, limbs F), (D, m, d, ds), (A, n, c, xs)] := S.out.pick [0, 2] [8, 14, 15] rfl (by decide) rfl
      clear S c_f0 f_f0 c_f1 f_f1 c_v0 f_v0 c_v1 f_v1 c_v2 f_v2 c_x0 f_x0 c_x1 f_x1 c_x2 f_x2 hz
      have S := T
      clear T
      have c_f0 := S.cl 0 0 rfl rfl
      have f_f0 := S.f 0 0 rfl
      have c_f1 := S.cl 0 1 rfl rfl
      have f_f1 := S.f 0 1 rfl
      have c_x0 := S.cl 1 0 rfl rfl
      have f_x0 := S.f 1 0 rfl
      have c_x1 := S.cl 1 1 rfl rfl
      have f_x1 := S.f 1 1 rfl
      have c_x2 := S.cl 1 2 rfl rfl
      have f_x2 := S.f 1 2 rfl
      have hz : w3.heap.size < w8.heap.size := S.lt 0 rfl
      replace S := Lib.hid S
      go_upto_region 11 with fail
      go_cut [61] (fun v wx => v = .bool (decide (R = F + 1)) ∧ St w wx [(w3.heap.size, #[.bool false, .slice A3 n3 c3], 24), (w.heap.size, #[.bool b, .slice A n c, .slice D m d], 26)] [(A3, n3, c3, limbs F), (D, m, d, ds), (A, n, c, xs)])
      case first =>
        by_cases g1 : 0 < C
        · have hR : R = F + 1 := by rw [hnr.out, if_pos (Or.inl (hC1.out.1 g1))]
          have g2 : decide (0 < C) = true := decide_eq_true g1
          go_wp2_with fail
          go_meet
          exact ⟨congrArg Value.bool (decide_eq_true hR).symm, S.out⟩
        · by_cases g0 : C = 0
          · have g2 : decide (0 < C) = false := decide_eq_false g1
            have g3 : (C == 0) = true := beq_iff_eq.2 g0
            by_cases n0 : n3 = 0
            · have hF0 := odd_nil (S.out.r 0 rfl) n0
              have hR : ¬ R = F + 1 := by rw [hnr.out, if_neg (by rintro (h | h); exact g1 (hC1.out.2 h); omega)]; omega
              have n0' : ¬ (0 : Int) < (n3 : Int) := by omega
              have n0'' : decide ((0 : Int) < (n3 : Int)) = false := decide_eq_false n0'
              clear g0 n0 hF0
              go_wp2_with fail
              go_meet
              exact ⟨congrArg Value.bool (decide_eq_false hR).symm, S.out⟩
            · obtain ⟨b0, o0, x0, he0, hx0, hc0, hm0⟩ := odd_at (S.out.r 0 rfl) (Nat.pos_of_ne_zero n0)
              have n0' : (0 : Int) < (n3 : Int) := by omega
              have n0'' : decide ((0 : Int) < (n3 : Int)) = true := decide_eq_true n0'
              have n0p : 0 < n3 := by omega
              have hxx : (0 : Int) ≤ (x0 : Int) := by omega
              subst he0
              rcases Nat.mod_two_eq_zero_or_one x0 with h1 | h1
              · have hR : ¬ R = F + 1 := by rw [hnr.out, if_neg (by rintro (h | h); exact g1 (hC1.out.2 h); omega)]; omega
                have hb : (x0 : Int) % 2 = 0 := by omega
                clear g0 h1 hm0
                go_wp2_with fail
                go_meet
                exact ⟨congrArg Value.bool (decide_eq_false hR).symm, S.out⟩
              · have hR : R = F + 1 := by rw [hnr.out, if_pos (Or.inr ⟨hC0.out.1 g0, by omega⟩)]
                have hb : (x0 : Int) % 2 = 1 := by omega
                clear g0 h1 hm0
                go_wp2_with fail
                go_meet
                exact ⟨congrArg Value.bool (decide_eq_true hR).symm, S.out⟩
          · have hR : ¬ R = F + 1 := by rw [hnr.out, if_neg (by rintro (h | h); exact g1 (hC1.out.2 h); exact g0 (hC0.out.2 h.1))]; omega
            have g2 : decide (0 < C) = false := decide_eq_false g1
            have g3 : (C == 0) = false := beq_eq_false_iff_ne.2 g0
            go_wp2_with fail
            go_meet
            exact ⟨congrArg Value.bool (decide_eq_false hR).symm, S.out⟩
      case rest =>
        clear c_f0 f_f0 c_f1 f_f1 c_x0 f_x0 c_x1 f_x1 c_x2 f_x2 hz S
        obtain ⟨rfl, S⟩ := hcut
        have hRF : Hid (¬ R = F + 1 → F = R) := Lib.hid fun h => by rw [hnr.out] at h ⊢; split; rename_i h2; rw [if_pos h2] at h; exact absurd rfl h; rfl
        clear hnr hC1 hC0
        have c_f0 := S.cl 0 0 rfl rfl
        have f_f0 := S.f 0 0 rfl
        have c_f1 := S.cl 0 1 rfl rfl
        have f_f1 := S.f 0 1 rfl
        have c_x0 := S.cl 1 0 rfl rfl
        have f_x0 := S.f 1 0 rfl
        have c_x1 := S.cl 1 1 rfl rfl
        have f_x1 := S.f 1 1 rfl
        have c_x2 := S.cl 1 2 rfl rfl
        have f_x2 := S.f 1 2 rfl
        have hz : w3.heap.size < wc.heap.size := S.lt 0 rfl
        replace S := Lib.hid S
        go_upto_if 61 with fail
        go_cut [] (fun wx => ∃ (A8 : Option Addr) (n8 c8 : Nat), St w wx [(w3.heap.size, #[.bool false, .slice A8 n8 c8], 24), (w.heap.size, #[.bool b, .slice A n c, .slice D m d], 26)] [(A8, n8, c8, limbs R), (D, m, d, ds), (A, n, c, xs)])
        case first =>
          by_cases hR : R = F + 1
          · have g2 : decide (R = F + 1) = true := decide_eq_true hR
            rw [g2]
            go_upto_region 12 with fail
            clear c_f0 f_f0 c_f1 f_f1 c_x0 f_x0 c_x1 f_x1 c_x2 f_x2 hz
            have SD := Lib.hid (S.out.drew)
            have d_f0 := St.cl (SD.out) 0 0 rfl rfl
            have d_f1 := St.cl (SD.out) 0 1 rfl rfl
            have dz_f0 := St.f (SD.out) 0 0 rfl
            have dz_f1 := St.f (SD.out) 0 1 rfl
            go_region_with (first
              | (go_at_call 47; refine (hI1.out _).mono ?_; rintro e w95 ⟨A5, n5, c5, rfl, Q5, bb0⟩; have S0 := (SD.out.call bb0).read Q5; have e_f0 := St.cl (S0) 0 0 rfl rfl; have e_f1 := St.cl (S0) 0 1 rfl rfl; have ez_f0 := St.f (S0) 0 0 rfl; have ez_f1 := St.f (S0) 0 1 rfl)
              | (go_at_call 46; refine (hAd.out _ _ _ _ _ _ _ (S0.r 1 rfl) (S0.r 0 rfl)).mono ?_; rintro e w96 ⟨A6, n6, c6, rfl, Q6, bb1⟩; have S1 := (S0.call bb1).read Q6; have h_f0 := St.cl (S1) 0 0 rfl rfl; have h_f1 := St.cl (S1) 0 1 rfl rfl; have hz_f0 := St.f (S1) 0 0 rfl; have hz_f1 := St.f (S1) 0 1 rfl))
            all_goals
              have SE := Lib.hid ((S1.set 0 0 (.bool false) rfl (by nofun)).set 0 1 (.slice A6 n6 c6) rfl (by nofun))
              clear d_f0 d_f1 dz_f0 dz_f1 e_f0 e_f1 ez_f0 ez_f1 h_f0 h_f1 hz_f0 hz_f1
              go_wp2_with fail
              go_meet
              exact ⟨A6, n6, c6, hR ▸ SE.out.pick [0, 1] [0, 3, 4] rfl (by decide) rfl⟩
          · have g2 : decide (R = F + 1) = false := decide_eq_false hR
            have hR2 := hRF.out hR
            rw [g2]
            go_wp2_with fail
            go_meet
            exact ⟨A3, n3, c3, hR2 ▸ S.out⟩
        case rest =>
          clear c_f0 f_f0 c_f1 f_f1 c_x0 f_x0 c_x1 f_x1 c_x2 f_x2 hz S
          obtain ⟨A8, n8, c8, S⟩ := hcut
          clear hI1 hAd hRF
          have c_f0 := S.cl 0 0 rfl rfl
          have f_f0 := S.f 0 0 rfl
          have c_f1 := S.cl 0 1 rfl rfl
          have f_f1 := S.f 0 1 rfl
          have c_x0 := S.cl 1 0 rfl rfl
          have f_x0 := S.f 1 0 rfl
          have c_x1 := S.cl 1 1 rfl rfl
          have f_x1 := S.f 1 1 rfl
          have c_x2 := S.cl 1 2 rfl rfl
          have f_x2 := S.f 1 2 rfl
          have hz : w3.heap.size < wc.heap.size := S.lt 0 rfl
          replace S := Lib.hid S
          go_wp2_with fail
          refine (hFm.out _ _ _ _ (S.out.r 0 rfl)).mono ?_
          rintro e w19 ⟨rfl, bb⟩
          have T := (S.out.call bb)
          clear bb S c_f0 f_f0 c_f1 f_f1 c_x0 f_x0 c_x1 f_x1 c_x2 f_x2 hz
          have S := T
          clear T
          have c_f0 := S.cl 0 0 rfl rfl
          have f_f0 := S.f 0 0 rfl
          have c_f1 := S.cl 0 1 rfl rfl
          have f_f1 := S.f 0 1 rfl
          have c_x0 := S.cl 1 0 rfl rfl
          have f_x0 := S.f 1 0 rfl
          have c_x1 := S.cl 1 1 rfl rfl
          have f_x1 := S.f 1 1 rfl
          have c_x2 := S.cl 1 2 rfl rfl
          have f_x2 := S.f 1 2 rfl
          have hz : w3.heap.size < w19.heap.size := S.lt 0 rfl
          replace S := Lib.hid S
          clear hFm
          go_wp2
          go_loop [10] (fun v => ∃ i : Nat, i ≤ j + 1 - L.length ∧ v = .string (bs (List.replicate i 48 ++ L))) (fun v => j + 1 - (match v with | .string b => b.size | _ => 0))
          case atStart => exact ⟨0, Nat.zero_le _, rfl⟩
          case round =>
            obtain ⟨i, hi, rfl⟩ := hrel
            have hsz : (bs (List.replicate i 48 ++ L)).size = i + L.length := by rw [bs_size, List.length_append, List.length_replicate]
            have hL1 := lt1.out
            have hL0 := lt0.out
            have hk9 := hkk.out
            by_cases hlt2 : i < j + 1 - L.length
            · have hcs : ((⟨#[48]⟩ : ByteArray) ++ bs (List.replicate i 48 ++ L)) = bs (List.replicate (i + 1) 48 ++ L) := by rw [show (⟨#[48]⟩ : ByteArray) = bs [48] from rfl, ← bs_app]; rfl
              have hz1 : ((bs (List.replicate i 48 ++ L)).size : Int) ≤ (j : Int) := by omega
              have hz2 : ¬ 9223372036854775807 < 1 + (bs (List.replicate i 48 ++ L)).size := by omega
              have hsz2 : (bs (List.replicate (i + 1) 48 ++ L)).size = i + 1 + L.length := by rw [bs_size, List.length_append, List.length_replicate]
              generalize bs (List.replicate i 48 ++ L) = X at *
              obtain ⟨X2, hX2⟩ : ∃ X2, X2 = bs (List.replicate (i + 1) 48 ++ L) := ⟨_, rfl⟩
              rw [← hX2] at hcs hsz2
              replace hX2 := Lib.hid hX2
              clear hL1 hL0 hk9
              go_wp2
              go_round
              case rel => exact ⟨i + 1, by omega, by rw [← hX2.out]⟩
              case measure => show j + 1 - X2.size < j + 1 - X.size; omega
            · obtain rfl : i = j + 1 - L.length := by omega
              have hz1 : ¬ ((bs (List.replicate (j + 1 - L.length) 48 ++ L)).size : Int) ≤ (j : Int) := by omega
              have hpe : List.replicate (j + 1 - L.length) 48 ++ L = pad0 L j := rfl
              rw [hpe] at hsz hz1 ⊢
              obtain ⟨P, hP⟩ : ∃ P, P = bs (pad0 L j) := ⟨_, rfl⟩
              have hPs : P.size = (pad0 L j).length := by rw [hP, bs_size]
              rw [← hP] at hsz hz1 ⊢
              replace hsz := Lib.hid hsz
              replace hPs := Lib.hid hPs
              replace hP := Lib.hid hP
              replace hpe := Lib.hid hpe
              go_upto_if 74 with fail
              go_cut [10] (fun v wx => v = .string (bs (wp L j)) ∧ St w wx [(w3.heap.size, #[.bool false, .slice A8 n8 c8], 24), (w.heap.size, #[.bool b, .slice A n c, .slice D m d], 26)] [(A8, n8, c8, limbs R), (D, m, d, ds), (A, n, c, xs)])
              case first =>
                by_cases hk0 : j = 0
                · have g1 : ¬ (0 : Int) < (j : Int) := by omega
                  have hfin : Hid (P = bs (wp L j)) := Lib.hid (by
                    have e1 : wp L j = L := by unfold wp; rw [if_pos hk0]
                    have e2 : pad0 L j = L := by unfold pad0; rw [show j + 1 - L.length = 0 by omega]; rfl
                    rw [hP.out, e1, e2])
                  clear hk0
                  go_wp2_with fail
                  go_meet
                  exact ⟨congrArg Value.string hfin.out, S.out⟩
                · have g1 : (0 : Int) < (j : Int) := by omega
                  replace hP := hP.out
                  replace hPs := hPs.out
                  replace hsz := hsz.out
                  obtain ⟨t, ht⟩ : ∃ t, (pad0 L j).length - j = t := ⟨_, rfl⟩
                  have hT := withPoint_tail P j t (by omega) (by omega) (by omega) _ hP
                  have e : wp L j = (pad0 L j).take t ++ 46 :: (pad0 L j).drop t := by unfold wp; rw [if_neg hk0, ht]
                  rw [← e] at hT
                  have n3 : (P.size : Int) - (j : Int) = (t : Int) := by omega
                  have n8 : (0 : Int) ≤ (t : Int) := by omega
                  have n9 : (t : Int) ≤ (P.size : Int) := by omega
                  have n9n : t ≤ P.size := by omega
                  have n10 : (P.size : Int) ≤ 5001 := by omega
                  have n12 : ¬ 9223372036854775807 < (P.extract 0 t).size + 1 := by rw [ByteArray.size_extract]; omega
                  have n13 : ¬ 9223372036854775807 < (P.extract 0 t).size + 1 + (P.extract t P.size).size := by rw [ByteArray.size_extract, ByteArray.size_extract]; omega
                  replace hT := Lib.hid hT
                  clear hP hPs hsz hL1 hL0 hk9 hpe e ht
                  go_wp2_with fail
                  go_quiet (fail)
                  go_wp2
                  go_meet
                  exact ⟨congrArg Value.string hT.out, S.out.call (below_drewN (Below.refl _ _) _)⟩
              case rest =>
                clear c_f0 f_f0 c_f1 f_f1 c_x0 f_x0 c_x1 f_x1 c_x2 f_x2 hz S
                obtain ⟨rfl, S⟩ := hcut
                have hlw : Hid ((bs (wp L j)).size ≤ 5000) := Lib.hid (by have := wp_len L j; rw [bs_size]; omega)
                have hdd := hd0.out
                rw [hdb.out] at hdd
                clear hL1 hL0 hk9 hsz hz1 hP hPs hpe hd0 hdb lt0 lt1 hkk
                generalize bs (wp L j) = Z at *
                have c_f0 := S.cl 0 0 rfl rfl
                have f_f0 := S.f 0 0 rfl
                have c_f1 := S.cl 0 1 rfl rfl
                have f_f1 := S.f 0 1 rfl
                have c_x0 := S.cl 1 0 rfl rfl
                have f_x0 := S.f 1 0 rfl
                have c_x1 := S.cl 1 1 rfl rfl
                have f_x1 := S.f 1 1 rfl
                have c_x2 := S.cl 1 2 rfl rfl
                have f_x2 := S.f 1 2 rfl
                have hz : w3.heap.size < wc.heap.size := S.lt 0 rfl
                replace S := Lib.hid S
                go_wp2_with fail
                refine (hG.out _ (S.out.r 2 rfl) (S.out.r 1 rfl)).mono ?_
                rintro e w25 ⟨rfl, bb⟩
                have T := (S.out.call bb)
                clear bb S c_f0 f_f0 c_f1 f_f1 c_x0 f_x0 c_x1 f_x1 c_x2 f_x2 hz
                have S := T
                clear T
                have c_f0 := S.cl 0 0 rfl rfl
                have f_f0 := S.f 0 0 rfl
                have c_f1 := S.cl 0 1 rfl rfl
                have f_f1 := S.f 0 1 rfl
                have c_x0 := S.cl 1 0 rfl rfl
                have f_x0 := S.f 1 0 rfl
                have c_x1 := S.cl 1 1 rfl rfl
                have f_x1 := S.f 1 1 rfl
                have c_x2 := S.cl 1 2 rfl rfl
                have f_x2 := S.f 1 2 rfl
                have hz : w3.heap.size < w25.heap.size := S.lt 0 rfl
                replace S := Lib.hid S
                clear hG
                cases hnq : ng q.num
                · have g1 : decide (sg < 0) = false := by rw [hsg.out]; exact hnq
                  have hY : Hid (Y = Z) := Lib.hid (by rw [hdd, if_neg (by rw [hnq]; simp)])
                  clear hdd hnq hlw
                  have S : St w _ [(w3.heap.size, #[.bool false, .slice A8 n8 c8], 24), (w.heap.size, #[.bool b, .slice A n c, .slice D m d], 26)] [(A8, n8, c8, limbs R), (D, m, d, ds), (A, n, c, xs)] := S.out
                  replace S := Lib.hid S
                  go_wp2
                  go_ret
                  exact ⟨congrArg (fun s => Ending.returned (.string s)) hY.out.symm, S.out.bel⟩
                · have g1 : decide (sg < 0) = true := by rw [hsg.out]; exact hnq
                  go_wp2_with fail
                  refine (hSg.out _ _ _ _ (S.out.r 0 rfl)).mono ?_
                  rintro e w26 ⟨rfl, bb⟩
                  have T := (S.out.call bb)
                  clear bb S c_f0 f_f0 c_f1 f_f1 c_x0 f_x0 c_x1 f_x1 c_x2 f_x2 hz
                  have S := T
                  clear T
                  have c_f0 := S.cl 0 0 rfl rfl
                  have f_f0 := S.f 0 0 rfl
                  have c_f1 := S.cl 0 1 rfl rfl
                  have f_f1 := S.f 0 1 rfl
                  have c_x0 := S.cl 1 0 rfl rfl
                  have f_x0 := S.f 1 0 rfl
                  have c_x1 := S.cl 1 1 rfl rfl
                  have f_x1 := S.f 1 1 rfl
                  have c_x2 := S.cl 1 2 rfl rfl
                  have f_x2 := S.f 1 2 rfl
                  have hz : w3.heap.size < w26.heap.size := S.lt 0 rfl
                  replace S := Lib.hid S
                  clear hSg
                  by_cases hR0 : R = 0
                  · have g2 : ¬ (0 : Int) < (R : Int).sign := by rw [hR0]; decide
                    have g3 : decide ((0 : Int) < (R : Int).sign) = false := decide_eq_false g2
                    have hY : Hid (Y = Z) := Lib.hid (by rw [hdd, if_neg (fun h => h.2 hR0)])
                    generalize (R : Int).sign = sr at *
                    clear hdd hlw hR0
                    have S : St w _ [(w3.heap.size, #[.bool false, .slice A8 n8 c8], 24), (w.heap.size, #[.bool b, .slice A n c, .slice D m d], 26)] [(A8, n8, c8, limbs R), (D, m, d, ds), (A, n, c, xs)] := S.out
                    replace S := Lib.hid S
                    go_wp2
                    go_ret
                    exact ⟨congrArg (fun s => Ending.returned (.string s)) hY.out.symm, S.out.bel⟩
                  · have g2 : (0 : Int) < (R : Int).sign := Int.sign_pos_iff.2 (by omega)
                    have g3 : decide ((0 : Int) < (R : Int).sign) = true := decide_eq_true g2
                    have hY : Hid (Y = ⟨#[45]⟩ ++ Z) := Lib.hid (by rw [hdd, if_pos ⟨hnq, hR0⟩])
                    have hz9 : ¬ 9223372036854775807 < 1 + Z.size := by have := hlw.out; omega
                    generalize (R : Int).sign = sr at *
                    clear hdd hlw hR0
                    have S : St w _ [(w3.heap.size, #[.bool false, .slice A8 n8 c8], 24), (w.heap.size, #[.bool b, .slice A n c, .slice D m d], 26)] [(A8, n8, c8, limbs R), (D, m, d, ds), (A, n, c, xs)] := S.out
                    replace S := Lib.hid S
                    go_wp2
                    go_ret
                    exact ⟨congrArg (fun s => Ending.returned (.string s)) hY.out.symm, S.out.bel⟩
end Go.Proofs.YthlnhmdpimoojaaGreatDoor

namespace Go.Proofs.YthlnhmdpimoojaaGreatDoor
open Go.RowKit RQ
set_option linter.unusedVariables false

theorem pQ_size {s : ByteArray} (hs : s.size ≤ 300) : Rs (pQ s) 60 := by
  have := p1_size (s := rest s) (by have := rest_size s; omega)
  unfold pQ; split
  · exact this.neg
  · exact this
theorem decimal_both (b : Bool) (A : Option Addr) (n c : Nat) (xs : List Nat) (D : Option Addr) (m d : Nat) (ds : List Nat) (v : Int) (hn : n ≤ 8) (hm : m ≤ 8) :
    ∃ T : ByteArray, (∀ W, Tab W → Rd W A n c xs → Rd W D m d ds → Calls Tryz.prog 11 #[.agg #[.bool b, .slice A n c, .slice D m d], .int .i64 v] W fun e w' => e = .returned (.string T) ∧ Below W.heap.size W w') ∧ (∀ W, Rd W A n c xs → Rd W D m d ds → Calls Tryz.prog 12 #[.agg #[.bool b, .slice A n c, .slice D m d], .int .i64 v] W fun e w' => e = .returned (.string T) ∧ Below W.heap.size W w') := by
  by_cases h : v < 0 ∨ 100 < v
  · exact ⟨⟨#[]⟩, fun W _ _ _ => decimal_no b A n c D m d v W h, fun W _ _ => rdecimal_no b A n c D m d v W h⟩
  · obtain ⟨k, rfl⟩ : ∃ k : Nat, v = (k : Int) := ⟨v.toNat, by omega⟩
    refine ⟨dtxt (rv b xs ds) k, fun W t h1 h2 => decimal_any b A n c xs D m d ds k W h1 h2 (by omega) (by omega) (by omega) t ?_, fun W h1 h2 => rdecimalD_any b A n c xs D m d ds k W h1 h2 (by omega) (by omega) (by omega)⟩
    rcases Nat.eq_zero_or_pos (k + 1 - (txt (drnd (rv b xs ds) k)).data.toList.length) with h0 | h0
    · exact .inl h0
    · exact .inr (repOk h0 (by omega))
set_option maxRecDepth 100000 in
set_option maxHeartbeats 16000000 in
theorem law_writesR (b : Bool) (A : Option Addr) (n c : Nat) (xs : List Nat) (D : Option Addr) (m d : Nat) (ds : List Nat) (s : ByteArray) (v : Int) (w : World) (R1 : Rd w A n c xs) (m1 : n ≤ 9223372036854775807) (R2 : Rd w D m d ds) (m2 : m ≤ 9223372036854775807) (ms : s.size ≤ 9223372036854775807) (hv0 : -9223372036854775808 ≤ v) (hv1 : v ≤ 9223372036854775807) (htab : Tab w) :
    Calls Tryz.prog 3 #[.agg #[.bool b, .slice A n c, .slice D m d], .string s, .int .i64 v] w fun e w' => e = .returned (.bool true) ∧ Below w.heap.size w w' := by
  have hA := Lib.hid (fun W t => awakeR_any W t)
  replace htab := Lib.hid htab
  have hL := fun W => lightR_any b A n c D m d W m1 m2
  have S : St w _ [(w.heap.size, #[.bool b, .slice A n c, .slice D m d], 26)] [(D, m, d, ds), (A, n, c, xs)] := ((((St.new w).read R1).read R2).allocAt (w.heap.size) #[.bool b, .slice A n c, .slice D m d] 26 (noL3 _ _ _ _ _ _ _) (by simp))
  replace S := Lib.hid S
  cases hb : lightB n m
  · rw [hb] at hL
    replace hL := Lib.hid hL
    clear hb m1 m2 R1 R2
    go_enter Tryz.func3, Tryz.ntmps3
    go_wp2_with fail
    refine (hL.out _).mono ?_
    rintro e w1 ⟨rfl, bb⟩
    have T := (S.out.call bb)
    clear bb S
    have S := T
    clear T
    have c_x0 := S.cl 0 0 rfl rfl
    have f_x0 := S.f 0 0 rfl
    have c_x1 := S.cl 0 1 rfl rfl
    have f_x1 := S.f 0 1 rfl
    have c_x2 := S.cl 0 2 rfl rfl
    have f_x2 := S.f 0 2 rfl
    have hz : w.heap.size < w1.heap.size := S.lt 0 rfl
    replace S := Lib.hid S
    go_wp2_with fail
    refine (hA.out _ (tab_below htab.out S.out.bel)).mono ?_
    rintro e w2 ⟨rfl, bb⟩
    have T := (S.out.call bb)
    clear bb S c_x0 f_x0 c_x1 f_x1 c_x2 f_x2 hz
    have S := T
    clear T
    have c_x0 := S.cl 0 0 rfl rfl
    have f_x0 := S.f 0 0 rfl
    have c_x1 := S.cl 0 1 rfl rfl
    have f_x1 := S.f 0 1 rfl
    have c_x2 := S.cl 0 2 rfl rfl
    have f_x2 := S.f 0 2 rfl
    have hz : w.heap.size < w2.heap.size := S.lt 0 rfl
    replace S := Lib.hid S
    have S : St w _ [(w.heap.size, #[.bool b, .slice A n c, .slice D m d], 26)] [(D, m, d, ds), (A, n, c, xs)] := S.out
    replace S := Lib.hid S
    go_wp2
    go_ret
    exact ⟨rfl, S.out.bel⟩
  rw [hb] at hL
  by_cases hs : 100 < s.size
  · have g1 : (100 : Int) < (s.size : Int) := by omega
    have g2 : decide ((100 : Int) < (s.size : Int)) = true := decide_eq_true g1
    replace hL := Lib.hid hL
    clear hb m1 m2 R1 R2 hs ms
    go_enter Tryz.func3, Tryz.ntmps3
    go_wp2_with fail
    refine (hL.out _).mono ?_
    rintro e w1 ⟨rfl, bb⟩
    have T := (S.out.call bb)
    clear bb S
    have S := T
    clear T
    have c_x0 := S.cl 0 0 rfl rfl
    have f_x0 := S.f 0 0 rfl
    have c_x1 := S.cl 0 1 rfl rfl
    have f_x1 := S.f 0 1 rfl
    have c_x2 := S.cl 0 2 rfl rfl
    have f_x2 := S.f 0 2 rfl
    have hz : w.heap.size < w1.heap.size := S.lt 0 rfl
    replace S := Lib.hid S
    go_wp2_with fail
    refine (hA.out _ (tab_below htab.out S.out.bel)).mono ?_
    rintro e w2 ⟨rfl, bb⟩
    have T := (S.out.call bb)
    clear bb S c_x0 f_x0 c_x1 f_x1 c_x2 f_x2 hz
    have S := T
    clear T
    have c_x0 := S.cl 0 0 rfl rfl
    have f_x0 := S.f 0 0 rfl
    have c_x1 := S.cl 0 1 rfl rfl
    have f_x1 := S.f 0 1 rfl
    have c_x2 := S.cl 0 2 rfl rfl
    have f_x2 := S.f 0 2 rfl
    have hz : w.heap.size < w2.heap.size := S.lt 0 rfl
    replace S := Lib.hid S
    have S : St w _ [(w.heap.size, #[.bool b, .slice A n c, .slice D m d], 26)] [(D, m, d, ds), (A, n, c, xs)] := S.out
    replace S := Lib.hid S
    go_wp2
    go_ret
    exact ⟨rfl, S.out.bel⟩
  have g1 : ¬ (100 : Int) < (s.size : Int) := by omega
  have g2 : decide ((100 : Int) < (s.size : Int)) = false := decide_eq_false g1
  have h8 : n ≤ 8 ∧ m ≤ 8 := by unfold lightB at hb; simp only [Bool.and_eq_true, decide_eq_true_eq] at hb; exact hb
  have hs3 : s.size ≤ 300 := by omega
  have hP := fun W => parseR_any s W hs3 ((p1_size (s := rest s) (by have := rest_size s; omega)).mono (by decide))
  have hQ := fun W => rparseR_any s W hs3
  have hqs := pQ_size hs3
  have hFm := Lib.hid (fun W h1 h2 t => formatR_any b A n c xs D m d ds W h1 h2 (by omega) (by omega) t)
  have hFr := Lib.hid (fun W h1 h2 => rformatR_any b A n c xs D m d ds W h1 h2 (by omega) (by omega))
  obtain ⟨T, hD1, hD2⟩ := decimal_both b A n c xs D m d ds v h8.1 h8.2
  unfold RetRE at hP hQ
  generalize pQ s = q at *
  generalize pOk s = ok at *
  generalize qtxt (rv b xs ds) = X at *
  have hSm : Hid (∀ W A n c D m d A' n' c' D' m' d', RR W A n c D m d q → RR W A' n' c' D' m' d' q → Calls Tryz.prog 10 #[.agg #[.bool (ng q.num), .slice A n c, .slice D m d], .agg #[.bool (ng q.num), .slice A' n' c', .slice D' m' d']] W fun e w' => e = .returned (.bool true) ∧ Below W.heap.size W w') := Lib.hid fun W A n c D m d A' n' c' D' m' d' h h' => sameT q q rfl A n c D m d A' n' c' D' m' d' W h h' (hqs.mono (by decide)) (hqs.mono (by decide))
  replace hL := Lib.hid hL
  replace hP := Lib.hid hP
  replace hQ := Lib.hid hQ
  replace hD1 := Lib.hid hD1
  replace hD2 := Lib.hid hD2
  clear hb m1 m2 R1 R2 hs ms h8 hs3 hqs
  go_enter Tryz.func3, Tryz.ntmps3
  go_wp2_with fail
  refine (hL.out _).mono ?_
  rintro e w1 ⟨rfl, bb⟩
  have T := (S.out.call bb)
  clear bb S
  have S := T
  clear T
  have c_x0 := S.cl 0 0 rfl rfl
  have f_x0 := S.f 0 0 rfl
  have c_x1 := S.cl 0 1 rfl rfl
  have f_x1 := S.f 0 1 rfl
  have c_x2 := S.cl 0 2 rfl rfl
  have f_x2 := S.f 0 2 rfl
  have hz : w.heap.size < w1.heap.size := S.lt 0 rfl
  replace S := Lib.hid S
  clear hL
  go_wp2_with fail
  refine (hP.out _).mono ?_
  rintro e w2 ⟨A1, n1, c1, D1, m1, d1, rfl, Q, bb⟩
  have T := (((S.out.call bb).read Q.n).read Q.d)
  clear bb S c_x0 f_x0 c_x1 f_x1 c_x2 f_x2 hz
  have S := T
  clear T
  have c_x0 := S.cl 0 0 rfl rfl
  have f_x0 := S.f 0 0 rfl
  have c_x1 := S.cl 0 1 rfl rfl
  have f_x1 := S.f 0 1 rfl
  have c_x2 := S.cl 0 2 rfl rfl
  have f_x2 := S.f 0 2 rfl
  have hz : w.heap.size < w2.heap.size := S.lt 0 rfl
  replace S := Lib.hid S
  clear Q hP
  have S : St w _ [(w2.heap.size, #[.bool (ng q.num), .slice A1 n1 c1, .slice D1 m1 d1], 26), (w.heap.size, #[.bool b, .slice A n c, .slice D m d], 26)] [(D1, m1, d1, dn q), (A1, n1, c1, limbs q.num.natAbs), (D, m, d, ds), (A, n, c, xs)] := (S.out.allocAt (w2.heap.size) #[.bool (ng q.num), .slice A1 n1 c1, .slice D1 m1 d1] 26 (noL3 _ _ _ _ _ _ _) (by simp))
  have a_x0 := S.cl 1 0 rfl rfl
  have b_x0 := S.f 1 0 rfl
  have a_x1 := S.cl 1 1 rfl rfl
  have b_x1 := S.f 1 1 rfl
  have a_x2 := S.cl 1 2 rfl rfl
  have b_x2 := S.f 1 2 rfl
  replace S := Lib.hid S
  go_wp2_with fail
  refine (hQ.out _).mono ?_
  rintro e w3 ⟨A2, n2, c2, D2, m2, d2, rfl, Q, bb⟩
  have T := (((S.out.call bb).read Q.n).read Q.d)
  clear bb S c_x0 f_x0 c_x1 f_x1 c_x2 f_x2 hz a_x0 b_x0 a_x1 b_x1 a_x2 b_x2
  have S := T
  clear T
  have c_a0 := S.cl 0 0 rfl rfl
  have f_a0 := S.f 0 0 rfl
  have c_a1 := S.cl 0 1 rfl rfl
  have f_a1 := S.f 0 1 rfl
  have c_a2 := S.cl 0 2 rfl rfl
  have f_a2 := S.f 0 2 rfl
  have c_x0 := S.cl 1 0 rfl rfl
  have f_x0 := S.f 1 0 rfl
  have c_x1 := S.cl 1 1 rfl rfl
  have f_x1 := S.f 1 1 rfl
  have c_x2 := S.cl 1 2 rfl rfl
  have f_x2 := S.f 1 2 rfl
  have hz : w2.heap.size < w3.heap.size := S.lt 0 rfl
  replace S := Lib.hid S
  clear Q hQ
  go_upto_region 5 with fail
  clear c_a0 f_a0 c_a1 f_a1 c_a2 f_a2 c_x0 f_x0 c_x1 f_x1 c_x2 f_x2 hz
  have S : St w _ [(w3.heap.size, #[.bool (ng q.num), .slice A2 n2 c2, .slice D2 m2 d2], 26), (w2.heap.size, #[.bool (ng q.num), .slice A1 n1 c1, .slice D1 m1 d1], 26), (w.heap.size, #[.bool b, .slice A n c, .slice D m d], 26)] [(D2, m2, d2, dn q), (A2, n2, c2, limbs q.num.natAbs), (D1, m1, d1, dn q), (A1, n1, c1, limbs q.num.natAbs), (D, m, d, ds), (A, n, c, xs)] := (S.out.allocAt (w3.heap.size) #[.bool (ng q.num), .slice A2 n2 c2, .slice D2 m2 d2] 26 (noL3 _ _ _ _ _ _ _) (by simp))
  generalize hW4 : (World.alloc w3 (.cells #[.bool (ng q.num), .slice A2 n2 c2, .slice D2 m2 d2] 26)) = w4 at S ⊢
  clear hW4
  replace S := Lib.hid S
  refine RW.begin (Z := []) (S := (fun W => Cb W (w.heap.size) #[.bool b, .slice A n c, .slice D m d] 26 ∧ Cb W (w2.heap.size) #[.bool (ng q.num), .slice A1 n1 c1, .slice D1 m1 d1] 26 ∧ Cb W (w3.heap.size) #[.bool (ng q.num), .slice A2 n2 c2, .slice D2 m2 d2] 26)) (by kernel_rfl) ?_ S.out ?_
  · exact ⟨by kernel_rfl, zis_nil, by decide, by decide, nol_nil, (fun _ _ h => ⟨h.kb 2 rfl, h.kb 1 rfl, h.kb 0 rfl⟩)⟩
  intro hzk
  clear S
  refine RW.c (i := 0) (args := #[]) (some 30) hzk.out at0 (hx := fun _ => by kernel_rfl) (h := fun _ S => (hA.out _ (tab_below htab.out S.bel)).mono ?_)
  rintro e w5 ⟨rfl, bb⟩
  refine ⟨bb, _, [], rfl, rd_nil, ?_⟩
  clear bb S
  refine RW.t (i := 1) (v := .bool true) (some 31) at1 (hy := fun _ _ => by kernel_rfl) (h := ?_)
  refine RW.t (i := 2) (v := .agg #[.bool b, .slice A n c, .slice D m d]) (some 32) at2 (hy := fun W hS => by (have k0 := Cb.cell (i := 0) hS.1 rfl; have k1 := Cb.cell (i := 1) hS.1 rfl; have k2 := Cb.cell (i := 2) hS.1 rfl; clear hS; go_simp)) (h := ?_)
  refine RW.t (i := 4) (v := .agg #[.bool b, .slice A n c, .slice D m d]) (some 34) at4 (hy := fun W hS => by (have k0 := Cb.cell (i := 0) hS.1 rfl; have k1 := Cb.cell (i := 1) hS.1 rfl; have k2 := Cb.cell (i := 2) hS.1 rfl; clear hS; go_simp)) (h := ?_)
  refine RW.c (i := 3) (args := #[.agg #[.bool b, .slice A n c, .slice D m d]]) (some 33) hzk.out at3 (hx := fun _ => by kernel_rfl) (h := fun _ S => (hFm.out _ (S.r 5 rfl) (S.r 4 rfl) (tab_below htab.out S.bel)).mono ?_)
  rintro e w6 ⟨rfl, bb⟩
  refine ⟨bb, _, [], rfl, rd_nil, ?_⟩
  clear bb S
  refine RW.c (i := 5) (args := #[.agg #[.bool b, .slice A n c, .slice D m d]]) (some 35) hzk.out at5 (hx := fun _ => by kernel_rfl) (h := fun _ S => (hFr.out _ (S.r 5 rfl) (S.r 4 rfl)).mono ?_)
  rintro e w7 ⟨rfl, bb⟩
  refine ⟨bb, _, [], rfl, rd_nil, ?_⟩
  clear bb S
  refine RW.t (i := 6) (v := .bool true) (some 36) at6 (hy := fun _ _ => by go_simp) (h := ?_)
  refine RW.t (i := 7) (v := .bool true) (some 37) at7 (hy := fun _ _ => by kernel_rfl) (h := ?_)
  refine RW.t (i := 8) (v := .bool true) (some 38) at8 (hy := fun _ _ => by kernel_rfl) (h := ?_)
  refine RW.t (i := 9) (v := .agg #[.bool (ng q.num), .slice A1 n1 c1, .slice D1 m1 d1]) (some 39) at9 (hy := fun W hS => by (have k0 := Cb.cell (i := 0) hS.2.1 rfl; have k1 := Cb.cell (i := 1) hS.2.1 rfl; have k2 := Cb.cell (i := 2) hS.2.1 rfl; clear hS; go_simp)) (h := ?_)
  refine RW.t (i := 10) (v := .agg #[.bool (ng q.num), .slice A2 n2 c2, .slice D2 m2 d2]) (some 40) at10 (hy := fun W hS => by (have k0 := Cb.cell (i := 0) hS.2.2 rfl; have k1 := Cb.cell (i := 1) hS.2.2 rfl; have k2 := Cb.cell (i := 2) hS.2.2 rfl; clear hS; go_simp)) (h := ?_)
  refine RW.c (i := 11) (args := #[.agg #[.bool (ng q.num), .slice A1 n1 c1, .slice D1 m1 d1], .agg #[.bool (ng q.num), .slice A2 n2 c2, .slice D2 m2 d2]]) (some 41) hzk.out at11 (hx := fun _ => by kernel_rfl) (h := fun _ S => (hSm.out _ _ _ _ _ _ _ _ _ _ _ _ _ ⟨S.r 3 rfl, S.r 2 rfl⟩ ⟨S.r 1 rfl, S.r 0 rfl⟩).mono ?_)
  rintro e w8 ⟨rfl, bb⟩
  refine ⟨bb, _, [], rfl, rd_nil, ?_⟩
  clear bb S
  refine RW.t (i := 12) (v := .bool true) (some 42) at12 (hy := fun _ _ => by kernel_rfl) (h := ?_)
  refine RW.t (i := 13) (v := .bool true) (some 43) at13 (hy := fun _ _ => by kernel_rfl) (h := ?_)
  refine RW.t (i := 14) (v := .bool ok) (some 44) at14 (hy := fun _ _ => by kernel_rfl) (h := ?_)
  refine RW.t (i := 15) (v := .bool ok) (some 45) at15 (hy := fun _ _ => by kernel_rfl) (h := ?_)
  refine RW.t (i := 16) (v := .bool true) (some 46) at16 (hy := fun _ _ => by go_simp) (h := ?_)
  refine RW.t (i := 17) (v := .bool true) (some 47) at17 (hy := fun _ _ => by kernel_rfl) (h := ?_)
  refine RW.t (i := 18) (v := .bool true) (some 48) at18 (hy := fun _ _ => by kernel_rfl) (h := ?_)
  refine RW.t (i := 19) (v := .agg #[.bool b, .slice A n c, .slice D m d]) (some 49) at19 (hy := fun W hS => by (have k0 := Cb.cell (i := 0) hS.1 rfl; have k1 := Cb.cell (i := 1) hS.1 rfl; have k2 := Cb.cell (i := 2) hS.1 rfl; clear hS; go_simp)) (h := ?_)
  refine RW.t (i := 20) (v := .int .i64 v) (some 50) at20 (hy := fun _ _ => by kernel_rfl) (h := ?_)
  refine RW.t (i := 22) (v := .agg #[.bool b, .slice A n c, .slice D m d]) (some 52) at22 (hy := fun W hS => by (have k0 := Cb.cell (i := 0) hS.1 rfl; have k1 := Cb.cell (i := 1) hS.1 rfl; have k2 := Cb.cell (i := 2) hS.1 rfl; clear hS; go_simp)) (h := ?_)
  refine RW.t (i := 23) (v := .int .i64 v) (some 53) at23 (hy := fun _ _ => by kernel_rfl) (h := ?_)
  refine RW.c (i := 21) (args := #[.agg #[.bool b, .slice A n c, .slice D m d], .int .i64 v]) (some 51) hzk.out at21 (hx := fun _ => by kernel_rfl) (h := fun _ S => (hD1.out _ (tab_below htab.out S.bel) (S.r 5 rfl) (S.r 4 rfl)).mono ?_)
  rintro e w9 ⟨rfl, bb⟩
  refine ⟨bb, _, [], rfl, rd_nil, ?_⟩
  clear bb S
  refine RW.c (i := 24) (args := #[.agg #[.bool b, .slice A n c, .slice D m d], .int .i64 v]) (some 54) hzk.out at24 (hx := fun _ => by kernel_rfl) (h := fun _ S => (hD2.out _ (S.r 5 rfl) (S.r 4 rfl)).mono ?_)
  rintro e w10 ⟨rfl, bb⟩
  refine ⟨bb, _, [], rfl, rd_nil, ?_⟩
  clear bb S
  refine RW.t (i := 25) (v := .bool true) (some 55) at25 (hy := fun _ _ => by go_simp) (h := ?_)
  refine RW.t (i := 26) (v := .bool true) (some 56) at26 (hy := fun _ _ => by kernel_rfl) (h := ?_)
  refine RW.tail hzk.out (by kernel_rfl) ?_
  intro gs w11 hgs hS S
  obtain rfl := len0 hgs
  clear hS hgs hzk
  simp only [mark, fill, Act.put, List.setIfInBounds_toArray, List.set_cons_zero, List.set_cons_succ]
  replace S := Lib.hid S
  refine Wk.o (i := 27) at27 (by kernel_rfl) fun K' hK => ?_
  go_simp
  have SN := S.out
  clear S
  have S := SN
  clear SN
  refine hK.out _ _ ⟨(S.cb 2 rfl), (S.cb 1 rfl), (S.cb 0 rfl)⟩ ?_
  clear hK K'
  replace S := Lib.hid S
  try simp only [Act.put, List.setIfInBounds_toArray, List.set_cons_zero, List.set_cons_succ]
  refine Wk.done (by kernel_rfl) ?_
  go_simp
  replace S := S.out
  have S : St w _ [(w3.heap.size, #[.bool (ng q.num), .slice A2 n2 c2, .slice D2 m2 d2], 26), (w2.heap.size, #[.bool (ng q.num), .slice A1 n1 c1, .slice D1 m1 d1], 26), (w.heap.size, #[.bool b, .slice A n c, .slice D m d], 26)] [(D2, m2, d2, dn q), (A2, n2, c2, limbs q.num.natAbs), (D1, m1, d1, dn q), (A1, n1, c1, limbs q.num.natAbs), (D, m, d, ds), (A, n, c, xs)] := S
  replace S := Lib.hid S
  replace S := S.out
  replace S := Lib.hid S
  have S : St w _ [(w3.heap.size, #[.bool (ng q.num), .slice A2 n2 c2, .slice D2 m2 d2], 26), (w2.heap.size, #[.bool (ng q.num), .slice A1 n1 c1, .slice D1 m1 d1], 26), (w.heap.size, #[.bool b, .slice A n c, .slice D m d], 26)] [(D2, m2, d2, dn q), (A2, n2, c2, limbs q.num.natAbs), (D1, m1, d1, dn q), (A1, n1, c1, limbs q.num.natAbs), (D, m, d, ds), (A, n, c, xs)] := S.out
  replace S := Lib.hid S
  go_wp2
  go_ret
  exact ⟨rfl, S.out.bel⟩
end Go.Proofs.YthlnhmdpimoojaaGreatDoor
