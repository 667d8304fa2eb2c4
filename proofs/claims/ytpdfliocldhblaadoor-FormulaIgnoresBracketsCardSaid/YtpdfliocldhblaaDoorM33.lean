/- The law FormulaIgnoresBrackets. -/
import Derived.Test.YtpdfliocldhblaaDoorM32
namespace Go.Proofs.YtpdfliocldhblaaDoor
open Go.RowKit
set_option linter.unusedVariables false

theorem byte_in {n : Int} (h : (Lit.int .u8 n).wf = true) : ∃ c : UInt8, n = (c.toNat : Int) := by
  obtain ⟨h1, h2⟩ := bounds_u8 h
  refine ⟨UInt8.ofNat n.toNat, ?_⟩
  rw [UInt8.toNat_ofNat']
  omega
theorem ext_end (a b : ByteArray) : (a ++ b).extract a.size (a ++ b).size = b := by
  apply ByteArray.ext
  apply Array.ext'
  have e1 : (a ++ b).size = (a ++ b).data.size := rfl
  have e2 : a.size = a.data.toList.length := by rw [Array.length_toList]; rfl
  rw [ByteArray.data_extract, Array.toList_extract, e1, ByteArray.data_append, List.extract_eq_take_drop, Array.toList_append, e2, List.drop_left]
  apply List.take_of_length_le
  simp
/-- What is written of a light valid formula, with brackets around. -/
theorem brk_par {s r : ByteArray} {L : List Nd} {er : Int} (hl : litB s L = true) (hf : frmB s L = true) (h : FmtV s L r er) : er = 0 ∧ ∃ F : Nat → ByteArray, r.extract (s.size + 3) r.size = F 0 ∧ s.size + 3 ≤ r.size ∧ r.size ≤ 60000 ∧ (∀ i, (⟨#[40, 32]⟩ ++ F i) ++ ⟨#[32, 41, 32, 32]⟩ = F (i + 1)) ∧ (∀ i, i ≤ 20 → (F i).size ≤ 7000) ∧ ∀ i, i ≤ 20 → parV (((⟨#[32, 32]⟩ ++ s) ++ ⟨#[32, 32, 126]⟩) ++ F i).data.toList = (0, 0, s, L) := by
  obtain ⟨he, hrs, _⟩ := wr_par hl hf h
  rcases h with ⟨h1, _⟩ | ⟨_, tr, hw, hL, hr, _⟩
  · rw [hf] at h1; cases h1
  · unfold litB at hl
    simp only [Bool.and_eq_true, decide_eq_true_eq, List.all_eq_true] at hl
    obtain ⟨⟨l1, l2⟩, l3⟩ := hl
    have hlen := frm_len hf
    have hpl : tr.pre.length = L.length := by rw [hL, List.length_map]
    have hok : okF tr.pre := by have := okF_pre tr hw [] trivial; rwa [List.append_nil] at this
    have htot := totP_b 60 tr.pre hok (fun x hx => by
      have := l3 (toNd x) (by rw [hL]; exact List.mem_map_of_mem hx)
      have e : (toNd x).s.size = x.nm.length := bsA_size x.nm
      omega)
    rw [F9.ph_pre tr hw] at htot
    have hwl : tr.wr.length ≤ 6000 := by
      have e : totP ([] ++ [(tr.wr, tr.rank)]) = tr.wr.length := by simp [totP]
      rw [e] at htot
      have := Nat.mul_le_mul_right (60 + 20) (show tr.pre.length ≤ 64 by omega)
      omega
    have hsl : s.data.toList.length ≤ 60 := by rw [Array.length_toList]; exact l1
    have hs3 : (s ++ ⟨#[32, 126, 32]⟩ : ByteArray).size = s.size + 3 := by rw [ByteArray.size_append]; rfl
    have hx := ext_end (s ++ ⟨#[32, 126, 32]⟩) (bsA tr.wr)
    rw [hs3, ← hr] at hx
    refine ⟨he, fun i => bsA (brk tr.wr i), hx, ?_, hrs, fun i => ?_, fun i hi => ?_, fun i hi => ?_⟩
    · rw [hr, ByteArray.size_append, hs3]; omega
    · rw [bsA_lit [40, 32], bsA_lit [32, 41, 32, 32], bsA_app, bsA_app]; rfl
    · show (bsA (brk tr.wr i)).size ≤ 7000
      rw [bsA_size, brk_len]; omega
    · have hd : (((⟨#[32, 32]⟩ ++ s) ++ ⟨#[32, 32, 126]⟩) ++ bsA (brk tr.wr i) : ByteArray).data.toList = [32, 32] ++ s.data.toList ++ [32, 32, 126] ++ brk tr.wr i := by
        simp [bsA, ByteArray.data_append]
      show parV (((⟨#[32, 32]⟩ ++ s) ++ ⟨#[32, 32, 126]⟩) ++ bsA (brk tr.wr i)).data.toList = _
      rw [hd, parV_brk hlen.2 hw (by rw [List.length_append, List.length_append, List.length_append, brk_len]; show 2 + s.data.toList.length + 3 + _ ≤ _; omega) (by omega), ← hL, bs_of]

set_option maxRecDepth 100000 in
set_option maxHeartbeats 4000000 in
theorem law_brackets (s : ByteArray) (A : Option Addr) (c : Nat) (L : List Nd) (u : UInt8) (w : World) (h : LR ndC w A L.length L) (hc : L.length ≤ c) (hO : Og w) : Calls Tryd.prog 7 #[.agg #[.string s, .slice A L.length c], .int .u8 u.toNat] w fun e w' => e = .returned (.bool true) ∧ Below w.heap.size w w' := by
  have hb := Lib.hid hO
  have hz0 := hO.1
  have S0 := Lib.hid ((St.new w).allocAt w.heap.size #[.string s, .slice A L.length c] 25 (noLof rfl) rfl)
  have hLi : Hid (∀ W, Below w.heap.size w W → Calls Tryd.prog 20 #[.agg #[.string s, .slice A L.length c]] W fun e w' => e = .returned (.bool (litB s L)) ∧ Below W.heap.size W w') := Lib.hid fun W hB => light_any s L A L.length c W (h.bel hB) hc
  have hLR := Lib.hid h
  clear hO h
  cases hl : litB s L with
  | false =>
    rw [hl] at hLi
    clear hl hc
    go_enter Tryd.func7, Tryd.ntmps7
    go_wp2_with fail
    refine (hLi.out _ S0.out.bel).mono ?_
    rintro e w1 ⟨rfl, hB⟩
    have S1 := Lib.hid (S0.out.call hB)
    clear hLi S0 hB
    go_wp2_with fail
    refine (awake_any _ (hb.out.bel S1.out.bel)).mono ?_
    rintro e w2 ⟨rfl, hB⟩
    have S2 := Lib.hid (S1.out.call hB)
    clear S1 hB
    go_wp2
    go_ret
    exact ⟨rfl, S2.out.bel⟩
  | true =>
    have hlh := Lib.hid hl
    have hl2 := hl
    unfold litB at hl2
    simp only [Bool.and_eq_true, decide_eq_true_eq, List.all_eq_true] at hl2
    obtain ⟨⟨l1, l2⟩, l3⟩ := hl2
    have hV : Hid (∀ W, Below w.heap.size w W → Calls Tryd.prog 24 #[.agg #[.string s, .slice A L.length c]] W fun e w' => e = .returned (.bool (frmB s L)) ∧ Below W.heap.size W w') := Lib.hid fun W hB => rvalid_any s L A L.length c W (hLR.out.bel hB) (by omega)
    have hFo : Hid (∀ W, Below w.heap.size w W → Calls Tryd.prog 21 #[.agg #[.string s, .slice A L.length c]] W fun e w' => (∃ r er, e = .returned (.tuple #[.string r, .int .i64 er]) ∧ FmtV s L r er) ∧ Below W.heap.size W w') := Lib.hid fun W hB => format_any s L A c W (hLR.out.bel hB) hc (by omega) (fun x hx => Nat.le_trans (l3 x hx) (by decide)) (by omega) (hb.out.bel hB)
    have hl80 := Lib.hid l2
    have hs60h := Lib.hid l1
    rw [hl] at hLi
    clear hl l1 l2 l3 hc
    cases hf : frmB s L with
    | false =>
      rw [hf] at hV
      clear hf
      go_enter Tryd.func7, Tryd.ntmps7
      go_wp2_with fail
      refine (hLi.out _ S0.out.bel).mono ?_
      rintro e w1 ⟨rfl, hB⟩
      have S1 := S0.out.call hB
      have c_0 := S1.cl 0 0 rfl rfl
      have c_1 := S1.cl 0 1 rfl rfl
      replace S1 := Lib.hid S1
      clear hLi S0 hB
      go_wp2_with fail
      refine (hV.out _ S1.out.bel).mono ?_
      rintro e w2 ⟨rfl, hB⟩
      have S2 := Lib.hid (S1.out.call hB)
      clear hV S1 hB c_0 c_1
      go_wp2_with fail
      refine (awake_any _ (hb.out.bel S2.out.bel)).mono ?_
      rintro e w3 ⟨rfl, hB⟩
      have S3 := Lib.hid (S2.out.call hB)
      clear S2 hB
      go_wp2
      go_ret
      exact ⟨rfl, S3.out.bel⟩
    | true =>
      have hfh := Lib.hid hf
      rw [hf] at hV
      clear hf
      go_enter Tryd.func7, Tryd.ntmps7
      go_wp2_with fail
      refine (hLi.out _ S0.out.bel).mono ?_
      rintro e w1 ⟨rfl, hB⟩
      have S1 := S0.out.call hB
      have c_0 := S1.cl 0 0 rfl rfl
      have c_1 := S1.cl 0 1 rfl rfl
      replace S1 := Lib.hid S1
      clear hLi S0 hB
      go_wp2_with fail
      refine (hV.out _ S1.out.bel).mono ?_
      rintro e w2 ⟨rfl, hB⟩
      have S2 := S1.out.call hB
      clear c_0 c_1
      have c_0 := S2.cl 0 0 rfl rfl
      have c_1 := S2.cl 0 1 rfl rfl
      replace S2 := Lib.hid S2
      clear hV S1 hB
      go_wp2_with fail
      refine (hFo.out _ S2.out.bel).mono ?_
      rintro e w3 ⟨⟨r, er, rfl, hF⟩, hB⟩
      obtain ⟨rfl, F, x0, x1, x2, x3, x4, x5⟩ := brk_par hlh.out hfh.out hF
      have S3 := S2.out.call hB
      clear c_0 c_1
      have c_0 := S3.cl 0 0 rfl rfl
      have c_1 := S3.cl 0 1 rfl rfl
      have z_0 := S3.lt 0 rfl
      replace S3 := Lib.hid S3
      obtain ⟨q, hq⟩ : ∃ q, q = s.size + 3 := ⟨_, rfl⟩
      rw [← hq] at x0 x1
      have g1 : (s.size : Int) + 3 = (q : Int) := by omega
      have g2 : ¬ (r.size : Int) < (q : Int) := by omega
      have g3 : (q : Int) ≤ (r.size : Int) := by omega
      have g4 : (0 : Int) ≤ (q : Int) := by omega
      obtain ⟨m, hm⟩ : ∃ m, m = u.toNat % 20 := ⟨_, rfl⟩
      have hm20 : m < 20 := by rw [hm]; exact Nat.mod_lt _ (by decide)
      have hu : u.toNat < 256 := u.toNat_lt
      have g5 : Int.tmod (u.toNat : Int) 20 = (m : Int) := by rw [hm]; rfl
      have hs60 : s.size ≤ 60 := hs60h.out
      replace x4 := Lib.hid x4
      replace x5 := Lib.hid x5
      replace x3 := Lib.hid x3
      have hq5 := Lib.hid hq
      replace hm := Lib.hid hm
      clear hFo S2 hB hF hq x1
      go_wp2
      try rw [x0]
      go_loopw [7, 8] (fun sv iv wr => ∃ i : Nat, i ≤ m ∧ iv = .int .i64 i ∧ sv = .string (F i) ∧ St w wr [(w.heap.size, #[.string s, .slice A L.length c], 25)] []) (fun _ iv _ => m - (intOf iv).toNat)
      case atStart => exact ⟨0, Nat.zero_le _, rfl, rfl, S3.out⟩
      case round =>
        clear c_0 c_1 z_0
        obtain ⟨i, him, rfl, rfl, S⟩ := hrel
        have c_0 := S.cl 0 0 rfl rfl
        have c_1 := S.cl 0 1 rfl rfl
        have z_0 := S.lt 0 rfl
        by_cases hlt : i < m
        · have gl : (i : Int) < (m : Int) := by omega
          have hz := x4.out i (by omega)
          have hx3 := x3.out i
          replace S := Lib.hid S
          have hli := Lib.hid hlt
          clear hlt
          go_wp2
          go_roundw
          case rel => exact ⟨i + 1, by have := hli.out; omega, by go_num, (by first | rfl | rw [hx3]), S.out⟩
          case measure => have := hli.out; (first | (simp [intOf]; done) | (simp [intOf]; omega))
        · obtain rfl : i = m := by omega
          have hz := x4.out i (by omega)
          have hpar := Lib.hid (x5.out i (by omega))
          have S3 := Lib.hid S
          have gl : ¬ (i : Int) < (i : Int) := by omega
          clear S hlt
          go_wp2_with fail
          refine (parse_any _ _ (by simp only [ByteArray.size_append]; show 2 + s.size + 3 + (F i).size ≤ 1000000; omega) (hb.out.bel S3.out.bel)).mono ?_
          rintro e w4 ⟨s2, l, q, er2, rfl, p1, p2, p3, hB⟩
          rw [hpar.out] at p1
          simp only [Prod.mk.injEq] at p1
          obtain ⟨rfl, p1b, rfl, rfl⟩ := p1
          have hq : q = 0 := by omega
          subst hq
          have hv : (l.v : Value) = .slice l.A l.L.length l.c := rfl
          rw [hv]
          have S4 := Lib.hid ((S3.out.call hB).alloc #[.string s, .slice l.A l.L.length l.c] 25 (noLof rfl))
          have hL4 := Lib.hid (p3.bel ((Below.refl _ _).alloc (Nat.le_refl _) (.cells #[.string s, .slice l.A l.L.length l.c] 25)))
          clear S3 hB p3 hv hpar p2 p1b c_0 c_1 z_0
          go_wp2_with fail
          refine (awake_any _ (hb.out.bel S4.out.bel)).mono ?_
          rintro e w5 ⟨rfl, hB⟩
          have S5 := S4.out.call hB
          have hL5 := Lib.hid (hL4.out.bel hB)
          have c_0 := S5.cl 1 0 rfl rfl
          have c_1 := S5.cl 1 1 rfl rfl
          have d_0 := S5.cl 0 0 rfl rfl
          have d_1 := S5.cl 0 1 rfl rfl
          have z_0 := S5.lt 0 rfl
          have z_1 := S5.lt 1 rfl
          replace S5 := Lib.hid S5
          clear S4 hL4 hB
          go_wp2_with fail
          refine (same_yes s l.L A l.A l.L.length c l.c _ (hLR.out.bel S5.out.bel) hL5.out (by have := hl80.out; omega)).mono ?_
          rintro e w6 ⟨rfl, hB⟩
          have hB6 := Lib.hid (S5.out.bel.trans (hB.mono S5.out.bel.size))
          clear S5 hL5 hB c_0 c_1 d_0 d_1 z_0 z_1
          go_wp2
          go_ret
          exact ⟨rfl, hB6.out⟩
end Go.Proofs.YtpdfliocldhblaaDoor
