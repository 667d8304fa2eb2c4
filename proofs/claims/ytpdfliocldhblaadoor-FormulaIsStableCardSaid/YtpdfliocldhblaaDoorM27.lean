/- The law FormulaIsStable. -/
import Derived.Test.YtpdfliocldhblaaDoorM26
import Derived.Test.YtpdfliocldhblaaDoorM25
namespace Go.Proofs.YtpdfliocldhblaaDoor
open Go.RowKit
set_option linter.unusedVariables false

theorem par_err {l : F9.Bs} {er : Int} {q : Nat} {s : ByteArray} {L : List Nd} (h : parV l = (er, q, s, L)) (he : ¬ er = 0) : L = [] := by
  unfold parV at h
  split at h
  · simp only [Prod.mk.injEq] at h; exact h.2.2.2.symm
  · split at h
    · simp only [Prod.mk.injEq] at h; exact h.2.2.2.symm
    · split at h
      · simp only [Prod.mk.injEq] at h; exact h.2.2.2.symm
      · simp only [Prod.mk.injEq] at h
        exact absurd h.1.symm he
theorem wr_par2 {s r : ByteArray} {L : List Nd} {er : Int} (l1 : s.size ≤ 600) (l3 : ∀ x ∈ L, x.s.size ≤ 600) (hf : frmB s L = true) (h : FmtV s L r er) : er = 0 ∧ r.size ≤ 60000 ∧ parV r.data.toList = (0, 0, s, L) := by
  rcases h with ⟨h1, _⟩ | ⟨_, tr, hw, hL, hr, he⟩
  · rw [hf] at h1; cases h1
  · have hlen := frm_len hf
    have hpl : tr.pre.length = L.length := by rw [hL, List.length_map]
    have hok : okF tr.pre := by have := okF_pre tr hw [] trivial; rwa [List.append_nil] at this
    have htot := totP_b 600 tr.pre hok (fun x hx => by
      have := l3 (toNd x) (by rw [hL]; exact List.mem_map_of_mem hx)
      have e : (toNd x).s.size = x.nm.length := bsA_size x.nm
      omega)
    rw [F9.ph_pre tr hw] at htot
    have hwl : tr.wr.length ≤ 40000 := by
      have e : totP ([] ++ [(tr.wr, tr.rank)]) = tr.wr.length := by simp [totP]
      rw [e] at htot
      have := Nat.mul_le_mul_right (600 + 20) (show tr.pre.length ≤ 64 by omega)
      omega
    have hsl : s.data.toList.length ≤ 600 := by rw [Array.length_toList]; exact l1
    have hrd : r.data.toList = s.data.toList ++ [32, 126, 32] ++ tr.wr := by
      rw [hr]
      simp [bsA, ByteArray.data_append]
    have hrl : (s.data.toList ++ [32, 126, 32] ++ tr.wr).length ≤ 40603 := by
      rw [List.length_append, List.length_append]
      show s.data.toList.length + 3 + tr.wr.length ≤ 40603
      omega
    refine ⟨he, ?_, ?_⟩
    · have e : r.size = r.data.toList.length := by rw [Array.length_toList]; rfl
      rw [e, hrd]
      omega
    · rw [hrd, parV_wr hlen.2 hw (by omega) (by omega), ← hL, bs_of]

set_option maxRecDepth 100000 in
set_option maxHeartbeats 4000000 in
theorem law_stable (t : ByteArray) (w : World) (ht : t.size ≤ 9223372036854775807) (hO : Og w) : Calls Tryd.prog 6 #[.string t] w fun e w' => e = .returned (.bool true) ∧ Below w.heap.size w w' := by
  have hb := Lib.hid hO
  have hz0 := hO.1
  have S0 := Lib.hid (St.new w)
  clear hO
  by_cases h1 : t.size ≤ 600
  · have g1 : ¬ 600 < (t.size : Int) := by omega
    have hbig := Lib.hid h1
    clear h1
    go_enter Tryd.func6, Tryd.ntmps6
    go_wp2_with fail
    refine (parse_any t w (by have := hbig.out; omega) hb.out).mono ?_
    rintro e w1 ⟨s, l, q, er, rfl, p1, p2, p3, hB⟩
    have hv : (l.v : Value) = .slice l.A l.L.length l.c := rfl
    rw [hv]
    have S1 := Lib.hid ((S0.out.call hB).alloc #[.string s, .slice l.A l.L.length l.c] 25 (noLof rfl))
    have hL1 := Lib.hid (p3.bel ((Below.refl _ _).alloc (Nat.le_refl _) (.cells #[.string s, .slice l.A l.L.length l.c] 25)))
    have hw1 := Lib.hid hB.size
    clear S0 hB p3 hv
    have htl : t.data.toList.length ≤ 600 := by rw [Array.length_toList]; exact hbig.out
    by_cases he : er = 0
    · subst he
      obtain ⟨o1, o2, o3⟩ := par_ok p1
      have k1 : s.size ≤ 600 := by omega
      have k3 : ∀ x ∈ l.L, x.s.size ≤ 600 := fun x hx => Nat.le_trans (o3 x hx) htl
      have hlen := (frm_len o1).1
      have hFo : Hid (∀ W, Below w.heap.size w W → LR ndC W l.A l.L.length l.L → Calls Tryd.prog 21 #[.agg #[.string s, .slice l.A l.L.length l.c]] W fun e w' => (∃ r er, e = .returned (.tuple #[.string r, .int .i64 er]) ∧ FmtV s l.L r er) ∧ Below W.heap.size W w') := Lib.hid fun W hB hL => format_any s l.L l.A l.c W hL p2 (by omega) (fun x hx => Nat.le_trans (k3 x hx) (by decide)) (by omega) (hb.out.bel hB)
      have hVa : Hid (∀ W, Below w.heap.size w W → LR ndC W l.A l.L.length l.L → Calls Tryd.prog 23 #[.agg #[.string s, .slice l.A l.L.length l.c]] W fun e w' => e = .returned (.bool true) ∧ Below W.heap.size W w') := Lib.hid fun W hB hL => by
        have := valid_any s l.L l.A l.L.length l.c W hL (by omega) (hb.out.bel hB)
        rwa [o1] at this
      have hwp : Hid (∀ r er, FmtV s l.L r er → er = 0 ∧ r.size ≤ 60000 ∧ parV r.data.toList = (0, 0, s, l.L)) := Lib.hid fun r er hF => wr_par2 k1 k3 o1 hF
      replace hlen := Lib.hid hlen
      clear p1 p2 o1 o2 o3 k1 k3 htl
      go_wp2_with fail
      refine (hFo.out _ S1.out.bel hL1.out).mono ?_
      rintro e w2 ⟨⟨r, er, rfl, hF⟩, hB⟩
      obtain ⟨rfl, hrs, hpar⟩ := hwp.out _ _ hF
      have S2 := Lib.hid (S1.out.call hB)
      have hL2 := Lib.hid (hL1.out.bel hB)
      replace hpar := Lib.hid hpar
      clear S1 hL1 hB hFo hF hwp
      go_wp2_with fail
      refine (parse_any r _ (by omega) (hb.out.bel S2.out.bel)).mono ?_
      rintro e w3 ⟨s2, l2, q2, er2, rfl, p1, p2, p3, hB⟩
      rw [hpar.out] at p1
      simp only [Prod.mk.injEq] at p1
      obtain ⟨rfl, p1b, rfl, p1d⟩ := p1
      have hv : (l2.v : Value) = .slice l2.A l.L.length l2.c := by rw [p1d]; rfl
      rw [hv]
      rw [← p1d] at p3
      have S3 := Lib.hid ((S2.out.call hB).alloc #[.string s, .slice l2.A l.L.length l2.c] 25 (noLof rfl))
      have hL3 := Lib.hid ((hL2.out.bel hB).bel ((Below.refl _ _).alloc (Nat.le_refl _) (.cells #[.string s, .slice l2.A l.L.length l2.c] 25)))
      have hM3 := Lib.hid (p3.bel ((Below.refl _ _).alloc (Nat.le_refl _) (.cells #[.string s, .slice l2.A l.L.length l2.c] 25)))
      clear S2 hL2 hB p3 hv hpar p2 p1b p1d hrs
      go_wp2_with fail
      refine (awake_any _ (hb.out.bel S3.out.bel)).mono ?_
      rintro e w4 ⟨rfl, hB⟩
      have S4 := S3.out.call hB
      have hL4 := Lib.hid (hL3.out.bel hB)
      have hM4 := Lib.hid (hM3.out.bel hB)
      have c_0 := S4.cl 0 0 rfl rfl
      have c_1 := S4.cl 0 1 rfl rfl
      have d_0 := S4.cl 1 0 rfl rfl
      have d_1 := S4.cl 1 1 rfl rfl
      have z_0 := S4.lt 0 rfl
      have z_1 := S4.lt 1 rfl
      replace S4 := Lib.hid S4
      clear S3 hL3 hM3 hB
      go_wp2_with fail
      refine (hVa.out _ S4.out.bel hL4.out).mono ?_
      rintro e w5 ⟨rfl, hB⟩
      have S5 := S4.out.call hB
      have hL5 := Lib.hid (hL4.out.bel hB)
      have hM5 := Lib.hid (hM4.out.bel hB)
      clear c_0 c_1 d_0 d_1 z_0 z_1
      have c_0 := S5.cl 0 0 rfl rfl
      have c_1 := S5.cl 0 1 rfl rfl
      have d_0 := S5.cl 1 0 rfl rfl
      have d_1 := S5.cl 1 1 rfl rfl
      have z_0 := S5.lt 0 rfl
      have z_1 := S5.lt 1 rfl
      replace S5 := Lib.hid S5
      clear S4 hL4 hM4 hB hVa
      go_wp2_with fail
      refine (same_yes s l.L l.A l2.A l.L.length l.c l2.c _ hL5.out hM5.out (by have := hlen.out; omega)).mono ?_
      rintro e w6 ⟨rfl, hB⟩
      have hB6 := Lib.hid (S5.out.bel.trans (hB.mono S5.out.bel.size))
      clear S5 hL5 hM5 hB c_0 c_1 d_0 d_1 z_0 z_1
      go_wp2
      go_ret
      exact ⟨rfl, hB6.out⟩
    · have hnil := par_err p1 he
      have hl0 : l.L.length = 0 := by rw [hnil]; rfl
      rw [hl0] at S1 ⊢
      have hp := Lib.hid p1
      clear p1 p2 hL1 hnil hl0 htl
      go_wp2_with fail
      refine (rparse_any t _ (by have := hbig.out; omega)).mono ?_
      rintro e w2 ⟨s2, l2, q2, er2, rfl, r1, r2, r3, hB⟩
      rw [hp.out] at r1
      simp only [Prod.mk.injEq] at r1
      obtain ⟨rfl, _, _, _⟩ := r1
      have hv : (l2.v : Value) = .slice l2.A l2.L.length l2.c := rfl
      rw [hv]
      have S2 := Lib.hid ((S1.out.call hB).alloc #[.string s2, .slice l2.A l2.L.length l2.c] 25 (noLof rfl))
      clear S1 hB r2 r3 hv hp
      go_wp2_with fail
      refine (awake_any _ (hb.out.bel S2.out.bel)).mono ?_
      rintro e w3 ⟨rfl, hB⟩
      have S3 := S2.out.call hB
      have d_0 := S3.cl 1 0 rfl rfl
      have d_1 := S3.cl 1 1 rfl rfl
      have z_1 := S3.lt 1 rfl
      replace S3 := Lib.hid S3
      clear S2 hB
      go_wp2
      go_ret
      exact ⟨rfl, S3.out.bel⟩
  · have g1 : 600 < (t.size : Int) := by omega
    clear h1
    go_enter Tryd.func6, Tryd.ntmps6
    go_wp2_with fail
    refine (awake_any w hb.out).mono ?_
    rintro e w1 ⟨rfl, hB⟩
    replace hB := Lib.hid hB
    go_wp2
    go_ret
    exact ⟨rfl, hB.out⟩
end Go.Proofs.YtpdfliocldhblaaDoor
