/- What is written is read. -/
import Derived.Test.YtpdfliocldhblaaDoorM22
namespace Go.Proofs.YtpdfliocldhblaaDoor
open Go.RowKit
set_option linter.unusedVariables false

theorem rdR_wr (tr : F9.Tr) (hw : tr.wf) : ∃ t', F9.rdR (6 * tr.wr.length + 5) tr.wr = .ok t' ∧ t'.pre = tr.pre := by
  obtain ⟨c, hc⟩ := F9.reads_all tr hw
  have hbig : F9.rdR (6 * tr.wr.length + 5 + c) tr.wr = .ok tr := by
    unfold F9.rdR
    rw [hc (6 * tr.wr.length + 5)]
    rfl
  obtain ⟨c1, h1⟩ := (F9.both (6 * tr.wr.length + 5 + c) tr.wr).1 tr hbig
  have hfu := F9.fuel (6 * tr.wr.length + 5) (.bin 1) tr.wr (fun k e => by injection e; omega) (fun _ _ e => by cases e) trivial (Nat.le_refl _)
  have hb := F9.both (6 * tr.wr.length + 5) tr.wr
  have hno : ∀ e : F9.Er, F9.rdR (6 * tr.wr.length + 5) tr.wr = .error e → e.1 ≠ 0 → False := fun e he hne => by
    obtain ⟨c2, h2⟩ := hb.2 e he hne
    have a := h1 c2
    have b := h2 c1
    rw [Nat.add_comm] at b
    rw [a] at b
    cases b
  cases hx : F9.rdR (6 * tr.wr.length + 5) tr.wr with
  | error e =>
    refine (hno e hx ?_).elim
    unfold F9.rdR at hx
    cases hz : F9.run (6 * tr.wr.length + 5) (.bin 1) tr.wr with
    | error y => rw [hz] at hx; simp only at hx; injection hx with hx; subst hx; exact hfu.1 _ hz
    | ok y =>
      obtain ⟨t1, r3⟩ := y
      rw [hz] at hx
      simp only at hx
      by_cases hn : F9.fw r3 = []
      · rw [if_pos hn] at hx; cases hx
      · rw [if_neg hn] at hx; injection hx with hx; subst hx; simp
  | ok t' =>
    refine ⟨t', rfl, ?_⟩
    have hw' : t'.wf := by
      unfold F9.rdR at hx
      cases hz : F9.run (6 * tr.wr.length + 5) (.bin 1) tr.wr with
      | error y => rw [hz] at hx; cases hx
      | ok y =>
        obtain ⟨t1, r3⟩ := y
        rw [hz] at hx
        simp only at hx
        by_cases hn : F9.fw r3 = []
        · rw [if_pos hn] at hx; injection hx with hx; subst hx; exact (hfu.2 t1 r3 hz).1
        · rw [if_neg hn] at hx; cases hx
    obtain ⟨c2, h2⟩ := hb.1 t' hx
    have a := h1 c2
    have b := h2 c1
    rw [Nat.add_comm] at b
    rw [a] at b
    injection b with b
    have p1 := F9.po_post tr hw []
    have p2 := F9.po_post t' hw' []
    rw [b, p2] at p1
    simpa using p1
theorem parV_wr {n : F9.Bs} {tr : F9.Tr} (hn : nameL n = true) (hw : tr.wf) (hl : (n ++ [32, 126, 32] ++ tr.wr).length ≤ 65536) (h64 : tr.pre.length ≤ 64) : parV (n ++ [32, 126, 32] ++ tr.wr) = (0, 0, ⟨n.toArray⟩, tr.pre.map toNd) := by
  obtain ⟨ch, tl, hnc, hlet, _, _⟩ := F9.name_parts hn
  have e0 : n ++ [32, 126, 32] ++ tr.wr = n ++ (32 :: 126 :: 32 :: tr.wr) := by simp
  have t0 : F9.trm (n ++ (32 :: 126 :: 32 :: tr.wr)) = n ++ (32 :: 126 :: 32 :: tr.wr) := by
    rw [hnc]
    exact F9.trm_ne (F9.let_ne hlet).1 _
  have f0 : F9.fw (n ++ (32 :: 126 :: 32 :: tr.wr)) = n := F9.fw_name hn (fun c hc => by simp at hc; subst hc; rfl)
  have n0 : F9.nx (n ++ (32 :: 126 :: 32 :: tr.wr)) = 126 :: 32 :: tr.wr := by
    rw [F9.nx_app f0, F9.trm_sp, F9.trm_ne (by decide)]
  have f1 : F9.fw (126 :: 32 :: tr.wr) = [126] := F9.fw_sign rfl rfl _
  have n1 : F9.nx (126 :: 32 :: tr.wr) = tr.wr := by
    rw [F9.nx_sign rfl rfl, F9.trm_sp]
    have := F9.beg_trm (F9.beg_wr tr hw) []
    rwa [List.append_nil] at this
  obtain ⟨t', h1, h2⟩ := rdR_wr tr hw
  have hr : rdT (n ++ [32, 126, 32] ++ tr.wr) = .ok (n, t') := by
    unfold rdT
    rw [e0, t0, f0, if_pos hn, n0, f1, if_pos rfl, n1, h1]
  unfold parV
  rw [if_neg (by omega), hr]
  simp only
  rw [h2, if_neg (by omega)]
end Go.Proofs.YtpdfliocldhblaaDoor
namespace Go.Proofs.YtpdfliocldhblaaDoor
open Go.RowKit
set_option linter.unusedVariables false

theorem totP_b (b : Nat) : ∀ (l : List F9.Nd), okF l → (∀ x ∈ l, x.nm.length ≤ b) → totP (l.foldr F9.ph1 []) ≤ l.length * (b + 20)
  | [], _, _ => by simp [totP]
  | x :: l, h, hn => by
    have h1 := totP_b b l h.2 (fun y hy => hn y (List.mem_cons_of_mem _ hy))
    have h2 := totP_ph1 x (l.foldr F9.ph1 []) h.1
    have h3 := hn x List.mem_cons_self
    rw [List.foldr_cons, List.length_cons, Nat.add_mul]
    omega
/-- What a light valid formula is written as is read as it. -/
theorem wr_par {s r : ByteArray} {L : List Nd} {er : Int} (hl : litB s L = true) (hf : frmB s L = true) (h : FmtV s L r er) : er = 0 ∧ r.size ≤ 60000 ∧ parV r.data.toList = (0, 0, s, L) := by
  rcases h with ⟨h1, _⟩ | ⟨_, tr, hw, hL, hr, he⟩
  · rw [hf] at h1; cases h1
  · unfold litB at hl
    simp only [Bool.and_eq_true, decide_eq_true_eq, List.all_eq_true] at hl
    obtain ⟨⟨l1, l2⟩, l3⟩ := hl
    have hlen := frm_len hf
    have hpl : tr.pre.length = L.length := by rw [hL, List.length_map]
    have hok : okF tr.pre := by have := okF_pre tr hw [] trivial; rwa [List.append_nil] at this
    have htot := totP_b 60 tr.pre hok (fun x hx => by
      have := l3 (toNd x) (by rw [hL]; exact List.mem_map_of_mem hx)
      have e : (toNd x).s.size = x.nm.length := bsA_size x.nm
      omega)
    rw [F9.ph_pre tr hw] at htot
    have hwl : tr.wr.length ≤ 6000 := by
      have e : totP ([] ++ [(tr.wr, tr.rank)]) = tr.wr.length := by simp [totP]
      rw [e] at htot
      have := Nat.mul_le_mul_right (60 + 20) (show tr.pre.length ≤ 64 by omega)
      omega
    have hsl : s.data.toList.length ≤ 60 := by rw [Array.length_toList]; exact l1
    have hrd : r.data.toList = s.data.toList ++ [32, 126, 32] ++ tr.wr := by
      rw [hr]
      simp [bsA, ByteArray.data_append]
    have hrl : (s.data.toList ++ [32, 126, 32] ++ tr.wr).length ≤ 6063 := by
      rw [List.length_append, List.length_append]
      show s.data.toList.length + 3 + tr.wr.length ≤ 6063
      omega
    refine ⟨he, ?_, ?_⟩
    · have e : r.size = r.data.toList.length := by rw [Array.length_toList]; rfl
      rw [e, hrd]
      omega
    · rw [hrd, parV_wr hlen.2 hw (by omega) (by omega), ← hL, bs_of]

set_option maxRecDepth 100000 in
set_option maxHeartbeats 4000000 in
theorem law_reads (s : ByteArray) (A : Option Addr) (c : Nat) (L : List Nd) (w : World) (h : LR ndC w A L.length L) (hc : L.length ≤ c) (hO : Og w) : Calls Tryd.prog 5 #[.agg #[.string s, .slice A L.length c]] w fun e w' => e = .returned (.bool true) ∧ Below w.heap.size w w' := by
  have hb := Lib.hid hO
  have hz0 := hO.1
  have S0 := Lib.hid ((St.new w).allocAt w.heap.size #[.string s, .slice A L.length c] 25 (noLof rfl) rfl)
  have hLi : Hid (∀ W, Below w.heap.size w W → Calls Tryd.prog 20 #[.agg #[.string s, .slice A L.length c]] W fun e w' => e = .returned (.bool (litB s L)) ∧ Below W.heap.size W w') := Lib.hid fun W hB => light_any s L A L.length c W (h.bel hB) hc
  have hLR := Lib.hid h
  clear hO h
  cases hl : litB s L with
  | false =>
    rw [hl] at hLi
    clear hl hc
    go_enter Tryd.func5, Tryd.ntmps5
    go_wp2_with fail
    refine (hLi.out _ S0.out.bel).mono ?_
    rintro e w1 ⟨rfl, hB⟩
    have S1 := Lib.hid (S0.out.call hB)
    clear hLi S0 hB
    go_wp2_with fail
    refine (awake_any _ (hb.out.bel S1.out.bel)).mono ?_
    rintro e w2 ⟨rfl, hB⟩
    have S2 := Lib.hid (S1.out.call hB)
    clear S1 hB
    go_wp2
    go_ret
    exact ⟨rfl, S2.out.bel⟩
  | true =>
    have hlh := Lib.hid hl
    have hl2 := hl
    unfold litB at hl2
    simp only [Bool.and_eq_true, decide_eq_true_eq, List.all_eq_true] at hl2
    obtain ⟨⟨l1, l2⟩, l3⟩ := hl2
    have hV : Hid (∀ W, Below w.heap.size w W → Calls Tryd.prog 24 #[.agg #[.string s, .slice A L.length c]] W fun e w' => e = .returned (.bool (frmB s L)) ∧ Below W.heap.size W w') := Lib.hid fun W hB => rvalid_any s L A L.length c W (hLR.out.bel hB) (by omega)
    have hFo : Hid (∀ W, Below w.heap.size w W → Calls Tryd.prog 21 #[.agg #[.string s, .slice A L.length c]] W fun e w' => (∃ r er, e = .returned (.tuple #[.string r, .int .i64 er]) ∧ FmtV s L r er) ∧ Below W.heap.size W w') := Lib.hid fun W hB => format_any s L A c W (hLR.out.bel hB) hc (by omega) (fun x hx => Nat.le_trans (l3 x hx) (by decide)) (by omega) (hb.out.bel hB)
    have hl80 := Lib.hid l2
    rw [hl] at hLi
    clear hl l1 l2 l3 hc
    cases hf : frmB s L with
    | false =>
      rw [hf] at hV
      clear hf
      go_enter Tryd.func5, Tryd.ntmps5
      go_wp2_with fail
      refine (hLi.out _ S0.out.bel).mono ?_
      rintro e w1 ⟨rfl, hB⟩
      have S1 := S0.out.call hB
      have c_0 := S1.cl 0 0 rfl rfl
      have c_1 := S1.cl 0 1 rfl rfl
      replace S1 := Lib.hid S1
      clear hLi S0 hB
      go_wp2_with fail
      refine (hV.out _ S1.out.bel).mono ?_
      rintro e w2 ⟨rfl, hB⟩
      have S2 := Lib.hid (S1.out.call hB)
      clear hV S1 hB c_0 c_1
      go_wp2_with fail
      refine (awake_any _ (hb.out.bel S2.out.bel)).mono ?_
      rintro e w3 ⟨rfl, hB⟩
      have S3 := Lib.hid (S2.out.call hB)
      clear S2 hB
      go_wp2
      go_ret
      exact ⟨rfl, S3.out.bel⟩
    | true =>
      have hfh := Lib.hid hf
      rw [hf] at hV
      clear hf
      go_enter Tryd.func5, Tryd.ntmps5
      go_wp2_with fail
      refine (hLi.out _ S0.out.bel).mono ?_
      rintro e w1 ⟨rfl, hB⟩
      have S1 := S0.out.call hB
      have c_0 := S1.cl 0 0 rfl rfl
      have c_1 := S1.cl 0 1 rfl rfl
      replace S1 := Lib.hid S1
      clear hLi S0 hB
      go_wp2_with fail
      refine (hV.out _ S1.out.bel).mono ?_
      rintro e w2 ⟨rfl, hB⟩
      have S2 := S1.out.call hB
      clear c_0 c_1
      have c_0 := S2.cl 0 0 rfl rfl
      have c_1 := S2.cl 0 1 rfl rfl
      replace S2 := Lib.hid S2
      clear hV S1 hB
      go_wp2_with fail
      refine (hFo.out _ S2.out.bel).mono ?_
      rintro e w3 ⟨⟨r, er, rfl, hF⟩, hB⟩
      obtain ⟨rfl, hrs, hpar⟩ := wr_par hlh.out hfh.out hF
      have S3 := Lib.hid (S2.out.call hB)
      replace hpar := Lib.hid hpar
      clear hFo S2 hB c_0 c_1 hF
      go_wp2_with fail
      refine (parse_any r _ (by omega) (hb.out.bel S3.out.bel)).mono ?_
      rintro e w4 ⟨s2, l, q, er2, rfl, p1, p2, p3, hB⟩
      rw [hpar.out] at p1
      simp only [Prod.mk.injEq] at p1
      obtain ⟨rfl, p1b, rfl, rfl⟩ := p1
      have hq : q = 0 := by omega
      subst hq
      have hv : (l.v : Value) = .slice l.A l.L.length l.c := rfl
      rw [hv]
      have S4 := Lib.hid ((S3.out.call hB).alloc #[.string s, .slice l.A l.L.length l.c] 25 (noLof rfl))
      have hL4 := Lib.hid (p3.bel ((Below.refl _ _).alloc (Nat.le_refl _) (.cells #[.string s, .slice l.A l.L.length l.c] 25)))
      clear S3 hB p3 hv hpar p2 p1b hrs
      go_wp2_with fail
      refine (awake_any _ (hb.out.bel S4.out.bel)).mono ?_
      rintro e w5 ⟨rfl, hB⟩
      have S5 := S4.out.call hB
      have hL5 := Lib.hid (hL4.out.bel hB)
      have c_0 := S5.cl 1 0 rfl rfl
      have c_1 := S5.cl 1 1 rfl rfl
      have d_0 := S5.cl 0 0 rfl rfl
      have d_1 := S5.cl 0 1 rfl rfl
      have z_0 := S5.lt 0 rfl
      have z_1 := S5.lt 1 rfl
      replace S5 := Lib.hid S5
      clear S4 hL4 hB
      go_wp2_with fail
      refine (same_yes s l.L A l.A l.L.length c l.c _ (hLR.out.bel S5.out.bel) hL5.out (by have := hl80.out; omega)).mono ?_
      rintro e w6 ⟨rfl, hB⟩
      have hB6 := Lib.hid (S5.out.bel.trans (hB.mono S5.out.bel.size))
      clear S5 hL5 hB c_0 c_1 d_0 d_1 z_0 z_1
      go_wp2
      go_ret
      exact ⟨rfl, hB6.out⟩
end Go.Proofs.YtpdfliocldhblaaDoor
