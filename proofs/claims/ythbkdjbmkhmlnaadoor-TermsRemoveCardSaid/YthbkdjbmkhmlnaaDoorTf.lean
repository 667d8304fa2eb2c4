/- The reference's list of an expression: operations; all expressions. -/
import Derived.Test.YthbkdjbmkhmlnaaDoorTe
namespace Go.Proofs.YthbkdjbmkhmlnaaDoor
open Go.RowKit
set_option linter.unusedVariables false

theorem rl_bin_eq (Fs : List F10.Fac) (op : Nat) (a b : F9.Tr) : F10.rl Fs (.bin op a b) = (F10.rl Fs a).bind fun la => (F10.rl Fs b).bind fun lb => if F10.fts (F10.op2 op la lb) then some (F10.op2 op la lb) else none := rfl
theorem rl_none_b {Fs : List F10.Fac} {op : Nat} {a b : F9.Tr} (h : F10.rl Fs b = none) : F10.rl Fs (.bin op a b) = none := by
  rw [rl_bin_eq, h]
  cases F10.rl Fs a <;> rfl
theorem rl_some {Fs : List F10.Fac} {op : Nat} {a b : F9.Tr} {la lb : List Nat} (ha : F10.rl Fs a = some la) (hb : F10.rl Fs b = some lb) : F10.rl Fs (.bin op a b) = if F10.fts (F10.op2 op la lb) then some (F10.op2 op la lb) else none := by
  rw [rl_bin_eq, ha, hb]; rfl
theorem op2_ln {op : Nat} {a b : List Nat} (ha : a.length ≤ 32) (hb : b.length ≤ 32) : (F10.op2 op a b).length ≤ 100000 := by
  have e4 : a.length * b.length ≤ 32 * 32 := Nat.mul_le_mul ha hb
  have e2 := pls_len b a
  have e3 := crs_len a b
  unfold F10.op2
  split
  · omega
  · split
    · have : (F10.mns a b).length ≤ a.length := List.length_filter_le _ _
      omega
    · split
      · omega
      · split
        · have e1 := pls_len (F10.crs a b) (F10.pls a b)
          show (F10.pls (F10.pls a b) (F10.crs a b)).length ≤ 100000
          omega
        · have e1 := pls_len (F10.crs [F10.whl a] b) a
          have e5 := crs_len [F10.whl a] b
          show (F10.pls a (F10.crs [F10.whl a] b)).length ≤ 100000
          simp at e5
          omega
set_option maxRecDepth 100000 in
set_option maxHeartbeats 4000000 in
theorem list_bin (op : Nat) (a b : F9.Tr) (hw : (F9.Tr.bin op a b).wf) (hA : ListC a) (hB : ListC b) : ListC (.bin op a b) := by
  intro Fs Pr Qr A n c FA fn fc w hF hnam h hn hFa
  obtain ⟨ho5, ho9, hwa, hwb⟩ := hw
  have hpre : (F9.Tr.bin op a b).pre.map toNd ++ Qr = (⟨(op : Int), ⟨#[]⟩, 0⟩ : Nd) :: (a.pre.map toNd ++ (b.pre.map toNd ++ Qr)) := by
    show (((⟨op, [], 0⟩ : F9.Nd) :: (a.pre ++ b.pre)).map toNd) ++ Qr = _
    rw [List.map_cons, List.map_append, List.cons_append, List.append_assoc]; rfl
  rw [hpre] at h
  obtain ⟨b0, o, rfl, hlt, a0, a1, a2⟩ := nd_at h
  have h' : LR ndC w (some ⟨b0, o, none⟩) n ((Pr ++ [(⟨(op : Int), ⟨#[]⟩, 0⟩ : Nd)]) ++ (a.pre.map toNd ++ (b.pre.map toNd ++ Qr))) := by
    rw [List.append_assoc]; exact h
  have h'' : LR ndC w (some ⟨b0, o, none⟩) n (((Pr ++ [(⟨(op : Int), ⟨#[]⟩, 0⟩ : Nd)]) ++ a.pre.map toNd) ++ (b.pre.map toNd ++ Qr)) := by
    rw [List.append_assoc]; exact h'
  have hCa : Hid (∀ W, Below w.heap.size w W → Calls Tryd.prog 29 #[.slice (some ⟨b0, o, none⟩) n c, .int .i64 ((Pr.length : Int) + 1), .slice FA fn fc] W fun e w' => RlV W w' e (F10.rl Fs a)) := Lib.hid fun W hW => by
    have := hA Fs (Pr ++ [(⟨(op : Int), ⟨#[]⟩, 0⟩ : Nd)]) _ (some ⟨b0, o, none⟩) n c FA fn fc W hF (fun f hf => hnam f (.inl hf)) (h'.bel hW) hn (hFa.bel hW)
    rw [List.length_append, List.length_singleton] at this
    exact this
  obtain ⟨q, hq⟩ : ∃ q, q = Pr.length + 1 + a.pre.length := ⟨_, rfl⟩
  have hCb : Hid (∀ W, Below w.heap.size w W → Calls Tryd.prog 29 #[.slice (some ⟨b0, o, none⟩) n c, .int .i64 (q : Int), .slice FA fn fc] W fun e w' => RlV W w' e (F10.rl Fs b)) := Lib.hid fun W hW => by
    have := hB Fs ((Pr ++ [(⟨(op : Int), ⟨#[]⟩, 0⟩ : Nd)]) ++ a.pre.map toNd) Qr (some ⟨b0, o, none⟩) n c FA fn fc W hF (fun f hf => hnam f (.inr hf)) (h''.bel hW) hn (hFa.bel hW)
    rw [List.length_append, List.length_append, List.length_singleton, List.length_map, ← hq] at this
    exact this
  have hEn : Hid (∀ W, Below w.heap.size w W → Calls Tryd.prog 41 #[.slice (some ⟨b0, o, none⟩) n c, .int .i64 ((Pr.length : Int) + 1)] W fun e w' => e = .returned (.int .i64 (q : Int)) ∧ w' = W) := Lib.hid fun W hW => by
    have := rend_any a hwa (Pr ++ [(⟨(op : Int), ⟨#[]⟩, 0⟩ : Nd)]) _ (some ⟨b0, o, none⟩) n c W (h'.bel hW) hn
    rw [List.length_append, List.length_singleton, ← hq] at this
    exact this
  have hoka : Hid (∀ l, F10.rl Fs a = some l → F10.fts l = true ∧ U64 l) := Lib.hid fun l hl => rl_ok hF a (wf_shp hwa) (fun f hf => hnam f (.inl hf)) l hl
  have hokb : Hid (∀ l, F10.rl Fs b = some l → F10.fts l = true ∧ U64 l) := Lib.hid fun l hl => rl_ok hF b (wf_shp hwb) (fun f hf => hnam f (.inr hf)) l hl
  have g1 : (Pr.length : Int) < (n : Int) := by omega
  have g2 : (0 : Int) ≤ (Pr.length : Int) := by omega
  have S1 := Lib.hid ((St.new w).alloc #[.int .i64 (op : Int), .string ⟨#[]⟩, .int .i64 0] 39 (noLof rfl))
  obtain ⟨w1, hw1⟩ : ∃ W, W = w.alloc (.cells #[.int .i64 (op : Int), .string ⟨#[]⟩, .int .i64 0] 39) := ⟨_, rfl⟩
  obtain ⟨xb, hxb⟩ : ∃ b, b = w.heap.size := ⟨_, rfl⟩
  rw [← hw1, ← hxb] at S1
  have k0 : w1.cell? ⟨xb, 0, none⟩ = some (.int .i64 (op : Int)) := S1.out.cl 0 0 rfl rfl
  have k0h := Lib.hid k0
  have hAr : Hid (Calls Tryd.prog 64 #[.int .i64 (op : Int)] w1 fun e w' => e = .returned (.int .i64 2) ∧ w' = w1) := Lib.hid (by
    have := arity_any (op : Int) w1
    have e : ariB (op : Int) = 2 := by unfold ariB; rw [if_neg (by omega), if_neg (by omega), if_pos (by omega)]
    rwa [e] at this)
  have hB1 := Lib.hid S1.out.bel
  have hoh := Lib.hid (And.intro ho5 ho9)
  have hpn : (Pr.length : Int) + 1 ≤ 2000 := by omega
  have g10 : ((op : Int) == 10) = false := by rw [beq_eq_false_iff_ne]; omega
  generalize Pr.length = p at *
  clear h h' h'' hpre hFa hF hnam hn hlt hA hB hwa hwb ho5 ho9 S1 hq
  go_enter Tryd.func29, Tryd.ntmps29
  go_upto_region 2 with fail
  rw [← hw1, ← hxb]
  clear hw1 hxb a0 a1 a2
  go_wp2_with fail
  refine hAr.out.mono ?_
  rintro e w2 ⟨rfl, rfl⟩
  clear hAr
  go_wp2_with fail
  refine (hCa.out w2 hB1.out).mono ?_
  intro e w3 hE
  clear hCa g1 g2 k0
  cases hra : F10.rl Fs a with
  | none =>
    rw [hra] at hE
    obtain ⟨v, rfl, hb⟩ := hE
    have hfin : Hid (F10.rl Fs (.bin op a b) = none) := Lib.hid (by rw [rl_bin_eq, hra]; rfl)
    have T := Lib.hid (hB1.out.trans (hb.mono hB1.out.size))
    clear hb hra hoka hokb
    go_wp2
    go_ret2
    rw [hfin.out]
    exact ⟨_, rfl, T.out⟩
  | some la =>
    rw [hra] at hE
    obtain ⟨v, rfl, A1, c1, rfl, hc1, hl1, hb⟩ := hE
    obtain ⟨q1, q2⟩ := hoka.out la hra
    have T := Lib.hid (hB1.out.trans (hb.mono hB1.out.size))
    have k0 : w3.cell? ⟨xb, 0, none⟩ = some (.int .i64 (op : Int)) := bel_cell hb k0h.out
    have k03 := Lib.hid k0
    have hl32a := Lib.hid (fts_len32 q1)
    obtain ⟨n1, hn1⟩ : ∃ k, k = la.length := ⟨_, rfl⟩
    rw [← hn1] at hl1 hc1
    rw [← hn1]
    have hl1h := Lib.hid hl1
    have hn1h := Lib.hid hn1
    have hq2a := Lib.hid q2
    have hrah := Lib.hid hra
    clear hb hra hoka q1 q2 hl1 hc1 k0h hn1
    go_wp2_with fail
    refine (hEn.out w3 T.out).mono ?_
    rintro e w4 ⟨rfl, rfl⟩
    clear hEn
    go_wp2_with fail
    refine (hCb.out w4 T.out).mono ?_
    intro e w5 hE
    clear hCb
    cases hrb : F10.rl Fs b with
    | none =>
      rw [hrb] at hE
      obtain ⟨v, rfl, hb⟩ := hE
      have hfin : Hid (F10.rl Fs (.bin op a b) = none) := Lib.hid (rl_none_b hrb)
      have T2 := Lib.hid (T.out.trans (hb.mono T.out.size))
      clear hb hrb hokb k0
      go_wp2
      go_ret2
      rw [hfin.out]
      exact ⟨_, rfl, T2.out⟩
    | some lb =>
      rw [hrb] at hE
      obtain ⟨v, rfl, A2, c2, rfl, hc2, hl2, hb⟩ := hE
      obtain ⟨q1, q2⟩ := hokb.out lb hrb
      have hfin := Lib.hid (rl_some (op := op) hrah.out hrb)
      have T2 := Lib.hid (T.out.trans (hb.mono T.out.size))
      have k05 : w5.cell? ⟨xb, 0, none⟩ = some (.int .i64 (op : Int)) := bel_cell hb k03.out
      have hl1b := Lib.hid (hl1h.out.bel hb)
      have hl32b := Lib.hid (fts_len32 q1)
      obtain ⟨n2, hn2⟩ : ∃ k, k = lb.length := ⟨_, rfl⟩
      rw [← hn2] at hl2 hc2
      rw [← hn2]
      have hn32 : n1 ≤ 32 ∧ n2 ≤ 32 := ⟨by rw [hn1h.out]; exact hl32a.out, by rw [hn2]; exact hl32b.out⟩
      have hnn := Lib.hid hn32
      have hl2h := Lib.hid hl2
      have hln := Lib.hid (op2_ln (op := op) hl32a.out hl32b.out)
      have hu : Hid (U64 (F10.op2 op la lb)) := Lib.hid (u64_op2 hq2a.out q2)
      have hq2b := Lib.hid q2
      clear hb hrb hokb q1 q2 hl2 hc2 hn2 k0 k03 hn32 hl32a hl32b hrah hl1h
      have hcase : op = 5 ∨ op = 6 ∨ op = 7 ∨ op = 8 ∨ op = 9 := by have := hoh.out; omega
      clear hoh
      rcases hcase with rfl | rfl | rfl | rfl | rfl
      · have hOp : Hid (Calls Tryd.prog 62 #[.slice A1 n1 c1, .slice A2 n2 c2] w5 fun e w' => ∃ v, e = .returned v ∧ SlU w5 w' v (F10.op2 5 la lb)) := Lib.hid (rplus_u la lb A1 n1 c1 A2 n2 c2 w5 hl1b.out hl2h.out (by have := hnn.out; omega) (by have := hnn.out; omega))
        generalize F10.op2 5 la lb = st at *
        clear hl1b hl2h hnn hq2a hq2b
        go_wp2_with fail
        refine hOp.out.mono ?_
        rintro e w6 ⟨v6, rfl, A6, c6, rfl, hc6, hl6, hb6⟩
        obtain ⟨n6, hn6⟩ : ∃ k, k = st.length := ⟨_, rfl⟩
        rw [← hn6] at hl6 hc6 hln
        rw [← hn6]
        have hFt := Lib.hid (rfits_any st A6 n6 c6 w6 hl6 hln.out hu.out)
        have T6 := Lib.hid (T2.out.trans (hb6.mono T2.out.size))
        have hl6h := Lib.hid hl6
        have hc6h := Lib.hid hc6
        have hn6h := Lib.hid hn6
        clear hOp hb6 hl6 hc6 hn6 k05
        obtain ⟨qf, hqf⟩ : ∃ q, q = F10.fts st := ⟨_, rfl⟩
        rw [← hqf] at hFt hfin
        replace hqf := Lib.hid hqf
        go_wp2_with fail
        refine hFt.out.mono ?_
        rintro e w7 ⟨rfl, rfl⟩
        clear hFt
        go_wp2
        go_ret2
        rw [hfin.out]
        cases qf with
        | true => exact ⟨_, rfl, A6, c6, by first | (rw [hn6h.out]; done) | (rw [hn6h.out]; rfl), by rw [← hn6h.out]; exact hc6h.out, by rw [← hn6h.out]; exact hl6h.out, T6.out⟩
        | false => exact ⟨_, rfl, T6.out⟩
      · have hOp : Hid (Calls Tryd.prog 61 #[.slice A1 n1 c1, .slice A2 n2 c2] w5 fun e w' => ∃ v, e = .returned v ∧ SlU w5 w' v (F10.op2 6 la lb)) := Lib.hid (rminus_u la lb A1 n1 c1 A2 n2 c2 w5 hl1b.out hl2h.out (by have := hnn.out; omega) (by have := hnn.out; omega))
        generalize F10.op2 6 la lb = st at *
        clear hl1b hl2h hnn hq2a hq2b
        go_wp2_with fail
        refine hOp.out.mono ?_
        rintro e w6 ⟨v6, rfl, A6, c6, rfl, hc6, hl6, hb6⟩
        obtain ⟨n6, hn6⟩ : ∃ k, k = st.length := ⟨_, rfl⟩
        rw [← hn6] at hl6 hc6 hln
        rw [← hn6]
        have hFt := Lib.hid (rfits_any st A6 n6 c6 w6 hl6 hln.out hu.out)
        have T6 := Lib.hid (T2.out.trans (hb6.mono T2.out.size))
        have hl6h := Lib.hid hl6
        have hc6h := Lib.hid hc6
        have hn6h := Lib.hid hn6
        clear hOp hb6 hl6 hc6 hn6 k05
        obtain ⟨qf, hqf⟩ : ∃ q, q = F10.fts st := ⟨_, rfl⟩
        rw [← hqf] at hFt hfin
        replace hqf := Lib.hid hqf
        go_wp2_with fail
        refine hFt.out.mono ?_
        rintro e w7 ⟨rfl, rfl⟩
        clear hFt
        go_wp2
        go_ret2
        rw [hfin.out]
        cases qf with
        | true => exact ⟨_, rfl, A6, c6, by first | (rw [hn6h.out]; done) | (rw [hn6h.out]; rfl), by rw [← hn6h.out]; exact hc6h.out, by rw [← hn6h.out]; exact hl6h.out, T6.out⟩
        | false => exact ⟨_, rfl, T6.out⟩
      · have hOp : Hid (Calls Tryd.prog 66 #[.slice A1 n1 c1, .slice A2 n2 c2] w5 fun e w' => ∃ v, e = .returned v ∧ SlU w5 w' v (F10.op2 7 la lb)) := Lib.hid (rcross_any la lb A1 n1 c1 A2 n2 c2 w5 hl1b.out hl2h.out (by have := hnn.out; omega) (by have := hnn.out; omega) hq2a.out hq2b.out)
        generalize F10.op2 7 la lb = st at *
        clear hl1b hl2h hnn hq2a hq2b
        go_wp2_with fail
        refine hOp.out.mono ?_
        rintro e w6 ⟨v6, rfl, A6, c6, rfl, hc6, hl6, hb6⟩
        obtain ⟨n6, hn6⟩ : ∃ k, k = st.length := ⟨_, rfl⟩
        rw [← hn6] at hl6 hc6 hln
        rw [← hn6]
        have hFt := Lib.hid (rfits_any st A6 n6 c6 w6 hl6 hln.out hu.out)
        have T6 := Lib.hid (T2.out.trans (hb6.mono T2.out.size))
        have hl6h := Lib.hid hl6
        have hc6h := Lib.hid hc6
        have hn6h := Lib.hid hn6
        clear hOp hb6 hl6 hc6 hn6 k05
        obtain ⟨qf, hqf⟩ : ∃ q, q = F10.fts st := ⟨_, rfl⟩
        rw [← hqf] at hFt hfin
        replace hqf := Lib.hid hqf
        go_wp2_with fail
        refine hFt.out.mono ?_
        rintro e w7 ⟨rfl, rfl⟩
        clear hFt
        go_wp2
        go_ret2
        rw [hfin.out]
        cases qf with
        | true => exact ⟨_, rfl, A6, c6, by first | (rw [hn6h.out]; done) | (rw [hn6h.out]; rfl), by rw [← hn6h.out]; exact hc6h.out, by rw [← hn6h.out]; exact hl6h.out, T6.out⟩
        | false => exact ⟨_, rfl, T6.out⟩
      · have hOp : Hid (Calls Tryd.prog 65 #[.slice A1 n1 c1, .slice A2 n2 c2] w5 fun e w' => ∃ v, e = .returned v ∧ SlU w5 w' v (F10.op2 8 la lb)) := Lib.hid (rstar_any la lb A1 n1 c1 A2 n2 c2 w5 hl1b.out hl2h.out (by have := hnn.out; omega) (by have := hnn.out; omega) hq2a.out hq2b.out)
        generalize F10.op2 8 la lb = st at *
        clear hl1b hl2h hnn hq2a hq2b
        go_wp2_with fail
        refine hOp.out.mono ?_
        rintro e w6 ⟨v6, rfl, A6, c6, rfl, hc6, hl6, hb6⟩
        obtain ⟨n6, hn6⟩ : ∃ k, k = st.length := ⟨_, rfl⟩
        rw [← hn6] at hl6 hc6 hln
        rw [← hn6]
        have hFt := Lib.hid (rfits_any st A6 n6 c6 w6 hl6 hln.out hu.out)
        have T6 := Lib.hid (T2.out.trans (hb6.mono T2.out.size))
        have hl6h := Lib.hid hl6
        have hc6h := Lib.hid hc6
        have hn6h := Lib.hid hn6
        clear hOp hb6 hl6 hc6 hn6 k05
        obtain ⟨qf, hqf⟩ : ∃ q, q = F10.fts st := ⟨_, rfl⟩
        rw [← hqf] at hFt hfin
        replace hqf := Lib.hid hqf
        go_wp2_with fail
        refine hFt.out.mono ?_
        rintro e w7 ⟨rfl, rfl⟩
        clear hFt
        go_wp2
        go_ret2
        rw [hfin.out]
        cases qf with
        | true => exact ⟨_, rfl, A6, c6, by first | (rw [hn6h.out]; done) | (rw [hn6h.out]; rfl), by rw [← hn6h.out]; exact hc6h.out, by rw [← hn6h.out]; exact hl6h.out, T6.out⟩
        | false => exact ⟨_, rfl, T6.out⟩
      · have hOp : Hid (Calls Tryd.prog 67 #[.slice A1 n1 c1, .slice A2 n2 c2] w5 fun e w' => ∃ v, e = .returned v ∧ SlU w5 w' v (F10.op2 9 la lb)) := Lib.hid (rnest_any la lb A1 n1 c1 A2 n2 c2 w5 hl1b.out hl2h.out (by have := hnn.out; omega) (by have := hnn.out; omega) hq2a.out hq2b.out)
        generalize F10.op2 9 la lb = st at *
        clear hl1b hl2h hnn hq2a hq2b
        go_wp2_with fail
        refine hOp.out.mono ?_
        rintro e w6 ⟨v6, rfl, A6, c6, rfl, hc6, hl6, hb6⟩
        obtain ⟨n6, hn6⟩ : ∃ k, k = st.length := ⟨_, rfl⟩
        rw [← hn6] at hl6 hc6 hln
        rw [← hn6]
        have hFt := Lib.hid (rfits_any st A6 n6 c6 w6 hl6 hln.out hu.out)
        have T6 := Lib.hid (T2.out.trans (hb6.mono T2.out.size))
        have hl6h := Lib.hid hl6
        have hc6h := Lib.hid hc6
        have hn6h := Lib.hid hn6
        clear hOp hb6 hl6 hc6 hn6 k05
        obtain ⟨qf, hqf⟩ : ∃ q, q = F10.fts st := ⟨_, rfl⟩
        rw [← hqf] at hFt hfin
        replace hqf := Lib.hid hqf
        go_wp2_with fail
        refine hFt.out.mono ?_
        rintro e w7 ⟨rfl, rfl⟩
        clear hFt
        go_wp2
        go_ret2
        rw [hfin.out]
        cases qf with
        | true => exact ⟨_, rfl, A6, c6, by first | (rw [hn6h.out]; done) | (rw [hn6h.out]; rfl), by rw [← hn6h.out]; exact hc6h.out, by rw [← hn6h.out]; exact hl6h.out, T6.out⟩
        | false => exact ⟨_, rfl, T6.out⟩
theorem list_any : ∀ (tr : F9.Tr), tr.wf → ListC tr
  | .leaf x, h => list_leaf x h
  | .hat k a, h => list_hat k a h (list_any a h.2.2)
  | .bin op a b, h => list_bin op a b h (list_any a h.2.2.1) (list_any b h.2.2.2)
end Go.Proofs.YthbkdjbmkhmlnaaDoor
