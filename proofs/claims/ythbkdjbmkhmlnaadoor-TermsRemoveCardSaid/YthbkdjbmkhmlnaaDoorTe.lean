/- The reference's list of an expression: powers. -/
import Derived.Test.YthbkdjbmkhmlnaaDoorTd
namespace Go.Proofs.YthbkdjbmkhmlnaaDoor
open Go.RowKit
set_option linter.unusedVariables false

theorem pow_none {a : List Nat} {j : Nat} (h : F10.pow a j = none) : ∀ d, F10.pow a (j + d) = none
  | 0 => h
  | d + 1 => by
    show (F10.pow a (j + d)).bind _ = none
    rw [pow_none h d]; rfl
theorem pow_step {a o : List Nat} {j : Nat} (h : F10.pow a j = some o) : F10.pow a (j + 1) = if F10.fts (F10.str o a) then some (F10.str o a) else none := by
  show (F10.pow a j).bind _ = _
  rw [h]; rfl
theorem fts_len32 {l : List Nat} (h : F10.fts l = true) : l.length ≤ 32 := by
  unfold F10.fts at h
  rw [Bool.and_eq_true] at h
  exact of_decide_eq_true h.2
set_option maxRecDepth 100000 in
set_option maxHeartbeats 4000000 in
theorem list_hat (K : Nat) (a : F9.Tr) (hw : (F9.Tr.hat K a).wf) (hA : ListC a) : ListC (.hat K a) := by
  intro Fs Pr Qr A n c FA fn fc w hF hnam h hn hFa
  obtain ⟨hK1, hK6, hwa⟩ := hw
  have hpre : (F9.Tr.hat K a).pre.map toNd ++ Qr = (⟨10, ⟨#[]⟩, (K : Int)⟩ : Nd) :: (a.pre.map toNd ++ Qr) := rfl
  rw [hpre] at h
  obtain ⟨b, o, rfl, hlt, a0, a1, a2⟩ := nd_at h
  have h' : LR ndC w (some ⟨b, o, none⟩) n ((Pr ++ [(⟨10, ⟨#[]⟩, (K : Int)⟩ : Nd)]) ++ (a.pre.map toNd ++ Qr)) := by
    rw [List.append_assoc]; exact h
  have hCa : Hid (∀ W, Below w.heap.size w W → Calls Tryd.prog 29 #[.slice (some ⟨b, o, none⟩) n c, .int .i64 ((Pr.length : Int) + 1), .slice FA fn fc] W fun e w' => RlV W w' e (F10.rl Fs a)) := Lib.hid fun W hW => by
    have := hA Fs (Pr ++ [(⟨10, ⟨#[]⟩, (K : Int)⟩ : Nd)]) Qr (some ⟨b, o, none⟩) n c FA fn fc W hF hnam (h'.bel hW) hn (hFa.bel hW)
    rw [List.length_append, List.length_singleton] at this
    exact this
  have hok : Hid (∀ l, F10.rl Fs a = some l → F10.fts l = true ∧ U64 l) := Lib.hid fun l hl => rl_ok hF a (wf_shp hwa) hnam l hl
  have hrl : Hid (F10.rl Fs (.hat K a) = (F10.rl Fs a).bind fun l => F10.pow l (K - 1)) := Lib.hid rfl
  have g1 : (Pr.length : Int) < (n : Int) := by omega
  have g2 : (0 : Int) ≤ (Pr.length : Int) := by omega
  have S1 := Lib.hid ((St.new w).alloc #[.int .i64 10, .string ⟨#[]⟩, .int .i64 (K : Int)] 39 (noLof rfl))
  obtain ⟨w1, hw1⟩ : ∃ W, W = w.alloc (.cells #[.int .i64 10, .string ⟨#[]⟩, .int .i64 (K : Int)] 39) := ⟨_, rfl⟩
  obtain ⟨xb, hxb⟩ : ∃ b, b = w.heap.size := ⟨_, rfl⟩
  rw [← hw1, ← hxb] at S1
  have k0 : w1.cell? ⟨xb, 0, none⟩ = some (.int .i64 10) := S1.out.cl 0 0 rfl rfl
  have k2 : Hid (w1.cell? ⟨xb, 2, none⟩ = some (.int .i64 (K : Int))) := Lib.hid (S1.out.cl 0 2 rfl rfl)
  have k0h := Lib.hid k0
  have hAr : Hid (Calls Tryd.prog 64 #[.int .i64 10] w1 fun e w' => e = .returned (.int .i64 1) ∧ w' = w1) := Lib.hid (arity_any 10 w1)
  have hB1 := Lib.hid S1.out.bel
  have hKh := Lib.hid (And.intro hK1 hK6)
  have hpn : (Pr.length : Int) + 1 ≤ 2000 := by omega
  generalize Pr.length = p at *
  clear h h' hpre hFa hF hnam hn hlt hA hwa hK1 hK6 S1
  go_enter Tryd.func29, Tryd.ntmps29
  go_upto_region 2 with fail
  rw [← hw1, ← hxb]
  clear hw1 hxb a0 a1 a2
  go_wp2_with fail
  refine hAr.out.mono ?_
  rintro e w2 ⟨rfl, rfl⟩
  clear hAr
  go_wp2_with fail
  refine (hCa.out w2 hB1.out).mono ?_
  intro e w3 hE
  clear hCa g1 g2 k0
  cases hr : F10.rl Fs a with
  | none =>
    rw [hr] at hE
    obtain ⟨v, rfl, hb⟩ := hE
    have hfin : Hid (F10.rl Fs (.hat K a) = none) := Lib.hid (by rw [hrl.out, hr]; rfl)
    have T := Lib.hid (hB1.out.trans (hb.mono hB1.out.size))
    clear hb hr hok hrl
    go_wp2
    go_ret2
    rw [hfin.out]
    exact ⟨_, rfl, T.out⟩
  | some la =>
    rw [hr] at hE
    obtain ⟨v, rfl, A1, c1, rfl, hc1, hl1, hb⟩ := hE
    obtain ⟨q1, q2⟩ := hok.out la hr
    have hfin : Hid (F10.rl Fs (.hat K a) = F10.pow la (K - 1)) := Lib.hid (by rw [hrl.out, hr]; rfl)
    have T := Lib.hid (hB1.out.trans (hb.mono hB1.out.size))
    have k0 : w3.cell? ⟨xb, 0, none⟩ = some (.int .i64 10) := bel_cell hb k0h.out
    have k2' : Hid (w3.cell? ⟨xb, 2, none⟩ = some (.int .i64 (K : Int))) := Lib.hid (bel_cell hb k2.out)
    have hl32 := Lib.hid (fts_len32 q1)
    have hq1 := Lib.hid q1
    have hq2 := Lib.hid q2
    obtain ⟨n1, hn1⟩ : ∃ k, k = la.length := ⟨_, rfl⟩
    rw [← hn1] at hl1 hc1 hl32
    rw [← hn1]
    have hl1h := Lib.hid hl1
    have hc1h := Lib.hid hc1
    have hn1h := Lib.hid hn1
    clear hb hr hok hrl q1 q2 hl1 hc1 k0h k2 hn1
    go_wp2
    clear k0
    go_loopw [11, 12] (fun ov kv wr => ∃ (j : Nat) (o : List Nat), j + 1 ≤ K ∧ kv = .int .i64 ((j : Int) + 1) ∧ F10.pow la j = some o ∧ SlU w3 wr ov o) (fun _ kv _ => K - (intOf kv).toNat)
    case atStart => exact ⟨0, la, hKh.out.1, rfl, rfl, A1, c1, by rw [hn1h.out], by rw [← hn1h.out]; exact hc1h.out, by rw [← hn1h.out]; exact hl1h.out, Below.refl _ _⟩
    case round =>
      obtain ⟨j, o, hj, rfl, hpw, A2, c2, rfl, hc2, hl2, hb2⟩ := hrel
      have k2w : wr.cell? ⟨xb, 2, none⟩ = some (.int .i64 (K : Int)) := bel_cell hb2 k2'.out
      obtain ⟨n2, hn2⟩ : ∃ k, k = o.length := ⟨_, rfl⟩
      rw [← hn2] at hl2 hc2
      rw [← hn2]
      by_cases hlt : j + 1 < K
      · have g1 : (j : Int) + 1 < (K : Int) := by omega
        obtain ⟨p1, p2⟩ := pow_ok hq1.out hq2.out j o hpw
        have ho32 := fts_len32 p1
        rw [← hn2] at ho32
        have hS := Lib.hid (rstar_any o la A2 n2 c2 A1 n1 c1 wr hl2 (hl1h.out.bel hb2) (by omega) (by have := hl32.out; omega) p2 hq2.out)
        have hu : Hid (U64 (F10.str o la)) := Lib.hid (u64_op2 (op := 8) p2 hq2.out)
        have hln : Hid ((F10.str o la).length ≤ 100000) := Lib.hid (by
          have e1 := pls_len (F10.crs o la) (F10.pls o la)
          have e2 := pls_len la o
          have e3 := crs_len o la
          have e6 := hn1h.out
          have e4 : o.length * la.length ≤ 32 * 32 := Nat.mul_le_mul (by omega) (by have := hl32.out; omega)
          have := hl32.out
          show (F10.pls (F10.pls o la) (F10.crs o la)).length ≤ 100000
          omega)
        have hps := Lib.hid (pow_step hpw)
        have hih := Lib.hid hlt
        have hb2h := Lib.hid hb2
        generalize F10.str o la = st at *
        clear hlt hj hpw hc2 hl2 hb2 p1 p2 ho32 hn2
        go_wp2_with fail
        refine hS.out.mono ?_
        rintro e w5 ⟨v5, rfl, A5, c5, rfl, hc5, hl5, hb5⟩
        obtain ⟨n5, hn5⟩ : ∃ k, k = st.length := ⟨_, rfl⟩
        rw [← hn5] at hl5 hc5 hln
        rw [← hn5]
        have hFt := Lib.hid (rfits_any st A5 n5 c5 w5 hl5 hln.out hu.out)
        have T5 := Lib.hid (hb2h.out.trans (hb5.mono hb2h.out.size))
        have hl5h := Lib.hid hl5
        have hc5h := Lib.hid hc5
        have hn5h := Lib.hid hn5
        clear hS hb5 hl5 hc5 hn5 k2w g1
        obtain ⟨q, hq⟩ : ∃ q, q = F10.fts st := ⟨_, rfl⟩
        rw [← hq] at hFt hps
        replace hq := Lib.hid hq
        go_wp2_with fail
        refine hFt.out.mono ?_
        rintro e w6 ⟨rfl, rfl⟩
        clear hFt
        cases q with
        | true =>
          have hpj : Hid (F10.pow la (j + 1) = some st) := Lib.hid (by rw [hps.out]; rfl)
          have hlt := hih.out
          have hK6 := hKh.out.2
          clear hps
          go_wp2
          go_roundw
          case rel => exact ⟨j + 1, st, by omega, by go_num, hpj.out, A5, c5, by rw [hn5h.out], by rw [← hn5h.out]; exact hc5h.out, by rw [← hn5h.out]; exact hl5h.out, T5.out⟩
          case measure => simp [intOf]; omega
        | false =>
          have hpj : F10.pow la (j + 1) = none := by rw [hps.out]; rfl
          have hfn : Hid (F10.rl Fs (.hat K a) = none) := Lib.hid (by
            rw [hfin.out]
            obtain ⟨d, hd⟩ : ∃ d, K - 1 = (j + 1) + d := ⟨K - 1 - (j + 1), by have := hih.out; omega⟩
            rw [hd]; exact pow_none hpj d)
          clear hps hpj
          go_wp2
          go_ret2
          rw [hfn.out]
          exact ⟨_, rfl, T.out.trans (T5.out.mono T.out.size)⟩
      · have g1 : ¬ ((j : Int) + 1 < (K : Int)) := by omega
        have hfs : Hid (F10.rl Fs (.hat K a) = some o) := Lib.hid (by rw [hfin.out, show K - 1 = j by omega]; exact hpw)
        have hn2h := Lib.hid hn2
        have hc2h := Lib.hid hc2
        have hl2h := Lib.hid hl2
        have hb2h := Lib.hid hb2
        clear hlt hj hpw hc2 hl2 hb2 hn2
        go_wp2
        go_ret2
        rw [hfs.out]
        exact ⟨_, rfl, A2, c2, by first | (rw [hn2h.out]; done) | (rw [hn2h.out]; rfl), by rw [← hn2h.out]; exact hc2h.out, by rw [← hn2h.out]; exact hl2h.out, T.out.trans (hb2h.out.mono T.out.size)⟩
end Go.Proofs.YthbkdjbmkhmlnaaDoor
