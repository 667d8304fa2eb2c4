/- The reference's steps of a right side. -/
import Derived.Test.YthbkdjbmkhmlnaaDoorTf
namespace Go.Proofs.YthbkdjbmkhmlnaaDoor
open Go.RowKit
set_option linter.unusedVariables false

/-- steps reads a tree wherever it stands. -/
def StC (tr : F9.Tr) : Prop := ∀ (Fs : List F10.Fac) (Pr Qr : List Nd) (A : Option Addr) (n c : Nat) (FA : Option Addr) (fn fc : Nat) (w : World), Fs.length ≤ 64 → (∀ f, F10.nam tr f → f ∈ Fs) → LR ndC w A n (Pr ++ (tr.pre.map toNd ++ Qr)) → n ≤ 1000 → LR faC w FA fn (Fs.map toFa) →
  Calls Tryd.prog 28 #[.slice A n c, .int .i64 (Pr.length : Nat), .slice FA fn fc] w fun e w' => RlV w w' e (F10.rs Fs tr)
theorem root_z : ∀ (t : F9.Tr), t.wf → ∃ (y : F9.Nd) (l : List F9.Nd), t.pre = y :: l ∧ ((((y.op : Nat) : Int) == 4) = F10.isZ t)
  | .leaf x, h => ⟨x, [], rfl, by
      show (((x.op : Nat) : Int) == 4) = (x.op == 4)
      by_cases h4 : x.op = 4
      · rw [h4]; rfl
      · rw [beq_eq_false_iff_ne.2 (show x.op ≠ 4 from h4), beq_eq_false_iff_ne]; omega⟩
  | .hat k a, h => ⟨_, _, rfl, rfl⟩
  | .bin op a b, h => ⟨_, _, rfl, by
      show (((op : Nat) : Int) == 4) = false
      rw [beq_eq_false_iff_ne]; have := h.1; omega⟩
theorem stp_ok {op : Nat} {z : Bool} {m o l : List Nat} (hm : F10.fts m = true) (um : U64 m) (uo : U64 o) (h : F10.stp op z m o = some l) : F10.fts l = true ∧ U64 l := by
  have u0 : U64 (if z then [0] else o) := by
    cases z
    · exact uo
    · intro t ht
      have ht : t ∈ [0] := ht
      rw [List.mem_singleton.1 ht]; decide
  unfold F10.stp at h
  generalize (if z then [0] else o) = o' at h u0
  by_cases hc : ((op == 6) != z) = true
  · rw [if_pos hc] at h
    injection h with h
    subst h
    exact ⟨F10.fts_sub hm, fun t ht => um t (List.mem_filter.1 ht).1⟩
  · rw [if_neg hc] at h
    by_cases hf : F10.fts (F10.pls m o') = true
    · rw [if_pos hf] at h
      injection h with h
      subst h
      exact ⟨hf, u64_pls um u0⟩
    · rw [if_neg hf] at h; cases h
theorem u64_zero : U64 [0] := fun t ht => by rw [List.mem_singleton.1 ht]; decide
theorem rs_ok {A : List F10.Fac} (lA : A.length ≤ 64) : ∀ (t : F9.Tr), F10.shp t → (∀ f, F10.nam t f → f ∈ A) → ∀ l, F10.rs A t = some l → F10.fts l = true ∧ U64 l := by
  have base : ∀ (t : F9.Tr), F10.shp t → (∀ f, F10.nam t f → f ∈ A) → ∀ l, ((F10.rl A t).bind fun o => F10.stp 5 (F10.isZ t) [0] o) = some l → F10.fts l = true ∧ U64 l := by
    intro t hs hn l h
    cases hr : F10.rl A t with
    | none => rw [hr] at h; cases h
    | some o =>
      rw [hr] at h
      exact stp_ok F10.fts_zero u64_zero (rl_ok lA t hs hn o hr).2 h
  intro t
  induction t with
  | leaf x => exact base (.leaf x)
  | hat k a _ => exact base (.hat k a)
  | bin op a b iha _ =>
    intro hs hn l h
    by_cases hop : op = 5 ∨ op = 6
    · have e2 : F10.rs A (.bin op a b) = (F10.rs A a).bind fun m => (F10.rl A b).bind fun lb => F10.stp op (F10.isZ b) m lb := by
        show (if op = 5 ∨ op = 6 then _ else _) = _
        rw [if_pos hop]
      rw [e2] at h
      cases hm : F10.rs A a with
      | none => rw [hm] at h; cases h
      | some m =>
        rw [hm] at h
        obtain ⟨m1, m2⟩ := iha hs.2.2.1 (fun f hf => hn f (.inl hf)) m hm
        cases hb : F10.rl A b with
        | none =>
          have h : (F10.rl A b).bind (fun lb => F10.stp op (F10.isZ b) m lb) = some l := h
          rw [hb] at h; cases h
        | some lb =>
          have h : (F10.rl A b).bind (fun lb => F10.stp op (F10.isZ b) m lb) = some l := h
          rw [hb] at h
          exact stp_ok m1 m2 (rl_ok lA b hs.2.2.2 (fun f hf => hn f (.inr hf)) lb hb).2 h
    · have e2 : F10.rs A (.bin op a b) = (F10.rl A (.bin op a b)).bind fun l => F10.stp 5 false [0] l := by
        show (if op = 5 ∨ op = 6 then _ else _) = _
        rw [if_neg hop]
      rw [e2] at h
      exact base (.bin op a b) hs hn l h
set_option maxRecDepth 100000 in
set_option maxHeartbeats 4000000 in
theorem steps_base (tr : F9.Tr) (hw : tr.wf) (hno : ∀ op a b, tr = .bin op a b → ¬ (op = 5 ∨ op = 6)) : StC tr := by
  intro Fs Pr Qr A n c FA fn fc w hF hnam h hn hFa
  obtain ⟨y, l, hy, hz0⟩ := root_z tr hw
  have hL := list_any tr hw
  have hop : ¬ (y.op : Int) = 5 ∧ ¬ (y.op : Int) = 6 := by
    cases tr with
    | leaf x =>
      have hy : [x] = y :: l := hy
      injection hy with h1 _
      subst h1
      have := lf_op hw
      omega
    | hat k a =>
      have hy : (⟨10, [], k⟩ : F9.Nd) :: a.pre = y :: l := hy
      injection hy with h1 _
      subst h1
      show ¬ ((10 : Nat) : Int) = 5 ∧ ¬ ((10 : Nat) : Int) = 6
      omega
    | bin op a b =>
      have hy : (⟨op, [], 0⟩ : F9.Nd) :: (a.pre ++ b.pre) = y :: l := hy
      injection hy with h1 _
      subst h1
      have := hno op a b rfl
      show ¬ ((op : Nat) : Int) = 5 ∧ ¬ ((op : Nat) : Int) = 6
      omega
  have hpre : tr.pre.map toNd ++ Qr = toNd y :: (l.map toNd ++ Qr) := by rw [hy]; rfl
  have h0 := h
  rw [hpre] at h0
  obtain ⟨b0, o, rfl, hlt, a0, a1, a2⟩ := nd_at h0
  have hCb : Hid (∀ W, Below w.heap.size w W → Calls Tryd.prog 29 #[.slice (some ⟨b0, o, none⟩) n c, .int .i64 (Pr.length : Nat), .slice FA fn fc] W fun e w' => RlV W w' e (F10.rl Fs tr)) := Lib.hid fun W hW => hL Fs Pr Qr (some ⟨b0, o, none⟩) n c FA fn fc W hF hnam (h.bel hW) hn (hFa.bel hW)
  have hokb : Hid (∀ l, F10.rl Fs tr = some l → F10.fts l = true ∧ U64 l) := Lib.hid fun l hl => rl_ok hF tr (wf_shp hw) hnam l hl
  have hrs : Hid (F10.rs Fs tr = (F10.rl Fs tr).bind fun o => F10.stp 5 (F10.isZ tr) [0] o) := Lib.hid (F10.base_rs hno)
  have ha0 : Hid (w.cell? ⟨b0, o + Pr.length * 3, none⟩ = some (.int .i64 (y.op : Int))) := Lib.hid a0
  have g1 : (Pr.length : Int) < (n : Int) := by omega
  have g2 : (0 : Int) ≤ (Pr.length : Int) := by omega
  have S1 := Lib.hid ((St.new w).alloc #[.int .i64 (toNd y).o, .string (toNd y).s, .int .i64 (toNd y).k] 39 (noLof rfl))
  obtain ⟨w1, hw1⟩ : ∃ W, W = w.alloc (.cells #[.int .i64 (toNd y).o, .string (toNd y).s, .int .i64 (toNd y).k] 39) := ⟨_, rfl⟩
  obtain ⟨xb, hxb⟩ : ∃ b, b = w.heap.size := ⟨_, rfl⟩
  rw [← hw1, ← hxb] at S1
  have k0 : w1.cell? ⟨xb, 0, none⟩ = some (.int .i64 (y.op : Int)) := S1.out.cl 0 0 rfl rfl
  have hB1 := Lib.hid S1.out.bel
  have SZ := Lib.hid ((St.new w1).alloc #[.int .u64 0] 64 (noLof rfl))
  have hz1 := Lib.hid (St_glr (C := uC) (L := [0]) SZ.out 1 rfl (fun _ _ => trivial))
  obtain ⟨w2, hw2⟩ : ∃ W, W = w1.alloc (.cells #[.int .u64 0] 64) := ⟨_, rfl⟩
  obtain ⟨A1, hA1⟩ : ∃ a, a = (some ⟨w1.heap.size, 0, none⟩ : Option Addr) := ⟨_, rfl⟩
  have hB2 : Hid (Below w.heap.size w w2) := Lib.hid (by rw [hw2]; exact hB1.out.trans (SZ.out.bel.mono hB1.out.size))
  have hl1 : Hid (LR uC w2 A1 1 [0]) := Lib.hid (by rw [hw2, hA1]; exact hz1.out)
  have k02 : w2.cell? ⟨xb, 0, none⟩ = some (.int .i64 (y.op : Int)) := by rw [hw2]; exact bel_cell SZ.out.bel k0
  have k0h := Lib.hid k02
  have e5 : ((y.op : Int) == 5) = false := by rw [beq_eq_false_iff_ne]; exact hop.1
  have e6 : ((y.op : Int) == 6) = false := by rw [beq_eq_false_iff_ne]; exact hop.2
  have hz0h := Lib.hid hz0
  clear h h0 hpre hFa hF hnam hn hlt hw hno S1 hL hy hop SZ hz1 k0 hz0
  have t1 : (toNd y).o = (y.op : Int) := rfl
  generalize Pr.length = p at *
  generalize (toNd y).s = ys at *
  generalize (toNd y).k = yk at *
  rw [t1] at hw1 a0
  go_enter Tryd.func28, Tryd.ntmps28
  go_upto_region 2 with fail
  rw [← hw1, ← hxb]
  clear hw1 hxb a0 a1 a2 t1
  go_upto_region 3 with fail
  rw [← hw2, ← hA1]
  clear hw2 hA1
  go_wp2_with fail
  refine (hCb.out w2 hB2.out).mono ?_
  intro e w5 hE
  clear hCb
  cases hrb : F10.rl Fs tr with
  | none =>
    rw [hrb] at hE
    obtain ⟨v, rfl, hb⟩ := hE
    have hfn : Hid (F10.rs Fs tr = none) := Lib.hid (by rw [hrs.out, hrb]; rfl)
    have T2 := Lib.hid (hB2.out.trans (hb.mono hB2.out.size))
    clear hb hrb hokb k02
    go_wp2
    go_ret2
    rw [hfn.out]
    exact ⟨_, rfl, T2.out⟩
  | some lb =>
    rw [hrb] at hE
    obtain ⟨v, rfl, A2, c2, rfl, hc2, hl2, hb⟩ := hE
    obtain ⟨q1, q2⟩ := hokb.out lb hrb
    have hfin : Hid (F10.rs Fs tr = F10.stp 5 (F10.isZ tr) [0] lb) := Lib.hid (by rw [hrs.out, hrb]; rfl)
    have T2 := Lib.hid (hB2.out.trans (hb.mono hB2.out.size))
    have k05 : w5.cell? ⟨xb, 0, none⟩ = some (.int .i64 (y.op : Int)) := bel_cell hb k0h.out
    have y5 : w5.cell? ⟨b0, o + p * 3, none⟩ = some (.int .i64 (y.op : Int)) := bel_cell T2.out ha0.out
    have hb32 := Lib.hid (fts_len32 q1)
    obtain ⟨n2, hn2⟩ : ∃ k, k = lb.length := ⟨_, rfl⟩
    rw [← hn2] at hl2 hc2
    rw [← hn2]
    obtain ⟨M, hM⟩ : ∃ M, M = [0] := ⟨_, rfl⟩
    have hnn : Hid (1 ≤ 32 ∧ n2 ≤ 32) := Lib.hid ⟨by decide, by rw [hn2]; exact hb32.out⟩
    have hM32 : Hid (M.length ≤ 32) := Lib.hid (by rw [hM]; decide)
    have hMu : Hid (U64 M) := Lib.hid (by rw [hM]; exact u64_zero)
    have hbu := Lib.hid q2
    have hl1b : Hid (LR uC w5 A1 1 M) := Lib.hid (by rw [hM]; exact hl1.out.bel hb)
    have hl2h := Lib.hid hl2
    rw [← hM] at hfin
    obtain ⟨z, hz⟩ : ∃ z, z = F10.isZ tr := ⟨_, rfl⟩
    have hz4 : ((y.op : Int) == 4) = z := hz0h.out.trans hz.symm
    replace hz := hz.symm
    clear hb hrb hokb q1 q2 hl2 hc2 hn2 k02 hM hl1 hz0h
    cases z with
    | true =>
      have SA := Lib.hid ((St.new w5).alloc #[.int .u64 0] 64 (noLof rfl))
      have hone := Lib.hid (St_glr (C := uC) (L := [0]) SA.out 1 rfl (fun _ _ => trivial))
      have hB5 := Lib.hid SA.out.bel
      obtain ⟨w6, hw6⟩ : ∃ W, W = w5.alloc (.cells #[.int .u64 0] 64) := ⟨_, rfl⟩
      obtain ⟨B3, hB3⟩ : ∃ a, a = (some ⟨w5.heap.size, 0, none⟩ : Option Addr) := ⟨_, rfl⟩
      rw [← hw6] at hB5
      have hone2 : Hid (LR uC w6 B3 1 [0]) := Lib.hid (by rw [hw6, hB3]; exact hone.out)
      have hfn : Hid (F10.rs Fs tr = some (F10.mns M [0])) := Lib.hid (by rw [hfin.out, hz]; rfl)
      have hOp := Lib.hid (rminus_u M [0] A1 1 1 B3 1 1 w6 (hl1b.out.bel hB5.out) hone2.out (by have := hnn.out; omega) (by decide))
      have TW := Lib.hid (T2.out.trans (hB5.out.mono T2.out.size))
      generalize F10.mns M [0] = st at *
      replace hz := Lib.hid hz
      clear hone hone2 SA hB5 hl1b hl2h T2 hM32 hb32 hMu hbu hnn
      go_upto_region 14 with fail
      rw [← hw6, ← hB3]
      clear hw6 hB3
      go_wp2_with fail
      refine hOp.out.mono ?_
      rintro e w8 ⟨v8, rfl, hU⟩
      have hU2 := Lib.hid (hU.rebase TW.out)
      clear hU hOp k05 y5
      go_wp2
      go_ret2
      rw [hfn.out]
      exact ⟨_, rfl, hU2.out⟩
    | false =>
      have hfn : Hid (F10.rs Fs tr = if F10.fts (F10.pls M lb) then some (F10.pls M lb) else none) := Lib.hid (by rw [hfin.out, hz]; rfl)
      have hOp := Lib.hid (rplus_u M lb A1 1 1 A2 n2 c2 w5 hl1b.out hl2h.out (by have := hnn.out; omega) (by have := hnn.out; omega))
      have hln : Hid ((F10.pls M lb).length ≤ 100000) := Lib.hid (by have e1 := pls_len lb M; have e2 := hM32.out; have e3 := hb32.out; omega)
      have hu : Hid (U64 (F10.pls M lb)) := Lib.hid (u64_pls hMu.out hbu.out)
      have TW := Lib.hid T2.out
      generalize F10.pls M lb = st at *
      replace hz := Lib.hid hz
      clear hl1b hl2h T2 hM32 hb32 hMu hbu hnn
      go_wp2_with fail
      refine hOp.out.mono ?_
      rintro e w8 ⟨v8, rfl, A8, c8, rfl, hc8, hl8, hb8⟩
      obtain ⟨n8, hn8⟩ : ∃ k, k = st.length := ⟨_, rfl⟩
      rw [← hn8] at hl8 hc8 hln
      rw [← hn8]
      have hFt := Lib.hid (rfits_any st A8 n8 c8 w8 hl8 hln.out hu.out)
      have T8 := Lib.hid (TW.out.trans (hb8.mono TW.out.size))
      have hl8h := Lib.hid hl8
      have hc8h := Lib.hid hc8
      have hn8h := Lib.hid hn8
      clear hOp hb8 hl8 hc8 hn8 k05 y5
      obtain ⟨qf, hqf⟩ : ∃ q, q = F10.fts st := ⟨_, rfl⟩
      rw [← hqf] at hFt hfn
      replace hqf := Lib.hid hqf
      go_wp2_with fail
      refine hFt.out.mono ?_
      rintro e w9 ⟨rfl, rfl⟩
      clear hFt
      go_wp2
      go_ret2
      rw [hfn.out]
      cases qf with
      | true => exact ⟨_, rfl, A8, c8, by first | (rw [hn8h.out]; done) | (rw [hn8h.out]; rfl), by rw [← hn8h.out]; exact hc8h.out, by rw [← hn8h.out]; exact hl8h.out, T8.out⟩
      | false => exact ⟨_, rfl, T8.out⟩
set_option maxRecDepth 100000 in
set_option maxHeartbeats 4000000 in
theorem steps_five (a b : F9.Tr) (hw : (F9.Tr.bin 5 a b).wf) (hA : StC a) : StC (.bin 5 a b) := by
  intro Fs Pr Qr A n c FA fn fc w hF hnam h hn hFa
  obtain ⟨_, _, hwa, hwb⟩ := hw
  obtain ⟨y, l, hy, hz0⟩ := root_z b hwb
  have hLb := list_any b hwb
  have hpre : (F9.Tr.bin 5 a b).pre.map toNd ++ Qr = (⟨(5 : Int), ⟨#[]⟩, 0⟩ : Nd) :: (a.pre.map toNd ++ (b.pre.map toNd ++ Qr)) := by
    show (((⟨5, [], 0⟩ : F9.Nd) :: (a.pre ++ b.pre)).map toNd) ++ Qr = _
    rw [List.map_cons, List.map_append, List.cons_append, List.append_assoc]; rfl
  rw [hpre] at h
  obtain ⟨b0, o, rfl, hlt, a0, a1, a2⟩ := nd_at h
  have h' : LR ndC w (some ⟨b0, o, none⟩) n ((Pr ++ [(⟨(5 : Int), ⟨#[]⟩, 0⟩ : Nd)]) ++ (a.pre.map toNd ++ (b.pre.map toNd ++ Qr))) := by
    rw [List.append_assoc]; exact h
  have h'' : LR ndC w (some ⟨b0, o, none⟩) n (((Pr ++ [(⟨(5 : Int), ⟨#[]⟩, 0⟩ : Nd)]) ++ a.pre.map toNd) ++ (b.pre.map toNd ++ Qr)) := by
    rw [List.append_assoc]; exact h'
  obtain ⟨q, hq⟩ : ∃ q, q = Pr.length + 1 + a.pre.length := ⟨_, rfl⟩
  have hql : ((Pr ++ [(⟨(5 : Int), ⟨#[]⟩, 0⟩ : Nd)]) ++ a.pre.map toNd).length = q := by rw [List.length_append, List.length_append, List.length_singleton, List.length_map, ← hq]
  have h3 : LR ndC w (some ⟨b0, o, none⟩) n (((Pr ++ [(⟨(5 : Int), ⟨#[]⟩, 0⟩ : Nd)]) ++ a.pre.map toNd) ++ (toNd y :: (l.map toNd ++ Qr))) := by
    have e : b.pre.map toNd ++ Qr = toNd y :: (l.map toNd ++ Qr) := by rw [hy]; rfl
    rw [← e]; exact h''
  obtain ⟨b1, o1, hA1, hltq, y0, _, _⟩ := nd_at h3
  injection hA1 with hA1
  injection hA1 with e1 e2
  subst e1 e2
  rw [hql] at y0 hltq
  have hCa : Hid (∀ W, Below w.heap.size w W → Calls Tryd.prog 28 #[.slice (some ⟨b0, o, none⟩) n c, .int .i64 ((Pr.length : Int) + 1), .slice FA fn fc] W fun e w' => RlV W w' e (F10.rs Fs a)) := Lib.hid fun W hW => by
    have := hA Fs (Pr ++ [(⟨(5 : Int), ⟨#[]⟩, 0⟩ : Nd)]) _ (some ⟨b0, o, none⟩) n c FA fn fc W hF (fun f hf => hnam f (.inl hf)) (h'.bel hW) hn (hFa.bel hW)
    rw [List.length_append, List.length_singleton] at this
    exact this
  have hCb : Hid (∀ W, Below w.heap.size w W → Calls Tryd.prog 29 #[.slice (some ⟨b0, o, none⟩) n c, .int .i64 (q : Int), .slice FA fn fc] W fun e w' => RlV W w' e (F10.rl Fs b)) := Lib.hid fun W hW => by
    have := hLb Fs ((Pr ++ [(⟨(5 : Int), ⟨#[]⟩, 0⟩ : Nd)]) ++ a.pre.map toNd) Qr (some ⟨b0, o, none⟩) n c FA fn fc W hF (fun f hf => hnam f (.inr hf)) (h''.bel hW) hn (hFa.bel hW)
    rwa [hql] at this
  have hEn : Hid (∀ W, Below w.heap.size w W → Calls Tryd.prog 41 #[.slice (some ⟨b0, o, none⟩) n c, .int .i64 ((Pr.length : Int) + 1)] W fun e w' => e = .returned (.int .i64 (q : Int)) ∧ w' = W) := Lib.hid fun W hW => by
    have := rend_any a hwa (Pr ++ [(⟨(5 : Int), ⟨#[]⟩, 0⟩ : Nd)]) _ (some ⟨b0, o, none⟩) n c W (h'.bel hW) hn
    rw [List.length_append, List.length_singleton, ← hq] at this
    exact this
  have hoka : Hid (∀ l, F10.rs Fs a = some l → F10.fts l = true ∧ U64 l) := Lib.hid fun l hl => rs_ok hF a (wf_shp hwa) (fun f hf => hnam f (.inl hf)) l hl
  have hokb : Hid (∀ l, F10.rl Fs b = some l → F10.fts l = true ∧ U64 l) := Lib.hid fun l hl => rl_ok hF b (wf_shp hwb) (fun f hf => hnam f (.inr hf)) l hl
  have hrs : Hid (F10.rs Fs (.bin 5 a b) = (F10.rs Fs a).bind fun m => (F10.rl Fs b).bind fun lb => F10.stp 5 (F10.isZ b) m lb) := Lib.hid (by
    show (if 5 = 5 ∨ 5 = 6 then _ else _) = _
    rw [if_pos (by decide)])
  have ha0 : Hid (w.cell? ⟨b0, o + q * 3, none⟩ = some (.int .i64 (y.op : Int))) := Lib.hid y0
  have g1 : (Pr.length : Int) < (n : Int) := by omega
  have g2 : (0 : Int) ≤ (Pr.length : Int) := by omega
  have g3 : (q : Int) < (n : Int) := by omega
  have g4 : (0 : Int) ≤ (q : Int) := by omega
  have S1 := Lib.hid ((St.new w).alloc #[.int .i64 (5 : Int), .string ⟨#[]⟩, .int .i64 0] 39 (noLof rfl))
  obtain ⟨w1, hw1⟩ : ∃ W, W = w.alloc (.cells #[.int .i64 (5 : Int), .string ⟨#[]⟩, .int .i64 0] 39) := ⟨_, rfl⟩
  obtain ⟨xb, hxb⟩ : ∃ b, b = w.heap.size := ⟨_, rfl⟩
  rw [← hw1, ← hxb] at S1
  have k0 : w1.cell? ⟨xb, 0, none⟩ = some (.int .i64 (5 : Int)) := S1.out.cl 0 0 rfl rfl
  have hB1 := Lib.hid S1.out.bel
  have SZ := Lib.hid ((St.new w1).alloc #[.int .u64 0] 64 (noLof rfl))
  obtain ⟨w2, hw2⟩ : ∃ W, W = w1.alloc (.cells #[.int .u64 0] 64) := ⟨_, rfl⟩
  obtain ⟨A9, hA9⟩ : ∃ a, a = (some ⟨w1.heap.size, 0, none⟩ : Option Addr) := ⟨_, rfl⟩
  have hB2 : Hid (Below w.heap.size w w2) := Lib.hid (by rw [hw2]; exact hB1.out.trans (SZ.out.bel.mono hB1.out.size))
  have k02 : w2.cell? ⟨xb, 0, none⟩ = some (.int .i64 (5 : Int)) := by rw [hw2]; exact bel_cell SZ.out.bel k0
  have k0h := Lib.hid k02
  have hz0h := Lib.hid hz0
  have hpn : (Pr.length : Int) + 1 ≤ 2000 := by omega
  generalize Pr.length = p at *
  clear h h' h'' h3 hpre hFa hF hnam hn hlt hltq hwa hwb S1 hLb hy hA SZ k0 hz0 y0 hq hql
  · skip
    go_enter Tryd.func28, Tryd.ntmps28
    go_upto_region 2 with fail
    rw [← hw1, ← hxb]
    clear hw1 hxb a0 a1 a2
    go_upto_region 3 with fail
    rw [← hw2, ← hA9]
    clear hw2 hA9
    go_wp2_with fail
    clear k02
    refine (hCa.out w2 hB2.out).mono ?_
    intro e w3 hE
    clear hCa
    cases hra : F10.rs Fs a with
    | none =>
      rw [hra] at hE
      obtain ⟨v, rfl, hb⟩ := hE
      have hfn : Hid (F10.rs Fs (.bin 5 a b) = none) := Lib.hid (by rw [hrs.out, hra]; rfl)
      have T2 := Lib.hid (hB2.out.trans (hb.mono hB2.out.size))
      clear hb hra hokb hoka
      go_wp2
      go_ret2
      rw [hfn.out]
      exact ⟨_, rfl, T2.out⟩
    | some M =>
      rw [hra] at hE
      obtain ⟨v, rfl, A1, c1, rfl, hc1, hl1, hb⟩ := hE
      obtain ⟨q1, q2⟩ := hoka.out M hra
      have T := Lib.hid (hB2.out.trans (hb.mono hB2.out.size))
      have hM32 := Lib.hid (fts_len32 q1)
      have hMu := Lib.hid q2
      have hrah := Lib.hid hra
      have k03 := Lib.hid (bel_cell hb k0h.out)
      obtain ⟨n1, hn1⟩ : ∃ k, k = M.length := ⟨_, rfl⟩
      rw [← hn1] at hl1 hc1
      rw [← hn1]
      have hl1h := Lib.hid hl1
      have hn1h := Lib.hid hn1
      clear hb hra hoka q1 q2 hl1 hc1 hn1
      go_wp2_with fail
      refine (hEn.out w3 T.out).mono ?_
      rintro e w4 ⟨rfl, rfl⟩
      clear hEn
      go_wp2_with fail
      refine (hCb.out w4 T.out).mono ?_
      intro e w5 hE
      clear hCb
      cases hrb : F10.rl Fs b with
      | none =>
        rw [hrb] at hE
        obtain ⟨v, rfl, hb⟩ := hE
        have hfn : Hid (F10.rs Fs (.bin 5 a b) = none) := Lib.hid (by rw [hrs.out, hrah.out, show ((some M : Option (List Nat)).bind fun m => (F10.rl Fs b).bind fun lb => F10.stp 5 (F10.isZ b) m lb) = (F10.rl Fs b).bind fun lb => F10.stp 5 (F10.isZ b) M lb from rfl, hrb]; rfl)
        have T2 := Lib.hid (T.out.trans (hb.mono T.out.size))
        clear hb hrb hokb
        go_wp2
        go_ret2
        rw [hfn.out]
        exact ⟨_, rfl, T2.out⟩
      | some lb =>
        rw [hrb] at hE
        obtain ⟨v, rfl, A2, c2, rfl, hc2, hl2, hb⟩ := hE
        obtain ⟨q1, q2⟩ := hokb.out lb hrb
        have hfin : Hid (F10.rs Fs (.bin 5 a b) = F10.stp 5 (F10.isZ b) M lb) := Lib.hid (by rw [hrs.out, hrah.out, show ((some M : Option (List Nat)).bind fun m => (F10.rl Fs b).bind fun lb => F10.stp 5 (F10.isZ b) m lb) = (F10.rl Fs b).bind fun lb => F10.stp 5 (F10.isZ b) M lb from rfl, hrb]; rfl)
        have T2 := Lib.hid (T.out.trans (hb.mono T.out.size))
        have k05 : w5.cell? ⟨xb, 0, none⟩ = some (.int .i64 5) := bel_cell hb k03.out
        have y5 : w5.cell? ⟨b0, o + q * 3, none⟩ = some (.int .i64 (y.op : Int)) := bel_cell T2.out ha0.out
        have hb32 := Lib.hid (fts_len32 q1)
        have hl1b := Lib.hid (hl1h.out.bel hb)
        obtain ⟨n2, hn2⟩ : ∃ k, k = lb.length := ⟨_, rfl⟩
        rw [← hn2] at hl2 hc2
        rw [← hn2]
        have hnn : Hid (n1 ≤ 32 ∧ n2 ≤ 32) := Lib.hid ⟨by rw [hn1h.out]; exact hM32.out, by rw [hn2]; exact hb32.out⟩
        have hbu := Lib.hid q2
        have hl2h := Lib.hid hl2
        obtain ⟨z, hz⟩ : ∃ z, z = F10.isZ b := ⟨_, rfl⟩
        have hz4 : ((y.op : Int) == 4) = z := hz0h.out.trans hz.symm
        replace hz := hz.symm
        clear hb hrb hokb q1 q2 hl2 hc2 hn2 hl1h hz0h
        cases z with
        | true =>
          have SA := Lib.hid ((St.new w5).alloc #[.int .u64 0] 64 (noLof rfl))
          have hone := Lib.hid (St_glr (C := uC) (L := [0]) SA.out 1 rfl (fun _ _ => trivial))
          have hB5 := Lib.hid SA.out.bel
          obtain ⟨w6, hw6⟩ : ∃ W, W = w5.alloc (.cells #[.int .u64 0] 64) := ⟨_, rfl⟩
          obtain ⟨B3, hB3⟩ : ∃ a, a = (some ⟨w5.heap.size, 0, none⟩ : Option Addr) := ⟨_, rfl⟩
          rw [← hw6] at hB5
          have hone2 : Hid (LR uC w6 B3 1 [0]) := Lib.hid (by rw [hw6, hB3]; exact hone.out)
          have hfn : Hid (F10.rs Fs (.bin 5 a b) = some (F10.mns M [0])) := Lib.hid (by rw [hfin.out, hz]; rfl)
          have hOp := Lib.hid (rminus_u M [0] A1 n1 c1 B3 1 1 w6 (hl1b.out.bel hB5.out) hone2.out (by have := hnn.out; omega) (by decide))
          have TW := Lib.hid (T2.out.trans (hB5.out.mono T2.out.size))
          generalize F10.mns M [0] = st at *
          replace hz := Lib.hid hz
          clear hone hone2 SA hB5 hl1b hl2h T2 hM32 hb32 hMu hbu hnn
          go_upto_region 14 with fail
          rw [← hw6, ← hB3]
          clear hw6 hB3
          go_wp2_with fail
          refine hOp.out.mono ?_
          rintro e w8 ⟨v8, rfl, hU⟩
          have hU2 := Lib.hid (hU.rebase TW.out)
          clear hU hOp k05 y5
          go_wp2
          go_ret2
          rw [hfn.out]
          exact ⟨_, rfl, hU2.out⟩
        | false =>
          have hfn : Hid (F10.rs Fs (.bin 5 a b) = if F10.fts (F10.pls M lb) then some (F10.pls M lb) else none) := Lib.hid (by rw [hfin.out, hz]; rfl)
          have hOp := Lib.hid (rplus_u M lb A1 n1 c1 A2 n2 c2 w5 hl1b.out hl2h.out (by have := hnn.out; omega) (by have := hnn.out; omega))
          have hln : Hid ((F10.pls M lb).length ≤ 100000) := Lib.hid (by have e1 := pls_len lb M; have e2 := hM32.out; have e3 := hb32.out; omega)
          have hu : Hid (U64 (F10.pls M lb)) := Lib.hid (u64_pls hMu.out hbu.out)
          have TW := Lib.hid T2.out
          generalize F10.pls M lb = st at *
          replace hz := Lib.hid hz
          clear hl1b hl2h T2 hM32 hb32 hMu hbu hnn
          go_wp2_with fail
          refine hOp.out.mono ?_
          rintro e w8 ⟨v8, rfl, A8, c8, rfl, hc8, hl8, hb8⟩
          obtain ⟨n8, hn8⟩ : ∃ k, k = st.length := ⟨_, rfl⟩
          rw [← hn8] at hl8 hc8 hln
          rw [← hn8]
          have hFt := Lib.hid (rfits_any st A8 n8 c8 w8 hl8 hln.out hu.out)
          have T8 := Lib.hid (TW.out.trans (hb8.mono TW.out.size))
          have hl8h := Lib.hid hl8
          have hc8h := Lib.hid hc8
          have hn8h := Lib.hid hn8
          clear hOp hb8 hl8 hc8 hn8 k05 y5
          obtain ⟨qf, hqf⟩ : ∃ q, q = F10.fts st := ⟨_, rfl⟩
          rw [← hqf] at hFt hfn
          replace hqf := Lib.hid hqf
          go_wp2_with fail
          refine hFt.out.mono ?_
          rintro e w9 ⟨rfl, rfl⟩
          clear hFt
          go_wp2
          go_ret2
          rw [hfn.out]
          cases qf with
          | true => exact ⟨_, rfl, A8, c8, by first | (rw [hn8h.out]; done) | (rw [hn8h.out]; rfl), by rw [← hn8h.out]; exact hc8h.out, by rw [← hn8h.out]; exact hl8h.out, T8.out⟩
          | false => exact ⟨_, rfl, T8.out⟩
set_option maxRecDepth 100000 in
set_option maxHeartbeats 4000000 in
theorem steps_six (a b : F9.Tr) (hw : (F9.Tr.bin 6 a b).wf) (hA : StC a) : StC (.bin 6 a b) := by
  intro Fs Pr Qr A n c FA fn fc w hF hnam h hn hFa
  obtain ⟨_, _, hwa, hwb⟩ := hw
  obtain ⟨y, l, hy, hz0⟩ := root_z b hwb
  have hLb := list_any b hwb
  have hpre : (F9.Tr.bin 6 a b).pre.map toNd ++ Qr = (⟨(6 : Int), ⟨#[]⟩, 0⟩ : Nd) :: (a.pre.map toNd ++ (b.pre.map toNd ++ Qr)) := by
    show (((⟨6, [], 0⟩ : F9.Nd) :: (a.pre ++ b.pre)).map toNd) ++ Qr = _
    rw [List.map_cons, List.map_append, List.cons_append, List.append_assoc]; rfl
  rw [hpre] at h
  obtain ⟨b0, o, rfl, hlt, a0, a1, a2⟩ := nd_at h
  have h' : LR ndC w (some ⟨b0, o, none⟩) n ((Pr ++ [(⟨(6 : Int), ⟨#[]⟩, 0⟩ : Nd)]) ++ (a.pre.map toNd ++ (b.pre.map toNd ++ Qr))) := by
    rw [List.append_assoc]; exact h
  have h'' : LR ndC w (some ⟨b0, o, none⟩) n (((Pr ++ [(⟨(6 : Int), ⟨#[]⟩, 0⟩ : Nd)]) ++ a.pre.map toNd) ++ (b.pre.map toNd ++ Qr)) := by
    rw [List.append_assoc]; exact h'
  obtain ⟨q, hq⟩ : ∃ q, q = Pr.length + 1 + a.pre.length := ⟨_, rfl⟩
  have hql : ((Pr ++ [(⟨(6 : Int), ⟨#[]⟩, 0⟩ : Nd)]) ++ a.pre.map toNd).length = q := by rw [List.length_append, List.length_append, List.length_singleton, List.length_map, ← hq]
  have h3 : LR ndC w (some ⟨b0, o, none⟩) n (((Pr ++ [(⟨(6 : Int), ⟨#[]⟩, 0⟩ : Nd)]) ++ a.pre.map toNd) ++ (toNd y :: (l.map toNd ++ Qr))) := by
    have e : b.pre.map toNd ++ Qr = toNd y :: (l.map toNd ++ Qr) := by rw [hy]; rfl
    rw [← e]; exact h''
  obtain ⟨b1, o1, hA1, hltq, y0, _, _⟩ := nd_at h3
  injection hA1 with hA1
  injection hA1 with e1 e2
  subst e1 e2
  rw [hql] at y0 hltq
  have hCa : Hid (∀ W, Below w.heap.size w W → Calls Tryd.prog 28 #[.slice (some ⟨b0, o, none⟩) n c, .int .i64 ((Pr.length : Int) + 1), .slice FA fn fc] W fun e w' => RlV W w' e (F10.rs Fs a)) := Lib.hid fun W hW => by
    have := hA Fs (Pr ++ [(⟨(6 : Int), ⟨#[]⟩, 0⟩ : Nd)]) _ (some ⟨b0, o, none⟩) n c FA fn fc W hF (fun f hf => hnam f (.inl hf)) (h'.bel hW) hn (hFa.bel hW)
    rw [List.length_append, List.length_singleton] at this
    exact this
  have hCb : Hid (∀ W, Below w.heap.size w W → Calls Tryd.prog 29 #[.slice (some ⟨b0, o, none⟩) n c, .int .i64 (q : Int), .slice FA fn fc] W fun e w' => RlV W w' e (F10.rl Fs b)) := Lib.hid fun W hW => by
    have := hLb Fs ((Pr ++ [(⟨(6 : Int), ⟨#[]⟩, 0⟩ : Nd)]) ++ a.pre.map toNd) Qr (some ⟨b0, o, none⟩) n c FA fn fc W hF (fun f hf => hnam f (.inr hf)) (h''.bel hW) hn (hFa.bel hW)
    rwa [hql] at this
  have hEn : Hid (∀ W, Below w.heap.size w W → Calls Tryd.prog 41 #[.slice (some ⟨b0, o, none⟩) n c, .int .i64 ((Pr.length : Int) + 1)] W fun e w' => e = .returned (.int .i64 (q : Int)) ∧ w' = W) := Lib.hid fun W hW => by
    have := rend_any a hwa (Pr ++ [(⟨(6 : Int), ⟨#[]⟩, 0⟩ : Nd)]) _ (some ⟨b0, o, none⟩) n c W (h'.bel hW) hn
    rw [List.length_append, List.length_singleton, ← hq] at this
    exact this
  have hoka : Hid (∀ l, F10.rs Fs a = some l → F10.fts l = true ∧ U64 l) := Lib.hid fun l hl => rs_ok hF a (wf_shp hwa) (fun f hf => hnam f (.inl hf)) l hl
  have hokb : Hid (∀ l, F10.rl Fs b = some l → F10.fts l = true ∧ U64 l) := Lib.hid fun l hl => rl_ok hF b (wf_shp hwb) (fun f hf => hnam f (.inr hf)) l hl
  have hrs : Hid (F10.rs Fs (.bin 6 a b) = (F10.rs Fs a).bind fun m => (F10.rl Fs b).bind fun lb => F10.stp 6 (F10.isZ b) m lb) := Lib.hid (by
    show (if 6 = 5 ∨ 6 = 6 then _ else _) = _
    rw [if_pos (by decide)])
  have ha0 : Hid (w.cell? ⟨b0, o + q * 3, none⟩ = some (.int .i64 (y.op : Int))) := Lib.hid y0
  have g1 : (Pr.length : Int) < (n : Int) := by omega
  have g2 : (0 : Int) ≤ (Pr.length : Int) := by omega
  have g3 : (q : Int) < (n : Int) := by omega
  have g4 : (0 : Int) ≤ (q : Int) := by omega
  have S1 := Lib.hid ((St.new w).alloc #[.int .i64 (6 : Int), .string ⟨#[]⟩, .int .i64 0] 39 (noLof rfl))
  obtain ⟨w1, hw1⟩ : ∃ W, W = w.alloc (.cells #[.int .i64 (6 : Int), .string ⟨#[]⟩, .int .i64 0] 39) := ⟨_, rfl⟩
  obtain ⟨xb, hxb⟩ : ∃ b, b = w.heap.size := ⟨_, rfl⟩
  rw [← hw1, ← hxb] at S1
  have k0 : w1.cell? ⟨xb, 0, none⟩ = some (.int .i64 (6 : Int)) := S1.out.cl 0 0 rfl rfl
  have hB1 := Lib.hid S1.out.bel
  have SZ := Lib.hid ((St.new w1).alloc #[.int .u64 0] 64 (noLof rfl))
  obtain ⟨w2, hw2⟩ : ∃ W, W = w1.alloc (.cells #[.int .u64 0] 64) := ⟨_, rfl⟩
  obtain ⟨A9, hA9⟩ : ∃ a, a = (some ⟨w1.heap.size, 0, none⟩ : Option Addr) := ⟨_, rfl⟩
  have hB2 : Hid (Below w.heap.size w w2) := Lib.hid (by rw [hw2]; exact hB1.out.trans (SZ.out.bel.mono hB1.out.size))
  have k02 : w2.cell? ⟨xb, 0, none⟩ = some (.int .i64 (6 : Int)) := by rw [hw2]; exact bel_cell SZ.out.bel k0
  have k0h := Lib.hid k02
  have hz0h := Lib.hid hz0
  have hpn : (Pr.length : Int) + 1 ≤ 2000 := by omega
  generalize Pr.length = p at *
  clear h h' h'' h3 hpre hFa hF hnam hn hlt hltq hwa hwb S1 hLb hy hA SZ k0 hz0 y0 hq hql
  · skip
    go_enter Tryd.func28, Tryd.ntmps28
    go_upto_region 2 with fail
    rw [← hw1, ← hxb]
    clear hw1 hxb a0 a1 a2
    go_upto_region 3 with fail
    rw [← hw2, ← hA9]
    clear hw2 hA9
    go_wp2_with fail
    clear k02
    refine (hCa.out w2 hB2.out).mono ?_
    intro e w3 hE
    clear hCa
    cases hra : F10.rs Fs a with
    | none =>
      rw [hra] at hE
      obtain ⟨v, rfl, hb⟩ := hE
      have hfn : Hid (F10.rs Fs (.bin 6 a b) = none) := Lib.hid (by rw [hrs.out, hra]; rfl)
      have T2 := Lib.hid (hB2.out.trans (hb.mono hB2.out.size))
      clear hb hra hokb hoka
      go_wp2
      go_ret2
      rw [hfn.out]
      exact ⟨_, rfl, T2.out⟩
    | some M =>
      rw [hra] at hE
      obtain ⟨v, rfl, A1, c1, rfl, hc1, hl1, hb⟩ := hE
      obtain ⟨q1, q2⟩ := hoka.out M hra
      have T := Lib.hid (hB2.out.trans (hb.mono hB2.out.size))
      have hM32 := Lib.hid (fts_len32 q1)
      have hMu := Lib.hid q2
      have hrah := Lib.hid hra
      have k03 := Lib.hid (bel_cell hb k0h.out)
      obtain ⟨n1, hn1⟩ : ∃ k, k = M.length := ⟨_, rfl⟩
      rw [← hn1] at hl1 hc1
      rw [← hn1]
      have hl1h := Lib.hid hl1
      have hn1h := Lib.hid hn1
      clear hb hra hoka q1 q2 hl1 hc1 hn1
      go_wp2_with fail
      refine (hEn.out w3 T.out).mono ?_
      rintro e w4 ⟨rfl, rfl⟩
      clear hEn
      go_wp2_with fail
      refine (hCb.out w4 T.out).mono ?_
      intro e w5 hE
      clear hCb
      cases hrb : F10.rl Fs b with
      | none =>
        rw [hrb] at hE
        obtain ⟨v, rfl, hb⟩ := hE
        have hfn : Hid (F10.rs Fs (.bin 6 a b) = none) := Lib.hid (by rw [hrs.out, hrah.out, show ((some M : Option (List Nat)).bind fun m => (F10.rl Fs b).bind fun lb => F10.stp 6 (F10.isZ b) m lb) = (F10.rl Fs b).bind fun lb => F10.stp 6 (F10.isZ b) M lb from rfl, hrb]; rfl)
        have T2 := Lib.hid (T.out.trans (hb.mono T.out.size))
        clear hb hrb hokb
        go_wp2
        go_ret2
        rw [hfn.out]
        exact ⟨_, rfl, T2.out⟩
      | some lb =>
        rw [hrb] at hE
        obtain ⟨v, rfl, A2, c2, rfl, hc2, hl2, hb⟩ := hE
        obtain ⟨q1, q2⟩ := hokb.out lb hrb
        have hfin : Hid (F10.rs Fs (.bin 6 a b) = F10.stp 6 (F10.isZ b) M lb) := Lib.hid (by rw [hrs.out, hrah.out, show ((some M : Option (List Nat)).bind fun m => (F10.rl Fs b).bind fun lb => F10.stp 6 (F10.isZ b) m lb) = (F10.rl Fs b).bind fun lb => F10.stp 6 (F10.isZ b) M lb from rfl, hrb]; rfl)
        have T2 := Lib.hid (T.out.trans (hb.mono T.out.size))
        have k05 : w5.cell? ⟨xb, 0, none⟩ = some (.int .i64 6) := bel_cell hb k03.out
        have y5 : w5.cell? ⟨b0, o + q * 3, none⟩ = some (.int .i64 (y.op : Int)) := bel_cell T2.out ha0.out
        have hb32 := Lib.hid (fts_len32 q1)
        have hl1b := Lib.hid (hl1h.out.bel hb)
        obtain ⟨n2, hn2⟩ : ∃ k, k = lb.length := ⟨_, rfl⟩
        rw [← hn2] at hl2 hc2
        rw [← hn2]
        have hnn : Hid (n1 ≤ 32 ∧ n2 ≤ 32) := Lib.hid ⟨by rw [hn1h.out]; exact hM32.out, by rw [hn2]; exact hb32.out⟩
        have hbu := Lib.hid q2
        have hl2h := Lib.hid hl2
        obtain ⟨z, hz⟩ : ∃ z, z = F10.isZ b := ⟨_, rfl⟩
        have hz4 : ((y.op : Int) == 4) = z := hz0h.out.trans hz.symm
        replace hz := hz.symm
        clear hb hrb hokb q1 q2 hl2 hc2 hn2 hl1h hz0h
        cases z with
        | true =>
          have SA := Lib.hid ((St.new w5).alloc #[.int .u64 0] 64 (noLof rfl))
          have hone := Lib.hid (St_glr (C := uC) (L := [0]) SA.out 1 rfl (fun _ _ => trivial))
          have hB5 := Lib.hid SA.out.bel
          obtain ⟨w6, hw6⟩ : ∃ W, W = w5.alloc (.cells #[.int .u64 0] 64) := ⟨_, rfl⟩
          obtain ⟨B3, hB3⟩ : ∃ a, a = (some ⟨w5.heap.size, 0, none⟩ : Option Addr) := ⟨_, rfl⟩
          rw [← hw6] at hB5
          have hone2 : Hid (LR uC w6 B3 1 [0]) := Lib.hid (by rw [hw6, hB3]; exact hone.out)
          have hfn : Hid (F10.rs Fs (.bin 6 a b) = if F10.fts (F10.pls M [0]) then some (F10.pls M [0]) else none) := Lib.hid (by rw [hfin.out, hz]; rfl)
          have hOp := Lib.hid (rplus_u M [0] A1 n1 c1 B3 1 1 w6 (hl1b.out.bel hB5.out) hone2.out (by have := hnn.out; omega) (by decide))
          have hln : Hid ((F10.pls M [0]).length ≤ 100000) := Lib.hid (by have e1 := pls_len [0] M; have e2 := hM32.out; have e3 := hb32.out; simp at e1; omega)
          have hu : Hid (U64 (F10.pls M [0])) := Lib.hid (u64_pls hMu.out u64_zero)
          have TW := Lib.hid (T2.out.trans (hB5.out.mono T2.out.size))
          generalize F10.pls M [0] = st at *
          replace hz := Lib.hid hz
          clear hone hone2 SA hB5 hl1b hl2h T2 hM32 hb32 hMu hbu hnn
          go_upto_region 14 with fail
          rw [← hw6, ← hB3]
          clear hw6 hB3
          go_wp2_with fail
          refine hOp.out.mono ?_
          rintro e w8 ⟨v8, rfl, A8, c8, rfl, hc8, hl8, hb8⟩
          obtain ⟨n8, hn8⟩ : ∃ k, k = st.length := ⟨_, rfl⟩
          rw [← hn8] at hl8 hc8 hln
          rw [← hn8]
          have hFt := Lib.hid (rfits_any st A8 n8 c8 w8 hl8 hln.out hu.out)
          have T8 := Lib.hid (TW.out.trans (hb8.mono TW.out.size))
          have hl8h := Lib.hid hl8
          have hc8h := Lib.hid hc8
          have hn8h := Lib.hid hn8
          clear hOp hb8 hl8 hc8 hn8 k05 y5
          obtain ⟨qf, hqf⟩ : ∃ q, q = F10.fts st := ⟨_, rfl⟩
          rw [← hqf] at hFt hfn
          replace hqf := Lib.hid hqf
          go_wp2_with fail
          refine hFt.out.mono ?_
          rintro e w9 ⟨rfl, rfl⟩
          clear hFt
          go_wp2
          go_ret2
          rw [hfn.out]
          cases qf with
          | true => exact ⟨_, rfl, A8, c8, by first | (rw [hn8h.out]; done) | (rw [hn8h.out]; rfl), by rw [← hn8h.out]; exact hc8h.out, by rw [← hn8h.out]; exact hl8h.out, T8.out⟩
          | false => exact ⟨_, rfl, T8.out⟩
        | false =>
          have hfn : Hid (F10.rs Fs (.bin 6 a b) = some (F10.mns M lb)) := Lib.hid (by rw [hfin.out, hz]; rfl)
          have hOp := Lib.hid (rminus_u M lb A1 n1 c1 A2 n2 c2 w5 hl1b.out hl2h.out (by have := hnn.out; omega) (by have := hnn.out; omega))
          have TW := Lib.hid T2.out
          generalize F10.mns M lb = st at *
          replace hz := Lib.hid hz
          clear hl1b hl2h T2 hM32 hb32 hMu hbu hnn
          go_wp2_with fail
          refine hOp.out.mono ?_
          rintro e w8 ⟨v8, rfl, hU⟩
          have hU2 := Lib.hid (hU.rebase TW.out)
          clear hU hOp k05 y5
          go_wp2
          go_ret2
          rw [hfn.out]
          exact ⟨_, rfl, hU2.out⟩
theorem steps_any : ∀ (tr : F9.Tr), tr.wf → StC tr
  | .leaf x, h => steps_base (.leaf x) h (fun _ _ _ h => by cases h)
  | .hat k a, h => steps_base (.hat k a) h (fun _ _ _ h => by cases h)
  | .bin op a b, h => by
    by_cases hop : op = 5 ∨ op = 6
    · rcases hop with rfl | rfl
      · exact steps_five a b h (steps_any a h.2.2.1)
      · exact steps_six a b h (steps_any a h.2.2.1)
    · exact steps_base (.bin op a b) h (fun op' a' b' he => by cases he; exact hop)
end Go.Proofs.YthbkdjbmkhmlnaaDoor
