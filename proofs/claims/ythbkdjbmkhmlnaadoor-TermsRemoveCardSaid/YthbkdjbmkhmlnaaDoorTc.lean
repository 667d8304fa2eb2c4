/- The reference's factors of a term; the list of an expression: what it is made of. -/
import Derived.Test.YthbkdjbmkhmlnaaDoorTb
namespace Go.Proofs.YthbkdjbmkhmlnaaDoor
open Go.RowKit
set_option linter.unusedVariables false

theorem bit_u64 {t i : Nat} (ht : t < 18446744073709551616) : (bits .and .u64 ((t : Int) / 2 ^ i) 1 == 1) = t.testBit i := by
  have e1 : t / 2 ^ i < 18446744073709551616 := Nat.lt_of_le_of_lt (Nat.div_le_self _ _) ht
  have h := u64_and_nat (t / 2 ^ i) 1 e1 (by omega)
  have e : ((t / 2 ^ i : Nat) : Int) = (t : Int) / 2 ^ i := by rw [Int.natCast_ediv, Int.natCast_pow]; rfl
  rw [e] at h
  rw [show (1 : Int) = ((1 : Nat) : Int) from rfl, h, Nat.testBit_eq_decide_div_mod_eq, Nat.and_one_is_mod]
  generalize t / 2 ^ i % 2 = k
  by_cases hk : k = 1
  · rw [hk]; rfl
  · rw [decide_eq_false hk, beq_eq_false_iff_ne]; omega
set_option maxRecDepth 100000 in
set_option maxHeartbeats 4000000 in
theorem rfactors_any (fs : List Fa) (t : Nat) (A : Option Addr) (n c : Nat) (w : World) (h : LR faC w A n fs) (hn : n ≤ 64) (ht : t < 18446744073709551616) : Calls Tryd.prog 32 #[.int .u64 (t : Int), .slice A n c] w fun e w' => ∃ v, e = .returned v ∧ Gro faC w w' [] [] 37 v (pk fs t n) := by
  have hb := Lib.hid hn
  have htt := Lib.hid ht
  replace h := Lib.hid h
  clear hn ht
  go_enter Tryd.func32, Tryd.ntmps32
  go_wp2
  go_loopw [5, 6] (fun av iv wr => ∃ i : Nat, i ≤ n ∧ iv = .int .i64 i ∧ Gro faC w wr [] [] 37 av (pk fs t i)) (fun _ iv _ => n - (intOf iv).toNat)
  case atStart => exact ⟨0, Nat.zero_le _, rfl, Gro.nil_ _ (St.new w) _⟩
  case round =>
    obtain ⟨i, hin, rfl, G⟩ := hrel
    by_cases hlt : i < n
    · obtain ⟨b, o, f, rfl, hf, hfm, e0, e1⟩ := fa_get (h.out.bel G.st.bel) hlt
      obtain ⟨q, hq⟩ : ∃ q, q = t.testBit i := ⟨_, rfl⟩
      have hbit := bit_u64 htt.out (i := i)
      have hi64 : i < 64 := by have := hb.out; omega
      rw [← hq] at hbit
      have hle := Lib.hid (pk_len fs t i)
      obtain ⟨A1, c1, rfl, _, _⟩ := G.lrc
      have hih := Lib.hid hlt
      have g1 : (i : Int) < (n : Int) := by omega
      have g2 : (0 : Int) ≤ (i : Int) := by omega
      replace G := Lib.hid G
      replace hf := Lib.hid hf
      replace hq := Lib.hid hq
      clear hlt hin hfm
      cases q with
      | true =>
        have hnew := Lib.hid (pk_yes hf.out hq.out.symm)
        have GA := Lib.hid (G.out.alloc #[.string f.s, .int .i64 f.k] 37 (noLof rfl))
        have hll : Hid ((pk fs t i).length ≤ 64) := Lib.hid (by have := hle.out; have := hb.out; have := hih.out; omega)
        clear G hf hq
        go_wp2_with (at_builtin; refine Gro.wp2 rfl (.tmp 19) (.tmp 24) 34 rfl (.agg #[.string ⟨#[]⟩, .int .i64 0]) 24 Tryd.underlying34 (by kernel_rfl) rfl (fun v hv z e => by simp [Value.cells] at hv; subst e; simp at hv) rfl GA.out wr.heap.size f rfl (GA.out.st.cb 0 rfl) (fa_in _) (by have := hll.out; omega) (by have := hll.out; unfold maxLen; omega) ?_)
        intro av1 w6 G6 hmk
        replace G6 := Lib.hid (G6.sub (fun _ _ => fa_in _))
        rw [← hnew.out] at G6
        clear GA hmk hnew e0 e1 hbit
        have hlt := hih.out
        have hbb := hb.out
        go_wp2
        go_roundw
        case rel => exact ⟨i + 1, by omega, by go_num, G6.out⟩
        case measure => simp [intOf]; omega
      | false =>
        have hnew := Lib.hid (pk_no (fs := fs) hq.out.symm)
        clear hf hq
        have hlt := hih.out
        have hbb := hb.out
        go_wp2
        go_roundw
        case rel => exact ⟨i + 1, by omega, by go_num, by rw [hnew.out]; exact G.out⟩
        case measure => simp [intOf]; omega
    · obtain rfl : i = n := by omega
      replace G := Lib.hid G
      clear hlt hin
      go_wp2
      go_ret
      exact ⟨_, rfl, G.out⟩
/-- Where a tree's nodes end, wherever they stand. -/
theorem endB_con (m : Int) (n : Nd) (l : List Nd) (i : Nat) : endB m (n :: l) i = if ariB n.o < 0 then -1 else if m + (ariB n.o - 1) = 0 then ((i + 1 : Nat) : Int) else endB (m + (ariB n.o - 1)) l (i + 1) := rfl
theorem end_tr : ∀ (t : F9.Tr), t.wf → ∀ (R : List Nd) (i m : Nat), 1 ≤ m → endB (m : Int) (t.pre.map toNd ++ R) i = if m = 1 then ((i + t.pre.length : Nat) : Int) else endB ((m - 1 : Nat) : Int) R (i + t.pre.length)
  | .leaf x, h, R, i, m, hm => by
    have hop := lf_op h
    have ha : ariB (toNd x).o = ((F9.ari x.op : Nat) : Int) := ari_eq hop.1 (by omega)
    have hal : F9.ari x.op = 0 := by unfold F9.ari; rw [if_neg (by omega), if_neg (by omega)]
    rw [hal] at ha
    show endB (m : Int) (toNd x :: R) i = _
    rw [endB_con, ha, if_neg (by omega)]
    by_cases h1 : m = 1
    · rw [if_pos h1, if_pos (by omega)]; rfl
    · rw [if_neg h1, if_neg (by omega), show (m : Int) + (((0 : Nat) : Int) - 1) = ((m - 1 : Nat) : Int) by omega]; rfl
  | .hat k a, h, R, i, m, hm => by
    have ha : ariB (toNd ⟨10, [], k⟩).o = ((1 : Nat) : Int) := rfl
    show endB (m : Int) (toNd ⟨10, [], k⟩ :: (a.pre.map toNd ++ R)) i = _
    rw [endB_con, ha, if_neg (by omega), if_neg (by omega), show (m : Int) + (((1 : Nat) : Int) - 1) = (m : Int) by omega, end_tr a h.2.2 R (i + 1) m hm]
    have e : i + 1 + a.pre.length = i + (F9.Tr.hat k a).pre.length := by show _ = i + (a.pre.length + 1); omega
    rw [e]
  | .bin op a b, h, R, i, m, hm => by
    have ha : ariB (toNd ⟨op, [], 0⟩).o = ((F9.ari op : Nat) : Int) := ari_eq (by have := h.1; show 1 ≤ op; omega) (by have := h.2.1; show op ≤ 10; omega)
    have e2 : F9.ari op = 2 := by unfold F9.ari; rw [if_pos ⟨h.1, h.2.1⟩]
    rw [e2] at ha
    show endB (m : Int) (toNd ⟨op, [], 0⟩ :: ((a.pre ++ b.pre).map toNd ++ R)) i = _
    rw [endB_con, ha, if_neg (by omega), if_neg (by omega), show (m : Int) + (((2 : Nat) : Int) - 1) = ((m + 1 : Nat) : Int) by omega, List.map_append, List.append_assoc, end_tr a h.2.2.1 _ (i + 1) (m + 1) (by omega), if_neg (by omega), Nat.add_sub_cancel, end_tr b h.2.2.2 R _ m hm]
    have e : i + 1 + a.pre.length + b.pre.length = i + (F9.Tr.bin op a b).pre.length := by
      show _ = i + ((a.pre ++ b.pre).length + 1)
      rw [List.length_append]; omega
    rw [e]
theorem rend_any (tr : F9.Tr) (hw : tr.wf) (Pr Qr : List Nd) (A : Option Addr) (n c : Nat) (w : World) (h : LR ndC w A n (Pr ++ (tr.pre.map toNd ++ Qr))) (hn : n ≤ 1000) : Calls Tryd.prog 41 #[.slice A n c, .int .i64 (Pr.length : Nat)] w fun e w' => e = .returned (.int .i64 ((Pr.length + tr.pre.length : Nat) : Int)) ∧ w' = w := by
  have hl := h.len
  rw [List.length_append] at hl
  have := end_any (Pr ++ (tr.pre.map toNd ++ Qr)) A n c Pr.length w h (by omega) (by omega)
  rw [List.drop_left] at this
  have e := end_tr tr hw Qr Pr.length 1 (Nat.le_refl _)
  rw [if_pos rfl] at e
  have e' : endB 1 (tr.pre.map toNd ++ Qr) Pr.length = ((Pr.length + tr.pre.length : Nat) : Int) := e
  rwa [e'] at this
/-- The atoms that the reference reads are the tree's. -/
theorem addV_node {x : F9.Nd} (h : F9.okN x) (fs : List F10.Fac) : addV (fs.map toFa) (toNd x) = (F10.addN fs x).map toFa := by
  unfold F10.addN
  cases hf : F10.facOf x with
  | none =>
    unfold F10.facOf at hf
    have h1 : ¬ x.op = 1 := fun e => by rw [if_pos e] at hf; cases hf
    rw [if_neg h1] at hf
    have h2 : ¬ x.op = 2 := fun e => by rw [if_pos e] at hf; cases hf
    have hv : facV (toNd x) = ⟨⟨#[]⟩, 0⟩ := by
      unfold facV
      rw [if_neg (show ¬ (toNd x).o = 1 by show ¬ (x.op : Int) = 1; omega), if_neg (show ¬ (toNd x).o = 2 by show ¬ (x.op : Int) = 2; omega)]
    exact addV_no hv.symm (.inl (by decide))
  | some f =>
    have hv : facV (toNd x) = toFa f := by
      unfold F10.facOf at hf
      unfold facV
      by_cases h1 : x.op = 1
      · rw [if_pos h1] at hf
        injection hf with hf
        subst hf
        rw [if_pos (show (toNd x).o = 1 by show (x.op : Int) = 1; omega)]; rfl
      · rw [if_neg h1] at hf
        by_cases h2 : x.op = 2
        · rw [if_pos h2] at hf
          injection hf with hf
          subst hf
          rw [if_neg (show ¬ (toNd x).o = 1 by show ¬ (x.op : Int) = 1; omega), if_pos (show (toNd x).o = 2 by show (x.op : Int) = 2; omega)]; rfl
        · rw [if_neg h2] at hf; cases hf
    have hk : 0 < (toFa f).k := by
      have := fac_node h hf
      unfold facB at this
      simp only [Bool.and_eq_true, decide_eq_true_eq] at this
      omega
    show _ = (F10.addF fs f).map toFa
    rw [← adF_map]
    unfold adF
    by_cases hm : toFa f ∈ fs.map toFa
    · rw [if_pos hm, addV_no hv.symm (.inr hm)]
    · rw [if_neg hm, addV_yes hv.symm hk hm]
theorem fold_node : ∀ (l : List F9.Nd), (∀ x ∈ l, F9.okN x) → ∀ (fs : List F10.Fac), (l.map toNd).foldl addV (fs.map toFa) = (l.foldl F10.addN fs).map toFa
  | [], _, fs => rfl
  | x :: l, h, fs => by
    rw [List.map_cons, List.foldl_cons, List.foldl_cons, addV_node (h x List.mem_cons_self), fold_node l (fun y hy => h y (List.mem_cons_of_mem _ hy))]
theorem atoms_read {tr : F9.Tr} (hw : tr.wf) : (tr.pre.map toNd).foldl addV [] = (F10.atoms tr []).map toFa := by
  have := fold_node tr.pre (wf_node hw) []
  rw [List.map_nil] at this
  rw [this, F10.atoms_fold tr (wf_shp hw)]
/-- The lists of the reference: they keep the limits. -/
theorem pow_ok {a : List Nat} (hf : F10.fts a = true) (hu : U64 a) : ∀ (k : Nat) (l : List Nat), F10.pow a k = some l → F10.fts l = true ∧ U64 l
  | 0, l, h => by
    have : some a = some l := h
    injection this with this
    subst this; exact ⟨hf, hu⟩
  | k + 1, l, h => by
    have h : (F10.pow a k).bind (fun o => if F10.fts (F10.str o a) then some (F10.str o a) else none) = some l := h
    cases hp : F10.pow a k with
    | none => rw [hp] at h; cases h
    | some o =>
      rw [hp] at h
      obtain ⟨_, h2⟩ := pow_ok hf hu k o hp
      have h : (if F10.fts (F10.str o a) then some (F10.str o a) else none) = some l := h
      by_cases hs : F10.fts (F10.str o a) = true
      · rw [if_pos hs] at h
        injection h with h
        subst h
        exact ⟨hs, u64_op2 (op := 8) h2 hu⟩
      · rw [if_neg hs] at h; cases h
theorem rl_ok {A : List F10.Fac} (lA : A.length ≤ 64) : ∀ (t : F9.Tr), F10.shp t → (∀ f, F10.nam t f → f ∈ A) → ∀ l, F10.rl A t = some l → F10.fts l = true ∧ U64 l
  | .leaf x, hs, hn, l, h => by
    unfold F10.rl at h
    by_cases h3 : x.op = 3
    · rw [if_pos h3] at h
      injection h with h
      subst h
      exact ⟨by decide, fun t ht => by rw [List.mem_singleton.1 ht]; decide⟩
    · rw [if_neg h3] at h
      by_cases h4 : x.op = 4
      · rw [if_pos h4] at h
        injection h with h
        subst h
        exact ⟨by decide, fun t ht => by cases ht⟩
      · rw [if_neg h4] at h
        injection h with h
        subst h
        obtain ⟨f, hf⟩ : ∃ f, F10.facOf x = some f := by
          unfold F10.facOf
          by_cases h5 : x.op = 1
          · exact ⟨_, if_pos h5⟩
          · rw [if_neg h5, if_pos (by have := hs.1; have := hs.2; omega)]; exact ⟨_, rfl⟩
        rw [hf, Option.getD_some]
        have hi : A.idxOf f < 64 := Nat.lt_of_lt_of_le (List.idxOf_lt_length_iff.2 (hn f hf)) lA
        exact ⟨F10.fts_one (F10.siz_pow _), fun t ht => by rw [List.mem_singleton.1 ht]; exact two_pow_lt hi⟩
  | .hat k a, hs, hn, l, h => by
    have h : (F10.rl A a).bind (fun l => F10.pow l (k - 1)) = some l := h
    cases hr : F10.rl A a with
    | none => rw [hr] at h; cases h
    | some la =>
      rw [hr] at h
      obtain ⟨h1, h2⟩ := rl_ok lA a hs hn la hr
      exact pow_ok h1 h2 _ _ h
  | .bin op a b, hs, hn, l, h => by
    obtain ⟨la, lb, ha, hb, rfl⟩ := F10.rl_bin h
    obtain ⟨a1, a2⟩ := rl_ok lA a hs.2.2.1 (fun f hf => hn f (.inl hf)) la ha
    obtain ⟨b1, b2⟩ := rl_ok lA b hs.2.2.2 (fun f hf => hn f (.inr hf)) lb hb
    refine ⟨?_, u64_op2 a2 b2⟩
    rw [show F10.rl A (.bin op a b) = (F10.rl A a).bind fun la => (F10.rl A b).bind fun lb => if F10.fts (F10.op2 op la lb) then some (F10.op2 op la lb) else none from rfl, ha, hb] at h
    change (if F10.fts (F10.op2 op la lb) then some (F10.op2 op la lb) else none) = some (F10.op2 op la lb) at h
    by_cases hs : F10.fts (F10.op2 op la lb) = true
    · exact hs
    · rw [if_neg hs] at h; cases h
end Go.Proofs.YthbkdjbmkhmlnaaDoor
