/- The law Counts. -/
import Derived.Test.YtanipgjojacbfaaDoorE4
namespace Go.Proofs.YtanipgjojacbfaaDoor
open Go.RowKit Go.Lib
set_option linter.unusedVariables false

/-- n equal records of k equal fields. -/
def rep (n k : Nat) (F : Bs) : List (List Bs) := List.replicate n (List.replicate k F)
theorem rep_mem {n k : Nat} {F : Bs} {r : List Bs} (h : r ∈ rep n k F) : r = List.replicate k F ∧ 0 < n := by
  unfold rep at h
  rw [List.mem_replicate] at h
  exact ⟨h.2, by omega⟩
theorem szR_rep (d : UInt8) (k : Nat) {F : Bs} (hF : F.length ≤ 3) : szR d (List.replicate k F) ≤ k * 9 := by
  induction k with
  | zero => exact Nat.zero_le _
  | succ k ih =>
    have h1 : szF d F ≤ 9 := by
      unfold szF
      have : F.count 34 ≤ F.length := List.count_le_length
      split <;> omega
    have e : szR d (List.replicate (k + 1) F) = szF d F + szR d (List.replicate k F) := by unfold szR; rw [List.replicate_succ, List.map_cons, List.sum_cons]
    rw [e, Nat.add_mul]
    omega
theorem szL_rep (d : UInt8) (n k : Nat) {F : Bs} (hF : F.length ≤ 3) : szL d (rep n k F) ≤ n * (k * 9) := by
  induction n with
  | zero => exact Nat.zero_le _
  | succ n ih =>
    have h1 := szR_rep d k hF
    have e : szL d (rep (n + 1) k F) = szR d (List.replicate k F) + szL d (rep n k F) := by unfold szL rep; rw [List.replicate_succ, List.map_cons, List.sum_cons]
    rw [e, Nat.add_mul]
    omega
theorem rep_some {n k : Nat} (F : Bs) (hk : 1 ≤ k) : (rep n k F).any (fun r => decide (r.length = 0)) = false := List.any_eq_false.2 fun r hr => by
  rw [(rep_mem hr).1, List.length_replicate]
  simp
  omega
theorem fo_rep {n k : Nat} {F : Bs} (hF : F.length ≤ 3) (hk : 1 ≤ k) (hn : n ≤ 1024) (hk2 : 0 < n → k ≤ 32) (hnk : n * (k * 9) ≤ 65536) : fo 59 (rep n k F) = (wrL 59 (rep n k F), 0) := by
  have hb : bigS 59 (rep n k F) = false := by
    have := szL_rep 59 n k hF
    unfold bigS
    simp only [Bool.or_eq_false_iff, decide_eq_false_iff_not]
    refine ⟨⟨by unfold rep; rw [List.length_replicate]; omega, List.any_eq_false.2 fun r hr => ?_⟩, by omega⟩
    obtain ⟨h1, h2⟩ := rep_mem hr
    rw [h1, List.length_replicate]
    have := hk2 h2
    simpa using this
  unfold fo
  rw [if_neg (by decide), if_neg (by rw [rep_some F hk]; decide), if_neg (by rw [hb]; decide)]
theorem fo_rep_big {n k : Nat} {F : Bs} (hk : 1 ≤ k) (h : 1024 < n ∨ (0 < n ∧ 32 < k)) : fo 59 (rep n k F) = ([], 2) := by
  have hb : bigS 59 (rep n k F) = true := by
    unfold bigS
    simp only [Bool.or_eq_true, decide_eq_true_eq]
    rcases h with h | ⟨h1, h2⟩
    · exact .inl (.inl (by unfold rep; rw [List.length_replicate]; exact h))
    · exact .inl (.inr (List.any_eq_true.2 ⟨List.replicate k F, List.mem_replicate.2 ⟨by omega, rfl⟩, by rw [List.length_replicate]; simpa using h2⟩))
  unfold fo
  rw [if_neg (by decide), if_neg (by rw [rep_some F hk]; decide), if_pos hb]

set_option maxRecDepth 100000 in
set_option maxHeartbeats 4000000 in
theorem law_counts (s : ByteArray) (a b : Int) (w : World) (hs : s.size ≤ 9223372036854775807) (ha0 : 0 ≤ a) (ha1 : a ≤ 65535) (hb0 : 0 ≤ b) (hb1 : b ≤ 65535) (hm : Mx w) :
    Calls Tryd.prog 5 #[.string s, .int .u16 a, .int .u16 b] w fun e w' => e = .returned (.bool true) ∧ Below w.heap.size w w' := by
  have hA := Lib.hid (fun W h => awake_any W h)
  have hmh := Lib.hid hm
  obtain ⟨F, rfl⟩ := bA_eta s
  have hu1 : ((bA F).size : Int) = (F.length : Int) := by rw [bA_size]
  rw [bA_size] at hs
  have hu2 : (F.length : Int) ≤ 9223372036854775807 := by omega
  have hA1 := Lib.hid (hA.out w hm)
  by_cases k1 : 3 < F.length
  · have k1' : (3 : Int) < (F.length : Int) := by omega
    clear hm hs
    go_enter Tryd.func5, Tryd.ntmps5
    go_wp2_with fail
    refine hA1.out.mono ?_
    rintro e w1 ⟨rfl, hb⟩
    replace hb := Lib.hid hb
    go_wp2
    go_ret
    exact ⟨rfl, hb.out⟩
  have k1' : ¬ (3 : Int) < (F.length : Int) := by omega
  obtain ⟨N0, hN0⟩ : ∃ N0 : Nat, a % 1044 = (N0 : Int) := ⟨(a % 1044).toNat, by omega⟩
  obtain ⟨K0, hK0⟩ : ∃ K0 : Nat, b % 36 = (K0 : Int) := ⟨(b % 36).toNat, by omega⟩
  obtain ⟨N1, hN1⟩ : ∃ N1 : Nat, (N0 : Int) % 60 = (N1 : Int) := ⟨N0 % 60, by omega⟩
  obtain ⟨K, hK⟩ : ∃ K : Nat, 1 + (K0 : Int) = (K : Int) := ⟨1 + K0, by omega⟩
  have hKl : Hid (1 ≤ K ∧ K ≤ 36) := Lib.hid (by omega)
  have hFh : Hid (F.length ≤ 3) := Lib.hid (by omega)
  have hcond : ∀ (Q : Prop), (∀ N, N = N0 → N ≤ 1043 → N ≤ 60 → ¬ (60 : Int) < (N : Int) → Q) → (∀ N, N = N0 → N ≤ 1043 → (60 : Int) < (N : Int) → ¬ (2 : Int) < (K : Int) → Q) → (∀ N, N = N1 → N < 60 → (60 : Int) < (N0 : Int) → (2 : Int) < (K : Int) → Q) → Q := fun Q h1 h2 h3 => by
    by_cases h : 60 < N0
    · by_cases h' : 2 < K
      · exact h3 N1 rfl (by omega) (by omega) (by omega)
      · exact h2 N0 rfl (by omega) (by omega) (by omega)
    · exact h1 N0 rfl (by omega) (by omega) (by omega)
  have hK36 : (K : Int) ≤ 36 := by omega
  have hK1 : (1 : Int) ≤ (K : Int) := by omega
  have hKK0 : (K0 : Int) ≤ 35 := by omega
  have hNN0 : (N0 : Int) ≤ 1043 := by omega
  obtain ⟨iS, hiS, hzS0, hzS1, hzS2⟩ := info_parts (show (Tryd.prog.info? tStr).map (fun i => (i.zero, i.size, i.bytes)) = some (some (.string ⟨#[]⟩), 1, 16) by kernel_rfl)
  obtain ⟨iL, hiL, hzL0, hzL1, hzL2⟩ := info_parts (show (Tryd.prog.info? tLst).map (fun i => (i.zero, i.size, i.bytes)) = some (some (.slice none 0 0), 1, 24) by kernel_rfl)
  replace hiS := Lib.hid hiS; replace hzS0 := Lib.hid hzS0; replace hzS1 := Lib.hid hzS1; replace hzS2 := Lib.hid hzS2
  replace hiL := Lib.hid hiL; replace hzL0 := Lib.hid hzL0; replace hzL1 := Lib.hid hzL1; replace hzL2 := Lib.hid hzL2
  replace k1 := Lib.hid k1
  replace hcond := Lib.hid hcond
  clear hm hs hA1
  refine hcond.out _ (fun N hNN hNl hNs g1 => ?_) (fun N hNN hNl g1 g2 => ?_) (fun N hNN hNl g1 g2 => ?_)
  · clear hcond
    clear hN1
    subst hNN
    have hkn : Hid (N * (K * 9) ≤ 65536 ∨ 1024 < N) := Lib.hid (by
      by_cases h : 1024 < N
      · exact .inr h
      · refine .inl ?_
        have hKl' := hKl.out
        exact Nat.le_trans (Nat.mul_le_mul (show N ≤ 60 by omega) (show K * 9 ≤ 324 by omega)) (by decide))
    have hsm : Hid (¬ 1024 < N → (0 < N → ¬ 32 < K) → fo 59 (rep N K F) = (wrL 59 (rep N K F), 0)) := Lib.hid fun h1 h2 => fo_rep hFh.out hKl.out.1 (by omega) (fun h => by have := h2 h; omega) (by rcases hkn.out with h | h; exact h; exact absurd h h1)
    have hbg : Hid ((1024 < N ∨ (0 < N ∧ 32 < K)) → fo 59 (rep N K F) = ([], 2)) := Lib.hid fun h => fo_rep_big hKl.out.1 h
    have hNb : (N : Int) ≤ 1043 := by omega
    have hFo : Hid (∀ (R : List Row) A c W, MR W A R.length R → R.map Row.fs = rep N K F → Mx W → Calls Tryd.prog 15 #[.slice A R.length c, .int .u8 59] W fun e w' => e = .returned (.tuple #[.string (bA (fo 59 (rep N K F)).1), .int .i64 (fo 59 (rep N K F)).2]) ∧ Below W.heap.size W w') := Lib.hid fun R A c W hM hRl hW => by
      have hl : R.length = N := by rw [← List.length_map (f := Row.fs), hRl]; unfold rep; rw [List.length_replicate]
      have := format_any R A c 59 W hM (by omega) (fun r hr f hf => by
        have h1 := (rep_mem (hRl ▸ List.mem_map_of_mem hr : r.fs ∈ rep N K F)).1
        rw [h1] at hf
        have := (List.mem_replicate.1 hf).2
        rw [this]
        have := hFh.out
        omega) hW
      rw [hRl] at this
      exact this
    have hPa : Hid ((fo 59 (rep N K F)).2 = 0 → ∀ W, Mx W → Calls Tryd.prog 11 #[.string (bA (fo 59 (rep N K F)).1), .int .u8 59] W (ParR (rep N K F) 0 0 W)) := Lib.hid fun h W hW => by
      have := parse_any (bA (fo 59 (rep N K F)).1) 59 W hW
      unfold PoR at this
      rw [bA_list, po_fo h] at this
      exact this
    go_enter Tryd.func5, Tryd.ntmps5
    go_wp2
    go_loopw [9, 10] (fun lv iv wr => ∃ (i : Nat) (R : List Row), i ≤ N ∧ iv = .int .i64 i ∧ R.length = i ∧ R.map Row.fs = rep i K F ∧ wr.ownsRow w.heap.size tLst 1 lv R.length (R.map Row.val) ∧ Rows' wr w.heap.size R ∧ Below w.heap.size w wr) (fun _ iv _ => N - (intOf iv).toNat)
    case atStart => exact ⟨0, [], Nat.zero_le _, rfl, rfl, rfl, World.ownsRow_nil _ _ _ _, (fun r hr => by cases hr), Below.refl _ _⟩
    case round =>
      obtain ⟨i, R, hin, rfl, hRi, hRf, hown, hrows, hbel⟩ := hrel
      obtain ⟨A, c, rfl⟩ := own_slice hown
      rename World => W0
      replace hown := Lib.hid hown
      replace hrows := Lib.hid hrows
      replace hbel := Lib.hid hbel
      replace hRf := Lib.hid hRf
      replace hRi := Lib.hid hRi
      by_cases hlt : i < N
      · have g5 : (i : Int) < (N : Int) := by omega
        have g6 : (0 : Int) ≤ (i : Int) := by omega
        have hlh := Lib.hid hlt
        have hinh := Lib.hid hin
        generalize hrl : R.length = n at *
        replace hrl := Lib.hid hrl
        clear hin hlt
        go_wp2
        go_loopw [11, 12] (fun rv jv wx => ∃ j : Nat, j ≤ K ∧ jv = .int .i64 j ∧ wx.ownsRow W0.heap.size tStr 1 rv j (List.replicate j (sV F)) ∧ Below W0.heap.size W0 wx) (fun _ jv _ => K - (intOf jv).toNat)
        case atStart => exact ⟨0, Nat.zero_le _, rfl, World.ownsRow_nil _ _ _ _, Below.refl _ _⟩
        case round =>
          obtain ⟨j, hjk, rfl, hrow, hb1⟩ := hrel
          obtain ⟨A2, c2, rfl⟩ := own_slice hrow
          replace hrow := Lib.hid hrow
          replace hb1 := Lib.hid hb1
          by_cases hjlt : j < K
          · have g7 : (j : Int) < (K : Int) := by omega
            have g8 : (0 : Int) ≤ (j : Int) := by omega
            have hjh := Lib.hid hjlt
            have hj63 : Hid (j + 1 ≤ 1024) := Lib.hid (by have := hKl.out; omega)
            have hsz3 : Hid (W0.heap.size ≤ wr.heap.size) := Lib.hid hb1.out.size
            clear hjk hjlt
            go_wp2_with (at_builtin; refine wpList_append_own _ rfl _ _ 34 rfl W0.heap.size tStr iS (.string ⟨#[]⟩) 1 16 Tryd.underlying34 hiS.out hzS0.out hzS1.out hzS2.out rfl (by decide) _ _ _ rfl (hrow.out.alloc (.cells #[.string (bA F)] tStr)) ⟨wr.heap.size, 0, none⟩ 1 1 [.string (bA F)] rfl rfl (cell_one_new _ _ _) (fun x hx => by simp at hx; subst hx; rfl) (by have := hj63.out; unfold maxLen; omega) (by have := hj63.out; omega) (by have := hsz3.out; simp; omega) ?_)
            intro v' w5 hown5 hgrow _
            have hba := (Below.refl wr.heap.size wr).alloc (Nat.le_refl _) (.cells #[.string (bA F)] tStr)
            have hb5 := Lib.hid (hb1.out.trans ((hba.mono hsz3.out).trans (below_grown hgrow (fun k hk => ((own_bel hrow.out hba).lt k hk).1) (by have := hsz3.out; simp; omega))))
            have hown6 : Hid (w5.ownsRow W0.heap.size tStr 1 v' (j + 1) (List.replicate (j + 1) (sV F))) := Lib.hid (by rw [List.replicate_succ']; exact hown5)
            clear hown5 hgrow hba
            go_wp2
            go_roundw
            case rel => exact ⟨j + 1, by have := hjh.out; omega, by go_num, hown6.out, hb5.out⟩
            case measure => simp [intOf]; have := hjh.out; omega
          · obtain rfl : j = K := by omega
            have hrep : Hid (List.replicate j (sV F) = (List.replicate j F).map sV) := Lib.hid (by rw [List.map_replicate])
            have hrow2 : Hid (wr.ownsRow W0.heap.size tStr 1 (.slice A2 j c2) (List.replicate j F).length ((List.replicate j F).map sV)) := Lib.hid (by rw [List.length_replicate, ← hrep.out]; exact hrow.out)
            have hfne : Hid (List.replicate j F ≠ []) := Lib.hid (fun e => by have := congrArg List.length e; rw [List.length_replicate] at this; have := hKl.out; simp at *; omega)
            have hown1 := Lib.hid (own_bel hown.out hb1.out)
            have hrows1 := Lib.hid ((hrows.out.bel hb1.out).snoc (r := ⟨A2, c2, List.replicate j F⟩) (by
              have := own_less hrow2.out hbel.out.size
              show wr.ownsRow _ _ _ (.slice A2 (List.replicate j F).length c2) _ _
              rw [List.length_replicate] at this ⊢
              exact this) hfne.out)
            have hb2 := Lib.hid (hbel.out.trans (hb1.out.mono hbel.out.size))
            have hn63 : Hid (n + 1 ≤ 1044) := Lib.hid (by have := hRi.out; have := hlh.out; omega)
            have hsz3 : Hid (w.heap.size ≤ wr.heap.size) := Lib.hid hb2.out.size
            have hlr : Hid ((List.replicate j F).length = j) := Lib.hid List.length_replicate
            clear hjk hjlt hrow hown hrows hb1 hbel hrep
            go_wp2_with (at_builtin; refine wpList_append_own _ rfl _ _ 23 rfl w.heap.size tLst iL (.slice none 0 0) 1 24 Tryd.underlying23 hiL.out hzL0.out hzL1.out hzL2.out rfl (by decide) _ _ _ rfl (hown1.out.alloc (.cells #[.slice A2 j c2] tLst)) ⟨wr.heap.size, 0, none⟩ 1 1 [.slice A2 j c2] rfl rfl (cell_one_new _ _ _) (fun x hx => by simp at hx; subst hx; rfl) (by have := hn63.out; unfold maxLen; omega) (by have := hn63.out; omega) (by have := hsz3.out; simp; omega) ?_)
            intro v' w5 hown5 hgrow _
            have hba := (Below.refl wr.heap.size wr).alloc (Nat.le_refl _) (.cells #[.slice A2 j c2] tLst)
            have hb5 := Lib.hid (hb2.out.trans ((hba.mono hsz3.out).trans (below_grown hgrow (fun k hk => ((own_bel hown1.out hba).lt k hk).1) (by have := hsz3.out; simp; omega))))
            have hrows5 := Lib.hid ((hrows1.out.bel hba).grown (own_bel hown1.out hba) hgrow)
            have hown6 : Hid (w5.ownsRow w.heap.size tLst 1 v' (R ++ [(⟨A2, c2, List.replicate j F⟩ : Row)]).length ((R ++ [(⟨A2, c2, List.replicate j F⟩ : Row)]).map Row.val)) := Lib.hid (by
              rw [List.length_append, List.map_append, hrl.out]
              show w5.ownsRow _ _ _ _ (n + 1) (R.map Row.val ++ [.slice A2 (List.replicate j F).length c2])
              rw [hlr.out]
              exact hown5)
            have hRf2 : Hid ((R ++ [(⟨A2, c2, List.replicate j F⟩ : Row)]).map Row.fs = rep (i + 1) j F) := Lib.hid (by rw [List.map_append, hRf.out]; unfold rep; rw [List.replicate_succ' (n := i)]; rfl)
            have hRi2 : Hid ((R ++ [(⟨A2, c2, List.replicate j F⟩ : Row)]).length = i + 1) := Lib.hid (by rw [List.length_append, hrl.out, hRi.out]; rfl)
            clear hown5 hgrow hba hown1 hrows1
            go_wp2
            go_roundw
            case rel => exact ⟨i + 1, _, by have := hlh.out; omega, by go_num, hRi2.out, hRf2.out, hown6.out, hrows5.out, hb5.out⟩
            case measure => simp [intOf]; have := hlh.out; omega
      · obtain rfl : i = N := by omega
        have hL : LstM W0 w.heap.size A c R := ⟨hown.out, hrows.out⟩
        have hmr := Lib.hid hL.mr
        have hrw := Lib.hid (lst_rows hL)
        have hm0 := Lib.hid (hmh.out.bel hbel.out)
        have hF1 := Lib.hid (hFo.out R A c W0 hmr.out hRf.out hm0.out)
        have hRb : Hid (R.length ≤ 1043) := Lib.hid (by have := hRi.out; omega)
        obtain ⟨n, hn⟩ : ∃ n, n = R.length := ⟨_, rfl⟩
        rw [← hn] at hF1 ⊢
        replace hn := Lib.hid hn
        clear hin hlt hL hown hrows hFo
        by_cases hbig : 1024 < i ∨ (0 < i ∧ 32 < K)
        · rw [hbg.out hbig] at hF1
          clear hbg hsm hPa hkn
          go_wp2_with fail
          refine hF1.out.mono ?_
          rintro e w2 ⟨rfl, hb2⟩
          have hb3 := Lib.hid (hbel.out.trans (hb2.mono hbel.out.size))
          have hA2 := Lib.hid (hA.out w2 (hmh.out.bel hb3.out))
          clear hb2 hF1
          have hc2 : ∀ (Q : Prop), ((1024 : Int) < (i : Int) → Q) → (¬ (1024 : Int) < (i : Int) → (0 : Int) < (i : Int) → (32 : Int) < (K : Int) → Q) → Q := fun Q h1 h2 => by
            by_cases h : 1024 < i
            · exact h1 (by omega)
            · rcases hbig with h' | ⟨h', h''⟩
              · exact absurd h' h
              · exact h2 (by omega) (by omega) (by omega)
          replace hc2 := Lib.hid hc2
          clear hbig
          refine hc2.out _ (fun q1 => ?_) (fun q1 q2 q3 => ?_)
          all_goals clear hc2
          all_goals try (exfalso; omega)
          all_goals
            go_wp2_with fail
            refine hA2.out.mono ?_
            rintro e w3 ⟨rfl, hb4⟩
            have hb5 := Lib.hid (hb3.out.trans (hb4.mono hb3.out.size))
            clear hb4
            go_wp2
            go_ret
            exact ⟨by show Ending.returned (.bool (bA []).toList.isEmpty) = _; rw [bA_toList]; rfl, hb5.out⟩
        · have hs0 := hsm.out (fun h => hbig (.inl h)) (fun h h' => hbig (.inr ⟨h, h'⟩))
          have hP1 := Lib.hid (hPa.out (by rw [hs0]))
          rw [hs0] at hF1 hP1
          clear hbg hsm hPa hkn hs0
          generalize wrL 59 (rep i K F) = T at *
          go_wp2_with fail
          refine hF1.out.mono ?_
          rintro e w2 ⟨rfl, hb2⟩
          have hb3 := Lib.hid (hbel.out.trans (hb2.mono hbel.out.size))
          have hmr2 := Lib.hid (hmr.out.bel hb2)
          have hP2 := Lib.hid (hP1.out w2 (hmh.out.bel hb3.out))
          clear hb2 hF1 hmr hP1
          have hc2 : ∀ (Q : Prop), (¬ (1024 : Int) < (i : Int) → ¬ (0 : Int) < (i : Int) → Q) → (¬ (1024 : Int) < (i : Int) → (0 : Int) < (i : Int) → ¬ (32 : Int) < (K : Int) → Q) → Q := fun Q h1 h2 => by
            by_cases h : 0 < i
            · exact h2 (fun h' => hbig (.inl (by omega))) (by omega) (fun h' => hbig (.inr ⟨h, by omega⟩))
            · exact h1 (by omega) (by omega)
          replace hc2 := Lib.hid hc2
          clear hbig
          refine hc2.out _ (fun q1 q2 => ?_) (fun q1 q2 q3 => ?_)
          all_goals clear hc2
          all_goals try (exfalso; omega)
          all_goals
            go_wp2_with fail
            refine hP2.out.mono ?_
            rintro e w3 ⟨R2, A2, c2, rfl, hl2, hR2, hb4⟩
            have hb5 := Lib.hid (hb3.out.trans (hb4.mono hb3.out.size))
            have hA3 := Lib.hid (hA.out w3 (hmh.out.bel hb5.out))
            have hmr3 := Lib.hid (hmr2.out.bel hb4)
            have hmr4 := Lib.hid hl2.mr
            have hSm : Hid (∀ W, Below w3.heap.size w3 W → Calls Tryd.prog 13 #[.slice A n c, .slice A2 R2.length c2] W fun e w' => e = .returned (.bool true) ∧ ∃ q, w' = W.drewN q) := Lib.hid fun W hW => by
              rw [hn.out]
              have hl : R2.length = R.length := by rw [← List.length_map (f := Row.fs), hR2, ← hRf.out, List.length_map]
              have hRb' := hRb.out
              have := same_any R R2 A A2 R.length c R2.length c2 W (hmr3.out.bel hW) (hmr4.out.bel hW) (by omega) (by omega) hrw.out (lst_rows hl2)
              rw [decide_eq_true (hRf.out.trans hR2.symm)] at this
              exact this
            clear hb4 hl2 hR2 hP2
            go_wp2_with fail
            refine hA3.out.mono ?_
            rintro e w4 ⟨rfl, hb6⟩
            have hb7 := Lib.hid (hb5.out.trans (hb6.mono hb5.out.size))
            have hSm1 := Lib.hid (hSm.out w4 hb6)
            clear hb6 hSm hA3
            go_wp2_with fail
            refine hSm1.out.mono ?_
            rintro e w5 ⟨rfl, q, hw⟩
            have hb8 : Hid (Below w.heap.size w w5) := Lib.hid (by rw [hw]; exact below_drewN hb7.out q)
            clear hw hb7 hSm1
            go_wp2
            go_ret
            exact ⟨rfl, hb8.out⟩
  · clear hcond
    clear hN1
    subst hNN
    have hkn : Hid (N * (K * 9) ≤ 65536 ∨ 1024 < N) := Lib.hid (by
      by_cases h : 1024 < N
      · exact .inr h
      · refine .inl ?_
        have hKl' := hKl.out
        exact Nat.le_trans (Nat.mul_le_mul (show N ≤ 1024 by omega) (show K * 9 ≤ 18 by omega)) (by decide))
    have hsm : Hid (¬ 1024 < N → (0 < N → ¬ 32 < K) → fo 59 (rep N K F) = (wrL 59 (rep N K F), 0)) := Lib.hid fun h1 h2 => fo_rep hFh.out hKl.out.1 (by omega) (fun h => by have := h2 h; omega) (by rcases hkn.out with h | h; exact h; exact absurd h h1)
    have hbg : Hid ((1024 < N ∨ (0 < N ∧ 32 < K)) → fo 59 (rep N K F) = ([], 2)) := Lib.hid fun h => fo_rep_big hKl.out.1 h
    have hNb : (N : Int) ≤ 1043 := by omega
    have hFo : Hid (∀ (R : List Row) A c W, MR W A R.length R → R.map Row.fs = rep N K F → Mx W → Calls Tryd.prog 15 #[.slice A R.length c, .int .u8 59] W fun e w' => e = .returned (.tuple #[.string (bA (fo 59 (rep N K F)).1), .int .i64 (fo 59 (rep N K F)).2]) ∧ Below W.heap.size W w') := Lib.hid fun R A c W hM hRl hW => by
      have hl : R.length = N := by rw [← List.length_map (f := Row.fs), hRl]; unfold rep; rw [List.length_replicate]
      have := format_any R A c 59 W hM (by omega) (fun r hr f hf => by
        have h1 := (rep_mem (hRl ▸ List.mem_map_of_mem hr : r.fs ∈ rep N K F)).1
        rw [h1] at hf
        have := (List.mem_replicate.1 hf).2
        rw [this]
        have := hFh.out
        omega) hW
      rw [hRl] at this
      exact this
    have hPa : Hid ((fo 59 (rep N K F)).2 = 0 → ∀ W, Mx W → Calls Tryd.prog 11 #[.string (bA (fo 59 (rep N K F)).1), .int .u8 59] W (ParR (rep N K F) 0 0 W)) := Lib.hid fun h W hW => by
      have := parse_any (bA (fo 59 (rep N K F)).1) 59 W hW
      unfold PoR at this
      rw [bA_list, po_fo h] at this
      exact this
    go_enter Tryd.func5, Tryd.ntmps5
    go_wp2
    go_loopw [9, 10] (fun lv iv wr => ∃ (i : Nat) (R : List Row), i ≤ N ∧ iv = .int .i64 i ∧ R.length = i ∧ R.map Row.fs = rep i K F ∧ wr.ownsRow w.heap.size tLst 1 lv R.length (R.map Row.val) ∧ Rows' wr w.heap.size R ∧ Below w.heap.size w wr) (fun _ iv _ => N - (intOf iv).toNat)
    case atStart => exact ⟨0, [], Nat.zero_le _, rfl, rfl, rfl, World.ownsRow_nil _ _ _ _, (fun r hr => by cases hr), Below.refl _ _⟩
    case round =>
      obtain ⟨i, R, hin, rfl, hRi, hRf, hown, hrows, hbel⟩ := hrel
      obtain ⟨A, c, rfl⟩ := own_slice hown
      rename World => W0
      replace hown := Lib.hid hown
      replace hrows := Lib.hid hrows
      replace hbel := Lib.hid hbel
      replace hRf := Lib.hid hRf
      replace hRi := Lib.hid hRi
      by_cases hlt : i < N
      · have g5 : (i : Int) < (N : Int) := by omega
        have g6 : (0 : Int) ≤ (i : Int) := by omega
        have hlh := Lib.hid hlt
        have hinh := Lib.hid hin
        generalize hrl : R.length = n at *
        replace hrl := Lib.hid hrl
        clear hin hlt
        go_wp2
        go_loopw [11, 12] (fun rv jv wx => ∃ j : Nat, j ≤ K ∧ jv = .int .i64 j ∧ wx.ownsRow W0.heap.size tStr 1 rv j (List.replicate j (sV F)) ∧ Below W0.heap.size W0 wx) (fun _ jv _ => K - (intOf jv).toNat)
        case atStart => exact ⟨0, Nat.zero_le _, rfl, World.ownsRow_nil _ _ _ _, Below.refl _ _⟩
        case round =>
          obtain ⟨j, hjk, rfl, hrow, hb1⟩ := hrel
          obtain ⟨A2, c2, rfl⟩ := own_slice hrow
          replace hrow := Lib.hid hrow
          replace hb1 := Lib.hid hb1
          by_cases hjlt : j < K
          · have g7 : (j : Int) < (K : Int) := by omega
            have g8 : (0 : Int) ≤ (j : Int) := by omega
            have hjh := Lib.hid hjlt
            have hj63 : Hid (j + 1 ≤ 1024) := Lib.hid (by have := hKl.out; omega)
            have hsz3 : Hid (W0.heap.size ≤ wr.heap.size) := Lib.hid hb1.out.size
            clear hjk hjlt
            go_wp2_with (at_builtin; refine wpList_append_own _ rfl _ _ 34 rfl W0.heap.size tStr iS (.string ⟨#[]⟩) 1 16 Tryd.underlying34 hiS.out hzS0.out hzS1.out hzS2.out rfl (by decide) _ _ _ rfl (hrow.out.alloc (.cells #[.string (bA F)] tStr)) ⟨wr.heap.size, 0, none⟩ 1 1 [.string (bA F)] rfl rfl (cell_one_new _ _ _) (fun x hx => by simp at hx; subst hx; rfl) (by have := hj63.out; unfold maxLen; omega) (by have := hj63.out; omega) (by have := hsz3.out; simp; omega) ?_)
            intro v' w5 hown5 hgrow _
            have hba := (Below.refl wr.heap.size wr).alloc (Nat.le_refl _) (.cells #[.string (bA F)] tStr)
            have hb5 := Lib.hid (hb1.out.trans ((hba.mono hsz3.out).trans (below_grown hgrow (fun k hk => ((own_bel hrow.out hba).lt k hk).1) (by have := hsz3.out; simp; omega))))
            have hown6 : Hid (w5.ownsRow W0.heap.size tStr 1 v' (j + 1) (List.replicate (j + 1) (sV F))) := Lib.hid (by rw [List.replicate_succ']; exact hown5)
            clear hown5 hgrow hba
            go_wp2
            go_roundw
            case rel => exact ⟨j + 1, by have := hjh.out; omega, by go_num, hown6.out, hb5.out⟩
            case measure => simp [intOf]; have := hjh.out; omega
          · obtain rfl : j = K := by omega
            have hrep : Hid (List.replicate j (sV F) = (List.replicate j F).map sV) := Lib.hid (by rw [List.map_replicate])
            have hrow2 : Hid (wr.ownsRow W0.heap.size tStr 1 (.slice A2 j c2) (List.replicate j F).length ((List.replicate j F).map sV)) := Lib.hid (by rw [List.length_replicate, ← hrep.out]; exact hrow.out)
            have hfne : Hid (List.replicate j F ≠ []) := Lib.hid (fun e => by have := congrArg List.length e; rw [List.length_replicate] at this; have := hKl.out; simp at *; omega)
            have hown1 := Lib.hid (own_bel hown.out hb1.out)
            have hrows1 := Lib.hid ((hrows.out.bel hb1.out).snoc (r := ⟨A2, c2, List.replicate j F⟩) (by
              have := own_less hrow2.out hbel.out.size
              show wr.ownsRow _ _ _ (.slice A2 (List.replicate j F).length c2) _ _
              rw [List.length_replicate] at this ⊢
              exact this) hfne.out)
            have hb2 := Lib.hid (hbel.out.trans (hb1.out.mono hbel.out.size))
            have hn63 : Hid (n + 1 ≤ 1044) := Lib.hid (by have := hRi.out; have := hlh.out; omega)
            have hsz3 : Hid (w.heap.size ≤ wr.heap.size) := Lib.hid hb2.out.size
            have hlr : Hid ((List.replicate j F).length = j) := Lib.hid List.length_replicate
            clear hjk hjlt hrow hown hrows hb1 hbel hrep
            go_wp2_with (at_builtin; refine wpList_append_own _ rfl _ _ 23 rfl w.heap.size tLst iL (.slice none 0 0) 1 24 Tryd.underlying23 hiL.out hzL0.out hzL1.out hzL2.out rfl (by decide) _ _ _ rfl (hown1.out.alloc (.cells #[.slice A2 j c2] tLst)) ⟨wr.heap.size, 0, none⟩ 1 1 [.slice A2 j c2] rfl rfl (cell_one_new _ _ _) (fun x hx => by simp at hx; subst hx; rfl) (by have := hn63.out; unfold maxLen; omega) (by have := hn63.out; omega) (by have := hsz3.out; simp; omega) ?_)
            intro v' w5 hown5 hgrow _
            have hba := (Below.refl wr.heap.size wr).alloc (Nat.le_refl _) (.cells #[.slice A2 j c2] tLst)
            have hb5 := Lib.hid (hb2.out.trans ((hba.mono hsz3.out).trans (below_grown hgrow (fun k hk => ((own_bel hown1.out hba).lt k hk).1) (by have := hsz3.out; simp; omega))))
            have hrows5 := Lib.hid ((hrows1.out.bel hba).grown (own_bel hown1.out hba) hgrow)
            have hown6 : Hid (w5.ownsRow w.heap.size tLst 1 v' (R ++ [(⟨A2, c2, List.replicate j F⟩ : Row)]).length ((R ++ [(⟨A2, c2, List.replicate j F⟩ : Row)]).map Row.val)) := Lib.hid (by
              rw [List.length_append, List.map_append, hrl.out]
              show w5.ownsRow _ _ _ _ (n + 1) (R.map Row.val ++ [.slice A2 (List.replicate j F).length c2])
              rw [hlr.out]
              exact hown5)
            have hRf2 : Hid ((R ++ [(⟨A2, c2, List.replicate j F⟩ : Row)]).map Row.fs = rep (i + 1) j F) := Lib.hid (by rw [List.map_append, hRf.out]; unfold rep; rw [List.replicate_succ' (n := i)]; rfl)
            have hRi2 : Hid ((R ++ [(⟨A2, c2, List.replicate j F⟩ : Row)]).length = i + 1) := Lib.hid (by rw [List.length_append, hrl.out, hRi.out]; rfl)
            clear hown5 hgrow hba hown1 hrows1
            go_wp2
            go_roundw
            case rel => exact ⟨i + 1, _, by have := hlh.out; omega, by go_num, hRi2.out, hRf2.out, hown6.out, hrows5.out, hb5.out⟩
            case measure => simp [intOf]; have := hlh.out; omega
      · obtain rfl : i = N := by omega
        have hL : LstM W0 w.heap.size A c R := ⟨hown.out, hrows.out⟩
        have hmr := Lib.hid hL.mr
        have hrw := Lib.hid (lst_rows hL)
        have hm0 := Lib.hid (hmh.out.bel hbel.out)
        have hF1 := Lib.hid (hFo.out R A c W0 hmr.out hRf.out hm0.out)
        have hRb : Hid (R.length ≤ 1043) := Lib.hid (by have := hRi.out; omega)
        obtain ⟨n, hn⟩ : ∃ n, n = R.length := ⟨_, rfl⟩
        rw [← hn] at hF1 ⊢
        replace hn := Lib.hid hn
        clear hin hlt hL hown hrows hFo
        by_cases hbig : 1024 < i ∨ (0 < i ∧ 32 < K)
        · rw [hbg.out hbig] at hF1
          clear hbg hsm hPa hkn
          go_wp2_with fail
          refine hF1.out.mono ?_
          rintro e w2 ⟨rfl, hb2⟩
          have hb3 := Lib.hid (hbel.out.trans (hb2.mono hbel.out.size))
          have hA2 := Lib.hid (hA.out w2 (hmh.out.bel hb3.out))
          clear hb2 hF1
          have hc2 : ∀ (Q : Prop), ((1024 : Int) < (i : Int) → Q) → (¬ (1024 : Int) < (i : Int) → (0 : Int) < (i : Int) → (32 : Int) < (K : Int) → Q) → Q := fun Q h1 h2 => by
            by_cases h : 1024 < i
            · exact h1 (by omega)
            · rcases hbig with h' | ⟨h', h''⟩
              · exact absurd h' h
              · exact h2 (by omega) (by omega) (by omega)
          replace hc2 := Lib.hid hc2
          clear hbig
          refine hc2.out _ (fun q1 => ?_) (fun q1 q2 q3 => ?_)
          all_goals clear hc2
          all_goals try (exfalso; omega)
          all_goals
            go_wp2_with fail
            refine hA2.out.mono ?_
            rintro e w3 ⟨rfl, hb4⟩
            have hb5 := Lib.hid (hb3.out.trans (hb4.mono hb3.out.size))
            clear hb4
            go_wp2
            go_ret
            exact ⟨by show Ending.returned (.bool (bA []).toList.isEmpty) = _; rw [bA_toList]; rfl, hb5.out⟩
        · have hs0 := hsm.out (fun h => hbig (.inl h)) (fun h h' => hbig (.inr ⟨h, h'⟩))
          have hP1 := Lib.hid (hPa.out (by rw [hs0]))
          rw [hs0] at hF1 hP1
          clear hbg hsm hPa hkn hs0
          generalize wrL 59 (rep i K F) = T at *
          go_wp2_with fail
          refine hF1.out.mono ?_
          rintro e w2 ⟨rfl, hb2⟩
          have hb3 := Lib.hid (hbel.out.trans (hb2.mono hbel.out.size))
          have hmr2 := Lib.hid (hmr.out.bel hb2)
          have hP2 := Lib.hid (hP1.out w2 (hmh.out.bel hb3.out))
          clear hb2 hF1 hmr hP1
          have hc2 : ∀ (Q : Prop), (¬ (1024 : Int) < (i : Int) → ¬ (0 : Int) < (i : Int) → Q) → (¬ (1024 : Int) < (i : Int) → (0 : Int) < (i : Int) → ¬ (32 : Int) < (K : Int) → Q) → Q := fun Q h1 h2 => by
            by_cases h : 0 < i
            · exact h2 (fun h' => hbig (.inl (by omega))) (by omega) (fun h' => hbig (.inr ⟨h, by omega⟩))
            · exact h1 (by omega) (by omega)
          replace hc2 := Lib.hid hc2
          clear hbig
          refine hc2.out _ (fun q1 q2 => ?_) (fun q1 q2 q3 => ?_)
          all_goals clear hc2
          all_goals try (exfalso; omega)
          all_goals
            go_wp2_with fail
            refine hP2.out.mono ?_
            rintro e w3 ⟨R2, A2, c2, rfl, hl2, hR2, hb4⟩
            have hb5 := Lib.hid (hb3.out.trans (hb4.mono hb3.out.size))
            have hA3 := Lib.hid (hA.out w3 (hmh.out.bel hb5.out))
            have hmr3 := Lib.hid (hmr2.out.bel hb4)
            have hmr4 := Lib.hid hl2.mr
            have hSm : Hid (∀ W, Below w3.heap.size w3 W → Calls Tryd.prog 13 #[.slice A n c, .slice A2 R2.length c2] W fun e w' => e = .returned (.bool true) ∧ ∃ q, w' = W.drewN q) := Lib.hid fun W hW => by
              rw [hn.out]
              have hl : R2.length = R.length := by rw [← List.length_map (f := Row.fs), hR2, ← hRf.out, List.length_map]
              have hRb' := hRb.out
              have := same_any R R2 A A2 R.length c R2.length c2 W (hmr3.out.bel hW) (hmr4.out.bel hW) (by omega) (by omega) hrw.out (lst_rows hl2)
              rw [decide_eq_true (hRf.out.trans hR2.symm)] at this
              exact this
            clear hb4 hl2 hR2 hP2
            go_wp2_with fail
            refine hA3.out.mono ?_
            rintro e w4 ⟨rfl, hb6⟩
            have hb7 := Lib.hid (hb5.out.trans (hb6.mono hb5.out.size))
            have hSm1 := Lib.hid (hSm.out w4 hb6)
            clear hb6 hSm hA3
            go_wp2_with fail
            refine hSm1.out.mono ?_
            rintro e w5 ⟨rfl, q, hw⟩
            have hb8 : Hid (Below w.heap.size w w5) := Lib.hid (by rw [hw]; exact below_drewN hb7.out q)
            clear hw hb7 hSm1
            go_wp2
            go_ret
            exact ⟨rfl, hb8.out⟩
  · clear hcond
    subst hNN
    have hkn : Hid (N * (K * 9) ≤ 65536 ∨ 1024 < N) := Lib.hid (by
      by_cases h : 1024 < N
      · exact .inr h
      · refine .inl ?_
        have hKl' := hKl.out
        exact Nat.le_trans (Nat.mul_le_mul (show N ≤ 60 by omega) (show K * 9 ≤ 324 by omega)) (by decide))
    have hsm : Hid (¬ 1024 < N → (0 < N → ¬ 32 < K) → fo 59 (rep N K F) = (wrL 59 (rep N K F), 0)) := Lib.hid fun h1 h2 => fo_rep hFh.out hKl.out.1 (by omega) (fun h => by have := h2 h; omega) (by rcases hkn.out with h | h; exact h; exact absurd h h1)
    have hbg : Hid ((1024 < N ∨ (0 < N ∧ 32 < K)) → fo 59 (rep N K F) = ([], 2)) := Lib.hid fun h => fo_rep_big hKl.out.1 h
    have hNb : (N : Int) ≤ 1043 := by omega
    have hFo : Hid (∀ (R : List Row) A c W, MR W A R.length R → R.map Row.fs = rep N K F → Mx W → Calls Tryd.prog 15 #[.slice A R.length c, .int .u8 59] W fun e w' => e = .returned (.tuple #[.string (bA (fo 59 (rep N K F)).1), .int .i64 (fo 59 (rep N K F)).2]) ∧ Below W.heap.size W w') := Lib.hid fun R A c W hM hRl hW => by
      have hl : R.length = N := by rw [← List.length_map (f := Row.fs), hRl]; unfold rep; rw [List.length_replicate]
      have := format_any R A c 59 W hM (by omega) (fun r hr f hf => by
        have h1 := (rep_mem (hRl ▸ List.mem_map_of_mem hr : r.fs ∈ rep N K F)).1
        rw [h1] at hf
        have := (List.mem_replicate.1 hf).2
        rw [this]
        have := hFh.out
        omega) hW
      rw [hRl] at this
      exact this
    have hPa : Hid ((fo 59 (rep N K F)).2 = 0 → ∀ W, Mx W → Calls Tryd.prog 11 #[.string (bA (fo 59 (rep N K F)).1), .int .u8 59] W (ParR (rep N K F) 0 0 W)) := Lib.hid fun h W hW => by
      have := parse_any (bA (fo 59 (rep N K F)).1) 59 W hW
      unfold PoR at this
      rw [bA_list, po_fo h] at this
      exact this
    go_enter Tryd.func5, Tryd.ntmps5
    go_wp2
    go_loopw [9, 10] (fun lv iv wr => ∃ (i : Nat) (R : List Row), i ≤ N ∧ iv = .int .i64 i ∧ R.length = i ∧ R.map Row.fs = rep i K F ∧ wr.ownsRow w.heap.size tLst 1 lv R.length (R.map Row.val) ∧ Rows' wr w.heap.size R ∧ Below w.heap.size w wr) (fun _ iv _ => N - (intOf iv).toNat)
    case atStart => exact ⟨0, [], Nat.zero_le _, rfl, rfl, rfl, World.ownsRow_nil _ _ _ _, (fun r hr => by cases hr), Below.refl _ _⟩
    case round =>
      obtain ⟨i, R, hin, rfl, hRi, hRf, hown, hrows, hbel⟩ := hrel
      obtain ⟨A, c, rfl⟩ := own_slice hown
      rename World => W0
      replace hown := Lib.hid hown
      replace hrows := Lib.hid hrows
      replace hbel := Lib.hid hbel
      replace hRf := Lib.hid hRf
      replace hRi := Lib.hid hRi
      by_cases hlt : i < N
      · have g5 : (i : Int) < (N : Int) := by omega
        have g6 : (0 : Int) ≤ (i : Int) := by omega
        have hlh := Lib.hid hlt
        have hinh := Lib.hid hin
        generalize hrl : R.length = n at *
        replace hrl := Lib.hid hrl
        clear hin hlt
        go_wp2
        go_loopw [11, 12] (fun rv jv wx => ∃ j : Nat, j ≤ K ∧ jv = .int .i64 j ∧ wx.ownsRow W0.heap.size tStr 1 rv j (List.replicate j (sV F)) ∧ Below W0.heap.size W0 wx) (fun _ jv _ => K - (intOf jv).toNat)
        case atStart => exact ⟨0, Nat.zero_le _, rfl, World.ownsRow_nil _ _ _ _, Below.refl _ _⟩
        case round =>
          obtain ⟨j, hjk, rfl, hrow, hb1⟩ := hrel
          obtain ⟨A2, c2, rfl⟩ := own_slice hrow
          replace hrow := Lib.hid hrow
          replace hb1 := Lib.hid hb1
          by_cases hjlt : j < K
          · have g7 : (j : Int) < (K : Int) := by omega
            have g8 : (0 : Int) ≤ (j : Int) := by omega
            have hjh := Lib.hid hjlt
            have hj63 : Hid (j + 1 ≤ 1024) := Lib.hid (by have := hKl.out; omega)
            have hsz3 : Hid (W0.heap.size ≤ wr.heap.size) := Lib.hid hb1.out.size
            clear hjk hjlt
            go_wp2_with (at_builtin; refine wpList_append_own _ rfl _ _ 34 rfl W0.heap.size tStr iS (.string ⟨#[]⟩) 1 16 Tryd.underlying34 hiS.out hzS0.out hzS1.out hzS2.out rfl (by decide) _ _ _ rfl (hrow.out.alloc (.cells #[.string (bA F)] tStr)) ⟨wr.heap.size, 0, none⟩ 1 1 [.string (bA F)] rfl rfl (cell_one_new _ _ _) (fun x hx => by simp at hx; subst hx; rfl) (by have := hj63.out; unfold maxLen; omega) (by have := hj63.out; omega) (by have := hsz3.out; simp; omega) ?_)
            intro v' w5 hown5 hgrow _
            have hba := (Below.refl wr.heap.size wr).alloc (Nat.le_refl _) (.cells #[.string (bA F)] tStr)
            have hb5 := Lib.hid (hb1.out.trans ((hba.mono hsz3.out).trans (below_grown hgrow (fun k hk => ((own_bel hrow.out hba).lt k hk).1) (by have := hsz3.out; simp; omega))))
            have hown6 : Hid (w5.ownsRow W0.heap.size tStr 1 v' (j + 1) (List.replicate (j + 1) (sV F))) := Lib.hid (by rw [List.replicate_succ']; exact hown5)
            clear hown5 hgrow hba
            go_wp2
            go_roundw
            case rel => exact ⟨j + 1, by have := hjh.out; omega, by go_num, hown6.out, hb5.out⟩
            case measure => simp [intOf]; have := hjh.out; omega
          · obtain rfl : j = K := by omega
            have hrep : Hid (List.replicate j (sV F) = (List.replicate j F).map sV) := Lib.hid (by rw [List.map_replicate])
            have hrow2 : Hid (wr.ownsRow W0.heap.size tStr 1 (.slice A2 j c2) (List.replicate j F).length ((List.replicate j F).map sV)) := Lib.hid (by rw [List.length_replicate, ← hrep.out]; exact hrow.out)
            have hfne : Hid (List.replicate j F ≠ []) := Lib.hid (fun e => by have := congrArg List.length e; rw [List.length_replicate] at this; have := hKl.out; simp at *; omega)
            have hown1 := Lib.hid (own_bel hown.out hb1.out)
            have hrows1 := Lib.hid ((hrows.out.bel hb1.out).snoc (r := ⟨A2, c2, List.replicate j F⟩) (by
              have := own_less hrow2.out hbel.out.size
              show wr.ownsRow _ _ _ (.slice A2 (List.replicate j F).length c2) _ _
              rw [List.length_replicate] at this ⊢
              exact this) hfne.out)
            have hb2 := Lib.hid (hbel.out.trans (hb1.out.mono hbel.out.size))
            have hn63 : Hid (n + 1 ≤ 1044) := Lib.hid (by have := hRi.out; have := hlh.out; omega)
            have hsz3 : Hid (w.heap.size ≤ wr.heap.size) := Lib.hid hb2.out.size
            have hlr : Hid ((List.replicate j F).length = j) := Lib.hid List.length_replicate
            clear hjk hjlt hrow hown hrows hb1 hbel hrep
            go_wp2_with (at_builtin; refine wpList_append_own _ rfl _ _ 23 rfl w.heap.size tLst iL (.slice none 0 0) 1 24 Tryd.underlying23 hiL.out hzL0.out hzL1.out hzL2.out rfl (by decide) _ _ _ rfl (hown1.out.alloc (.cells #[.slice A2 j c2] tLst)) ⟨wr.heap.size, 0, none⟩ 1 1 [.slice A2 j c2] rfl rfl (cell_one_new _ _ _) (fun x hx => by simp at hx; subst hx; rfl) (by have := hn63.out; unfold maxLen; omega) (by have := hn63.out; omega) (by have := hsz3.out; simp; omega) ?_)
            intro v' w5 hown5 hgrow _
            have hba := (Below.refl wr.heap.size wr).alloc (Nat.le_refl _) (.cells #[.slice A2 j c2] tLst)
            have hb5 := Lib.hid (hb2.out.trans ((hba.mono hsz3.out).trans (below_grown hgrow (fun k hk => ((own_bel hown1.out hba).lt k hk).1) (by have := hsz3.out; simp; omega))))
            have hrows5 := Lib.hid ((hrows1.out.bel hba).grown (own_bel hown1.out hba) hgrow)
            have hown6 : Hid (w5.ownsRow w.heap.size tLst 1 v' (R ++ [(⟨A2, c2, List.replicate j F⟩ : Row)]).length ((R ++ [(⟨A2, c2, List.replicate j F⟩ : Row)]).map Row.val)) := Lib.hid (by
              rw [List.length_append, List.map_append, hrl.out]
              show w5.ownsRow _ _ _ _ (n + 1) (R.map Row.val ++ [.slice A2 (List.replicate j F).length c2])
              rw [hlr.out]
              exact hown5)
            have hRf2 : Hid ((R ++ [(⟨A2, c2, List.replicate j F⟩ : Row)]).map Row.fs = rep (i + 1) j F) := Lib.hid (by rw [List.map_append, hRf.out]; unfold rep; rw [List.replicate_succ' (n := i)]; rfl)
            have hRi2 : Hid ((R ++ [(⟨A2, c2, List.replicate j F⟩ : Row)]).length = i + 1) := Lib.hid (by rw [List.length_append, hrl.out, hRi.out]; rfl)
            clear hown5 hgrow hba hown1 hrows1
            go_wp2
            go_roundw
            case rel => exact ⟨i + 1, _, by have := hlh.out; omega, by go_num, hRi2.out, hRf2.out, hown6.out, hrows5.out, hb5.out⟩
            case measure => simp [intOf]; have := hlh.out; omega
      · obtain rfl : i = N := by omega
        have hL : LstM W0 w.heap.size A c R := ⟨hown.out, hrows.out⟩
        have hmr := Lib.hid hL.mr
        have hrw := Lib.hid (lst_rows hL)
        have hm0 := Lib.hid (hmh.out.bel hbel.out)
        have hF1 := Lib.hid (hFo.out R A c W0 hmr.out hRf.out hm0.out)
        have hRb : Hid (R.length ≤ 1043) := Lib.hid (by have := hRi.out; omega)
        obtain ⟨n, hn⟩ : ∃ n, n = R.length := ⟨_, rfl⟩
        rw [← hn] at hF1 ⊢
        replace hn := Lib.hid hn
        clear hin hlt hL hown hrows hFo
        by_cases hbig : 1024 < i ∨ (0 < i ∧ 32 < K)
        · rw [hbg.out hbig] at hF1
          clear hbg hsm hPa hkn
          go_wp2_with fail
          refine hF1.out.mono ?_
          rintro e w2 ⟨rfl, hb2⟩
          have hb3 := Lib.hid (hbel.out.trans (hb2.mono hbel.out.size))
          have hA2 := Lib.hid (hA.out w2 (hmh.out.bel hb3.out))
          clear hb2 hF1
          have hc2 : ∀ (Q : Prop), ((1024 : Int) < (i : Int) → Q) → (¬ (1024 : Int) < (i : Int) → (0 : Int) < (i : Int) → (32 : Int) < (K : Int) → Q) → Q := fun Q h1 h2 => by
            by_cases h : 1024 < i
            · exact h1 (by omega)
            · rcases hbig with h' | ⟨h', h''⟩
              · exact absurd h' h
              · exact h2 (by omega) (by omega) (by omega)
          replace hc2 := Lib.hid hc2
          clear hbig
          refine hc2.out _ (fun q1 => ?_) (fun q1 q2 q3 => ?_)
          all_goals clear hc2
          all_goals try (exfalso; omega)
          all_goals
            go_wp2_with fail
            refine hA2.out.mono ?_
            rintro e w3 ⟨rfl, hb4⟩
            have hb5 := Lib.hid (hb3.out.trans (hb4.mono hb3.out.size))
            clear hb4
            go_wp2
            go_ret
            exact ⟨by show Ending.returned (.bool (bA []).toList.isEmpty) = _; rw [bA_toList]; rfl, hb5.out⟩
        · have hs0 := hsm.out (fun h => hbig (.inl h)) (fun h h' => hbig (.inr ⟨h, h'⟩))
          have hP1 := Lib.hid (hPa.out (by rw [hs0]))
          rw [hs0] at hF1 hP1
          clear hbg hsm hPa hkn hs0
          generalize wrL 59 (rep i K F) = T at *
          go_wp2_with fail
          refine hF1.out.mono ?_
          rintro e w2 ⟨rfl, hb2⟩
          have hb3 := Lib.hid (hbel.out.trans (hb2.mono hbel.out.size))
          have hmr2 := Lib.hid (hmr.out.bel hb2)
          have hP2 := Lib.hid (hP1.out w2 (hmh.out.bel hb3.out))
          clear hb2 hF1 hmr hP1
          have hc2 : ∀ (Q : Prop), (¬ (1024 : Int) < (i : Int) → ¬ (0 : Int) < (i : Int) → Q) → (¬ (1024 : Int) < (i : Int) → (0 : Int) < (i : Int) → ¬ (32 : Int) < (K : Int) → Q) → Q := fun Q h1 h2 => by
            by_cases h : 0 < i
            · exact h2 (fun h' => hbig (.inl (by omega))) (by omega) (fun h' => hbig (.inr ⟨h, by omega⟩))
            · exact h1 (by omega) (by omega)
          replace hc2 := Lib.hid hc2
          clear hbig
          refine hc2.out _ (fun q1 q2 => ?_) (fun q1 q2 q3 => ?_)
          all_goals clear hc2
          all_goals try (exfalso; omega)
          all_goals
            go_wp2_with fail
            refine hP2.out.mono ?_
            rintro e w3 ⟨R2, A2, c2, rfl, hl2, hR2, hb4⟩
            have hb5 := Lib.hid (hb3.out.trans (hb4.mono hb3.out.size))
            have hA3 := Lib.hid (hA.out w3 (hmh.out.bel hb5.out))
            have hmr3 := Lib.hid (hmr2.out.bel hb4)
            have hmr4 := Lib.hid hl2.mr
            have hSm : Hid (∀ W, Below w3.heap.size w3 W → Calls Tryd.prog 13 #[.slice A n c, .slice A2 R2.length c2] W fun e w' => e = .returned (.bool true) ∧ ∃ q, w' = W.drewN q) := Lib.hid fun W hW => by
              rw [hn.out]
              have hl : R2.length = R.length := by rw [← List.length_map (f := Row.fs), hR2, ← hRf.out, List.length_map]
              have hRb' := hRb.out
              have := same_any R R2 A A2 R.length c R2.length c2 W (hmr3.out.bel hW) (hmr4.out.bel hW) (by omega) (by omega) hrw.out (lst_rows hl2)
              rw [decide_eq_true (hRf.out.trans hR2.symm)] at this
              exact this
            clear hb4 hl2 hR2 hP2
            go_wp2_with fail
            refine hA3.out.mono ?_
            rintro e w4 ⟨rfl, hb6⟩
            have hb7 := Lib.hid (hb5.out.trans (hb6.mono hb5.out.size))
            have hSm1 := Lib.hid (hSm.out w4 hb6)
            clear hb6 hSm hA3
            go_wp2_with fail
            refine hSm1.out.mono ?_
            rintro e w5 ⟨rfl, q, hw⟩
            have hb8 : Hid (Below w.heap.size w w5) := Lib.hid (by rw [hw]; exact below_drewN hb7.out q)
            clear hw hb7 hSm1
            go_wp2
            go_ret
            exact ⟨rfl, hb8.out⟩
end Go.Proofs.YtanipgjojacbfaaDoor
