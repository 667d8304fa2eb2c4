/- Law 10: Expand returns the specified model and error. -/
import Derived.Test.YthbkdjbmkhmlnaaDoorTj
namespace Go.Proofs.YthbkdjbmkhmlnaaDoor
open Go.RowKit
set_option linter.unusedVariables false

/-- A model and an error come back. -/
def MV (w w' : World) (e : Ending) (sv : ByteArray) (bz : Bool) (TS : List (List Fa)) (ev : Int) : Prop :=
  ∃ TA Ts tc, e = .returned (.tuple #[.agg #[.string sv, .bool bz, .slice TA Ts.length tc], .int .i64 ev]) ∧ Ts.length ≤ tc ∧ LR (slC faC) w' TA Ts.length Ts ∧ Ts.map (fun x => x.L) = TS ∧ Below w.heap.size w w'
def RTb (tr : F9.Tr) : Bool := match F10.rex tr with
  | none => false
  | some m => m.contains 0
def RTs (s : ByteArray) (tr : F9.Tr) : ByteArray := match F10.rex tr with
  | none => ⟨#[]⟩
  | some m => s
def RTm (tr : F9.Tr) : List (List Fa) := match F10.rex tr with
  | none => []
  | some m => (F10.mdT (F10.atoms tr []) m).map fun l => l.map toFa
def RTe (tr : F9.Tr) : Int := match F10.rex tr with
  | none => 2
  | some m => 0
theorem exp_mv {w w' : World} {e : Ending} {s : ByteArray} {tr : F9.Tr} (h : ExpV w w' e s tr) : MV w w' e (RTs s tr) (RTb tr) (RTm tr) (RTe tr) := by
  unfold ExpV at h
  unfold RTs RTb RTm RTe
  cases hr : F10.rex tr with
  | none =>
    rw [hr] at h
    obtain ⟨rfl, hb⟩ := h
    exact ⟨none, [], 0, rfl, Nat.le_refl _, LR.nil_ _ _ _, rfl, hb⟩
  | some m =>
    rw [hr] at h
    obtain ⟨A, c, Ts, ob, rfl, hc, S, hI, hmap⟩ := h
    exact ⟨A, Ts, c, rfl, hc, (hI w ob (fun p hp => hp)).lr S, hmap, S.bel⟩
theorem rx_mv {w w' : World} {e : Ending} {s : ByteArray} {tr : F9.Tr} (h : RxV w w' e s tr) : MV w w' e (RTs s tr) (RTb tr) (RTm tr) (RTe tr) := by
  unfold RxV at h
  unfold RTs RTb RTm RTe
  cases hr : F10.rex tr with
  | none =>
    rw [hr] at h
    obtain ⟨rfl, hb⟩ := h
    exact ⟨none, [], 0, rfl, Nat.le_refl _, LR.nil_ _ _ _, rfl, hb⟩
  | some m =>
    rw [hr] at h
    obtain ⟨A, c, Ts, rfl, hc, hl, hmap, hb⟩ := h
    exact ⟨A, Ts, c, rfl, hc, hl, hmap, hb⟩
theorem nd_siz {tr : F9.Tr} (h : tr.wf) : ∀ x ∈ tr.pre.map toNd, x.s.size ≤ 100000 := by
  intro x hx
  obtain ⟨y, hy, rfl⟩ := List.mem_map.1 hx
  have hok := wf_node h y hy
  obtain ⟨op, nm, k⟩ := y
  have key : nameL nm = true → (⟨nm.toArray⟩ : ByteArray).size ≤ 100000 := fun hn => by
    have h1 : nameB (⟨nm.toArray⟩ : ByteArray) = true := by rw [nameB_arr]; exact hn
    rcases Nat.eq_zero_or_pos (⟨nm.toArray⟩ : ByteArray).size with h0 | h0
    · omega
    · rw [nameB_cons h0] at h1
      simp only [Bool.and_eq_true, decide_eq_true_eq] at h1
      have := h1.1.1.1
      omega
  show (⟨nm.toArray⟩ : ByteArray).size ≤ 100000
  rcases hok with (h | h | h) | h | h
  · exact key h.2.1
  · exact key h.2.1
  · have : nm = [] := h.2.1
    rw [this]; decide
  · have : nm = [] := h.2.1
    rw [this]; decide
  · have : nm = [] := h.2.2.1
    rw [this]; decide
theorem nm_siz {s : ByteArray} (h : nameB s = true) : s.size ≤ 100000 := by
  rcases Nat.eq_zero_or_pos s.size with h0 | h0
  · omega
  · rw [nameB_cons h0] at h
    simp only [Bool.and_eq_true, decide_eq_true_eq] at h
    have := h.1.1.1
    omega
theorem rtm_siz {s : ByteArray} {tr : F9.Tr} (hw : tr.wf) (hf : frmB s (tr.pre.map toNd) = true) : (RTm tr).length ≤ 32 ∧ ∀ t ∈ RTm tr, t.length ≤ 6 := by
  unfold RTm
  cases hr : F10.rex tr with
  | none => exact ⟨Nat.zero_le _, fun t ht => by cases ht⟩
  | some m =>
    obtain ⟨h1, h2⟩ := mdl_ok hw hf hr
    refine ⟨?_, fun t ht => (h2 t ht).1⟩
    unfold modB at h1
    simp only [Bool.and_eq_true, decide_eq_true_eq] at h1
    exact h1.1.2
/-- Both sides' Expand of whatever formula. -/
theorem both_any (s : ByteArray) (L : List Nd) (A : Option Addr) (n c : Nat) (w : World) (h : LR ndC w A n L) (hc : n ≤ c) (hn : n ≤ 80) (hO : Og w) : ∃ sv bz TS ev,
    (∀ W, Below w.heap.size w W → Calls Tryd.prog 11 #[.agg #[.string s, .slice A n c]] W fun e w' => MV W w' e sv bz TS ev) ∧ (∀ W, Below w.heap.size w W → Calls Tryd.prog 12 #[.agg #[.string s, .slice A n c]] W fun e w' => MV W w' e sv bz TS ev) ∧ TS.length ≤ 32 ∧ ∀ t ∈ TS, t.length ≤ 6 := by
  cases hf : frmB s L with
  | false =>
    refine ⟨⟨#[]⟩, false, [], 4, fun W hW => ?_, fun W hW => ?_, by decide, fun t ht => by cases ht⟩
    · refine (expand_no s L A n c W (h.bel hW) (by omega) (hO.bel hW) hf).mono ?_
      rintro e w' ⟨rfl, hb⟩
      exact ⟨none, [], 0, rfl, Nat.le_refl _, LR.nil_ _ _ _, rfl, hb⟩
    · refine (rexpand_no s L A n c W (h.bel hW) (by omega) hf).mono ?_
      rintro e w' ⟨rfl, hb⟩
      exact ⟨none, [], 0, rfl, Nat.le_refl _, LR.nil_ _ _ _, rfl, hb⟩
  | true =>
    obtain ⟨tr, hw, rfl⟩ := frm_tree hf
    exact ⟨RTs s tr, RTb tr, RTm tr, RTe tr, fun W hW => (expand_any s tr hw A n c W (h.bel hW) hc (hO.bel hW) hf (nm_siz (frm_len hf).2) (nd_siz hw)).mono fun e w' hE => exp_mv hE, fun W hW => (rexpand_yes s tr hw A n c W (h.bel hW) hf).mono fun e w' hE => rx_mv hE, (rtm_siz hw hf).1, (rtm_siz hw hf).2⟩
set_option maxRecDepth 100000 in
set_option maxHeartbeats 4000000 in
theorem lite_any (s : ByteArray) (A : Option Addr) (n c : Nat) (w : World) : Calls Tryd.prog 9 #[.agg #[.string s, .slice A n c]] w fun e w' => e = .returned (.bool (decide (n ≤ 80))) ∧ Below w.heap.size w w' := by
  have S1 := Lib.hid ((St.new w).alloc #[.string s, .slice A n c] 24 (noLof rfl))
  obtain ⟨bx, hbx⟩ : ∃ b, b = w.heap.size := ⟨_, rfl⟩
  obtain ⟨w1, hw1⟩ : ∃ W, W = w.alloc (.cells #[.string s, .slice A n c] 24) := ⟨_, rfl⟩
  rw [← hbx, ← hw1] at S1
  have b1 : w1.cell? ⟨bx, 1, none⟩ = some (.slice A n c) := S1.out.cl 0 1 rfl rfl
  obtain ⟨q, hq⟩ : ∃ q, q = decide (n ≤ 80) := ⟨_, rfl⟩
  rw [← hq]
  have g : decide ((n : Int) ≤ 80) = q := by rw [hq]; exact decide_eq_decide.2 (by omega)
  replace hq := Lib.hid hq
  go_enter Tryd.func9, Tryd.ntmps9
  go_upto_region 1 with fail
  rw [← hbx, ← hw1]
  clear hbx hw1
  go_wp2
  go_ret
  exact ⟨by first | rfl | (rw [hq.out]), S1.out.bel⟩
set_option maxRecDepth 100000 in
set_option maxHeartbeats 4000000 in
theorem expands_any (s : ByteArray) (L : List Nd) (A : Option Addr) (n c : Nat) (w : World) (h : LR ndC w A n L) (hc : n ≤ c) (hO : Og w) : Calls Tryd.prog 3 #[.agg #[.string s, .slice A n c]] w fun e w' => e = .returned (.bool true) ∧ Below w.heap.size w w' := by
  have S1 := Lib.hid ((St.new w).alloc #[.string s, .slice A n c] 24 (noLof rfl))
  obtain ⟨fb, hfb⟩ : ∃ b, b = w.heap.size := ⟨_, rfl⟩
  obtain ⟨w1, hw1⟩ : ∃ W, W = w.alloc (.cells #[.string s, .slice A n c] 24) := ⟨_, rfl⟩
  rw [← hfb, ← hw1] at S1
  have k0 : w1.cell? ⟨fb, 0, none⟩ = some (.string s) := S1.out.cl 0 0 rfl rfl
  have k1 : w1.cell? ⟨fb, 1, none⟩ = some (.slice A n c) := S1.out.cl 0 1 rfl rfl
  have hO1 := Lib.hid (hO.bel S1.out.bel)
  have hLt := Lib.hid (lite_any s A n c w1)
  by_cases h80 : n ≤ 80
  · rw [decide_eq_true h80] at hLt
    obtain ⟨sv, bz, TS, ev, hP, hR, hT1, hT2⟩ := both_any s L A n c w1 (h.bel S1.out.bel) hc h80 hO1.out
    replace hP := Lib.hid hP
    replace hR := Lib.hid hR
    replace hT1 := Lib.hid hT1
    replace hT2 := Lib.hid hT2
    clear h hO hc h80
    go_enter Tryd.func3, Tryd.ntmps3
    go_upto_region 1 with fail
    rw [← hfb, ← hw1]
    clear hfb hw1
    go_wp2_with fail
    clear k0 k1
    refine hLt.out.mono ?_
    rintro e w2 ⟨rfl, hb⟩
    have S2 := Lib.hid (S1.out.call hb)
    have B2 := Lib.hid hb
    clear hb hLt S1
    have k0 : w2.cell? ⟨fb, 0, none⟩ = some (.string s) := S2.out.cl 0 0 rfl rfl
    have k1 : w2.cell? ⟨fb, 1, none⟩ = some (.slice A n c) := S2.out.cl 0 1 rfl rfl
    go_wp2_with fail
    clear k0 k1
    refine (hP.out w2 B2.out).mono ?_
    rintro e w3 ⟨TA, Ts, tc, rfl, hc3, hl3, hm3, hb⟩
    have S3 := Lib.hid ((S2.out.call hb).alloc #[.string sv, .bool bz, .slice TA Ts.length tc] 29 (noLof rfl))
    obtain ⟨pb, hpb⟩ : ∃ b, b = w3.heap.size := ⟨_, rfl⟩
    obtain ⟨w4, hw4⟩ : ∃ W, W = w3.alloc (.cells #[.string sv, .bool bz, .slice TA Ts.length tc] 29) := ⟨_, rfl⟩
    rw [← hpb, ← hw4] at S3
    have B4 : Hid (Below w1.heap.size w1 w4) := Lib.hid (by
      have b1 := B2.out.trans (hb.mono B2.out.size)
      rw [hw4]; exact b1.trans (((Below.refl _ w3).alloc (Nat.le_refl _) _).mono b1.size))
    have hl4 : LR (slC faC) w4 TA Ts.length Ts := by rw [hw4]; exact hl3.bel ((Below.refl _ w3).alloc (Nat.le_refl _) _)
    have hT4 : Ts.length ≤ 32 := by have := hT1.out; rw [← hm3, List.length_map] at this; exact this
    have hT6 : ∀ x ∈ Ts, x.L.length ≤ 6 := fun x hx => hT2.out x.L (by rw [← hm3]; exact List.mem_map_of_mem hx)
    obtain ⟨tn, htn⟩ : ∃ k, k = Ts.length := ⟨_, rfl⟩
    rw [← htn] at S3 hl4 hT4 hw4
    rw [← htn]
    replace hl4 := Lib.hid hl4
    replace hT4 := Lib.hid hT4
    replace hT6 := Lib.hid hT6
    replace hm3 := Lib.hid hm3
    clear hP S2 B2 hb hc3 hl3 htn hT1 hT2
    have k0 : w4.cell? ⟨fb, 0, none⟩ = some (.string s) := S3.out.cl 1 0 rfl rfl
    have k1 : w4.cell? ⟨fb, 1, none⟩ = some (.slice A n c) := S3.out.cl 1 1 rfl rfl
    go_upto_region 4 with fail
    rw [← hpb, ← hw4]
    clear hpb hw4
    go_wp2_with fail
    clear k0 k1
    refine (hR.out w4 B4.out).mono ?_
    rintro e w5 ⟨UA, Us, uc, rfl, hc5, hl5, hm5, hb⟩
    have S5 := Lib.hid ((S3.out.call hb).alloc #[.string sv, .bool bz, .slice UA Us.length uc] 29 (noLof rfl))
    obtain ⟨qb, hqb⟩ : ∃ b, b = w5.heap.size := ⟨_, rfl⟩
    obtain ⟨w6, hw6⟩ : ∃ W, W = w5.alloc (.cells #[.string sv, .bool bz, .slice UA Us.length uc] 29) := ⟨_, rfl⟩
    rw [← hqb, ← hw6] at S5
    have B46 : Below w4.heap.size w4 w6 := by
      rw [hw6]; exact hb.trans (((Below.refl _ w5).alloc (Nat.le_refl _) _).mono hb.size)
    have hl6 : LR (slC faC) w6 UA Us.length Us := by rw [hw6]; exact hl5.bel ((Below.refl _ w5).alloc (Nat.le_refl _) _)
    obtain ⟨un, hun⟩ : ∃ k, k = Us.length := ⟨_, rfl⟩
    rw [← hun] at S5 hl6 hw6
    rw [← hun]
    have hl46 := Lib.hid (hl4.out.bel B46)
    replace hl6 := Lib.hid hl6
    have hmm := Lib.hid (hm3.out.trans hm5.symm)
    have hA := Lib.hid (awake_any w6 ((hO1.out.bel B4.out).bel B46))
    clear hR S3 hb hc5 hl5 hun hm5 B4 B46 hl4 hm3
    go_upto_region 5 with fail
    rw [← hqb, ← hw6]
    clear hqb hw6
    go_wp2_with fail
    refine hA.out.mono ?_
    rintro e w7 ⟨rfl, hb⟩
    have S7 := Lib.hid (S5.out.call hb)
    have hSm := Lib.hid (rsame_yes sv bz Ts Us TA tn tc UA un uc w7 (hl46.out.bel hb) (hl6.out.bel hb) hmm.out (by have := hT4.out; omega) (fun x hx => by have := hT6.out x hx; omega))
    clear hA hb S5 hl46 hl6 hmm hT4 hT6
    have p0 : w7.cell? ⟨pb, 0, none⟩ = some (.string sv) := S7.out.cl 1 0 rfl rfl
    have p1 : w7.cell? ⟨pb, 1, none⟩ = some (.bool bz) := S7.out.cl 1 1 rfl rfl
    have p2 : w7.cell? ⟨pb, 2, none⟩ = some (.slice TA tn tc) := S7.out.cl 1 2 rfl rfl
    have q0 : w7.cell? ⟨qb, 0, none⟩ = some (.string sv) := S7.out.cl 0 0 rfl rfl
    have q1 : w7.cell? ⟨qb, 1, none⟩ = some (.bool bz) := S7.out.cl 0 1 rfl rfl
    have q2 : w7.cell? ⟨qb, 2, none⟩ = some (.slice UA un uc) := S7.out.cl 0 2 rfl rfl
    go_wp2_with fail
    clear p0 p1 p2 q0 q1 q2
    refine hSm.out.mono ?_
    rintro e w8 ⟨rfl, hb⟩
    have T := Lib.hid (S7.out.call hb).bel
    clear hSm hb S7
    go_wp2
    go_ret
    exact ⟨by first | rfl | simp, T.out⟩
  · rw [decide_eq_false h80] at hLt
    clear h hO hc h80
    go_enter Tryd.func3, Tryd.ntmps3
    go_upto_region 1 with fail
    rw [← hfb, ← hw1]
    clear hfb hw1
    go_wp2_with fail
    clear k0 k1
    refine hLt.out.mono ?_
    rintro e w2 ⟨rfl, hb⟩
    have S2 := Lib.hid (S1.out.call hb)
    have hA := Lib.hid (awake_any w2 (hO1.out.bel hb))
    clear hb S1 hLt
    go_wp2_with fail
    refine hA.out.mono ?_
    rintro e w3 ⟨rfl, hb⟩
    have S3 := Lib.hid (S2.out.call hb)
    clear hb S2 hA
    go_wp2
    go_ret
    exact ⟨rfl, S3.out.bel⟩
end Go.Proofs.YthbkdjbmkhmlnaaDoor
