/- Law 10: removals and additions. -/
import Derived.Test.YthbkdjbmkhmlnaaDoorTp
namespace Go.Proofs.YthbkdjbmkhmlnaaDoor
open Go.RowKit
set_option linter.unusedVariables false

theorem a_nmr : nameB ⟨#[97]⟩ = true := by decide +kernel
theorem b_nmr : nameB ⟨#[98]⟩ = true := by decide +kernel
theorem lit_zero (W : World) : LR ndC (W.alloc (.cells #[.int .i64 4, .string ⟨#[]⟩, .int .i64 0] 39)) (some ⟨W.heap.size, 0, none⟩) 1 ((F10.zeroT).pre.map toNd) := by
  have SA : St W (W.alloc (.cells #[.int .i64 4, .string ⟨#[]⟩, .int .i64 0] 39)) [(W.heap.size, #[.int .i64 4, .string ⟨#[]⟩, .int .i64 0], 39)] [] := (St.new W).alloc #[.int .i64 4, .string ⟨#[]⟩, .int .i64 0] 39 (noLof rfl)
  exact St_glr (C := ndC) (L := [⟨4, ⟨#[]⟩, 0⟩]) SA 1 rfl (fun x _ => ⟨trivial, trivial, trivial⟩)
theorem al_belr (W : World) (x : Obj) : Below W.heap.size W (W.alloc x) := (Below.refl _ W).alloc (Nat.le_refl _) _
theorem zero_wf : (F10.zeroT).wf := .inr (.inr ⟨.inr rfl, rfl, rfl⟩)
theorem zero_len : (F10.zeroT).pre.length = 1 := rfl

set_option maxRecDepth 100000 in
set_option maxHeartbeats 16000000 in
theorem remove_any (s0 : ByteArray) (L0 : List Nd) (A0 : Option Addr) (n0 c0 : Nat) (s1 : ByteArray) (L1 : List Nd) (A1 : Option Addr) (n1 c1 : Nat) (w : World) (h0 : LR ndC w A0 n0 L0) (hc0 : n0 ≤ c0) (h1 : LR ndC w A1 n1 L1) (hc1 : n1 ≤ c1) (hO : Og w) : Calls Tryd.prog 7 #[.agg #[.string s0, .slice A0 n0 c0], .agg #[.string s1, .slice A1 n1 c1]] w fun e w' => e = .returned (.bool true) ∧ Below w.heap.size w w' := by
  have S1 := Lib.hid (((St.new w).allocAt w.heap.size #[.string s0, .slice A0 n0 c0] 24 (noLof rfl) rfl).allocAt (w.heap.size + 1) #[.string s1, .slice A1 n1 c1] 24 (noLof rfl) (by simp))
  obtain ⟨w1, hw1⟩ : ∃ W, W = (w.alloc (.cells #[.string s0, .slice A0 n0 c0] 24)).alloc (.cells #[.string s1, .slice A1 n1 c1] 24) := ⟨_, rfl⟩
  obtain ⟨fb, hfb⟩ : ∃ b, b = w.heap.size := ⟨_, rfl⟩
  rw [← hw1, ← hfb] at S1
  have k00 : Hid (w1.cell? ⟨fb, 0, none⟩ = some (.string s0)) := Lib.hid (S1.out.cl 1 0 rfl rfl)
  have k01 : Hid (w1.cell? ⟨fb, 1, none⟩ = some (.slice A0 n0 c0)) := Lib.hid (S1.out.cl 1 1 rfl rfl)
  have k10 : Hid (w1.cell? ⟨fb + 1, 0, none⟩ = some (.string s1)) := Lib.hid (S1.out.cl 0 0 rfl rfl)
  have k11 : Hid (w1.cell? ⟨fb + 1, 1, none⟩ = some (.slice A1 n1 c1)) := Lib.hid (S1.out.cl 0 1 rfl rfl)
  have hSh0 := Lib.hid (fun W (hW : Below w.heap.size w W) => short_any s0 L0 A0 n0 c0 ⟨#[97]⟩ W (h0.bel hW) hc0 a_nmr)
  have hSh1 := Lib.hid (fun W (hW : Below w.heap.size w W) => short_any s1 L1 A1 n1 c1 ⟨#[98]⟩ W (h1.bel hW) hc1 b_nmr)
  have hO1 := Lib.hid (hO.bel S1.out.bel)
  have hw0 := Lib.hid S1.out.bel
  clear h0 h1 hc0 hc1 hO S1
  go_enter Tryd.func7, Tryd.ntmps7
  go_upto_region 1 with fail
  rw [← hw1, ← hfb]
  clear hw1 hfb
  refine Wl.start (fun V => Below w1.heap.size w1 V) [] (by kernel_rfl) ?_
  have hS : Below w1.heap.size w1 w1.drew := (Below.refl _ w1).drew
  generalize w1.drew = w2 at *
  refine Wl.t (i := 0) (v := .agg #[.string s0, .slice A0 n0 c0]) (some 15) at0 (hy := fun V h => by (have q0 := bel_cell h k00.out; have q1 := bel_cell h k01.out; clear h; go_simp)) (hS := hS) (h := ?_)
  refine Wl.t (i := 2) (v := .agg #[.string s1, .slice A1 n1 c1]) (some 17) at2 (hy := fun V h => by (have q0 := bel_cell h k10.out; have q1 := bel_cell h k11.out; clear h; go_simp)) (hS := hS) (h := ?_)
  clear k00 k01 k10 k11
  try simp only [Act.put, List.setIfInBounds_toArray, List.set_cons_zero, List.set_cons_succ]
  refine Wl.g (i := 1) at1 (by kernel_rfl) (by kernel_rfl) fun K' hK => ?_
  refine oper_call (f := 17) (args := #[.agg #[.string s0, .slice A0 n0 c0], .string ⟨#[97]⟩]) rfl (by kernel_rfl) ((hSh0.out w2 (hw0.out.trans (hS.mono hw0.out.size))).mono ?_)
  rintro e w3 ⟨v0, t0, rfl, wf0, ln0, hU⟩
  obtain ⟨B0, m0, d0, rfl, hd0, hm0, hr0, bb⟩ := hU.get (by omega)
  replace hS := hS.trans (bb.mono hS.size)
  replace wf0 := Lib.hid wf0
  replace ln0 := Lib.hid ln0
  replace hd0 := Lib.hid hd0
  replace hm0 := Lib.hid hm0
  replace hr0 := Lib.hid hr0
  refine ⟨_, rfl, hK.out _ _ hS ?_⟩
  clear hK K' hU bb hSh0
  try simp only [Act.put, List.setIfInBounds_toArray, List.set_cons_zero, List.set_cons_succ]
  refine Wl.g (i := 3) at3 (by kernel_rfl) (by kernel_rfl) fun K' hK => ?_
  refine oper_call (f := 17) (args := #[.agg #[.string s1, .slice A1 n1 c1], .string ⟨#[98]⟩]) rfl (by kernel_rfl) ((hSh1.out w3 (hw0.out.trans (hS.mono hw0.out.size))).mono ?_)
  rintro e w4 ⟨v1, t1, rfl, wf1, ln1, hU⟩
  obtain ⟨B1, m1, d1, rfl, hd1, hm1, hr1, bb⟩ := hU.get (by omega)
  replace hS := hS.trans (bb.mono hS.size)
  replace hr0 := Lib.hid (hr0.out.bel bb)
  replace wf1 := Lib.hid wf1
  replace ln1 := Lib.hid ln1
  replace hd1 := Lib.hid hd1
  replace hm1 := Lib.hid hm1
  replace hr1 := Lib.hid hr1
  refine ⟨_, rfl, hK.out _ _ hS ?_⟩
  clear hK K' hU bb hSh1
  try simp only [Act.put, List.setIfInBounds_toArray, List.set_cons_zero, List.set_cons_succ]
  refine Wl.g (i := 4) at4 (by kernel_rfl) (by kernel_rfl) fun K' hK => ?_
  go_simp
  refine hK.out _ _ hS ?_
  clear hK K'
  try simp only [Act.put, List.setIfInBounds_toArray, List.set_cons_zero, List.set_cons_succ]
  refine Wl.g (i := 5) at5 (by kernel_rfl) (by kernel_rfl) fun K' hK => ?_
  go_simp
  refine hK.out _ _ hS ?_
  clear hK K'
  try simp only [Act.put, List.setIfInBounds_toArray, List.set_cons_zero, List.set_cons_succ]
  refine Wl.done (by kernel_rfl) ?_
  try go_simp
  replace hw0 := Lib.hid (hw0.out.trans (hS.mono hw0.out.size))
  replace hO1 := Lib.hid (hO1.out.bel hS)
  clear hS
  obtain ⟨y, yl, hy, hz0⟩ := root_z t1 wf1.out
  obtain ⟨yb, yo, hyB, hy1, y0⟩ : ∃ yb yo, B1 = some ⟨yb, yo, none⟩ ∧ 0 < m1 ∧ w4.cell? ⟨yb, yo, none⟩ = some (.int .i64 (y.op : Int)) := by
    have h := hr1.out
    have e9 : t1.pre.map toNd = [] ++ (toNd y :: yl.map toNd) := by rw [hy]; rfl
    rw [e9] at h
    obtain ⟨b9, o9, hA9, hlt9, c9, _, _⟩ := nd_at h
    have c9' : w4.cell? ⟨b9, o9 + ([] : List Nd).length * 3, none⟩ = some (.int .i64 (y.op : Int)) := c9
    exact ⟨b9, o9, hA9, hlt9, by simpa using c9'⟩
  subst hyB
  have g0 : (0 : Int) < (m1 : Int) := by omega
  obtain ⟨z, hz⟩ : ∃ z, z = F10.isZ t1 := ⟨_, rfl⟩
  have hz4 : ((y.op : Int) == 4) = z := hz0.trans hz.symm
  replace hz := Lib.hid hz
  clear hy hz0 hy1
  cases z with
  | true =>
    have hAw := Lib.hid (awake_any w4 hO1.out)
    clear hr0 hr1
    go_wp2_with fail
    refine hAw.out.mono ?_
    rintro e w5 ⟨rfl, bb⟩
    replace hw0 := Lib.hid (hw0.out.trans (bb.mono hw0.out.size))
    clear hAw bb y0
    go_wp2
    go_ret
    exact ⟨rfl, hw0.out⟩
  | false =>
    have wfA : Hid (t0.wf) := Lib.hid wf0.out
    have lnA : Hid (t0.pre.length ≤ 64) := Lib.hid (by have := ln0.out; have := ln1.out; omega)
    obtain ⟨sA, hsA⟩ : ∃ z, z = RTs ⟨#[121]⟩ t0 := ⟨_, rfl⟩
    obtain ⟨bA, hbA⟩ : ∃ z, z = RTb t0 := ⟨_, rfl⟩
    obtain ⟨TA, hTA⟩ : ∃ z, z = RTm t0 := ⟨_, rfl⟩
    obtain ⟨eA, heA⟩ : ∃ z, z = RTe t0 := ⟨_, rfl⟩
    have hPA : Hid (∀ (A : Option Addr) (n c : Nat) (W : World), LR ndC W A n (t0.pre.map toNd) → n ≤ c → Og W → Calls Tryd.prog 11 #[.agg #[.string ⟨#[121]⟩, .slice A n c]] W fun e w' => MV W w' e sA bA TA eA) := Lib.hid (fun A n c W h hc hO => by rw [hsA, hbA, hTA, heA]; exact py_any t0 wfA.out lnA.out A n c W h hc hO)
    have hLA : Hid (∀ (A : Option Addr) (n c : Nat) (W : World), LR ndC W A n (t0.pre.map toNd) → Calls Tryd.prog 20 #[.slice A n c] W fun e w' => e = .returned (.int .i64 eA) ∧ Below W.heap.size W w') := Lib.hid (fun A n c W h => by rw [heA]; exact limit_any t0 wfA.out lnA.out A n c W h)
    have hzA : Hid (TA.length ≤ 32 ∧ ∀ t ∈ TA, t.length ≤ 6) := Lib.hid (by rw [hTA]; exact rtm_siz wfA.out (y_frm wfA.out lnA.out))
    have h2A : Hid (eA = 2 ∨ eA = 0) := Lib.hid (by rw [heA]; exact rte_two _)
    have wfP : Hid ((F9.Tr.bin 5 t0 t1).wf) := Lib.hid ⟨by decide, by decide, wf0.out, wf1.out⟩
    have lnP : Hid ((F9.Tr.bin 5 t0 t1).pre.length ≤ 64) := Lib.hid (by have := ln0.out; have := ln1.out; rw [bin_len]; omega)
    obtain ⟨sP, hsP⟩ : ∃ z, z = RTs ⟨#[121]⟩ (F9.Tr.bin 5 t0 t1) := ⟨_, rfl⟩
    obtain ⟨bP, hbP⟩ : ∃ z, z = RTb (F9.Tr.bin 5 t0 t1) := ⟨_, rfl⟩
    obtain ⟨TP, hTP⟩ : ∃ z, z = RTm (F9.Tr.bin 5 t0 t1) := ⟨_, rfl⟩
    obtain ⟨eP, heP⟩ : ∃ z, z = RTe (F9.Tr.bin 5 t0 t1) := ⟨_, rfl⟩
    have hPP : Hid (∀ (A : Option Addr) (n c : Nat) (W : World), LR ndC W A n ((F9.Tr.bin 5 t0 t1).pre.map toNd) → n ≤ c → Og W → Calls Tryd.prog 11 #[.agg #[.string ⟨#[121]⟩, .slice A n c]] W fun e w' => MV W w' e sP bP TP eP) := Lib.hid (fun A n c W h hc hO => by rw [hsP, hbP, hTP, heP]; exact py_any (F9.Tr.bin 5 t0 t1) wfP.out lnP.out A n c W h hc hO)
    have hLP : Hid (∀ (A : Option Addr) (n c : Nat) (W : World), LR ndC W A n ((F9.Tr.bin 5 t0 t1).pre.map toNd) → Calls Tryd.prog 20 #[.slice A n c] W fun e w' => e = .returned (.int .i64 eP) ∧ Below W.heap.size W w') := Lib.hid (fun A n c W h => by rw [heP]; exact limit_any (F9.Tr.bin 5 t0 t1) wfP.out lnP.out A n c W h)
    have hzP : Hid (TP.length ≤ 32 ∧ ∀ t ∈ TP, t.length ≤ 6) := Lib.hid (by rw [hTP]; exact rtm_siz wfP.out (y_frm wfP.out lnP.out))
    have h2P : Hid (eP = 2 ∨ eP = 0) := Lib.hid (by rw [heP]; exact rte_two _)
    have wfM : Hid ((F9.Tr.bin 6 t0 t1).wf) := Lib.hid ⟨by decide, by decide, wf0.out, wf1.out⟩
    have lnM : Hid ((F9.Tr.bin 6 t0 t1).pre.length ≤ 64) := Lib.hid (by have := ln0.out; have := ln1.out; rw [bin_len]; omega)
    obtain ⟨sM, hsM⟩ : ∃ z, z = RTs ⟨#[121]⟩ (F9.Tr.bin 6 t0 t1) := ⟨_, rfl⟩
    obtain ⟨bM, hbM⟩ : ∃ z, z = RTb (F9.Tr.bin 6 t0 t1) := ⟨_, rfl⟩
    obtain ⟨TM, hTM⟩ : ∃ z, z = RTm (F9.Tr.bin 6 t0 t1) := ⟨_, rfl⟩
    obtain ⟨eM, heM⟩ : ∃ z, z = RTe (F9.Tr.bin 6 t0 t1) := ⟨_, rfl⟩
    have hPM : Hid (∀ (A : Option Addr) (n c : Nat) (W : World), LR ndC W A n ((F9.Tr.bin 6 t0 t1).pre.map toNd) → n ≤ c → Og W → Calls Tryd.prog 11 #[.agg #[.string ⟨#[121]⟩, .slice A n c]] W fun e w' => MV W w' e sM bM TM eM) := Lib.hid (fun A n c W h hc hO => by rw [hsM, hbM, hTM, heM]; exact py_any (F9.Tr.bin 6 t0 t1) wfM.out lnM.out A n c W h hc hO)
    have hLM : Hid (∀ (A : Option Addr) (n c : Nat) (W : World), LR ndC W A n ((F9.Tr.bin 6 t0 t1).pre.map toNd) → Calls Tryd.prog 20 #[.slice A n c] W fun e w' => e = .returned (.int .i64 eM) ∧ Below W.heap.size W w') := Lib.hid (fun A n c W h => by rw [heM]; exact limit_any (F9.Tr.bin 6 t0 t1) wfM.out lnM.out A n c W h)
    have hzM : Hid (TM.length ≤ 32 ∧ ∀ t ∈ TM, t.length ≤ 6) := Lib.hid (by rw [hTM]; exact rtm_siz wfM.out (y_frm wfM.out lnM.out))
    have h2M : Hid (eM = 2 ∨ eM = 0) := Lib.hid (by rw [heM]; exact rte_two _)
    have wfO : Hid ((F9.Tr.bin 5 F10.zeroT t1).wf) := Lib.hid ⟨by decide, by decide, zero_wf, wf1.out⟩
    have lnO : Hid ((F9.Tr.bin 5 F10.zeroT t1).pre.length ≤ 64) := Lib.hid (by have := ln0.out; have := ln1.out; rw [bin_len, zero_len]; omega)
    obtain ⟨sO, hsO⟩ : ∃ z, z = RTs ⟨#[121]⟩ (F9.Tr.bin 5 F10.zeroT t1) := ⟨_, rfl⟩
    obtain ⟨bO, hbO⟩ : ∃ z, z = RTb (F9.Tr.bin 5 F10.zeroT t1) := ⟨_, rfl⟩
    obtain ⟨TO, hTO⟩ : ∃ z, z = RTm (F9.Tr.bin 5 F10.zeroT t1) := ⟨_, rfl⟩
    obtain ⟨eO, heO⟩ : ∃ z, z = RTe (F9.Tr.bin 5 F10.zeroT t1) := ⟨_, rfl⟩
    have hPO : Hid (∀ (A : Option Addr) (n c : Nat) (W : World), LR ndC W A n ((F9.Tr.bin 5 F10.zeroT t1).pre.map toNd) → Calls Tryd.prog 12 #[.agg #[.string ⟨#[121]⟩, .slice A n c]] W fun e w' => MV W w' e sO bO TO eO) := Lib.hid (fun A n c W h => by rw [hsO, hbO, hTO, heO]; exact ry_any (F9.Tr.bin 5 F10.zeroT t1) wfO.out lnO.out A n c W h)
    have hzO : Hid (TO.length ≤ 32 ∧ ∀ t ∈ TO, t.length ≤ 6) := Lib.hid (by rw [hTO]; exact rtm_siz wfO.out (y_frm wfO.out lnO.out))
    have h2O : Hid (eO = 2 ∨ eO = 0) := Lib.hid (by rw [heO]; exact rte_two _)
    have hrm : Hid (eA = 0 → eP = 0 → eM = 0 → eO = 0 → bP = (bA || bO) ∧ bM = (bA && !bO) ∧ (∀ x ∈ TP, inL TA x = true ∨ inL TO x = true) ∧ (∀ x ∈ TA, inL TP x = true) ∧ (∀ x ∈ TO, inL TP x = true) ∧ (∀ x ∈ TP, inL TM x = true ∨ inL TO x = true) ∧ (∀ x ∈ TM, inL TP x = true) ∧ (∀ x ∈ TM, inL TO x = false)) := Lib.hid (by
      rw [hbA, hbP, hbM, hbO, hTA, hTP, hTM, hTO, heA, heP, heM, heO]
      exact rm_ok wf0.out wf1.out ln0.out ln1.out hz.out.symm)
    clear hsA hbA hTA heA wfA lnA hsP hbP hTP heP wfP lnP hsM hbM hTM heM wfM lnM hsO hbO hTO heO wfO lnO
    clear hz
    have S := Lib.hid ((St.new w).call hw0.out)
    clear hw0
    have hX := Lib.hid (hPA.out B0 m0 d0 w4 hr0.out hd0.out hO1.out)
    go_wp2_with fail
    refine hX.out.mono ?_
    rintro e w5 ⟨VA, LA, cA, rfl, hcA, hlA, hxA, bb⟩
    clear hX hPA hcA
    replace hr0 := Lib.hid (hr0.out.bel bb)
    replace hr1 := Lib.hid (hr1.out.bel bb)
    replace S := Lib.hid (S.out.call bb)
    replace hO1 := Lib.hid (hO1.out.bel bb)
    clear bb
    replace hxA := Lib.hid hxA
    obtain ⟨uA, huA⟩ : ∃ q, q = LA.length := ⟨_, rfl⟩
    rw [← huA] at hlA
    rw [← huA]
    replace huA := Lib.hid huA
    obtain ⟨pA, hpA⟩ : ∃ b, b = w5.heap.size := ⟨_, rfl⟩
    obtain ⟨w6, hw6⟩ : ∃ W, W = w5.alloc (.cells #[.string sA, .bool bA, .slice VA uA cA] 29) := ⟨_, rfl⟩
    have bb := al_belr w5 (.cells #[.string sA, .bool bA, .slice VA uA cA] 29)
    replace hlA := Lib.hid (hlA.bel bb)
    replace hr0 := Lib.hid (hr0.out.bel bb)
    replace hr1 := Lib.hid (hr1.out.bel bb)
    replace S := Lib.hid (S.out.alloc #[.string sA, .bool bA, .slice VA uA cA] 29 (noLof rfl))
    replace hO1 := Lib.hid (hO1.out.bel bb)
    clear bb
    rw [← hw6] at S hO1 hr0 hr1 hlA
    rw [← hpA] at S
    go_upto_region 5 with fail
    rw [← hpA, ← hw6]
    clear hpA hw6
    have hJ := Lib.hid (show Calls Tryd.prog 19 #[.int .i64 5, .slice B0 m0 d0, .slice (some ⟨yb, yo, none⟩) m1 d1] w6 fun e w' => ∃ v, e = .returned v ∧ SlN w6 w' v ((F9.Tr.bin 5 t0 t1).pre.map toNd) from jn_any 5 t0 t1 B0 m0 d0 (some ⟨yb, yo, none⟩) m1 d1 w6 hr0.out hr1.out hm0.out hm1.out)
    go_wp2_with fail
    refine hJ.out.mono ?_
    rintro e w7 ⟨v, rfl, hU⟩
    obtain ⟨B2, m2, d2, rfl, hd2, hm2, hr2, bb⟩ := hU.get (by have := ln0.out; have := ln1.out; simp only [bin_len]; omega)
    replace hr0 := Lib.hid (hr0.out.bel bb)
    replace hr1 := Lib.hid (hr1.out.bel bb)
    replace hlA := Lib.hid (hlA.out.bel bb)
    replace S := Lib.hid (S.out.call bb)
    replace hO1 := Lib.hid (hO1.out.bel bb)
    replace hd2 := Lib.hid hd2
    replace hm2 := Lib.hid hm2
    replace hr2 := Lib.hid hr2
    clear hJ hU bb
    have hX := Lib.hid (hPP.out B2 m2 d2 w7 hr2.out hd2.out hO1.out)
    go_wp2_with fail
    refine hX.out.mono ?_
    rintro e w8 ⟨VP, LP, cP, rfl, hcP, hlP, hxP, bb⟩
    clear hX hPP hcP
    replace hr0 := Lib.hid (hr0.out.bel bb)
    replace hr1 := Lib.hid (hr1.out.bel bb)
    replace hr2 := Lib.hid (hr2.out.bel bb)
    replace hlA := Lib.hid (hlA.out.bel bb)
    replace S := Lib.hid (S.out.call bb)
    replace hO1 := Lib.hid (hO1.out.bel bb)
    clear bb
    replace hxP := Lib.hid hxP
    obtain ⟨uP, huP⟩ : ∃ q, q = LP.length := ⟨_, rfl⟩
    rw [← huP] at hlP
    rw [← huP]
    replace huP := Lib.hid huP
    obtain ⟨pP, hpP⟩ : ∃ b, b = w8.heap.size := ⟨_, rfl⟩
    obtain ⟨w9, hw9⟩ : ∃ W, W = w8.alloc (.cells #[.string sP, .bool bP, .slice VP uP cP] 29) := ⟨_, rfl⟩
    have bb := al_belr w8 (.cells #[.string sP, .bool bP, .slice VP uP cP] 29)
    replace hlP := Lib.hid (hlP.bel bb)
    replace hr0 := Lib.hid (hr0.out.bel bb)
    replace hr1 := Lib.hid (hr1.out.bel bb)
    replace hr2 := Lib.hid (hr2.out.bel bb)
    replace hlA := Lib.hid (hlA.out.bel bb)
    replace S := Lib.hid (S.out.alloc #[.string sP, .bool bP, .slice VP uP cP] 29 (noLof rfl))
    replace hO1 := Lib.hid (hO1.out.bel bb)
    clear bb
    rw [← hw9] at S hO1 hr0 hr1 hr2 hlA hlP
    rw [← hpP] at S
    go_upto_region 6 with fail
    rw [← hpP, ← hw9]
    clear hpP hw9
    clear hr2 hm2 hd2
    have hJ := Lib.hid (show Calls Tryd.prog 19 #[.int .i64 6, .slice B0 m0 d0, .slice (some ⟨yb, yo, none⟩) m1 d1] w9 fun e w' => ∃ v, e = .returned v ∧ SlN w9 w' v ((F9.Tr.bin 6 t0 t1).pre.map toNd) from jn_any 6 t0 t1 B0 m0 d0 (some ⟨yb, yo, none⟩) m1 d1 w9 hr0.out hr1.out hm0.out hm1.out)
    go_wp2_with fail
    refine hJ.out.mono ?_
    rintro e w10 ⟨v, rfl, hU⟩
    obtain ⟨B3, m3, d3, rfl, hd3, hm3, hr3, bb⟩ := hU.get (by have := ln0.out; have := ln1.out; simp only [bin_len]; omega)
    replace hr0 := Lib.hid (hr0.out.bel bb)
    replace hr1 := Lib.hid (hr1.out.bel bb)
    replace hlA := Lib.hid (hlA.out.bel bb)
    replace hlP := Lib.hid (hlP.out.bel bb)
    replace S := Lib.hid (S.out.call bb)
    replace hO1 := Lib.hid (hO1.out.bel bb)
    replace hd3 := Lib.hid hd3
    replace hm3 := Lib.hid hm3
    replace hr3 := Lib.hid hr3
    clear hJ hU bb
    have hX := Lib.hid (hPM.out B3 m3 d3 w10 hr3.out hd3.out hO1.out)
    go_wp2_with fail
    refine hX.out.mono ?_
    rintro e w11 ⟨VM, LM, cM, rfl, hcM, hlM, hxM, bb⟩
    clear hX hPM hcM
    replace hr0 := Lib.hid (hr0.out.bel bb)
    replace hr1 := Lib.hid (hr1.out.bel bb)
    replace hr3 := Lib.hid (hr3.out.bel bb)
    replace hlA := Lib.hid (hlA.out.bel bb)
    replace hlP := Lib.hid (hlP.out.bel bb)
    replace S := Lib.hid (S.out.call bb)
    replace hO1 := Lib.hid (hO1.out.bel bb)
    clear bb
    replace hxM := Lib.hid hxM
    obtain ⟨uM, huM⟩ : ∃ q, q = LM.length := ⟨_, rfl⟩
    rw [← huM] at hlM
    rw [← huM]
    replace huM := Lib.hid huM
    obtain ⟨pM, hpM⟩ : ∃ b, b = w11.heap.size := ⟨_, rfl⟩
    obtain ⟨w12, hw12⟩ : ∃ W, W = w11.alloc (.cells #[.string sM, .bool bM, .slice VM uM cM] 29) := ⟨_, rfl⟩
    have bb := al_belr w11 (.cells #[.string sM, .bool bM, .slice VM uM cM] 29)
    replace hlM := Lib.hid (hlM.bel bb)
    replace hr0 := Lib.hid (hr0.out.bel bb)
    replace hr1 := Lib.hid (hr1.out.bel bb)
    replace hr3 := Lib.hid (hr3.out.bel bb)
    replace hlA := Lib.hid (hlA.out.bel bb)
    replace hlP := Lib.hid (hlP.out.bel bb)
    replace S := Lib.hid (S.out.alloc #[.string sM, .bool bM, .slice VM uM cM] 29 (noLof rfl))
    replace hO1 := Lib.hid (hO1.out.bel bb)
    clear bb
    rw [← hw12] at S hO1 hr0 hr1 hr3 hlA hlP hlM
    rw [← hpM] at S
    go_upto_region 7 with fail
    rw [← hpM, ← hw12]
    clear hpM hw12
    clear hr3 hm3 hd3
    have hr40 := Lib.hid (lit_zero w12)
    have bb := al_belr w12 (.cells #[.int .i64 4, .string ⟨#[]⟩, .int .i64 0] 39)
    replace hr0 := Lib.hid (hr0.out.bel bb)
    replace hr1 := Lib.hid (hr1.out.bel bb)
    replace hlA := Lib.hid (hlA.out.bel bb)
    replace hlP := Lib.hid (hlP.out.bel bb)
    replace hlM := Lib.hid (hlM.out.bel bb)
    replace S := Lib.hid (S.out.call bb)
    replace hO1 := Lib.hid (hO1.out.bel bb)
    obtain ⟨B4, hB4⟩ : ∃ a, a = (some ⟨w12.heap.size, 0, none⟩ : Option Addr) := ⟨_, rfl⟩
    obtain ⟨w13, hw13⟩ : ∃ W, W = w12.alloc (.cells #[.int .i64 4, .string ⟨#[]⟩, .int .i64 0] 39) := ⟨_, rfl⟩
    rw [← hw13] at S hO1 hr40 hr0 hr1 hlA hlP hlM
    rw [← hB4] at hr40
    have hr4 := hr40
    have hm4 : Hid ((1 : Nat) ≤ 64) := Lib.hid (by decide)
    have hd4 : Hid ((1 : Nat) ≤ 1) := Lib.hid (by decide)
    clear bb hr40
    have hJ := Lib.hid (show Calls Tryd.prog 19 #[.int .i64 5, .slice B4 1 1, .slice (some ⟨yb, yo, none⟩) m1 d1] w13 fun e w' => ∃ v, e = .returned v ∧ SlN w13 w' v ((F9.Tr.bin 5 F10.zeroT t1).pre.map toNd) from jn_any 5 F10.zeroT t1 B4 1 1 (some ⟨yb, yo, none⟩) m1 d1 w13 hr4.out hr1.out hm4.out hm1.out)
    go_wp2_with fail
    rw [← hw13, ← hB4]
    clear hw13 hB4
    refine hJ.out.mono ?_
    rintro e w14 ⟨v, rfl, hU⟩
    obtain ⟨B5, m5, d5, rfl, hd5, hm5, hr5, bb⟩ := hU.get (by have := ln0.out; have := ln1.out; simp only [bin_len, zero_len]; omega)
    replace hr0 := Lib.hid (hr0.out.bel bb)
    replace hr1 := Lib.hid (hr1.out.bel bb)
    replace hr4 := Lib.hid (hr4.out.bel bb)
    replace hlA := Lib.hid (hlA.out.bel bb)
    replace hlP := Lib.hid (hlP.out.bel bb)
    replace hlM := Lib.hid (hlM.out.bel bb)
    replace S := Lib.hid (S.out.call bb)
    replace hO1 := Lib.hid (hO1.out.bel bb)
    replace hd5 := Lib.hid hd5
    replace hm5 := Lib.hid hm5
    replace hr5 := Lib.hid hr5
    clear hJ hU bb
    have hX := Lib.hid (hPO.out B5 m5 d5 w14 hr5.out)
    go_wp2_with fail
    refine hX.out.mono ?_
    rintro e w15 ⟨VO, LO, cO, rfl, hcO, hlO, hxO, bb⟩
    clear hX hPO hcO
    replace hr0 := Lib.hid (hr0.out.bel bb)
    replace hr1 := Lib.hid (hr1.out.bel bb)
    replace hr4 := Lib.hid (hr4.out.bel bb)
    replace hr5 := Lib.hid (hr5.out.bel bb)
    replace hlA := Lib.hid (hlA.out.bel bb)
    replace hlP := Lib.hid (hlP.out.bel bb)
    replace hlM := Lib.hid (hlM.out.bel bb)
    replace S := Lib.hid (S.out.call bb)
    replace hO1 := Lib.hid (hO1.out.bel bb)
    clear bb
    replace hxO := Lib.hid hxO
    obtain ⟨uO, huO⟩ : ∃ q, q = LO.length := ⟨_, rfl⟩
    rw [← huO] at hlO
    rw [← huO]
    replace huO := Lib.hid huO
    obtain ⟨pO, hpO⟩ : ∃ b, b = w15.heap.size := ⟨_, rfl⟩
    obtain ⟨w16, hw16⟩ : ∃ W, W = w15.alloc (.cells #[.string sO, .bool bO, .slice VO uO cO] 29) := ⟨_, rfl⟩
    have bb := al_belr w15 (.cells #[.string sO, .bool bO, .slice VO uO cO] 29)
    replace hlO := Lib.hid (hlO.bel bb)
    replace hr0 := Lib.hid (hr0.out.bel bb)
    replace hr1 := Lib.hid (hr1.out.bel bb)
    replace hr4 := Lib.hid (hr4.out.bel bb)
    replace hr5 := Lib.hid (hr5.out.bel bb)
    replace hlA := Lib.hid (hlA.out.bel bb)
    replace hlP := Lib.hid (hlP.out.bel bb)
    replace hlM := Lib.hid (hlM.out.bel bb)
    replace S := Lib.hid (S.out.alloc #[.string sO, .bool bO, .slice VO uO cO] 29 (noLof rfl))
    replace hO1 := Lib.hid (hO1.out.bel bb)
    clear bb
    rw [← hw16] at S hO1 hr0 hr1 hr4 hr5 hlA hlP hlM hlO
    rw [← hpO] at S
    go_upto_region 8 with fail
    rw [← hpO, ← hw16]
    clear hpO hw16
    clear hr5 hm5 hd5 hr4 hm4 hd4
    have hcase : (eA = 0 ∧ eP = 0 ∧ eM = 0 ∧ eO = 0) ∨ eA = 2 ∨ (eA = 0 ∧ eP = 2) ∨ (eA = 0 ∧ eP = 0 ∧ eM = 2) ∨ (eA = 0 ∧ eP = 0 ∧ eM = 0 ∧ eO = 2) := by
      have i1 := h2A.out
      have i2 := h2P.out
      have i3 := h2M.out
      have i4 := h2O.out
      omega
    clear h2A h2P h2M h2O
    rcases hcase with ⟨rfl, rfl, rfl, rfl⟩ | rfl | ⟨rfl, rfl⟩ | ⟨rfl, rfl, rfl⟩ | ⟨rfl, rfl, rfl, rfl⟩
    · obtain ⟨r1, r2, r3, r4, r5, r6, r7, r8⟩ := hrm.out rfl rfl rfl rfl
      have lA : Hid (uA ≤ 100000) := Lib.hid (by rw [huA.out]; have := hzA.out.1; rw [← hxA.out, List.length_map] at this; omega)
      have yA : Hid (∀ x ∈ LA, x.L.length ≤ 100000) := Lib.hid (fun x hx => by have := hzA.out.2 x.L (by rw [← hxA.out]; exact List.mem_map_of_mem hx); omega)
      have lP : Hid (uP ≤ 100000) := Lib.hid (by rw [huP.out]; have := hzP.out.1; rw [← hxP.out, List.length_map] at this; omega)
      have yP : Hid (∀ x ∈ LP, x.L.length ≤ 100000) := Lib.hid (fun x hx => by have := hzP.out.2 x.L (by rw [← hxP.out]; exact List.mem_map_of_mem hx); omega)
      have lM : Hid (uM ≤ 100000) := Lib.hid (by rw [huM.out]; have := hzM.out.1; rw [← hxM.out, List.length_map] at this; omega)
      have yM : Hid (∀ x ∈ LM, x.L.length ≤ 100000) := Lib.hid (fun x hx => by have := hzM.out.2 x.L (by rw [← hxM.out]; exact List.mem_map_of_mem hx); omega)
      have lO : Hid (uO ≤ 100000) := Lib.hid (by rw [huO.out]; have := hzO.out.1; rw [← hxO.out, List.length_map] at this; omega)
      have yO : Hid (∀ x ∈ LO, x.L.length ≤ 100000) := Lib.hid (fun x hx => by have := hzO.out.2 x.L (by rw [← hxO.out]; exact List.mem_map_of_mem hx); omega)
      have hU1 : Hid (∀ W, Below w16.heap.size w16 W → Calls Tryd.prog 21 #[.slice VA uA cA, .slice VO uO cO, .slice VP uP cP] W fun e w' => e = .returned (.bool true) ∧ Below W.heap.size W w') := Lib.hid (fun W hW => union_any LA LO LP VA uA cA VO uO cO VP uP cP W (hlA.out.bel hW) (hlO.out.bel hW) (hlP.out.bel hW) lA.out lO.out lP.out yA.out yO.out yP.out (fun x hx => by rw [hxA.out, hxO.out]; exact r3 x.L (by rw [← hxP.out]; exact List.mem_map_of_mem hx)) (fun x hx => by rw [hxP.out]; exact r4 x.L (by rw [← hxA.out]; exact List.mem_map_of_mem hx)) (fun x hx => by rw [hxP.out]; exact r5 x.L (by rw [← hxO.out]; exact List.mem_map_of_mem hx)))
      have hU2 : Hid (∀ W, Below w16.heap.size w16 W → Calls Tryd.prog 21 #[.slice VM uM cM, .slice VO uO cO, .slice VP uP cP] W fun e w' => e = .returned (.bool true) ∧ Below W.heap.size W w') := Lib.hid (fun W hW => union_any LM LO LP VM uM cM VO uO cO VP uP cP W (hlM.out.bel hW) (hlO.out.bel hW) (hlP.out.bel hW) lM.out lO.out lP.out yM.out yO.out yP.out (fun x hx => by rw [hxM.out, hxO.out]; exact r6 x.L (by rw [← hxP.out]; exact List.mem_map_of_mem hx)) (fun x hx => by rw [hxP.out]; exact r7 x.L (by rw [← hxM.out]; exact List.mem_map_of_mem hx)) (fun x hx => by rw [hxP.out]; exact r5 x.L (by rw [← hxO.out]; exact List.mem_map_of_mem hx)))
      have hU3 : Hid (∀ W, Below w16.heap.size w16 W → Calls Tryd.prog 22 #[.slice VM uM cM, .slice VO uO cO] W fun e w' => e = .returned (.bool true) ∧ Below W.heap.size W w') := Lib.hid (fun W hW => disj_any LM LO VM uM cM VO uO cO W (hlM.out.bel hW) (hlO.out.bel hW) lM.out lO.out yM.out yO.out (fun x hx => by rw [hxO.out]; exact r8 x.L (by rw [← hxM.out]; exact List.mem_map_of_mem hx)))
      clear r3 r4 r5 r6 r7 r8
      have jP : (bP == (bA || bO)) = true := by rw [r1]; simp
      have jM : (bM == (bA && !bO)) = true := by rw [r2]; simp
      subst r1 r2
      have hAw := Lib.hid (awake_any w16 hO1.out)
      clear jP jM hr0 hm0 hd0 hr1 hm1 hd1 hlA lA yA hxA huA hzA hlP lP yP hxP huP hzP hlM lM yM hxM huM hzM hlO lO yO hxO huO hzO hLA hLP hLM hrm
      go_wp2_with fail
      refine hAw.out.mono ?_
      rintro e w40 ⟨rfl, bb⟩
      have S4 := Lib.hid (S.out.call bb)
      have B4 := Lib.hid bb
      clear hAw bb S
      have xA1 : w40.cell? ⟨pA, 1, none⟩ = some (.bool bA) := S4.out.cl 3 1 rfl rfl
      have xA2 : w40.cell? ⟨pA, 2, none⟩ = some (.slice VA uA cA) := S4.out.cl 3 2 rfl rfl
      have xP1 : w40.cell? ⟨pP, 1, none⟩ = some (.bool (bA || bO)) := S4.out.cl 2 1 rfl rfl
      have xP2 : w40.cell? ⟨pP, 2, none⟩ = some (.slice VP uP cP) := S4.out.cl 2 2 rfl rfl
      have xM1 : w40.cell? ⟨pM, 1, none⟩ = some (.bool (bA && !bO)) := S4.out.cl 1 1 rfl rfl
      have xM2 : w40.cell? ⟨pM, 2, none⟩ = some (.slice VM uM cM) := S4.out.cl 1 2 rfl rfl
      have xO1 : w40.cell? ⟨pO, 1, none⟩ = some (.bool bO) := S4.out.cl 0 1 rfl rfl
      have xO2 : w40.cell? ⟨pO, 2, none⟩ = some (.slice VO uO cO) := S4.out.cl 0 2 rfl rfl
      cases bA <;> cases bO
      all_goals
        go_wp2_with fail
        clear xA1 xA2 xP1 xP2 xM1 xM2 xO1 xO2
        refine (hU1.out w40 B4.out).mono ?_
        rintro e w41 ⟨rfl, bb⟩
        have S5 := Lib.hid (S4.out.call bb)
        have B5 := Lib.hid (B4.out.trans (bb.mono B4.out.size))
        clear bb S4 B4
        have xA2 : w41.cell? ⟨pA, 2, none⟩ = some (.slice VA uA cA) := S5.out.cl 3 2 rfl rfl
        have xP2 : w41.cell? ⟨pP, 2, none⟩ = some (.slice VP uP cP) := S5.out.cl 2 2 rfl rfl
        have xM2 : w41.cell? ⟨pM, 2, none⟩ = some (.slice VM uM cM) := S5.out.cl 1 2 rfl rfl
        have xO2 : w41.cell? ⟨pO, 2, none⟩ = some (.slice VO uO cO) := S5.out.cl 0 2 rfl rfl
        go_wp2_with fail
        clear xA2 xP2 xM2 xO2
        refine (hU2.out w41 B5.out).mono ?_
        rintro e w42 ⟨rfl, bb⟩
        have S6 := Lib.hid (S5.out.call bb)
        have B6 := Lib.hid (B5.out.trans (bb.mono B5.out.size))
        clear bb S5 B5
        have xA2 : w42.cell? ⟨pA, 2, none⟩ = some (.slice VA uA cA) := S6.out.cl 3 2 rfl rfl
        have xP2 : w42.cell? ⟨pP, 2, none⟩ = some (.slice VP uP cP) := S6.out.cl 2 2 rfl rfl
        have xM2 : w42.cell? ⟨pM, 2, none⟩ = some (.slice VM uM cM) := S6.out.cl 1 2 rfl rfl
        have xO2 : w42.cell? ⟨pO, 2, none⟩ = some (.slice VO uO cO) := S6.out.cl 0 2 rfl rfl
        go_wp2_with fail
        clear xA2 xP2 xM2 xO2
        refine (hU3.out w42 B6.out).mono ?_
        rintro e w43 ⟨rfl, bb⟩
        have S7 := Lib.hid (S6.out.call bb).bel
        clear bb S6 B6
        go_wp2
        go_ret
        exact ⟨rfl, S7.out⟩
    all_goals
      have hAw := Lib.hid (awake_any w16 hO1.out)
      go_wp2_with fail
      refine hAw.out.mono ?_
      rintro e w17 ⟨rfl, bb⟩
      replace hr0 := Lib.hid (hr0.out.bel bb)
      replace hr1 := Lib.hid (hr1.out.bel bb)
      replace hlA := Lib.hid (hlA.out.bel bb)
      replace hlP := Lib.hid (hlP.out.bel bb)
      replace hlM := Lib.hid (hlM.out.bel bb)
      replace hlO := Lib.hid (hlO.out.bel bb)
      replace S := Lib.hid (S.out.call bb)
      replace hO1 := Lib.hid (hO1.out.bel bb)
      clear hAw bb
      have hX := Lib.hid (hLA.out B0 m0 d0 w17 hr0.out)
      go_wp2_with fail
      refine hX.out.mono ?_
      rintro e w18 ⟨rfl, bb⟩
      replace hr0 := Lib.hid (hr0.out.bel bb)
      replace hr1 := Lib.hid (hr1.out.bel bb)
      replace hlA := Lib.hid (hlA.out.bel bb)
      replace hlP := Lib.hid (hlP.out.bel bb)
      replace hlM := Lib.hid (hlM.out.bel bb)
      replace hlO := Lib.hid (hlO.out.bel bb)
      replace S := Lib.hid (S.out.call bb)
      replace hO1 := Lib.hid (hO1.out.bel bb)
      clear hX bb
      have hJ := Lib.hid (show Calls Tryd.prog 19 #[.int .i64 5, .slice B0 m0 d0, .slice (some ⟨yb, yo, none⟩) m1 d1] w18 fun e w' => ∃ v, e = .returned v ∧ SlN w18 w' v ((F9.Tr.bin 5 t0 t1).pre.map toNd) from jn_any 5 t0 t1 B0 m0 d0 (some ⟨yb, yo, none⟩) m1 d1 w18 hr0.out hr1.out hm0.out hm1.out)
      go_wp2_with fail
      refine hJ.out.mono ?_
      rintro e w19 ⟨v, rfl, hU⟩
      obtain ⟨B6, m6, d6, rfl, hd6, hm6, hr6, bb⟩ := hU.get (by have := ln0.out; have := ln1.out; simp only [bin_len]; omega)
      replace hr0 := Lib.hid (hr0.out.bel bb)
      replace hr1 := Lib.hid (hr1.out.bel bb)
      replace hlA := Lib.hid (hlA.out.bel bb)
      replace hlP := Lib.hid (hlP.out.bel bb)
      replace hlM := Lib.hid (hlM.out.bel bb)
      replace hlO := Lib.hid (hlO.out.bel bb)
      replace S := Lib.hid (S.out.call bb)
      replace hO1 := Lib.hid (hO1.out.bel bb)
      replace hd6 := Lib.hid hd6
      replace hm6 := Lib.hid hm6
      replace hr6 := Lib.hid hr6
      clear hJ hU bb
      have hX := Lib.hid (hLP.out B6 m6 d6 w19 hr6.out)
      go_wp2_with fail
      refine hX.out.mono ?_
      rintro e w20 ⟨rfl, bb⟩
      replace hr0 := Lib.hid (hr0.out.bel bb)
      replace hr1 := Lib.hid (hr1.out.bel bb)
      replace hr6 := Lib.hid (hr6.out.bel bb)
      replace hlA := Lib.hid (hlA.out.bel bb)
      replace hlP := Lib.hid (hlP.out.bel bb)
      replace hlM := Lib.hid (hlM.out.bel bb)
      replace hlO := Lib.hid (hlO.out.bel bb)
      replace S := Lib.hid (S.out.call bb)
      replace hO1 := Lib.hid (hO1.out.bel bb)
      clear hX bb
      have hJ := Lib.hid (show Calls Tryd.prog 19 #[.int .i64 6, .slice B0 m0 d0, .slice (some ⟨yb, yo, none⟩) m1 d1] w20 fun e w' => ∃ v, e = .returned v ∧ SlN w20 w' v ((F9.Tr.bin 6 t0 t1).pre.map toNd) from jn_any 6 t0 t1 B0 m0 d0 (some ⟨yb, yo, none⟩) m1 d1 w20 hr0.out hr1.out hm0.out hm1.out)
      go_wp2_with fail
      refine hJ.out.mono ?_
      rintro e w21 ⟨v, rfl, hU⟩
      obtain ⟨B7, m7, d7, rfl, hd7, hm7, hr7, bb⟩ := hU.get (by have := ln0.out; have := ln1.out; simp only [bin_len]; omega)
      replace hr0 := Lib.hid (hr0.out.bel bb)
      replace hr1 := Lib.hid (hr1.out.bel bb)
      replace hr6 := Lib.hid (hr6.out.bel bb)
      replace hlA := Lib.hid (hlA.out.bel bb)
      replace hlP := Lib.hid (hlP.out.bel bb)
      replace hlM := Lib.hid (hlM.out.bel bb)
      replace hlO := Lib.hid (hlO.out.bel bb)
      replace S := Lib.hid (S.out.call bb)
      replace hO1 := Lib.hid (hO1.out.bel bb)
      replace hd7 := Lib.hid hd7
      replace hm7 := Lib.hid hm7
      replace hr7 := Lib.hid hr7
      clear hJ hU bb
      have hX := Lib.hid (hLM.out B7 m7 d7 w21 hr7.out)
      go_wp2_with fail
      refine hX.out.mono ?_
      rintro e w22 ⟨rfl, bb⟩
      replace hr0 := Lib.hid (hr0.out.bel bb)
      replace hr1 := Lib.hid (hr1.out.bel bb)
      replace hr6 := Lib.hid (hr6.out.bel bb)
      replace hr7 := Lib.hid (hr7.out.bel bb)
      replace hlA := Lib.hid (hlA.out.bel bb)
      replace hlP := Lib.hid (hlP.out.bel bb)
      replace hlM := Lib.hid (hlM.out.bel bb)
      replace hlO := Lib.hid (hlO.out.bel bb)
      replace S := Lib.hid (S.out.call bb)
      replace hO1 := Lib.hid (hO1.out.bel bb)
      clear hX bb
      have hw0 := Lib.hid S.out.bel
      clear S hO1 hr0 hm0 hd0 hr1 hm1 hd1 hr6 hm6 hd6 hr7 hm7 hd7 hlA hlP hlM hlO
      go_wp2
      go_ret
      exact ⟨by first | rfl | simp, hw0.out⟩
end Go.Proofs.YthbkdjbmkhmlnaaDoor
