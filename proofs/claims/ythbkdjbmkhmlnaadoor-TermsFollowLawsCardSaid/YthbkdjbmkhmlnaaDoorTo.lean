/- Law 10: the laws of models. -/
import Derived.Test.YthbkdjbmkhmlnaaDoorTn
namespace Go.Proofs.YthbkdjbmkhmlnaaDoor
open Go.RowKit
set_option linter.unusedVariables false

theorem v_len : vT.pre.length = 1 := rfl
theorem a_nm : nameB ⟨#[97]⟩ = true := by decide +kernel
theorem b_nm : nameB ⟨#[98]⟩ = true := by decide +kernel
theorem c_nm : nameB ⟨#[99]⟩ = true := by decide +kernel
theorem lit_one (W : World) : LR ndC (W.alloc (.cells #[.int .i64 3, .string ⟨#[]⟩, .int .i64 0] 39)) (some ⟨W.heap.size, 0, none⟩) 1 ((F10.oneT).pre.map toNd) := by
  have SA : St W (W.alloc (.cells #[.int .i64 3, .string ⟨#[]⟩, .int .i64 0] 39)) [(W.heap.size, #[.int .i64 3, .string ⟨#[]⟩, .int .i64 0], 39)] [] := (St.new W).alloc #[.int .i64 3, .string ⟨#[]⟩, .int .i64 0] 39 (noLof rfl)
  exact St_glr (C := ndC) (L := [⟨3, ⟨#[]⟩, 0⟩]) SA 1 rfl (fun x _ => ⟨trivial, trivial, trivial⟩)
theorem lit_v (W : World) : LR ndC (W.alloc (.cells #[.int .i64 1, .string ⟨#[118]⟩, .int .i64 0] 39)) (some ⟨W.heap.size, 0, none⟩) 1 (vT.pre.map toNd) := by
  have SA : St W (W.alloc (.cells #[.int .i64 1, .string ⟨#[118]⟩, .int .i64 0] 39)) [(W.heap.size, #[.int .i64 1, .string ⟨#[118]⟩, .int .i64 0], 39)] [] := (St.new W).alloc #[.int .i64 1, .string ⟨#[118]⟩, .int .i64 0] 39 (noLof rfl)
  exact St_glr (C := ndC) (L := [⟨1, ⟨#[118]⟩, 0⟩]) SA 1 rfl (fun x _ => ⟨trivial, trivial, trivial⟩)
theorem al_bel (W : World) (x : Obj) : Below W.heap.size W (W.alloc x) := (Below.refl _ W).alloc (Nat.le_refl _) _

set_option maxRecDepth 100000 in
set_option maxHeartbeats 16000000 in
theorem laws_any (s0 : ByteArray) (L0 : List Nd) (A0 : Option Addr) (n0 c0 : Nat) (s1 : ByteArray) (L1 : List Nd) (A1 : Option Addr) (n1 c1 : Nat) (s2 : ByteArray) (L2 : List Nd) (A2 : Option Addr) (n2 c2 : Nat) (w : World) (h0 : LR ndC w A0 n0 L0) (hc0 : n0 ≤ c0) (h1 : LR ndC w A1 n1 L1) (hc1 : n1 ≤ c1) (h2 : LR ndC w A2 n2 L2) (hc2 : n2 ≤ c2) (hO : Og w) : Calls Tryd.prog 6 #[.agg #[.string s0, .slice A0 n0 c0], .agg #[.string s1, .slice A1 n1 c1], .agg #[.string s2, .slice A2 n2 c2]] w fun e w' => e = .returned (.bool true) ∧ Below w.heap.size w w' := by
  have S1 := Lib.hid ((((St.new w).allocAt w.heap.size #[.string s0, .slice A0 n0 c0] 24 (noLof rfl) rfl).allocAt (w.heap.size + 1) #[.string s1, .slice A1 n1 c1] 24 (noLof rfl) (by simp)).allocAt (w.heap.size + 2) #[.string s2, .slice A2 n2 c2] 24 (noLof rfl) (by simp))
  obtain ⟨w1, hw1⟩ : ∃ W, W = ((w.alloc (.cells #[.string s0, .slice A0 n0 c0] 24)).alloc (.cells #[.string s1, .slice A1 n1 c1] 24)).alloc (.cells #[.string s2, .slice A2 n2 c2] 24) := ⟨_, rfl⟩
  obtain ⟨fb, hfb⟩ : ∃ b, b = w.heap.size := ⟨_, rfl⟩
  rw [← hw1, ← hfb] at S1
  have k00 : Hid (w1.cell? ⟨fb, 0, none⟩ = some (.string s0)) := Lib.hid (S1.out.cl 2 0 rfl rfl)
  have k01 : Hid (w1.cell? ⟨fb, 1, none⟩ = some (.slice A0 n0 c0)) := Lib.hid (S1.out.cl 2 1 rfl rfl)
  have k10 : Hid (w1.cell? ⟨fb + 1, 0, none⟩ = some (.string s1)) := Lib.hid (S1.out.cl 1 0 rfl rfl)
  have k11 : Hid (w1.cell? ⟨fb + 1, 1, none⟩ = some (.slice A1 n1 c1)) := Lib.hid (S1.out.cl 1 1 rfl rfl)
  have k20 : Hid (w1.cell? ⟨fb + 2, 0, none⟩ = some (.string s2)) := Lib.hid (S1.out.cl 0 0 rfl rfl)
  have k21 : Hid (w1.cell? ⟨fb + 2, 1, none⟩ = some (.slice A2 n2 c2)) := Lib.hid (S1.out.cl 0 1 rfl rfl)
  have hSh0 := Lib.hid (fun W (hW : Below w.heap.size w W) => short_any s0 L0 A0 n0 c0 ⟨#[97]⟩ W (h0.bel hW) hc0 a_nm)
  have hSh1 := Lib.hid (fun W (hW : Below w.heap.size w W) => short_any s1 L1 A1 n1 c1 ⟨#[98]⟩ W (h1.bel hW) hc1 b_nm)
  have hSh2 := Lib.hid (fun W (hW : Below w.heap.size w W) => short_any s2 L2 A2 n2 c2 ⟨#[99]⟩ W (h2.bel hW) hc2 c_nm)
  have hO1 := Lib.hid (hO.bel S1.out.bel)
  have hw0 := Lib.hid S1.out.bel
  clear h0 h1 h2 hc0 hc1 hc2 hO S1
  go_enter Tryd.func6, Tryd.ntmps6
  go_upto_region 1 with fail
  rw [← hw1, ← hfb]
  clear hw1 hfb
  refine Wl.start (fun V => Below w1.heap.size w1 V) [] (by kernel_rfl) ?_
  have hS : Below w1.heap.size w1 w1.drew := (Below.refl _ w1).drew
  generalize w1.drew = w2 at *
  refine Wl.t (i := 0) (v := .agg #[.string s0, .slice A0 n0 c0]) (some 14) at0 (hy := fun V h => by (have q0 := bel_cell h k00.out; have q1 := bel_cell h k01.out; clear h; go_simp)) (hS := hS) (h := ?_)
  refine Wl.t (i := 2) (v := .agg #[.string s1, .slice A1 n1 c1]) (some 16) at2 (hy := fun V h => by (have q0 := bel_cell h k10.out; have q1 := bel_cell h k11.out; clear h; go_simp)) (hS := hS) (h := ?_)
  refine Wl.t (i := 4) (v := .agg #[.string s2, .slice A2 n2 c2]) (some 18) at4 (hy := fun V h => by (have q0 := bel_cell h k20.out; have q1 := bel_cell h k21.out; clear h; go_simp)) (hS := hS) (h := ?_)
  clear k00 k01 k10 k11 k20 k21
  try simp only [Act.put, List.setIfInBounds_toArray, List.set_cons_zero, List.set_cons_succ]
  refine Wl.g (i := 1) at1 (by kernel_rfl) (by kernel_rfl) fun K' hK => ?_
  refine oper_call (f := 17) (args := #[.agg #[.string s0, .slice A0 n0 c0], .string ⟨#[97]⟩]) rfl (by kernel_rfl) ((hSh0.out w2 (hw0.out.trans (hS.mono hw0.out.size))).mono ?_)
  rintro e w3 ⟨v0, t0, rfl, wf0, ln0, hU⟩
  obtain ⟨B0, m0, d0, rfl, hd0, hm0, hr0, bb⟩ := hU.get (by omega)
  replace hS := hS.trans (bb.mono hS.size)
  replace wf0 := Lib.hid wf0
  replace ln0 := Lib.hid ln0
  replace hd0 := Lib.hid hd0
  replace hm0 := Lib.hid hm0
  replace hr0 := Lib.hid hr0
  refine ⟨_, rfl, hK.out _ _ hS ?_⟩
  clear hK K' hU bb hSh0
  try simp only [Act.put, List.setIfInBounds_toArray, List.set_cons_zero, List.set_cons_succ]
  refine Wl.g (i := 3) at3 (by kernel_rfl) (by kernel_rfl) fun K' hK => ?_
  refine oper_call (f := 17) (args := #[.agg #[.string s1, .slice A1 n1 c1], .string ⟨#[98]⟩]) rfl (by kernel_rfl) ((hSh1.out w3 (hw0.out.trans (hS.mono hw0.out.size))).mono ?_)
  rintro e w4 ⟨v1, t1, rfl, wf1, ln1, hU⟩
  obtain ⟨B1, m1, d1, rfl, hd1, hm1, hr1, bb⟩ := hU.get (by omega)
  replace hS := hS.trans (bb.mono hS.size)
  replace hr0 := Lib.hid (hr0.out.bel bb)
  replace wf1 := Lib.hid wf1
  replace ln1 := Lib.hid ln1
  replace hd1 := Lib.hid hd1
  replace hm1 := Lib.hid hm1
  replace hr1 := Lib.hid hr1
  refine ⟨_, rfl, hK.out _ _ hS ?_⟩
  clear hK K' hU bb hSh1
  try simp only [Act.put, List.setIfInBounds_toArray, List.set_cons_zero, List.set_cons_succ]
  refine Wl.g (i := 5) at5 (by kernel_rfl) (by kernel_rfl) fun K' hK => ?_
  refine oper_call (f := 17) (args := #[.agg #[.string s2, .slice A2 n2 c2], .string ⟨#[99]⟩]) rfl (by kernel_rfl) ((hSh2.out w4 (hw0.out.trans (hS.mono hw0.out.size))).mono ?_)
  rintro e w5 ⟨v2, t2, rfl, wf2, ln2, hU⟩
  obtain ⟨B2, m2, d2, rfl, hd2, hm2, hr2, bb⟩ := hU.get (by omega)
  replace hS := hS.trans (bb.mono hS.size)
  replace hr0 := Lib.hid (hr0.out.bel bb)
  replace hr1 := Lib.hid (hr1.out.bel bb)
  replace wf2 := Lib.hid wf2
  replace ln2 := Lib.hid ln2
  replace hd2 := Lib.hid hd2
  replace hm2 := Lib.hid hm2
  replace hr2 := Lib.hid hr2
  refine ⟨_, rfl, hK.out _ _ hS ?_⟩
  clear hK K' hU bb hSh2
  try simp only [Act.put, List.setIfInBounds_toArray, List.set_cons_zero, List.set_cons_succ]
  refine Wl.g (i := 6) at6 (by kernel_rfl) (by kernel_rfl) fun K' hK => ?_
  go_simp
  refine hK.out _ _ hS ?_
  clear hK K'
  try simp only [Act.put, List.setIfInBounds_toArray, List.set_cons_zero, List.set_cons_succ]
  refine Wl.g (i := 7) at7 (by kernel_rfl) (by kernel_rfl) fun K' hK => ?_
  go_simp
  refine hK.out _ _ hS ?_
  clear hK K'
  try simp only [Act.put, List.setIfInBounds_toArray, List.set_cons_zero, List.set_cons_succ]
  refine Wl.g (i := 8) at8 (by kernel_rfl) (by kernel_rfl) fun K' hK => ?_
  go_simp
  refine hK.out _ _ hS ?_
  clear hK K'
  try simp only [Act.put, List.setIfInBounds_toArray, List.set_cons_zero, List.set_cons_succ]
  refine Wl.done (by kernel_rfl) ?_
  try go_simp
  replace hw0 := Lib.hid (hw0.out.trans (hS.mono hw0.out.size))
  replace hO1 := Lib.hid (hO1.out.bel hS)
  clear hS
  go_upto_region 2 with fail
  have hr30 := Lib.hid (lit_v w5)
  have bb := al_bel w5 (.cells #[.int .i64 1, .string ⟨#[118]⟩, .int .i64 0] 39)
  replace hr0 := Lib.hid (hr0.out.bel bb)
  replace hr1 := Lib.hid (hr1.out.bel bb)
  replace hr2 := Lib.hid (hr2.out.bel bb)
  replace hw0 := Lib.hid (hw0.out.trans (bb.mono hw0.out.size))
  replace hO1 := Lib.hid (hO1.out.bel bb)
  obtain ⟨B3, hB3⟩ : ∃ a, a = (some ⟨w5.heap.size, 0, none⟩ : Option Addr) := ⟨_, rfl⟩
  obtain ⟨w6, hw6⟩ : ∃ W, W = w5.alloc (.cells #[.int .i64 1, .string ⟨#[118]⟩, .int .i64 0] 39) := ⟨_, rfl⟩
  rw [← hw6] at hw0 hO1 hr30 hr0 hr1 hr2
  rw [← hB3] at hr30
  have hr3 := hr30
  have hm3 : Hid ((1 : Nat) ≤ 64) := Lib.hid (by decide)
  have hd3 : Hid ((1 : Nat) ≤ 1) := Lib.hid (by decide)
  clear bb hr30
  go_upto_region 4 with fail
  rw [← hw6, ← hB3]
  clear hw6 hB3
  simp only [List.append_eq, List.cons_append, List.nil_append]
  have hAw := Lib.hid (awake_any w6 hO1.out)
  go_wp2_with fail
  refine hAw.out.mono ?_
  rintro e w7 ⟨rfl, bb⟩
  replace hr0 := Lib.hid (hr0.out.bel bb)
  replace hr1 := Lib.hid (hr1.out.bel bb)
  replace hr2 := Lib.hid (hr2.out.bel bb)
  replace hr3 := Lib.hid (hr3.out.bel bb)
  replace hw0 := Lib.hid (hw0.out.trans (bb.mono hw0.out.size))
  replace hO1 := Lib.hid (hO1.out.bel bb)
  clear hAw bb
  have hJ := Lib.hid (show Calls Tryd.prog 19 #[.int .i64 8, .slice B0 m0 d0, .slice B1 m1 d1] w7 fun e w' => ∃ v, e = .returned v ∧ SlN w7 w' v ((F9.Tr.bin 8 t0 t1).pre.map toNd) from jn_any 8 t0 t1 B0 m0 d0 B1 m1 d1 w7 hr0.out hr1.out hm0.out hm1.out)
  go_wp2_with fail
  refine hJ.out.mono ?_
  rintro e w8 ⟨v, rfl, hU⟩
  obtain ⟨B4, m4, d4, rfl, hd4, hm4, hr4, bb⟩ := hU.get (by have := ln0.out; have := ln1.out; have := ln2.out; simp only [bin_len]; omega)
  replace hr0 := Lib.hid (hr0.out.bel bb)
  replace hr1 := Lib.hid (hr1.out.bel bb)
  replace hr2 := Lib.hid (hr2.out.bel bb)
  replace hr3 := Lib.hid (hr3.out.bel bb)
  replace hw0 := Lib.hid (hw0.out.trans (bb.mono hw0.out.size))
  replace hO1 := Lib.hid (hO1.out.bel bb)
  replace hd4 := Lib.hid hd4
  replace hm4 := Lib.hid hm4
  replace hr4 := Lib.hid hr4
  clear hJ hU bb
  have hJ := Lib.hid (show Calls Tryd.prog 19 #[.int .i64 5, .slice B0 m0 d0, .slice B1 m1 d1] w8 fun e w' => ∃ v, e = .returned v ∧ SlN w8 w' v ((F9.Tr.bin 5 t0 t1).pre.map toNd) from jn_any 5 t0 t1 B0 m0 d0 B1 m1 d1 w8 hr0.out hr1.out hm0.out hm1.out)
  go_wp2_with fail
  refine hJ.out.mono ?_
  rintro e w9 ⟨v, rfl, hU⟩
  obtain ⟨B5, m5, d5, rfl, hd5, hm5, hr5, bb⟩ := hU.get (by have := ln0.out; have := ln1.out; have := ln2.out; simp only [bin_len]; omega)
  replace hr0 := Lib.hid (hr0.out.bel bb)
  replace hr1 := Lib.hid (hr1.out.bel bb)
  replace hr2 := Lib.hid (hr2.out.bel bb)
  replace hr3 := Lib.hid (hr3.out.bel bb)
  replace hr4 := Lib.hid (hr4.out.bel bb)
  replace hw0 := Lib.hid (hw0.out.trans (bb.mono hw0.out.size))
  replace hO1 := Lib.hid (hO1.out.bel bb)
  replace hd5 := Lib.hid hd5
  replace hm5 := Lib.hid hm5
  replace hr5 := Lib.hid hr5
  clear hJ hU bb
  have hJ := Lib.hid (show Calls Tryd.prog 19 #[.int .i64 7, .slice B0 m0 d0, .slice B1 m1 d1] w9 fun e w' => ∃ v, e = .returned v ∧ SlN w9 w' v ((F9.Tr.bin 7 t0 t1).pre.map toNd) from jn_any 7 t0 t1 B0 m0 d0 B1 m1 d1 w9 hr0.out hr1.out hm0.out hm1.out)
  go_wp2_with fail
  refine hJ.out.mono ?_
  rintro e w10 ⟨v, rfl, hU⟩
  obtain ⟨B6, m6, d6, rfl, hd6, hm6, hr6, bb⟩ := hU.get (by have := ln0.out; have := ln1.out; have := ln2.out; simp only [bin_len]; omega)
  replace hr0 := Lib.hid (hr0.out.bel bb)
  replace hr1 := Lib.hid (hr1.out.bel bb)
  replace hr2 := Lib.hid (hr2.out.bel bb)
  replace hr3 := Lib.hid (hr3.out.bel bb)
  replace hr4 := Lib.hid (hr4.out.bel bb)
  replace hr5 := Lib.hid (hr5.out.bel bb)
  replace hw0 := Lib.hid (hw0.out.trans (bb.mono hw0.out.size))
  replace hO1 := Lib.hid (hO1.out.bel bb)
  replace hd6 := Lib.hid hd6
  replace hm6 := Lib.hid hm6
  replace hr6 := Lib.hid hr6
  clear hJ hU bb
  have hJ := Lib.hid (show Calls Tryd.prog 19 #[.int .i64 5, .slice B5 m5 d5, .slice B6 m6 d6] w10 fun e w' => ∃ v, e = .returned v ∧ SlN w10 w' v ((F9.Tr.bin 5 (F9.Tr.bin 5 t0 t1) (F9.Tr.bin 7 t0 t1)).pre.map toNd) from jn_any 5 (F9.Tr.bin 5 t0 t1) (F9.Tr.bin 7 t0 t1) B5 m5 d5 B6 m6 d6 w10 hr5.out hr6.out hm5.out hm6.out)
  go_wp2_with fail
  refine hJ.out.mono ?_
  rintro e w11 ⟨v, rfl, hU⟩
  obtain ⟨B7, m7, d7, rfl, hd7, hm7, hr7, bb⟩ := hU.get (by have := ln0.out; have := ln1.out; have := ln2.out; simp only [bin_len]; omega)
  replace hr0 := Lib.hid (hr0.out.bel bb)
  replace hr1 := Lib.hid (hr1.out.bel bb)
  replace hr2 := Lib.hid (hr2.out.bel bb)
  replace hr3 := Lib.hid (hr3.out.bel bb)
  replace hr4 := Lib.hid (hr4.out.bel bb)
  replace hr5 := Lib.hid (hr5.out.bel bb)
  replace hr6 := Lib.hid (hr6.out.bel bb)
  replace hw0 := Lib.hid (hw0.out.trans (bb.mono hw0.out.size))
  replace hO1 := Lib.hid (hO1.out.bel bb)
  replace hd7 := Lib.hid hd7
  replace hm7 := Lib.hid hm7
  replace hr7 := Lib.hid hr7
  clear hJ hU bb
  have hr80 := Lib.hid (lit_one w11)
  have bb := al_bel w11 (.cells #[.int .i64 3, .string ⟨#[]⟩, .int .i64 0] 39)
  replace hr0 := Lib.hid (hr0.out.bel bb)
  replace hr1 := Lib.hid (hr1.out.bel bb)
  replace hr2 := Lib.hid (hr2.out.bel bb)
  replace hr3 := Lib.hid (hr3.out.bel bb)
  replace hr4 := Lib.hid (hr4.out.bel bb)
  replace hr5 := Lib.hid (hr5.out.bel bb)
  replace hr6 := Lib.hid (hr6.out.bel bb)
  replace hr7 := Lib.hid (hr7.out.bel bb)
  replace hw0 := Lib.hid (hw0.out.trans (bb.mono hw0.out.size))
  replace hO1 := Lib.hid (hO1.out.bel bb)
  obtain ⟨B8, hB8⟩ : ∃ a, a = (some ⟨w11.heap.size, 0, none⟩ : Option Addr) := ⟨_, rfl⟩
  obtain ⟨w12, hw12⟩ : ∃ W, W = w11.alloc (.cells #[.int .i64 3, .string ⟨#[]⟩, .int .i64 0] 39) := ⟨_, rfl⟩
  rw [← hw12] at hw0 hO1 hr80 hr0 hr1 hr2 hr3 hr4 hr5 hr6 hr7
  rw [← hB8] at hr80
  have hr8 := hr80
  have hm8 : Hid ((1 : Nat) ≤ 64) := Lib.hid (by decide)
  have hd8 : Hid ((1 : Nat) ≤ 1) := Lib.hid (by decide)
  clear bb hr80
  have hJ := Lib.hid (show Calls Tryd.prog 19 #[.int .i64 7, .slice B7 m7 d7, .slice B8 1 1] w12 fun e w' => ∃ v, e = .returned v ∧ SlN w12 w' v ((F9.Tr.bin 7 (F9.Tr.bin 5 (F9.Tr.bin 5 t0 t1) (F9.Tr.bin 7 t0 t1)) F10.oneT).pre.map toNd) from jn_any 7 (F9.Tr.bin 5 (F9.Tr.bin 5 t0 t1) (F9.Tr.bin 7 t0 t1)) F10.oneT B7 m7 d7 B8 1 1 w12 hr7.out hr8.out hm7.out hm8.out)
  go_wp2_with fail
  rw [← hw12, ← hB8]
  clear hw12 hB8
  refine hJ.out.mono ?_
  rintro e w13 ⟨v, rfl, hU⟩
  obtain ⟨B9, m9, d9, rfl, hd9, hm9, hr9, bb⟩ := hU.get (by have := ln0.out; have := ln1.out; have := ln2.out; simp only [bin_len, one_len]; omega)
  replace hr0 := Lib.hid (hr0.out.bel bb)
  replace hr1 := Lib.hid (hr1.out.bel bb)
  replace hr2 := Lib.hid (hr2.out.bel bb)
  replace hr3 := Lib.hid (hr3.out.bel bb)
  replace hr4 := Lib.hid (hr4.out.bel bb)
  replace hr5 := Lib.hid (hr5.out.bel bb)
  replace hr6 := Lib.hid (hr6.out.bel bb)
  replace hr7 := Lib.hid (hr7.out.bel bb)
  replace hr8 := Lib.hid (hr8.out.bel bb)
  replace hw0 := Lib.hid (hw0.out.trans (bb.mono hw0.out.size))
  replace hO1 := Lib.hid (hO1.out.bel bb)
  replace hd9 := Lib.hid hd9
  replace hm9 := Lib.hid hm9
  replace hr9 := Lib.hid hr9
  clear hJ hU bb
  have hPr := Lib.hid (pr_star wf0.out wf1.out ln0.out ln1.out)
  have hG := Lib.hid (agree_any _ _ hPr.out.wx hPr.out.wy hPr.out.lx hPr.out.ly hPr.out.ag B4 m4 d4 B9 m9 d9 w13 hr4.out hd4.out hr9.out hd9.out hO1.out)
  go_wp2_with fail
  refine hG.out.mono ?_
  rintro e w14 ⟨rfl, bb⟩
  clear hr4 hm4 hd4 hr5 hm5 hd5 hr6 hm6 hd6 hr7 hm7 hd7 hr8 hm8 hd8 hr9 hm9 hd9
  replace hr0 := Lib.hid (hr0.out.bel bb)
  replace hr1 := Lib.hid (hr1.out.bel bb)
  replace hr2 := Lib.hid (hr2.out.bel bb)
  replace hr3 := Lib.hid (hr3.out.bel bb)
  replace hw0 := Lib.hid (hw0.out.trans (bb.mono hw0.out.size))
  replace hO1 := Lib.hid (hO1.out.bel bb)
  clear hG hPr bb
  have hJ := Lib.hid (show Calls Tryd.prog 19 #[.int .i64 8, .slice B0 m0 d0, .slice B1 m1 d1] w14 fun e w' => ∃ v, e = .returned v ∧ SlN w14 w' v ((F9.Tr.bin 8 t0 t1).pre.map toNd) from jn_any 8 t0 t1 B0 m0 d0 B1 m1 d1 w14 hr0.out hr1.out hm0.out hm1.out)
  go_wp2_with fail
  refine hJ.out.mono ?_
  rintro e w15 ⟨v, rfl, hU⟩
  obtain ⟨B10, m10, d10, rfl, hd10, hm10, hr10, bb⟩ := hU.get (by have := ln0.out; have := ln1.out; have := ln2.out; simp only [bin_len]; omega)
  replace hr0 := Lib.hid (hr0.out.bel bb)
  replace hr1 := Lib.hid (hr1.out.bel bb)
  replace hr2 := Lib.hid (hr2.out.bel bb)
  replace hr3 := Lib.hid (hr3.out.bel bb)
  replace hw0 := Lib.hid (hw0.out.trans (bb.mono hw0.out.size))
  replace hO1 := Lib.hid (hO1.out.bel bb)
  replace hd10 := Lib.hid hd10
  replace hm10 := Lib.hid hm10
  replace hr10 := Lib.hid hr10
  clear hJ hU bb
  have hJ := Lib.hid (show Calls Tryd.prog 19 #[.int .i64 8, .slice B1 m1 d1, .slice B0 m0 d0] w15 fun e w' => ∃ v, e = .returned v ∧ SlN w15 w' v ((F9.Tr.bin 8 t1 t0).pre.map toNd) from jn_any 8 t1 t0 B1 m1 d1 B0 m0 d0 w15 hr1.out hr0.out hm1.out hm0.out)
  go_wp2_with fail
  refine hJ.out.mono ?_
  rintro e w16 ⟨v, rfl, hU⟩
  obtain ⟨B11, m11, d11, rfl, hd11, hm11, hr11, bb⟩ := hU.get (by have := ln0.out; have := ln1.out; have := ln2.out; simp only [bin_len]; omega)
  replace hr0 := Lib.hid (hr0.out.bel bb)
  replace hr1 := Lib.hid (hr1.out.bel bb)
  replace hr2 := Lib.hid (hr2.out.bel bb)
  replace hr3 := Lib.hid (hr3.out.bel bb)
  replace hr10 := Lib.hid (hr10.out.bel bb)
  replace hw0 := Lib.hid (hw0.out.trans (bb.mono hw0.out.size))
  replace hO1 := Lib.hid (hO1.out.bel bb)
  replace hd11 := Lib.hid hd11
  replace hm11 := Lib.hid hm11
  replace hr11 := Lib.hid hr11
  clear hJ hU bb
  have hPr := Lib.hid (pr_star_comm wf0.out wf1.out ln0.out ln1.out)
  have hG := Lib.hid (agree_any _ _ hPr.out.wx hPr.out.wy hPr.out.lx hPr.out.ly hPr.out.ag B10 m10 d10 B11 m11 d11 w16 hr10.out hd10.out hr11.out hd11.out hO1.out)
  go_wp2_with fail
  refine hG.out.mono ?_
  rintro e w17 ⟨rfl, bb⟩
  clear hr10 hm10 hd10 hr11 hm11 hd11
  replace hr0 := Lib.hid (hr0.out.bel bb)
  replace hr1 := Lib.hid (hr1.out.bel bb)
  replace hr2 := Lib.hid (hr2.out.bel bb)
  replace hr3 := Lib.hid (hr3.out.bel bb)
  replace hw0 := Lib.hid (hw0.out.trans (bb.mono hw0.out.size))
  replace hO1 := Lib.hid (hO1.out.bel bb)
  clear hG hPr bb
  have hJ := Lib.hid (show Calls Tryd.prog 19 #[.int .i64 7, .slice B0 m0 d0, .slice B1 m1 d1] w17 fun e w' => ∃ v, e = .returned v ∧ SlN w17 w' v ((F9.Tr.bin 7 t0 t1).pre.map toNd) from jn_any 7 t0 t1 B0 m0 d0 B1 m1 d1 w17 hr0.out hr1.out hm0.out hm1.out)
  go_wp2_with fail
  refine hJ.out.mono ?_
  rintro e w18 ⟨v, rfl, hU⟩
  obtain ⟨B12, m12, d12, rfl, hd12, hm12, hr12, bb⟩ := hU.get (by have := ln0.out; have := ln1.out; have := ln2.out; simp only [bin_len]; omega)
  replace hr0 := Lib.hid (hr0.out.bel bb)
  replace hr1 := Lib.hid (hr1.out.bel bb)
  replace hr2 := Lib.hid (hr2.out.bel bb)
  replace hr3 := Lib.hid (hr3.out.bel bb)
  replace hw0 := Lib.hid (hw0.out.trans (bb.mono hw0.out.size))
  replace hO1 := Lib.hid (hO1.out.bel bb)
  replace hd12 := Lib.hid hd12
  replace hm12 := Lib.hid hm12
  replace hr12 := Lib.hid hr12
  clear hJ hU bb
  have hJ := Lib.hid (show Calls Tryd.prog 19 #[.int .i64 7, .slice B1 m1 d1, .slice B0 m0 d0] w18 fun e w' => ∃ v, e = .returned v ∧ SlN w18 w' v ((F9.Tr.bin 7 t1 t0).pre.map toNd) from jn_any 7 t1 t0 B1 m1 d1 B0 m0 d0 w18 hr1.out hr0.out hm1.out hm0.out)
  go_wp2_with fail
  refine hJ.out.mono ?_
  rintro e w19 ⟨v, rfl, hU⟩
  obtain ⟨B13, m13, d13, rfl, hd13, hm13, hr13, bb⟩ := hU.get (by have := ln0.out; have := ln1.out; have := ln2.out; simp only [bin_len]; omega)
  replace hr0 := Lib.hid (hr0.out.bel bb)
  replace hr1 := Lib.hid (hr1.out.bel bb)
  replace hr2 := Lib.hid (hr2.out.bel bb)
  replace hr3 := Lib.hid (hr3.out.bel bb)
  replace hr12 := Lib.hid (hr12.out.bel bb)
  replace hw0 := Lib.hid (hw0.out.trans (bb.mono hw0.out.size))
  replace hO1 := Lib.hid (hO1.out.bel bb)
  replace hd13 := Lib.hid hd13
  replace hm13 := Lib.hid hm13
  replace hr13 := Lib.hid hr13
  clear hJ hU bb
  have hPr := Lib.hid (pr_colon_comm wf0.out wf1.out ln0.out ln1.out)
  have hG := Lib.hid (agree_any _ _ hPr.out.wx hPr.out.wy hPr.out.lx hPr.out.ly hPr.out.ag B12 m12 d12 B13 m13 d13 w19 hr12.out hd12.out hr13.out hd13.out hO1.out)
  go_wp2_with fail
  refine hG.out.mono ?_
  rintro e w20 ⟨rfl, bb⟩
  clear hr12 hm12 hd12 hr13 hm13 hd13
  replace hr0 := Lib.hid (hr0.out.bel bb)
  replace hr1 := Lib.hid (hr1.out.bel bb)
  replace hr2 := Lib.hid (hr2.out.bel bb)
  replace hr3 := Lib.hid (hr3.out.bel bb)
  replace hw0 := Lib.hid (hw0.out.trans (bb.mono hw0.out.size))
  replace hO1 := Lib.hid (hO1.out.bel bb)
  clear hG hPr bb
  have hJ := Lib.hid (show Calls Tryd.prog 19 #[.int .i64 8, .slice B0 m0 d0, .slice B1 m1 d1] w20 fun e w' => ∃ v, e = .returned v ∧ SlN w20 w' v ((F9.Tr.bin 8 t0 t1).pre.map toNd) from jn_any 8 t0 t1 B0 m0 d0 B1 m1 d1 w20 hr0.out hr1.out hm0.out hm1.out)
  go_wp2_with fail
  refine hJ.out.mono ?_
  rintro e w21 ⟨v, rfl, hU⟩
  obtain ⟨B14, m14, d14, rfl, hd14, hm14, hr14, bb⟩ := hU.get (by have := ln0.out; have := ln1.out; have := ln2.out; simp only [bin_len]; omega)
  replace hr0 := Lib.hid (hr0.out.bel bb)
  replace hr1 := Lib.hid (hr1.out.bel bb)
  replace hr2 := Lib.hid (hr2.out.bel bb)
  replace hr3 := Lib.hid (hr3.out.bel bb)
  replace hw0 := Lib.hid (hw0.out.trans (bb.mono hw0.out.size))
  replace hO1 := Lib.hid (hO1.out.bel bb)
  replace hd14 := Lib.hid hd14
  replace hm14 := Lib.hid hm14
  replace hr14 := Lib.hid hr14
  clear hJ hU bb
  have hJ := Lib.hid (show Calls Tryd.prog 19 #[.int .i64 8, .slice B14 m14 d14, .slice B2 m2 d2] w21 fun e w' => ∃ v, e = .returned v ∧ SlN w21 w' v ((F9.Tr.bin 8 (F9.Tr.bin 8 t0 t1) t2).pre.map toNd) from jn_any 8 (F9.Tr.bin 8 t0 t1) t2 B14 m14 d14 B2 m2 d2 w21 hr14.out hr2.out hm14.out hm2.out)
  go_wp2_with fail
  refine hJ.out.mono ?_
  rintro e w22 ⟨v, rfl, hU⟩
  obtain ⟨B15, m15, d15, rfl, hd15, hm15, hr15, bb⟩ := hU.get (by have := ln0.out; have := ln1.out; have := ln2.out; simp only [bin_len]; omega)
  replace hr0 := Lib.hid (hr0.out.bel bb)
  replace hr1 := Lib.hid (hr1.out.bel bb)
  replace hr2 := Lib.hid (hr2.out.bel bb)
  replace hr3 := Lib.hid (hr3.out.bel bb)
  replace hr14 := Lib.hid (hr14.out.bel bb)
  replace hw0 := Lib.hid (hw0.out.trans (bb.mono hw0.out.size))
  replace hO1 := Lib.hid (hO1.out.bel bb)
  replace hd15 := Lib.hid hd15
  replace hm15 := Lib.hid hm15
  replace hr15 := Lib.hid hr15
  clear hJ hU bb
  have hJ := Lib.hid (show Calls Tryd.prog 19 #[.int .i64 8, .slice B1 m1 d1, .slice B2 m2 d2] w22 fun e w' => ∃ v, e = .returned v ∧ SlN w22 w' v ((F9.Tr.bin 8 t1 t2).pre.map toNd) from jn_any 8 t1 t2 B1 m1 d1 B2 m2 d2 w22 hr1.out hr2.out hm1.out hm2.out)
  go_wp2_with fail
  refine hJ.out.mono ?_
  rintro e w23 ⟨v, rfl, hU⟩
  obtain ⟨B16, m16, d16, rfl, hd16, hm16, hr16, bb⟩ := hU.get (by have := ln0.out; have := ln1.out; have := ln2.out; simp only [bin_len]; omega)
  replace hr0 := Lib.hid (hr0.out.bel bb)
  replace hr1 := Lib.hid (hr1.out.bel bb)
  replace hr2 := Lib.hid (hr2.out.bel bb)
  replace hr3 := Lib.hid (hr3.out.bel bb)
  replace hr14 := Lib.hid (hr14.out.bel bb)
  replace hr15 := Lib.hid (hr15.out.bel bb)
  replace hw0 := Lib.hid (hw0.out.trans (bb.mono hw0.out.size))
  replace hO1 := Lib.hid (hO1.out.bel bb)
  replace hd16 := Lib.hid hd16
  replace hm16 := Lib.hid hm16
  replace hr16 := Lib.hid hr16
  clear hJ hU bb
  have hJ := Lib.hid (show Calls Tryd.prog 19 #[.int .i64 8, .slice B0 m0 d0, .slice B16 m16 d16] w23 fun e w' => ∃ v, e = .returned v ∧ SlN w23 w' v ((F9.Tr.bin 8 t0 (F9.Tr.bin 8 t1 t2)).pre.map toNd) from jn_any 8 t0 (F9.Tr.bin 8 t1 t2) B0 m0 d0 B16 m16 d16 w23 hr0.out hr16.out hm0.out hm16.out)
  go_wp2_with fail
  refine hJ.out.mono ?_
  rintro e w24 ⟨v, rfl, hU⟩
  obtain ⟨B17, m17, d17, rfl, hd17, hm17, hr17, bb⟩ := hU.get (by have := ln0.out; have := ln1.out; have := ln2.out; simp only [bin_len]; omega)
  replace hr0 := Lib.hid (hr0.out.bel bb)
  replace hr1 := Lib.hid (hr1.out.bel bb)
  replace hr2 := Lib.hid (hr2.out.bel bb)
  replace hr3 := Lib.hid (hr3.out.bel bb)
  replace hr14 := Lib.hid (hr14.out.bel bb)
  replace hr15 := Lib.hid (hr15.out.bel bb)
  replace hr16 := Lib.hid (hr16.out.bel bb)
  replace hw0 := Lib.hid (hw0.out.trans (bb.mono hw0.out.size))
  replace hO1 := Lib.hid (hO1.out.bel bb)
  replace hd17 := Lib.hid hd17
  replace hm17 := Lib.hid hm17
  replace hr17 := Lib.hid hr17
  clear hJ hU bb
  have hPr := Lib.hid (pr_star_assoc wf0.out wf1.out wf2.out ln0.out ln1.out ln2.out)
  have hG := Lib.hid (agree_any _ _ hPr.out.wx hPr.out.wy hPr.out.lx hPr.out.ly hPr.out.ag B15 m15 d15 B17 m17 d17 w24 hr15.out hd15.out hr17.out hd17.out hO1.out)
  go_wp2_with fail
  refine hG.out.mono ?_
  rintro e w25 ⟨rfl, bb⟩
  clear hr14 hm14 hd14 hr15 hm15 hd15 hr16 hm16 hd16 hr17 hm17 hd17
  replace hr0 := Lib.hid (hr0.out.bel bb)
  replace hr1 := Lib.hid (hr1.out.bel bb)
  replace hr2 := Lib.hid (hr2.out.bel bb)
  replace hr3 := Lib.hid (hr3.out.bel bb)
  replace hw0 := Lib.hid (hw0.out.trans (bb.mono hw0.out.size))
  replace hO1 := Lib.hid (hO1.out.bel bb)
  clear hG hPr bb
  have hJ := Lib.hid (show Calls Tryd.prog 19 #[.int .i64 7, .slice B0 m0 d0, .slice B1 m1 d1] w25 fun e w' => ∃ v, e = .returned v ∧ SlN w25 w' v ((F9.Tr.bin 7 t0 t1).pre.map toNd) from jn_any 7 t0 t1 B0 m0 d0 B1 m1 d1 w25 hr0.out hr1.out hm0.out hm1.out)
  go_wp2_with fail
  refine hJ.out.mono ?_
  rintro e w26 ⟨v, rfl, hU⟩
  obtain ⟨B18, m18, d18, rfl, hd18, hm18, hr18, bb⟩ := hU.get (by have := ln0.out; have := ln1.out; have := ln2.out; simp only [bin_len]; omega)
  replace hr0 := Lib.hid (hr0.out.bel bb)
  replace hr1 := Lib.hid (hr1.out.bel bb)
  replace hr2 := Lib.hid (hr2.out.bel bb)
  replace hr3 := Lib.hid (hr3.out.bel bb)
  replace hw0 := Lib.hid (hw0.out.trans (bb.mono hw0.out.size))
  replace hO1 := Lib.hid (hO1.out.bel bb)
  replace hd18 := Lib.hid hd18
  replace hm18 := Lib.hid hm18
  replace hr18 := Lib.hid hr18
  clear hJ hU bb
  have hJ := Lib.hid (show Calls Tryd.prog 19 #[.int .i64 7, .slice B18 m18 d18, .slice B2 m2 d2] w26 fun e w' => ∃ v, e = .returned v ∧ SlN w26 w' v ((F9.Tr.bin 7 (F9.Tr.bin 7 t0 t1) t2).pre.map toNd) from jn_any 7 (F9.Tr.bin 7 t0 t1) t2 B18 m18 d18 B2 m2 d2 w26 hr18.out hr2.out hm18.out hm2.out)
  go_wp2_with fail
  refine hJ.out.mono ?_
  rintro e w27 ⟨v, rfl, hU⟩
  obtain ⟨B19, m19, d19, rfl, hd19, hm19, hr19, bb⟩ := hU.get (by have := ln0.out; have := ln1.out; have := ln2.out; simp only [bin_len]; omega)
  replace hr0 := Lib.hid (hr0.out.bel bb)
  replace hr1 := Lib.hid (hr1.out.bel bb)
  replace hr2 := Lib.hid (hr2.out.bel bb)
  replace hr3 := Lib.hid (hr3.out.bel bb)
  replace hr18 := Lib.hid (hr18.out.bel bb)
  replace hw0 := Lib.hid (hw0.out.trans (bb.mono hw0.out.size))
  replace hO1 := Lib.hid (hO1.out.bel bb)
  replace hd19 := Lib.hid hd19
  replace hm19 := Lib.hid hm19
  replace hr19 := Lib.hid hr19
  clear hJ hU bb
  have hJ := Lib.hid (show Calls Tryd.prog 19 #[.int .i64 7, .slice B1 m1 d1, .slice B2 m2 d2] w27 fun e w' => ∃ v, e = .returned v ∧ SlN w27 w' v ((F9.Tr.bin 7 t1 t2).pre.map toNd) from jn_any 7 t1 t2 B1 m1 d1 B2 m2 d2 w27 hr1.out hr2.out hm1.out hm2.out)
  go_wp2_with fail
  refine hJ.out.mono ?_
  rintro e w28 ⟨v, rfl, hU⟩
  obtain ⟨B20, m20, d20, rfl, hd20, hm20, hr20, bb⟩ := hU.get (by have := ln0.out; have := ln1.out; have := ln2.out; simp only [bin_len]; omega)
  replace hr0 := Lib.hid (hr0.out.bel bb)
  replace hr1 := Lib.hid (hr1.out.bel bb)
  replace hr2 := Lib.hid (hr2.out.bel bb)
  replace hr3 := Lib.hid (hr3.out.bel bb)
  replace hr18 := Lib.hid (hr18.out.bel bb)
  replace hr19 := Lib.hid (hr19.out.bel bb)
  replace hw0 := Lib.hid (hw0.out.trans (bb.mono hw0.out.size))
  replace hO1 := Lib.hid (hO1.out.bel bb)
  replace hd20 := Lib.hid hd20
  replace hm20 := Lib.hid hm20
  replace hr20 := Lib.hid hr20
  clear hJ hU bb
  have hJ := Lib.hid (show Calls Tryd.prog 19 #[.int .i64 7, .slice B0 m0 d0, .slice B20 m20 d20] w28 fun e w' => ∃ v, e = .returned v ∧ SlN w28 w' v ((F9.Tr.bin 7 t0 (F9.Tr.bin 7 t1 t2)).pre.map toNd) from jn_any 7 t0 (F9.Tr.bin 7 t1 t2) B0 m0 d0 B20 m20 d20 w28 hr0.out hr20.out hm0.out hm20.out)
  go_wp2_with fail
  refine hJ.out.mono ?_
  rintro e w29 ⟨v, rfl, hU⟩
  obtain ⟨B21, m21, d21, rfl, hd21, hm21, hr21, bb⟩ := hU.get (by have := ln0.out; have := ln1.out; have := ln2.out; simp only [bin_len]; omega)
  replace hr0 := Lib.hid (hr0.out.bel bb)
  replace hr1 := Lib.hid (hr1.out.bel bb)
  replace hr2 := Lib.hid (hr2.out.bel bb)
  replace hr3 := Lib.hid (hr3.out.bel bb)
  replace hr18 := Lib.hid (hr18.out.bel bb)
  replace hr19 := Lib.hid (hr19.out.bel bb)
  replace hr20 := Lib.hid (hr20.out.bel bb)
  replace hw0 := Lib.hid (hw0.out.trans (bb.mono hw0.out.size))
  replace hO1 := Lib.hid (hO1.out.bel bb)
  replace hd21 := Lib.hid hd21
  replace hm21 := Lib.hid hm21
  replace hr21 := Lib.hid hr21
  clear hJ hU bb
  have hPr := Lib.hid (pr_colon_assoc wf0.out wf1.out wf2.out ln0.out ln1.out ln2.out)
  have hG := Lib.hid (agree_any _ _ hPr.out.wx hPr.out.wy hPr.out.lx hPr.out.ly hPr.out.ag B19 m19 d19 B21 m21 d21 w29 hr19.out hd19.out hr21.out hd21.out hO1.out)
  go_wp2_with fail
  refine hG.out.mono ?_
  rintro e w30 ⟨rfl, bb⟩
  clear hr18 hm18 hd18 hr19 hm19 hd19 hr20 hm20 hd20 hr21 hm21 hd21
  replace hr0 := Lib.hid (hr0.out.bel bb)
  replace hr1 := Lib.hid (hr1.out.bel bb)
  replace hr2 := Lib.hid (hr2.out.bel bb)
  replace hr3 := Lib.hid (hr3.out.bel bb)
  replace hw0 := Lib.hid (hw0.out.trans (bb.mono hw0.out.size))
  replace hO1 := Lib.hid (hO1.out.bel bb)
  clear hG hPr bb
  have hJ := Lib.hid (show Calls Tryd.prog 19 #[.int .i64 5, .slice B0 m0 d0, .slice B1 m1 d1] w30 fun e w' => ∃ v, e = .returned v ∧ SlN w30 w' v ((F9.Tr.bin 5 t0 t1).pre.map toNd) from jn_any 5 t0 t1 B0 m0 d0 B1 m1 d1 w30 hr0.out hr1.out hm0.out hm1.out)
  go_wp2_with fail
  refine hJ.out.mono ?_
  rintro e w31 ⟨v, rfl, hU⟩
  obtain ⟨B22, m22, d22, rfl, hd22, hm22, hr22, bb⟩ := hU.get (by have := ln0.out; have := ln1.out; have := ln2.out; simp only [bin_len]; omega)
  replace hr0 := Lib.hid (hr0.out.bel bb)
  replace hr1 := Lib.hid (hr1.out.bel bb)
  replace hr2 := Lib.hid (hr2.out.bel bb)
  replace hr3 := Lib.hid (hr3.out.bel bb)
  replace hw0 := Lib.hid (hw0.out.trans (bb.mono hw0.out.size))
  replace hO1 := Lib.hid (hO1.out.bel bb)
  replace hd22 := Lib.hid hd22
  replace hm22 := Lib.hid hm22
  replace hr22 := Lib.hid hr22
  clear hJ hU bb
  have hJ := Lib.hid (show Calls Tryd.prog 19 #[.int .i64 7, .slice B22 m22 d22, .slice B2 m2 d2] w31 fun e w' => ∃ v, e = .returned v ∧ SlN w31 w' v ((F9.Tr.bin 7 (F9.Tr.bin 5 t0 t1) t2).pre.map toNd) from jn_any 7 (F9.Tr.bin 5 t0 t1) t2 B22 m22 d22 B2 m2 d2 w31 hr22.out hr2.out hm22.out hm2.out)
  go_wp2_with fail
  refine hJ.out.mono ?_
  rintro e w32 ⟨v, rfl, hU⟩
  obtain ⟨B23, m23, d23, rfl, hd23, hm23, hr23, bb⟩ := hU.get (by have := ln0.out; have := ln1.out; have := ln2.out; simp only [bin_len]; omega)
  replace hr0 := Lib.hid (hr0.out.bel bb)
  replace hr1 := Lib.hid (hr1.out.bel bb)
  replace hr2 := Lib.hid (hr2.out.bel bb)
  replace hr3 := Lib.hid (hr3.out.bel bb)
  replace hr22 := Lib.hid (hr22.out.bel bb)
  replace hw0 := Lib.hid (hw0.out.trans (bb.mono hw0.out.size))
  replace hO1 := Lib.hid (hO1.out.bel bb)
  replace hd23 := Lib.hid hd23
  replace hm23 := Lib.hid hm23
  replace hr23 := Lib.hid hr23
  clear hJ hU bb
  have hJ := Lib.hid (show Calls Tryd.prog 19 #[.int .i64 7, .slice B0 m0 d0, .slice B2 m2 d2] w32 fun e w' => ∃ v, e = .returned v ∧ SlN w32 w' v ((F9.Tr.bin 7 t0 t2).pre.map toNd) from jn_any 7 t0 t2 B0 m0 d0 B2 m2 d2 w32 hr0.out hr2.out hm0.out hm2.out)
  go_wp2_with fail
  refine hJ.out.mono ?_
  rintro e w33 ⟨v, rfl, hU⟩
  obtain ⟨B24, m24, d24, rfl, hd24, hm24, hr24, bb⟩ := hU.get (by have := ln0.out; have := ln1.out; have := ln2.out; simp only [bin_len]; omega)
  replace hr0 := Lib.hid (hr0.out.bel bb)
  replace hr1 := Lib.hid (hr1.out.bel bb)
  replace hr2 := Lib.hid (hr2.out.bel bb)
  replace hr3 := Lib.hid (hr3.out.bel bb)
  replace hr22 := Lib.hid (hr22.out.bel bb)
  replace hr23 := Lib.hid (hr23.out.bel bb)
  replace hw0 := Lib.hid (hw0.out.trans (bb.mono hw0.out.size))
  replace hO1 := Lib.hid (hO1.out.bel bb)
  replace hd24 := Lib.hid hd24
  replace hm24 := Lib.hid hm24
  replace hr24 := Lib.hid hr24
  clear hJ hU bb
  have hJ := Lib.hid (show Calls Tryd.prog 19 #[.int .i64 7, .slice B1 m1 d1, .slice B2 m2 d2] w33 fun e w' => ∃ v, e = .returned v ∧ SlN w33 w' v ((F9.Tr.bin 7 t1 t2).pre.map toNd) from jn_any 7 t1 t2 B1 m1 d1 B2 m2 d2 w33 hr1.out hr2.out hm1.out hm2.out)
  go_wp2_with fail
  refine hJ.out.mono ?_
  rintro e w34 ⟨v, rfl, hU⟩
  obtain ⟨B25, m25, d25, rfl, hd25, hm25, hr25, bb⟩ := hU.get (by have := ln0.out; have := ln1.out; have := ln2.out; simp only [bin_len]; omega)
  replace hr0 := Lib.hid (hr0.out.bel bb)
  replace hr1 := Lib.hid (hr1.out.bel bb)
  replace hr2 := Lib.hid (hr2.out.bel bb)
  replace hr3 := Lib.hid (hr3.out.bel bb)
  replace hr22 := Lib.hid (hr22.out.bel bb)
  replace hr23 := Lib.hid (hr23.out.bel bb)
  replace hr24 := Lib.hid (hr24.out.bel bb)
  replace hw0 := Lib.hid (hw0.out.trans (bb.mono hw0.out.size))
  replace hO1 := Lib.hid (hO1.out.bel bb)
  replace hd25 := Lib.hid hd25
  replace hm25 := Lib.hid hm25
  replace hr25 := Lib.hid hr25
  clear hJ hU bb
  have hJ := Lib.hid (show Calls Tryd.prog 19 #[.int .i64 5, .slice B24 m24 d24, .slice B25 m25 d25] w34 fun e w' => ∃ v, e = .returned v ∧ SlN w34 w' v ((F9.Tr.bin 5 (F9.Tr.bin 7 t0 t2) (F9.Tr.bin 7 t1 t2)).pre.map toNd) from jn_any 5 (F9.Tr.bin 7 t0 t2) (F9.Tr.bin 7 t1 t2) B24 m24 d24 B25 m25 d25 w34 hr24.out hr25.out hm24.out hm25.out)
  go_wp2_with fail
  refine hJ.out.mono ?_
  rintro e w35 ⟨v, rfl, hU⟩
  obtain ⟨B26, m26, d26, rfl, hd26, hm26, hr26, bb⟩ := hU.get (by have := ln0.out; have := ln1.out; have := ln2.out; simp only [bin_len]; omega)
  replace hr0 := Lib.hid (hr0.out.bel bb)
  replace hr1 := Lib.hid (hr1.out.bel bb)
  replace hr2 := Lib.hid (hr2.out.bel bb)
  replace hr3 := Lib.hid (hr3.out.bel bb)
  replace hr22 := Lib.hid (hr22.out.bel bb)
  replace hr23 := Lib.hid (hr23.out.bel bb)
  replace hr24 := Lib.hid (hr24.out.bel bb)
  replace hr25 := Lib.hid (hr25.out.bel bb)
  replace hw0 := Lib.hid (hw0.out.trans (bb.mono hw0.out.size))
  replace hO1 := Lib.hid (hO1.out.bel bb)
  replace hd26 := Lib.hid hd26
  replace hm26 := Lib.hid hm26
  replace hr26 := Lib.hid hr26
  clear hJ hU bb
  have hr270 := Lib.hid (lit_one w35)
  have bb := al_bel w35 (.cells #[.int .i64 3, .string ⟨#[]⟩, .int .i64 0] 39)
  replace hr0 := Lib.hid (hr0.out.bel bb)
  replace hr1 := Lib.hid (hr1.out.bel bb)
  replace hr2 := Lib.hid (hr2.out.bel bb)
  replace hr3 := Lib.hid (hr3.out.bel bb)
  replace hr22 := Lib.hid (hr22.out.bel bb)
  replace hr23 := Lib.hid (hr23.out.bel bb)
  replace hr24 := Lib.hid (hr24.out.bel bb)
  replace hr25 := Lib.hid (hr25.out.bel bb)
  replace hr26 := Lib.hid (hr26.out.bel bb)
  replace hw0 := Lib.hid (hw0.out.trans (bb.mono hw0.out.size))
  replace hO1 := Lib.hid (hO1.out.bel bb)
  obtain ⟨B27, hB27⟩ : ∃ a, a = (some ⟨w35.heap.size, 0, none⟩ : Option Addr) := ⟨_, rfl⟩
  obtain ⟨w36, hw36⟩ : ∃ W, W = w35.alloc (.cells #[.int .i64 3, .string ⟨#[]⟩, .int .i64 0] 39) := ⟨_, rfl⟩
  rw [← hw36] at hw0 hO1 hr270 hr0 hr1 hr2 hr3 hr22 hr23 hr24 hr25 hr26
  rw [← hB27] at hr270
  have hr27 := hr270
  have hm27 : Hid ((1 : Nat) ≤ 64) := Lib.hid (by decide)
  have hd27 : Hid ((1 : Nat) ≤ 1) := Lib.hid (by decide)
  clear bb hr270
  have hJ := Lib.hid (show Calls Tryd.prog 19 #[.int .i64 7, .slice B26 m26 d26, .slice B27 1 1] w36 fun e w' => ∃ v, e = .returned v ∧ SlN w36 w' v ((F9.Tr.bin 7 (F9.Tr.bin 5 (F9.Tr.bin 7 t0 t2) (F9.Tr.bin 7 t1 t2)) F10.oneT).pre.map toNd) from jn_any 7 (F9.Tr.bin 5 (F9.Tr.bin 7 t0 t2) (F9.Tr.bin 7 t1 t2)) F10.oneT B26 m26 d26 B27 1 1 w36 hr26.out hr27.out hm26.out hm27.out)
  go_wp2_with fail
  rw [← hw36, ← hB27]
  clear hw36 hB27
  refine hJ.out.mono ?_
  rintro e w37 ⟨v, rfl, hU⟩
  obtain ⟨B28, m28, d28, rfl, hd28, hm28, hr28, bb⟩ := hU.get (by have := ln0.out; have := ln1.out; have := ln2.out; simp only [bin_len, one_len]; omega)
  replace hr0 := Lib.hid (hr0.out.bel bb)
  replace hr1 := Lib.hid (hr1.out.bel bb)
  replace hr2 := Lib.hid (hr2.out.bel bb)
  replace hr3 := Lib.hid (hr3.out.bel bb)
  replace hr22 := Lib.hid (hr22.out.bel bb)
  replace hr23 := Lib.hid (hr23.out.bel bb)
  replace hr24 := Lib.hid (hr24.out.bel bb)
  replace hr25 := Lib.hid (hr25.out.bel bb)
  replace hr26 := Lib.hid (hr26.out.bel bb)
  replace hr27 := Lib.hid (hr27.out.bel bb)
  replace hw0 := Lib.hid (hw0.out.trans (bb.mono hw0.out.size))
  replace hO1 := Lib.hid (hO1.out.bel bb)
  replace hd28 := Lib.hid hd28
  replace hm28 := Lib.hid hm28
  replace hr28 := Lib.hid hr28
  clear hJ hU bb
  have hPr := Lib.hid (pr_dist wf0.out wf1.out wf2.out ln0.out ln1.out ln2.out)
  have hG := Lib.hid (agree_any _ _ hPr.out.wx hPr.out.wy hPr.out.lx hPr.out.ly hPr.out.ag B23 m23 d23 B28 m28 d28 w37 hr23.out hd23.out hr28.out hd28.out hO1.out)
  go_wp2_with fail
  refine hG.out.mono ?_
  rintro e w38 ⟨rfl, bb⟩
  clear hr22 hm22 hd22 hr23 hm23 hd23 hr24 hm24 hd24 hr25 hm25 hd25 hr26 hm26 hd26 hr27 hm27 hd27 hr28 hm28 hd28
  replace hr0 := Lib.hid (hr0.out.bel bb)
  replace hr1 := Lib.hid (hr1.out.bel bb)
  replace hr2 := Lib.hid (hr2.out.bel bb)
  replace hr3 := Lib.hid (hr3.out.bel bb)
  replace hw0 := Lib.hid (hw0.out.trans (bb.mono hw0.out.size))
  replace hO1 := Lib.hid (hO1.out.bel bb)
  clear hG hPr bb
  have hJ := Lib.hid (show Calls Tryd.prog 19 #[.int .i64 9, .slice B3 1 1, .slice B1 m1 d1] w38 fun e w' => ∃ v, e = .returned v ∧ SlN w38 w' v ((F9.Tr.bin 9 vT t1).pre.map toNd) from jn_any 9 vT t1 B3 1 1 B1 m1 d1 w38 hr3.out hr1.out hm3.out hm1.out)
  go_wp2_with fail
  refine hJ.out.mono ?_
  rintro e w39 ⟨v, rfl, hU⟩
  obtain ⟨B29, m29, d29, rfl, hd29, hm29, hr29, bb⟩ := hU.get (by have := ln0.out; have := ln1.out; have := ln2.out; simp only [bin_len, v_len]; omega)
  replace hr0 := Lib.hid (hr0.out.bel bb)
  replace hr1 := Lib.hid (hr1.out.bel bb)
  replace hr2 := Lib.hid (hr2.out.bel bb)
  replace hr3 := Lib.hid (hr3.out.bel bb)
  replace hw0 := Lib.hid (hw0.out.trans (bb.mono hw0.out.size))
  replace hO1 := Lib.hid (hO1.out.bel bb)
  replace hd29 := Lib.hid hd29
  replace hm29 := Lib.hid hm29
  replace hr29 := Lib.hid hr29
  clear hJ hU bb
  have hJ := Lib.hid (show Calls Tryd.prog 19 #[.int .i64 7, .slice B3 1 1, .slice B1 m1 d1] w39 fun e w' => ∃ v, e = .returned v ∧ SlN w39 w' v ((F9.Tr.bin 7 vT t1).pre.map toNd) from jn_any 7 vT t1 B3 1 1 B1 m1 d1 w39 hr3.out hr1.out hm3.out hm1.out)
  go_wp2_with fail
  refine hJ.out.mono ?_
  rintro e w40 ⟨v, rfl, hU⟩
  obtain ⟨B30, m30, d30, rfl, hd30, hm30, hr30, bb⟩ := hU.get (by have := ln0.out; have := ln1.out; have := ln2.out; simp only [bin_len, v_len]; omega)
  replace hr0 := Lib.hid (hr0.out.bel bb)
  replace hr1 := Lib.hid (hr1.out.bel bb)
  replace hr2 := Lib.hid (hr2.out.bel bb)
  replace hr3 := Lib.hid (hr3.out.bel bb)
  replace hr29 := Lib.hid (hr29.out.bel bb)
  replace hw0 := Lib.hid (hw0.out.trans (bb.mono hw0.out.size))
  replace hO1 := Lib.hid (hO1.out.bel bb)
  replace hd30 := Lib.hid hd30
  replace hm30 := Lib.hid hm30
  replace hr30 := Lib.hid hr30
  clear hJ hU bb
  have hJ := Lib.hid (show Calls Tryd.prog 19 #[.int .i64 5, .slice B3 1 1, .slice B30 m30 d30] w40 fun e w' => ∃ v, e = .returned v ∧ SlN w40 w' v ((F9.Tr.bin 5 vT (F9.Tr.bin 7 vT t1)).pre.map toNd) from jn_any 5 vT (F9.Tr.bin 7 vT t1) B3 1 1 B30 m30 d30 w40 hr3.out hr30.out hm3.out hm30.out)
  go_wp2_with fail
  refine hJ.out.mono ?_
  rintro e w41 ⟨v, rfl, hU⟩
  obtain ⟨B31, m31, d31, rfl, hd31, hm31, hr31, bb⟩ := hU.get (by have := ln0.out; have := ln1.out; have := ln2.out; simp only [bin_len, v_len]; omega)
  replace hr0 := Lib.hid (hr0.out.bel bb)
  replace hr1 := Lib.hid (hr1.out.bel bb)
  replace hr2 := Lib.hid (hr2.out.bel bb)
  replace hr3 := Lib.hid (hr3.out.bel bb)
  replace hr29 := Lib.hid (hr29.out.bel bb)
  replace hr30 := Lib.hid (hr30.out.bel bb)
  replace hw0 := Lib.hid (hw0.out.trans (bb.mono hw0.out.size))
  replace hO1 := Lib.hid (hO1.out.bel bb)
  replace hd31 := Lib.hid hd31
  replace hm31 := Lib.hid hm31
  replace hr31 := Lib.hid hr31
  clear hJ hU bb
  have hr320 := Lib.hid (lit_one w41)
  have bb := al_bel w41 (.cells #[.int .i64 3, .string ⟨#[]⟩, .int .i64 0] 39)
  replace hr0 := Lib.hid (hr0.out.bel bb)
  replace hr1 := Lib.hid (hr1.out.bel bb)
  replace hr2 := Lib.hid (hr2.out.bel bb)
  replace hr3 := Lib.hid (hr3.out.bel bb)
  replace hr29 := Lib.hid (hr29.out.bel bb)
  replace hr30 := Lib.hid (hr30.out.bel bb)
  replace hr31 := Lib.hid (hr31.out.bel bb)
  replace hw0 := Lib.hid (hw0.out.trans (bb.mono hw0.out.size))
  replace hO1 := Lib.hid (hO1.out.bel bb)
  obtain ⟨B32, hB32⟩ : ∃ a, a = (some ⟨w41.heap.size, 0, none⟩ : Option Addr) := ⟨_, rfl⟩
  obtain ⟨w42, hw42⟩ : ∃ W, W = w41.alloc (.cells #[.int .i64 3, .string ⟨#[]⟩, .int .i64 0] 39) := ⟨_, rfl⟩
  rw [← hw42] at hw0 hO1 hr320 hr0 hr1 hr2 hr3 hr29 hr30 hr31
  rw [← hB32] at hr320
  have hr32 := hr320
  have hm32 : Hid ((1 : Nat) ≤ 64) := Lib.hid (by decide)
  have hd32 : Hid ((1 : Nat) ≤ 1) := Lib.hid (by decide)
  clear bb hr320
  have hJ := Lib.hid (show Calls Tryd.prog 19 #[.int .i64 7, .slice B31 m31 d31, .slice B32 1 1] w42 fun e w' => ∃ v, e = .returned v ∧ SlN w42 w' v ((F9.Tr.bin 7 (F9.Tr.bin 5 vT (F9.Tr.bin 7 vT t1)) F10.oneT).pre.map toNd) from jn_any 7 (F9.Tr.bin 5 vT (F9.Tr.bin 7 vT t1)) F10.oneT B31 m31 d31 B32 1 1 w42 hr31.out hr32.out hm31.out hm32.out)
  go_wp2_with fail
  rw [← hw42, ← hB32]
  clear hw42 hB32
  refine hJ.out.mono ?_
  rintro e w43 ⟨v, rfl, hU⟩
  obtain ⟨B33, m33, d33, rfl, hd33, hm33, hr33, bb⟩ := hU.get (by have := ln0.out; have := ln1.out; have := ln2.out; simp only [bin_len, one_len, v_len]; omega)
  replace hr0 := Lib.hid (hr0.out.bel bb)
  replace hr1 := Lib.hid (hr1.out.bel bb)
  replace hr2 := Lib.hid (hr2.out.bel bb)
  replace hr3 := Lib.hid (hr3.out.bel bb)
  replace hr29 := Lib.hid (hr29.out.bel bb)
  replace hr30 := Lib.hid (hr30.out.bel bb)
  replace hr31 := Lib.hid (hr31.out.bel bb)
  replace hr32 := Lib.hid (hr32.out.bel bb)
  replace hw0 := Lib.hid (hw0.out.trans (bb.mono hw0.out.size))
  replace hO1 := Lib.hid (hO1.out.bel bb)
  replace hd33 := Lib.hid hd33
  replace hm33 := Lib.hid hm33
  replace hr33 := Lib.hid hr33
  clear hJ hU bb
  have hPr := Lib.hid (pr_nest wf1.out ln1.out)
  have hG := Lib.hid (agree_any _ _ hPr.out.wx hPr.out.wy hPr.out.lx hPr.out.ly hPr.out.ag B29 m29 d29 B33 m33 d33 w43 hr29.out hd29.out hr33.out hd33.out hO1.out)
  go_wp2_with fail
  refine hG.out.mono ?_
  rintro e w44 ⟨rfl, bb⟩
  clear hr29 hm29 hd29 hr30 hm30 hd30 hr31 hm31 hd31 hr32 hm32 hd32 hr33 hm33 hd33
  replace hr0 := Lib.hid (hr0.out.bel bb)
  replace hr1 := Lib.hid (hr1.out.bel bb)
  replace hr2 := Lib.hid (hr2.out.bel bb)
  replace hr3 := Lib.hid (hr3.out.bel bb)
  replace hw0 := Lib.hid (hw0.out.trans (bb.mono hw0.out.size))
  replace hO1 := Lib.hid (hO1.out.bel bb)
  clear hG hPr bb
  clear hO1 hr0 hm0 hd0 hr1 hm1 hd1 hr2 hm2 hd2 hr3 hm3 hd3
  go_wp2
  go_ret
  exact ⟨rfl, hw0.out⟩
end Go.Proofs.YthbkdjbmkhmlnaaDoor
