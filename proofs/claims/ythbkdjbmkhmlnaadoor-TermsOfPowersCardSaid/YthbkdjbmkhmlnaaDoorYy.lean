/- Law 10: powers of sums. -/
import Derived.Test.YthbkdjbmkhmlnaaDoorYx
namespace Go.Proofs.YthbkdjbmkhmlnaaDoor
open Go.RowKit
set_option linter.unusedVariables false

set_option maxRecDepth 100000 in
set_option maxHeartbeats 4000000 in
theorem powers_any (n k : UInt8) (w : World) (hO : Og w) : Calls Tryd.prog 8 #[.int .u8 (n.toNat : Int), .int .u8 (k.toNat : Int)] w fun e w' => e = .returned (.bool true) ∧ Below w.heap.size w w' := by
  generalize n.toNat = n0
  generalize k.toNat = k0
  obtain ⟨v, hv⟩ : ∃ r : Nat, r = n0 % 6 := ⟨_, rfl⟩
  obtain ⟨p, hp⟩ : ∃ r : Nat, r = k0 % 6 := ⟨_, rfl⟩
  have hv6 : v < 6 := by omega
  have hp6 : p < 6 := by omega
  have rv : (n0 : Int) % 6 = (v : Int) := by omega
  have rp : (k0 : Int) % 6 = (p : Int) := by omega
  have wv : IntKind.i64.wrap (v : Int) = (v : Int) := by rw [IntKind.wrap_i64]; omega
  have wp_ : IntKind.i64.wrap (p : Int) = (p : Int) := by rw [IntKind.wrap_i64]; omega
  have hvh := Lib.hid hv6
  have hph := Lib.hid hp6
  have hOh := Lib.hid hO
  have S1 := Lib.hid ((St.new w).alloc #[.string ⟨#[97]⟩, .string ⟨#[98]⟩, .string ⟨#[99]⟩, .string ⟨#[100]⟩, .string ⟨#[101]⟩, .string ⟨#[102]⟩] 9 (noLof rfl))
  clear hv hp hO
  go_enter Tryd.func8, Tryd.ntmps8
  go_upto_region 3 with fail
  obtain ⟨V, hV⟩ : ∃ V : Nat, V = v + 1 := ⟨_, rfl⟩
  obtain ⟨Pw, hPw⟩ : ∃ V : Nat, V = p + 1 := ⟨_, rfl⟩
  rw [show 1 + (v : Int) = (V : Int) by omega, show 1 + (p : Int) = (Pw : Int) by omega]
  obtain ⟨nb, hnb⟩ : ∃ b, b = w.heap.size := ⟨_, rfl⟩
  obtain ⟨w1, hw1⟩ : ∃ W, W = w.alloc (.cells #[.string ⟨#[97]⟩, .string ⟨#[98]⟩, .string ⟨#[99]⟩, .string ⟨#[100]⟩, .string ⟨#[101]⟩, .string ⟨#[102]⟩] 9) := ⟨_, rfl⟩
  rw [← hnb, ← hw1] at S1 ⊢
  have hVh := Lib.hid (show V = v + 1 from hV)
  have hPh := Lib.hid (show Pw = p + 1 from hPw)
  have hO1 := Lib.hid (hOh.out.bel S1.out.bel)
  have hB1 := Lib.hid S1.out.bel
  have hCb := Lib.hid (S1.out.cb 0 rfl)
  have c0 : w1.cell? ⟨nb, 0, none⟩ = some (.string (nmB 0)) := names_get hCb.out (by decide)
  have SA := Lib.hid ((St.new w1).alloc #[.int .i64 1, .string (nmB 0), .int .i64 0] 39 (noLof rfl))
  have hone : SlN w1 (w1.alloc (.cells #[.int .i64 1, .string (nmB 0), .int .i64 0] 39)) (.slice (some ⟨w1.heap.size, 0, none⟩) 1 1) ((F10.sumT 0).pre.map toNd) :=
    ⟨some ⟨w1.heap.size, 0, none⟩, 1, rfl, Nat.le_refl _, St_glr (C := ndC) (L := [⟨1, nmB 0, 0⟩]) SA.out 1 rfl (fun x _ => ⟨trivial, trivial, trivial⟩), SA.out.bel⟩
  obtain ⟨v1, hv1⟩ : ∃ v, v = Value.slice (some ⟨w1.heap.size, 0, none⟩) 1 1 := ⟨_, rfl⟩
  rw [← hv1] at hone
  replace hone := Lib.hid hone
  have hnB : w1.cell? ⟨nb, 0, none⟩ = some (.string (nmB 0)) := c0
  clear hw1 hnb hV hPw rv rp wv wp_ S1 SA hOh
  go_upto_region 4 with fail
  rw [← hv1]
  generalize hW2 : w1.alloc _ = w2 at *
  clear hW2 hv1 c0 hnB
  go_wp2
  go_loopw [8, 9] (fun rv iv wr => ∃ i : Nat, i + 1 ≤ V ∧ iv = .int .i64 ((i : Int) + 1) ∧ SlN w1 wr rv ((F10.sumT i).pre.map toNd)) (fun _ iv _ => V - (intOf iv).toNat)
  case atStart => exact ⟨0, by have := hVh.out; omega, rfl, hone.out⟩
  case round =>
    clear hone
    obtain ⟨i, hiV, rfl, hS⟩ := hrel
    by_cases hlt : i + 1 < V
    · obtain ⟨A1, c1, rfl, hc1, hl1, B1⟩ := hS
      have hi6 : i + 1 < 6 := by have := hVh.out; have := hvh.out; omega
      have q : wr.cell? ⟨nb, i + 1, none⟩ = some (.string (nmB (i + 1))) := bel_cell B1 (names_get hCb.out hi6)
      have t1 : ((i : Int) + 1).toNat = i + 1 := by omega
      have g1 : (i : Int) + 1 < (V : Int) := by omega
      have g2 : (i : Int) + 1 < 6 := by omega
      have g3 : (0 : Int) ≤ (i : Int) + 1 := by omega
      have SA := Lib.hid ((St.new wr).alloc #[.int .i64 1, .string (nmB (i + 1)), .int .i64 0] 39 (noLof rfl))
      have hM : LR ndC _ (some ⟨wr.heap.size, 0, none⟩) 1 [⟨1, nmB (i + 1), 0⟩] := St_glr (C := ndC) (L := [⟨1, nmB (i + 1), 0⟩]) SA.out 1 rfl (fun x _ => ⟨trivial, trivial, trivial⟩)
      have hlen : ((F10.sumT i).pre.map toNd).length ≤ 100 := by rw [List.length_map, sum_len]; omega
      have hJ := Lib.hid (join_any 5 _ [⟨1, nmB (i + 1), 0⟩] A1 _ c1 (some ⟨wr.heap.size, 0, none⟩) 1 1 _ (hl1.bel SA.out.bel) hM (by omega) (by omega))
      rw [← sum_pre] at hJ
      have hbb := Lib.hid (B1.trans (SA.out.bel.mono B1.size))
      have hih := Lib.hid hlt
      have hi6h := Lib.hid hi6
      clear hlt hiV hl1 hc1 B1 hM hlen hi6
      generalize ((F10.sumT i).pre.map toNd).length = ln at *
      go_upto_region 7 with fail
      go_wp2_with fail
      refine hJ.out.mono ?_
      rintro e w6 ⟨v6, rfl, hN⟩
      have hN2 := Lib.hid (hN.rebase hbb.out)
      clear hJ hN SA hbb q t1 g1 g2 g3
      have hlt := hih.out
      have hi6 := hi6h.out
      go_wp2
      go_roundw
      case rel => exact ⟨i + 1, by omega, by go_num, hN2.out⟩
      case measure => simp [intOf]; omega
    · have g0 : ¬ ((i : Int) + 1 < (V : Int)) := by omega
      obtain rfl : i = v := by have := hVh.out; omega
      obtain ⟨A1, c1, rfl, hc1, hl1, B1⟩ := hS
      have hNl : ((F10.sumT i).pre.map toNd).length ≤ 100 := by have := hvh.out; rw [List.length_map, sum_len]; omega
      obtain ⟨N, hN⟩ : ∃ N, N = (F10.sumT i).pre.map toNd := ⟨_, rfl⟩
      rw [← hN] at hl1 hc1 hNl
      rw [← hN]
      have SA := Lib.hid ((St.new wr).alloc #[.int .i64 10, .string ⟨#[]⟩, .int .i64 (Pw : Int)] 39 (noLof rfl))
      have G1 : Hid (Gro ndC wr (wr.alloc (.cells #[.int .i64 10, .string ⟨#[]⟩, .int .i64 (Pw : Int)] 39)) [] [] 39 (.slice (some ⟨wr.heap.size, 0, none⟩) 1 1) [⟨10, ⟨#[]⟩, (Pw : Int)⟩]) := Lib.hid (Gro.one (C := ndC) (y := ⟨10, ⟨#[]⟩, (Pw : Int)⟩) SA.out (nd_in _))
      have hl2 := Lib.hid (hl1.bel SA.out.bel)
      have hNb := Lib.hid hNl
      have hBw := Lib.hid B1
      replace hN := Lib.hid hN
      clear hl1 hc1 hNl B1 hlt hiV hv6 hp6 SA
      go_wp2_with (at_builtin; refine Gro.wpm rfl (.tmp 45) (.tmp 46) 22 rfl (.agg #[.int .i64 0, .string ⟨#[]⟩, .int .i64 0]) 32 Tryd.underlying22 (by kernel_rfl) rfl (fun v hv z e => by simp [Value.cells] at hv; subst e; simp at hv) rfl G1.out N A1 c1 rfl hl2.out (fun y _ => nd_in y) (by have := hNb.out; simp; omega) (by have := hNb.out; unfold maxLen; simp; omega) ?_)
      intro v8 w8 G8
      obtain ⟨A8, c8, rfl, hc8, hl8, B8⟩ := G8.sln
      have hB8 := Lib.hid (hBw.out.trans (B8.mono hBw.out.size))
      have htr : (⟨10, ⟨#[]⟩, (Pw : Int)⟩ : Nd) :: N = (F9.Tr.hat Pw (F10.sumT i)).pre.map toNd := by rw [hN.out]; rfl
      obtain ⟨n8, hn8⟩ : ∃ k, k = ((⟨10, ⟨#[]⟩, (Pw : Int)⟩ : Nd) :: N).length := ⟨_, rfl⟩
      rw [← hn8] at hc8 hl8
      rw [← hn8]
      rw [htr] at hl8
      have hp1 : 1 ≤ Pw := by have := hPh.out; omega
      have hp6 : Pw ≤ 6 := by have := hPh.out; have := hph.out; omega
      have hE := Lib.hid (expand_any ⟨#[121]⟩ (F9.Tr.hat Pw (F10.sumT i)) (hat_wf hp1 hp6 hvh.out) A8 n8 c8 w8 hl8 hc8 (hO1.out.bel hB8.out) (hat_frm hp1 hp6 hvh.out) (by decide) (wf_siz (hat_wf hp1 hp6 hvh.out)))
      have hpe := Lib.hid (fun (W W' : World) (e : Ending) (h : ExpV W W' e ⟨#[121]⟩ (F9.Tr.hat Pw (F10.sumT i))) => pow_exp hvh.out hp1 hp6 h)
      replace hn8 := Lib.hid hn8
      clear G8 hc8 hl8 B8 htr hp1 hp6 G1 hl2
      go_wp2_with fail
      refine hE.out.mono ?_
      intro e w9 hX
      obtain ⟨sv, bz, TA, tn, tc, ev, rfl, hb9, hfacts⟩ := hpe.out _ _ _ hX
      have hB9 := Lib.hid (hB8.out.trans (hb9.mono hB8.out.size))
      have S10 := Lib.hid ((St.new w9).alloc #[.string sv, .bool bz, .slice TA tn tc] 29 (noLof rfl))
      replace hfacts := Lib.hid hfacts
      obtain ⟨mb, hmb⟩ : ∃ b, b = w9.heap.size := ⟨_, rfl⟩
      obtain ⟨w10, hw10⟩ : ∃ W, W = w9.alloc (.cells #[.string sv, .bool bz, .slice TA tn tc] 29) := ⟨_, rfl⟩
      rw [← hmb, ← hw10] at S10
      have hB10 := Lib.hid (hB9.out.trans (S10.out.bel.mono hB9.out.size))
      have m0 : Hid (w10.cell? ⟨mb, 0, none⟩ = some (.string sv)) := Lib.hid (S10.out.cl 0 0 rfl rfl)
      have m1 : Hid (w10.cell? ⟨mb, 1, none⟩ = some (.bool bz)) := Lib.hid (S10.out.cl 0 1 rfl rfl)
      have m2 : Hid (w10.cell? ⟨mb, 2, none⟩ = some (.slice TA tn tc)) := Lib.hid (S10.out.cl 0 2 rfl rfl)
      have hB910 := Lib.hid S10.out.bel
      clear hX hb9 hE hpe S10 hB8 hBw
      go_upto_region 11 with fail
      rw [← hmb, ← hw10]
      clear hmb hw10
      have hv2 : Hid (V ≤ 6) := Lib.hid (by have := hVh.out; have := hvh.out; omega)
      clear hvh
      go_wp2
      go_loopw [12, 13] (fun wv sv wr => ∃ j : Nat, j + 1 ≤ 2 ^ V ∧ sv = .int .i64 ((j : Int) + 1) ∧ wv = .int .i64 (wnt Pw j : Nat) ∧ wr = w10) (fun _ sv _ => 2 ^ V - (intOf sv).toNat)
      case atStart => exact ⟨0, Nat.one_le_two_pow, rfl, rfl, rfl⟩
      case round =>
        obtain ⟨j, hj, rfl, rfl, rfl⟩ := hrel
        obtain ⟨M, hM⟩ : ∃ M, M = 2 ^ V := ⟨_, rfl⟩
        have hM64 : M ≤ 64 := by rw [hM]; exact Nat.le_trans (Nat.pow_le_pow_right (by decide) hv2.out) (by decide)
        have eW := shl_v hv2.out
        rw [← hM] at eW hj
        obtain ⟨q, hq⟩ : ∃ q, q = decide (j + 1 < M) := ⟨_, rfl⟩
        have hq1 : decide (j + 1 < M) = q := hq.symm
        have hq2 : decide ((j : Int) + 1 < (M : Int)) = q := by rw [hq]; exact decide_eq_decide.2 (by omega)
        replace hq := Lib.hid hq
        replace hM := Lib.hid hM
        go_upto_if 58 with fail
        clear hq1 hq2
        cases q with
        | true =>
          have hlt : j + 1 < M := of_decide_eq_true hq.out.symm
          clear hq
          have hjh := Lib.hid hlt
          have hMh := hM
          have hM6 := Lib.hid hM64
          clear hlt hj hM hM64 eW
          go_wp2
          go_loopw [14, 15] (fun zv kv wr2 => ∃ k : Nat, k ≤ V ∧ kv = .int .i64 (k : Int) ∧ zv = .int .i64 (low (j + 1) k : Nat) ∧ wr2 = wr) (fun _ kv _ => V - (intOf kv).toNat)
          case atStart => exact ⟨0, Nat.zero_le _, rfl, rfl, rfl⟩
          case round =>
            obtain ⟨k, hk, rfl, rfl, rfl⟩ := hrel
            by_cases hkt : k < V
            · have g1 : (k : Int) < (V : Int) := by omega
              have eB := low_step (j := j) (k := k) (by have := hjh.out; have := hM6.out; omega) (by have := hv2.out; omega)
              have hkh := Lib.hid hkt
              clear hkt hk
              go_upto_region 17 with fail
              rw [eB]
              clear eB
              have hkt := hkh.out
              have hVV := hv2.out
              go_wp2
              go_roundw
              case rel => exact ⟨k + 1, by omega, by go_num, rfl, (by first | rfl | trivial)⟩
              case measure => simp [intOf]; omega
            · obtain rfl : k = V := by omega
              have hla : low (j + 1) k = F10.siz (j + 1) := low_all (by rw [← hMh.out]; exact hjh.out) (by have := hv2.out; omega)
              rw [hla]
              have hws := wnt_succ Pw j
              have hwl := wnt_le Pw j
              obtain ⟨z, hz⟩ : ∃ z, z = F10.siz (j + 1) := ⟨_, rfl⟩
              rw [← hz] at hws
              rw [← hz]
              replace hz := Lib.hid hz
              have g1 : ¬ ((k : Int) < (k : Int)) := by omega
              clear hkt hk hla
              by_cases hzp : z ≤ Pw
              · rw [if_pos hzp] at hws
                have g2 : (z : Int) ≤ (Pw : Int) := by omega
                have hws2 := Lib.hid hws
                have hjj := hjh.out
                have hMM := hM6.out
                have eS : IntKind.i64.wrap ((wnt Pw j : Int) + 1) = ((wnt Pw (j + 1) : Nat) : Int) := by rw [hws, IntKind.wrap_i64]; omega
                clear hws hzp
                go_wp2
                go_roundw
                case rel => exact ⟨j + 1, by have := hMh.out; omega, by go_num, rfl, (by first | rfl | trivial)⟩
                case measure => simp [intOf]; have := hMh.out; omega
              · rw [if_neg hzp] at hws
                have g2 : ¬ ((z : Int) ≤ (Pw : Int)) := by omega
                have hws2 := Lib.hid hws
                have hjj := hjh.out
                have hMM := hM6.out
                clear hws hzp
                go_wp2
                go_roundw
                case rel => exact ⟨j + 1, by have := hMh.out; omega, by go_num, by rw [hws2.out, Nat.add_zero], (by first | rfl | trivial)⟩
                case measure => simp [intOf]; have := hMh.out; omega
        | false =>
          have hlt : ¬ (j + 1 < M) := of_decide_eq_false hq.out.symm
          have hwn : wnt Pw j = F10.wantN V Pw := by rw [wnt_all, ← hM.out, show M - 1 = j by omega]
          rw [hwn]
          obtain ⟨W9, hW9⟩ : ∃ k, k = F10.wantN V Pw := ⟨_, rfl⟩
          have hW9s : W9 ≤ 64 := by rw [hW9, ← hwn]; have := wnt_le Pw j; omega
          rw [← hW9]
          have hf := hfacts.out
          rw [← hVh.out, ← hW9] at hf
          have hAw := Lib.hid (awake_any wr (hO1.out.bel hB10.out))
          have hB10h := Lib.hid hB10.out
          replace hW9 := Lib.hid hW9
          clear hlt hwn hj hM hq hM64 eW hfacts
          rcases hf with ⟨rfl, h32⟩ | ⟨rfl, h32, rfl, rfl, hVal⟩
          · have g1 : (32 : Int) < (W9 : Int) + 1 := by omega
            have g2 : 32 < W9 + 1 := h32
            clear h32
            go_wp2_with fail
            refine hAw.out.mono ?_
            rintro e w11 ⟨rfl, hb⟩
            have T := Lib.hid (hB10h.out.trans (hb.mono hB10h.out.size))
            clear hb hAw
            go_wp2
            go_ret
            exact ⟨rfl, hB1.out.trans (T.out.mono hB1.out.size)⟩
          · have g1 : ¬ ((32 : Int) < (tn : Int) + 1) := by omega
            have g2 : ¬ (32 < tn + 1) := h32
            have hVh2 := Lib.hid hVal
            clear h32 hVal
            go_wp2_with fail
            refine hAw.out.mono ?_
            rintro e w11 ⟨rfl, hb⟩
            have T := Lib.hid (hB10h.out.trans (hb.mono hB10h.out.size))
            have k0 := bel_cell hb m0.out
            have k1 := bel_cell hb m1.out
            have k2 := bel_cell hb m2.out
            have hVV := Lib.hid (hVh2.out w11 (hB910.out.trans (hb.mono hB910.out.size)))
            clear hb hAw g1 g2
            go_wp2_with fail
            refine hVV.out.mono ?_
            rintro e w12 ⟨rfl, hb⟩
            have T2 := Lib.hid (T.out.trans (hb.mono T.out.size))
            clear hb k0 k1 k2 hVV T
            go_wp2
            go_ret
            exact ⟨rfl, hB1.out.trans (T2.out.mono hB1.out.size)⟩
      
end Go.Proofs.YthbkdjbmkhmlnaaDoor
