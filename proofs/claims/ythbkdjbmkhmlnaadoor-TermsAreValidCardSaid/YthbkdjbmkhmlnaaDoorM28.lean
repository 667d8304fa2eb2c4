/- Law 10: what Expand gives is valid. -/
import Derived.Test.YthbkdjbmkhmlnaaDoorM27
import Derived.Deep.CutBlock
namespace Go.Proofs.YthbkdjbmkhmlnaaDoor
open Go.RowKit
set_option linter.unusedVariables false

set_option maxRecDepth 100000 in
set_option maxHeartbeats 4000000 in
theorem light_any (s : ByteArray) (A : Option Addr) (n c : Nat) (w : World) : Calls Tryd.prog 9 #[.agg #[.string s, .slice A n c]] w fun e w' => e = .returned (.bool (decide (n ≤ 80))) ∧ Below w.heap.size w w' := by
  have S1 := Lib.hid ((St.new w).alloc #[.string s, .slice A n c] 24 (noLof rfl))
  obtain ⟨bx, hbx⟩ : ∃ b, b = w.heap.size := ⟨_, rfl⟩
  obtain ⟨w1, hw1⟩ : ∃ W, W = w.alloc (.cells #[.string s, .slice A n c] 24) := ⟨_, rfl⟩
  rw [← hbx, ← hw1] at S1
  have b1 : w1.cell? ⟨bx, 1, none⟩ = some (.slice A n c) := S1.out.cl 0 1 rfl rfl
  obtain ⟨q, hq⟩ : ∃ q, q = decide (n ≤ 80) := ⟨_, rfl⟩
  rw [← hq]
  have g : decide ((n : Int) ≤ 80) = q := by rw [hq]; exact decide_eq_decide.2 (by omega)
  replace hq := Lib.hid hq
  go_enter Tryd.func9, Tryd.ntmps9
  go_upto_region 1 with fail
  rw [← hbx, ← hw1]
  clear hbx hw1
  go_wp2
  go_ret
  exact ⟨by first | rfl | (rw [hq.out]), S1.out.bel⟩
theorem name_size {s : ByteArray} (h : nameB s = true) : s.size ≤ 32 := by
  rcases Nat.eq_zero_or_pos s.size with h0 | h0
  · omega
  · rw [nameB_cons h0] at h
    simp only [Bool.and_eq_true, decide_eq_true_eq] at h
    exact h.1.1.1
theorem wf_size {tr : F9.Tr} (h : tr.wf) : ∀ x ∈ tr.pre.map toNd, x.s.size ≤ 100000 := by
  intro x hx
  obtain ⟨y, hy, rfl⟩ := List.mem_map.1 hx
  have hok := wf_node h y hy
  obtain ⟨op, nm, k⟩ := y
  have key : nameL nm = true → (⟨nm.toArray⟩ : ByteArray).size ≤ 100000 := fun hn => Nat.le_trans (name_size (by rw [nameB_arr]; exact hn)) (by decide)
  show (⟨nm.toArray⟩ : ByteArray).size ≤ 100000
  rcases hok with (h | h | h) | h | h
  · exact key h.2.1
  · exact key h.2.1
  · have : nm = [] := h.2.1
    rw [this]; decide
  · have : nm = [] := h.2.1
    rw [this]; decide
  · have : nm = [] := h.2.2.1
    rw [this]; decide

set_option maxRecDepth 100000 in
set_option maxHeartbeats 4000000 in
theorem areValid_any (s : ByteArray) (L : List Nd) (A : Option Addr) (n c : Nat) (w : World) (h : LR ndC w A n L) (hc : n ≤ c) (hO : Og w) : Calls Tryd.prog 5 #[.agg #[.string s, .slice A n c]] w fun e w' => e = .returned (.bool true) ∧ Below w.heap.size w w' := by
  have S1 := Lib.hid ((St.new w).alloc #[.string s, .slice A n c] 24 (noLof rfl))
  obtain ⟨fb, hfb⟩ : ∃ b, b = w.heap.size := ⟨_, rfl⟩
  obtain ⟨w1, hw1⟩ : ∃ W, W = w.alloc (.cells #[.string s, .slice A n c] 24) := ⟨_, rfl⟩
  rw [← hfb, ← hw1] at S1
  have k0 : w1.cell? ⟨fb, 0, none⟩ = some (.string s) := S1.out.cl 0 0 rfl rfl
  have k1 : w1.cell? ⟨fb, 1, none⟩ = some (.slice A n c) := S1.out.cl 0 1 rfl rfl
  have hO1 := Lib.hid (hO.bel S1.out.bel)
  have hLt := Lib.hid (light_any s A n c w1)
  by_cases h80 : n ≤ 80
  · have h1 := Lib.hid (h.bel S1.out.bel)
    have hcc := Lib.hid hc
    rw [decide_eq_true h80] at hLt
    replace h80 := Lib.hid h80
    cases hf : frmB s L with
    | false =>
      replace hf := Lib.hid hf
      clear h hO hc
      go_enter Tryd.func5, Tryd.ntmps5
      go_upto_region 1 with fail
      rw [← hfb, ← hw1]
      clear hfb hw1
      go_wp2_with fail
      clear k0 k1
      refine hLt.out.mono ?_
      rintro e w2 ⟨rfl, hb⟩
      have S2 := Lib.hid (S1.out.call hb)
      have hV := Lib.hid (rvalid_any s L A n c w2 (h1.out.bel hb) (by have := h80.out; omega))
      rw [hf.out] at hV
      have hO2 := Lib.hid (hO1.out.bel hb)
      clear hb S1 hLt
      have k0 : w2.cell? ⟨fb, 0, none⟩ = some (.string s) := S2.out.cl 0 0 rfl rfl
      have k1 : w2.cell? ⟨fb, 1, none⟩ = some (.slice A n c) := S2.out.cl 0 1 rfl rfl
      go_wp2_with fail
      clear k0 k1
      refine hV.out.mono ?_
      rintro e w3 ⟨rfl, hb⟩
      have S3 := Lib.hid (S2.out.call hb)
      have hA := Lib.hid (awake_any w3 (hO2.out.bel hb))
      clear hb S2 hV
      go_wp2_with fail
      refine hA.out.mono ?_
      rintro e w4 ⟨rfl, hb⟩
      have S4 := Lib.hid (S3.out.call hb)
      clear hb S3 hA
      go_wp2
      go_ret
      exact ⟨rfl, S4.out.bel⟩
    | true =>
      obtain ⟨tr, hw, rfl⟩ := frm_tree hf
      have hsz := wf_size hw
      have hss : s.size ≤ 100000 := Nat.le_trans (name_size (frm_len hf).2) (by decide)
      have hE1 : Hid (∀ W, Below w1.heap.size w1 W → Calls Tryd.prog 11 #[.agg #[.string s, .slice A n c]] W fun e w' => ExpV W w' e s tr) := Lib.hid fun W hB => expand_any s tr hw A n c W (h1.out.bel hB) hc (hO1.out.bel hB) hf hss hsz
      have hmd : Hid (∀ m, F10.rex tr = some m → modB s ((F10.mdT (F10.atoms tr []) m).map fun l => l.map toFa) = true ∧ ∀ t ∈ (F10.mdT (F10.atoms tr []) m).map (fun l => l.map toFa), t.length ≤ 6 ∧ ∀ x ∈ t, ((tr.pre.map toNd).any (hitB x)) = true) := Lib.hid fun m hm => mdl_ok hw hf hm
      have hV1 : Hid (∀ W, Below w1.heap.size w1 W → Calls Tryd.prog 16 #[.agg #[.string s, .slice A n c]] W fun e w' => e = .returned (.bool true) ∧ Below W.heap.size W w') := Lib.hid fun W hB => by
        have := rvalid_any s (tr.pre.map toNd) A n c W (h1.out.bel hB) (by have := h80.out; omega)
        rwa [hf] at this
      have hlen := Lib.hid h.len
      obtain ⟨L, hL⟩ : ∃ l, l = tr.pre.map toNd := ⟨_, rfl⟩
      rw [← hL] at h1 hmd hlen
      replace hL := Lib.hid hL
      clear h hO hc hf hsz hss hw
      go_enter Tryd.func5, Tryd.ntmps5
      go_upto_region 1 with fail
      rw [← hfb, ← hw1]
      clear hfb hw1
      go_wp2_with fail
      clear k0 k1
      refine hLt.out.mono ?_
      rintro e w2 ⟨rfl, hb⟩
      have S2 := Lib.hid (S1.out.call hb)
      have B2 := Lib.hid hb
      clear hb hLt
      have k0 : w2.cell? ⟨fb, 0, none⟩ = some (.string s) := S2.out.cl 0 0 rfl rfl
      have k1 : w2.cell? ⟨fb, 1, none⟩ = some (.slice A n c) := S2.out.cl 0 1 rfl rfl
      go_wp2_with fail
      clear k0 k1
      refine (hV1.out w2 B2.out).mono ?_
      rintro e w3 ⟨rfl, hb⟩
      have S3 := Lib.hid (S2.out.call hb)
      have B3 := Lib.hid (B2.out.trans (hb.mono B2.out.size))
      clear hb hV1 S2 B2
      have k0 : w3.cell? ⟨fb, 0, none⟩ = some (.string s) := S3.out.cl 0 0 rfl rfl
      have k1 : w3.cell? ⟨fb, 1, none⟩ = some (.slice A n c) := S3.out.cl 0 1 rfl rfl
      go_wp2_with fail
      clear k0 k1
      refine (hE1.out w3 B3.out).mono ?_
      intro e w4 hX
      unfold ExpV at hX
      cases hr : F10.rex tr with
      | none =>
        rw [hr] at hX
        obtain ⟨rfl, hb⟩ := hX
        have S4 := Lib.hid (S3.out.call hb)
        have B4 := Lib.hid (B3.out.trans (hb.mono B3.out.size))
        have hA := Lib.hid (fun W (hB : Below w4.heap.size w4 W) => awake_any W ((hO1.out.bel B4.out).bel hB))
        clear hb hr hE1 hmd B3 S3
        go_wp2_with fail
        refine (hA.out _ ((Below.refl _ w4).alloc (Nat.le_refl _) _)).mono ?_
        rintro e w5 ⟨rfl, hb⟩
        have S5 := Lib.hid ((S4.out.alloc #[.string ⟨#[]⟩, .bool false, .slice none 0 0] 29 (noLof rfl)).call hb)
        clear hb hA S4
        go_wp2
        go_ret
        exact ⟨rfl, S5.out.bel⟩
      | some m =>
        rw [hr] at hX
        obtain ⟨A6, c6, Ts, ob, rfl, hd, S6, hI, hmap⟩ := hX
        have hB4 := S6.bel
        have hT4 := (hI w3 ob (fun p hp => hp)).lr S6
        have S4 := Lib.hid ((S3.out.call hB4).alloc #[.string s, .bool (m.contains 0), .slice A6 Ts.length c6] 29 (noLof rfl))
        obtain ⟨mb, hmb⟩ : ∃ b, b = w4.heap.size := ⟨_, rfl⟩
        obtain ⟨w5, hw5⟩ : ∃ W, W = w4.alloc (.cells #[.string s, .bool (m.contains 0), .slice A6 Ts.length c6] 29) := ⟨_, rfl⟩
        have hT5 : LR (slC faC) w5 A6 Ts.length Ts := by rw [hw5]; exact hT4.bel ((Below.refl _ w4).alloc (Nat.le_refl _) _)
        have B5 : Below w1.heap.size w1 w5 := by
          have b1 := B3.out.trans (hB4.mono B3.out.size)
          rw [hw5]; exact b1.trans (((Below.refl _ w4).alloc (Nat.le_refl _) _).mono b1.size)
        rw [← hmb, ← hw5] at S4
        obtain ⟨hmB, hhit⟩ := hmd.out m hr
        rw [← hmap] at hmB hhit
        have hmBh := Lib.hid hmB
        have hhh : Hid (∀ x ∈ Ts, x.L.length ≤ 6 ∧ ∀ f ∈ x.L, (L.any (hitB f)) = true) := Lib.hid fun x hx => hhit x.L (List.mem_map_of_mem hx)
        have h5 := Lib.hid (h1.out.bel B5)
        have hO5 := Lib.hid (hO1.out.bel B5)
        obtain ⟨nT, hnT⟩ : ∃ k, k = Ts.length := ⟨_, rfl⟩
        rw [← hnT] at S4 hT5 hd hw5
        rw [← hnT]
        obtain ⟨bz, hbz⟩ : ∃ k, k = m.contains 0 := ⟨_, rfl⟩
        rw [← hbz] at S4 hw5
        rw [← hbz]
        have hn32 : nT ≤ 32 := by
          have hq := hmB
          unfold modB at hq
          simp only [Bool.and_eq_true, decide_eq_true_eq, List.length_map] at hq
          omega
        have hT := Lib.hid hT5
        have hdd := Lib.hid hd
        have hn32h := Lib.hid hn32
        have hbl := Lib.hid (S4.out.lt 1 rfl)
        have hbm := Lib.hid (S4.out.lt 0 rfl)
        have hf0 : Hid (w5.cell? ⟨fb, 0, none⟩ = some (.string s)) := Lib.hid (S4.out.cl 1 0 rfl rfl)
        have hf1 : Hid (w5.cell? ⟨fb, 1, none⟩ = some (.slice A n c)) := Lib.hid (S4.out.cl 1 1 rfl rfl)
        have hm0 : Hid (w5.cell? ⟨mb, 0, none⟩ = some (.string s)) := Lib.hid (S4.out.cl 0 0 rfl rfl)
        have hm1 : Hid (w5.cell? ⟨mb, 1, none⟩ = some (.bool bz)) := Lib.hid (S4.out.cl 0 1 rfl rfl)
        have hm2 : Hid (w5.cell? ⟨mb, 2, none⟩ = some (.slice A6 nT c6)) := Lib.hid (S4.out.cl 0 2 rfl rfl)
        have hw0 := Lib.hid S4.out.bel
        replace hnT := Lib.hid hnT
        replace hbz := Lib.hid hbz
        clear hT4 hT5 hmB hhit hd hB4 S6 hI hmap hr hmd hE1 S3 S4 B3 B5 hn32 h1 hO1 S1
        go_upto_region 6 with fail
        rw [← hmb, ← hw5]
        clear hmb hw5
        go_wp2
        go_loopw [5] (fun iv wr => ∃ i : Nat, i ≤ nT ∧ iv = .int .i64 i ∧ Below w5.heap.size w5 wr) (fun iv _ => nT - (intOf iv).toNat)
        case atStart => exact ⟨0, Nat.zero_le _, rfl, Below.refl _ _⟩
        case round =>
          obtain ⟨i, hin, rfl, B⟩ := hrel
          have c2 : wr.cell? ⟨mb, 2, none⟩ = some (.slice A6 nT c6) := bel_cell B hm2.out
          by_cases hlt : i < nT
          · obtain ⟨b, o, x, rfl, hx, hxm, e0, hxl, hxc⟩ := fs_get (hT.out.bel B) hlt
            obtain ⟨hx6, hxf⟩ := hhh.out x hxm
            obtain ⟨xn, hxn2⟩ : ∃ k, k = x.L.length := ⟨_, rfl⟩
            obtain ⟨xc, hxc2⟩ : ∃ k, k = x.c := ⟨_, rfl⟩
            obtain ⟨xA, hxA⟩ : ∃ a, a = x.A := ⟨_, rfl⟩
            rw [← hxn2, ← hxc2, ← hxA] at e0
            rw [← hxn2, ← hxA] at hxl
            rw [← hxn2] at hx6
            replace hxl := Lib.hid hxl
            replace hx6 := Lib.hid hx6
            replace hxf := Lib.hid hxf
            have B2 := Lib.hid B
            have hih := Lib.hid hlt
            have e0h := Lib.hid e0
            have g1 : (i : Int) < (nT : Int) := by omega
            have g2 : (0 : Int) ≤ (i : Int) := by omega
            obtain ⟨wo, hwo⟩ : ∃ W, W = wr := ⟨wr, rfl⟩
            subst hwo
            clear hlt hin hx hxm B hxc hxn2 hxc2 hxA e0
            go_wp2
            clear c2
            go_loopw [6] (fun kv wr => ∃ k : Nat, k ≤ xn ∧ kv = .int .i64 k ∧ Below wo.heap.size wo wr) (fun kv _ => xn - (intOf kv).toNat)
            case atStart => exact ⟨0, Nat.zero_le _, rfl, Below.refl _ _⟩
            case round =>
              obtain ⟨k, hkx, rfl, Bo⟩ := hrel
              have Bw := Lib.hid (B2.out.trans (Bo.mono B2.out.size))
              have c2 : wr.cell? ⟨mb, 2, none⟩ = some (.slice (some ⟨b, o, none⟩) nT c6) := bel_cell Bw.out hm2.out
              have e0 : wr.cell? ⟨b, o + i, none⟩ = some (.slice xA xn xc) := bel_cell Bo e0h.out
              have hlt := hih.out
              by_cases hkt : k < xn
              · obtain ⟨b2, o2, f, hfA, hf, hfm, q0, q1⟩ := fa_get (hxl.out.bel Bo) hkt
                subst hfA
                have hff := Lib.hid (hxf.out f hfm)
                have k1 : (k : Int) < (xn : Int) := by omega
                have k2 : (0 : Int) ≤ (k : Int) := by omega
                have hkh := Lib.hid hkt
                have S7 := Lib.hid ((St.new wr).alloc #[.string f.s, .int .i64 f.k] 37 (noLof rfl))
                obtain ⟨xb, hxb⟩ : ∃ b, b = wr.heap.size := ⟨_, rfl⟩
                obtain ⟨w6, hw6⟩ : ∃ W, W = wr.alloc (.cells #[.string f.s, .int .i64 f.k] 37) := ⟨_, rfl⟩
                rw [← hxb, ← hw6] at S7
                have B6 := Lib.hid (Bw.out.trans (S7.out.bel.mono Bw.out.size))
                have B6o := Lib.hid (Bo.trans (S7.out.bel.mono Bo.size))
                have dx0 : Hid (w6.cell? ⟨xb, 0, none⟩ = some (.string f.s)) := Lib.hid (S7.out.cl 0 0 rfl rfl)
                have dx1 : Hid (w6.cell? ⟨xb, 1, none⟩ = some (.int .i64 f.k)) := Lib.hid (S7.out.cl 0 1 rfl rfl)
                have h6 := Lib.hid (h5.out.bel B6.out)
                have k16 : Hid (w6.cell? ⟨fb, 1, none⟩ = some (.slice A n c)) := Lib.hid (bel_cell B6.out hf1.out)
                clear hkt hkx hf hfm Bo S7 hlt
                go_upto_region 13 with fail
                rw [← hxb, ← hw6]
                clear hxb hw6 q0 q1 e0 c2
                go_wp2
                go_loopw [8, 9] (fun fv jv wr => ∃ j : Nat, j ≤ n ∧ jv = .int .i64 j ∧ fv = .bool ((L.take j).any (hitB f)) ∧ Below w6.heap.size w6 wr) (fun _ jv _ => n - (intOf jv).toNat)
                case atStart => exact ⟨0, Nat.zero_le _, rfl, rfl, Below.refl _ _⟩
                case round =>
                  obtain ⟨j, hjn, rfl, rfl, Bp⟩ := hrel
                  have kk1 : Hid (wr.cell? ⟨fb, 1, none⟩ = some (.slice A n c)) := Lib.hid (bel_cell Bp k16.out)
                  have kk1o := kk1.out
                  by_cases hjt : j < n
                  · obtain ⟨b3, o3, y, hyA, hy, hym, a0, a1, a2⟩ := nd_get (h6.out.bel Bp) hjt
                    subst hyA
                    replace a0 := Lib.hid a0
                    replace a1 := Lib.hid a1
                    replace a2 := Lib.hid a2
                    have dd0 : Hid (wr.cell? ⟨xb, 0, none⟩ = some (.string f.s)) := Lib.hid (bel_cell Bp dx0.out)
                    have dd1 : Hid (wr.cell? ⟨xb, 1, none⟩ = some (.int .i64 f.k)) := Lib.hid (bel_cell Bp dx1.out)
                    have hsn0 : (L.take (j + 1)).any (hitB f) = ((L.take j).any (hitB f) || hitB f y) := by rw [take_snoc_of hy, List.any_append, List.any_cons, List.any_nil, Bool.or_false]
                    have hhy : hitB f y = ((y.s.toList == f.s.toList) && ((y.o == 1 && f.k == 1) || (y.o == 2 && f.k == y.k))) := rfl
                    rw [hhy] at hsn0
                    clear hhy
                    obtain ⟨fd, hfd⟩ : ∃ q, q = (L.take j).any (hitB f) := ⟨_, rfl⟩
                    obtain ⟨q1, hq1⟩ : ∃ q, q = (y.s.toList == f.s.toList) := ⟨_, rfl⟩
                    obtain ⟨q2, hq2⟩ : ∃ q, q = (y.o == 1) := ⟨_, rfl⟩
                    obtain ⟨q3, hq3⟩ : ∃ q, q = (f.k == 1) := ⟨_, rfl⟩
                    obtain ⟨q4, hq4⟩ : ∃ q, q = (y.o == 2) := ⟨_, rfl⟩
                    obtain ⟨q5, hq5⟩ : ∃ q, q = (f.k == y.k) := ⟨_, rfl⟩
                    rw [← hfd, ← hq1, ← hq2, ← hq3, ← hq4, ← hq5] at hsn0
                    rw [← hfd]
                    have hsn : Hid ((L.take (j + 1)).any (hitB f) = (fd || (q1 && ((q2 && q3) || (q4 && q5))))) := Lib.hid hsn0
                    have p1 : (y.s.toList == f.s.toList) = q1 := hq1.symm
                    have p2 : (y.o == 1) = q2 := hq2.symm
                    have p3 : (f.k == 1) = q3 := hq3.symm
                    have p4 : (y.o == 2) = q4 := hq4.symm
                    have p5 : (f.k == y.k) = q5 := hq5.symm
                    have Bp2 := Lib.hid Bp
                    have hnn := h80.out
                    have r1 : (j : Int) < (n : Int) := by omega
                    have r2 : (0 : Int) ≤ (j : Int) := by omega
                    clear hsn0 hfd hq1 hq2 hq3 hq4 hq5 hy hym Bp
                    have hjn2 := Lib.hid hjn
                    go_upto_block 5 with fail
                    go_cut [8] from 63 to 108 (fun v wc => ∃ fz : Bool, v = .bool fz ∧ Hid (fz = (fd || (q1 && ((q2 && q3) || (q4 && q5))))) ∧ Below w6.heap.size w6 wc)
                    case first =>
                      cases fd with
                      | true =>
                        go_upto_region 16 with fail
                        have hbase := Lib.hid (St.new wr)
                        refine RW.begin (Z := []) (S := (fun W => Below wr.heap.size wr W)) (by kernel_rfl) ?_ hbase.out ?_
                        · exact ⟨by kernel_rfl, zis_nil, by decide, by decide, nol_nil, (fun _ _ h => h.bel)⟩
                        intro hzk
                        refine RW.t (i := 0) (v := .bool true) (some 63) at0 (hy := fun _ _ => by go_simp) (h := ?_)
                        refine RW.t (i := 1) (v := .bool true) (some 64) at1 (hy := fun _ _ => by go_simp) (h := ?_)
                        refine RW.u (i := 2) (some 65) at2 (h := ?_)
                        refine RW.u (i := 3) (some 66) at3 (h := ?_)
                        refine RW.u (i := 4) (some 67) at4 (h := ?_)
                        refine RW.u (i := 5) (some 68) at5 (h := ?_)
                        refine RW.u (i := 6) (some 69) at6 (h := ?_)
                        refine RW.u (i := 7) (some 70) at7 (h := ?_)
                        refine RW.u (i := 8) (some 71) at8 (h := ?_)
                        refine RW.u (i := 9) (some 72) at9 (h := ?_)
                        refine RW.u (i := 10) (some 73) at10 (h := ?_)
                        refine RW.u (i := 11) (some 74) at11 (h := ?_)
                        refine RW.u (i := 12) (some 75) at12 (h := ?_)
                        refine RW.u (i := 13) (some 76) at13 (h := ?_)
                        refine RW.u (i := 14) (some 77) at14 (h := ?_)
                        refine RW.u (i := 15) (some 78) at15 (h := ?_)
                        refine RW.u (i := 16) (some 79) at16 (h := ?_)
                        refine RW.u (i := 17) (some 80) at17 (h := ?_)
                        refine RW.u (i := 18) (some 81) at18 (h := ?_)
                        refine RW.u (i := 19) (some 82) at19 (h := ?_)
                        refine RW.u (i := 20) (some 83) at20 (h := ?_)
                        refine RW.u (i := 21) (some 84) at21 (h := ?_)
                        refine RW.u (i := 22) (some 85) at22 (h := ?_)
                        refine RW.u (i := 23) (some 86) at23 (h := ?_)
                        refine RW.u (i := 24) (some 87) at24 (h := ?_)
                        refine RW.u (i := 25) (some 88) at25 (h := ?_)
                        refine RW.u (i := 26) (some 89) at26 (h := ?_)
                        refine RW.u (i := 27) (some 90) at27 (h := ?_)
                        refine RW.u (i := 28) (some 91) at28 (h := ?_)
                        refine RW.u (i := 29) (some 92) at29 (h := ?_)
                        refine RW.u (i := 30) (some 93) at30 (h := ?_)
                        refine RW.u (i := 31) (some 94) at31 (h := ?_)
                        refine RW.u (i := 32) (some 95) at32 (h := ?_)
                        refine RW.u (i := 33) (some 96) at33 (h := ?_)
                        refine RW.u (i := 34) (some 97) at34 (h := ?_)
                        refine RW.u (i := 35) (some 98) at35 (h := ?_)
                        refine RW.u (i := 36) (some 99) at36 (h := ?_)
                        refine RW.u (i := 37) (some 100) at37 (h := ?_)
                        refine RW.u (i := 38) (some 101) at38 (h := ?_)
                        refine RW.u (i := 39) (some 102) at39 (h := ?_)
                        refine RW.u (i := 40) (some 103) at40 (h := ?_)
                        refine RW.u (i := 41) (some 104) at41 (h := ?_)
                        refine RW.u (i := 42) (some 105) at42 (h := ?_)
                        refine RW.u (i := 43) (some 106) at43 (h := ?_)
                        refine RW.u (i := 44) (some 107) at44 (h := ?_)
                        refine RW.t (i := 45) (v := .bool true) (some 108) at45 (hy := fun _ _ => by go_simp) (h := ?_)
                        refine RW.t (i := 46) (v := .bool true) (some 8) (at_succ at45) (hy := fun _ _ => by go_simp) (h := ?_)
                        refine RW.tail hzk.out (by kernel_rfl) ?_
                        intro gs' w7 hgs' hS Sb
                        obtain rfl := len0 hgs'
                        simp only [mark, fill, Act.put, List.setIfInBounds_toArray, List.set_cons_zero, List.set_cons_succ]
                        refine Wk.done (by kernel_rfl) ?_
                        have T := Lib.hid (Bp2.out.trans (hS.mono Bp2.out.size))
                        clear Sb hgs' hzk hbase hS kk1 kk1o a0 a1 a2 dd0 dd1
                        go_wp2
                        go_meet
                        exact ⟨_, rfl, Lib.hid rfl, T.out⟩
                      | false =>
                        cases q1 with
                        | true =>
                          cases q2 with
                          | true =>
                            cases q3 with
                            | true =>
                              go_upto_region 16 with fail
                              have hbase := Lib.hid (St.new wr)
                              refine RW.begin (Z := []) (S := (fun W => Below wr.heap.size wr W)) (by kernel_rfl) ?_ hbase.out ?_
                              · exact ⟨by kernel_rfl, zis_nil, by decide, by decide, nol_nil, (fun _ _ h => h.bel)⟩
                              intro hzk
                              refine RW.t (i := 0) (v := .bool false) (some 63) at0 (hy := fun _ _ => by go_simp) (h := ?_)
                              refine RW.t (i := 1) (v := .bool false) (some 64) at1 (hy := fun _ _ => by go_simp) (h := ?_)
                              refine RW.t (i := 2) (v := .pointer (some ⟨fb, 1, none⟩)) (some 65) at2 (hy := fun _ _ => by go_simp) (h := ?_)
                              refine RW.t (i := 3) (v := .slice (some ⟨b3, o3, none⟩) n c) (some 66) at3 (hy := fun W hS => by (have k0 := bel_cell hS kk1.out; clear hS; go_simp)) (h := ?_)
                              refine RW.t (i := 4) (v := .int .i64 (j : Nat)) (some 67) at4 (hy := fun _ _ => by go_simp) (h := ?_)
                              refine RW.t (i := 5) (v := .pointer (some ⟨b3, o3 + j * 3, none⟩)) (some 68) at5 (hy := fun _ _ => by go_simp) (h := ?_)
                              refine RW.t (i := 6) (v := .pointer (some ⟨b3, o3 + j * 3 + 1, none⟩)) (some 69) at6 (hy := fun _ _ => by go_simp) (h := ?_)
                              refine RW.t (i := 7) (v := .string y.s) (some 70) at7 (hy := fun W hS => by (have k0 := bel_cell hS a1.out; clear hS; go_simp)) (h := ?_)
                              refine RW.t (i := 8) (v := .pointer (some ⟨xb, 0, none⟩)) (some 71) at8 (hy := fun _ _ => by go_simp) (h := ?_)
                              refine RW.t (i := 9) (v := .string f.s) (some 72) at9 (hy := fun W hS => by (have k0 := bel_cell hS dd0.out; clear hS; go_simp)) (h := ?_)
                              refine RW.t (i := 10) (v := .bool true) (some 73) at10 (hy := fun _ _ => by go_simp) (h := ?_)
                              refine RW.t (i := 11) (v := .bool true) (some 74) at11 (hy := fun _ _ => by go_simp) (h := ?_)
                              refine RW.t (i := 12) (v := .pointer (some ⟨fb, 1, none⟩)) (some 75) at12 (hy := fun _ _ => by go_simp) (h := ?_)
                              refine RW.t (i := 13) (v := .slice (some ⟨b3, o3, none⟩) n c) (some 76) at13 (hy := fun W hS => by (have k0 := bel_cell hS kk1.out; clear hS; go_simp)) (h := ?_)
                              refine RW.t (i := 14) (v := .int .i64 (j : Nat)) (some 77) at14 (hy := fun _ _ => by go_simp) (h := ?_)
                              refine RW.t (i := 15) (v := .pointer (some ⟨b3, o3 + j * 3, none⟩)) (some 78) at15 (hy := fun _ _ => by go_simp) (h := ?_)
                              refine RW.t (i := 16) (v := .pointer (some ⟨b3, o3 + j * 3, none⟩)) (some 79) at16 (hy := fun _ _ => by go_simp) (h := ?_)
                              refine RW.t (i := 17) (v := .int .i64 y.o) (some 80) at17 (hy := fun W hS => by (have k0 := bel_cell hS a0.out; clear hS; go_simp)) (h := ?_)
                              refine RW.t (i := 18) (v := .bool true) (some 81) at18 (hy := fun _ _ => by go_simp) (h := ?_)
                              refine RW.t (i := 19) (v := .bool true) (some 82) at19 (hy := fun _ _ => by go_simp) (h := ?_)
                              refine RW.t (i := 20) (v := .pointer (some ⟨xb, 1, none⟩)) (some 83) at20 (hy := fun _ _ => by go_simp) (h := ?_)
                              refine RW.t (i := 21) (v := .int .i64 f.k) (some 84) at21 (hy := fun W hS => by (have k0 := bel_cell hS dd1.out; clear hS; go_simp)) (h := ?_)
                              refine RW.t (i := 22) (v := .bool true) (some 85) at22 (hy := fun _ _ => by go_simp) (h := ?_)
                              refine RW.t (i := 23) (v := .bool true) (some 86) at23 (hy := fun _ _ => by go_simp) (h := ?_)
                              refine RW.t (i := 24) (v := .bool true) (some 87) at24 (hy := fun _ _ => by go_simp) (h := ?_)
                              refine RW.u (i := 25) (some 88) at25 (h := ?_)
                              refine RW.u (i := 26) (some 89) at26 (h := ?_)
                              refine RW.u (i := 27) (some 90) at27 (h := ?_)
                              refine RW.u (i := 28) (some 91) at28 (h := ?_)
                              refine RW.u (i := 29) (some 92) at29 (h := ?_)
                              refine RW.u (i := 30) (some 93) at30 (h := ?_)
                              refine RW.u (i := 31) (some 94) at31 (h := ?_)
                              refine RW.u (i := 32) (some 95) at32 (h := ?_)
                              refine RW.u (i := 33) (some 96) at33 (h := ?_)
                              refine RW.u (i := 34) (some 97) at34 (h := ?_)
                              refine RW.u (i := 35) (some 98) at35 (h := ?_)
                              refine RW.u (i := 36) (some 99) at36 (h := ?_)
                              refine RW.u (i := 37) (some 100) at37 (h := ?_)
                              refine RW.u (i := 38) (some 101) at38 (h := ?_)
                              refine RW.u (i := 39) (some 102) at39 (h := ?_)
                              refine RW.u (i := 40) (some 103) at40 (h := ?_)
                              refine RW.u (i := 41) (some 104) at41 (h := ?_)
                              refine RW.u (i := 42) (some 105) at42 (h := ?_)
                              refine RW.t (i := 43) (v := .bool true) (some 106) at43 (hy := fun _ _ => by go_simp) (h := ?_)
                              refine RW.t (i := 44) (v := .bool true) (some 107) at44 (hy := fun _ _ => by go_simp) (h := ?_)
                              refine RW.t (i := 45) (v := .bool true) (some 108) at45 (hy := fun _ _ => by go_simp) (h := ?_)
                              refine RW.t (i := 46) (v := .bool true) (some 8) (at_succ at45) (hy := fun _ _ => by go_simp) (h := ?_)
                              refine RW.tail hzk.out (by kernel_rfl) ?_
                              intro gs' w7 hgs' hS Sb
                              obtain rfl := len0 hgs'
                              simp only [mark, fill, Act.put, List.setIfInBounds_toArray, List.set_cons_zero, List.set_cons_succ]
                              refine Wk.done (by kernel_rfl) ?_
                              have T := Lib.hid (Bp2.out.trans (hS.mono Bp2.out.size))
                              clear Sb hgs' hzk hbase hS kk1 kk1o a0 a1 a2 dd0 dd1
                              go_wp2
                              go_meet
                              exact ⟨_, rfl, Lib.hid rfl, T.out⟩
                            | false =>
                              cases q4 with
                              | true =>
                                cases q5 with
                                | true =>
                                  go_upto_region 16 with fail
                                  have hbase := Lib.hid (St.new wr)
                                  refine RW.begin (Z := []) (S := (fun W => Below wr.heap.size wr W)) (by kernel_rfl) ?_ hbase.out ?_
                                  · exact ⟨by kernel_rfl, zis_nil, by decide, by decide, nol_nil, (fun _ _ h => h.bel)⟩
                                  intro hzk
                                  refine RW.t (i := 0) (v := .bool false) (some 63) at0 (hy := fun _ _ => by go_simp) (h := ?_)
                                  refine RW.t (i := 1) (v := .bool false) (some 64) at1 (hy := fun _ _ => by go_simp) (h := ?_)
                                  refine RW.t (i := 2) (v := .pointer (some ⟨fb, 1, none⟩)) (some 65) at2 (hy := fun _ _ => by go_simp) (h := ?_)
                                  refine RW.t (i := 3) (v := .slice (some ⟨b3, o3, none⟩) n c) (some 66) at3 (hy := fun W hS => by (have k0 := bel_cell hS kk1.out; clear hS; go_simp)) (h := ?_)
                                  refine RW.t (i := 4) (v := .int .i64 (j : Nat)) (some 67) at4 (hy := fun _ _ => by go_simp) (h := ?_)
                                  refine RW.t (i := 5) (v := .pointer (some ⟨b3, o3 + j * 3, none⟩)) (some 68) at5 (hy := fun _ _ => by go_simp) (h := ?_)
                                  refine RW.t (i := 6) (v := .pointer (some ⟨b3, o3 + j * 3 + 1, none⟩)) (some 69) at6 (hy := fun _ _ => by go_simp) (h := ?_)
                                  refine RW.t (i := 7) (v := .string y.s) (some 70) at7 (hy := fun W hS => by (have k0 := bel_cell hS a1.out; clear hS; go_simp)) (h := ?_)
                                  refine RW.t (i := 8) (v := .pointer (some ⟨xb, 0, none⟩)) (some 71) at8 (hy := fun _ _ => by go_simp) (h := ?_)
                                  refine RW.t (i := 9) (v := .string f.s) (some 72) at9 (hy := fun W hS => by (have k0 := bel_cell hS dd0.out; clear hS; go_simp)) (h := ?_)
                                  refine RW.t (i := 10) (v := .bool true) (some 73) at10 (hy := fun _ _ => by go_simp) (h := ?_)
                                  refine RW.t (i := 11) (v := .bool true) (some 74) at11 (hy := fun _ _ => by go_simp) (h := ?_)
                                  refine RW.t (i := 12) (v := .pointer (some ⟨fb, 1, none⟩)) (some 75) at12 (hy := fun _ _ => by go_simp) (h := ?_)
                                  refine RW.t (i := 13) (v := .slice (some ⟨b3, o3, none⟩) n c) (some 76) at13 (hy := fun W hS => by (have k0 := bel_cell hS kk1.out; clear hS; go_simp)) (h := ?_)
                                  refine RW.t (i := 14) (v := .int .i64 (j : Nat)) (some 77) at14 (hy := fun _ _ => by go_simp) (h := ?_)
                                  refine RW.t (i := 15) (v := .pointer (some ⟨b3, o3 + j * 3, none⟩)) (some 78) at15 (hy := fun _ _ => by go_simp) (h := ?_)
                                  refine RW.t (i := 16) (v := .pointer (some ⟨b3, o3 + j * 3, none⟩)) (some 79) at16 (hy := fun _ _ => by go_simp) (h := ?_)
                                  refine RW.t (i := 17) (v := .int .i64 y.o) (some 80) at17 (hy := fun W hS => by (have k0 := bel_cell hS a0.out; clear hS; go_simp)) (h := ?_)
                                  refine RW.t (i := 18) (v := .bool true) (some 81) at18 (hy := fun _ _ => by go_simp) (h := ?_)
                                  refine RW.t (i := 19) (v := .bool true) (some 82) at19 (hy := fun _ _ => by go_simp) (h := ?_)
                                  refine RW.t (i := 20) (v := .pointer (some ⟨xb, 1, none⟩)) (some 83) at20 (hy := fun _ _ => by go_simp) (h := ?_)
                                  refine RW.t (i := 21) (v := .int .i64 f.k) (some 84) at21 (hy := fun W hS => by (have k0 := bel_cell hS dd1.out; clear hS; go_simp)) (h := ?_)
                                  refine RW.t (i := 22) (v := .bool false) (some 85) at22 (hy := fun _ _ => by go_simp) (h := ?_)
                                  refine RW.t (i := 23) (v := .bool false) (some 86) at23 (hy := fun _ _ => by go_simp) (h := ?_)
                                  refine RW.t (i := 24) (v := .bool false) (some 87) at24 (hy := fun _ _ => by go_simp) (h := ?_)
                                  refine RW.t (i := 25) (v := .pointer (some ⟨fb, 1, none⟩)) (some 88) at25 (hy := fun _ _ => by go_simp) (h := ?_)
                                  refine RW.t (i := 26) (v := .slice (some ⟨b3, o3, none⟩) n c) (some 89) at26 (hy := fun W hS => by (have k0 := bel_cell hS kk1.out; clear hS; go_simp)) (h := ?_)
                                  refine RW.t (i := 27) (v := .int .i64 (j : Nat)) (some 90) at27 (hy := fun _ _ => by go_simp) (h := ?_)
                                  refine RW.t (i := 28) (v := .pointer (some ⟨b3, o3 + j * 3, none⟩)) (some 91) at28 (hy := fun _ _ => by go_simp) (h := ?_)
                                  refine RW.t (i := 29) (v := .pointer (some ⟨b3, o3 + j * 3, none⟩)) (some 92) at29 (hy := fun _ _ => by go_simp) (h := ?_)
                                  refine RW.t (i := 30) (v := .int .i64 y.o) (some 93) at30 (hy := fun W hS => by (have k0 := bel_cell hS a0.out; clear hS; go_simp)) (h := ?_)
                                  refine RW.t (i := 31) (v := .bool true) (some 94) at31 (hy := fun _ _ => by go_simp) (h := ?_)
                                  refine RW.t (i := 32) (v := .bool true) (some 95) at32 (hy := fun _ _ => by go_simp) (h := ?_)
                                  refine RW.t (i := 33) (v := .pointer (some ⟨xb, 1, none⟩)) (some 96) at33 (hy := fun _ _ => by go_simp) (h := ?_)
                                  refine RW.t (i := 34) (v := .int .i64 f.k) (some 97) at34 (hy := fun W hS => by (have k0 := bel_cell hS dd1.out; clear hS; go_simp)) (h := ?_)
                                  refine RW.t (i := 35) (v := .pointer (some ⟨fb, 1, none⟩)) (some 98) at35 (hy := fun _ _ => by go_simp) (h := ?_)
                                  refine RW.t (i := 36) (v := .slice (some ⟨b3, o3, none⟩) n c) (some 99) at36 (hy := fun W hS => by (have k0 := bel_cell hS kk1.out; clear hS; go_simp)) (h := ?_)
                                  refine RW.t (i := 37) (v := .int .i64 (j : Nat)) (some 100) at37 (hy := fun _ _ => by go_simp) (h := ?_)
                                  refine RW.t (i := 38) (v := .pointer (some ⟨b3, o3 + j * 3, none⟩)) (some 101) at38 (hy := fun _ _ => by go_simp) (h := ?_)
                                  refine RW.t (i := 39) (v := .pointer (some ⟨b3, o3 + j * 3 + 2, none⟩)) (some 102) at39 (hy := fun _ _ => by go_simp) (h := ?_)
                                  refine RW.t (i := 40) (v := .int .i64 y.k) (some 103) at40 (hy := fun W hS => by (have k0 := bel_cell hS a2.out; clear hS; go_simp)) (h := ?_)
                                  refine RW.t (i := 41) (v := .bool true) (some 104) at41 (hy := fun _ _ => by go_simp) (h := ?_)
                                  refine RW.t (i := 42) (v := .bool true) (some 105) at42 (hy := fun _ _ => by go_simp) (h := ?_)
                                  refine RW.t (i := 43) (v := .bool true) (some 106) at43 (hy := fun _ _ => by go_simp) (h := ?_)
                                  refine RW.t (i := 44) (v := .bool true) (some 107) at44 (hy := fun _ _ => by go_simp) (h := ?_)
                                  refine RW.t (i := 45) (v := .bool true) (some 108) at45 (hy := fun _ _ => by go_simp) (h := ?_)
                                  refine RW.t (i := 46) (v := .bool true) (some 8) (at_succ at45) (hy := fun _ _ => by go_simp) (h := ?_)
                                  refine RW.tail hzk.out (by kernel_rfl) ?_
                                  intro gs' w7 hgs' hS Sb
                                  obtain rfl := len0 hgs'
                                  simp only [mark, fill, Act.put, List.setIfInBounds_toArray, List.set_cons_zero, List.set_cons_succ]
                                  refine Wk.done (by kernel_rfl) ?_
                                  have T := Lib.hid (Bp2.out.trans (hS.mono Bp2.out.size))
                                  clear Sb hgs' hzk hbase hS kk1 kk1o a0 a1 a2 dd0 dd1
                                  go_wp2
                                  go_meet
                                  exact ⟨_, rfl, Lib.hid rfl, T.out⟩
                                | false =>
                                  go_upto_region 16 with fail
                                  have hbase := Lib.hid (St.new wr)
                                  refine RW.begin (Z := []) (S := (fun W => Below wr.heap.size wr W)) (by kernel_rfl) ?_ hbase.out ?_
                                  · exact ⟨by kernel_rfl, zis_nil, by decide, by decide, nol_nil, (fun _ _ h => h.bel)⟩
                                  intro hzk
                                  refine RW.t (i := 0) (v := .bool false) (some 63) at0 (hy := fun _ _ => by go_simp) (h := ?_)
                                  refine RW.t (i := 1) (v := .bool false) (some 64) at1 (hy := fun _ _ => by go_simp) (h := ?_)
                                  refine RW.t (i := 2) (v := .pointer (some ⟨fb, 1, none⟩)) (some 65) at2 (hy := fun _ _ => by go_simp) (h := ?_)
                                  refine RW.t (i := 3) (v := .slice (some ⟨b3, o3, none⟩) n c) (some 66) at3 (hy := fun W hS => by (have k0 := bel_cell hS kk1.out; clear hS; go_simp)) (h := ?_)
                                  refine RW.t (i := 4) (v := .int .i64 (j : Nat)) (some 67) at4 (hy := fun _ _ => by go_simp) (h := ?_)
                                  refine RW.t (i := 5) (v := .pointer (some ⟨b3, o3 + j * 3, none⟩)) (some 68) at5 (hy := fun _ _ => by go_simp) (h := ?_)
                                  refine RW.t (i := 6) (v := .pointer (some ⟨b3, o3 + j * 3 + 1, none⟩)) (some 69) at6 (hy := fun _ _ => by go_simp) (h := ?_)
                                  refine RW.t (i := 7) (v := .string y.s) (some 70) at7 (hy := fun W hS => by (have k0 := bel_cell hS a1.out; clear hS; go_simp)) (h := ?_)
                                  refine RW.t (i := 8) (v := .pointer (some ⟨xb, 0, none⟩)) (some 71) at8 (hy := fun _ _ => by go_simp) (h := ?_)
                                  refine RW.t (i := 9) (v := .string f.s) (some 72) at9 (hy := fun W hS => by (have k0 := bel_cell hS dd0.out; clear hS; go_simp)) (h := ?_)
                                  refine RW.t (i := 10) (v := .bool true) (some 73) at10 (hy := fun _ _ => by go_simp) (h := ?_)
                                  refine RW.t (i := 11) (v := .bool true) (some 74) at11 (hy := fun _ _ => by go_simp) (h := ?_)
                                  refine RW.t (i := 12) (v := .pointer (some ⟨fb, 1, none⟩)) (some 75) at12 (hy := fun _ _ => by go_simp) (h := ?_)
                                  refine RW.t (i := 13) (v := .slice (some ⟨b3, o3, none⟩) n c) (some 76) at13 (hy := fun W hS => by (have k0 := bel_cell hS kk1.out; clear hS; go_simp)) (h := ?_)
                                  refine RW.t (i := 14) (v := .int .i64 (j : Nat)) (some 77) at14 (hy := fun _ _ => by go_simp) (h := ?_)
                                  refine RW.t (i := 15) (v := .pointer (some ⟨b3, o3 + j * 3, none⟩)) (some 78) at15 (hy := fun _ _ => by go_simp) (h := ?_)
                                  refine RW.t (i := 16) (v := .pointer (some ⟨b3, o3 + j * 3, none⟩)) (some 79) at16 (hy := fun _ _ => by go_simp) (h := ?_)
                                  refine RW.t (i := 17) (v := .int .i64 y.o) (some 80) at17 (hy := fun W hS => by (have k0 := bel_cell hS a0.out; clear hS; go_simp)) (h := ?_)
                                  refine RW.t (i := 18) (v := .bool true) (some 81) at18 (hy := fun _ _ => by go_simp) (h := ?_)
                                  refine RW.t (i := 19) (v := .bool true) (some 82) at19 (hy := fun _ _ => by go_simp) (h := ?_)
                                  refine RW.t (i := 20) (v := .pointer (some ⟨xb, 1, none⟩)) (some 83) at20 (hy := fun _ _ => by go_simp) (h := ?_)
                                  refine RW.t (i := 21) (v := .int .i64 f.k) (some 84) at21 (hy := fun W hS => by (have k0 := bel_cell hS dd1.out; clear hS; go_simp)) (h := ?_)
                                  refine RW.t (i := 22) (v := .bool false) (some 85) at22 (hy := fun _ _ => by go_simp) (h := ?_)
                                  refine RW.t (i := 23) (v := .bool false) (some 86) at23 (hy := fun _ _ => by go_simp) (h := ?_)
                                  refine RW.t (i := 24) (v := .bool false) (some 87) at24 (hy := fun _ _ => by go_simp) (h := ?_)
                                  refine RW.t (i := 25) (v := .pointer (some ⟨fb, 1, none⟩)) (some 88) at25 (hy := fun _ _ => by go_simp) (h := ?_)
                                  refine RW.t (i := 26) (v := .slice (some ⟨b3, o3, none⟩) n c) (some 89) at26 (hy := fun W hS => by (have k0 := bel_cell hS kk1.out; clear hS; go_simp)) (h := ?_)
                                  refine RW.t (i := 27) (v := .int .i64 (j : Nat)) (some 90) at27 (hy := fun _ _ => by go_simp) (h := ?_)
                                  refine RW.t (i := 28) (v := .pointer (some ⟨b3, o3 + j * 3, none⟩)) (some 91) at28 (hy := fun _ _ => by go_simp) (h := ?_)
                                  refine RW.t (i := 29) (v := .pointer (some ⟨b3, o3 + j * 3, none⟩)) (some 92) at29 (hy := fun _ _ => by go_simp) (h := ?_)
                                  refine RW.t (i := 30) (v := .int .i64 y.o) (some 93) at30 (hy := fun W hS => by (have k0 := bel_cell hS a0.out; clear hS; go_simp)) (h := ?_)
                                  refine RW.t (i := 31) (v := .bool true) (some 94) at31 (hy := fun _ _ => by go_simp) (h := ?_)
                                  refine RW.t (i := 32) (v := .bool true) (some 95) at32 (hy := fun _ _ => by go_simp) (h := ?_)
                                  refine RW.t (i := 33) (v := .pointer (some ⟨xb, 1, none⟩)) (some 96) at33 (hy := fun _ _ => by go_simp) (h := ?_)
                                  refine RW.t (i := 34) (v := .int .i64 f.k) (some 97) at34 (hy := fun W hS => by (have k0 := bel_cell hS dd1.out; clear hS; go_simp)) (h := ?_)
                                  refine RW.t (i := 35) (v := .pointer (some ⟨fb, 1, none⟩)) (some 98) at35 (hy := fun _ _ => by go_simp) (h := ?_)
                                  refine RW.t (i := 36) (v := .slice (some ⟨b3, o3, none⟩) n c) (some 99) at36 (hy := fun W hS => by (have k0 := bel_cell hS kk1.out; clear hS; go_simp)) (h := ?_)
                                  refine RW.t (i := 37) (v := .int .i64 (j : Nat)) (some 100) at37 (hy := fun _ _ => by go_simp) (h := ?_)
                                  refine RW.t (i := 38) (v := .pointer (some ⟨b3, o3 + j * 3, none⟩)) (some 101) at38 (hy := fun _ _ => by go_simp) (h := ?_)
                                  refine RW.t (i := 39) (v := .pointer (some ⟨b3, o3 + j * 3 + 2, none⟩)) (some 102) at39 (hy := fun _ _ => by go_simp) (h := ?_)
                                  refine RW.t (i := 40) (v := .int .i64 y.k) (some 103) at40 (hy := fun W hS => by (have k0 := bel_cell hS a2.out; clear hS; go_simp)) (h := ?_)
                                  refine RW.t (i := 41) (v := .bool false) (some 104) at41 (hy := fun _ _ => by go_simp) (h := ?_)
                                  refine RW.t (i := 42) (v := .bool false) (some 105) at42 (hy := fun _ _ => by go_simp) (h := ?_)
                                  refine RW.t (i := 43) (v := .bool false) (some 106) at43 (hy := fun _ _ => by go_simp) (h := ?_)
                                  refine RW.t (i := 44) (v := .bool false) (some 107) at44 (hy := fun _ _ => by go_simp) (h := ?_)
                                  refine RW.t (i := 45) (v := .bool false) (some 108) at45 (hy := fun _ _ => by go_simp) (h := ?_)
                                  refine RW.t (i := 46) (v := .bool false) (some 8) (at_succ at45) (hy := fun _ _ => by go_simp) (h := ?_)
                                  refine RW.tail hzk.out (by kernel_rfl) ?_
                                  intro gs' w7 hgs' hS Sb
                                  obtain rfl := len0 hgs'
                                  simp only [mark, fill, Act.put, List.setIfInBounds_toArray, List.set_cons_zero, List.set_cons_succ]
                                  refine Wk.done (by kernel_rfl) ?_
                                  have T := Lib.hid (Bp2.out.trans (hS.mono Bp2.out.size))
                                  clear Sb hgs' hzk hbase hS kk1 kk1o a0 a1 a2 dd0 dd1
                                  go_wp2
                                  go_meet
                                  exact ⟨_, rfl, Lib.hid rfl, T.out⟩
                              | false =>
                                go_upto_region 16 with fail
                                have hbase := Lib.hid (St.new wr)
                                refine RW.begin (Z := []) (S := (fun W => Below wr.heap.size wr W)) (by kernel_rfl) ?_ hbase.out ?_
                                · exact ⟨by kernel_rfl, zis_nil, by decide, by decide, nol_nil, (fun _ _ h => h.bel)⟩
                                intro hzk
                                refine RW.t (i := 0) (v := .bool false) (some 63) at0 (hy := fun _ _ => by go_simp) (h := ?_)
                                refine RW.t (i := 1) (v := .bool false) (some 64) at1 (hy := fun _ _ => by go_simp) (h := ?_)
                                refine RW.t (i := 2) (v := .pointer (some ⟨fb, 1, none⟩)) (some 65) at2 (hy := fun _ _ => by go_simp) (h := ?_)
                                refine RW.t (i := 3) (v := .slice (some ⟨b3, o3, none⟩) n c) (some 66) at3 (hy := fun W hS => by (have k0 := bel_cell hS kk1.out; clear hS; go_simp)) (h := ?_)
                                refine RW.t (i := 4) (v := .int .i64 (j : Nat)) (some 67) at4 (hy := fun _ _ => by go_simp) (h := ?_)
                                refine RW.t (i := 5) (v := .pointer (some ⟨b3, o3 + j * 3, none⟩)) (some 68) at5 (hy := fun _ _ => by go_simp) (h := ?_)
                                refine RW.t (i := 6) (v := .pointer (some ⟨b3, o3 + j * 3 + 1, none⟩)) (some 69) at6 (hy := fun _ _ => by go_simp) (h := ?_)
                                refine RW.t (i := 7) (v := .string y.s) (some 70) at7 (hy := fun W hS => by (have k0 := bel_cell hS a1.out; clear hS; go_simp)) (h := ?_)
                                refine RW.t (i := 8) (v := .pointer (some ⟨xb, 0, none⟩)) (some 71) at8 (hy := fun _ _ => by go_simp) (h := ?_)
                                refine RW.t (i := 9) (v := .string f.s) (some 72) at9 (hy := fun W hS => by (have k0 := bel_cell hS dd0.out; clear hS; go_simp)) (h := ?_)
                                refine RW.t (i := 10) (v := .bool true) (some 73) at10 (hy := fun _ _ => by go_simp) (h := ?_)
                                refine RW.t (i := 11) (v := .bool true) (some 74) at11 (hy := fun _ _ => by go_simp) (h := ?_)
                                refine RW.t (i := 12) (v := .pointer (some ⟨fb, 1, none⟩)) (some 75) at12 (hy := fun _ _ => by go_simp) (h := ?_)
                                refine RW.t (i := 13) (v := .slice (some ⟨b3, o3, none⟩) n c) (some 76) at13 (hy := fun W hS => by (have k0 := bel_cell hS kk1.out; clear hS; go_simp)) (h := ?_)
                                refine RW.t (i := 14) (v := .int .i64 (j : Nat)) (some 77) at14 (hy := fun _ _ => by go_simp) (h := ?_)
                                refine RW.t (i := 15) (v := .pointer (some ⟨b3, o3 + j * 3, none⟩)) (some 78) at15 (hy := fun _ _ => by go_simp) (h := ?_)
                                refine RW.t (i := 16) (v := .pointer (some ⟨b3, o3 + j * 3, none⟩)) (some 79) at16 (hy := fun _ _ => by go_simp) (h := ?_)
                                refine RW.t (i := 17) (v := .int .i64 y.o) (some 80) at17 (hy := fun W hS => by (have k0 := bel_cell hS a0.out; clear hS; go_simp)) (h := ?_)
                                refine RW.t (i := 18) (v := .bool true) (some 81) at18 (hy := fun _ _ => by go_simp) (h := ?_)
                                refine RW.t (i := 19) (v := .bool true) (some 82) at19 (hy := fun _ _ => by go_simp) (h := ?_)
                                refine RW.t (i := 20) (v := .pointer (some ⟨xb, 1, none⟩)) (some 83) at20 (hy := fun _ _ => by go_simp) (h := ?_)
                                refine RW.t (i := 21) (v := .int .i64 f.k) (some 84) at21 (hy := fun W hS => by (have k0 := bel_cell hS dd1.out; clear hS; go_simp)) (h := ?_)
                                refine RW.t (i := 22) (v := .bool false) (some 85) at22 (hy := fun _ _ => by go_simp) (h := ?_)
                                refine RW.t (i := 23) (v := .bool false) (some 86) at23 (hy := fun _ _ => by go_simp) (h := ?_)
                                refine RW.t (i := 24) (v := .bool false) (some 87) at24 (hy := fun _ _ => by go_simp) (h := ?_)
                                refine RW.t (i := 25) (v := .pointer (some ⟨fb, 1, none⟩)) (some 88) at25 (hy := fun _ _ => by go_simp) (h := ?_)
                                refine RW.t (i := 26) (v := .slice (some ⟨b3, o3, none⟩) n c) (some 89) at26 (hy := fun W hS => by (have k0 := bel_cell hS kk1.out; clear hS; go_simp)) (h := ?_)
                                refine RW.t (i := 27) (v := .int .i64 (j : Nat)) (some 90) at27 (hy := fun _ _ => by go_simp) (h := ?_)
                                refine RW.t (i := 28) (v := .pointer (some ⟨b3, o3 + j * 3, none⟩)) (some 91) at28 (hy := fun _ _ => by go_simp) (h := ?_)
                                refine RW.t (i := 29) (v := .pointer (some ⟨b3, o3 + j * 3, none⟩)) (some 92) at29 (hy := fun _ _ => by go_simp) (h := ?_)
                                refine RW.t (i := 30) (v := .int .i64 y.o) (some 93) at30 (hy := fun W hS => by (have k0 := bel_cell hS a0.out; clear hS; go_simp)) (h := ?_)
                                refine RW.t (i := 31) (v := .bool false) (some 94) at31 (hy := fun _ _ => by go_simp) (h := ?_)
                                refine RW.t (i := 32) (v := .bool false) (some 95) at32 (hy := fun _ _ => by go_simp) (h := ?_)
                                refine RW.u (i := 33) (some 96) at33 (h := ?_)
                                refine RW.u (i := 34) (some 97) at34 (h := ?_)
                                refine RW.u (i := 35) (some 98) at35 (h := ?_)
                                refine RW.u (i := 36) (some 99) at36 (h := ?_)
                                refine RW.u (i := 37) (some 100) at37 (h := ?_)
                                refine RW.u (i := 38) (some 101) at38 (h := ?_)
                                refine RW.u (i := 39) (some 102) at39 (h := ?_)
                                refine RW.u (i := 40) (some 103) at40 (h := ?_)
                                refine RW.u (i := 41) (some 104) at41 (h := ?_)
                                refine RW.t (i := 42) (v := .bool false) (some 105) at42 (hy := fun _ _ => by go_simp) (h := ?_)
                                refine RW.t (i := 43) (v := .bool false) (some 106) at43 (hy := fun _ _ => by go_simp) (h := ?_)
                                refine RW.t (i := 44) (v := .bool false) (some 107) at44 (hy := fun _ _ => by go_simp) (h := ?_)
                                refine RW.t (i := 45) (v := .bool false) (some 108) at45 (hy := fun _ _ => by go_simp) (h := ?_)
                                refine RW.t (i := 46) (v := .bool false) (some 8) (at_succ at45) (hy := fun _ _ => by go_simp) (h := ?_)
                                refine RW.tail hzk.out (by kernel_rfl) ?_
                                intro gs' w7 hgs' hS Sb
                                obtain rfl := len0 hgs'
                                simp only [mark, fill, Act.put, List.setIfInBounds_toArray, List.set_cons_zero, List.set_cons_succ]
                                refine Wk.done (by kernel_rfl) ?_
                                have T := Lib.hid (Bp2.out.trans (hS.mono Bp2.out.size))
                                clear Sb hgs' hzk hbase hS kk1 kk1o a0 a1 a2 dd0 dd1
                                go_wp2
                                go_meet
                                exact ⟨_, rfl, Lib.hid rfl, T.out⟩
                          | false =>
                            cases q4 with
                            | true =>
                              cases q5 with
                              | true =>
                                go_upto_region 16 with fail
                                have hbase := Lib.hid (St.new wr)
                                refine RW.begin (Z := []) (S := (fun W => Below wr.heap.size wr W)) (by kernel_rfl) ?_ hbase.out ?_
                                · exact ⟨by kernel_rfl, zis_nil, by decide, by decide, nol_nil, (fun _ _ h => h.bel)⟩
                                intro hzk
                                refine RW.t (i := 0) (v := .bool false) (some 63) at0 (hy := fun _ _ => by go_simp) (h := ?_)
                                refine RW.t (i := 1) (v := .bool false) (some 64) at1 (hy := fun _ _ => by go_simp) (h := ?_)
                                refine RW.t (i := 2) (v := .pointer (some ⟨fb, 1, none⟩)) (some 65) at2 (hy := fun _ _ => by go_simp) (h := ?_)
                                refine RW.t (i := 3) (v := .slice (some ⟨b3, o3, none⟩) n c) (some 66) at3 (hy := fun W hS => by (have k0 := bel_cell hS kk1.out; clear hS; go_simp)) (h := ?_)
                                refine RW.t (i := 4) (v := .int .i64 (j : Nat)) (some 67) at4 (hy := fun _ _ => by go_simp) (h := ?_)
                                refine RW.t (i := 5) (v := .pointer (some ⟨b3, o3 + j * 3, none⟩)) (some 68) at5 (hy := fun _ _ => by go_simp) (h := ?_)
                                refine RW.t (i := 6) (v := .pointer (some ⟨b3, o3 + j * 3 + 1, none⟩)) (some 69) at6 (hy := fun _ _ => by go_simp) (h := ?_)
                                refine RW.t (i := 7) (v := .string y.s) (some 70) at7 (hy := fun W hS => by (have k0 := bel_cell hS a1.out; clear hS; go_simp)) (h := ?_)
                                refine RW.t (i := 8) (v := .pointer (some ⟨xb, 0, none⟩)) (some 71) at8 (hy := fun _ _ => by go_simp) (h := ?_)
                                refine RW.t (i := 9) (v := .string f.s) (some 72) at9 (hy := fun W hS => by (have k0 := bel_cell hS dd0.out; clear hS; go_simp)) (h := ?_)
                                refine RW.t (i := 10) (v := .bool true) (some 73) at10 (hy := fun _ _ => by go_simp) (h := ?_)
                                refine RW.t (i := 11) (v := .bool true) (some 74) at11 (hy := fun _ _ => by go_simp) (h := ?_)
                                refine RW.t (i := 12) (v := .pointer (some ⟨fb, 1, none⟩)) (some 75) at12 (hy := fun _ _ => by go_simp) (h := ?_)
                                refine RW.t (i := 13) (v := .slice (some ⟨b3, o3, none⟩) n c) (some 76) at13 (hy := fun W hS => by (have k0 := bel_cell hS kk1.out; clear hS; go_simp)) (h := ?_)
                                refine RW.t (i := 14) (v := .int .i64 (j : Nat)) (some 77) at14 (hy := fun _ _ => by go_simp) (h := ?_)
                                refine RW.t (i := 15) (v := .pointer (some ⟨b3, o3 + j * 3, none⟩)) (some 78) at15 (hy := fun _ _ => by go_simp) (h := ?_)
                                refine RW.t (i := 16) (v := .pointer (some ⟨b3, o3 + j * 3, none⟩)) (some 79) at16 (hy := fun _ _ => by go_simp) (h := ?_)
                                refine RW.t (i := 17) (v := .int .i64 y.o) (some 80) at17 (hy := fun W hS => by (have k0 := bel_cell hS a0.out; clear hS; go_simp)) (h := ?_)
                                refine RW.t (i := 18) (v := .bool false) (some 81) at18 (hy := fun _ _ => by go_simp) (h := ?_)
                                refine RW.t (i := 19) (v := .bool false) (some 82) at19 (hy := fun _ _ => by go_simp) (h := ?_)
                                refine RW.u (i := 20) (some 83) at20 (h := ?_)
                                refine RW.u (i := 21) (some 84) at21 (h := ?_)
                                refine RW.u (i := 22) (some 85) at22 (h := ?_)
                                refine RW.t (i := 23) (v := .bool false) (some 86) at23 (hy := fun _ _ => by go_simp) (h := ?_)
                                refine RW.t (i := 24) (v := .bool false) (some 87) at24 (hy := fun _ _ => by go_simp) (h := ?_)
                                refine RW.t (i := 25) (v := .pointer (some ⟨fb, 1, none⟩)) (some 88) at25 (hy := fun _ _ => by go_simp) (h := ?_)
                                refine RW.t (i := 26) (v := .slice (some ⟨b3, o3, none⟩) n c) (some 89) at26 (hy := fun W hS => by (have k0 := bel_cell hS kk1.out; clear hS; go_simp)) (h := ?_)
                                refine RW.t (i := 27) (v := .int .i64 (j : Nat)) (some 90) at27 (hy := fun _ _ => by go_simp) (h := ?_)
                                refine RW.t (i := 28) (v := .pointer (some ⟨b3, o3 + j * 3, none⟩)) (some 91) at28 (hy := fun _ _ => by go_simp) (h := ?_)
                                refine RW.t (i := 29) (v := .pointer (some ⟨b3, o3 + j * 3, none⟩)) (some 92) at29 (hy := fun _ _ => by go_simp) (h := ?_)
                                refine RW.t (i := 30) (v := .int .i64 y.o) (some 93) at30 (hy := fun W hS => by (have k0 := bel_cell hS a0.out; clear hS; go_simp)) (h := ?_)
                                refine RW.t (i := 31) (v := .bool true) (some 94) at31 (hy := fun _ _ => by go_simp) (h := ?_)
                                refine RW.t (i := 32) (v := .bool true) (some 95) at32 (hy := fun _ _ => by go_simp) (h := ?_)
                                refine RW.t (i := 33) (v := .pointer (some ⟨xb, 1, none⟩)) (some 96) at33 (hy := fun _ _ => by go_simp) (h := ?_)
                                refine RW.t (i := 34) (v := .int .i64 f.k) (some 97) at34 (hy := fun W hS => by (have k0 := bel_cell hS dd1.out; clear hS; go_simp)) (h := ?_)
                                refine RW.t (i := 35) (v := .pointer (some ⟨fb, 1, none⟩)) (some 98) at35 (hy := fun _ _ => by go_simp) (h := ?_)
                                refine RW.t (i := 36) (v := .slice (some ⟨b3, o3, none⟩) n c) (some 99) at36 (hy := fun W hS => by (have k0 := bel_cell hS kk1.out; clear hS; go_simp)) (h := ?_)
                                refine RW.t (i := 37) (v := .int .i64 (j : Nat)) (some 100) at37 (hy := fun _ _ => by go_simp) (h := ?_)
                                refine RW.t (i := 38) (v := .pointer (some ⟨b3, o3 + j * 3, none⟩)) (some 101) at38 (hy := fun _ _ => by go_simp) (h := ?_)
                                refine RW.t (i := 39) (v := .pointer (some ⟨b3, o3 + j * 3 + 2, none⟩)) (some 102) at39 (hy := fun _ _ => by go_simp) (h := ?_)
                                refine RW.t (i := 40) (v := .int .i64 y.k) (some 103) at40 (hy := fun W hS => by (have k0 := bel_cell hS a2.out; clear hS; go_simp)) (h := ?_)
                                refine RW.t (i := 41) (v := .bool true) (some 104) at41 (hy := fun _ _ => by go_simp) (h := ?_)
                                refine RW.t (i := 42) (v := .bool true) (some 105) at42 (hy := fun _ _ => by go_simp) (h := ?_)
                                refine RW.t (i := 43) (v := .bool true) (some 106) at43 (hy := fun _ _ => by go_simp) (h := ?_)
                                refine RW.t (i := 44) (v := .bool true) (some 107) at44 (hy := fun _ _ => by go_simp) (h := ?_)
                                refine RW.t (i := 45) (v := .bool true) (some 108) at45 (hy := fun _ _ => by go_simp) (h := ?_)
                                refine RW.t (i := 46) (v := .bool true) (some 8) (at_succ at45) (hy := fun _ _ => by go_simp) (h := ?_)
                                refine RW.tail hzk.out (by kernel_rfl) ?_
                                intro gs' w7 hgs' hS Sb
                                obtain rfl := len0 hgs'
                                simp only [mark, fill, Act.put, List.setIfInBounds_toArray, List.set_cons_zero, List.set_cons_succ]
                                refine Wk.done (by kernel_rfl) ?_
                                have T := Lib.hid (Bp2.out.trans (hS.mono Bp2.out.size))
                                clear Sb hgs' hzk hbase hS kk1 kk1o a0 a1 a2 dd0 dd1
                                go_wp2
                                go_meet
                                exact ⟨_, rfl, Lib.hid rfl, T.out⟩
                              | false =>
                                go_upto_region 16 with fail
                                have hbase := Lib.hid (St.new wr)
                                refine RW.begin (Z := []) (S := (fun W => Below wr.heap.size wr W)) (by kernel_rfl) ?_ hbase.out ?_
                                · exact ⟨by kernel_rfl, zis_nil, by decide, by decide, nol_nil, (fun _ _ h => h.bel)⟩
                                intro hzk
                                refine RW.t (i := 0) (v := .bool false) (some 63) at0 (hy := fun _ _ => by go_simp) (h := ?_)
                                refine RW.t (i := 1) (v := .bool false) (some 64) at1 (hy := fun _ _ => by go_simp) (h := ?_)
                                refine RW.t (i := 2) (v := .pointer (some ⟨fb, 1, none⟩)) (some 65) at2 (hy := fun _ _ => by go_simp) (h := ?_)
                                refine RW.t (i := 3) (v := .slice (some ⟨b3, o3, none⟩) n c) (some 66) at3 (hy := fun W hS => by (have k0 := bel_cell hS kk1.out; clear hS; go_simp)) (h := ?_)
                                refine RW.t (i := 4) (v := .int .i64 (j : Nat)) (some 67) at4 (hy := fun _ _ => by go_simp) (h := ?_)
                                refine RW.t (i := 5) (v := .pointer (some ⟨b3, o3 + j * 3, none⟩)) (some 68) at5 (hy := fun _ _ => by go_simp) (h := ?_)
                                refine RW.t (i := 6) (v := .pointer (some ⟨b3, o3 + j * 3 + 1, none⟩)) (some 69) at6 (hy := fun _ _ => by go_simp) (h := ?_)
                                refine RW.t (i := 7) (v := .string y.s) (some 70) at7 (hy := fun W hS => by (have k0 := bel_cell hS a1.out; clear hS; go_simp)) (h := ?_)
                                refine RW.t (i := 8) (v := .pointer (some ⟨xb, 0, none⟩)) (some 71) at8 (hy := fun _ _ => by go_simp) (h := ?_)
                                refine RW.t (i := 9) (v := .string f.s) (some 72) at9 (hy := fun W hS => by (have k0 := bel_cell hS dd0.out; clear hS; go_simp)) (h := ?_)
                                refine RW.t (i := 10) (v := .bool true) (some 73) at10 (hy := fun _ _ => by go_simp) (h := ?_)
                                refine RW.t (i := 11) (v := .bool true) (some 74) at11 (hy := fun _ _ => by go_simp) (h := ?_)
                                refine RW.t (i := 12) (v := .pointer (some ⟨fb, 1, none⟩)) (some 75) at12 (hy := fun _ _ => by go_simp) (h := ?_)
                                refine RW.t (i := 13) (v := .slice (some ⟨b3, o3, none⟩) n c) (some 76) at13 (hy := fun W hS => by (have k0 := bel_cell hS kk1.out; clear hS; go_simp)) (h := ?_)
                                refine RW.t (i := 14) (v := .int .i64 (j : Nat)) (some 77) at14 (hy := fun _ _ => by go_simp) (h := ?_)
                                refine RW.t (i := 15) (v := .pointer (some ⟨b3, o3 + j * 3, none⟩)) (some 78) at15 (hy := fun _ _ => by go_simp) (h := ?_)
                                refine RW.t (i := 16) (v := .pointer (some ⟨b3, o3 + j * 3, none⟩)) (some 79) at16 (hy := fun _ _ => by go_simp) (h := ?_)
                                refine RW.t (i := 17) (v := .int .i64 y.o) (some 80) at17 (hy := fun W hS => by (have k0 := bel_cell hS a0.out; clear hS; go_simp)) (h := ?_)
                                refine RW.t (i := 18) (v := .bool false) (some 81) at18 (hy := fun _ _ => by go_simp) (h := ?_)
                                refine RW.t (i := 19) (v := .bool false) (some 82) at19 (hy := fun _ _ => by go_simp) (h := ?_)
                                refine RW.u (i := 20) (some 83) at20 (h := ?_)
                                refine RW.u (i := 21) (some 84) at21 (h := ?_)
                                refine RW.u (i := 22) (some 85) at22 (h := ?_)
                                refine RW.t (i := 23) (v := .bool false) (some 86) at23 (hy := fun _ _ => by go_simp) (h := ?_)
                                refine RW.t (i := 24) (v := .bool false) (some 87) at24 (hy := fun _ _ => by go_simp) (h := ?_)
                                refine RW.t (i := 25) (v := .pointer (some ⟨fb, 1, none⟩)) (some 88) at25 (hy := fun _ _ => by go_simp) (h := ?_)
                                refine RW.t (i := 26) (v := .slice (some ⟨b3, o3, none⟩) n c) (some 89) at26 (hy := fun W hS => by (have k0 := bel_cell hS kk1.out; clear hS; go_simp)) (h := ?_)
                                refine RW.t (i := 27) (v := .int .i64 (j : Nat)) (some 90) at27 (hy := fun _ _ => by go_simp) (h := ?_)
                                refine RW.t (i := 28) (v := .pointer (some ⟨b3, o3 + j * 3, none⟩)) (some 91) at28 (hy := fun _ _ => by go_simp) (h := ?_)
                                refine RW.t (i := 29) (v := .pointer (some ⟨b3, o3 + j * 3, none⟩)) (some 92) at29 (hy := fun _ _ => by go_simp) (h := ?_)
                                refine RW.t (i := 30) (v := .int .i64 y.o) (some 93) at30 (hy := fun W hS => by (have k0 := bel_cell hS a0.out; clear hS; go_simp)) (h := ?_)
                                refine RW.t (i := 31) (v := .bool true) (some 94) at31 (hy := fun _ _ => by go_simp) (h := ?_)
                                refine RW.t (i := 32) (v := .bool true) (some 95) at32 (hy := fun _ _ => by go_simp) (h := ?_)
                                refine RW.t (i := 33) (v := .pointer (some ⟨xb, 1, none⟩)) (some 96) at33 (hy := fun _ _ => by go_simp) (h := ?_)
                                refine RW.t (i := 34) (v := .int .i64 f.k) (some 97) at34 (hy := fun W hS => by (have k0 := bel_cell hS dd1.out; clear hS; go_simp)) (h := ?_)
                                refine RW.t (i := 35) (v := .pointer (some ⟨fb, 1, none⟩)) (some 98) at35 (hy := fun _ _ => by go_simp) (h := ?_)
                                refine RW.t (i := 36) (v := .slice (some ⟨b3, o3, none⟩) n c) (some 99) at36 (hy := fun W hS => by (have k0 := bel_cell hS kk1.out; clear hS; go_simp)) (h := ?_)
                                refine RW.t (i := 37) (v := .int .i64 (j : Nat)) (some 100) at37 (hy := fun _ _ => by go_simp) (h := ?_)
                                refine RW.t (i := 38) (v := .pointer (some ⟨b3, o3 + j * 3, none⟩)) (some 101) at38 (hy := fun _ _ => by go_simp) (h := ?_)
                                refine RW.t (i := 39) (v := .pointer (some ⟨b3, o3 + j * 3 + 2, none⟩)) (some 102) at39 (hy := fun _ _ => by go_simp) (h := ?_)
                                refine RW.t (i := 40) (v := .int .i64 y.k) (some 103) at40 (hy := fun W hS => by (have k0 := bel_cell hS a2.out; clear hS; go_simp)) (h := ?_)
                                refine RW.t (i := 41) (v := .bool false) (some 104) at41 (hy := fun _ _ => by go_simp) (h := ?_)
                                refine RW.t (i := 42) (v := .bool false) (some 105) at42 (hy := fun _ _ => by go_simp) (h := ?_)
                                refine RW.t (i := 43) (v := .bool false) (some 106) at43 (hy := fun _ _ => by go_simp) (h := ?_)
                                refine RW.t (i := 44) (v := .bool false) (some 107) at44 (hy := fun _ _ => by go_simp) (h := ?_)
                                refine RW.t (i := 45) (v := .bool false) (some 108) at45 (hy := fun _ _ => by go_simp) (h := ?_)
                                refine RW.t (i := 46) (v := .bool false) (some 8) (at_succ at45) (hy := fun _ _ => by go_simp) (h := ?_)
                                refine RW.tail hzk.out (by kernel_rfl) ?_
                                intro gs' w7 hgs' hS Sb
                                obtain rfl := len0 hgs'
                                simp only [mark, fill, Act.put, List.setIfInBounds_toArray, List.set_cons_zero, List.set_cons_succ]
                                refine Wk.done (by kernel_rfl) ?_
                                have T := Lib.hid (Bp2.out.trans (hS.mono Bp2.out.size))
                                clear Sb hgs' hzk hbase hS kk1 kk1o a0 a1 a2 dd0 dd1
                                go_wp2
                                go_meet
                                exact ⟨_, rfl, Lib.hid rfl, T.out⟩
                            | false =>
                              go_upto_region 16 with fail
                              have hbase := Lib.hid (St.new wr)
                              refine RW.begin (Z := []) (S := (fun W => Below wr.heap.size wr W)) (by kernel_rfl) ?_ hbase.out ?_
                              · exact ⟨by kernel_rfl, zis_nil, by decide, by decide, nol_nil, (fun _ _ h => h.bel)⟩
                              intro hzk
                              refine RW.t (i := 0) (v := .bool false) (some 63) at0 (hy := fun _ _ => by go_simp) (h := ?_)
                              refine RW.t (i := 1) (v := .bool false) (some 64) at1 (hy := fun _ _ => by go_simp) (h := ?_)
                              refine RW.t (i := 2) (v := .pointer (some ⟨fb, 1, none⟩)) (some 65) at2 (hy := fun _ _ => by go_simp) (h := ?_)
                              refine RW.t (i := 3) (v := .slice (some ⟨b3, o3, none⟩) n c) (some 66) at3 (hy := fun W hS => by (have k0 := bel_cell hS kk1.out; clear hS; go_simp)) (h := ?_)
                              refine RW.t (i := 4) (v := .int .i64 (j : Nat)) (some 67) at4 (hy := fun _ _ => by go_simp) (h := ?_)
                              refine RW.t (i := 5) (v := .pointer (some ⟨b3, o3 + j * 3, none⟩)) (some 68) at5 (hy := fun _ _ => by go_simp) (h := ?_)
                              refine RW.t (i := 6) (v := .pointer (some ⟨b3, o3 + j * 3 + 1, none⟩)) (some 69) at6 (hy := fun _ _ => by go_simp) (h := ?_)
                              refine RW.t (i := 7) (v := .string y.s) (some 70) at7 (hy := fun W hS => by (have k0 := bel_cell hS a1.out; clear hS; go_simp)) (h := ?_)
                              refine RW.t (i := 8) (v := .pointer (some ⟨xb, 0, none⟩)) (some 71) at8 (hy := fun _ _ => by go_simp) (h := ?_)
                              refine RW.t (i := 9) (v := .string f.s) (some 72) at9 (hy := fun W hS => by (have k0 := bel_cell hS dd0.out; clear hS; go_simp)) (h := ?_)
                              refine RW.t (i := 10) (v := .bool true) (some 73) at10 (hy := fun _ _ => by go_simp) (h := ?_)
                              refine RW.t (i := 11) (v := .bool true) (some 74) at11 (hy := fun _ _ => by go_simp) (h := ?_)
                              refine RW.t (i := 12) (v := .pointer (some ⟨fb, 1, none⟩)) (some 75) at12 (hy := fun _ _ => by go_simp) (h := ?_)
                              refine RW.t (i := 13) (v := .slice (some ⟨b3, o3, none⟩) n c) (some 76) at13 (hy := fun W hS => by (have k0 := bel_cell hS kk1.out; clear hS; go_simp)) (h := ?_)
                              refine RW.t (i := 14) (v := .int .i64 (j : Nat)) (some 77) at14 (hy := fun _ _ => by go_simp) (h := ?_)
                              refine RW.t (i := 15) (v := .pointer (some ⟨b3, o3 + j * 3, none⟩)) (some 78) at15 (hy := fun _ _ => by go_simp) (h := ?_)
                              refine RW.t (i := 16) (v := .pointer (some ⟨b3, o3 + j * 3, none⟩)) (some 79) at16 (hy := fun _ _ => by go_simp) (h := ?_)
                              refine RW.t (i := 17) (v := .int .i64 y.o) (some 80) at17 (hy := fun W hS => by (have k0 := bel_cell hS a0.out; clear hS; go_simp)) (h := ?_)
                              refine RW.t (i := 18) (v := .bool false) (some 81) at18 (hy := fun _ _ => by go_simp) (h := ?_)
                              refine RW.t (i := 19) (v := .bool false) (some 82) at19 (hy := fun _ _ => by go_simp) (h := ?_)
                              refine RW.u (i := 20) (some 83) at20 (h := ?_)
                              refine RW.u (i := 21) (some 84) at21 (h := ?_)
                              refine RW.u (i := 22) (some 85) at22 (h := ?_)
                              refine RW.t (i := 23) (v := .bool false) (some 86) at23 (hy := fun _ _ => by go_simp) (h := ?_)
                              refine RW.t (i := 24) (v := .bool false) (some 87) at24 (hy := fun _ _ => by go_simp) (h := ?_)
                              refine RW.t (i := 25) (v := .pointer (some ⟨fb, 1, none⟩)) (some 88) at25 (hy := fun _ _ => by go_simp) (h := ?_)
                              refine RW.t (i := 26) (v := .slice (some ⟨b3, o3, none⟩) n c) (some 89) at26 (hy := fun W hS => by (have k0 := bel_cell hS kk1.out; clear hS; go_simp)) (h := ?_)
                              refine RW.t (i := 27) (v := .int .i64 (j : Nat)) (some 90) at27 (hy := fun _ _ => by go_simp) (h := ?_)
                              refine RW.t (i := 28) (v := .pointer (some ⟨b3, o3 + j * 3, none⟩)) (some 91) at28 (hy := fun _ _ => by go_simp) (h := ?_)
                              refine RW.t (i := 29) (v := .pointer (some ⟨b3, o3 + j * 3, none⟩)) (some 92) at29 (hy := fun _ _ => by go_simp) (h := ?_)
                              refine RW.t (i := 30) (v := .int .i64 y.o) (some 93) at30 (hy := fun W hS => by (have k0 := bel_cell hS a0.out; clear hS; go_simp)) (h := ?_)
                              refine RW.t (i := 31) (v := .bool false) (some 94) at31 (hy := fun _ _ => by go_simp) (h := ?_)
                              refine RW.t (i := 32) (v := .bool false) (some 95) at32 (hy := fun _ _ => by go_simp) (h := ?_)
                              refine RW.u (i := 33) (some 96) at33 (h := ?_)
                              refine RW.u (i := 34) (some 97) at34 (h := ?_)
                              refine RW.u (i := 35) (some 98) at35 (h := ?_)
                              refine RW.u (i := 36) (some 99) at36 (h := ?_)
                              refine RW.u (i := 37) (some 100) at37 (h := ?_)
                              refine RW.u (i := 38) (some 101) at38 (h := ?_)
                              refine RW.u (i := 39) (some 102) at39 (h := ?_)
                              refine RW.u (i := 40) (some 103) at40 (h := ?_)
                              refine RW.u (i := 41) (some 104) at41 (h := ?_)
                              refine RW.t (i := 42) (v := .bool false) (some 105) at42 (hy := fun _ _ => by go_simp) (h := ?_)
                              refine RW.t (i := 43) (v := .bool false) (some 106) at43 (hy := fun _ _ => by go_simp) (h := ?_)
                              refine RW.t (i := 44) (v := .bool false) (some 107) at44 (hy := fun _ _ => by go_simp) (h := ?_)
                              refine RW.t (i := 45) (v := .bool false) (some 108) at45 (hy := fun _ _ => by go_simp) (h := ?_)
                              refine RW.t (i := 46) (v := .bool false) (some 8) (at_succ at45) (hy := fun _ _ => by go_simp) (h := ?_)
                              refine RW.tail hzk.out (by kernel_rfl) ?_
                              intro gs' w7 hgs' hS Sb
                              obtain rfl := len0 hgs'
                              simp only [mark, fill, Act.put, List.setIfInBounds_toArray, List.set_cons_zero, List.set_cons_succ]
                              refine Wk.done (by kernel_rfl) ?_
                              have T := Lib.hid (Bp2.out.trans (hS.mono Bp2.out.size))
                              clear Sb hgs' hzk hbase hS kk1 kk1o a0 a1 a2 dd0 dd1
                              go_wp2
                              go_meet
                              exact ⟨_, rfl, Lib.hid rfl, T.out⟩
                        | false =>
                          go_upto_region 16 with fail
                          have hbase := Lib.hid (St.new wr)
                          refine RW.begin (Z := []) (S := (fun W => Below wr.heap.size wr W)) (by kernel_rfl) ?_ hbase.out ?_
                          · exact ⟨by kernel_rfl, zis_nil, by decide, by decide, nol_nil, (fun _ _ h => h.bel)⟩
                          intro hzk
                          refine RW.t (i := 0) (v := .bool false) (some 63) at0 (hy := fun _ _ => by go_simp) (h := ?_)
                          refine RW.t (i := 1) (v := .bool false) (some 64) at1 (hy := fun _ _ => by go_simp) (h := ?_)
                          refine RW.t (i := 2) (v := .pointer (some ⟨fb, 1, none⟩)) (some 65) at2 (hy := fun _ _ => by go_simp) (h := ?_)
                          refine RW.t (i := 3) (v := .slice (some ⟨b3, o3, none⟩) n c) (some 66) at3 (hy := fun W hS => by (have k0 := bel_cell hS kk1.out; clear hS; go_simp)) (h := ?_)
                          refine RW.t (i := 4) (v := .int .i64 (j : Nat)) (some 67) at4 (hy := fun _ _ => by go_simp) (h := ?_)
                          refine RW.t (i := 5) (v := .pointer (some ⟨b3, o3 + j * 3, none⟩)) (some 68) at5 (hy := fun _ _ => by go_simp) (h := ?_)
                          refine RW.t (i := 6) (v := .pointer (some ⟨b3, o3 + j * 3 + 1, none⟩)) (some 69) at6 (hy := fun _ _ => by go_simp) (h := ?_)
                          refine RW.t (i := 7) (v := .string y.s) (some 70) at7 (hy := fun W hS => by (have k0 := bel_cell hS a1.out; clear hS; go_simp)) (h := ?_)
                          refine RW.t (i := 8) (v := .pointer (some ⟨xb, 0, none⟩)) (some 71) at8 (hy := fun _ _ => by go_simp) (h := ?_)
                          refine RW.t (i := 9) (v := .string f.s) (some 72) at9 (hy := fun W hS => by (have k0 := bel_cell hS dd0.out; clear hS; go_simp)) (h := ?_)
                          refine RW.t (i := 10) (v := .bool false) (some 73) at10 (hy := fun _ _ => by go_simp) (h := ?_)
                          refine RW.t (i := 11) (v := .bool false) (some 74) at11 (hy := fun _ _ => by go_simp) (h := ?_)
                          refine RW.u (i := 12) (some 75) at12 (h := ?_)
                          refine RW.u (i := 13) (some 76) at13 (h := ?_)
                          refine RW.u (i := 14) (some 77) at14 (h := ?_)
                          refine RW.u (i := 15) (some 78) at15 (h := ?_)
                          refine RW.u (i := 16) (some 79) at16 (h := ?_)
                          refine RW.u (i := 17) (some 80) at17 (h := ?_)
                          refine RW.u (i := 18) (some 81) at18 (h := ?_)
                          refine RW.u (i := 19) (some 82) at19 (h := ?_)
                          refine RW.u (i := 20) (some 83) at20 (h := ?_)
                          refine RW.u (i := 21) (some 84) at21 (h := ?_)
                          refine RW.u (i := 22) (some 85) at22 (h := ?_)
                          refine RW.u (i := 23) (some 86) at23 (h := ?_)
                          refine RW.u (i := 24) (some 87) at24 (h := ?_)
                          refine RW.u (i := 25) (some 88) at25 (h := ?_)
                          refine RW.u (i := 26) (some 89) at26 (h := ?_)
                          refine RW.u (i := 27) (some 90) at27 (h := ?_)
                          refine RW.u (i := 28) (some 91) at28 (h := ?_)
                          refine RW.u (i := 29) (some 92) at29 (h := ?_)
                          refine RW.u (i := 30) (some 93) at30 (h := ?_)
                          refine RW.u (i := 31) (some 94) at31 (h := ?_)
                          refine RW.u (i := 32) (some 95) at32 (h := ?_)
                          refine RW.u (i := 33) (some 96) at33 (h := ?_)
                          refine RW.u (i := 34) (some 97) at34 (h := ?_)
                          refine RW.u (i := 35) (some 98) at35 (h := ?_)
                          refine RW.u (i := 36) (some 99) at36 (h := ?_)
                          refine RW.u (i := 37) (some 100) at37 (h := ?_)
                          refine RW.u (i := 38) (some 101) at38 (h := ?_)
                          refine RW.u (i := 39) (some 102) at39 (h := ?_)
                          refine RW.u (i := 40) (some 103) at40 (h := ?_)
                          refine RW.u (i := 41) (some 104) at41 (h := ?_)
                          refine RW.u (i := 42) (some 105) at42 (h := ?_)
                          refine RW.u (i := 43) (some 106) at43 (h := ?_)
                          refine RW.t (i := 44) (v := .bool false) (some 107) at44 (hy := fun _ _ => by go_simp) (h := ?_)
                          refine RW.t (i := 45) (v := .bool false) (some 108) at45 (hy := fun _ _ => by go_simp) (h := ?_)
                          refine RW.t (i := 46) (v := .bool false) (some 8) (at_succ at45) (hy := fun _ _ => by go_simp) (h := ?_)
                          refine RW.tail hzk.out (by kernel_rfl) ?_
                          intro gs' w7 hgs' hS Sb
                          obtain rfl := len0 hgs'
                          simp only [mark, fill, Act.put, List.setIfInBounds_toArray, List.set_cons_zero, List.set_cons_succ]
                          refine Wk.done (by kernel_rfl) ?_
                          have T := Lib.hid (Bp2.out.trans (hS.mono Bp2.out.size))
                          clear Sb hgs' hzk hbase hS kk1 kk1o a0 a1 a2 dd0 dd1
                          go_wp2
                          go_meet
                          exact ⟨_, rfl, Lib.hid rfl, T.out⟩
                    case rest =>
                      obtain ⟨fz, rfl, hfz, Bc⟩ := hcut
                      have Bc2 := Lib.hid Bc
                      have hjn := hjn2.out
                      have hnn := h80.out
                      clear kk1 kk1o a0 a1 a2 dd0 dd1 p1 p2 p3 p4 p5 Bc Bp2
                      go_wp2
                      go_roundw
                      case rel => exact ⟨j + 1, by omega, by go_num, by rw [hsn.out, ← hfz.out], Bc2.out⟩
                      case measure => simp [intOf]; omega
                  · obtain rfl : j = n := by omega
                    have hfin : (L.take j).any (hitB f) = true := by rw [List.take_of_length_le (by rw [hlen.out]; exact Nat.le_refl _)]; exact hff.out
                    rw [hfin]
                    have T := Lib.hid (B6o.out.trans (Bp.mono B6o.out.size))
                    have hkt := hkh.out
                    have hx66 := hx6.out
                    clear hfin Bp hjt hjn
                    go_wp2
                    go_roundw
                    case rel => exact ⟨k + 1, by omega, by go_num, T.out⟩
                    case measure => simp [intOf]; omega
              · obtain rfl : k = xn := by omega
                have hn32 := hn32h.out
                have hx66 := hx6.out
                clear hkx hkt Bo
                go_wp2
                go_roundw
                case rel => exact ⟨i + 1, by omega, by go_num, Bw.out⟩
                case measure => simp [intOf]; omega
          · obtain rfl : i = nT := by omega
            have B2 := Lib.hid B
            have hA := Lib.hid (awake_any wr (hO5.out.bel B))
            clear hin hlt B
            go_wp2_with fail
            clear c2
            refine hA.out.mono ?_
            rintro e w7 ⟨rfl, hb⟩
            have B7 := Lib.hid (B2.out.trans (hb.mono B2.out.size))
            clear hb hA B2
            have c0 : w7.cell? ⟨mb, 0, none⟩ = some (.string s) := bel_cell B7.out hm0.out
            have c1 : w7.cell? ⟨mb, 1, none⟩ = some (.bool bz) := bel_cell B7.out hm1.out
            have c2 : w7.cell? ⟨mb, 2, none⟩ = some (.slice A6 i c6) := bel_cell B7.out hm2.out
            have hV := Lib.hid (tvalid_any s bz Ts A6 i c6 w7 (hT.out.bel B7.out) hdd.out (by have := hn32h.out; omega) (fun z hz => by have := (hhh.out z hz).1; omega))
            rw [hmBh.out] at hV
            go_wp2_with fail
            clear c0 c1 c2
            refine hV.out.mono ?_
            rintro e w8 ⟨rfl, hb⟩
            have B8 := Lib.hid (B7.out.trans (hb.mono B7.out.size))
            clear hb hV B7
            have c0 : w8.cell? ⟨mb, 0, none⟩ = some (.string s) := bel_cell B8.out hm0.out
            have d0 : w8.cell? ⟨fb, 0, none⟩ = some (.string s) := bel_cell B8.out hf0.out
            have es : (s.toList == s.toList) = true := by simp
            go_wp2
            go_ret
            exact ⟨by first | rfl | simp, hw0.out.trans (B8.out.mono hw0.out.size)⟩
  · rw [decide_eq_false h80] at hLt
    clear h hO hc h80
    go_enter Tryd.func5, Tryd.ntmps5
    go_upto_region 1 with fail
    rw [← hfb, ← hw1]
    clear hfb hw1
    go_wp2_with fail
    clear k0 k1
    refine hLt.out.mono ?_
    rintro e w2 ⟨rfl, hb⟩
    have S2 := Lib.hid (S1.out.call hb)
    have hA := Lib.hid (awake_any w2 (hO1.out.bel hb))
    clear hb S1 hLt
    go_wp2_with fail
    refine hA.out.mono ?_
    rintro e w3 ⟨rfl, hb⟩
    have S3 := Lib.hid (S2.out.call hb)
    clear hb S2 hA
    go_wp2
    go_ret
    exact ⟨rfl, S3.out.bel⟩
end Go.Proofs.YthbkdjbmkhmlnaaDoor
