/- The reference's Same, where both models say the same. -/
import Derived.Test.YthbkdjbmkhmlnaaDoorTi
namespace Go.Proofs.YthbkdjbmkhmlnaaDoor
open Go.RowKit
set_option linter.unusedVariables false

theorem map_at {Ls Ms : List (Sl Fa)} (he : Ls.map (fun x => x.L) = Ms.map (fun x => x.L)) {i : Nat} {x y : Sl Fa} (hx : Ls[i]? = some x) (hy : Ms[i]? = some y) : x.L = y.L := by
  have h1 : (Ls.map (fun x => x.L))[i]? = some x.L := by rw [List.getElem?_map, hx]; rfl
  have h2 : (Ms.map (fun x => x.L))[i]? = some y.L := by rw [List.getElem?_map, hy]; rfl
  rw [he, h2] at h1
  injection h1 with h1
  exact h1.symm
set_option maxRecDepth 100000 in
set_option maxHeartbeats 4000000 in
theorem rsame_yes (s : ByteArray) (bz : Bool) (Ls Ms : List (Sl Fa)) (A : Option Addr) (n c : Nat) (B : Option Addr) (m d : Nat) (w : World) (h : LR (slC faC) w A n Ls) (hM : LR (slC faC) w B m Ms) (he : Ls.map (fun x => x.L) = Ms.map (fun x => x.L)) (hn : n ≤ 100000) (hs : ∀ x ∈ Ls, x.L.length ≤ 100000) : Calls Tryd.prog 13 #[.agg #[.string s, .bool bz, .slice A n c], .agg #[.string s, .bool bz, .slice B m d]] w fun e w' => e = .returned (.bool true) ∧ Below w.heap.size w w' := by
  have hnm : n = m := by have := congrArg List.length he; rw [List.length_map, List.length_map, h.len, hM.len] at this; exact this
  subst hnm
  have S1 := Lib.hid (((St.new w).allocAt w.heap.size #[.string s, .bool bz, .slice A n c] 29 (noLof rfl) rfl).allocAt (w.heap.size + 1) #[.string s, .bool bz, .slice B n d] 29 (noLof rfl) (by simp))
  obtain ⟨w1, hw1⟩ : ∃ W, W = (w.alloc (.cells #[.string s, .bool bz, .slice A n c] 29)).alloc (.cells #[.string s, .bool bz, .slice B n d] 29) := ⟨_, rfl⟩
  obtain ⟨fb, hfb⟩ : ∃ b, b = w.heap.size := ⟨_, rfl⟩
  rw [← hw1, ← hfb] at S1
  have k0 : w1.cell? ⟨fb, 0, none⟩ = some (.string s) := S1.out.cl 1 0 rfl rfl
  have k1 : w1.cell? ⟨fb, 1, none⟩ = some (.bool bz) := S1.out.cl 1 1 rfl rfl
  have k2 : w1.cell? ⟨fb, 2, none⟩ = some (.slice A n c) := S1.out.cl 1 2 rfl rfl
  have j0 : w1.cell? ⟨fb + 1, 0, none⟩ = some (.string s) := S1.out.cl 0 0 rfl rfl
  have j1 : w1.cell? ⟨fb + 1, 1, none⟩ = some (.bool bz) := S1.out.cl 0 1 rfl rfl
  have j2 : w1.cell? ⟨fb + 1, 2, none⟩ = some (.slice B n d) := S1.out.cl 0 2 rfl rfl
  have k2h := Lib.hid k2
  have j2h := Lib.hid j2
  have es : (s.toList == s.toList) = true := by simp
  have h1 := Lib.hid (h.bel S1.out.bel)
  have hM1 := Lib.hid (hM.bel S1.out.bel)
  have hw0 := Lib.hid S1.out.bel
  have heh := Lib.hid he
  have hnb := Lib.hid hn
  have hsz := Lib.hid hs
  clear h hM he hn hs S1
  go_enter Tryd.func13, Tryd.ntmps13
  go_upto_region 1 with fail
  rw [← hw1, ← hfb]
  clear hw1 hfb
  go_wp2
  clear k0 k1 k2 j0 j1 j2 es
  go_loopw [5] (fun iv wr => ∃ i : Nat, i ≤ n ∧ iv = .int .i64 i ∧ Below w1.heap.size w1 wr) (fun iv _ => n - (intOf iv).toNat)
  case atStart => exact ⟨0, Nat.zero_le _, rfl, Below.refl _ _⟩
  case round =>
    obtain ⟨i, hin, rfl, Bw⟩ := hrel
    have k2 : wr.cell? ⟨fb, 2, none⟩ = some (.slice A n c) := bel_cell Bw k2h.out
    have j2 : wr.cell? ⟨fb + 1, 2, none⟩ = some (.slice B n d) := bel_cell Bw j2h.out
    by_cases hlt : i < n
    · obtain ⟨b, o, x, rfl, hx, hxm, e0, hxl, hxc⟩ := fs_get (h1.out.bel Bw) hlt
      obtain ⟨b', o', y, rfl, hy, hym, y0, hyl, hyc⟩ := fs_get (hM1.out.bel Bw) hlt
      have hxy := map_at heh.out hx hy
      have hxn := Lib.hid (hsz.out x hxm)
      rw [← hxy] at y0 hyl
      obtain ⟨xn, hxn2⟩ : ∃ k, k = x.L.length := ⟨_, rfl⟩
      rw [← hxn2] at e0 y0 hxl hyl hxn
      have hih := Lib.hid hlt
      have g1 : (i : Int) < (n : Int) := by omega
      have g2 : (0 : Int) ≤ (i : Int) := by omega
      have e0h := Lib.hid e0
      have y0h := Lib.hid y0
      have k2i := Lib.hid k2
      have j2i := Lib.hid j2
      have Bi := Lib.hid Bw
      replace hxl := Lib.hid hxl
      replace hyl := Lib.hid hyl
      obtain ⟨wo, hwo⟩ : ∃ W, W = wr := ⟨wr, rfl⟩
      subst hwo
      clear hlt hin hx hy hxm hym hxc hyc Bw hxy hxn2 e0 y0 j2
      go_upto_region 6 with fail
      clear k2
      refine Wl.start (fun V => Below wo.heap.size wo V) [] (by kernel_rfl) ?_
      have hS : Below wo.heap.size wo wo.drew := (Below.refl _ wo).drew
      generalize wo.drew = w7 at *
      refine Wl.t (i := 0) (v := .pointer (some ⟨fb, 2, none⟩)) (some 35) at0 (hy := fun _ _ => by go_simp) (hS := hS) (h := ?_)
      refine Wl.t (i := 1) (v := .slice (some ⟨b, o, none⟩) n c) (some 36) at1 (hy := fun V h => by (have k0 := bel_cell h k2i.out; clear h; go_simp)) (hS := hS) (h := ?_)
      refine Wl.t (i := 2) (v := .int .i64 (i : Nat)) (some 37) at2 (hy := fun _ _ => by go_simp) (hS := hS) (h := ?_)
      refine Wl.t (i := 3) (v := .pointer (some ⟨b, o + i, none⟩)) (some 38) at3 (hy := fun _ _ => by go_simp) (hS := hS) (h := ?_)
      refine Wl.t (i := 4) (v := .slice x.A xn x.c) (some 39) at4 (hy := fun V h => by (have k0 := bel_cell h e0h.out; clear h; go_simp)) (hS := hS) (h := ?_)
      refine Wl.t (i := 5) (v := .int .i64 (xn : Nat)) (some 40) at5 (hy := fun _ _ => by go_simp) (hS := hS) (h := ?_)
      refine Wl.t (i := 6) (v := .pointer (some ⟨fb + 1, 2, none⟩)) (some 41) at6 (hy := fun _ _ => by go_simp) (hS := hS) (h := ?_)
      refine Wl.t (i := 7) (v := .slice (some ⟨b', o', none⟩) n d) (some 42) at7 (hy := fun V h => by (have k0 := bel_cell h j2i.out; clear h; go_simp)) (hS := hS) (h := ?_)
      refine Wl.t (i := 8) (v := .int .i64 (i : Nat)) (some 43) at8 (hy := fun _ _ => by go_simp) (hS := hS) (h := ?_)
      refine Wl.t (i := 9) (v := .pointer (some ⟨b', o' + i, none⟩)) (some 44) at9 (hy := fun _ _ => by go_simp) (hS := hS) (h := ?_)
      refine Wl.t (i := 10) (v := .slice y.A xn y.c) (some 45) at10 (hy := fun V h => by (have k0 := bel_cell h y0h.out; clear h; go_simp)) (hS := hS) (h := ?_)
      refine Wl.t (i := 11) (v := .int .i64 (xn : Nat)) (some 46) at11 (hy := fun _ _ => by go_simp) (hS := hS) (h := ?_)
      refine Wl.t (i := 12) (v := .bool false) (some 47) at12 (hy := fun _ _ => by go_simp) (hS := hS) (h := ?_)
      try simp only [Act.put, List.setIfInBounds_toArray, List.set_cons_zero, List.set_cons_succ]
      refine Wl.done (by kernel_rfl) ?_
      have h7 := Lib.hid hS
      clear hS
      have k2 : w7.cell? ⟨fb, 2, none⟩ = some (.slice (some ⟨b, o, none⟩) n c) := bel_cell h7.out k2i.out
      have e0 : w7.cell? ⟨b, o + i, none⟩ = some (.slice x.A xn x.c) := bel_cell h7.out e0h.out
      try go_simp
      go_wp2
      clear k2 e0
      go_loopw [6] (fun kv wr => ∃ k : Nat, k ≤ xn ∧ kv = .int .i64 k ∧ Below wo.heap.size wo wr) (fun kv _ => xn - (intOf kv).toNat)
      case atStart => exact ⟨0, Nat.zero_le _, rfl, h7.out⟩
      case round =>
        obtain ⟨k, hkx, rfl, Bo⟩ := hrel
        have k2 : wr.cell? ⟨fb, 2, none⟩ = some (.slice (some ⟨b, o, none⟩) n c) := bel_cell Bo k2i.out
        have e0 : wr.cell? ⟨b, o + i, none⟩ = some (.slice x.A xn x.c) := bel_cell Bo e0h.out
        have hlt := hih.out
        by_cases hkt : k < xn
        · obtain ⟨b2, o2, f, hfA, hf, hfm, q0, q1⟩ := fa_get (hxl.out.bel Bo) hkt
          obtain ⟨b3, o3, f', hfA', hf', _, r0, r1⟩ := fa_get (hyl.out.bel Bo) hkt
          rw [hf] at hf'
          injection hf' with hf'
          subst hf'
          obtain ⟨xA, hxA⟩ : ∃ a, a = x.A := ⟨_, rfl⟩
          obtain ⟨yA, hyA⟩ : ∃ a, a = y.A := ⟨_, rfl⟩
          rw [← hxA] at hfA e0
          rw [← hyA] at hfA'
          subst hfA hfA'
          have k1 : (k : Int) < (xn : Int) := by omega
          have k3 : (0 : Int) ≤ (k : Int) := by omega
          have hkh := Lib.hid hkt
          have hq := eqf f f
          have q0h := Lib.hid q0
          have q1h := Lib.hid q1
          have r0h := Lib.hid r0
          have r1h := Lib.hid r1
          have Boh := Lib.hid Bo
          have e0k : Hid (wo.cell? ⟨b, o + i, none⟩ = some (.slice (some ⟨b2, o2, none⟩) xn x.c)) := Lib.hid (by rw [hxA]; exact e0h.out)
          have y0k : Hid (wo.cell? ⟨b', o' + i, none⟩ = some (.slice (some ⟨b3, o3, none⟩) xn y.c)) := Lib.hid (by rw [hyA]; exact y0h.out)
          replace hxA := Lib.hid hxA
          replace hyA := Lib.hid hyA
          clear hkt hkx hf hfm Bo q0 q1 r0 r1
          go_upto_region 11 with fail
          clear k2 e0
          refine Wl.start (fun V => Below wr.heap.size wr V) [] (by kernel_rfl) ?_
          have hS : Below wr.heap.size wr wr.drew := (Below.refl _ wr).drew
          generalize wr.drew = w9 at *
          refine Wl.t (i := 0) (v := .pointer (some ⟨fb, 2, none⟩)) (some 58) at0 (hy := fun _ _ => by go_simp) (hS := hS) (h := ?_)
          refine Wl.t (i := 1) (v := .slice (some ⟨b, o, none⟩) n c) (some 59) at1 (hy := fun V h => by (have k0 := bel_cell h (bel_cell Boh.out k2i.out); clear h; go_simp)) (hS := hS) (h := ?_)
          refine Wl.t (i := 2) (v := .int .i64 (i : Nat)) (some 60) at2 (hy := fun _ _ => by go_simp) (hS := hS) (h := ?_)
          refine Wl.t (i := 3) (v := .pointer (some ⟨b, o + i, none⟩)) (some 61) at3 (hy := fun _ _ => by go_simp) (hS := hS) (h := ?_)
          refine Wl.t (i := 4) (v := .slice (some ⟨b2, o2, none⟩) xn x.c) (some 62) at4 (hy := fun V h => by (have k0 := bel_cell h (bel_cell Boh.out e0k.out); clear h; go_simp)) (hS := hS) (h := ?_)
          refine Wl.t (i := 5) (v := .int .i64 (k : Nat)) (some 63) at5 (hy := fun _ _ => by go_simp) (hS := hS) (h := ?_)
          refine Wl.t (i := 6) (v := .pointer (some ⟨b2, o2 + k * 2, none⟩)) (some 64) at6 (hy := fun _ _ => by go_simp) (hS := hS) (h := ?_)
          refine Wl.t (i := 7) (v := .agg #[.string f.s, .int .i64 f.k]) (some 65) at7 (hy := fun V h => by (have k0 := bel_cell h q0h.out; have k1 := bel_cell h q1h.out; clear h; go_simp)) (hS := hS) (h := ?_)
          refine Wl.t (i := 8) (v := .pointer (some ⟨fb + 1, 2, none⟩)) (some 66) at8 (hy := fun _ _ => by go_simp) (hS := hS) (h := ?_)
          refine Wl.t (i := 9) (v := .slice (some ⟨b', o', none⟩) n d) (some 67) at9 (hy := fun V h => by (have k0 := bel_cell h (bel_cell Boh.out j2i.out); clear h; go_simp)) (hS := hS) (h := ?_)
          refine Wl.t (i := 10) (v := .int .i64 (i : Nat)) (some 68) at10 (hy := fun _ _ => by go_simp) (hS := hS) (h := ?_)
          refine Wl.t (i := 11) (v := .pointer (some ⟨b', o' + i, none⟩)) (some 69) at11 (hy := fun _ _ => by go_simp) (hS := hS) (h := ?_)
          refine Wl.t (i := 12) (v := .slice (some ⟨b3, o3, none⟩) xn y.c) (some 70) at12 (hy := fun V h => by (have k0 := bel_cell h (bel_cell Boh.out y0k.out); clear h; go_simp)) (hS := hS) (h := ?_)
          refine Wl.t (i := 13) (v := .int .i64 (k : Nat)) (some 71) at13 (hy := fun _ _ => by go_simp) (hS := hS) (h := ?_)
          refine Wl.t (i := 14) (v := .pointer (some ⟨b3, o3 + k * 2, none⟩)) (some 72) at14 (hy := fun _ _ => by go_simp) (hS := hS) (h := ?_)
          refine Wl.t (i := 15) (v := .agg #[.string f.s, .int .i64 f.k]) (some 73) at15 (hy := fun V h => by (have k0 := bel_cell h r0h.out; have k1 := bel_cell h r1h.out; clear h; go_simp)) (hS := hS) (h := ?_)
          refine Wl.t (i := 16) (v := .bool false) (some 74) at16 (hy := fun _ _ => by go_simp) (hS := hS) (h := ?_)
          try simp only [Act.put, List.setIfInBounds_toArray, List.set_cons_zero, List.set_cons_succ]
          refine Wl.done (by kernel_rfl) ?_
          have T := Lib.hid (Boh.out.trans (hS.mono Boh.out.size))
          have hkt := hkh.out
          have hxx := hxn.out
          clear hS hq k1 k3
          try go_simp
          go_wp2
          go_roundw
          case rel => exact ⟨k + 1, by omega, by go_num, T.out⟩
          case measure => simp [intOf]; omega
        · obtain rfl : k = xn := by omega
          have T := Lib.hid (Bi.out.trans (Bo.mono Bi.out.size))
          have hnn := hnb.out
          clear hkt hkx Bo
          go_wp2
          go_roundw
          case rel => exact ⟨i + 1, by omega, by go_num, T.out⟩
          case measure => simp [intOf]; omega
    · obtain rfl : i = n := by omega
      have Bi := Lib.hid (hw0.out.trans (Bw.mono hw0.out.size))
      clear hlt hin Bw
      go_wp2
      go_ret
      exact ⟨rfl, Bi.out⟩
end Go.Proofs.YthbkdjbmkhmlnaaDoor
