/- The reference's SameSet; the law's same. -/
import Derived.Test.YthbkdjbmkhmlnaaDoorTk
namespace Go.Proofs.YthbkdjbmkhmlnaaDoor
open Go.RowKit
set_option linter.unusedVariables false

set_option maxRecDepth 100000 in
set_option maxHeartbeats 4000000 in
theorem sset_any (s t : List Fa) (A : Option Addr) (n c : Nat) (B : Option Addr) (m d : Nat) (w : World) (h : LR faC w A n s) (hB : LR faC w B m t) (hn : n ≤ 100000) (hm : m ≤ 100000) : Calls Tryd.prog 40 #[.slice A n c, .slice B m d] w fun e w' => e = .returned (.bool (sfB s t)) ∧ Below w.heap.size w w' := by
  have e1 := Lib.hid h.len
  have e2 := Lib.hid hB.len
  by_cases hnm : n = m
  · have hfin := Lib.hid (show sfB s t = s.all fun f => decide (f ∈ t) by unfold sfB; rw [decide_eq_true (by rw [e1.out, e2.out]; exact hnm), Bool.true_and])
    subst hnm
    have hb := Lib.hid hn
    have hP := Lib.hid (fun W (hW : Below w.heap.size w W) (f : Fa) => place_any t B n d f W (hB.bel hW) hn)
    replace h := Lib.hid h
    clear hB hn hm
    go_enter Tryd.func40, Tryd.ntmps40
    go_wp2
    go_loopw [5] (fun iv wr => ∃ i : Nat, i ≤ n ∧ iv = .int .i64 i ∧ Below w.heap.size w wr ∧ (s.all fun f => decide (f ∈ t)) = ((s.drop i).all fun f => decide (f ∈ t))) (fun iv _ => n - (intOf iv).toNat)
    case atStart => exact ⟨0, Nat.zero_le _, rfl, Below.refl _ _, rfl⟩
    case round =>
      obtain ⟨i, hin, rfl, T, hall⟩ := hrel
      by_cases hlt : i < n
      · obtain ⟨b, o, f, rfl, hf, hfm, e0, e3⟩ := fa_get (h.out.bel T) hlt
        have hdr := Lib.hid (drop_cons_of hf)
        have hPf := Lib.hid (hP.out wr T f)
        have hih := Lib.hid hlt
        have g1 : (i : Int) < (n : Int) := by omega
        have g2 : (0 : Int) ≤ (i : Int) := by omega
        replace T := Lib.hid T
        replace hall := Lib.hid hall
        clear hlt hin hf hfm
        go_wp2_with fail
        refine hPf.out.mono ?_
        rintro e w2 ⟨⟨z, rfl, hz⟩, bb⟩
        have T2 := Lib.hid (T.out.trans (bb.mono T.out.size))
        clear e0 e3 hPf bb T
        rcases hz with ⟨rfl, hz⟩ | ⟨hz, rfl⟩
        · have hfx := Lib.hid (show sfB s t = false by rw [hfin.out, hall.out, hdr.out, List.all_cons, decide_eq_false hz]; rfl)
          clear hz
          go_wp2
          go_ret
          exact ⟨by rw [hfx.out]; rfl, T2.out⟩
        · have hnx := Lib.hid (show (s.all fun f => decide (f ∈ t)) = ((s.drop (i + 1)).all fun f => decide (f ∈ t)) by rw [hall.out, hdr.out, List.all_cons, decide_eq_true hz, Bool.true_and])
          have g3 : ¬ (((t.idxOf f : Nat) : Int) < 0) := by omega
          clear hz
          have hlt := hih.out
          have hbb := hb.out
          go_wp2
          go_roundw
          case rel => exact ⟨i + 1, by omega, by go_num, T2.out, hnx.out⟩
          case measure => simp [intOf]; omega
      · obtain rfl : i = n := by omega
        have hf2 := Lib.hid (show sfB s t = true by rw [hfin.out, hall, List.drop_eq_nil_of_le (by rw [e1.out]; exact Nat.le_refl _)]; rfl)
        replace T := Lib.hid T
        clear hall hin hlt
        go_wp2
        go_ret
        exact ⟨by rw [hf2.out]; rfl, T.out⟩
  · have hfin := Lib.hid (show sfB s t = false by unfold sfB; rw [decide_eq_false (by rw [e1.out, e2.out]; exact hnm), Bool.false_and])
    have g1 : ((n : Int) != (m : Int)) = true := by rw [bne_iff_ne]; omega
    have hb := Lib.hid (Below.refl w.heap.size w)
    replace hnm := Lib.hid hnm
    clear h hB hn hm
    go_enter Tryd.func40, Tryd.ntmps40
    go_wp2
    go_ret
    exact ⟨by rw [hfin.out]; rfl, hb.out⟩
set_option maxRecDepth 100000 in
set_option maxHeartbeats 4000000 in
theorem same_any (s s' : ByteArray) (bz : Bool) (Ls Ms : List (Sl Fa)) (A : Option Addr) (n c : Nat) (B : Option Addr) (d : Nat) (w : World) (h : LR (slC faC) w A n Ls) (hM : LR (slC faC) w B n Ms) (he : ∀ x ∈ Ls, (Ms.any fun y => sfB x.L y.L) = true) (hn : n ≤ 100000) (hs : ∀ x ∈ Ls, x.L.length ≤ 100000) (hs2 : ∀ x ∈ Ms, x.L.length ≤ 100000) : Calls Tryd.prog 43 #[.agg #[.string s, .bool bz, .slice A n c], .agg #[.string s', .bool bz, .slice B n d]] w fun e w' => e = .returned (.bool true) ∧ Below w.heap.size w w' := by
  have S1 := Lib.hid (((St.new w).allocAt w.heap.size #[.string s, .bool bz, .slice A n c] 29 (noLof rfl) rfl).allocAt (w.heap.size + 1) #[.string s', .bool bz, .slice B n d] 29 (noLof rfl) (by simp))
  obtain ⟨w1, hw1⟩ : ∃ W, W = (w.alloc (.cells #[.string s, .bool bz, .slice A n c] 29)).alloc (.cells #[.string s', .bool bz, .slice B n d] 29) := ⟨_, rfl⟩
  obtain ⟨fb, hfb⟩ : ∃ b, b = w.heap.size := ⟨_, rfl⟩
  rw [← hw1, ← hfb] at S1
  have k1 : w1.cell? ⟨fb, 1, none⟩ = some (.bool bz) := S1.out.cl 1 1 rfl rfl
  have k2 : w1.cell? ⟨fb, 2, none⟩ = some (.slice A n c) := S1.out.cl 1 2 rfl rfl
  have j1 : w1.cell? ⟨fb + 1, 1, none⟩ = some (.bool bz) := S1.out.cl 0 1 rfl rfl
  have j2 : w1.cell? ⟨fb + 1, 2, none⟩ = some (.slice B n d) := S1.out.cl 0 2 rfl rfl
  have k2h := Lib.hid k2
  have j2h := Lib.hid j2
  have h1 := Lib.hid (h.bel S1.out.bel)
  have hM1 := Lib.hid (hM.bel S1.out.bel)
  have hw0 := Lib.hid S1.out.bel
  have hnM := Lib.hid hM.len
  have heh := Lib.hid he
  have hnb := Lib.hid hn
  have hsz := Lib.hid hs
  have hsz2 := Lib.hid hs2
  clear h hM he hn hs hs2 S1
  go_enter Tryd.func43, Tryd.ntmps43
  go_upto_region 1 with fail
  rw [← hw1, ← hfb]
  clear hw1 hfb
  go_wp2
  clear k1 k2 j1 j2
  go_loopw [5] (fun iv wr => ∃ i : Nat, i ≤ n ∧ iv = .int .i64 i ∧ Below w1.heap.size w1 wr) (fun iv _ => n - (intOf iv).toNat)
  case atStart => exact ⟨0, Nat.zero_le _, rfl, Below.refl _ _⟩
  case round =>
    obtain ⟨i, hin, rfl, Bw⟩ := hrel
    have k2 : wr.cell? ⟨fb, 2, none⟩ = some (.slice A n c) := bel_cell Bw k2h.out
    by_cases hlt : i < n
    · obtain ⟨b, o, x, rfl, hx, hxm, e0, hxl, hxc⟩ := fs_get (h1.out.bel Bw) hlt
      have hxn := Lib.hid (hsz.out x hxm)
      have hex := Lib.hid (heh.out x hxm)
      obtain ⟨xn, hxn2⟩ : ∃ k, k = x.L.length := ⟨_, rfl⟩
      rw [← hxn2] at e0 hxl hxn
      have hih := Lib.hid hlt
      have g1 : (i : Int) < (n : Int) := by omega
      have g2 : (0 : Int) ≤ (i : Int) := by omega
      have e0h := Lib.hid e0
      have k2i := Lib.hid k2
      have Bi := Lib.hid Bw
      replace hxl := Lib.hid hxl
      obtain ⟨wo, hwo⟩ : ∃ W, W = wr := ⟨wr, rfl⟩
      subst hwo
      clear hlt hin hx hxm hxc Bw hxn2 e0
      go_wp2
      clear k2 g1
      go_loopw [6, 7] (fun fv kv wr => ∃ k : Nat, k ≤ n ∧ kv = .int .i64 k ∧ fv = .bool ((Ms.take k).any fun y => sfB x.L y.L) ∧ Below wo.heap.size wo wr) (fun _ kv _ => n - (intOf kv).toNat)
      case atStart => exact ⟨0, Nat.zero_le _, rfl, rfl, Below.refl _ _⟩
      case round =>
        obtain ⟨k, hkn, rfl, rfl, Bo⟩ := hrel
        have Bw := Lib.hid (Bi.out.trans (Bo.mono Bi.out.size))
        have j2 : wr.cell? ⟨fb + 1, 2, none⟩ = some (.slice B n d) := bel_cell Bw.out j2h.out
        by_cases hkt : k < n
        · obtain ⟨b', o', y, rfl, hy, hym, y0, hyl, hyc⟩ := fs_get (hM1.out.bel Bw.out) hkt
          have hsn0 : ((Ms.take (k + 1)).any fun y => sfB x.L y.L) = (((Ms.take k).any fun y => sfB x.L y.L) || sfB x.L y.L) := by rw [take_snoc_of hy, List.any_append, List.any_cons, List.any_nil, Bool.or_false]
          obtain ⟨yn, hyn2⟩ : ∃ k, k = y.L.length := ⟨_, rfl⟩
          have hyn := hsz2.out y hym
          rw [← hyn2] at y0 hyl hyn
          have hSS := Lib.hid (fun W (hW : Below wr.heap.size wr W) => sset_any x.L y.L x.A xn x.c y.A yn y.c W ((hxl.out.bel Bo).bel hW) (hyl.bel hW) hxn.out hyn)
          obtain ⟨fd, hfd⟩ : ∃ q, q = (Ms.take k).any fun y => sfB x.L y.L := ⟨_, rfl⟩
          obtain ⟨q, hq⟩ : ∃ q, q = sfB x.L y.L := ⟨_, rfl⟩
          rw [← hfd, ← hq] at hsn0
          rw [← hq] at hSS
          rw [← hfd]
          have hsn := Lib.hid hsn0
          have hkh := Lib.hid hkt
          have hih2 := hih.out
          have g1 : (i : Int) < (n : Int) := by omega
          have g3 : (k : Int) < (n : Int) := by omega
          have g4 : (0 : Int) ≤ (k : Int) := by omega
          have y0h := Lib.hid y0
          have j2i := Lib.hid j2
          have Boh := Lib.hid Bo
          clear hkt hkn hy hym hyc Bo hyn2 y0 hyl hsn0 hfd hq hyn hih2
          go_upto_region 10 with fail
          clear j2
          have hbase := Lib.hid (St.new wr)
          cases fd with
          | true =>
            refine RW.begin (Z := []) (S := (fun W => Below wr.heap.size wr W)) (by kernel_rfl) ?_ hbase.out ?_
            · exact ⟨by kernel_rfl, zis_nil, by decide, by decide, nol_nil, (fun _ _ h => h.bel)⟩
            intro hzk
            refine RW.t (i := 0) (v := .bool true) (some 36) at0 (hy := fun _ _ => by go_simp) (h := ?_)
            refine RW.t (i := 1) (v := .bool true) (some 37) at1 (hy := fun _ _ => by go_simp) (h := ?_)
            refine RW.u (i := 2) (some 38) at2 (h := ?_)
            refine RW.u (i := 3) (some 39) at3 (h := ?_)
            refine RW.u (i := 4) (some 40) at4 (h := ?_)
            refine RW.u (i := 5) (some 41) at5 (h := ?_)
            refine RW.u (i := 6) (some 42) at6 (h := ?_)
            refine RW.u (i := 7) (some 43) at7 (h := ?_)
            refine RW.u (i := 8) (some 44) at8 (h := ?_)
            refine RW.u (i := 9) (some 45) at9 (h := ?_)
            refine RW.u (i := 10) (some 46) at10 (h := ?_)
            refine RW.u (i := 11) (some 47) at11 (h := ?_)
            refine RW.u (i := 12) (some 48) at12 (h := ?_)
            refine RW.t (i := 13) (v := .bool true) (some 49) at13 (hy := fun _ _ => by go_simp) (h := ?_)
            refine RW.t (i := 14) (v := .bool true) (some 6) at14 (hy := fun _ _ => by go_simp) (h := ?_)
            refine RW.tail hzk.out (by kernel_rfl) ?_
            intro gs' w5 hgs' hS Sb
            obtain rfl := len0 hgs'
            simp only [mark, fill, Act.put, List.setIfInBounds_toArray, List.set_cons_zero, List.set_cons_succ]
            refine Wk.done (by kernel_rfl) ?_
            have T := Lib.hid (Boh.out.trans (hS.mono Boh.out.size))
            have hkt := hkh.out
            have hnn := hnb.out
            clear Sb hgs' hzk hbase hS hSS g1 g3 g4
            try go_simp
            go_wp2
            go_roundw
            case rel => exact ⟨k + 1, by omega, by go_num, by rw [hsn.out]; rfl, T.out⟩
            case measure => simp [intOf]; omega
          | false =>
            refine RW.begin (Z := []) (S := (fun W => Below wr.heap.size wr W)) (by kernel_rfl) ?_ hbase.out ?_
            · exact ⟨by kernel_rfl, zis_nil, by decide, by decide, nol_nil, (fun _ _ h => h.bel)⟩
            intro hzk
            refine RW.t (i := 0) (v := .bool false) (some 36) at0 (hy := fun _ _ => by go_simp) (h := ?_)
            refine RW.t (i := 1) (v := .bool false) (some 37) at1 (hy := fun _ _ => by go_simp) (h := ?_)
            refine RW.t (i := 2) (v := .pointer (some ⟨fb, 2, none⟩)) (some 38) at2 (hy := fun _ _ => by go_simp) (h := ?_)
            refine RW.t (i := 3) (v := .slice (some ⟨b, o, none⟩) n c) (some 39) at3 (hy := fun W hS => by (have k0 := bel_cell hS (bel_cell Boh.out k2i.out); clear hS; go_simp)) (h := ?_)
            refine RW.t (i := 4) (v := .int .i64 (i : Nat)) (some 40) at4 (hy := fun _ _ => by go_simp) (h := ?_)
            refine RW.t (i := 5) (v := .pointer (some ⟨b, o + i, none⟩)) (some 41) at5 (hy := fun _ _ => by go_simp) (h := ?_)
            refine RW.t (i := 6) (v := .slice x.A xn x.c) (some 42) at6 (hy := fun W hS => by (have k0 := bel_cell hS (bel_cell Boh.out e0h.out); clear hS; go_simp)) (h := ?_)
            refine RW.t (i := 7) (v := .pointer (some ⟨fb + 1, 2, none⟩)) (some 43) at7 (hy := fun _ _ => by go_simp) (h := ?_)
            refine RW.t (i := 8) (v := .slice (some ⟨b', o', none⟩) n d) (some 44) at8 (hy := fun W hS => by (have k0 := bel_cell hS j2i.out; clear hS; go_simp)) (h := ?_)
            refine RW.t (i := 9) (v := .int .i64 (k : Nat)) (some 45) at9 (hy := fun _ _ => by go_simp) (h := ?_)
            refine RW.t (i := 10) (v := .pointer (some ⟨b', o' + k, none⟩)) (some 46) at10 (hy := fun _ _ => by go_simp) (h := ?_)
            refine RW.t (i := 11) (v := .slice y.A yn y.c) (some 47) at11 (hy := fun W hS => by (have k0 := bel_cell hS y0h.out; clear hS; go_simp)) (h := ?_)
            refine RW.c (i := 12) (args := #[.slice x.A xn x.c, .slice y.A yn y.c]) (some 48) hzk.out at12 (hx := fun _ => by kernel_rfl) (h := fun W T9 => (hSS.out W T9.bel).mono ?_)
            rintro e w9 ⟨rfl, hB9⟩
            refine ⟨hB9, _, [], rfl, (fun r hr => by cases hr), ?_⟩
            clear hB9
            refine RW.t (i := 13) (v := .bool q) (some 49) at13 (hy := fun _ _ => by cases q <;> kernel_rfl) (h := ?_)
            refine RW.t (i := 14) (v := .bool q) (some 6) at14 (hy := fun _ _ => by go_simp) (h := ?_)
            refine RW.tail hzk.out (by kernel_rfl) ?_
            intro gs' w5 hgs' hS Sb
            obtain rfl := len0 hgs'
            simp only [mark, fill, Act.put, List.setIfInBounds_toArray, List.set_cons_zero, List.set_cons_succ]
            refine Wk.done (by kernel_rfl) ?_
            have T := Lib.hid (Boh.out.trans (hS.mono Boh.out.size))
            have hkt := hkh.out
            have hnn := hnb.out
            clear Sb hgs' hzk hbase hS hSS g1 g3 g4
            try go_simp
            go_wp2
            go_roundw
            case rel => exact ⟨k + 1, by omega, by go_num, by rw [hsn.out]; rfl, T.out⟩
            case measure => simp [intOf]; omega
        · obtain rfl : k = n := by omega
          have hfin : ((Ms.take k).any fun y => sfB x.L y.L) = true := by rw [List.take_of_length_le (by rw [hnM.out]; exact Nat.le_refl _)]; exact hex.out
          rw [hfin]
          have hlt := hih.out
          have hnn := hnb.out
          clear hfin hkt hkn Bo
          go_wp2
          go_roundw
          case rel => exact ⟨i + 1, by omega, by go_num, Bw.out⟩
          case measure => simp [intOf]; omega
    · obtain rfl : i = n := by omega
      have Bi := Lib.hid (hw0.out.trans (Bw.mono hw0.out.size))
      clear hlt hin Bw
      go_wp2
      go_ret
      exact ⟨rfl, Bi.out⟩
end Go.Proofs.YthbkdjbmkhmlnaaDoor
