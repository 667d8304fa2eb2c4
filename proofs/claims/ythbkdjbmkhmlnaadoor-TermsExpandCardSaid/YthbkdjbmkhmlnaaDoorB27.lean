/- The reference's Valid. -/
import Derived.Test.YthbkdjbmkhmlnaaDoorB26
namespace Go.Proofs.YthbkdjbmkhmlnaaDoor
open Go.RowKit
set_option linter.unusedVariables false

set_option maxRecDepth 100000 in
set_option maxHeartbeats 4000000 in
theorem sameSet_any (s t : List Fa) (A : Option Addr) (n c : Nat) (B : Option Addr) (m d : Nat) (w : World) (h : LR faC w A n s) (hB : LR faC w B m t) (hn : n ≤ 100000) (hm : m ≤ 100000) : Calls Tryd.prog 40 #[.slice A n c, .slice B m d] w fun e w' => e = .returned (.bool (sfB s t)) ∧ Below w.heap.size w w' := by
  have e1 := Lib.hid h.len
  have e2 := Lib.hid hB.len
  by_cases hnm : n = m
  · have hfin := Lib.hid (show sfB s t = s.all fun f => decide (f ∈ t) by unfold sfB; rw [decide_eq_true (by rw [e1.out, e2.out]; exact hnm), Bool.true_and])
    subst hnm
    have hb := Lib.hid hn
    have hP := Lib.hid (fun W (hW : Below w.heap.size w W) (f : Fa) => place_any t B n d f W (hB.bel hW) hn)
    replace h := Lib.hid h
    clear hB hn hm
    go_enter Tryd.func40, Tryd.ntmps40
    go_wp2
    go_loopw [5] (fun iv wr => ∃ i : Nat, i ≤ n ∧ iv = .int .i64 i ∧ Below w.heap.size w wr ∧ (s.all fun f => decide (f ∈ t)) = ((s.drop i).all fun f => decide (f ∈ t))) (fun iv _ => n - (intOf iv).toNat)
    case atStart => exact ⟨0, Nat.zero_le _, rfl, Below.refl _ _, rfl⟩
    case round =>
      obtain ⟨i, hin, rfl, T, hall⟩ := hrel
      by_cases hlt : i < n
      · obtain ⟨b, o, f, rfl, hf, hfm, e0, e3⟩ := fa_get (h.out.bel T) hlt
        have hdr := Lib.hid (drop_cons_of hf)
        have hPf := Lib.hid (hP.out wr T f)
        have hih := Lib.hid hlt
        have g1 : (i : Int) < (n : Int) := by omega
        have g2 : (0 : Int) ≤ (i : Int) := by omega
        replace T := Lib.hid T
        replace hall := Lib.hid hall
        clear hlt hin hf hfm
        go_wp2_with fail
        refine hPf.out.mono ?_
        rintro e w2 ⟨⟨z, rfl, hz⟩, bb⟩
        have T2 := Lib.hid (T.out.trans (bb.mono T.out.size))
        clear e0 e3 hPf bb T
        rcases hz with ⟨rfl, hz⟩ | ⟨hz, rfl⟩
        · have hfx := Lib.hid (show sfB s t = false by rw [hfin.out, hall.out, hdr.out, List.all_cons, decide_eq_false hz]; rfl)
          clear hz
          go_wp2
          go_ret
          exact ⟨by rw [hfx.out]; rfl, T2.out⟩
        · have hnx := Lib.hid (show (s.all fun f => decide (f ∈ t)) = ((s.drop (i + 1)).all fun f => decide (f ∈ t)) by rw [hall.out, hdr.out, List.all_cons, decide_eq_true hz, Bool.true_and])
          have g3 : ¬ (((t.idxOf f : Nat) : Int) < 0) := by omega
          clear hz
          have hlt := hih.out
          have hbb := hb.out
          go_wp2
          go_roundw
          case rel => exact ⟨i + 1, by omega, by go_num, T2.out, hnx.out⟩
          case measure => simp [intOf]; omega
      · obtain rfl : i = n := by omega
        have hf2 := Lib.hid (show sfB s t = true by rw [hfin.out, hall, List.drop_eq_nil_of_le (by rw [e1.out]; exact Nat.le_refl _)]; rfl)
        replace T := Lib.hid T
        clear hall hin hlt
        go_wp2
        go_ret
        exact ⟨by rw [hf2.out]; rfl, T.out⟩
  · have hfin := Lib.hid (show sfB s t = false by unfold sfB; rw [decide_eq_false (by rw [e1.out, e2.out]; exact hnm), Bool.false_and])
    have g1 : ((n : Int) != (m : Int)) = true := by rw [bne_iff_ne]; omega
    have hb := Lib.hid (Below.refl w.heap.size w)
    replace hnm := Lib.hid hnm
    clear h hB hn hm
    go_enter Tryd.func40, Tryd.ntmps40
    go_wp2
    go_ret
    exact ⟨by rw [hfin.out]; rfl, hb.out⟩
set_option maxRecDepth 100000 in
set_option maxHeartbeats 4000000 in
theorem rtvalid_any (s : ByteArray) (bz : Bool) (Ls : List (Sl Fa)) (A : Option Addr) (n c : Nat) (w : World) (h : LR (slC faC) w A n Ls) (hc : n ≤ c) (hn : n ≤ 100000) (hs : ∀ x ∈ Ls, x.L.length ≤ 100000) : Calls Tryd.prog 15 #[.agg #[.string s, .bool bz, .slice A n c]] w fun e w' => e = .returned (.bool (modB s (Ls.map fun x => x.L))) ∧ Below w.heap.size w w' := by
  have hlen := Lib.hid h.len
  have S1 := Lib.hid ((St.new w).alloc #[.string s, .bool bz, .slice A n c] 29 (noLof rfl))
  obtain ⟨bx, hbx⟩ : ∃ b, b = w.heap.size := ⟨_, rfl⟩
  obtain ⟨w1, hw1⟩ : ∃ W, W = w.alloc (.cells #[.string s, .bool bz, .slice A n c] 29) := ⟨_, rfl⟩
  rw [← hbx, ← hw1] at S1
  have hNm := Lib.hid (fun W => rName_any s W)
  have b0 : w1.cell? ⟨bx, 0, none⟩ = some (.string s) := S1.out.cl 0 0 rfl rfl
  have b2 : w1.cell? ⟨bx, 2, none⟩ = some (.slice A n c) := S1.out.cl 0 2 rfl rfl
  have hbl := Lib.hid (S1.out.lt 0 rfl)
  have hm : (Ls.map fun x => x.L).length = n := by rw [List.length_map]; exact hlen.out
  obtain ⟨bn, hbn⟩ : ∃ z, z = nameB s := ⟨_, rfl⟩
  rw [← hbn] at hNm
  cases bn with
  | false =>
    have hfin := Lib.hid (show false = modB s (Ls.map fun x => x.L) by unfold modB; rw [← hbn]; rfl)
    have hB := Lib.hid S1.out.bel
    clear h hc hn hs hbn hm S1
    go_enter Tryd.func15, Tryd.ntmps15
    go_wp2_with fail
    rw [← hbx, ← hw1]
    refine (hNm.out w1).mono ?_
    rintro e w2 ⟨rfl, rfl⟩
    clear hw1 hbx
    go_wp2
    go_ret
    exact ⟨by rw [← hfin.out]; rfl, hB.out⟩
  | true =>
    by_cases h32 : 32 < n
    · have hfin := Lib.hid (show false = modB s (Ls.map fun x => x.L) by unfold modB; rw [hm, decide_eq_false (show ¬ n ≤ 32 by omega), Bool.and_false]; rfl)
      have hB := Lib.hid S1.out.bel
      have g1 : (32 : Int) < (n : Int) := by omega
      clear h hc hn hs hbn hm S1 h32
      go_enter Tryd.func15, Tryd.ntmps15
      go_wp2_with fail
      rw [← hbx, ← hw1]
      refine (hNm.out w1).mono ?_
      rintro e w2 ⟨rfl, rfl⟩
      clear hw1 hbx
      go_wp2
      go_ret
      exact ⟨by rw [← hfin.out]; rfl, hB.out⟩
    · have hfin := Lib.hid (show modB s (Ls.map fun x => x.L) = modG [] (Ls.map fun x => x.L) by unfold modB; rw [hm, ← hbn, decide_eq_true (show n ≤ 32 by omega)]; rfl)
      have g1 : ¬ (32 : Int) < (n : Int) := by omega
      have hn5 := Lib.hid (show n ≤ 32 by omega)
      have h1 := Lib.hid (h.bel S1.out.bel)
      have hcc := Lib.hid hc
      have hsz := Lib.hid hs
      have hb2 : Hid (w1.cell? ⟨bx, 2, none⟩ = some (.slice A n c)) := Lib.hid b2
      have hw0 := Lib.hid S1.out.bel
      clear h hc hn hs hbn hm S1 h32
      go_enter Tryd.func15, Tryd.ntmps15
      go_wp2_with fail
      rw [← hbx, ← hw1]
      refine (hNm.out w1).mono ?_
      rintro e w1 ⟨rfl, rfl⟩
      clear hw1 hbx hNm
      go_wp2
      clear g1 b0 b2
      go_loopw [3] (fun iv wr => ∃ i : Nat, i ≤ n ∧ iv = .int .i64 i ∧ Below w1.heap.size w1 wr ∧ modB s (Ls.map fun x => x.L) = modG ((Ls.take i).map fun x => x.L) ((Ls.drop i).map fun x => x.L)) (fun iv _ => n - (intOf iv).toNat)
      case atStart => exact ⟨0, Nat.zero_le _, rfl, Below.refl _ _, hfin.out⟩
      case round =>
        obtain ⟨i, hin, rfl, B, hall⟩ := hrel
        have c2 : wr.cell? ⟨bx, 2, none⟩ = some (.slice A n c) := (World.cell?_of_block (B.block _ hbl.out)).trans hb2.out
        by_cases hlt : i < n
        · obtain ⟨b, o, x, rfl, hx, hxm, e0, hxl, hxc⟩ := fs_get (h1.out.bel B) hlt
          have hdr := drop_cons_of hx
          have htk := take_snoc_of hx
          have hxn := Lib.hid (hsz.out x hxm)
          have hpre := Lib.hid (h1.out.take_ (m := i) (by omega))
          have hih := Lib.hid hlt
          have g1 : (i : Int) < (n : Int) := by omega
          have g2 : (0 : Int) ≤ (i : Int) := by omega
          have hst0 := Lib.hid (show modG ((Ls.take i).map fun s => s.L) ((Ls.drop i).map fun s => s.L) = (trmB x.L && prevOk ((Ls.take i).map fun s => s.L) x.L && !(((Ls.take i).map fun s => s.L).any fun s => sfB s x.L) && modG ((Ls.take (i + 1)).map fun s => s.L) ((Ls.drop (i + 1)).map fun s => s.L)) by rw [hdr, htk, List.map_append]; rfl)
          have hprev : Hid ((i = 0 ∧ prevOk ((Ls.take i).map fun s => s.L) x.L = true) ∨ ∃ (i1 : Nat) (y : Sl Fa), i = i1 + 1 ∧ wr.cell? ⟨b, o + i1, none⟩ = some (.slice y.A y.L.length y.c) ∧ prevOk ((Ls.take i).map fun s => s.L) x.L = decide (y.L.length ≤ x.L.length)) := Lib.hid (by
            rcases Nat.eq_zero_or_pos i with h0 | h0
            · subst h0; exact .inl ⟨rfl, rfl⟩
            · obtain ⟨i1, rfl⟩ : ∃ k, i = k + 1 := ⟨i - 1, by omega⟩
              obtain ⟨b', o', y, hA, hy, _, y0, _, _⟩ := fs_get (h1.out.bel B) (i := i1) (by omega)
              injection hA with hA
              injection hA with a1 a2
              subst a1 a2
              refine .inr ⟨i1, y, rfl, y0, ?_⟩
              rw [List.map_take]
              exact prev_succ (by rw [List.getElem?_map, hy]; rfl) x.L)
          have hxl := Lib.hid hxl
          have hxc := Lib.hid hxc
          replace hall := Lib.hid hall
          have B2 := Lib.hid B
          obtain ⟨xn, hxn2⟩ : ∃ k, k = x.L.length := ⟨_, rfl⟩
          obtain ⟨xc, hxc2⟩ : ∃ k, k = x.c := ⟨_, rfl⟩
          rw [← hxn2, ← hxc2] at e0
          rw [← hxn2] at hxl hxn
          rw [← hxn2, ← hxc2] at hxc
          replace hxn2 := Lib.hid hxn2
          replace hxc2 := Lib.hid hxc2
          have hout := Lib.hid (fun w' (h : Below w1.heap.size w1 w') => hw0.out.trans (h.mono hw0.out.size))
          clear hlt hin hx hxm hdr htk B
          by_cases hx1 : xn < 1
          · have hfx := Lib.hid (show modB s (Ls.map fun x => x.L) = false by rw [hall.out, hst0.out]; unfold trmB; rw [← hxn2.out, decide_eq_false (show ¬ 1 ≤ xn by omega)]; rfl)
            have g3 : (xn : Int) < 1 := by omega
            clear hst0 hprev hx1
            go_wp2
            go_ret
            exact ⟨by rw [hfx.out]; rfl, hout.out _ B2.out⟩
          · by_cases hx6 : 6 < xn
            · have hfx := Lib.hid (show modB s (Ls.map fun x => x.L) = false by rw [hall.out, hst0.out]; unfold trmB; rw [← hxn2.out, decide_eq_false (show ¬ xn ≤ 6 by omega), Bool.and_false]; rfl)
              have g3 : ¬ (xn : Int) < 1 := by omega
              have g4 : (6 : Int) < (xn : Int) := by omega
              clear hst0 hprev hx1 hx6
              go_wp2
              go_ret
              exact ⟨by rw [hfx.out]; rfl, hout.out _ B2.out⟩
            · have htm : trmB x.L = trmG [] x.L := by unfold trmB; rw [← hxn2.out, decide_eq_true (show 1 ≤ xn by omega), decide_eq_true (show xn ≤ 6 by omega)]; rfl
              rw [htm] at hst0
              have g3 : ¬ (xn : Int) < 1 := by omega
              have g4 : ¬ (6 : Int) < (xn : Int) := by omega
              have hx6h := Lib.hid (show xn ≤ 6 by omega)
              clear hx1 hx6 htm
              have hwo : ∃ W, W = wr := ⟨wr, rfl⟩
              obtain ⟨wo, hwo⟩ := hwo
              subst hwo
              obtain ⟨xA, hxA⟩ : ∃ a, a = x.A := ⟨_, rfl⟩
              rw [← hxA] at hxl e0
              replace hxA := Lib.hid hxA
              rcases hprev.out with ⟨hi0, hpv⟩ | ⟨i1, y, hi1, y0, hpv⟩
              · rw [hpv] at hst0
                have hst := Lib.hid (show modG ((Ls.take i).map fun s => s.L) ((Ls.drop i).map fun s => s.L) = (trmG [] x.L && !(((Ls.take i).map fun s => s.L).any fun s => sfB s x.L) && modG ((Ls.take (i + 1)).map fun s => s.L) ((Ls.drop (i + 1)).map fun s => s.L)) by rw [hst0.out]; simp)
                have g5 : ¬ (0 : Int) < (i : Int) := by omega
                replace hi0 := Lib.hid hi0
                clear hprev hpv hst0
                go_wp2
                clear e0 c2 g3 g4 g5
                go_loopw [5] (fun kv wr => ∃ k : Nat, k ≤ xn ∧ kv = .int .i64 k ∧ Below wo.heap.size wo wr ∧ trmG [] x.L = trmG (x.L.take k) (x.L.drop k)) (fun kv _ => xn - (intOf kv).toNat)
                case atStart => exact ⟨0, Nat.zero_le _, rfl, Below.refl _ _, rfl⟩
                case round =>
                  obtain ⟨k, hkx, rfl, Bo, hal2⟩ := hrel
                  by_cases hkt : k < xn
                  · obtain ⟨b2, o2, f, rfl, hf, hfm, q0, q1⟩ := fa_get (hxl.out.bel Bo) hkt
                    have hdr := drop_cons_of hf
                    have htk := take_snoc_of hf
                    have hlr := (hxl.out.bel Bo).take_ (m := k) (by omega)
                    have d0 : Hid (wr.cell? ⟨b2, o2 + k * 2, none⟩ = some (.string f.s)) := Lib.hid q0
                    have d1 : Hid (wr.cell? ⟨b2, o2 + k * 2 + 1, none⟩ = some (.int .i64 f.k)) := Lib.hid q1
                    have hCt := Lib.hid (fun W (hW : Below wr.heap.size wr W) => place_any (x.L.take k) (some ⟨b2, o2, none⟩) k xc f W (hlr.bel hW) (by have := hx6h.out; omega))
                    have hNm := Lib.hid (fun W => rName_any f.s W)
                    have hkh := Lib.hid hkt
                    have k1 : (k : Int) < (xn : Int) := by omega
                    have k2 : (0 : Int) ≤ (k : Int) := by omega
                    have k3 : (k : Int) ≤ (xc : Int) := by have := hxc.out; omega
                    have hst2 := Lib.hid (show trmG (x.L.take k) (x.L.drop k) = (facB f && !decide (f ∈ x.L.take k) && trmG (x.L.take (k + 1)) (x.L.drop (k + 1))) by rw [hdr, htk]; rfl)
                    have B3 := Lib.hid Bo
                    replace hal2 := Lib.hid hal2
                    clear hlr hkt hkx hf hfm hdr htk Bo q0 q1
                    go_upto_region 12 with fail
                    obtain ⟨bn, hbn⟩ : ∃ z, z = nameB f.s := ⟨_, rfl⟩
                    obtain ⟨bv, hbv⟩ : ∃ z, z = decide (f ∈ x.L.take k) := ⟨_, rfl⟩
                    rw [← hbn] at hNm
                    rw [← hbv] at hst2
                    replace hbv := Lib.hid hbv
                    cases bn with
                    | false =>
                      have hfx := Lib.hid (show trmG (x.L.take k) (x.L.drop k) = false by rw [hst2.out]; unfold facB; rw [← hbn]; rfl)
                      clear hst2 hbn
                      have hbase := Lib.hid (St.new wr)
                      refine RW.begin (Z := []) (S := (fun W => Below wr.heap.size wr W)) (by kernel_rfl) ?_ hbase.out ?_
                      · exact ⟨by kernel_rfl, zis_nil, by decide, by decide, nol_nil, (fun _ _ h => h.bel)⟩
                      intro hzk
                      refine RW.t (i := 0) (v := .slice (some ⟨b2, o2, none⟩) xn xc) (some 59) at0 (hy := fun _ _ => by kernel_rfl) (h := ?_)
                      refine RW.t (i := 1) (v := .int .i64 k) (some 60) at1 (hy := fun _ _ => by kernel_rfl) (h := ?_)
                      refine RW.t (i := 2) (v := .pointer (some ⟨b2, o2 + k * 2, none⟩)) (some 61) at2 (hy := fun _ _ => by go_simp) (h := ?_)
                      refine RW.t (i := 3) (v := .pointer (some ⟨b2, o2 + k * 2, none⟩)) (some 62) at3 (hy := fun _ _ => by go_simp) (h := ?_)
                      refine RW.t (i := 4) (v := .string f.s) (some 63) at4 (hy := fun W hS => by (have k0 := bel_cell hS d0.out; clear hS; go_simp)) (h := ?_)
                      refine RW.c (i := 5) (args := #[.string f.s]) (some 64) hzk.out at5 (hx := fun _ => by kernel_rfl) (h := fun W T9 => (hNm.out W).mono ?_)
                      rintro e w9 ⟨rfl, rfl⟩
                      refine ⟨Below.refl _ _, _, [], rfl, (fun r hr => by cases hr), ?_⟩
                      refine RW.t (i := 6) (v := .bool true) (some 65) at6 (hy := fun _ _ => by go_simp) (h := ?_)
                      refine RW.t (i := 7) (v := .bool true) (some 66) at7 (hy := fun _ _ => by go_simp) (h := ?_)
                      refine RW.u (i := 8) (some 67) at8 (h := ?_)
                      refine RW.u (i := 9) (some 68) at9 (h := ?_)
                      refine RW.u (i := 10) (some 69) at10 (h := ?_)
                      refine RW.u (i := 11) (some 70) at11 (h := ?_)
                      refine RW.u (i := 12) (some 71) at12 (h := ?_)
                      refine RW.u (i := 13) (some 72) at13 (h := ?_)
                      refine RW.t (i := 14) (v := .bool true) (some 73) at14 (hy := fun _ _ => by go_simp) (h := ?_)
                      refine RW.t (i := 15) (v := .bool true) (some 74) at15 (hy := fun _ _ => by go_simp) (h := ?_)
                      refine RW.u (i := 16) (some 75) at16 (h := ?_)
                      refine RW.u (i := 17) (some 76) at17 (h := ?_)
                      refine RW.u (i := 18) (some 77) at18 (h := ?_)
                      refine RW.u (i := 19) (some 78) at19 (h := ?_)
                      refine RW.u (i := 20) (some 79) at20 (h := ?_)
                      refine RW.u (i := 21) (some 80) at21 (h := ?_)
                      refine RW.t (i := 22) (v := .bool true) (some 81) at22 (hy := fun _ _ => by go_simp) (h := ?_)
                      refine RW.t (i := 23) (v := .bool true) (some 82) at23 (hy := fun _ _ => by go_simp) (h := ?_)
                      refine RW.u (i := 24) (some 83) at24 (h := ?_)
                      refine RW.u (i := 25) (some 84) at25 (h := ?_)
                      refine RW.u (i := 26) (some 85) at26 (h := ?_)
                      refine RW.u (i := 27) (some 86) at27 (h := ?_)
                      refine RW.u (i := 28) (some 87) at28 (h := ?_)
                      refine RW.u (i := 29) (some 88) at29 (h := ?_)
                      refine RW.u (i := 30) (some 89) at30 (h := ?_)
                      refine RW.u (i := 31) (some 90) at31 (h := ?_)
                      refine RW.u (i := 32) (some 91) at32 (h := ?_)
                      refine RW.t (i := 33) (v := .bool true) (some 92) at33 (hy := fun _ _ => by go_simp) (h := ?_)
                      refine RW.tail hzk.out (by kernel_rfl) ?_
                      intro gs' w5 hgs' hS Sb
                      obtain rfl := len0 hgs'
                      simp only [mark, fill, Act.put, List.setIfInBounds_toArray, List.set_cons_zero, List.set_cons_succ]
                      refine Wk.done (by kernel_rfl) ?_
                      have T := Lib.hid (B3.out.trans (hS.mono B3.out.size))
                      clear Sb hgs' hzk hbase hS d0 d1 hNm hCt
                      try go_simp
                      go_wp2
                      go_ret
                      exact ⟨by rw [hall.out, hst.out, hal2.out, hfx.out]; rfl, hout.out _ (B2.out.trans (T.out.mono B2.out.size))⟩
                    | true =>
                      by_cases hk1 : f.k < 1
                      · have hfx := Lib.hid (show trmG (x.L.take k) (x.L.drop k) = false by rw [hst2.out]; unfold facB; rw [decide_eq_false (show ¬ 1 ≤ f.k by omega), Bool.and_false]; rfl)
                        clear hst2 hbn
                        have hbase := Lib.hid (St.new wr)
                        refine RW.begin (Z := []) (S := (fun W => Below wr.heap.size wr W)) (by kernel_rfl) ?_ hbase.out ?_
                        · exact ⟨by kernel_rfl, zis_nil, by decide, by decide, nol_nil, (fun _ _ h => h.bel)⟩
                        intro hzk
                        refine RW.t (i := 0) (v := .slice (some ⟨b2, o2, none⟩) xn xc) (some 59) at0 (hy := fun _ _ => by kernel_rfl) (h := ?_)
                        refine RW.t (i := 1) (v := .int .i64 k) (some 60) at1 (hy := fun _ _ => by kernel_rfl) (h := ?_)
                        refine RW.t (i := 2) (v := .pointer (some ⟨b2, o2 + k * 2, none⟩)) (some 61) at2 (hy := fun _ _ => by go_simp) (h := ?_)
                        refine RW.t (i := 3) (v := .pointer (some ⟨b2, o2 + k * 2, none⟩)) (some 62) at3 (hy := fun _ _ => by go_simp) (h := ?_)
                        refine RW.t (i := 4) (v := .string f.s) (some 63) at4 (hy := fun W hS => by (have k0 := bel_cell hS d0.out; clear hS; go_simp)) (h := ?_)
                        refine RW.c (i := 5) (args := #[.string f.s]) (some 64) hzk.out at5 (hx := fun _ => by kernel_rfl) (h := fun W T9 => (hNm.out W).mono ?_)
                        rintro e w9 ⟨rfl, rfl⟩
                        refine ⟨Below.refl _ _, _, [], rfl, (fun r hr => by cases hr), ?_⟩
                        refine RW.t (i := 6) (v := .bool false) (some 65) at6 (hy := fun _ _ => by go_simp) (h := ?_)
                        refine RW.t (i := 7) (v := .bool false) (some 66) at7 (hy := fun _ _ => by go_simp) (h := ?_)
                        refine RW.t (i := 8) (v := .slice (some ⟨b2, o2, none⟩) xn xc) (some 67) at8 (hy := fun _ _ => by kernel_rfl) (h := ?_)
                        refine RW.t (i := 9) (v := .int .i64 k) (some 68) at9 (hy := fun _ _ => by kernel_rfl) (h := ?_)
                        refine RW.t (i := 10) (v := .pointer (some ⟨b2, o2 + k * 2, none⟩)) (some 69) at10 (hy := fun _ _ => by go_simp) (h := ?_)
                        refine RW.t (i := 11) (v := .pointer (some ⟨b2, o2 + k * 2 + 1, none⟩)) (some 70) at11 (hy := fun _ _ => by go_simp) (h := ?_)
                        refine RW.t (i := 12) (v := .int .i64 f.k) (some 71) at12 (hy := fun W hS => by (have k0 := bel_cell hS d1.out; clear hS; go_simp)) (h := ?_)
                        refine RW.t (i := 13) (v := .bool true) (some 72) at13 (hy := fun _ _ => by go_simp) (h := ?_)
                        refine RW.t (i := 14) (v := .bool true) (some 73) at14 (hy := fun _ _ => by go_simp) (h := ?_)
                        refine RW.t (i := 15) (v := .bool true) (some 74) at15 (hy := fun _ _ => by go_simp) (h := ?_)
                        refine RW.u (i := 16) (some 75) at16 (h := ?_)
                        refine RW.u (i := 17) (some 76) at17 (h := ?_)
                        refine RW.u (i := 18) (some 77) at18 (h := ?_)
                        refine RW.u (i := 19) (some 78) at19 (h := ?_)
                        refine RW.u (i := 20) (some 79) at20 (h := ?_)
                        refine RW.u (i := 21) (some 80) at21 (h := ?_)
                        refine RW.t (i := 22) (v := .bool true) (some 81) at22 (hy := fun _ _ => by go_simp) (h := ?_)
                        refine RW.t (i := 23) (v := .bool true) (some 82) at23 (hy := fun _ _ => by go_simp) (h := ?_)
                        refine RW.u (i := 24) (some 83) at24 (h := ?_)
                        refine RW.u (i := 25) (some 84) at25 (h := ?_)
                        refine RW.u (i := 26) (some 85) at26 (h := ?_)
                        refine RW.u (i := 27) (some 86) at27 (h := ?_)
                        refine RW.u (i := 28) (some 87) at28 (h := ?_)
                        refine RW.u (i := 29) (some 88) at29 (h := ?_)
                        refine RW.u (i := 30) (some 89) at30 (h := ?_)
                        refine RW.u (i := 31) (some 90) at31 (h := ?_)
                        refine RW.u (i := 32) (some 91) at32 (h := ?_)
                        refine RW.t (i := 33) (v := .bool true) (some 92) at33 (hy := fun _ _ => by go_simp) (h := ?_)
                        refine RW.tail hzk.out (by kernel_rfl) ?_
                        intro gs' w5 hgs' hS Sb
                        obtain rfl := len0 hgs'
                        simp only [mark, fill, Act.put, List.setIfInBounds_toArray, List.set_cons_zero, List.set_cons_succ]
                        refine Wk.done (by kernel_rfl) ?_
                        have T := Lib.hid (B3.out.trans (hS.mono B3.out.size))
                        clear Sb hgs' hzk hbase hS d0 d1 hNm hCt
                        try go_simp
                        go_wp2
                        go_ret
                        exact ⟨by rw [hall.out, hst.out, hal2.out, hfx.out]; rfl, hout.out _ (B2.out.trans (T.out.mono B2.out.size))⟩
                      · by_cases hk8 : 8 < f.k
                        · have hfx := Lib.hid (show trmG (x.L.take k) (x.L.drop k) = false by rw [hst2.out]; unfold facB; rw [decide_eq_false (show ¬ f.k ≤ 8 by omega), Bool.and_false]; rfl)
                          clear hst2 hbn
                          have hbase := Lib.hid (St.new wr)
                          refine RW.begin (Z := []) (S := (fun W => Below wr.heap.size wr W)) (by kernel_rfl) ?_ hbase.out ?_
                          · exact ⟨by kernel_rfl, zis_nil, by decide, by decide, nol_nil, (fun _ _ h => h.bel)⟩
                          intro hzk
                          refine RW.t (i := 0) (v := .slice (some ⟨b2, o2, none⟩) xn xc) (some 59) at0 (hy := fun _ _ => by kernel_rfl) (h := ?_)
                          refine RW.t (i := 1) (v := .int .i64 k) (some 60) at1 (hy := fun _ _ => by kernel_rfl) (h := ?_)
                          refine RW.t (i := 2) (v := .pointer (some ⟨b2, o2 + k * 2, none⟩)) (some 61) at2 (hy := fun _ _ => by go_simp) (h := ?_)
                          refine RW.t (i := 3) (v := .pointer (some ⟨b2, o2 + k * 2, none⟩)) (some 62) at3 (hy := fun _ _ => by go_simp) (h := ?_)
                          refine RW.t (i := 4) (v := .string f.s) (some 63) at4 (hy := fun W hS => by (have k0 := bel_cell hS d0.out; clear hS; go_simp)) (h := ?_)
                          refine RW.c (i := 5) (args := #[.string f.s]) (some 64) hzk.out at5 (hx := fun _ => by kernel_rfl) (h := fun W T9 => (hNm.out W).mono ?_)
                          rintro e w9 ⟨rfl, rfl⟩
                          refine ⟨Below.refl _ _, _, [], rfl, (fun r hr => by cases hr), ?_⟩
                          refine RW.t (i := 6) (v := .bool false) (some 65) at6 (hy := fun _ _ => by go_simp) (h := ?_)
                          refine RW.t (i := 7) (v := .bool false) (some 66) at7 (hy := fun _ _ => by go_simp) (h := ?_)
                          refine RW.t (i := 8) (v := .slice (some ⟨b2, o2, none⟩) xn xc) (some 67) at8 (hy := fun _ _ => by kernel_rfl) (h := ?_)
                          refine RW.t (i := 9) (v := .int .i64 k) (some 68) at9 (hy := fun _ _ => by kernel_rfl) (h := ?_)
                          refine RW.t (i := 10) (v := .pointer (some ⟨b2, o2 + k * 2, none⟩)) (some 69) at10 (hy := fun _ _ => by go_simp) (h := ?_)
                          refine RW.t (i := 11) (v := .pointer (some ⟨b2, o2 + k * 2 + 1, none⟩)) (some 70) at11 (hy := fun _ _ => by go_simp) (h := ?_)
                          refine RW.t (i := 12) (v := .int .i64 f.k) (some 71) at12 (hy := fun W hS => by (have k0 := bel_cell hS d1.out; clear hS; go_simp)) (h := ?_)
                          refine RW.t (i := 13) (v := .bool false) (some 72) at13 (hy := fun _ _ => by go_simp) (h := ?_)
                          refine RW.t (i := 14) (v := .bool false) (some 73) at14 (hy := fun _ _ => by go_simp) (h := ?_)
                          refine RW.t (i := 15) (v := .bool false) (some 74) at15 (hy := fun _ _ => by go_simp) (h := ?_)
                          refine RW.t (i := 16) (v := .slice (some ⟨b2, o2, none⟩) xn xc) (some 75) at16 (hy := fun _ _ => by kernel_rfl) (h := ?_)
                          refine RW.t (i := 17) (v := .int .i64 k) (some 76) at17 (hy := fun _ _ => by kernel_rfl) (h := ?_)
                          refine RW.t (i := 18) (v := .pointer (some ⟨b2, o2 + k * 2, none⟩)) (some 77) at18 (hy := fun _ _ => by go_simp) (h := ?_)
                          refine RW.t (i := 19) (v := .pointer (some ⟨b2, o2 + k * 2 + 1, none⟩)) (some 78) at19 (hy := fun _ _ => by go_simp) (h := ?_)
                          refine RW.t (i := 20) (v := .int .i64 f.k) (some 79) at20 (hy := fun W hS => by (have k0 := bel_cell hS d1.out; clear hS; go_simp)) (h := ?_)
                          refine RW.t (i := 21) (v := .bool true) (some 80) at21 (hy := fun _ _ => by go_simp) (h := ?_)
                          refine RW.t (i := 22) (v := .bool true) (some 81) at22 (hy := fun _ _ => by go_simp) (h := ?_)
                          refine RW.t (i := 23) (v := .bool true) (some 82) at23 (hy := fun _ _ => by go_simp) (h := ?_)
                          refine RW.u (i := 24) (some 83) at24 (h := ?_)
                          refine RW.u (i := 25) (some 84) at25 (h := ?_)
                          refine RW.u (i := 26) (some 85) at26 (h := ?_)
                          refine RW.u (i := 27) (some 86) at27 (h := ?_)
                          refine RW.u (i := 28) (some 87) at28 (h := ?_)
                          refine RW.u (i := 29) (some 88) at29 (h := ?_)
                          refine RW.u (i := 30) (some 89) at30 (h := ?_)
                          refine RW.u (i := 31) (some 90) at31 (h := ?_)
                          refine RW.u (i := 32) (some 91) at32 (h := ?_)
                          refine RW.t (i := 33) (v := .bool true) (some 92) at33 (hy := fun _ _ => by go_simp) (h := ?_)
                          refine RW.tail hzk.out (by kernel_rfl) ?_
                          intro gs' w5 hgs' hS Sb
                          obtain rfl := len0 hgs'
                          simp only [mark, fill, Act.put, List.setIfInBounds_toArray, List.set_cons_zero, List.set_cons_succ]
                          refine Wk.done (by kernel_rfl) ?_
                          have T := Lib.hid (B3.out.trans (hS.mono B3.out.size))
                          clear Sb hgs' hzk hbase hS d0 d1 hNm hCt
                          try go_simp
                          go_wp2
                          go_ret
                          exact ⟨by rw [hall.out, hst.out, hal2.out, hfx.out]; rfl, hout.out _ (B2.out.trans (T.out.mono B2.out.size))⟩
                        · have hfb : facB f = true := by unfold facB; rw [← hbn, decide_eq_true (show 1 ≤ f.k by omega), decide_eq_true (show f.k ≤ 8 by omega)]; rfl
                          rw [hfb] at hst2
                          clear hbn hfb
                          have hbase := Lib.hid (St.new wr)
                          refine RW.begin (Z := []) (S := (fun W => Below wr.heap.size wr W)) (by kernel_rfl) ?_ hbase.out ?_
                          · exact ⟨by kernel_rfl, zis_nil, by decide, by decide, nol_nil, (fun _ _ h => h.bel)⟩
                          intro hzk
                          refine RW.t (i := 0) (v := .slice (some ⟨b2, o2, none⟩) xn xc) (some 59) at0 (hy := fun _ _ => by kernel_rfl) (h := ?_)
                          refine RW.t (i := 1) (v := .int .i64 k) (some 60) at1 (hy := fun _ _ => by kernel_rfl) (h := ?_)
                          refine RW.t (i := 2) (v := .pointer (some ⟨b2, o2 + k * 2, none⟩)) (some 61) at2 (hy := fun _ _ => by go_simp) (h := ?_)
                          refine RW.t (i := 3) (v := .pointer (some ⟨b2, o2 + k * 2, none⟩)) (some 62) at3 (hy := fun _ _ => by go_simp) (h := ?_)
                          refine RW.t (i := 4) (v := .string f.s) (some 63) at4 (hy := fun W hS => by (have k0 := bel_cell hS d0.out; clear hS; go_simp)) (h := ?_)
                          refine RW.c (i := 5) (args := #[.string f.s]) (some 64) hzk.out at5 (hx := fun _ => by kernel_rfl) (h := fun W T9 => (hNm.out W).mono ?_)
                          rintro e w9 ⟨rfl, rfl⟩
                          refine ⟨Below.refl _ _, _, [], rfl, (fun r hr => by cases hr), ?_⟩
                          refine RW.t (i := 6) (v := .bool false) (some 65) at6 (hy := fun _ _ => by go_simp) (h := ?_)
                          refine RW.t (i := 7) (v := .bool false) (some 66) at7 (hy := fun _ _ => by go_simp) (h := ?_)
                          refine RW.t (i := 8) (v := .slice (some ⟨b2, o2, none⟩) xn xc) (some 67) at8 (hy := fun _ _ => by kernel_rfl) (h := ?_)
                          refine RW.t (i := 9) (v := .int .i64 k) (some 68) at9 (hy := fun _ _ => by kernel_rfl) (h := ?_)
                          refine RW.t (i := 10) (v := .pointer (some ⟨b2, o2 + k * 2, none⟩)) (some 69) at10 (hy := fun _ _ => by go_simp) (h := ?_)
                          refine RW.t (i := 11) (v := .pointer (some ⟨b2, o2 + k * 2 + 1, none⟩)) (some 70) at11 (hy := fun _ _ => by go_simp) (h := ?_)
                          refine RW.t (i := 12) (v := .int .i64 f.k) (some 71) at12 (hy := fun W hS => by (have k0 := bel_cell hS d1.out; clear hS; go_simp)) (h := ?_)
                          refine RW.t (i := 13) (v := .bool false) (some 72) at13 (hy := fun _ _ => by go_simp) (h := ?_)
                          refine RW.t (i := 14) (v := .bool false) (some 73) at14 (hy := fun _ _ => by go_simp) (h := ?_)
                          refine RW.t (i := 15) (v := .bool false) (some 74) at15 (hy := fun _ _ => by go_simp) (h := ?_)
                          refine RW.t (i := 16) (v := .slice (some ⟨b2, o2, none⟩) xn xc) (some 75) at16 (hy := fun _ _ => by kernel_rfl) (h := ?_)
                          refine RW.t (i := 17) (v := .int .i64 k) (some 76) at17 (hy := fun _ _ => by kernel_rfl) (h := ?_)
                          refine RW.t (i := 18) (v := .pointer (some ⟨b2, o2 + k * 2, none⟩)) (some 77) at18 (hy := fun _ _ => by go_simp) (h := ?_)
                          refine RW.t (i := 19) (v := .pointer (some ⟨b2, o2 + k * 2 + 1, none⟩)) (some 78) at19 (hy := fun _ _ => by go_simp) (h := ?_)
                          refine RW.t (i := 20) (v := .int .i64 f.k) (some 79) at20 (hy := fun W hS => by (have k0 := bel_cell hS d1.out; clear hS; go_simp)) (h := ?_)
                          refine RW.t (i := 21) (v := .bool false) (some 80) at21 (hy := fun _ _ => by go_simp) (h := ?_)
                          refine RW.t (i := 22) (v := .bool false) (some 81) at22 (hy := fun _ _ => by go_simp) (h := ?_)
                          refine RW.t (i := 23) (v := .bool false) (some 82) at23 (hy := fun _ _ => by go_simp) (h := ?_)
                          refine RW.t (i := 24) (v := .slice (some ⟨b2, o2, none⟩) xn xc) (some 83) at24 (hy := fun _ _ => by kernel_rfl) (h := ?_)
                          refine RW.t (i := 25) (v := .int .i64 k) (some 84) at25 (hy := fun _ _ => by kernel_rfl) (h := ?_)
                          refine RW.t (i := 26) (v := .slice (some ⟨b2, o2, none⟩) k xc) (some 85) at26 (hy := fun _ _ => by go_simp) (h := ?_)
                          refine RW.t (i := 27) (v := .slice (some ⟨b2, o2, none⟩) xn xc) (some 86) at27 (hy := fun _ _ => by kernel_rfl) (h := ?_)
                          refine RW.t (i := 28) (v := .int .i64 k) (some 87) at28 (hy := fun _ _ => by kernel_rfl) (h := ?_)
                          refine RW.t (i := 29) (v := .pointer (some ⟨b2, o2 + k * 2, none⟩)) (some 88) at29 (hy := fun _ _ => by go_simp) (h := ?_)
                          refine RW.t (i := 30) (v := .agg #[.string f.s, .int .i64 f.k]) (some 89) at30 (hy := fun W hS => by (have k0 := bel_cell hS d0.out; have k1 := bel_cell hS d1.out; clear hS; go_simp)) (h := ?_)
                          refine RW.c (i := 31) (args := #[.slice (some ⟨b2, o2, none⟩) k xc, .agg #[.string f.s, .int .i64 f.k]]) (some 90) hzk.out at31 (hx := fun _ => by kernel_rfl) (h := fun W T9 => (hCt.out W T9.bel).mono ?_)
                          rintro e w9 ⟨⟨z, rfl, hz⟩, hB9⟩
                          refine ⟨hB9, _, [], rfl, (fun r hr => by cases hr), ?_⟩
                          clear hB9
                          have hzd := Lib.hid ((ix_dec hz).trans hbv.out.symm)
                          clear hz
                          refine RW.t (i := 32) (v := .bool bv) (some 91) at32 (hy := fun _ _ => by (have h9 := hzd.out; go_simp; try exact h9)) (h := ?_)
                          refine RW.t (i := 33) (v := .bool bv) (some 92) at33 (hy := fun _ _ => by go_simp) (h := ?_)
                          refine RW.tail hzk.out (by kernel_rfl) ?_
                          intro gs' w5 hgs' hS Sb
                          obtain rfl := len0 hgs'
                          simp only [mark, fill, Act.put, List.setIfInBounds_toArray, List.set_cons_zero, List.set_cons_succ]
                          refine Wk.done (by kernel_rfl) ?_
                          have T := Lib.hid (B3.out.trans (hS.mono B3.out.size))
                          clear Sb hgs' hzk hbase hS d0 d1 hNm hCt
                          try go_simp
                          cases bv with
                          | true =>
                            have hfx := Lib.hid (show trmG (x.L.take k) (x.L.drop k) = false by rw [hst2.out]; rfl)
                            clear hst2
                            go_wp2
                            go_ret
                            exact ⟨by rw [hall.out, hst.out, hal2.out, hfx.out]; rfl, hout.out _ (B2.out.trans (T.out.mono B2.out.size))⟩
                          | false =>
                            have hfx := Lib.hid (show trmG (x.L.take k) (x.L.drop k) = trmG (x.L.take (k + 1)) (x.L.drop (k + 1)) by rw [hst2.out]; rfl)
                            clear hst2
                            have hkt := hkh.out
                            have hbb := hx6h.out
                            go_wp2
                            go_roundw
                            case rel => exact ⟨k + 1, by omega, by go_num, T.out, hal2.out.trans hfx.out⟩
                            case measure => simp [intOf]; omega
                  · obtain rfl : k = xn := by omega
                    have htr := Lib.hid (show trmG [] x.L = true by rw [hal2, List.drop_eq_nil_of_le (by rw [← hxn2.out]; exact Nat.le_refl _)]; rfl)
                    have hst5 := Lib.hid (show modG ((Ls.take i).map fun s => s.L) ((Ls.drop i).map fun s => s.L) = (!(((Ls.take i).map fun s => s.L).any fun s => sfB s x.L) && modG ((Ls.take (i + 1)).map fun s => s.L) ((Ls.drop (i + 1)).map fun s => s.L)) by rw [hst.out, htr.out, Bool.true_and])
                    have B5 := Lib.hid (B2.out.trans (Bo.mono B2.out.size))
                    have hxl5 := Lib.hid (hxl.out.bel Bo)
                    clear hal2 hkt hkx hst htr Bo hxl
                    have hwo : ∃ W, W = wr := ⟨wr, rfl⟩
                    obtain ⟨wp, hwo⟩ := hwo
                    subst hwo
                    go_wp2
                    go_loopw [6] (fun kv wr => ∃ j : Nat, j ≤ i ∧ kv = .int .i64 j ∧ Below wp.heap.size wp wr ∧ (((Ls.take i).map fun s => s.L).any fun s => sfB s x.L) = ((((Ls.take i).map fun s => s.L).drop j).any fun s => sfB s x.L)) (fun kv _ => i - (intOf kv).toNat)
                    case atStart => exact ⟨0, Nat.zero_le _, rfl, Below.refl _ _, rfl⟩
                    case round =>
                      obtain ⟨j, hji, rfl, Bp, han⟩ := hrel
                      by_cases hjt : j < i
                      · exact absurd hjt (by have := hi0.out; omega)
                      · obtain rfl : i = j := by omega
                        have hnx := Lib.hid (show modB s (Ls.map fun x => x.L) = modG ((Ls.take (i + 1)).map fun x => x.L) ((Ls.drop (i + 1)).map fun x => x.L) by
                          rw [hall.out, hst5.out, han, List.drop_eq_nil_of_le (by rw [List.length_map, List.length_take]; exact Nat.min_le_left _ _)]; rfl)
                        have T8 := Lib.hid (B5.out.trans (Bp.mono B5.out.size))
                        clear hji hjt han Bp
                        have hlt := hih.out
                        have hbb := hn5.out
                        go_wp2
                        go_roundw
                        case rel => exact ⟨i + 1, by omega, by go_num, T8.out, hnx.out⟩
                        case measure => simp [intOf]; omega
              · have g5 : (0 : Int) < (i : Int) := by omega
                have g6 : 0 < i := by omega
                have e5 : (i : Int) - 1 = (i1 : Int) := by omega
                have g7 : (i1 : Int) < (n : Int) := by omega
                have wq : IntKind.i64.wrap (i1 : Int) = (i1 : Int) := by rw [IntKind.wrap_i64]; have := hn5.out; have := hih.out; omega
                have g9 : i ≤ 32 := by have := hn5.out; have := hih.out; omega
                replace hi1 := Lib.hid hi1
                rw [hpv] at hst0
                clear hprev hpv
                by_cases hle : xn < y.L.length
                · have hfx := Lib.hid (show modB s (Ls.map fun x => x.L) = false by rw [hall.out, hst0.out, decide_eq_false (show ¬ y.L.length ≤ x.L.length by rw [← hxn2.out]; omega), Bool.and_false]; rfl)
                  have g8 : (xn : Int) < (y.L.length : Int) := by omega
                  replace hle := Lib.hid hle
                  clear hst0
                  go_wp2
                  go_ret
                  exact ⟨by rw [hfx.out]; rfl, hout.out _ B2.out⟩
                · have hst := Lib.hid (show modG ((Ls.take i).map fun s => s.L) ((Ls.drop i).map fun s => s.L) = (trmG [] x.L && !(((Ls.take i).map fun s => s.L).any fun s => sfB s x.L) && modG ((Ls.take (i + 1)).map fun s => s.L) ((Ls.drop (i + 1)).map fun s => s.L)) by rw [hst0.out, decide_eq_true (show y.L.length ≤ x.L.length by rw [← hxn2.out]; omega)]; simp)
                  have g8 : ¬ (xn : Int) < (y.L.length : Int) := by omega
                  replace hle := Lib.hid hle
                  clear hst0
                  go_wp2
                  clear e0 c2 g3 g4 g5
                  go_loopw [5] (fun kv wr => ∃ k : Nat, k ≤ xn ∧ kv = .int .i64 k ∧ Below wo.heap.size wo wr ∧ trmG [] x.L = trmG (x.L.take k) (x.L.drop k)) (fun kv _ => xn - (intOf kv).toNat)
                  case atStart => exact ⟨0, Nat.zero_le _, rfl, Below.refl _ _, rfl⟩
                  case round =>
                    obtain ⟨k, hkx, rfl, Bo, hal2⟩ := hrel
                    by_cases hkt : k < xn
                    · obtain ⟨b2, o2, f, rfl, hf, hfm, q0, q1⟩ := fa_get (hxl.out.bel Bo) hkt
                      have hdr := drop_cons_of hf
                      have htk := take_snoc_of hf
                      have hlr := (hxl.out.bel Bo).take_ (m := k) (by omega)
                      have d0 : Hid (wr.cell? ⟨b2, o2 + k * 2, none⟩ = some (.string f.s)) := Lib.hid q0
                      have d1 : Hid (wr.cell? ⟨b2, o2 + k * 2 + 1, none⟩ = some (.int .i64 f.k)) := Lib.hid q1
                      have hCt := Lib.hid (fun W (hW : Below wr.heap.size wr W) => place_any (x.L.take k) (some ⟨b2, o2, none⟩) k xc f W (hlr.bel hW) (by have := hx6h.out; omega))
                      have hNm := Lib.hid (fun W => rName_any f.s W)
                      have hkh := Lib.hid hkt
                      have k1 : (k : Int) < (xn : Int) := by omega
                      have k2 : (0 : Int) ≤ (k : Int) := by omega
                      have k3 : (k : Int) ≤ (xc : Int) := by have := hxc.out; omega
                      have hst2 := Lib.hid (show trmG (x.L.take k) (x.L.drop k) = (facB f && !decide (f ∈ x.L.take k) && trmG (x.L.take (k + 1)) (x.L.drop (k + 1))) by rw [hdr, htk]; rfl)
                      have B3 := Lib.hid Bo
                      replace hal2 := Lib.hid hal2
                      clear hlr hkt hkx hf hfm hdr htk Bo q0 q1
                      go_upto_region 12 with fail
                      obtain ⟨bn, hbn⟩ : ∃ z, z = nameB f.s := ⟨_, rfl⟩
                      obtain ⟨bv, hbv⟩ : ∃ z, z = decide (f ∈ x.L.take k) := ⟨_, rfl⟩
                      rw [← hbn] at hNm
                      rw [← hbv] at hst2
                      replace hbv := Lib.hid hbv
                      cases bn with
                      | false =>
                        have hfx := Lib.hid (show trmG (x.L.take k) (x.L.drop k) = false by rw [hst2.out]; unfold facB; rw [← hbn]; rfl)
                        clear hst2 hbn
                        have hbase := Lib.hid (St.new wr)
                        refine RW.begin (Z := []) (S := (fun W => Below wr.heap.size wr W)) (by kernel_rfl) ?_ hbase.out ?_
                        · exact ⟨by kernel_rfl, zis_nil, by decide, by decide, nol_nil, (fun _ _ h => h.bel)⟩
                        intro hzk
                        refine RW.t (i := 0) (v := .slice (some ⟨b2, o2, none⟩) xn xc) (some 59) at0 (hy := fun _ _ => by kernel_rfl) (h := ?_)
                        refine RW.t (i := 1) (v := .int .i64 k) (some 60) at1 (hy := fun _ _ => by kernel_rfl) (h := ?_)
                        refine RW.t (i := 2) (v := .pointer (some ⟨b2, o2 + k * 2, none⟩)) (some 61) at2 (hy := fun _ _ => by go_simp) (h := ?_)
                        refine RW.t (i := 3) (v := .pointer (some ⟨b2, o2 + k * 2, none⟩)) (some 62) at3 (hy := fun _ _ => by go_simp) (h := ?_)
                        refine RW.t (i := 4) (v := .string f.s) (some 63) at4 (hy := fun W hS => by (have k0 := bel_cell hS d0.out; clear hS; go_simp)) (h := ?_)
                        refine RW.c (i := 5) (args := #[.string f.s]) (some 64) hzk.out at5 (hx := fun _ => by kernel_rfl) (h := fun W T9 => (hNm.out W).mono ?_)
                        rintro e w9 ⟨rfl, rfl⟩
                        refine ⟨Below.refl _ _, _, [], rfl, (fun r hr => by cases hr), ?_⟩
                        refine RW.t (i := 6) (v := .bool true) (some 65) at6 (hy := fun _ _ => by go_simp) (h := ?_)
                        refine RW.t (i := 7) (v := .bool true) (some 66) at7 (hy := fun _ _ => by go_simp) (h := ?_)
                        refine RW.u (i := 8) (some 67) at8 (h := ?_)
                        refine RW.u (i := 9) (some 68) at9 (h := ?_)
                        refine RW.u (i := 10) (some 69) at10 (h := ?_)
                        refine RW.u (i := 11) (some 70) at11 (h := ?_)
                        refine RW.u (i := 12) (some 71) at12 (h := ?_)
                        refine RW.u (i := 13) (some 72) at13 (h := ?_)
                        refine RW.t (i := 14) (v := .bool true) (some 73) at14 (hy := fun _ _ => by go_simp) (h := ?_)
                        refine RW.t (i := 15) (v := .bool true) (some 74) at15 (hy := fun _ _ => by go_simp) (h := ?_)
                        refine RW.u (i := 16) (some 75) at16 (h := ?_)
                        refine RW.u (i := 17) (some 76) at17 (h := ?_)
                        refine RW.u (i := 18) (some 77) at18 (h := ?_)
                        refine RW.u (i := 19) (some 78) at19 (h := ?_)
                        refine RW.u (i := 20) (some 79) at20 (h := ?_)
                        refine RW.u (i := 21) (some 80) at21 (h := ?_)
                        refine RW.t (i := 22) (v := .bool true) (some 81) at22 (hy := fun _ _ => by go_simp) (h := ?_)
                        refine RW.t (i := 23) (v := .bool true) (some 82) at23 (hy := fun _ _ => by go_simp) (h := ?_)
                        refine RW.u (i := 24) (some 83) at24 (h := ?_)
                        refine RW.u (i := 25) (some 84) at25 (h := ?_)
                        refine RW.u (i := 26) (some 85) at26 (h := ?_)
                        refine RW.u (i := 27) (some 86) at27 (h := ?_)
                        refine RW.u (i := 28) (some 87) at28 (h := ?_)
                        refine RW.u (i := 29) (some 88) at29 (h := ?_)
                        refine RW.u (i := 30) (some 89) at30 (h := ?_)
                        refine RW.u (i := 31) (some 90) at31 (h := ?_)
                        refine RW.u (i := 32) (some 91) at32 (h := ?_)
                        refine RW.t (i := 33) (v := .bool true) (some 92) at33 (hy := fun _ _ => by go_simp) (h := ?_)
                        refine RW.tail hzk.out (by kernel_rfl) ?_
                        intro gs' w5 hgs' hS Sb
                        obtain rfl := len0 hgs'
                        simp only [mark, fill, Act.put, List.setIfInBounds_toArray, List.set_cons_zero, List.set_cons_succ]
                        refine Wk.done (by kernel_rfl) ?_
                        have T := Lib.hid (B3.out.trans (hS.mono B3.out.size))
                        clear Sb hgs' hzk hbase hS d0 d1 hNm hCt
                        try go_simp
                        go_wp2
                        go_ret
                        exact ⟨by rw [hall.out, hst.out, hal2.out, hfx.out]; rfl, hout.out _ (B2.out.trans (T.out.mono B2.out.size))⟩
                      | true =>
                        by_cases hk1 : f.k < 1
                        · have hfx := Lib.hid (show trmG (x.L.take k) (x.L.drop k) = false by rw [hst2.out]; unfold facB; rw [decide_eq_false (show ¬ 1 ≤ f.k by omega), Bool.and_false]; rfl)
                          clear hst2 hbn
                          have hbase := Lib.hid (St.new wr)
                          refine RW.begin (Z := []) (S := (fun W => Below wr.heap.size wr W)) (by kernel_rfl) ?_ hbase.out ?_
                          · exact ⟨by kernel_rfl, zis_nil, by decide, by decide, nol_nil, (fun _ _ h => h.bel)⟩
                          intro hzk
                          refine RW.t (i := 0) (v := .slice (some ⟨b2, o2, none⟩) xn xc) (some 59) at0 (hy := fun _ _ => by kernel_rfl) (h := ?_)
                          refine RW.t (i := 1) (v := .int .i64 k) (some 60) at1 (hy := fun _ _ => by kernel_rfl) (h := ?_)
                          refine RW.t (i := 2) (v := .pointer (some ⟨b2, o2 + k * 2, none⟩)) (some 61) at2 (hy := fun _ _ => by go_simp) (h := ?_)
                          refine RW.t (i := 3) (v := .pointer (some ⟨b2, o2 + k * 2, none⟩)) (some 62) at3 (hy := fun _ _ => by go_simp) (h := ?_)
                          refine RW.t (i := 4) (v := .string f.s) (some 63) at4 (hy := fun W hS => by (have k0 := bel_cell hS d0.out; clear hS; go_simp)) (h := ?_)
                          refine RW.c (i := 5) (args := #[.string f.s]) (some 64) hzk.out at5 (hx := fun _ => by kernel_rfl) (h := fun W T9 => (hNm.out W).mono ?_)
                          rintro e w9 ⟨rfl, rfl⟩
                          refine ⟨Below.refl _ _, _, [], rfl, (fun r hr => by cases hr), ?_⟩
                          refine RW.t (i := 6) (v := .bool false) (some 65) at6 (hy := fun _ _ => by go_simp) (h := ?_)
                          refine RW.t (i := 7) (v := .bool false) (some 66) at7 (hy := fun _ _ => by go_simp) (h := ?_)
                          refine RW.t (i := 8) (v := .slice (some ⟨b2, o2, none⟩) xn xc) (some 67) at8 (hy := fun _ _ => by kernel_rfl) (h := ?_)
                          refine RW.t (i := 9) (v := .int .i64 k) (some 68) at9 (hy := fun _ _ => by kernel_rfl) (h := ?_)
                          refine RW.t (i := 10) (v := .pointer (some ⟨b2, o2 + k * 2, none⟩)) (some 69) at10 (hy := fun _ _ => by go_simp) (h := ?_)
                          refine RW.t (i := 11) (v := .pointer (some ⟨b2, o2 + k * 2 + 1, none⟩)) (some 70) at11 (hy := fun _ _ => by go_simp) (h := ?_)
                          refine RW.t (i := 12) (v := .int .i64 f.k) (some 71) at12 (hy := fun W hS => by (have k0 := bel_cell hS d1.out; clear hS; go_simp)) (h := ?_)
                          refine RW.t (i := 13) (v := .bool true) (some 72) at13 (hy := fun _ _ => by go_simp) (h := ?_)
                          refine RW.t (i := 14) (v := .bool true) (some 73) at14 (hy := fun _ _ => by go_simp) (h := ?_)
                          refine RW.t (i := 15) (v := .bool true) (some 74) at15 (hy := fun _ _ => by go_simp) (h := ?_)
                          refine RW.u (i := 16) (some 75) at16 (h := ?_)
                          refine RW.u (i := 17) (some 76) at17 (h := ?_)
                          refine RW.u (i := 18) (some 77) at18 (h := ?_)
                          refine RW.u (i := 19) (some 78) at19 (h := ?_)
                          refine RW.u (i := 20) (some 79) at20 (h := ?_)
                          refine RW.u (i := 21) (some 80) at21 (h := ?_)
                          refine RW.t (i := 22) (v := .bool true) (some 81) at22 (hy := fun _ _ => by go_simp) (h := ?_)
                          refine RW.t (i := 23) (v := .bool true) (some 82) at23 (hy := fun _ _ => by go_simp) (h := ?_)
                          refine RW.u (i := 24) (some 83) at24 (h := ?_)
                          refine RW.u (i := 25) (some 84) at25 (h := ?_)
                          refine RW.u (i := 26) (some 85) at26 (h := ?_)
                          refine RW.u (i := 27) (some 86) at27 (h := ?_)
                          refine RW.u (i := 28) (some 87) at28 (h := ?_)
                          refine RW.u (i := 29) (some 88) at29 (h := ?_)
                          refine RW.u (i := 30) (some 89) at30 (h := ?_)
                          refine RW.u (i := 31) (some 90) at31 (h := ?_)
                          refine RW.u (i := 32) (some 91) at32 (h := ?_)
                          refine RW.t (i := 33) (v := .bool true) (some 92) at33 (hy := fun _ _ => by go_simp) (h := ?_)
                          refine RW.tail hzk.out (by kernel_rfl) ?_
                          intro gs' w5 hgs' hS Sb
                          obtain rfl := len0 hgs'
                          simp only [mark, fill, Act.put, List.setIfInBounds_toArray, List.set_cons_zero, List.set_cons_succ]
                          refine Wk.done (by kernel_rfl) ?_
                          have T := Lib.hid (B3.out.trans (hS.mono B3.out.size))
                          clear Sb hgs' hzk hbase hS d0 d1 hNm hCt
                          try go_simp
                          go_wp2
                          go_ret
                          exact ⟨by rw [hall.out, hst.out, hal2.out, hfx.out]; rfl, hout.out _ (B2.out.trans (T.out.mono B2.out.size))⟩
                        · by_cases hk8 : 8 < f.k
                          · have hfx := Lib.hid (show trmG (x.L.take k) (x.L.drop k) = false by rw [hst2.out]; unfold facB; rw [decide_eq_false (show ¬ f.k ≤ 8 by omega), Bool.and_false]; rfl)
                            clear hst2 hbn
                            have hbase := Lib.hid (St.new wr)
                            refine RW.begin (Z := []) (S := (fun W => Below wr.heap.size wr W)) (by kernel_rfl) ?_ hbase.out ?_
                            · exact ⟨by kernel_rfl, zis_nil, by decide, by decide, nol_nil, (fun _ _ h => h.bel)⟩
                            intro hzk
                            refine RW.t (i := 0) (v := .slice (some ⟨b2, o2, none⟩) xn xc) (some 59) at0 (hy := fun _ _ => by kernel_rfl) (h := ?_)
                            refine RW.t (i := 1) (v := .int .i64 k) (some 60) at1 (hy := fun _ _ => by kernel_rfl) (h := ?_)
                            refine RW.t (i := 2) (v := .pointer (some ⟨b2, o2 + k * 2, none⟩)) (some 61) at2 (hy := fun _ _ => by go_simp) (h := ?_)
                            refine RW.t (i := 3) (v := .pointer (some ⟨b2, o2 + k * 2, none⟩)) (some 62) at3 (hy := fun _ _ => by go_simp) (h := ?_)
                            refine RW.t (i := 4) (v := .string f.s) (some 63) at4 (hy := fun W hS => by (have k0 := bel_cell hS d0.out; clear hS; go_simp)) (h := ?_)
                            refine RW.c (i := 5) (args := #[.string f.s]) (some 64) hzk.out at5 (hx := fun _ => by kernel_rfl) (h := fun W T9 => (hNm.out W).mono ?_)
                            rintro e w9 ⟨rfl, rfl⟩
                            refine ⟨Below.refl _ _, _, [], rfl, (fun r hr => by cases hr), ?_⟩
                            refine RW.t (i := 6) (v := .bool false) (some 65) at6 (hy := fun _ _ => by go_simp) (h := ?_)
                            refine RW.t (i := 7) (v := .bool false) (some 66) at7 (hy := fun _ _ => by go_simp) (h := ?_)
                            refine RW.t (i := 8) (v := .slice (some ⟨b2, o2, none⟩) xn xc) (some 67) at8 (hy := fun _ _ => by kernel_rfl) (h := ?_)
                            refine RW.t (i := 9) (v := .int .i64 k) (some 68) at9 (hy := fun _ _ => by kernel_rfl) (h := ?_)
                            refine RW.t (i := 10) (v := .pointer (some ⟨b2, o2 + k * 2, none⟩)) (some 69) at10 (hy := fun _ _ => by go_simp) (h := ?_)
                            refine RW.t (i := 11) (v := .pointer (some ⟨b2, o2 + k * 2 + 1, none⟩)) (some 70) at11 (hy := fun _ _ => by go_simp) (h := ?_)
                            refine RW.t (i := 12) (v := .int .i64 f.k) (some 71) at12 (hy := fun W hS => by (have k0 := bel_cell hS d1.out; clear hS; go_simp)) (h := ?_)
                            refine RW.t (i := 13) (v := .bool false) (some 72) at13 (hy := fun _ _ => by go_simp) (h := ?_)
                            refine RW.t (i := 14) (v := .bool false) (some 73) at14 (hy := fun _ _ => by go_simp) (h := ?_)
                            refine RW.t (i := 15) (v := .bool false) (some 74) at15 (hy := fun _ _ => by go_simp) (h := ?_)
                            refine RW.t (i := 16) (v := .slice (some ⟨b2, o2, none⟩) xn xc) (some 75) at16 (hy := fun _ _ => by kernel_rfl) (h := ?_)
                            refine RW.t (i := 17) (v := .int .i64 k) (some 76) at17 (hy := fun _ _ => by kernel_rfl) (h := ?_)
                            refine RW.t (i := 18) (v := .pointer (some ⟨b2, o2 + k * 2, none⟩)) (some 77) at18 (hy := fun _ _ => by go_simp) (h := ?_)
                            refine RW.t (i := 19) (v := .pointer (some ⟨b2, o2 + k * 2 + 1, none⟩)) (some 78) at19 (hy := fun _ _ => by go_simp) (h := ?_)
                            refine RW.t (i := 20) (v := .int .i64 f.k) (some 79) at20 (hy := fun W hS => by (have k0 := bel_cell hS d1.out; clear hS; go_simp)) (h := ?_)
                            refine RW.t (i := 21) (v := .bool true) (some 80) at21 (hy := fun _ _ => by go_simp) (h := ?_)
                            refine RW.t (i := 22) (v := .bool true) (some 81) at22 (hy := fun _ _ => by go_simp) (h := ?_)
                            refine RW.t (i := 23) (v := .bool true) (some 82) at23 (hy := fun _ _ => by go_simp) (h := ?_)
                            refine RW.u (i := 24) (some 83) at24 (h := ?_)
                            refine RW.u (i := 25) (some 84) at25 (h := ?_)
                            refine RW.u (i := 26) (some 85) at26 (h := ?_)
                            refine RW.u (i := 27) (some 86) at27 (h := ?_)
                            refine RW.u (i := 28) (some 87) at28 (h := ?_)
                            refine RW.u (i := 29) (some 88) at29 (h := ?_)
                            refine RW.u (i := 30) (some 89) at30 (h := ?_)
                            refine RW.u (i := 31) (some 90) at31 (h := ?_)
                            refine RW.u (i := 32) (some 91) at32 (h := ?_)
                            refine RW.t (i := 33) (v := .bool true) (some 92) at33 (hy := fun _ _ => by go_simp) (h := ?_)
                            refine RW.tail hzk.out (by kernel_rfl) ?_
                            intro gs' w5 hgs' hS Sb
                            obtain rfl := len0 hgs'
                            simp only [mark, fill, Act.put, List.setIfInBounds_toArray, List.set_cons_zero, List.set_cons_succ]
                            refine Wk.done (by kernel_rfl) ?_
                            have T := Lib.hid (B3.out.trans (hS.mono B3.out.size))
                            clear Sb hgs' hzk hbase hS d0 d1 hNm hCt
                            try go_simp
                            go_wp2
                            go_ret
                            exact ⟨by rw [hall.out, hst.out, hal2.out, hfx.out]; rfl, hout.out _ (B2.out.trans (T.out.mono B2.out.size))⟩
                          · have hfb : facB f = true := by unfold facB; rw [← hbn, decide_eq_true (show 1 ≤ f.k by omega), decide_eq_true (show f.k ≤ 8 by omega)]; rfl
                            rw [hfb] at hst2
                            clear hbn hfb
                            have hbase := Lib.hid (St.new wr)
                            refine RW.begin (Z := []) (S := (fun W => Below wr.heap.size wr W)) (by kernel_rfl) ?_ hbase.out ?_
                            · exact ⟨by kernel_rfl, zis_nil, by decide, by decide, nol_nil, (fun _ _ h => h.bel)⟩
                            intro hzk
                            refine RW.t (i := 0) (v := .slice (some ⟨b2, o2, none⟩) xn xc) (some 59) at0 (hy := fun _ _ => by kernel_rfl) (h := ?_)
                            refine RW.t (i := 1) (v := .int .i64 k) (some 60) at1 (hy := fun _ _ => by kernel_rfl) (h := ?_)
                            refine RW.t (i := 2) (v := .pointer (some ⟨b2, o2 + k * 2, none⟩)) (some 61) at2 (hy := fun _ _ => by go_simp) (h := ?_)
                            refine RW.t (i := 3) (v := .pointer (some ⟨b2, o2 + k * 2, none⟩)) (some 62) at3 (hy := fun _ _ => by go_simp) (h := ?_)
                            refine RW.t (i := 4) (v := .string f.s) (some 63) at4 (hy := fun W hS => by (have k0 := bel_cell hS d0.out; clear hS; go_simp)) (h := ?_)
                            refine RW.c (i := 5) (args := #[.string f.s]) (some 64) hzk.out at5 (hx := fun _ => by kernel_rfl) (h := fun W T9 => (hNm.out W).mono ?_)
                            rintro e w9 ⟨rfl, rfl⟩
                            refine ⟨Below.refl _ _, _, [], rfl, (fun r hr => by cases hr), ?_⟩
                            refine RW.t (i := 6) (v := .bool false) (some 65) at6 (hy := fun _ _ => by go_simp) (h := ?_)
                            refine RW.t (i := 7) (v := .bool false) (some 66) at7 (hy := fun _ _ => by go_simp) (h := ?_)
                            refine RW.t (i := 8) (v := .slice (some ⟨b2, o2, none⟩) xn xc) (some 67) at8 (hy := fun _ _ => by kernel_rfl) (h := ?_)
                            refine RW.t (i := 9) (v := .int .i64 k) (some 68) at9 (hy := fun _ _ => by kernel_rfl) (h := ?_)
                            refine RW.t (i := 10) (v := .pointer (some ⟨b2, o2 + k * 2, none⟩)) (some 69) at10 (hy := fun _ _ => by go_simp) (h := ?_)
                            refine RW.t (i := 11) (v := .pointer (some ⟨b2, o2 + k * 2 + 1, none⟩)) (some 70) at11 (hy := fun _ _ => by go_simp) (h := ?_)
                            refine RW.t (i := 12) (v := .int .i64 f.k) (some 71) at12 (hy := fun W hS => by (have k0 := bel_cell hS d1.out; clear hS; go_simp)) (h := ?_)
                            refine RW.t (i := 13) (v := .bool false) (some 72) at13 (hy := fun _ _ => by go_simp) (h := ?_)
                            refine RW.t (i := 14) (v := .bool false) (some 73) at14 (hy := fun _ _ => by go_simp) (h := ?_)
                            refine RW.t (i := 15) (v := .bool false) (some 74) at15 (hy := fun _ _ => by go_simp) (h := ?_)
                            refine RW.t (i := 16) (v := .slice (some ⟨b2, o2, none⟩) xn xc) (some 75) at16 (hy := fun _ _ => by kernel_rfl) (h := ?_)
                            refine RW.t (i := 17) (v := .int .i64 k) (some 76) at17 (hy := fun _ _ => by kernel_rfl) (h := ?_)
                            refine RW.t (i := 18) (v := .pointer (some ⟨b2, o2 + k * 2, none⟩)) (some 77) at18 (hy := fun _ _ => by go_simp) (h := ?_)
                            refine RW.t (i := 19) (v := .pointer (some ⟨b2, o2 + k * 2 + 1, none⟩)) (some 78) at19 (hy := fun _ _ => by go_simp) (h := ?_)
                            refine RW.t (i := 20) (v := .int .i64 f.k) (some 79) at20 (hy := fun W hS => by (have k0 := bel_cell hS d1.out; clear hS; go_simp)) (h := ?_)
                            refine RW.t (i := 21) (v := .bool false) (some 80) at21 (hy := fun _ _ => by go_simp) (h := ?_)
                            refine RW.t (i := 22) (v := .bool false) (some 81) at22 (hy := fun _ _ => by go_simp) (h := ?_)
                            refine RW.t (i := 23) (v := .bool false) (some 82) at23 (hy := fun _ _ => by go_simp) (h := ?_)
                            refine RW.t (i := 24) (v := .slice (some ⟨b2, o2, none⟩) xn xc) (some 83) at24 (hy := fun _ _ => by kernel_rfl) (h := ?_)
                            refine RW.t (i := 25) (v := .int .i64 k) (some 84) at25 (hy := fun _ _ => by kernel_rfl) (h := ?_)
                            refine RW.t (i := 26) (v := .slice (some ⟨b2, o2, none⟩) k xc) (some 85) at26 (hy := fun _ _ => by go_simp) (h := ?_)
                            refine RW.t (i := 27) (v := .slice (some ⟨b2, o2, none⟩) xn xc) (some 86) at27 (hy := fun _ _ => by kernel_rfl) (h := ?_)
                            refine RW.t (i := 28) (v := .int .i64 k) (some 87) at28 (hy := fun _ _ => by kernel_rfl) (h := ?_)
                            refine RW.t (i := 29) (v := .pointer (some ⟨b2, o2 + k * 2, none⟩)) (some 88) at29 (hy := fun _ _ => by go_simp) (h := ?_)
                            refine RW.t (i := 30) (v := .agg #[.string f.s, .int .i64 f.k]) (some 89) at30 (hy := fun W hS => by (have k0 := bel_cell hS d0.out; have k1 := bel_cell hS d1.out; clear hS; go_simp)) (h := ?_)
                            refine RW.c (i := 31) (args := #[.slice (some ⟨b2, o2, none⟩) k xc, .agg #[.string f.s, .int .i64 f.k]]) (some 90) hzk.out at31 (hx := fun _ => by kernel_rfl) (h := fun W T9 => (hCt.out W T9.bel).mono ?_)
                            rintro e w9 ⟨⟨z, rfl, hz⟩, hB9⟩
                            refine ⟨hB9, _, [], rfl, (fun r hr => by cases hr), ?_⟩
                            clear hB9
                            have hzd := Lib.hid ((ix_dec hz).trans hbv.out.symm)
                            clear hz
                            refine RW.t (i := 32) (v := .bool bv) (some 91) at32 (hy := fun _ _ => by (have h9 := hzd.out; go_simp; try exact h9)) (h := ?_)
                            refine RW.t (i := 33) (v := .bool bv) (some 92) at33 (hy := fun _ _ => by go_simp) (h := ?_)
                            refine RW.tail hzk.out (by kernel_rfl) ?_
                            intro gs' w5 hgs' hS Sb
                            obtain rfl := len0 hgs'
                            simp only [mark, fill, Act.put, List.setIfInBounds_toArray, List.set_cons_zero, List.set_cons_succ]
                            refine Wk.done (by kernel_rfl) ?_
                            have T := Lib.hid (B3.out.trans (hS.mono B3.out.size))
                            clear Sb hgs' hzk hbase hS d0 d1 hNm hCt
                            try go_simp
                            cases bv with
                            | true =>
                              have hfx := Lib.hid (show trmG (x.L.take k) (x.L.drop k) = false by rw [hst2.out]; rfl)
                              clear hst2
                              go_wp2
                              go_ret
                              exact ⟨by rw [hall.out, hst.out, hal2.out, hfx.out]; rfl, hout.out _ (B2.out.trans (T.out.mono B2.out.size))⟩
                            | false =>
                              have hfx := Lib.hid (show trmG (x.L.take k) (x.L.drop k) = trmG (x.L.take (k + 1)) (x.L.drop (k + 1)) by rw [hst2.out]; rfl)
                              clear hst2
                              have hkt := hkh.out
                              have hbb := hx6h.out
                              go_wp2
                              go_roundw
                              case rel => exact ⟨k + 1, by omega, by go_num, T.out, hal2.out.trans hfx.out⟩
                              case measure => simp [intOf]; omega
                    · obtain rfl : k = xn := by omega
                      have htr := Lib.hid (show trmG [] x.L = true by rw [hal2, List.drop_eq_nil_of_le (by rw [← hxn2.out]; exact Nat.le_refl _)]; rfl)
                      have hst5 := Lib.hid (show modG ((Ls.take i).map fun s => s.L) ((Ls.drop i).map fun s => s.L) = (!(((Ls.take i).map fun s => s.L).any fun s => sfB s x.L) && modG ((Ls.take (i + 1)).map fun s => s.L) ((Ls.drop (i + 1)).map fun s => s.L)) by rw [hst.out, htr.out, Bool.true_and])
                      have B5 := Lib.hid (B2.out.trans (Bo.mono B2.out.size))
                      have hxl5 := Lib.hid (hxl.out.bel Bo)
                      clear hal2 hkt hkx hst htr Bo hxl
                      have hwo : ∃ W, W = wr := ⟨wr, rfl⟩
                      obtain ⟨wp, hwo⟩ := hwo
                      subst hwo
                      go_wp2
                      go_loopw [6] (fun kv wr => ∃ j : Nat, j ≤ i ∧ kv = .int .i64 j ∧ Below wp.heap.size wp wr ∧ (((Ls.take i).map fun s => s.L).any fun s => sfB s x.L) = ((((Ls.take i).map fun s => s.L).drop j).any fun s => sfB s x.L)) (fun kv _ => i - (intOf kv).toNat)
                      case atStart => exact ⟨0, Nat.zero_le _, rfl, Below.refl _ _, rfl⟩
                      case round =>
                        obtain ⟨j, hji, rfl, Bp, han⟩ := hrel
                        by_cases hjt : j < i
                        · have Bq := B5.out.trans (Bp.mono B5.out.size)
                          obtain ⟨b9, o9, y9, hA9, hy9, hym, c9, hl9, hc9⟩ := fs_get (h1.out.bel Bq) (i := j) (by have := hih.out; omega)
                          injection hA9 with hA9
                          injection hA9 with a1 a2
                          subst a1 a2
                          have cc : wr.cell? ⟨bx, 2, none⟩ = some (.slice (some ⟨b, o, none⟩) n c) := (World.cell?_of_block (Bq.block _ hbl.out)).trans hb2.out
                          have hdj : Hid (((Ls.take i).map fun s => s.L).drop j = y9.L :: ((Ls.take i).map fun s => s.L).drop (j + 1)) := Lib.hid (drop_cons_of (by rw [List.getElem?_map, List.getElem?_take, if_pos hjt, hy9]; rfl))
                          have hSS := Lib.hid (sameSet_any y9.L x.L y9.A y9.L.length y9.c xA k xc wr hl9 (hxl5.out.bel Bp) (hsz.out y9 hym) (by have := hx6h.out; omega))
                          have hjh := Lib.hid hjt
                          have j1 : (j : Int) < (i : Int) := by omega
                          have j2 : (0 : Int) ≤ (j : Int) := by omega
                          have j3 : (j : Int) < (n : Int) := by have := hih.out; omega
                          have hj32 : i ≤ 32 := by have := hn5.out; have := hih.out; omega
                          obtain ⟨bs, hbs⟩ : ∃ z, z = sfB y9.L x.L := ⟨_, rfl⟩
                          rw [← hbs] at hSS
                          replace hbs := Lib.hid hbs
                          replace Bp := Lib.hid Bp
                          replace han := Lib.hid han
                          clear hjt hji hy9 hym hl9 hc9 Bq
                          go_wp2_with fail
                          refine hSS.out.mono ?_
                          rintro e w7 ⟨rfl, bb⟩
                          have T7 := Lib.hid (Bp.out.trans (bb.mono Bp.out.size))
                          clear bb cc c9 hSS
                          cases bs with
                          | true =>
                            have hfx := Lib.hid (show modB s (Ls.map fun x => x.L) = false by rw [hall.out, hst5.out, han.out, hdj.out, List.any_cons, ← hbs.out]; simp)
                            go_wp2
                            go_ret
                            exact ⟨by rw [hfx.out]; rfl, hout.out _ (B5.out.trans (T7.out.mono B5.out.size))⟩
                          | false =>
                            have hnx := Lib.hid (show (((Ls.take i).map fun s => s.L).any fun s => sfB s x.L) = ((((Ls.take i).map fun s => s.L).drop (j + 1)).any fun s => sfB s x.L) by rw [han.out, hdj.out, List.any_cons, ← hbs.out, Bool.false_or])
                            have hjt := hjh.out
                            go_wp2
                            go_roundw
                            case rel => exact ⟨j + 1, by omega, by go_num, T7.out, hnx.out⟩
                            case measure => simp [intOf]; omega
                        · obtain rfl : i = j := by omega
                          have hnx := Lib.hid (show modB s (Ls.map fun x => x.L) = modG ((Ls.take (i + 1)).map fun x => x.L) ((Ls.drop (i + 1)).map fun x => x.L) by
                            rw [hall.out, hst5.out, han, List.drop_eq_nil_of_le (by rw [List.length_map, List.length_take]; exact Nat.min_le_left _ _)]; rfl)
                          have T8 := Lib.hid (B5.out.trans (Bp.mono B5.out.size))
                          clear hji hjt han Bp
                          have hlt := hih.out
                          have hbb := hn5.out
                          go_wp2
                          go_roundw
                          case rel => exact ⟨i + 1, by omega, by go_num, T8.out, hnx.out⟩
                          case measure => simp [intOf]; omega
        · obtain rfl : i = n := by omega
          have hf2 := Lib.hid (show modB s (Ls.map fun x => x.L) = true by rw [hall, List.drop_eq_nil_of_le (by rw [hlen.out]; exact Nat.le_refl _)]; rfl)
          have T := Lib.hid (hw0.out.trans (B.mono hw0.out.size))
          clear hall hin hlt B
          go_wp2
          go_ret
          exact ⟨by rw [hf2.out]; rfl, T.out⟩
end Go.Proofs.YthbkdjbmkhmlnaaDoor
