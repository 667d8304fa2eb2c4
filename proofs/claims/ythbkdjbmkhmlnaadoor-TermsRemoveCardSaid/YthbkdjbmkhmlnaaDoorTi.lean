/- The reference's Expand of a valid formula. -/
import Derived.Test.YthbkdjbmkhmlnaaDoorTh
namespace Go.Proofs.YthbkdjbmkhmlnaaDoor
open Go.RowKit
set_option linter.unusedVariables false

set_option maxRecDepth 100000 in
set_option maxHeartbeats 4000000 in
theorem rexpand_yes (s : ByteArray) (tr : F9.Tr) (hw : tr.wf) (A : Option Addr) (n c : Nat) (w : World) (h : LR ndC w A n (tr.pre.map toNd)) (hf : frmB s (tr.pre.map toNd) = true) :
    Calls Tryd.prog 12 #[.agg #[.string s, .slice A n c]] w fun e w' => RxV w w' e s tr := by
  have hlen := h.len
  have h64 : n ≤ 64 := by rw [← hlen]; exact (frm_len hf).1
  have hpl : tr.pre.length ≤ 64 := by rw [List.length_map] at hlen; omega
  have lA : (F10.atoms tr []).length ≤ 64 := by have := F10.atoms_len tr []; simp only [List.length_nil] at this; omega
  have S1 := Lib.hid (((St.new w).allocAt w.heap.size #[.string s, .slice A n c] 24 (noLof rfl) rfl).allocAt (w.heap.size + 1) #[.string ⟨#[]⟩, .bool false, .slice none 0 0] 29 (noLof rfl) (by simp))
  obtain ⟨w1, hw1⟩ : ∃ W, W = (w.alloc (.cells #[.string s, .slice A n c] 24)).alloc (.cells #[.string ⟨#[]⟩, .bool false, .slice none 0 0] 29) := ⟨_, rfl⟩
  obtain ⟨fb, hfb⟩ : ∃ b, b = w.heap.size := ⟨_, rfl⟩
  rw [← hw1, ← hfb] at S1
  have hV := Lib.hid (rvalid_any s _ A n c w1 (h.bel S1.out.bel) (by omega))
  rw [hf] at hV
  have hAt : Hid (∀ W, Below w.heap.size w W → Calls Tryd.prog 27 #[.slice A n c] W fun e w' => ∃ v, e = .returned v ∧ SlF W w' v ((F10.atoms tr []).map toFa)) := Lib.hid fun W hW => by
    have := ratoms_any (tr.pre.map toNd) A n c W (h.bel hW) (by omega)
    rwa [atoms_read hw] at this
  have hnam : ∀ f, F10.nam tr f → f ∈ F10.atoms tr [] := fun f hf => (F10.atoms_mem tr [] f).2 (.inr hf)
  have hLr0 : ∀ W, Below w.heap.size w W → LR ndC W A n ([] ++ (tr.pre.map toNd ++ [])) := fun W hW => by rw [List.nil_append, List.append_nil]; exact h.bel hW
  have hSt : Hid (∀ (W : World) (FA : Option Addr) (fn fc : Nat), Below w.heap.size w W → LR faC W FA fn ((F10.atoms tr []).map toFa) → Calls Tryd.prog 28 #[.slice A n c, .int .i64 0, .slice FA fn fc] W fun e w' => RlV W w' e (F10.rs (F10.atoms tr []) tr)) := Lib.hid fun W FA fn fc hW hF => steps_any tr hw (F10.atoms tr []) [] [] A n c FA fn fc W lA hnam (hLr0 W hW) (by omega) hF
  have hLi : Hid (∀ (W : World) (FA : Option Addr) (fn fc : Nat), Below w.heap.size w W → LR faC W FA fn ((F10.atoms tr []).map toFa) → Calls Tryd.prog 29 #[.slice A n c, .int .i64 0, .slice FA fn fc] W fun e w' => RlV W w' e (F10.rl (F10.atoms tr []) tr)) := Lib.hid fun W FA fn fc hW hF => list_any tr hw (F10.atoms tr []) [] [] A n c FA fn fc W lA hnam (hLr0 W hW) (by omega) hF
  have hok : Hid (∀ l, F10.rs (F10.atoms tr []) tr = some l → F10.fts l = true ∧ U64 l) := Lib.hid fun l hl => rs_ok lA tr (wf_shp hw) hnam l hl
  have hmk : Hid (∀ m, (mk m 6).map (fun t => pk ((F10.atoms tr []).map toFa) t (F10.atoms tr []).length) = (F10.mdT (F10.atoms tr []) m).map fun l => l.map toFa) := Lib.hid fun m => mk_mdT lA
  have hrx : Hid (F10.rex tr = match F10.rl (F10.atoms tr []) tr, F10.rs (F10.atoms tr []) tr with | some _, some m => some m | _, _ => none) := Lib.hid rfl
  obtain ⟨F, hF⟩ : ∃ F, F = (F10.atoms tr []).map toFa := ⟨_, rfl⟩
  obtain ⟨fl, hfl⟩ : ∃ k, k = (F10.atoms tr []).length := ⟨_, rfl⟩
  have hFl : Hid (F.length = fl) := Lib.hid (by rw [hF, List.length_map, hfl])
  have hfl64 := Lib.hid (show fl ≤ 64 by rw [hfl]; exact lA)
  rw [← hF] at hAt hSt hLi hmk
  rw [← hfl] at hmk
  clear h hf hlen h64 hpl lA hnam hLr0 hw hF hfl
  have k0 : w1.cell? ⟨fb, 0, none⟩ = some (.string s) := S1.out.cl 1 0 rfl rfl
  have k1 : w1.cell? ⟨fb, 1, none⟩ = some (.slice A n c) := S1.out.cl 1 1 rfl rfl
  go_enter Tryd.func12, Tryd.ntmps12
  go_upto_region 1 with fail
  rw [← hw1, ← hfb]
  clear hw1 hfb
  go_wp2_with fail
  clear k0 k1
  refine hV.out.mono ?_
  rintro e w2 ⟨rfl, hb⟩
  have S2 := Lib.hid (S1.out.call hb)
  clear hb hV S1
  have k1 : w2.cell? ⟨fb, 1, none⟩ = some (.slice A n c) := S2.out.cl 1 1 rfl rfl
  go_wp2_with fail
  clear k1
  refine (hAt.out w2 S2.out.bel).mono ?_
  rintro e w3 ⟨v3, rfl, FA, fc, rfl, hfc, hF3, hb⟩
  have S3 := Lib.hid (S2.out.call hb)
  rw [hFl.out] at hF3
  rw [hFl.out]
  replace hF3 := Lib.hid hF3
  clear hb hAt S2 hfc
  have k1 : w3.cell? ⟨fb, 1, none⟩ = some (.slice A n c) := S3.out.cl 1 1 rfl rfl
  go_wp2_with fail
  clear k1
  refine (hSt.out w3 FA fl fc S3.out.bel hF3.out).mono ?_
  intro e w4 hE4
  clear hSt
  obtain ⟨v4, q4, rfl, hb4, hv4⟩ : ∃ (v4 : Value) (q4 : Bool), e = .returned (.tuple #[v4, .bool q4]) ∧ Below w3.heap.size w3 w4 ∧ ((q4 = false ∧ F10.rs (F10.atoms tr []) tr = none) ∨ (q4 = true ∧ ∃ m, F10.rs (F10.atoms tr []) tr = some m ∧ SlU w3 w4 v4 m)) := by
    cases hr : F10.rs (F10.atoms tr []) tr with
    | none => rw [hr] at hE4; obtain ⟨v, rfl, hb⟩ := hE4; exact ⟨v, false, rfl, hb, .inl ⟨rfl, rfl⟩⟩
    | some m => rw [hr] at hE4; obtain ⟨v, rfl, hb⟩ := hE4; exact ⟨v, true, rfl, hb.old, .inr ⟨rfl, m, rfl, hb⟩⟩
  have S4 := Lib.hid (S3.out.call hb4)
  have hF4 := Lib.hid (hF3.out.bel hb4)
  replace hv4 := Lib.hid hv4
  clear hE4 hb4 S3 hF3
  have k1 : w4.cell? ⟨fb, 1, none⟩ = some (.slice A n c) := S4.out.cl 1 1 rfl rfl
  go_wp2_with fail
  clear k1
  refine (hLi.out w4 FA fl fc S4.out.bel hF4.out).mono ?_
  intro e w5 hE5
  clear hLi
  obtain ⟨v5, q5, rfl, hb5, hv5⟩ : ∃ (v5 : Value) (q5 : Bool), e = .returned (.tuple #[v5, .bool q5]) ∧ Below w4.heap.size w4 w5 ∧ ((q5 = false ∧ F10.rl (F10.atoms tr []) tr = none) ∨ (q5 = true ∧ ∃ m, F10.rl (F10.atoms tr []) tr = some m)) := by
    cases hr : F10.rl (F10.atoms tr []) tr with
    | none => rw [hr] at hE5; obtain ⟨v, rfl, hb⟩ := hE5; exact ⟨v, false, rfl, hb, .inl ⟨rfl, rfl⟩⟩
    | some m => rw [hr] at hE5; obtain ⟨v, rfl, hb⟩ := hE5; exact ⟨v, true, rfl, hb.old, .inr ⟨rfl, m, rfl⟩⟩
  have S5 := Lib.hid (S4.out.call hb5)
  have hF5 := Lib.hid (hF4.out.bel hb5)
  have hb5h := Lib.hid hb5
  replace hv5 := Lib.hid hv5
  clear hE5 hb5 S4 hF4
  by_cases hno : q4 = true ∧ q5 = true
  · obtain ⟨rfl, rfl⟩ := hno
    obtain ⟨m, hrs, hU⟩ : ∃ m, F10.rs (F10.atoms tr []) tr = some m ∧ SlU w3 w4 v4 m := by
      rcases hv4.out with ⟨h, _⟩ | ⟨_, h⟩
      · cases h
      · exact h
    have hrex : Hid (F10.rex tr = some m) := Lib.hid (by
      rcases hv5.out with ⟨h, _⟩ | ⟨_, m5, h5⟩
      · cases h
      · rw [hrx.out, hrs, h5])
    obtain ⟨A4, c4, rfl, hc4, hl4, _⟩ := hU
    obtain ⟨p1, p2⟩ := hok.out m hrs
    have hm32 := Lib.hid (fts_len32 p1)
    have hmu := Lib.hid p2
    obtain ⟨ln, hln⟩ : ∃ k, k = m.length := ⟨_, rfl⟩
    rw [← hln] at hl4 hm32
    rw [← hln]
    have hl5 := Lib.hid (hl4.bel hb5h.out)
    have hlnh := Lib.hid hln
    have hHs := Lib.hid (fun W (hW : Below w5.heap.size w5 W) => rhas_any m A4 ln c4 0 W (hl5.out.bel hW) (by have := hm32.out; omega))
    obtain ⟨bz, hbz⟩ : ∃ b, b = m.contains 0 := ⟨_, rfl⟩
    rw [← hbz] at hHs
    replace hbz := Lib.hid hbz
    have k0h : Hid (w5.cell? ⟨fb, 0, none⟩ = some (.string s)) := Lib.hid (S5.out.cl 1 0 rfl rfl)
    clear hv4 hv5 hrx hok p1 p2 hc4 hl4 hrs hb5h hln
    go_upto_region 8 with fail
    have hbase := Lib.hid (St.new w5)
    refine RW.begin (Z := [⟨5, 9, #[.string ⟨#[]⟩, .bool false, .slice none 0 0], 29⟩]) (S := (fun W => Below w5.heap.size w5 W)) (by kernel_rfl) ?_ hbase.out ?_
    · exact ⟨by kernel_rfl, (zis_cons at5 (fun _ _ => by kernel_rfl) zis_nil), by decide, by decide, (nol_cons (noLof rfl) nol_nil), (fun _ _ h => h.bel)⟩
    intro hzk
    refine RW.t (i := 0) (v := .pointer (some ⟨fb, 0, none⟩)) (some 40) at0 (hy := fun _ _ => by go_simp) (h := ?_)
    refine RW.t (i := 1) (v := .string s) (some 41) at1 (hy := fun W hS => by (have k0 := bel_cell hS k0h.out; clear hS; go_simp)) (h := ?_)
    refine RW.t (i := 2) (v := .slice A4 ln c4) (some 42) at2 (hy := fun _ _ => by go_simp) (h := ?_)
    refine RW.c (i := 3) (args := #[.slice A4 ln c4, .int .u64 0]) (some 43) hzk.out at3 (hx := fun _ => by kernel_rfl) (h := fun W T9 => (hHs.out W T9.bel).mono ?_)
    rintro e w9 ⟨rfl, rfl⟩
    refine ⟨Below.refl _ _, _, [], rfl, (fun r hr => by cases hr), ?_⟩
    refine RW.t (i := 4) (v := .agg #[.string s, .bool bz, .slice none 0 0]) (some 44) at4 (hy := fun _ _ => by go_simp) (h := ?_)
    refine RW.tail hzk.out (by kernel_rfl) ?_
    intro gs w6 hgs hS S
    obtain ⟨mb, rfl⟩ := len1' hgs
    clear hS hgs hzk hbase
    simp only [mark, fill, List.map, Act.put, List.setIfInBounds_toArray, List.set_cons_zero, List.set_cons_succ]
    replace S := Lib.hid S
    refine Wk.o (i := 6) at6 (by kernel_rfl) fun K' hK => ?_
    have z0 := St.cl S.out 0 0 rfl rfl
    have z1 := St.cl S.out 0 1 rfl rfl
    have z2 := St.cl S.out 0 2 rfl rfl
    have y0 := St.f S.out 0 0 rfl
    have y1 := St.f S.out 0 1 rfl
    have y2 := St.f S.out 0 2 rfl
    go_simp
    have SN := ((S.out.set 0 0 (.string s) rfl (by nofun)).set 0 1 (.bool bz) rfl (by nofun)).set 0 2 (.slice none 0 0) rfl (by nofun)
    clear S z0 z1 z2 y0 y1 y2
    have S := Lib.hid SN
    clear SN
    refine hK.out _ _ S.out.bel ?_
    clear hK K'
    try simp only [Act.put, List.setIfInBounds_toArray, List.set_cons_zero, List.set_cons_succ]
    refine Wk.done (by kernel_rfl) ?_
    obtain ⟨w7, hw7⟩ : ∃ W, W = ((w6.setCell ⟨mb, 0, none⟩ (.string s)).setCell ⟨mb, 1, none⟩ (.bool bz)).setCell ⟨mb, 2, none⟩ (.slice none 0 0) := ⟨_, rfl⟩
    rw [← hw7] at S ⊢
    clear hw7
    have G0 := Lib.hid (Gro.nil_ (slC faC) S.out 34)
    have hFc : Hid (∀ W, Below w5.heap.size w5 W → ∀ t : Nat, t < 18446744073709551616 → Calls Tryd.prog 32 #[.int .u64 (t : Int), .slice FA fl fc] W fun e w' => ∃ v, e = .returned v ∧ Gro faC W w' [] [] 37 v (pk F t fl)) := Lib.hid fun W hW t ht => rfactors_any F t FA fl fc W (hF5.out.bel hW) hfl64.out ht
    clear S hHs k0h hF5
    go_wp2
    go_loopw [10] (fun nv wr => ∃ (j : Nat) (Ts : List (Sl Fa)) (tv : Value) (eb : List GBk), j ≤ 6 ∧ nv = .int .i64 ((j : Int) + 1) ∧ Gro (slC faC) w5 wr ((mb, #[.string s, .bool bz, tv], 29) :: eb) [] 34 tv Ts ∧ (∀ x ∈ Ts, ∀ (w0 : World) (bs' : List GBk), (∀ p ∈ eb, p ∈ bs') → (slC faC).In w0 bs' [] x) ∧ Ts.map (fun l => l.L) = (mk m j).map fun t => pk F t fl) (fun nv _ => 7 - (intOf nv).toNat)
    case atStart => exact ⟨0, [], _, [], by decide, rfl, G0.out, fun x hx => (by cases hx), rfl⟩
    case round =>
      clear G0
      obtain ⟨j, Ts, tv, eb, hj6, rfl, G, hIn, hmap⟩ := hrel
      by_cases hlt : j < 6
      · have g1 : (j : Int) + 1 ≤ 6 := by omega
        have g1n : j + 1 ≤ 6 := by omega
        have hjh := Lib.hid hlt
        have G1 := Lib.hid G
        have hIn1 := Lib.hid hIn
        have hmap1 := Lib.hid hmap
        clear hlt hj6 G hIn hmap
        go_wp2
        clear g1 g1n
        go_loopw [11] (fun iv wr => ∃ (i : Nat) (Ts : List (Sl Fa)) (tv : Value) (eb : List GBk), i ≤ ln ∧ iv = .int .i64 i ∧ Gro (slC faC) w5 wr ((mb, #[.string s, .bool bz, tv], 29) :: eb) [] 34 tv Ts ∧ (∀ x ∈ Ts, ∀ (w0 : World) (bs' : List GBk), (∀ p ∈ eb, p ∈ bs') → (slC faC).In w0 bs' [] x) ∧ Ts.map (fun l => l.L) = (mk m j ++ (m.take i).filter (fun t => F10.siz t == j + 1)).map fun t => pk F t fl) (fun iv _ => ln - (intOf iv).toNat)
        case atStart => exact ⟨0, Ts, tv, eb, Nat.zero_le _, rfl, G1.out, hIn1.out, by rw [List.take_zero, List.filter_nil, List.append_nil]; exact hmap1.out⟩
        case round =>
          clear G1 hIn1 hmap1 Ts tv eb
          obtain ⟨i, Ts, tv, eb, hin, rfl, G, hIn, hmap⟩ := hrel
          obtain ⟨TA, tc, rfl, hTl, htc⟩ := G.lrc
          by_cases hlt : i < ln
          · have hIl := hl5.out.bel G.st.bel
            obtain ⟨b, o, t, rfl, ht, htm, e0⟩ := u_get hIl hlt
            have hTs : Ts.length ≤ 300 := by
              have h1 := congrArg List.length hmap
              rw [List.length_map, List.length_map, List.length_append] at h1
              have h2 := mk_len m j
              have h3 : ((m.take i).filter (fun t => F10.siz t == j + 1)).length ≤ m.length := Nat.le_trans (List.length_filter_le _ _) (by rw [List.length_take]; exact Nat.min_le_right _ _)
              have h4 : j * m.length ≤ 6 * 32 := Nat.mul_le_mul (by have := hjh.out; omega) (by rw [← hlnh.out]; exact hm32.out)
              have := hlnh.out
              have := hm32.out
              omega
            have hfs := Lib.hid (flt_snoc (fun t => F10.siz t == j + 1) ht)
            have hSz := Lib.hid (rsize_any t wr (hmu.out t htm))
            have htu := Lib.hid (hmu.out t htm)
            have hih := Lib.hid hlt
            have g1 : (i : Int) < (ln : Int) := by omega
            have g2 : (0 : Int) ≤ (i : Int) := by omega
            obtain ⟨z, hz⟩ : ∃ z, z = F10.siz t := ⟨_, rfl⟩
            rw [← hz] at hSz
            replace hz := Lib.hid hz
            have hTk := Lib.hid hTs
            have e0h : Hid (wr.cell? ⟨b, o + i, none⟩ = some (.int .u64 (t : Int))) := Lib.hid e0
            replace hmap := Lib.hid hmap
            replace hIn := Lib.hid hIn
            replace G := Lib.hid G
            have hebw := Lib.hid (Below.refl wr.heap.size wr)
            clear hIl hlt hin ht htm hTl htc hTs
            go_wp2_with fail
            clear e0
            refine hSz.out.mono ?_
            rintro e w8 ⟨rfl, rfl⟩
            clear hSz
            obtain ⟨q, hq⟩ : ∃ q, q = decide (z = j + 1) := ⟨_, rfl⟩
            have hq1 : ((z : Int) == (j : Int) + 1) = q := by rw [hq]; by_cases hh : z = j + 1; rw [decide_eq_true hh, beq_iff_eq]; omega; rw [decide_eq_false hh, beq_eq_false_iff_ne]; omega
            replace hq := Lib.hid hq
            cases q with
            | true =>
              have hnx : Hid ((m.take (i + 1)).filter (fun t => F10.siz t == j + 1) = (m.take i).filter (fun t => F10.siz t == j + 1) ++ [t]) := Lib.hid (by
                rw [hfs.out]
                have : (F10.siz t == j + 1) = true := by rw [← hz.out, beq_iff_eq]; exact of_decide_eq_true hq.out.symm
                rw [this]; rfl)
              clear hfs hq
              go_upto_region 16 with fail
              clear hq1
              refine Wl.start (fun V => Below w5.heap.size w5 V ∧ V.cell? ⟨mb, 2, none⟩ = some (.slice TA Ts.length tc)) [11] (by kernel_rfl) ?_
              have GD := Lib.hid G.out.drew
              have hS : Below w5.heap.size w5 w8.drew ∧ w8.drew.cell? ⟨mb, 2, none⟩ = some (.slice TA Ts.length tc) := ⟨GD.out.st.bel, GD.out.st.cl 0 2 rfl rfl⟩
              have e5 : Hid (∀ V, Below w5.heap.size w5 V → V.cell? ⟨b, o + i, none⟩ = some (.int .u64 (t : Int))) := Lib.hid (fun V hV => by
                obtain ⟨b', o', t', hA', ht', _, e1⟩ := u_get (hl5.out.bel hV) hih.out
                injection hA' with hA'
                injection hA' with k1 k2
                subst k1 k2
                obtain ⟨b2, o2, t2, hA2, ht2, _, e2⟩ := u_get (hl5.out.bel G.out.st.bel) hih.out
                injection hA2 with hA2
                injection hA2 with k3 k4
                subst k3 k4
                have e3 := e0h.out
                rw [e2] at e3
                rw [ht2] at ht'
                injection ht' with ht'
                injection e3 with e3
                rw [ht'] at e3
                rw [e1, e3])
              generalize w8.drew = w9 at *
              clear G e0h
              refine Wl.t (i := 0) (v := .pointer (some ⟨mb, 2, none⟩)) (some 62) at0 (hy := fun _ _ => by go_simp) (hS := hS) (h := ?_)
              refine Wl.t (i := 1) (v := .slice TA Ts.length tc) (some 63) at1 (hy := fun V h => by (have k0 := h.2; clear h; go_simp)) (hS := hS) (h := ?_)
              refine Wl.t (i := 2) (v := .slice (some ⟨b, o, none⟩) ln c4) (some 64) at2 (hy := fun _ _ => by go_simp) (hS := hS) (h := ?_)
              refine Wl.t (i := 3) (v := .int .i64 (i : Nat)) (some 65) at3 (hy := fun _ _ => by go_simp) (hS := hS) (h := ?_)
              refine Wl.t (i := 4) (v := .pointer (some ⟨b, o + i, none⟩)) (some 66) at4 (hy := fun _ _ => by go_simp) (hS := hS) (h := ?_)
              refine Wl.t (i := 5) (v := .int .u64 (t : Int)) (some 67) at5 (hy := fun V h => by (have k0 := e5.out V h.1; clear h; go_simp)) (hS := hS) (h := ?_)
              refine Wl.t (i := 6) (v := .slice FA fl fc) (some 68) at6 (hy := fun _ _ => by go_simp) (hS := hS) (h := ?_)
              try simp only [Act.put, List.setIfInBounds_toArray, List.set_cons_zero, List.set_cons_succ]
              refine Wl.g (i := 7) at7 (by kernel_rfl) (by kernel_rfl) fun K' hK => ?_
              refine oper_call (f := 32) (args := #[.int .u64 (t : Int), .slice FA fl fc]) rfl (by kernel_rfl) ((hFc.out w9 hS.1 t htu.out).mono ?_)
              rintro e w10 ⟨v, rfl, Gf⟩
              obtain ⟨A5, c5, ob5, rfl, hc5, S5f, hI5⟩ := Gf.own (fun _ _ _ _ => fa_in _)
              have GE := GD.out.join S5f
              refine ⟨_, rfl, hK.out _ _ ⟨GE.st.bel, GE.st.cl 0 2 rfl rfl⟩ ?_⟩
              clear hK K' hS Gf GD
              try simp only [Act.put, List.setIfInBounds_toArray, List.set_cons_zero, List.set_cons_succ]
              replace GE := Lib.hid (show Gro (slC faC) w5 w10 ((mb, #[.string s, .bool bz, .slice TA Ts.length tc], 29) :: (eb ++ ob5)) [] 34 (.slice TA Ts.length tc) Ts from (by
                have := GE
                rw [List.cons_append] at this
                exact this))
              have hIn2 : Hid (∀ x ∈ Ts ++ [(⟨A5, c5, pk F t fl⟩ : Sl Fa)], ∀ (w0 : World) (bs' : List GBk), (∀ p ∈ eb ++ ob5, p ∈ bs') → (slC faC).In w0 bs' [] x) := Lib.hid (fun x hx w0 bs' hb => by
                rcases List.mem_append.1 hx with hx | hx
                · exact hIn.out x hx w0 bs' (fun p hp => hb p (List.mem_append_left _ hp))
                · rw [List.mem_singleton.1 hx]; exact ⟨hI5 w0 bs' (fun p hp => hb p (List.mem_append_right _ hp)), hc5⟩)
              clear S5f hI5 hIn e5
              refine Wl.g (i := 8) at8 (by kernel_rfl) (by kernel_rfl) fun K' hK => ?_
              go_simp
              have GA := Lib.hid (GE.out.alloc #[(⟨A5, c5, pk F t fl⟩ : Sl Fa).v] 34 (noLof rfl))
              refine hK.out _ _ ⟨GA.out.st.bel, GA.out.st.cl 1 2 rfl rfl⟩ ?_
              clear hK K' GE
              try simp only [Act.put, List.setIfInBounds_toArray, List.set_cons_zero, List.set_cons_succ]
              refine Wl.g (i := 9) at9 (by kernel_rfl) (by kernel_rfl) fun K' hK => ?_
              refine Gro.op (C := slC faC) (.tmp 63) (.tmp 70) 27 rfl (.slice none 0 0) 24 Tryd.underlying27 (by kernel_rfl) rfl (fun v hv z e => by simp [Value.cells] at hv; subst e; simp at hv) rfl GA.out _ (⟨A5, c5, pk F t fl⟩ : Sl Fa) rfl (GA.out.st.cb 0 rfl) (hIn2.out _ (by simp) w5 _ (fun p hp => by
                rcases List.mem_append.1 hp with hp | hp <;> simp [hp])) (by have := hTk.out; omega) (by have := hTk.out; unfold maxLen; omega) ?_
              intro av1 w11 G9 hmkk
              refine hK.out _ _ ⟨G9.st.bel, G9.st.cl 1 2 rfl rfl⟩ ?_
              have G10 := Lib.hid (G9.sub (fun x hx => hIn2.out x hx w5 _ (fun p hp => by
                rcases List.mem_append.1 hp with hp | hp <;> simp [hp])))
              clear hK K' GA hmkk G9
              try simp only [Act.put, List.setIfInBounds_toArray, List.set_cons_zero, List.set_cons_succ]
              obtain ⟨A9, q9, rfl, _⟩ := G10.out.lr
              have c2b : w11.cell? ⟨mb, 2, none⟩ = some (.slice TA Ts.length tc) := G10.out.st.cl 0 2 rfl rfl
              have f2b := G10.out.st.f 0 2 rfl
              rw [show (Ts ++ [(⟨A5, c5, pk F t fl⟩ : Sl Fa)]).length = Ts.length + 1 by simp] at G10
              have G11 := Lib.hid (show Gro (slC faC) w5 (w11.setCell ⟨mb, 2, none⟩ (.slice A9 (Ts.length + 1) q9)) ((mb, #[.string s, .bool bz, .slice A9 (Ts.length + 1) q9], 29) :: (eb ++ ob5)) [] 34 (.slice A9 (Ts.length + 1) q9) (Ts ++ [(⟨A5, c5, pk F t fl⟩ : Sl Fa)]) from G10.out.put 0 rfl 2 (.slice A9 (Ts.length + 1) q9) (by nofun) (fun x hx => hIn2.out x hx w5 _ (fun p hp => by
                rcases List.mem_append.1 hp with hp | hp <;> simp [hp])))
              refine Wl.g (i := 10) at10 (by kernel_rfl) (by kernel_rfl) fun K' hK => ?_
              go_simp
              refine hK.out _ _ ⟨G10.out.st.bel, c2b⟩ ?_
              clear hK K'
              try simp only [Act.put, List.setIfInBounds_toArray, List.set_cons_zero, List.set_cons_succ]
              refine Wl.s (i := 11) at11 (by kernel_rfl) (by kernel_rfl) (by kernel_rfl) fun K' hK => ?_
              go_simp
              refine hK.out _ _ ?_
              clear hK K' c2b f2b G10
              try simp only [Act.put, List.setIfInBounds_toArray, List.set_cons_zero, List.set_cons_succ]
              refine Wl.done (by kernel_rfl) ?_
              try go_simp
              have hlt := hih.out
              have hbb := hm32.out
              go_wp2
              go_roundw
              case rel => exact ⟨i + 1, Ts ++ [⟨A5, c5, pk F t fl⟩], _, eb ++ ob5, by omega, by go_num, G11.out, hIn2.out, by rw [hnx.out, ← List.append_assoc, List.map_append, List.map_append (f := fun t => pk F t fl), hmap.out]; rfl⟩
              case measure => simp [intOf]; omega
            | false =>
              have hnx : Hid ((m.take (i + 1)).filter (fun t => F10.siz t == j + 1) = (m.take i).filter (fun t => F10.siz t == j + 1)) := Lib.hid (by
                rw [hfs.out]
                have : (F10.siz t == j + 1) = false := by rw [← hz.out, beq_eq_false_iff_ne]; exact of_decide_eq_false hq.out.symm
                rw [this]; simp)
              clear hfs hq
              have hlt := hih.out
              have hbb := hm32.out
              go_wp2
              go_roundw
              case rel => exact ⟨i + 1, Ts, _, eb, by omega, by go_num, G.out, hIn.out, by rw [hnx.out]; exact hmap.out⟩
              case measure => simp [intOf]; omega
          · obtain rfl : i = ln := by omega
            have hnx : (m.take i).filter (fun t => F10.siz t == j + 1) = m.filter (fun t => F10.siz t == j + 1) := by rw [List.take_of_length_le (by rw [← hlnh.out]; exact Nat.le_refl _)]
            rw [hnx, ← mk_succ] at hmap
            have G2 := Lib.hid G
            have hIn2 := Lib.hid hIn
            have hmap2 := Lib.hid hmap
            have hjj := hjh.out
            clear hin hlt hTl htc G hIn hmap hnx
            go_wp2
            go_roundw
            case rel => exact ⟨j + 1, Ts, _, eb, by omega, by go_num, G2.out, hIn2.out, hmap2.out⟩
            case measure => simp [intOf]; omega
      · obtain rfl : j = 6 := by omega
        obtain ⟨TA, tc, rfl, hTl, htc⟩ := G.lrc
        have m0 : wr.cell? ⟨mb, 0, none⟩ = some (.string s) := G.st.cl 0 0 rfl rfl
        have m1 : wr.cell? ⟨mb, 1, none⟩ = some (.bool bz) := G.st.cl 0 1 rfl rfl
        have m2 : wr.cell? ⟨mb, 2, none⟩ = some (.slice TA Ts.length tc) := G.st.cl 0 2 rfl rfl
        obtain ⟨A', c', ob, hv, hc', So, hI⟩ := gro_own2 G (fun w0 bs' hb x hx => hIn x hx w0 bs' (fun p hp => hb p (by simp [hp])))
        injection hv with h1 h2 h3
        subst h1 h3
        have SJ := Lib.hid (S5.out.join So)
        have r0 : wr.cell? ⟨fb + 1, 0, none⟩ = some (.string ⟨#[]⟩) := SJ.out.cl 0 0 rfl rfl
        have r1 : wr.cell? ⟨fb + 1, 1, none⟩ = some (.bool false) := SJ.out.cl 0 1 rfl rfl
        have r2 : wr.cell? ⟨fb + 1, 2, none⟩ = some (.slice none 0 0) := SJ.out.cl 0 2 rfl rfl
        have f0 := SJ.out.f 0 0 rfl
        have f1 := SJ.out.f 0 1 rfl
        have f2 := SJ.out.f 0 2 rfl
        have S8 := Lib.hid (((SJ.out.set 0 0 (.string s) rfl (by nofun)).set 0 1 (.bool bz) rfl (by nofun)).set 0 2 (.slice TA Ts.length tc) rfl (by nofun))
        have hfin := Lib.hid (hI w _ (fun p hp => List.mem_append_right _ hp) : LI (slC faC) w ((fb + 1, #[.string s, .bool bz, .slice TA Ts.length tc], 29) :: [(fb, #[.string s, .slice A n c], 24)] ++ ob) [] TA Ts.length Ts)
        have hmp := Lib.hid (hmap.trans (hmk.out m))
        have htch := Lib.hid htc
        clear hTl htc hI So SJ G hIn hmap hj6 hlt hc' h2
        go_wp2
        refine bodyPost_ret (res_rx _ _ (fb + 1) 29 rfl rfl (S8.out.cb 0 rfl)) rfl ?_
        unfold RxV
        rw [hrex.out]
        exact ⟨TA, tc, Ts, by rw [← hbz.out]; rfl, htch.out, hfin.out.lr S8.out, hmp.out, S8.out.bel⟩
  · cases q4 with
    | false =>
      have hrex : Hid (F10.rex tr = none) := Lib.hid (by
          rw [hrx.out]
          rcases hv4.out with ⟨_, h⟩ | ⟨h, _⟩
          · rw [h]; cases F10.rl (F10.atoms tr []) tr <;> rfl
          · cases h)
      have S2 := Lib.hid S5.out
      have r0 : w5.cell? ⟨fb + 1, 0, none⟩ = some (.string ⟨#[]⟩) := S2.out.cl 0 0 rfl rfl
      have r1 : w5.cell? ⟨fb + 1, 1, none⟩ = some (.bool false) := S2.out.cl 0 1 rfl rfl
      have r2 : w5.cell? ⟨fb + 1, 2, none⟩ = some (.slice none 0 0) := S2.out.cl 0 2 rfl rfl
      have f0 := S2.out.f 0 0 rfl
      have f1 := S2.out.f 0 1 rfl
      have f2 := S2.out.f 0 2 rfl
      have S3 := Lib.hid (((S2.out.set 0 0 (.string ⟨#[]⟩) rfl (by nofun)).set 0 1 (.bool false) rfl (by nofun)).set 0 2 (.slice none 0 0) rfl (by nofun))
      clear S2 S5 hrx hok hv4 hv5 hF5 hb5h hmk hno
      go_wp2
      refine bodyPost_ret (res_rx _ _ (fb + 1) 29 rfl rfl (S3.out.cb 0 rfl)) rfl ?_
      unfold RxV
      rw [hrex.out]
      exact ⟨rfl, S3.out.bel⟩
    | true =>
      have hq5 : q5 = false := by cases q5 with
        | false => rfl
        | true => exact absurd ⟨rfl, rfl⟩ hno
      subst hq5
      have hrex : Hid (F10.rex tr = none) := Lib.hid (by
          rw [hrx.out]
          rcases hv5.out with ⟨_, h⟩ | ⟨h, _⟩
          · rw [h]
          · cases h)
      have S2 := Lib.hid S5.out
      have r0 : w5.cell? ⟨fb + 1, 0, none⟩ = some (.string ⟨#[]⟩) := S2.out.cl 0 0 rfl rfl
      have r1 : w5.cell? ⟨fb + 1, 1, none⟩ = some (.bool false) := S2.out.cl 0 1 rfl rfl
      have r2 : w5.cell? ⟨fb + 1, 2, none⟩ = some (.slice none 0 0) := S2.out.cl 0 2 rfl rfl
      have f0 := S2.out.f 0 0 rfl
      have f1 := S2.out.f 0 1 rfl
      have f2 := S2.out.f 0 2 rfl
      have S3 := Lib.hid (((S2.out.set 0 0 (.string ⟨#[]⟩) rfl (by nofun)).set 0 1 (.bool false) rfl (by nofun)).set 0 2 (.slice none 0 0) rfl (by nofun))
      clear S2 S5 hrx hok hv4 hv5 hF5 hb5h hmk hno
      go_wp2
      refine bodyPost_ret (res_rx _ _ (fb + 1) 29 rfl rfl (S3.out.cb 0 rfl)) rfl ?_
      unfold RxV
      rw [hrex.out]
      exact ⟨rfl, S3.out.bel⟩
end Go.Proofs.YthbkdjbmkhmlnaaDoor
