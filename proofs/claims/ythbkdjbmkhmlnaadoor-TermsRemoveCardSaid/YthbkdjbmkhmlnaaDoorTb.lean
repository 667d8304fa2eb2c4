/- The reference's factors of nodes and of terms. -/
import Derived.Test.YthbkdjbmkhmlnaaDoorTa
import Derived.Test.YthbkdjbmkhmlnaaDoorB27
import Derived.Test.YthbkdjbmkhmlnaaDoorB26
namespace Go.Proofs.YthbkdjbmkhmlnaaDoor
open Go.RowKit
set_option linter.unusedVariables false

/-- The factor of a node; its power is 0 if it is none. -/
def facV (x : Nd) : Fa := if x.o = 1 then ⟨x.s, 1⟩ else if x.o = 2 then ⟨x.s, x.k⟩ else ⟨⟨#[]⟩, 0⟩
theorem res_fct (W : World) (tmps : Array Value) (g t : Nat) {v0 v1 : Value} (ht : tmps.getD 2 undef = .pointer (some ⟨g, 0, none⟩)) (h : Cb W g #[v0, v1] t) : (results Tryd.f60 tmps).run Tryd.prog W = .ok (.agg #[v0, v1]) W := by
  have c0 : W.cell? ⟨g, 0, none⟩ = some v0 := h.cell rfl
  have c1 : W.cell? ⟨g, 1, none⟩ = some v1 := h.cell rfl
  have ht' : tmps[2]?.getD undef = .pointer (some ⟨g, 0, none⟩) := by rw [← ht]; simp [Array.getD_eq_getD_getElem?]
  simp [results, Tryd.results60, go_sem, ht', c0, c1]
set_option maxRecDepth 100000 in
set_option maxHeartbeats 4000000 in
theorem rfactor_any (x : Nd) (w : World) : Calls Tryd.prog 60 #[.agg #[.int .i64 x.o, .string x.s, .int .i64 x.k]] w fun e w' => e = .returned (.agg #[.string (facV x).s, .int .i64 (facV x).k]) ∧ Below w.heap.size w w' := by
  have S1 := Lib.hid (((St.new w).allocAt w.heap.size #[.int .i64 x.o, .string x.s, .int .i64 x.k] 39 (noLof rfl) rfl).allocAt (w.heap.size + 1) #[.string ⟨#[]⟩, .int .i64 0] 37 (noLof rfl) (by simp))
  obtain ⟨w1, hw1⟩ : ∃ W, W = (w.alloc (.cells #[.int .i64 x.o, .string x.s, .int .i64 x.k] 39)).alloc (.cells #[.string ⟨#[]⟩, .int .i64 0] 37) := ⟨_, rfl⟩
  obtain ⟨fb, hfb⟩ : ∃ b, b = w.heap.size := ⟨_, rfl⟩
  rw [← hw1, ← hfb] at S1
  have k0 : w1.cell? ⟨fb, 0, none⟩ = some (.int .i64 x.o) := S1.out.cl 1 0 rfl rfl
  have k1 : w1.cell? ⟨fb, 1, none⟩ = some (.string x.s) := S1.out.cl 1 1 rfl rfl
  have k2 : w1.cell? ⟨fb, 2, none⟩ = some (.int .i64 x.k) := S1.out.cl 1 2 rfl rfl
  have r0 : w1.cell? ⟨fb + 1, 0, none⟩ = some (.string ⟨#[]⟩) := S1.out.cl 0 0 rfl rfl
  have r1 : w1.cell? ⟨fb + 1, 1, none⟩ = some (.int .i64 0) := S1.out.cl 0 1 rfl rfl
  have f0 := S1.out.f 0 0 rfl
  have f1 := S1.out.f 0 1 rfl
  by_cases o1 : x.o = 1
  · have S3 := Lib.hid ((S1.out.set 0 0 (.string x.s) rfl (by nofun)).set 0 1 (.int .i64 1) rfl (by nofun))
    have hfv : Hid (facV x = ⟨x.s, 1⟩) := Lib.hid (by unfold facV; rw [if_pos o1])
    have g1 : (x.o == 1) = true := by rw [beq_iff_eq]; exact o1
    clear S1 o1
    generalize x.o = xo at *
    go_enter Tryd.func60, Tryd.ntmps60
    go_upto_region 1 with fail
    rw [← hw1, ← hfb]
    clear hw1 hfb
    go_wp2
    exact bodyPost_ret (res_fct _ _ (fb + 1) 37 rfl (S3.out.cb 0 rfl)) rfl ⟨by rw [hfv.out], S3.out.bel⟩
  · by_cases o2 : x.o = 2
    · have S3 := Lib.hid ((S1.out.set 0 0 (.string x.s) rfl (by nofun)).set 0 1 (.int .i64 x.k) rfl (by nofun))
      have hfv : Hid (facV x = ⟨x.s, x.k⟩) := Lib.hid (by unfold facV; rw [if_neg o1, if_pos o2])
      have g1 : (x.o == 1) = false := by rw [beq_eq_false_iff_ne]; exact o1
      have g2 : (x.o == 2) = true := by rw [beq_iff_eq]; exact o2
      clear S1 o1 o2
      generalize x.o = xo at *
      go_enter Tryd.func60, Tryd.ntmps60
      go_upto_region 1 with fail
      rw [← hw1, ← hfb]
      clear hw1 hfb
      go_wp2
      exact bodyPost_ret (res_fct _ _ (fb + 1) 37 rfl (S3.out.cb 0 rfl)) rfl ⟨by rw [hfv.out], S3.out.bel⟩
    · have S3 := Lib.hid ((S1.out.set 0 0 (.string ⟨#[]⟩) rfl (by nofun)).set 0 1 (.int .i64 0) rfl (by nofun))
      have hfv : Hid (facV x = ⟨⟨#[]⟩, 0⟩) := Lib.hid (by unfold facV; rw [if_neg o1, if_neg o2])
      have g1 : (x.o == 1) = false := by rw [beq_eq_false_iff_ne]; exact o1
      have g2 : (x.o == 2) = false := by rw [beq_eq_false_iff_ne]; exact o2
      clear S1 o1 o2
      generalize x.o = xo at *
      go_enter Tryd.func60, Tryd.ntmps60
      go_upto_region 1 with fail
      rw [← hw1, ← hfb]
      clear hw1 hfb
      go_wp2
      exact bodyPost_ret (res_fct _ _ (fb + 1) 37 rfl (S3.out.cb 0 rfl)) rfl ⟨by rw [hfv.out], S3.out.bel⟩
/-- A slice that reads as factors, wherever it lies. -/
def SlF (w W : World) (v : Value) (L : List Fa) : Prop := ∃ A c, v = .slice A L.length c ∧ L.length ≤ c ∧ LR faC W A L.length L ∧ Below w.heap.size w W
theorem Gro.slf {w W : World} {t : Nat} {v : Value} {L : List Fa} (G : Gro faC w W [] [] t v L) : SlF w W v L := by
  obtain ⟨A, c, rfl, h1, h2⟩ := G.lrc
  exact ⟨A, c, rfl, h2, h1, G.st.bel⟩
def addV (fs : List Fa) (x : Nd) : List Fa := if 0 < (facV x).k ∧ facV x ∉ fs then fs ++ [facV x] else fs
theorem addV_yes {fs : List Fa} {x : Nd} {f : Fa} (hf : f = facV x) (h1 : 0 < f.k) (h2 : f ∉ fs) : addV fs x = fs ++ [f] := by
  subst hf; unfold addV; rw [if_pos ⟨h1, h2⟩]
theorem addV_no {fs : List Fa} {x : Nd} {f : Fa} (hf : f = facV x) (h : ¬ 0 < f.k ∨ f ∈ fs) : addV fs x = fs := by
  subst hf; unfold addV; rw [if_neg (fun hh => h.elim (fun h => h hh.1) (fun h => hh.2 h))]
theorem addV_len (fs : List Fa) (x : Nd) : (addV fs x).length ≤ fs.length + 1 := by
  unfold addV; split <;> simp
theorem fold_len : ∀ (L : List Nd) (fs : List Fa), (L.foldl addV fs).length ≤ fs.length + L.length
  | [], fs => Nat.le_refl _
  | x :: L, fs => by
    have h1 := fold_len L (addV fs x)
    have h2 := addV_len fs x
    rw [List.foldl_cons, List.length_cons]; omega
theorem ix_lt {L : List Fa} {f : Fa} {z : Int} (h : Ix L f z) : decide (z < 0) = decide (f ∉ L) := by
  rcases h with ⟨rfl, h⟩ | ⟨h, rfl⟩
  · rw [decide_eq_true h]; rfl
  · rw [decide_eq_false (show ¬ ((L.idxOf f : Nat) : Int) < 0 by omega), decide_eq_false (fun hn => hn h)]
set_option maxRecDepth 100000 in
set_option maxHeartbeats 4000000 in
theorem ratoms_any (L : List Nd) (A : Option Addr) (n c : Nat) (w : World) (h : LR ndC w A n L) (hn : n ≤ 1000) : Calls Tryd.prog 27 #[.slice A n c] w fun e w' => ∃ v, e = .returned v ∧ SlF w w' v (L.foldl addV []) := by
  have hlen := Lib.hid h.len
  have hb := Lib.hid hn
  replace h := Lib.hid h
  clear hn
  go_enter Tryd.func27, Tryd.ntmps27
  go_wp2
  go_loopw [3, 4] (fun av iv wr => ∃ i : Nat, i ≤ n ∧ iv = .int .i64 i ∧ Gro faC w wr [] [] 37 av ((L.take i).foldl addV [])) (fun _ iv _ => n - (intOf iv).toNat)
  case atStart => exact ⟨0, Nat.zero_le _, rfl, Gro.nil_ _ (St.new w) _⟩
  case round =>
    obtain ⟨i, hin, rfl, G⟩ := hrel
    by_cases hlt : i < n
    · obtain ⟨b, o, y, rfl, hy, hym, e0, e1, e2⟩ := nd_get (h.out.bel G.st.bel) hlt
      have hsn : (L.take (i + 1)).foldl addV [] = addV ((L.take i).foldl addV []) y := by rw [take_snoc_of hy, List.foldl_append]; rfl
      have hle : ((L.take i).foldl addV []).length ≤ 1000 := by
        refine Nat.le_trans (fold_len _ _) ?_
        rw [List.length_take]
        have := hb.out
        simp; omega
      have hF := Lib.hid (rfactor_any y wr)
      have hih := Lib.hid hlt
      have g1 : (i : Int) < (n : Int) := by omega
      have g2 : (0 : Int) ≤ (i : Int) := by omega
      obtain ⟨f, hf⟩ : ∃ f, f = facV y := ⟨_, rfl⟩
      rw [← hf] at hF
      have hfh := Lib.hid hf
      replace hsn := Lib.hid hsn
      have hleh := Lib.hid hle
      replace G := Lib.hid G
      clear hlt hin hy hym hle hf
      generalize (L.take i).foldl addV [] = M at *
      go_wp2_with fail
      refine hF.out.mono ?_
      rintro e w1 ⟨rfl, bb⟩
      have G1 := Lib.hid ((G.out.call bb).alloc #[.string f.s, .int .i64 f.k] 37 (noLof rfl))
      obtain ⟨xb, hxb⟩ : ∃ b, b = w1.heap.size := ⟨_, rfl⟩
      obtain ⟨w2, hw2⟩ : ∃ W, W = w1.alloc (.cells #[.string f.s, .int .i64 f.k] 37) := ⟨_, rfl⟩
      rw [← hxb, ← hw2] at G1
      clear hF bb G e0 e1 e2
      go_upto_region 6 with fail
      rw [← hxb, ← hw2]
      clear hxb hw2
      have x0 : w2.cell? ⟨xb, 0, none⟩ = some (.string f.s) := G1.out.st.cl 0 0 rfl rfl
      have x1 : w2.cell? ⟨xb, 1, none⟩ = some (.int .i64 f.k) := G1.out.st.cl 0 1 rfl rfl
      by_cases hk : 0 < f.k
      · obtain ⟨A1, c1, rfl, hl1, hc1⟩ := G1.out.lrc
        have hP := Lib.hid (place_any M A1 M.length c1 f w2 hl1 (by have := hleh.out; omega))
        have hkh := Lib.hid hk
        clear hl1 hc1
        go_wp2_with fail
        refine hP.out.mono ?_
        rintro e w3 ⟨⟨z, rfl, hz⟩, bb⟩
        have G3 := Lib.hid (G1.out.call bb)
        have hzl := ix_lt hz
        clear hP bb G1 hz x0 x1
        obtain ⟨q, hq⟩ : ∃ q, q = decide (f ∉ M) := ⟨_, rfl⟩
        rw [← hq] at hzl
        have x0 : w3.cell? ⟨xb, 0, none⟩ = some (.string f.s) := G3.out.st.cl 0 0 rfl rfl
        have x1 : w3.cell? ⟨xb, 1, none⟩ = some (.int .i64 f.k) := G3.out.st.cl 0 1 rfl rfl
        cases q with
        | true =>
          have hnew : Hid ((L.take (i + 1)).foldl addV [] = M ++ [f]) := Lib.hid (by rw [hsn.out, addV_yes hfh.out hkh.out (of_decide_eq_true hq.symm)])
          have GA := Lib.hid (G3.out.sub (fun _ _ => fa_in _))
          have GB := Lib.hid (GA.out.alloc #[.string f.s, .int .i64 f.k] 37 (noLof rfl))
          have hll := Lib.hid hleh.out
          have hzz := of_decide_eq_true hzl
          clear hq hsn G3 hzl hk
          go_wp2_with (at_builtin; refine Gro.wp2 rfl (.tmp 26) (.tmp 28) 34 rfl (.agg #[.string ⟨#[]⟩, .int .i64 0]) 24 Tryd.underlying34 (by kernel_rfl) rfl (fun v hv z e => by simp [Value.cells] at hv; subst e; simp at hv) rfl GB.out w3.heap.size f rfl (GB.out.st.cb 0 rfl) (fa_in _) (by have := hll.out; omega) (by have := hll.out; unfold maxLen; omega) ?_)
          intro av1 w6 G6 hmk
          replace G6 := Lib.hid (G6.sub (fun _ _ => fa_in _))
          rw [← hnew.out] at G6
          clear GA GB hmk hnew x0 x1
          have hlt := hih.out
          have hbb := hb.out
          go_wp2
          go_roundw
          case rel => exact ⟨i + 1, by omega, by go_num, G6.out⟩
          case measure => simp [intOf]; omega
        | false =>
          have hnew : Hid ((L.take (i + 1)).foldl addV [] = M) := Lib.hid (by rw [hsn.out, addV_no hfh.out (.inr (Decidable.of_not_not (of_decide_eq_false hq.symm)))])
          have GA := Lib.hid (G3.out.sub (fun _ _ => fa_in _))
          have hzz := of_decide_eq_false hzl
          clear hq hsn G3 hzl hk x0 x1
          have hlt := hih.out
          have hbb := hb.out
          go_wp2
          go_roundw
          case rel => exact ⟨i + 1, by omega, by go_num, by rw [hnew.out]; exact GA.out⟩
          case measure => simp [intOf]; omega
      · have hnew : Hid ((L.take (i + 1)).foldl addV [] = M) := Lib.hid (by rw [hsn.out, addV_no hfh.out (.inl hk)])
        have GA := Lib.hid (G1.out.sub (fun _ _ => fa_in _))
        rw [← hnew.out] at GA
        clear hsn G1
        have hlt := hih.out
        have hbb := hb.out
        go_wp2
        go_roundw
        case rel => exact ⟨i + 1, by omega, by go_num, GA.out⟩
        case measure => simp [intOf]; omega
    · obtain rfl : i = n := by omega
      rw [List.take_of_length_le (by rw [hlen.out]; exact Nat.le_refl _)] at G
      have G2 := Lib.hid G.slf
      clear hlt hin G
      go_wp2
      go_ret
      exact ⟨_, rfl, G2.out⟩
end Go.Proofs.YthbkdjbmkhmlnaaDoor
