/- The reference's products of lists, * and /. -/
import Derived.Test.YthbkdjbmkhmlnaaDoorB26
import Derived.Test.YthbkdjbmkhmlnaaDoorB23
namespace Go.Proofs.YthbkdjbmkhmlnaaDoor
open Go.RowKit
set_option linter.unusedVariables false

/-- A slice that reads as a list of terms, wherever it lies. -/
def SlU (w W : World) (v : Value) (L : List Nat) : Prop := ∃ A c, v = .slice A L.length c ∧ L.length ≤ c ∧ LR uC W A L.length L ∧ Below w.heap.size w W
theorem Gro.slu {w W : World} {t : Nat} {v : Value} {L : List Nat} (G : Gro uC w W [] [] t v L) : SlU w W v L := by
  obtain ⟨A, c, rfl, h1, h2⟩ := G.lrc
  exact ⟨A, c, rfl, h2, h1, G.st.bel⟩
theorem SlU.rebase {w w1 W : World} {v : Value} {L : List Nat} (hb : Below w.heap.size w w1) (h : SlU w1 W v L) : SlU w W v L := by
  obtain ⟨A, c, rfl, h1, h2, h3⟩ := h
  exact ⟨A, c, rfl, h1, h2, hb.trans (h3.mono hb.size)⟩
theorem SlU.bel {w W W' : World} {v : Value} {L : List Nat} (h : SlU w W v L) (hb : Below W.heap.size W W') : SlU w W' v L := by
  obtain ⟨A, c, rfl, h1, h2, h3⟩ := h
  exact ⟨A, c, rfl, h1, h2.bel hb, h3.trans (hb.mono h3.size)⟩
theorem rplus_u (L M : List Nat) (A : Option Addr) (n c : Nat) (B : Option Addr) (m d : Nat) (w : World) (h : LR uC w A n L) (hB : LR uC w B m M) (hn : n ≤ 40000) (hm : m ≤ 40000) : Calls Tryd.prog 62 #[.slice A n c, .slice B m d] w fun e w' => ∃ v, e = .returned v ∧ SlU w w' v (F10.pls L M) :=
  (rplus_any L M A n c B m d w h hB hn hm).mono fun e w' ⟨v, he, G⟩ => ⟨v, he, G.slu⟩
theorem rminus_u (L M : List Nat) (A : Option Addr) (n c : Nat) (B : Option Addr) (m d : Nat) (w : World) (h : LR uC w A n L) (hB : LR uC w B m M) (hn : n ≤ 90000) (hm : m ≤ 90000) : Calls Tryd.prog 61 #[.slice A n c, .slice B m d] w fun e w' => ∃ v, e = .returned v ∧ SlU w w' v (F10.mns L M) :=
  (rminus_any L M A n c B m d w h hB hn hm).mono fun e w' ⟨v, he, G⟩ => ⟨v, he, G.slu⟩

set_option maxRecDepth 100000 in
set_option maxHeartbeats 4000000 in
theorem rcross_any (a b : List Nat) (A : Option Addr) (n c : Nat) (B : Option Addr) (m d : Nat) (w : World) (h : LR uC w A n a) (hB : LR uC w B m b) (hn : n ≤ 100) (hm : m ≤ 100) (ha : U64 a) (hb : U64 b) : Calls Tryd.prog 66 #[.slice A n c, .slice B m d] w fun e w' => ∃ v, e = .returned v ∧ SlU w w' v (F10.crs a b) := by
  have hlen := Lib.hid h.len
  have hlem := Lib.hid hB.len
  replace h := Lib.hid h
  replace hB := Lib.hid hB
  have hnn := Lib.hid hn
  have hmm := Lib.hid hm
  replace ha := Lib.hid ha
  replace hb := Lib.hid hb
  have hpl : Hid (∀ i, (F10.prods (a.take i) b).length ≤ 10000) := Lib.hid fun i => by
    rw [prods_len, List.length_take, hlem.out]
    exact Nat.le_trans (Nat.mul_le_mul (Nat.le_trans (Nat.min_le_right _ _) (by rw [hlen.out]; exact hn)) hm) (by decide)
  clear hn hm
  go_enter Tryd.func66, Tryd.ntmps66
  go_wp2
  go_loopw [5, 6] (fun av iv wr => ∃ i : Nat, i ≤ n ∧ iv = .int .i64 i ∧ SlU w wr av (F10.pls [] (F10.prods (a.take i) b))) (fun _ iv _ => n - (intOf iv).toNat)
  case atStart => exact ⟨0, Nat.zero_le _, rfl, none, 0, rfl, Nat.le_refl _, LR.nil_ _ _ _, Below.refl _ _⟩
  case round =>
    obtain ⟨i, hin, rfl, G⟩ := hrel
    by_cases hlt : i < n
    · have Bi : Below w.heap.size w wr := by obtain ⟨_, _, _, _, _, h3⟩ := G; exact h3
      obtain ⟨q, o, x, rfl, hx, hxm, e0⟩ := u_get (h.out.bel Bi) hlt
      have hih := Lib.hid hlt
      have g1 : (i : Int) < (n : Int) := by omega
      have g2 : (0 : Int) ≤ (i : Int) := by omega
      have hx64 := Lib.hid (ha.out x hxm)
      have hpt := Lib.hid (prods_take (b := b) hx)
      have hpli := Lib.hid (hpl.out i)
      have hx0 : Hid (w.cell? ⟨q, o + i, none⟩ = some (.int .u64 (x : Int))) := Lib.hid (by
        obtain ⟨q', o', x', hA', hx', _, e1⟩ := u_get h.out hlt
        injection hA' with hA'
        injection hA' with k1 k2
        subst k1 k2
        rw [hx] at hx'
        injection hx' with hx'
        subst hx'
        exact e1)
      replace G := Lib.hid G
      clear hlt hin hx hxm e0 Bi
      go_wp2
      go_loopw [5, 7] (fun av iv wr => ∃ k : Nat, k ≤ m ∧ iv = .int .i64 k ∧ SlU w wr av (F10.pls [] (F10.prods (a.take i) b ++ (b.take k).map (x ||| ·)))) (fun _ iv _ => m - (intOf iv).toNat)
      case atStart => exact ⟨0, Nat.zero_le _, rfl, by rw [List.take_zero, List.map_nil, List.append_nil]; exact G.out⟩
      case round =>
        clear G
        obtain ⟨k, hkm, rfl, G⟩ := hrel
        by_cases hkt : k < m
        · obtain ⟨A1, c1, rfl, hc1, hl1, B1⟩ := G
          obtain ⟨q2, o2, y, rfl, hy, hym, y0⟩ := u_get (hB.out.bel B1) hkt
          have hkh := Lib.hid hkt
          have k1 : (k : Int) < (m : Int) := by omega
          have k2 : (0 : Int) ≤ (k : Int) := by omega
          have hor := u64_or_nat x y hx64.out (hb.out y hym)
          have hnew : Hid (F10.pls [] (F10.prods (a.take i) b ++ (b.take (k + 1)).map (x ||| ·)) = F10.pls (F10.pls [] (F10.prods (a.take i) b ++ (b.take k).map (x ||| ·))) [x ||| y]) := Lib.hid (by rw [take_snoc_of hy, ← F10.pls_app]; simp)
          have hll : Hid ((F10.pls [] (F10.prods (a.take i) b ++ (b.take k).map (x ||| ·))).length ≤ 10200) := Lib.hid (by
            refine Nat.le_trans (pls_len _ _) ?_
            rw [List.length_append, List.length_map, List.length_take]
            have := hpli.out
            have := hmm.out
            simp; omega)
          have x0 : Hid (wr.cell? ⟨q, o + i, none⟩ = some (.int .u64 (x : Int))) := Lib.hid (bel_cell B1 hx0.out)
          replace y0 := Lib.hid y0
          replace B1 := Lib.hid B1
          replace hl1 := Lib.hid hl1
          replace hc1 := Lib.hid hc1
          have hkm2 := Lib.hid hkm
          clear hkt hkm hy hym
          generalize F10.pls [] (F10.prods (a.take i) b ++ (b.take k).map (x ||| ·)) = M at *
          obtain ⟨mn, hmn⟩ : ∃ k, k = M.length := ⟨_, rfl⟩
          rw [← hmn] at hl1 hc1 hll
          rw [← hmn]
          replace hmn := Lib.hid hmn
          have hg1 := hih.out
          have g1 : (i : Int) < (n : Int) := by omega
          have g2 : (0 : Int) ≤ (i : Int) := by omega
          clear hg1
          go_upto_region 8 with fail
          refine Wl.start (fun V => Below wr.heap.size wr V) [] (by kernel_rfl) ?_
          have hS : Below wr.heap.size wr wr.drew := (Below.refl _ wr).drew
          generalize wr.drew = w7 at *
          refine Wl.t (i := 0) (v := .slice A1 mn c1) (some 20) at0 (hy := fun _ _ => by go_simp) (hS := hS) (h := ?_)
          refine Wl.t (i := 1) (v := .slice (some ⟨q, o, none⟩) n c) (some 21) at1 (hy := fun _ _ => by go_simp) (hS := hS) (h := ?_)
          refine Wl.t (i := 2) (v := .int .i64 (i : Nat)) (some 22) at2 (hy := fun _ _ => by go_simp) (hS := hS) (h := ?_)
          refine Wl.t (i := 3) (v := .pointer (some ⟨q, o + i, none⟩)) (some 23) at3 (hy := fun _ _ => by go_simp) (hS := hS) (h := ?_)
          refine Wl.t (i := 4) (v := .int .u64 (x : Int)) (some 24) at4 (hy := fun V h => by (have k0 := bel_cell h x0.out; clear h; go_simp)) (hS := hS) (h := ?_)
          refine Wl.t (i := 5) (v := .slice (some ⟨q2, o2, none⟩) m d) (some 25) at5 (hy := fun _ _ => by go_simp) (hS := hS) (h := ?_)
          refine Wl.t (i := 6) (v := .int .i64 (k : Nat)) (some 26) at6 (hy := fun _ _ => by go_simp) (hS := hS) (h := ?_)
          refine Wl.t (i := 7) (v := .pointer (some ⟨q2, o2 + k, none⟩)) (some 27) at7 (hy := fun _ _ => by go_simp) (hS := hS) (h := ?_)
          refine Wl.t (i := 8) (v := .int .u64 (y : Int)) (some 28) at8 (hy := fun V h => by (have k0 := bel_cell h y0.out; clear h; go_simp)) (hS := hS) (h := ?_)
          refine Wl.t (i := 9) (v := .int .u64 ((x ||| y : Nat) : Int)) (some 29) at9 (hy := fun _ _ => by go_simp) (hS := hS) (h := ?_)
          try simp only [Act.put, List.setIfInBounds_toArray, List.set_cons_zero, List.set_cons_succ]
          refine Wl.g (i := 10) at10 (by kernel_rfl) (by kernel_rfl) fun K' hK => ?_
          go_simp
          have SA := Lib.hid ((St.new w7).alloc #[.int .u64 ((x ||| y : Nat) : Int)] 64 (noLof rfl))
          have hS8 := hS.trans (SA.out.bel.mono hS.size)
          have hone := Lib.hid (St_glr (C := uC) (L := [x ||| y]) SA.out 1 rfl (fun _ _ => trivial))
          refine hK.out _ _ hS8 ?_
          clear hK K' SA
          try simp only [Act.put, List.setIfInBounds_toArray, List.set_cons_zero, List.set_cons_succ]
          refine Wl.g (i := 11) at11 (by kernel_rfl) (by kernel_rfl) fun K' hK => ?_
          refine oper_call (f := 62) (args := #[.slice A1 mn c1, .slice (some ⟨w7.heap.size, 0, none⟩) 1 1]) rfl (by kernel_rfl) ((rplus_u M [x ||| y] A1 mn c1 (some ⟨w7.heap.size, 0, none⟩) 1 1 _ (hl1.out.bel hS8) hone.out (by have := hll.out; omega) (by decide)).mono ?_)
          rintro e w9 ⟨v, rfl, hU⟩
          have hU2 := Lib.hid (hU.rebase (B1.out.trans (hS8.mono B1.out.size)))
          have hS9 : Below wr.heap.size wr w9 := by obtain ⟨_, _, _, _, _, h3⟩ := hU; exact hS8.trans (h3.mono hS8.size)
          refine ⟨_, rfl, hK.out _ _ hS9 ?_⟩
          clear hK K' hU hone hS8
          try simp only [Act.put, List.setIfInBounds_toArray, List.set_cons_zero, List.set_cons_succ]
          refine Wl.g (i := 12) at12 (by kernel_rfl) (by kernel_rfl) fun K' hK => ?_
          go_simp
          refine hK.out _ _ hS9 ?_
          clear hK K'
          try simp only [Act.put, List.setIfInBounds_toArray, List.set_cons_zero, List.set_cons_succ]
          refine Wl.done (by kernel_rfl) ?_
          rw [← hnew.out] at hU2
          have hkt := hkh.out
          have hbb := hmm.out
          clear hS9 hS x0 y0 hl1 hc1 hnew hll hor
          try go_simp
          try go_wp2
          go_roundw
          case rel => exact ⟨k + 1, by omega, by go_num, hU2.out⟩
          case measure => simp [intOf]; omega
        · obtain rfl : k = m := by omega
          have hfin : F10.prods (a.take i) b ++ (b.take k).map (x ||| ·) = F10.prods (a.take (i + 1)) b := by
            rw [hpt.out, List.take_of_length_le (l := b) (by rw [hlem.out]; exact Nat.le_refl _)]
          rw [hfin] at G
          replace G := Lib.hid G
          clear hkt hkm hfin
          have hlt := hih.out
          have hbb := hnn.out
          go_wp2
          go_roundw
          case rel => exact ⟨i + 1, by omega, by go_num, G.out⟩
          case measure => simp [intOf]; omega
    · obtain rfl : i = n := by omega
      have hfin : F10.prods (a.take i) b = F10.prods a b := by rw [List.take_of_length_le (by rw [hlen.out]; exact Nat.le_refl _)]
      rw [hfin] at G
      replace G := Lib.hid G
      clear hlt hin hfin
      go_wp2
      go_ret
      exact ⟨_, rfl, G.out⟩
end Go.Proofs.YthbkdjbmkhmlnaaDoor
namespace Go.Proofs.YthbkdjbmkhmlnaaDoor
open Go.RowKit
set_option linter.unusedVariables false

/-- A slice that reads as nodes, wherever it lies. -/
def SlN (w W : World) (v : Value) (L : List Nd) : Prop := ∃ A c, v = .slice A L.length c ∧ L.length ≤ c ∧ LR ndC W A L.length L ∧ Below w.heap.size w W
theorem SlN.rebase {w w1 W : World} {v : Value} {L : List Nd} (hb : Below w.heap.size w w1) (h : SlN w1 W v L) : SlN w W v L := by
  obtain ⟨A, c, rfl, h1, h2, h3⟩ := h
  exact ⟨A, c, rfl, h1, h2, hb.trans (h3.mono hb.size)⟩
theorem SlN.bel {w W W' : World} {v : Value} {L : List Nd} (h : SlN w W v L) (hb : Below W.heap.size W W') : SlN w W' v L := by
  obtain ⟨A, c, rfl, h1, h2, h3⟩ := h
  exact ⟨A, c, rfl, h1, h2.bel hb, h3.trans (hb.mono h3.size)⟩
theorem SlN.old {w W : World} {v : Value} {L : List Nd} (h : SlN w W v L) : Below w.heap.size w W := by
  obtain ⟨A, c, _, _, _, h3⟩ := h
  exact h3
theorem Gro.sln {w W : World} {t : Nat} {v : Value} {L : List Nd} (G : Gro ndC w W [] [] t v L) : SlN w W v L := by
  obtain ⟨A, c, rfl, h1, h2⟩ := G.lrc
  exact ⟨A, c, rfl, h2, h1, G.st.bel⟩

set_option maxRecDepth 100000 in
set_option maxHeartbeats 4000000 in
theorem join_any (op : Int) (L M : List Nd) (A : Option Addr) (n c : Nat) (B : Option Addr) (m d : Nat) (w : World) (h : LR ndC w A n L) (hB : LR ndC w B m M) (hn : n ≤ 1000) (hm : m ≤ 1000) : Calls Tryd.prog 19 #[.int .i64 op, .slice A n c, .slice B m d] w fun e w' => ∃ v, e = .returned v ∧ SlN w w' v (⟨op, ⟨#[]⟩, 0⟩ :: (L ++ M)) := by
  have e1 := h.len
  have e2 := hB.len
  subst e1 e2
  have S1 := Lib.hid ((St.new w).alloc #[.int .i64 op, .string ⟨#[]⟩, .int .i64 0] 39 (noLof rfl))
  have G1 : Hid (Gro ndC w (w.alloc (.cells #[.int .i64 op, .string ⟨#[]⟩, .int .i64 0] 39)) [] [] 39 (.slice (some ⟨w.heap.size, 0, none⟩) 1 1) [⟨op, ⟨#[]⟩, 0⟩]) := Lib.hid (Gro.one (C := ndC) (y := ⟨op, ⟨#[]⟩, 0⟩) S1.out (nd_in _))
  have h1 := Lib.hid (h.bel S1.out.bel)
  have hB1 := Lib.hid hB
  have hnb := Lib.hid hn
  have hmb := Lib.hid hm
  clear h hB hn hm
  go_enter Tryd.func19, Tryd.ntmps19
  go_wp2_with (at_builtin; refine Gro.wpm rfl (.tmp 9) (.tmp 10) 22 rfl (.agg #[.int .i64 0, .string ⟨#[]⟩, .int .i64 0]) 32 Tryd.underlying22 (by kernel_rfl) rfl (fun v hv z e => by simp [Value.cells] at hv; subst e; simp at hv) rfl G1.out L A c rfl h1.out (fun y _ => nd_in y) (by have := hnb.out; simp; omega) (by have := hnb.out; unfold maxLen; simp; omega) ?_)
  intro v1 w1 G2
  replace G2 := Lib.hid G2
  have hB2 := Lib.hid (hB1.out.bel G2.out.st.bel)
  clear G1 S1 h1
  go_wp2_with (at_builtin; refine Gro.wpm rfl (.tmp 11) (.tmp 12) 22 rfl (.agg #[.int .i64 0, .string ⟨#[]⟩, .int .i64 0]) 32 Tryd.underlying22 (by kernel_rfl) rfl (fun v hv z e => by simp [Value.cells] at hv; subst e; simp at hv) rfl G2.out M B d rfl hB2.out (fun y _ => nd_in y) (by have := hnb.out; have := hmb.out; simp; omega) (by have := hnb.out; have := hmb.out; unfold maxLen; simp; omega) ?_)
  intro v2 w2 G3
  have G4 := Lib.hid G3.sln
  clear G2 hB2 G3
  go_wp2
  go_ret
  exact ⟨_, rfl, G4.out⟩
end Go.Proofs.YthbkdjbmkhmlnaaDoor
