/- Lists of records that are read: equal lists, light lists. -/
import Derived.Test.YtanipgjojacbfaaDoorC6
namespace Go.Proofs.YtanipgjojacbfaaDoor
open Go.RowKit
set_option linter.unusedVariables false

/-- A slice that reads as a list of fields. -/
structure SR (W : World) (A : Option Addr) (n : Nat) (xs : List Bs) : Prop where
  len : xs.length = n
  mem : n = 0 ∨ ∃ b o, A = some ⟨b, o, none⟩ ∧ b < W.heap.size ∧ ∀ (i : Nat) (x : Bs), xs[i]? = some x → W.cell? ⟨b, o + i, none⟩ = some (sV x)
/-- A slice that reads as a list of records. -/
structure MR (W : World) (A : Option Addr) (n : Nat) (R : List Row) : Prop where
  len : R.length = n
  mem : n = 0 ∨ ∃ b o, A = some ⟨b, o, none⟩ ∧ b < W.heap.size ∧ ∀ (i : Nat) (r : Row), R[i]? = some r → W.cell? ⟨b, o + i, none⟩ = some r.val
  row : ∀ r ∈ R, SR W r.A r.fs.length r.fs
section
variable {W W' : World} {A : Option Addr} {n c : Nat} {xs : List Bs} {R : List Row} {base : Nat}
theorem SR.bel (h : SR W A n xs) (hb : Below W.heap.size W W') : SR W' A n xs := by
  refine ⟨h.len, ?_⟩
  rcases h.mem with h0 | ⟨b, o, hA, hlt, hc⟩
  · exact .inl h0
  · exact .inr ⟨b, o, hA, Nat.lt_of_lt_of_le hlt hb.size, fun i x hi => (World.cell?_of_block (hb.block b hlt)).trans (hc i x hi)⟩
theorem MR.bel (h : MR W A n R) (hb : Below W.heap.size W W') : MR W' A n R := by
  refine ⟨h.len, ?_, fun r hr => (h.row r hr).bel hb⟩
  rcases h.mem with h0 | ⟨b, o, hA, hlt, hc⟩
  · exact .inl h0
  · exact .inr ⟨b, o, hA, Nat.lt_of_lt_of_le hlt hb.size, fun i x hi => (World.cell?_of_block (hb.block b hlt)).trans (hc i x hi)⟩
theorem own_sr (h : W.ownsRow base tStr 1 (.slice A xs.length c) xs.length (xs.map sV)) : SR W A xs.length xs := by
  refine ⟨rfl, ?_⟩
  rcases h.2 with ⟨h1, h2⟩ | ⟨g, cap, cur, hv, h3, h4, h5, h6, h7, h8⟩
  · exact .inl h2
  · injection hv with hA _ hc
    refine .inr ⟨g, 0, hA, ?_, fun i x hx => ?_⟩
    · rcases Nat.lt_or_ge g W.heap.size with hl | hl
      · exact hl
      · rw [Array.getElem?_eq_none hl] at h4; cases h4
    · have hi : i < xs.length := (List.getElem?_eq_some_iff.1 hx).1
      rw [Nat.zero_add, Lib.cell_of_heap h4]
      have : (cur.toList.take (xs.length * 1))[i]? = (xs.map sV)[i]? := by rw [h8]
      rw [List.getElem?_take, if_pos (by omega), List.getElem?_map, hx] at this
      simpa using this
theorem LstM.mr (h : LstM W base A c R) : MR W A R.length R := by
  refine ⟨rfl, ?_, fun r hr => own_sr (h.2 r hr).1⟩
  rcases h.1.2 with ⟨h1, h2⟩ | ⟨g, cap, cur, hv, h3, h4, h5, h6, h7, h8⟩
  · exact .inl h2
  · injection hv with hA _ hc
    refine .inr ⟨g, 0, hA, ?_, fun i x hx => ?_⟩
    · rcases Nat.lt_or_ge g W.heap.size with hl | hl
      · exact hl
      · rw [Array.getElem?_eq_none hl] at h4; cases h4
    · have hi : i < R.length := (List.getElem?_eq_some_iff.1 hx).1
      rw [Nat.zero_add, Lib.cell_of_heap h4]
      have : (cur.toList.take (R.length * 1))[i]? = (R.map Row.val)[i]? := by rw [h8]
      rw [List.getElem?_take, if_pos (by omega), List.getElem?_map, hx] at this
      simpa using this
theorem SR.get (h : SR W A n xs) {i : Nat} (hi : i < n) : ∃ b o x, A = some ⟨b, o, none⟩ ∧ xs[i]? = some x ∧ W.cell? ⟨b, o + i, none⟩ = some (.string (bA x)) := by
  have hl := h.len
  rcases h.mem with h0 | ⟨b, o, hA, _, hc⟩
  · omega
  · have e : xs[i]? = some xs[i] := List.getElem?_eq_getElem (by omega)
    exact ⟨b, o, xs[i], hA, e, hc i _ e⟩
theorem MR.get (h : MR W A n R) {i : Nat} (hi : i < n) : ∃ b o r, A = some ⟨b, o, none⟩ ∧ R[i]? = some r ∧ r ∈ R ∧ W.cell? ⟨b, o + i, none⟩ = some (.slice r.A r.fs.length r.c) := by
  have hl := h.len
  rcases h.mem with h0 | ⟨b, o, hA, _, hc⟩
  · omega
  · have e : R[i]? = some R[i] := List.getElem?_eq_getElem (by omega)
    exact ⟨b, o, R[i], hA, e, List.getElem_mem _, hc i _ e⟩
end
theorem bA_inj {x y : Bs} (h : bA x = bA y) : x = y := by
  have := congrArg (fun s : ByteArray => s.data.toList) h
  exact this

theorem bA_toList (x : Bs) : (bA x).toList = x := by rw [Lib.toList_data]; rfl
theorem str_ne {x y : Bs} (h : ¬ x = y) : ((bA x).toList == (bA y).toList) = false := by
  rw [bA_toList, bA_toList, beq_eq_false_iff_ne]; exact h
theorem str_eq {x y : Bs} (h : x = y) : ((bA x).toList == (bA y).toList) = true := by rw [h]; simp

set_option maxRecDepth 100000 in
set_option maxHeartbeats 2000000 in
theorem sameList_any (xs ys : List Bs) (A B : Option Addr) (n c m e : Nat) (w : World) (h1 : SR w A n xs) (h2 : SR w B m ys) (hn : n ≤ 9223372036854775807) (hm : m ≤ 9223372036854775807) :
    Calls Tryd.prog 17 #[.slice A n c, .slice B m e] w fun e w' => e = .returned (.bool (decide (xs = ys))) ∧ ∃ q, w' = w.drewN q := by
  have hl1 := h1.len
  have hl2 := h2.len
  by_cases hnm : n = m
  · subst hnm
    have g1 : ((n : Int) != (n : Int)) = false := by simp
    replace h1 := Lib.hid h1
    replace h2 := Lib.hid h2
    replace hl1 := Lib.hid hl1
    replace hl2 := Lib.hid hl2
    have hnh := Lib.hid hn
    clear hm hn
    go_enter Tryd.func17, Tryd.ntmps17
    go_wp2
    go_loopw [5] (fun iv wr => ∃ i : Nat, i ≤ n ∧ iv = .int .i64 i ∧ (∃ q, wr = w.drewN q) ∧ xs.take i = ys.take i) (fun iv _ => n - (intOf iv).toNat)
    case atStart => exact ⟨0, Nat.zero_le _, rfl, ⟨0, rfl⟩, rfl⟩
    case round =>
      obtain ⟨i, hin, rfl, ⟨q, rfl⟩, hall⟩ := hrel
      by_cases hlt : i < n
      · have hbel := below_drewN (Below.refl w.heap.size w) q
        obtain ⟨b1, o1, x, rfl, hx, e1⟩ := (h1.out.bel hbel).get hlt
        obtain ⟨b2, o2, y, rfl, hy, e2⟩ := (h2.out.bel hbel).get hlt
        have g2 : (i : Int) < (n : Int) := by omega
        have g3 : (0 : Int) ≤ (i : Int) := by omega
        have hlh := Lib.hid hlt
        have hi63 : (i : Int) < 9223372036854775807 := by have := hnh.out; omega
        replace hall := Lib.hid hall
        replace hx := Lib.hid hx
        replace hy := Lib.hid hy
        clear hin hbel
        generalize hwq : w.drewN q = wq at *
        replace hwq := Lib.hid hwq
        clear hlt
        by_cases hxy : x = y
        · subst hxy
          go_wp2
          go_quiet (fail)
          have hq2 : Hid (wq.drewN nq = w.drewN (q + nq)) := Lib.hid (by rw [← hwq.out, World.drewN_drewN])
          have hall2 : Hid (xs.take (i + 1) = ys.take (i + 1)) := Lib.hid (by rw [List.take_add_one, List.take_add_one, hall.out, hx.out, hy.out])
          generalize wq.drewN nq = w2 at *
          go_wp2
          go_roundw
          case rel => exact ⟨i + 1, by have := hlh.out; omega, by go_num, ⟨_, hq2.out⟩, hall2.out⟩
          case measure => simp [intOf]; have := hlh.out; omega
        · have g5 := str_ne hxy
          have hfin : Hid (xs ≠ ys) := Lib.hid (fun e => hxy (by have := hx.out; rw [e, hy.out] at this; exact (Option.some.inj this).symm))
          clear hxy
          go_wp2
          go_quiet (fail)
          have hq2 : Hid (wq.drewN nq = w.drewN (q + nq)) := Lib.hid (by rw [← hwq.out, World.drewN_drewN])
          generalize wq.drewN nq = w2 at *
          go_wp2
          go_ret
          exact ⟨by rw [decide_eq_false hfin.out]; rfl, _, hq2.out⟩
      · obtain rfl : i = n := by omega
        have hfin : Hid (xs = ys) := Lib.hid (by
          have h := hall
          rw [List.take_of_length_le (by rw [hl1.out]; exact Nat.le_refl _), List.take_of_length_le (by rw [hl2.out]; exact Nat.le_refl _)] at h
          exact h)
        clear hall hin hlt
        go_wp2
        go_ret
        exact ⟨by rw [decide_eq_true hfin.out]; rfl, _, rfl⟩
  · have g1 : ((n : Int) != (m : Int)) = true := by simp; omega
    have hfin : Hid (xs ≠ ys) := Lib.hid (fun e => hnm (by rw [← hl1, ← hl2, e]))
    clear hl1 hl2 h1 h2 hnm hn hm
    go_enter Tryd.func17, Tryd.ntmps17
    go_wp2
    go_ret
    exact ⟨by rw [decide_eq_false hfin.out]; rfl, 0, rfl⟩

set_option maxRecDepth 100000 in
set_option maxHeartbeats 2000000 in
theorem same_any (R S : List Row) (A B : Option Addr) (n c m e : Nat) (w : World) (h1 : MR w A n R) (h2 : MR w B m S) (hn : n ≤ 9223372036854775807) (hm : m ≤ 9223372036854775807)
    (hR : ∀ r ∈ R, r.fs.length ≤ 9223372036854775807) (hS : ∀ r ∈ S, r.fs.length ≤ 9223372036854775807) :
    Calls Tryd.prog 13 #[.slice A n c, .slice B m e] w fun e w' => e = .returned (.bool (decide (R.map Row.fs = S.map Row.fs))) ∧ ∃ q, w' = w.drewN q := by
  have hl1 := h1.len
  have hl2 := h2.len
  by_cases hnm : n = m
  · subst hnm
    have g1 : ((n : Int) != (n : Int)) = false := by simp
    have hL : Hid (∀ r ∈ R, ∀ t ∈ S, ∀ W, SR W r.A r.fs.length r.fs → SR W t.A t.fs.length t.fs → Calls Tryd.prog 17 #[.slice r.A r.fs.length r.c, .slice t.A t.fs.length t.c] W fun e w' => e = .returned (.bool (decide (r.fs = t.fs))) ∧ ∃ q, w' = W.drewN q) := Lib.hid fun r hr t ht W k1 k2 => sameList_any r.fs t.fs r.A t.A _ _ _ _ W k1 k2 (hR r hr) (hS t ht)
    replace h1 := Lib.hid h1
    replace h2 := Lib.hid h2
    replace hl1 := Lib.hid hl1
    replace hl2 := Lib.hid hl2
    have hnh := Lib.hid hn
    clear hm hn hR hS
    go_enter Tryd.func13, Tryd.ntmps13
    go_wp2
    go_loopw [5] (fun iv wr => ∃ i : Nat, i ≤ n ∧ iv = .int .i64 i ∧ (∃ q, wr = w.drewN q) ∧ (R.map Row.fs).take i = (S.map Row.fs).take i) (fun iv _ => n - (intOf iv).toNat)
    case atStart => exact ⟨0, Nat.zero_le _, rfl, ⟨0, rfl⟩, rfl⟩
    case round =>
      obtain ⟨i, hin, rfl, ⟨q, rfl⟩, hall⟩ := hrel
      by_cases hlt : i < n
      · have hbel := below_drewN (Below.refl w.heap.size w) q
        have k1 := h1.out.bel hbel
        have k2 := h2.out.bel hbel
        obtain ⟨b1, o1, r, rfl, hx, hrR, e1⟩ := k1.get hlt
        obtain ⟨b2, o2, t, rfl, hy, htS, e2⟩ := k2.get hlt
        have g2 : (i : Int) < (n : Int) := by omega
        have g3 : (0 : Int) ≤ (i : Int) := by omega
        have hlh := Lib.hid hlt
        have hi63 : (i : Int) < 9223372036854775807 := by have := hnh.out; omega
        have hC : Hid (∀ k, Calls Tryd.prog 17 #[.slice r.A r.fs.length r.c, .slice t.A t.fs.length t.c] ((w.drewN q).drewN k) fun e w' => e = .returned (.bool (decide (r.fs = t.fs))) ∧ ∃ q', w' = ((w.drewN q).drewN k).drewN q') := Lib.hid fun k => hL.out r hrR t htS _ ((k1.row r hrR).bel (below_drewN (Below.refl _ _) k)) ((k2.row t htS).bel (below_drewN (Below.refl _ _) k))
        have hx2 : Hid ((R.map Row.fs)[i]? = some r.fs) := Lib.hid (by rw [List.getElem?_map, hx]; rfl)
        have hy2 : Hid ((S.map Row.fs)[i]? = some t.fs) := Lib.hid (by rw [List.getElem?_map, hy]; rfl)
        replace hall := Lib.hid hall
        clear hin hbel k1 k2 hx hy hrR htS
        generalize hwq : w.drewN q = wq at *
        replace hwq := Lib.hid hwq
        clear hlt
        by_cases hxy : r.fs = t.fs
        · rw [decide_eq_true hxy] at hC
          have hall2 : Hid ((R.map Row.fs).take (i + 1) = (S.map Row.fs).take (i + 1)) := Lib.hid (by rw [List.take_add_one, List.take_add_one, hall.out, hx2.out, hy2.out, hxy])
          replace hxy := Lib.hid hxy
          go_wp2
          go_quiet ((go_at_call 17; exact Calls.quiet_of (hC.out _)))
          have hq2 : Hid (wq.drewN nq = w.drewN (q + nq)) := Lib.hid (by rw [← hwq.out, World.drewN_drewN])
          generalize wq.drewN nq = w2 at *
          go_wp2
          go_roundw
          case rel => exact ⟨i + 1, by have := hlh.out; omega, by go_num, ⟨_, hq2.out⟩, hall2.out⟩
          case measure => simp [intOf]; have := hlh.out; omega
        · rw [decide_eq_false hxy] at hC
          have hfin : Hid (R.map Row.fs ≠ S.map Row.fs) := Lib.hid (fun e => hxy (by have := hx2.out; rw [e, hy2.out] at this; exact (Option.some.inj this).symm))
          replace hxy := Lib.hid hxy
          go_wp2
          go_quiet ((go_at_call 17; exact Calls.quiet_of (hC.out _)))
          have hq2 : Hid (wq.drewN nq = w.drewN (q + nq)) := Lib.hid (by rw [← hwq.out, World.drewN_drewN])
          generalize wq.drewN nq = w2 at *
          go_wp2
          go_ret
          exact ⟨by rw [decide_eq_false hfin.out]; rfl, _, hq2.out⟩
      · obtain rfl : i = n := by omega
        have hfin : Hid (R.map Row.fs = S.map Row.fs) := Lib.hid (by
          have h := hall
          rw [List.take_of_length_le (by rw [List.length_map, hl1.out]; exact Nat.le_refl _), List.take_of_length_le (by rw [List.length_map, hl2.out]; exact Nat.le_refl _)] at h
          exact h)
        clear hall hin hlt
        go_wp2
        go_ret
        exact ⟨by rw [decide_eq_true hfin.out]; rfl, _, rfl⟩
  · have g1 : ((n : Int) != (m : Int)) = true := by simp; omega
    have hfin : Hid (R.map Row.fs ≠ S.map Row.fs) := Lib.hid (fun e => hnm (by have := congrArg List.length e; rw [List.length_map, List.length_map] at this; omega))
    clear hl1 hl2 h1 h2 hnm hn hm hR hS
    go_enter Tryd.func13, Tryd.ntmps13
    go_wp2
    go_ret
    exact ⟨by rw [decide_eq_false hfin.out]; rfl, 0, rfl⟩
end Go.Proofs.YtanipgjojacbfaaDoor
