/- The law JoinsTexts. -/
import Derived.Test.YtanipgjojacbfaaDoorE3
namespace Go.Proofs.YtanipgjojacbfaaDoor
open Go.RowKit Go.Lib
set_option linter.unusedVariables false

theorem below_grown {W W' : World} {row : Option Nat} {B : Nat} (h : W.grownBy W' row) (hr : ∀ k, row = some k → B ≤ k) (hB : B ≤ W.heap.size) : Below B W W' :=
  ⟨h.os, h.tape, h.output, h.size, fun i hi => h.block i (Nat.lt_of_lt_of_le hi hB) (fun e => by have := hr i e.symm; omega)⟩
/-- A list of records is put behind a row of the call's own, in whatever guarded place. -/
theorem wpList_app_lst {ops : Array Oper} {rest : List Oper} {o : Oper} {a : Act} {Q : Exit → Act → World → Prop} {w : World} (hw : Region.wanted o (yielded ops a.tmps) = true) (s x : Operand)
    (ho : o.op = .call { callee := .builtin .append, args := #[s, x], argTypes := #[23, 23] })
    (base : Nat) (v : Value) (n : Nat) (xs : List Value) (hs : a.eval s = v) (hown : w.ownsRow base tLst 1 v n xs)
    (R : List Row) (A : Option Addr) (c b0 : Nat) (hx : a.eval x = .slice A R.length c) (hsrc : w.ownsRow b0 tLst 1 (.slice A R.length c) R.length (R.map Row.val))
    (hn : n + R.length ≤ 4096) (hbase : base ≤ w.heap.size)
    (h : ∀ v' w', w'.ownsRow base tLst 1 v' (n + R.length) (xs ++ R.map Row.val) → w.grownBy w' v.ownBlock → wpList Tryd.prog ops Q rest (a.put o.dst v') w') : wpList Tryd.prog ops Q (o :: rest) a w := by
  obtain ⟨i0, hi, hz0, hz1, hz2⟩ := info_parts (show (Tryd.prog.info? tLst).map (fun i => (i.zero, i.size, i.bytes)) = some (some (.slice none 0 0), 1, 24) by kernel_rfl)
  refine BigFrame.wpList_want hw fun K hK => ?_
  rcases hsrc.2 with ⟨hv, hn0⟩ | ⟨g, cap, cur, hv, _⟩
  · injection hv with h1 h2 h3
    have hR : R = [] := List.eq_nil_of_length_eq_zero h2
    subst hR
    subst h1
    subst h3
    have hrun := run_append_owned_none (P := Tryd.prog) (w := w) base 23 o.type tLst i0 1 Tryd.underlying23 hi v n xs hown
    have hx : a.eval x = .slice none 0 0 := hx
    unfold Oper.wp
    simp [execOp, ho, resolve, invoke, builtin, hs, hx, hrun, Result.andThen]
    exact hK _ _ (h v w (by simpa using hown) (World.grownBy.refl w _))
  · injection hv with h1 h2 h3
    subst h1
    refine wp_append_own w s x 23 ho base tLst i0 (.slice none 0 0) 1 24 Tryd.underlying23 hi hz0 hz1 hz2 rfl (by decide) v n xs hs hown ⟨g, 0, none⟩ R.length c (R.map Row.val) hx (by simp) (hsrc.cells rfl) (fun u hu => ?_) (by unfold maxLen; omega) (by omega) hbase fun v' w' k1 k2 _ => hK _ _ (h v' w' k1 k2)
    obtain ⟨r, _, rfl⟩ := List.mem_map.1 hu
    rfl
/-- The row of a call's own that reads as a list of records. -/
theorem mr_of_own {W : World} {base n : Nat} {v : Value} {R : List Row} (h : W.ownsRow base tLst 1 v n (R.map Row.val)) (hn : n = R.length) (hr : ∀ r ∈ R, SR W r.A r.fs.length r.fs) : ∃ A c, v = .slice A R.length c ∧ MR W A R.length R := by
  subst hn
  rcases h.2 with ⟨rfl, h2⟩ | ⟨g, cap, cur, rfl, h3, h4, h5, h6, h7, h8⟩
  · exact ⟨none, 0, by rw [h2], rfl, .inl h2, hr⟩
  · refine ⟨_, _, rfl, rfl, .inr ⟨g, 0, rfl, ?_, fun i x hx => ?_⟩, hr⟩
    · rcases Nat.lt_or_ge g W.heap.size with hl | hl
      · exact hl
      · rw [Array.getElem?_eq_none hl] at h4; cases h4
    · have hi : i < R.length := (List.getElem?_eq_some_iff.1 hx).1
      rw [Nat.zero_add, Lib.cell_of_heap h4]
      have : (cur.toList.take (R.length * 1))[i]? = (R.map Row.val)[i]? := by rw [h8]
      rw [List.getElem?_take, if_pos (by omega), List.getElem?_map, hx] at this
      simpa using this

set_option maxRecDepth 100000 in
set_option maxHeartbeats 4000000 in
theorem law_joins (s t : ByteArray) (w : World) (hs : s.size ≤ 9223372036854775807) (ht : t.size ≤ 9223372036854775807) (hm : Mx w) :
    Calls Tryd.prog 8 #[.string s, .string t] w fun e w' => e = .returned (.bool true) ∧ Below w.heap.size w w' := by
  have hA := Lib.hid (fun W h => awake_any W h)
  have hmh := Lib.hid hm
  obtain ⟨U, rfl⟩ := bA_eta s
  obtain ⟨V, rfl⟩ := bA_eta t
  have hu1 : ((bA U).size : Int) = (U.length : Int) := by rw [bA_size]
  have hv1 : ((bA V).size : Int) = (V.length : Int) := by rw [bA_size]
  rw [bA_size] at hs ht
  have hu2 : (U.length : Int) ≤ 9223372036854775807 := by omega
  have hv2 : (V.length : Int) ≤ 9223372036854775807 := by omega
  have hA1 := Lib.hid (hA.out w hm)
  by_cases k1 : 500 < U.length
  · have k1' : (500 : Int) < (U.length : Int) := by omega
    clear hm hs ht
    go_enter Tryd.func8, Tryd.ntmps8
    go_wp2_with fail
    refine hA1.out.mono ?_
    rintro e w1 ⟨rfl, hb⟩
    replace hb := Lib.hid hb
    go_wp2
    go_ret
    exact ⟨rfl, hb.out⟩
  have k1' : ¬ (500 : Int) < (U.length : Int) := by omega
  by_cases k2 : 500 < V.length
  · have k2' : (500 : Int) < (V.length : Int) := by omega
    clear hm hs ht
    go_enter Tryd.func8, Tryd.ntmps8
    go_wp2_with fail
    refine hA1.out.mono ?_
    rintro e w1 ⟨rfl, hb⟩
    replace hb := Lib.hid hb
    go_wp2
    go_ret
    exact ⟨rfl, hb.out⟩
  have k2' : ¬ (500 : Int) < (V.length : Int) := by omega
  have hP1 := Lib.hid (fun W h => parse_any (bA (U ++ [10])) 44 W h)
  have hR1 := Lib.hid (fun W => rparse_any (bA (U ++ [10])) 44 W)
  have hP2 := Lib.hid (fun W h => parse_any (bA V) 44 W h)
  have hR2 := Lib.hid (fun W => rparse_any (bA V) 44 W)
  have hpe : ∀ t d, po t d = ((po t d).1, (po t d).2.1, (po t d).2.2) := fun _ _ => rfl
  have hJ : Hid ((po (U ++ [10]) 44).2.2 = 0 → (po V 44).2.2 = 0 → (po (U ++ [10]) 44).2.1 = 0 → (po V 44).2.1 = 0 → (po (U ++ [10]) 44).1.length + (po V 44).1.length ≤ 1024 → ∀ W, Mx W → Calls Tryd.prog 11 #[.string (bA (U ++ [10] ++ V)), .int .u8 44] W (ParR ((po (U ++ [10]) 44).1 ++ (po V 44).1) 0 0 W)) := Lib.hid fun h1 h2 h3 h4 h5 W hW => by
    have := parse_any (bA (U ++ [10] ++ V)) 44 W hW
    unfold PoR at this
    rw [bA_list, po_join (l := (po (U ++ [10]) 44).1) (m := (po V 44).1) (by rw [hpe (U ++ [10]), h1, h3]) (by rw [hpe V, h2, h4]) h5 (by omega) (by omega)] at this
    exact this
  have hz1 : Hid ((po (U ++ [10]) 44).2.2 = 0 → (po (U ++ [10]) 44).2.1 = 0) := Lib.hid fun h => by
    have := (po_ok h).2
    unfold po
    rw [if_neg (by decide), this]
    split <;> rfl
  have hz2 : Hid ((po V 44).2.2 = 0 → (po V 44).2.1 = 0) := Lib.hid fun h => by
    have := (po_ok h).2
    unfold po
    rw [if_neg (by decide), this]
    split <;> rfl
  have hl1 := Lib.hid (po_len (U ++ [10]) 44)
  have hl2 := Lib.hid (po_len V 44)
  unfold PoR at hP1 hR1 hP2 hR2
  rw [bA_list] at hP1 hR1 hP2 hR2
  clear hpe
  generalize (po (U ++ [10]) 44).1 = l at *
  generalize (po (U ++ [10]) 44).2.1 = ln1 at *
  generalize (po (U ++ [10]) 44).2.2 = x at *
  generalize (po V 44).1 = m at *
  generalize (po V 44).2.1 = ln2 at *
  generalize (po V 44).2.2 = y at *
  have c1 : bA U ++ (⟨#[10]⟩ : ByteArray) = bA (U ++ [10]) := bA_app U [10]
  have c2 : bA (U ++ [10]) ++ bA V = bA (U ++ [10] ++ V) := bA_app _ V
  have s1 : ¬ 9223372036854775807 < (bA U).size + 1 := by rw [bA_size]; omega
  have s2 : ¬ 9223372036854775807 < (bA (U ++ [10])).size + (bA V).size := by rw [bA_size, List.length_append, List.length_singleton]; omega
  generalize U ++ [10] ++ V = X2 at *
  generalize U ++ [10] = X1 at *
  have hxx : (x == x) = true := beq_self_eq_true _
  have hyy : (y == y) = true := beq_self_eq_true _
  have hP1w := Lib.hid (hP1.out w hm)
  clear hm hs ht hP1 k1 k2 hA1
  go_enter Tryd.func8, Tryd.ntmps8
  go_wp2_with fail
  refine hP1w.out.mono ?_
  rintro e w1 ⟨R1, A1, n1, rfl, hL1, hm1, hb1⟩
  have hP2w := Lib.hid (hP2.out w1 (hmh.out.bel hb1))
  replace hL1 := Lib.hid hL1
  replace hm1 := Lib.hid hm1
  replace hb1 := Lib.hid hb1
  clear hP1w hP2
  go_wp2_with fail
  refine hP2w.out.mono ?_
  rintro e w2 ⟨R2, A2, n2, rfl, hL2, hm2, hb2⟩
  have hB2 := Lib.hid (hb1.out.trans (hb2.mono hb1.out.size))
  have hR1w := Lib.hid (hR1.out w2)
  have hnerr : ∀ (Q : Prop), (¬ x = 0 → Q) → (x = 0 → ¬ y = 0 → Q) → (x = 0 → y = 0 → Q) → Q := fun Q h1 h2 h3 => by
    by_cases h : x = 0
    · by_cases h' : y = 0
      · exact h3 h h'
      · exact h2 h h'
    · exact h1 h
  replace hnerr := Lib.hid hnerr
  clear hP2w
  refine hnerr.out _ (fun hx => ?_) (fun hx hy => ?_) (fun hx hy => ?_)
  · clear hnerr hJ hz1 hz2 hL2 hm2 hb2
    go_wp2_with fail
    refine hR1w.out.mono ?_
    rintro e w3 ⟨R3, A3, n3, rfl, hL3, hm3, hb3⟩
    have hB3 := Lib.hid (hB2.out.trans (hb3.mono hB2.out.size))
    have hR2w := Lib.hid (hR2.out w3)
    clear hL3 hm3 hb3 hR1w
    go_wp2_with fail
    refine hR2w.out.mono ?_
    rintro e w4 ⟨R4, A4, n4, rfl, hL4, hm4, hb4⟩
    have hB4 := Lib.hid (hB3.out.trans (hb4.mono hB3.out.size))
    have hA4 := Lib.hid (hA.out w4 (hmh.out.bel hB4.out))
    clear hL4 hm4 hb4 hR2w
    go_wp2_with fail
    refine hA4.out.mono ?_
    rintro e w5 ⟨rfl, hb5⟩
    have hb6 := Lib.hid (hB4.out.trans (hb5.mono hB4.out.size))
    clear hb5
    go_wp2
    go_ret
    exact ⟨rfl, hb6.out⟩
  · subst hx
    clear hnerr hJ hz1 hz2 hL2 hm2 hb2
    go_wp2_with fail
    refine hR1w.out.mono ?_
    rintro e w3 ⟨R3, A3, n3, rfl, hL3, hm3, hb3⟩
    have hB3 := Lib.hid (hB2.out.trans (hb3.mono hB2.out.size))
    have hR2w := Lib.hid (hR2.out w3)
    clear hL3 hm3 hb3 hR1w
    go_wp2_with fail
    refine hR2w.out.mono ?_
    rintro e w4 ⟨R4, A4, n4, rfl, hL4, hm4, hb4⟩
    have hB4 := Lib.hid (hB3.out.trans (hb4.mono hB3.out.size))
    have hA4 := Lib.hid (hA.out w4 (hmh.out.bel hB4.out))
    clear hL4 hm4 hb4 hR2w
    go_wp2_with fail
    refine hA4.out.mono ?_
    rintro e w5 ⟨rfl, hb5⟩
    have hb6 := Lib.hid (hB4.out.trans (hb5.mono hB4.out.size))
    clear hb5
    go_wp2
    go_ret
    exact ⟨rfl, hb6.out⟩
  · subst hx hy
    have e1 := hz1.out rfl
    have e2 := hz2.out rfl
    subst e1 e2
    have hq1 : R1.length = l.length := by rw [← hm1.out, List.length_map]
    have hq2 : R2.length = m.length := by rw [← hm2, List.length_map]
    have g1 : (R1.length : Int) ≤ 1024 := by have := hl1.out; omega
    have g2 : (R2.length : Int) ≤ 1024 := by have := hl2.out; omega
    replace hq1 := Lib.hid hq1
    replace hq2 := Lib.hid hq2
    have hO1 := Lib.hid (own_bel hL1.out.1 hb2)
    have hO2 := Lib.hid hL2.1
    have hmr1 := Lib.hid (hL1.out.mr.bel hb2)
    have hmr2 := Lib.hid hL2.mr
    have hrw1 := Lib.hid (lst_rows hL1.out)
    have hrw2 := Lib.hid (lst_rows hL2)
    replace hm2 := Lib.hid hm2
    clear hnerr hz1 hz2 hL2 hb2 hR1 hR2 hL1 hb1 hR1w
    by_cases hbig : 1024 < R1.length + R2.length
    · have hbig' : (1024 : Int) < (R1.length : Int) + (R2.length : Int) := by omega
      have hA2 := Lib.hid (hA.out w2 (hmh.out.bel hB2.out))
      clear hJ hbig
      go_wp2_with fail
      refine hA2.out.mono ?_
      rintro e w3 ⟨rfl, hb5⟩
      have hb6 := Lib.hid (hB2.out.trans (hb5.mono hB2.out.size))
      clear hb5
      go_wp2
      go_ret
      exact ⟨rfl, hb6.out⟩
    · have hbig' : ¬ (1024 : Int) < (R1.length : Int) + (R2.length : Int) := by omega
      have hJw := Lib.hid (hJ.out rfl rfl rfl rfl (by have := hq1.out; have := hq2.out; omega) w2 (hmh.out.bel hB2.out))
      replace hbig := Lib.hid hbig
      clear hJ
      go_wp2_with fail
      refine hJw.out.mono ?_
      rintro e w3 ⟨R3, A3, n3, rfl, hL3, hm3, hb3⟩
      have hB3 := Lib.hid (hB2.out.trans (hb3.mono hB2.out.size))
      have hA3 := Lib.hid (hA.out w3 (hmh.out.bel hB3.out))
      have hmr1' := Lib.hid (hmr1.out.bel hb3)
      have hmr2' := Lib.hid (hmr2.out.bel hb3)
      have hmr3 := Lib.hid hL3.mr
      have hrw3 := Lib.hid (lst_rows hL3)
      replace hm3 := Lib.hid hm3
      have hO1' := Lib.hid (own_bel hO1.out hb3)
      have hO2' := Lib.hid (own_bel hO2.out hb3)
      clear hL3 hb3 hJw hmr1 hmr2 hO1 hO2
      go_wp2_with fail
      refine hA3.out.mono ?_
      rintro e w4 ⟨rfl, hb4⟩
      have hB4 := Lib.hid (hB3.out.trans (hb4.mono hB3.out.size))
      have hmr1 := Lib.hid (hmr1'.out.bel hb4)
      have hmr2 := Lib.hid (hmr2'.out.bel hb4)
      have hmr3' := Lib.hid (hmr3.out.bel hb4)
      have hO1 := Lib.hid (own_bel hO1'.out hb4)
      have hO2 := Lib.hid (own_bel hO2'.out hb4)
      clear hb4 hA3 hmr1' hmr2' hO1' hO2'
      have hlen : Hid (R1.length + R2.length ≤ 1024) := Lib.hid (by have := hbig.out; omega)
      clear hbig hbig'
      go_wp2_with (at_builtin; refine wpList_app_lst ?_ _ _ rfl w4.heap.size (.slice none 0 0) 0 [] rfl (World.ownsRow_nil _ _ _ _) R1 A1 n1 _ rfl hO1.out (by have := hlen.out; omega) (Nat.le_refl _) ?_)
      intro v1 w5 hown5 hgrow5
      have hb5 := Lib.hid (show Below w4.heap.size w4 w5 from below_grown hgrow5 (fun k h => by cases h) (Nat.le_refl _))
      have hO3 := Lib.hid (own_bel hO2.out hb5.out)
      replace hown5 := Lib.hid hown5
      clear hgrow5 hO1 hO2
      go_wp2_with (at_builtin; refine wpList_app_lst ?_ _ _ rfl w4.heap.size v1 R1.length (R1.map Row.val) rfl hown5.out R2 A2 n2 _ rfl hO3.out (by have := hlen.out; omega) hb5.out.size ?_)
      intro v2 w6 hown6 hgrow6
      have hb6 := Lib.hid (hb5.out.trans (below_grown hgrow6 (fun k h => (hown5.out.lt k h).1) hb5.out.size))
      rw [← List.map_append] at hown6
      obtain ⟨A4, n4, rfl, hmr4⟩ := mr_of_own hown6 (by rw [List.length_append]) (fun r hr => by
        rcases List.mem_append.1 hr with hr | hr
        · exact (hmr1.out.row r hr).bel hb6.out
        · exact (hmr2.out.row r hr).bel hb6.out)
      have hmr5 := hmr3'.out.bel hb6.out
      have hl3 : R3.length = (R1 ++ R2).length := by
        have := congrArg List.length (hm3.out.trans (show l ++ m = (R1 ++ R2).map Row.fs by rw [List.map_append, hm1.out, hm2.out]))
        simpa using this
      have hSm := same_any R3 (R1 ++ R2) A3 A4 R3.length n3 (R1 ++ R2).length n4 w6 hmr5 hmr4 (by have := hlen.out; rw [hl3, List.length_append]; omega) (by have := hlen.out; rw [List.length_append]; omega) hrw3.out (fun r hr => by
        rcases List.mem_append.1 hr with hr | hr
        · exact hrw1.out r hr
        · exact hrw2.out r hr)
      rw [decide_eq_true (show R3.map Row.fs = (R1 ++ R2).map Row.fs by rw [hm3.out, List.map_append, hm1.out, hm2.out])] at hSm
      have hB6 := Lib.hid (hB4.out.trans (hb6.out.mono hB4.out.size))
      replace hSm := Lib.hid hSm
      clear hown6 hgrow6 hmr4 hmr5 hl3 hown5 hO3 hmr1 hmr2 hmr3' hb5 hb6
      generalize (R1 ++ R2).length = n12 at *
      go_wp2_with fail
      refine hSm.out.mono ?_
      rintro e w7 ⟨rfl, q, hw⟩
      have hb7 : Hid (Below w.heap.size w w7) := Lib.hid (by rw [hw]; exact below_drewN hB6.out q)
      clear hw hB6 hSm
      go_wp2
      go_ret
      exact ⟨rfl, hb7.out⟩
end Go.Proofs.YtanipgjojacbfaaDoor
