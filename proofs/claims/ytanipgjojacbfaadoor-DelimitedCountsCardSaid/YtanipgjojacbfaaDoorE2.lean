/- The law IsStable. -/
import Derived.Test.YtanipgjojacbfaaDoorE1
namespace Go.Proofs.YtanipgjojacbfaaDoor
open Go.RowKit Go.Lib
set_option linter.unusedVariables false

/-- The list of delimiters in a block. -/
def dlC : Array Value := #[.int .u8 44, .int .u8 59, .int .u8 9, .int .u8 124]
theorem pick_cb {W : World} {g : Nat} (h : Cb W g dlC 5) (u : UInt8) : W.cell? ⟨g, u.toNat % 4, none⟩ = some (.int .u8 ((pick u).toNat : Int)) := by
  refine h.cell _ ?_
  unfold pick
  have h : u.toNat % 4 < 4 := Nat.mod_lt _ (by decide)
  generalize u.toNat % 4 = k at *
  match k, h with
  | 0, _ => rfl
  | 1, _ => rfl
  | 2, _ => rfl
  | 3, _ => rfl

set_option maxRecDepth 100000 in
set_option maxHeartbeats 4000000 in
theorem law_stable (s : ByteArray) (a b : UInt8) (w : World) (hs : s.size ≤ 9223372036854775807) (hm : Mx w) :
    Calls Tryd.prog 7 #[.string s, .int .u8 a.toNat, .int .u8 b.toNat] w fun e w' => e = .returned (.bool true) ∧ Below w.heap.size w w' := by
  have hA := Lib.hid (fun W h => awake_any W h)
  have hmh := Lib.hid hm
  have hsz : (s.size : Int) ≤ 9223372036854775807 := by omega
  by_cases hbig : 1000 < s.size
  · have g1 : (1000 : Int) < (s.size : Int) := by omega
    have hA1 := Lib.hid (hA.out w hm)
    clear hm hbig hs
    go_enter Tryd.func7, Tryd.ntmps7
    go_wp2_with fail
    refine hA1.out.mono ?_
    rintro e w1 ⟨rfl, hb⟩
    replace hb := Lib.hid hb
    go_wp2
    go_ret
    exact ⟨rfl, hb.out⟩
  have g1 : ¬ (1000 : Int) < (s.size : Int) := by omega
  have hP := Lib.hid (fun W h => parse_any s (pick a) W h)
  have hR := Lib.hid (fun W => rparse_any s (pick a) W)
  have hsl : s.data.toList.length = s.size := sz s
  have hfld : Hid (∀ r ∈ (po s.data.toList (pick a)).1, ∀ f ∈ r, f.length ≤ 1000) := Lib.hid fun r hr f hf => by
    have := po_fields (t := s.data.toList) (d := pick a) (by omega) r hr f hf
    omega
  have hfo := Lib.hid (fun h => po_short (t := s.data.toList) (d := pick a) (by omega) h (pick b) (pick_isD b))
  have hln := po_len s.data.toList (pick a)
  unfold PoR at hP hR
  generalize (po s.data.toList (pick a)).1 = l at *
  generalize (po s.data.toList (pick a)).2.1 = ln at *
  generalize (po s.data.toList (pick a)).2.2 = x at *
  have hp1 := Lib.hid (fun W h => pick_cb (W := W) (g := w.heap.size) h a)
  have hp2 := Lib.hid (fun W h => pick_cb (W := W) (g := w.heap.size) h b)
  have hF : Hid (x = 0 → ∀ (R : List Row) A c W, MR W A R.length R → R.map Row.fs = l → Mx W → Calls Tryd.prog 15 #[.slice A R.length c, .int .u8 (pick b).toNat] W fun e w' => e = .returned (.tuple #[.string (bA (wrL (pick b) l)), .int .i64 0]) ∧ Below W.heap.size W w') := Lib.hid fun hx R A c W hM hRl hW => by
    have hl : R.length = l.length := by rw [← hRl, List.length_map]
    have := format_any R A c (pick b) W hM (by omega) (fun r hr f hf => hfld.out r.fs (by rw [← hRl]; exact List.mem_map_of_mem hr) f hf) hW
    rw [hRl, hfo.out hx] at this
    exact this
  have hP2 : Hid (x = 0 → ∀ W, Mx W → Calls Tryd.prog 11 #[.string (bA (wrL (pick b) l)), .int .u8 (pick b).toNat] W (ParR l 0 0 W)) := Lib.hid fun hx W hW => by
    have := parse_any (bA (wrL (pick b) l)) (pick b) W hW
    unfold PoR at this
    have h0 : (fo (pick b) l).2 = 0 := by rw [hfo.out hx]
    have h1 := po_fo h0
    rw [hfo.out hx] at h1
    rw [bA_list, h1] at this
    exact this
  have hlR : Hid (∀ R : List Row, R.map Row.fs = l → R.length ≤ 9223372036854775807) := Lib.hid fun R h => by
    have : R.length = l.length := by rw [← h, List.length_map]
    omega
  have ha256 : (a.toNat : Int) < 256 := by have := a.toNat_lt; omega
  have hb256 : (b.toNat : Int) < 256 := by have := b.toNat_lt; omega
  generalize wrL (pick b) l = T at *
  generalize pick a = p at *
  generalize pick b = q at *
  generalize a.toNat = ka at *
  generalize b.toNat = kb at *
  have hxx : (x == x) = true := beq_self_eq_true _
  have hC0 := Lib.hid (Cb.new w dlC 5)
  have hB0 := Lib.hid ((Below.refl w.heap.size w).alloc (Nat.le_refl _) (.cells dlC 5))
  have hP1 := Lib.hid (hP.out (w.alloc (.cells dlC 5)) (hm.bel hB0.out))
  have c1 := hp1.out (w.alloc (.cells dlC 5)) hC0.out
  clear hm hbig hs hfo hfld hsl hln hP
  unfold dlC at hP1 c1
  go_enter Tryd.func7, Tryd.ntmps7
  go_wp2_with fail
  refine hP1.out.mono ?_
  rintro e w1 ⟨R1, A1, n1, rfl, hl1, hR1, hb1⟩
  have hC1 := Lib.hid (hC0.out.bel hb1)
  have hB1 := Lib.hid (hB0.out.trans (hb1.mono hB0.out.size))
  have hm1 := Lib.hid (hmh.out.bel hB1.out)
  clear hP1 c1 hb1 hC0
  by_cases hx : x = 0
  · subst hx
    have hF1 := Lib.hid (hF.out rfl R1 A1 n1 w1 hl1.mr hR1 hm1.out)
    have hP2' := Lib.hid (hP2.out rfl)
    have hrows := Lib.hid (lst_rows hl1)
    have hmr1 := Lib.hid hl1.mr
    have hR1h := Lib.hid hR1
    have c1 := hp2.out w1 hC1.out
    clear hl1 hR1 hF hP2
    go_wp2_with fail
    refine hF1.out.mono ?_
    rintro e w2 ⟨rfl, hb2⟩
    have hB2 := Lib.hid (hB1.out.trans (hb2.mono hB1.out.size))
    have hC2 := Lib.hid (hC1.out.bel hb2)
    have hmr2 := Lib.hid (hmr1.out.bel hb2)
    have hP3 := Lib.hid (hP2'.out w2 (hmh.out.bel hB2.out))
    clear c1 hb2 hF1 hP2' hmr1 hC1
    have c2 := hp2.out w2 hC2.out
    go_wp2_with fail
    refine hP3.out.mono ?_
    rintro e w3 ⟨R2, A2, n2, rfl, hl2, hR2, hb3⟩
    have hB3 := Lib.hid (hB2.out.trans (hb3.mono hB2.out.size))
    have hA3 := Lib.hid (hA.out w3 (hmh.out.bel hB3.out))
    have hmr3 := Lib.hid (hmr2.out.bel hb3)
    have hmr4 := Lib.hid hl2.mr
    have hSm : Hid (∀ W, Below w3.heap.size w3 W → Calls Tryd.prog 13 #[.slice A1 R1.length n1, .slice A2 R2.length n2] W fun e w' => e = .returned (.bool true) ∧ ∃ q, w' = W.drewN q) := Lib.hid fun W hW => by
      have := same_any R1 R2 A1 A2 R1.length n1 R2.length n2 W (hmr3.out.bel hW) (hmr4.out.bel hW) (hlR.out _ hR1h.out) (hlR.out _ hR2) hrows.out (lst_rows hl2)
      rw [decide_eq_true (hR1h.out.trans hR2.symm)] at this
      exact this
    clear hb3 hl2 hR2 c2 hmr3 hmr4 hP3 hC2
    go_wp2_with fail
    refine hA3.out.mono ?_
    rintro e w4 ⟨rfl, hb4⟩
    have hb5 := Lib.hid (hB3.out.trans (hb4.mono hB3.out.size))
    have hSm1 := Lib.hid (hSm.out w4 hb4)
    clear hb4 hSm hA3
    go_wp2_with fail
    refine hSm1.out.mono ?_
    rintro e w5 ⟨rfl, q, hw⟩
    have hb6 : Hid (Below w.heap.size w w5) := Lib.hid (by rw [hw]; exact below_drewN hb5.out q)
    clear hw hb5 hSm1
    go_wp2
    go_ret
    exact ⟨rfl, hb6.out⟩
  · have hR2 := Lib.hid (hR.out w1)
    have c1 := hp1.out w1 hC1.out
    clear hF hP2 hl1 hR1
    go_wp2_with fail
    refine hR2.out.mono ?_
    rintro e w2 ⟨R2, A2, n2, rfl, hl2, hR2, hb2⟩
    have hB2 := Lib.hid (hB1.out.trans (hb2.mono hB1.out.size))
    have hA2 := Lib.hid (hA.out w2 (hmh.out.bel hB2.out))
    clear hl2 hR2 hb2 c1
    go_wp2_with fail
    refine hA2.out.mono ?_
    rintro e w3 ⟨rfl, hb3⟩
    have hb5 := Lib.hid (hB2.out.trans (hb3.mono hB2.out.size))
    clear hb3
    go_wp2
    go_ret
    exact ⟨rfl, hb5.out⟩
end Go.Proofs.YtanipgjojacbfaaDoor
