/- Terms taken out of a list. -/
import Derived.Test.YthbkdjbmkhmlnaaDoorB15
import Derived.Defers
namespace Go.Proofs.YthbkdjbmkhmlnaaDoor
open Go.RowKit
set_option linter.unusedVariables false

theorem filter_snoc_no {L : List Nat} {p : Nat → Bool} {j x : Nat} (h : L[j]? = some x) (hp : p x = false) : (L.take (j + 1)).filter p = (L.take j).filter p := by
  rw [take_snoc_of h, List.filter_append]; simp [hp]
theorem filter_snoc_yes {L : List Nat} {p : Nat → Bool} {j x : Nat} (h : L[j]? = some x) (hp : p x = true) : (L.take (j + 1)).filter p = (L.take j).filter p ++ [x] := by
  rw [take_snoc_of h, List.filter_append]; simp [hp]
theorem take_set_snoc {L : List Nat} {i x : Nat} (h : i < L.length) : (L.set i x).take (i + 1) = L.take i ++ [x] := by
  rw [List.take_set, List.take_add_one, List.set_append_right _ _ (by rw [List.length_take]; omega), List.length_take, Nat.min_eq_left (by omega), Nat.sub_self, List.getElem?_eq_getElem h]
  rfl

set_option maxRecDepth 100000 in
set_option maxHeartbeats 4000000 in
theorem deleteW_any (L : List Nat) (v : Value) (q : Nat) (pp : Nat → Bool) (w1 w : World) (G : Gro uC w1 w [] [] 86 v L) (hn : L.length ≤ 50000) (hP : ∀ W, Below w1.heap.size w1 W → ∀ x ∈ L, Calls Tryd.prog 91 #[.int .u64 (x : Int), .pointer (some ⟨q, 0, none⟩)] W fun e w' => e = .returned (.bool (pp x)) ∧ w' = W) :
    Calls Tryd.prog 89 #[v, .func (.func 91) #[] #[.pointer (some ⟨q, 0, none⟩)]] w fun e w' => ∃ v', e = .returned v' ∧ Gro uC w1 w' [] [] 86 v' (L.filter fun x => !pp x) := by
  obtain ⟨A, c, rfl, hl, hc⟩ := G.lrc
  have hI := Lib.hid (ixW_any L A L.length c q pp w hl (by omega) (fun x hx => hP w G.st.bel x hx))
  have hnn := Lib.hid hn
  have hcc := Lib.hid hc
  have hPh := Lib.hid hP
  replace G := Lib.hid G
  clear hl hn hc hP
  go_enter Tryd.func89, Tryd.ntmps89
  go_wp2_with fail
  refine hI.out.mono ?_
  rintro e w2 ⟨⟨z, rfl, hz⟩, rfl⟩
  clear hI
  rcases hz with ⟨rfl, hall⟩ | ⟨i0, x0, rfl, hx0, hp0, hall0⟩
  · have hfin : Hid (L.filter (fun x => !pp x) = L) := Lib.hid (List.filter_eq_self.2 fun x hx => by rw [hall x hx]; rfl)
    clear hall
    go_wp2
    go_ret
    exact ⟨_, rfl, by rw [hfin.out]; exact G.out⟩
  · obtain ⟨hi0, _⟩ := List.getElem?_eq_some_iff.1 hx0
    obtain ⟨g, rfl⟩ : ∃ g, A = some ⟨g, 0, none⟩ := by
      obtain ⟨⟨_, _, ⟨hv, h0, _⟩ | ⟨g, cap, cur, hv, _⟩⟩, _⟩ := G.out
      · have : L.length = 0 := h0
        omega
      · injection hv with ha _ _; exact ⟨g, ha⟩
    have B0 := Lib.hid (Bl.of G.out rfl)
    obtain ⟨n, hnL⟩ : ∃ n, n = L.length := ⟨_, rfl⟩
    rw [← hnL] at hi0 hnn hcc
    rw [← hnL]
    have g3 : (i0 : Int) < (n : Int) := by omega
    have hk0 : Hid (L.take i0 = (L.take (i0 + 1)).filter (fun x => !pp x)) := Lib.hid (by
      rw [filter_snoc_no hx0 (by rw [hp0]; rfl)]
      refine (List.filter_eq_self.2 fun x hx => ?_).symm
      obtain ⟨k, hk⟩ := List.getElem?_of_mem hx
      rw [List.getElem?_take] at hk
      split at hk
      · rename_i hki
        rw [hall0 k x hki hk]; rfl
      · cases hk)
    replace hnL := Lib.hid hnL
    have hi0h := Lib.hid hi0
    have hi5 : i0 ≤ 50000 := by have := hnn.out; omega
    have g0 : ((i0 : Int) == -1) = false := by rw [beq_eq_false_iff_ne]; omega
    clear hall0 hx0 hp0 G hi0
    go_wp2
    clear g0
    go_loopw [5, 6] (fun iv jv wr => ∃ (i j : Nat) (M : List Nat), i < j ∧ j ≤ n ∧ iv = .int .i64 i ∧ jv = .int .i64 j ∧ Bl w1 wr g c M [] ∧ M.length = n ∧ M.take i = (L.take j).filter (fun x => !pp x) ∧ ∀ k, j ≤ k → M[k]? = L[k]?) (fun _ jv _ => n - (intOf jv).toNat)
    case atStart => exact ⟨i0, i0 + 1, L, by omega, by have := hi0h.out; omega, rfl, by go_num, B0.out, hnL.out.symm, hk0.out, fun _ _ => rfl⟩
    case round =>
      clear B0 hk0 g3 hi0h hi5
      obtain ⟨i, j, M, hij, hjn, rfl, rfl, B, hMn, hMi, hMj⟩ := hrel
      by_cases hlt : j < n
      · obtain ⟨x, hx⟩ : ∃ x, M[j]? = some x := ⟨_, List.getElem?_eq_getElem (by omega)⟩
        have hxL : L[j]? = some x := by rw [← hMj j (Nat.le_refl _)]; exact hx
        obtain ⟨e0, f0⟩ := B.cl hx
        have hPx := Lib.hid (hPh.out wr B.bel x (List.mem_of_getElem? hxL))
        have g1 : (j : Int) < (n : Int) := by omega
        have g2 : (0 : Int) ≤ (j : Int) := by omega
        have h1 := Lib.hid (show i < j ∧ j < n from ⟨hij, hlt⟩)
        replace hMj := Lib.hid hMj
        replace hMi := Lib.hid hMi
        replace hMn := Lib.hid hMn
        replace hxL := Lib.hid hxL
        replace B := Lib.hid B
        cases hv : pp x with
        | true =>
          rw [hv] at hPx
          replace hv := Lib.hid hv
          clear hlt hij hjn hx
          go_wp2_with fail
          refine hPx.out.mono ?_
          rintro e wr ⟨rfl, rfl⟩
          clear hPx e0 f0
          have hlt := h1.out.2
          have hbb := hnn.out
          go_wp2
          go_roundw
          case rel => exact ⟨i, j + 1, M, by have := h1.out; omega, by omega, rfl, by go_num, B.out, hMn.out, by rw [filter_snoc_no hxL.out (by rw [hv.out]; rfl)]; exact hMi.out, fun k hk => hMj.out k (by omega)⟩
          case measure => simp [intOf]; omega
        | false =>
          rw [hv] at hPx
          replace hv := Lib.hid hv
          obtain ⟨y, hy⟩ : ∃ y, M[i]? = some y := ⟨_, List.getElem?_eq_getElem (by have := hMn.out; omega)⟩
          obtain ⟨e1, f1⟩ := B.out.cl hy
          have g4 : (i : Int) < (n : Int) := by omega
          have g5 : (0 : Int) ≤ (i : Int) := by omega
          have BS := Lib.hid (B.out.set x (i := i) (by have := hMn.out; omega))
          clear hlt hij hjn hx hy
          go_wp2_with fail
          refine hPx.out.mono ?_
          rintro e wr ⟨rfl, rfl⟩
          clear hPx B
          have hlt := h1.out.2
          have hbb := hnn.out
          go_wp2
          go_roundw
          case rel => exact ⟨i + 1, j + 1, M.set i x, by have := h1.out; omega, by omega, by go_num, by go_num, BS.out, by rw [List.length_set]; exact hMn.out, by rw [filter_snoc_yes hxL.out (by rw [hv.out]; rfl), take_set_snoc (by have := h1.out; have := hMn.out; omega), hMi.out], fun k hk => by rw [List.getElem?_set_ne (by have := h1.out; omega)]; exact hMj.out k (by omega)⟩
          case measure => simp [intOf]; omega
      · obtain rfl : j = n := by omega
        have hfin : Hid (M.take i = L.filter fun x => !pp x) := Lib.hid (by rw [hMi, hnL.out, List.take_length])
        have hci : j ≤ c := hcc.out
        obtain ⟨k, hk⟩ : ∃ k, k = j - i := ⟨_, rfl⟩
        have hcl := Lib.hid (Lib.run_clear_slice (P := Tryd.prog) wr 55 86 0 (.int .u64 0) Tryd.underlying55 (fun w => by kernel_rfl) rfl rfl g i k (c - i) (by omega) (fun u hu => by
          rw [(B.cl (i := i + u) (List.getElem?_eq_getElem (by omega))).1]; rfl) (fun u hu => (B.cl (i := i + u) (List.getElem?_eq_getElem (by omega))).2))
        have GC := Lib.hid (B.cut (i := i) (by omega) k)
        have g1 : ¬ ((j : Int) < (j : Int)) := by omega
        have g4 : (i : Int) < (j : Int) := by omega
        have g5 : (i : Int) < (c : Int) := by omega
        have g6 : i < c := by omega
        have g7 : ¬ c = i := by omega
        have g8 : i ≤ j := by omega
        clear hlt hij hjn hMn hMi hMj B
        go_upto_region 11 with fail
        have hcl2 := hcl.out
        rw [hk] at hcl2
        go_wp2
        go_ret
        exact ⟨_, rfl, by rw [← hfin.out, ← hk]; exact GC.out⟩
set_option maxRecDepth 100000 in
set_option maxHeartbeats 4000000 in
theorem without_any (a b : List Nat) (A : Option Addr) (n c : Nat) (B : Option Addr) (m d : Nat) (w : World) (h : LR uC w A n a) (hc : n ≤ c) (hB : LR uC w B m b) (hn : n ≤ 50000) (hm : m ≤ 50000) : Calls Tryd.prog 55 #[.slice A n c, .slice B m d] w fun e w' => ∃ v, e = .returned v ∧ Gro uC w w' [] [] 86 v (F10.mns a b) := by
  have S0 := Lib.hid ((St.new w).alloc #[.slice B m d] 55 (noLof rfl))
  have hb0 := Lib.hid S0.out.bel
  have hlen := h.len
  have hCl := Lib.hid (cloneT_any a A n c _ (h.bel S0.out.bel) hn hc)
  obtain ⟨w1, hw1⟩ : ∃ W, W = w.alloc (.cells #[.slice B m d] 55) := ⟨_, rfl⟩
  rw [← hw1] at S0 hb0 hCl
  have hq := Lib.hid (S0.out.cl 0 0 rfl rfl)
  have hlt := Lib.hid (S0.out.lt 0 rfl)
  have hBh := Lib.hid hB
  have hnn := Lib.hid (show a.length ≤ 50000 by omega)
  have hmm := Lib.hid hm
  clear h hc hB hn hm hlen
  go_enter Tryd.func55, Tryd.ntmps55
  go_wp2_with fail
  rw [← hw1]
  refine hCl.out.mono ?_
  rintro e w2 ⟨v, rfl, G⟩
  have hD := Lib.hid (deleteW_any a v w.heap.size (fun x => b.contains x) w1 w2 G hnn.out fun W hW x hx => inB_any b B m d w.heap.size x W (hBh.out.bel (hb0.out.trans (hW.mono hb0.out.size))) (by have := hmm.out; omega) ((World.cell?_of_block (hW.block _ hlt.out)).trans hq.out))
  clear G hCl hBh hq hw1
  go_wp2_with fail
  refine hD.out.mono ?_
  rintro e w3 ⟨v3, rfl, G3⟩
  have GF := Lib.hid (G3.rebase hb0.out (fun _ _ => trivial))
  clear hD G3
  go_wp2
  go_ret
  exact ⟨_, rfl, GF.out⟩
end Go.Proofs.YthbkdjbmkhmlnaaDoor
namespace Go.Proofs.YthbkdjbmkhmlnaaDoor
open Go.RowKit
set_option linter.unusedVariables false

theorem crs_len (a b : List Nat) : (F10.crs a b).length ≤ a.length * b.length := by
  have := pls_len (F10.prods a b) []
  rw [prods_len] at this
  simpa [F10.crs] using this
theorem u64_pls {a b : List Nat} (ha : U64 a) (hb : U64 b) : U64 (F10.pls a b) := fun t ht => by
  rcases (F10.pls_mem b a t).1 ht with h | h
  · exact ha t h
  · exact hb t h
theorem u64_crs {a b : List Nat} (ha : U64 a) (hb : U64 b) : U64 (F10.crs a b) := fun t ht => by
  obtain ⟨s, hs, u, hu, rfl⟩ := F10.crs_mem.1 ht
  exact Nat.or_lt_two_pow (n := 64) (ha s hs) (hb u hu)
theorem u64_whl {a : List Nat} (ha : U64 a) : F10.whl a < 18446744073709551616 := by
  have key : ∀ (a : List Nat) (s : Nat), U64 a → s < 18446744073709551616 → a.foldl (· ||| ·) s < 18446744073709551616 := by
    intro a
    induction a with
    | nil => intro s _ h; exact h
    | cons x a ih =>
      intro s h hs
      exact ih _ (fun t ht => h t (List.mem_cons_of_mem _ ht)) (Nat.or_lt_two_pow (n := 64) hs (h x List.mem_cons_self))
  exact key a 0 ha (by omega)
theorem u64_op2 {op : Nat} {a b : List Nat} (ha : U64 a) (hb : U64 b) : U64 (F10.op2 op a b) := by
  unfold F10.op2
  split
  · exact u64_pls ha hb
  · split
    · exact fun t ht => ha t (F10.mns_mem.1 ht).1
    · split
      · exact u64_crs ha hb
      · split
        · exact u64_pls (u64_pls ha hb) (u64_crs ha hb)
        · exact u64_pls ha (u64_crs (fun t ht => by rw [List.mem_singleton.1 ht]; exact u64_whl ha) hb)
section
variable (a b : List Nat) (A : Option Addr) (n c : Nat) (B : Option Addr) (m d : Nat) (w : World)

set_option maxRecDepth 100000 in
set_option maxHeartbeats 4000000 in
theorem comb5 (h : LR uC w A n a) (hc : n ≤ c) (hB : LR uC w B m b) (hd : m ≤ d) (hn : n ≤ 100) (hm : m ≤ 100) (hnd : a.Nodup) : Calls Tryd.prog 85 #[.int .i64 5, .slice A n c, .slice B m d] w fun e w' => ∃ v, e = .returned v ∧ Gro uC w w' [] [] 86 v (F10.op2 5 a b) := by
  have e1 := h.len
  have e2 := hB.len
  subst e1 e2
  have S0 := Lib.hid ((St.new w).alloc #[(⟨A, c, a⟩ : Sl Nat).v, (⟨B, d, b⟩ : Sl Nat).v] 55 (noLof rfl))
  have hb0 := Lib.hid S0.out.bel
  have hT := Lib.hid (together_any [⟨A, c, a⟩, ⟨B, d, b⟩] (some ⟨w.heap.size, 0, none⟩) 2 2 _ (lr_two S0.out (h.bel S0.out.bel) hc (hB.bel S0.out.bel) hd) (by omega) (by simp; omega))
  have hR : Hid (F10.pls [] (([⟨A, c, a⟩, ⟨B, d, b⟩] : List (Sl Nat)).map (fun l => l.L)).flatten = F10.op2 5 a b) := Lib.hid (by
    simp only [List.map_cons, List.map_nil, List.flatten_cons, List.flatten_nil, List.append_nil]
    rw [F10.together_two b hnd]; rfl)
  clear h hc hB hd hn hm hnd
  go_enter Tryd.func85, Tryd.ntmps85
  go_wp2_with fail
  refine hT.out.mono ?_
  rintro e w3 ⟨v3, rfl, G3⟩
  rw [hR.out] at G3
  have GF := Lib.hid (G3.rebase hb0.out (fun _ _ => trivial))
  clear hT G3 S0 hR
  go_wp2
  go_ret
  exact ⟨_, rfl, GF.out⟩
set_option maxRecDepth 100000 in
set_option maxHeartbeats 4000000 in
theorem comb6 (h : LR uC w A n a) (hc : n ≤ c) (hB : LR uC w B m b) (hn : n ≤ 100) (hm : m ≤ 100) : Calls Tryd.prog 85 #[.int .i64 6, .slice A n c, .slice B m d] w fun e w' => ∃ v, e = .returned v ∧ Gro uC w w' [] [] 86 v (F10.op2 6 a b) := by
  have hT := Lib.hid (without_any a b A n c B m d w h hc hB (by omega) (by omega))
  clear h hc hB hn hm
  go_enter Tryd.func85, Tryd.ntmps85
  go_wp2_with fail
  refine hT.out.mono ?_
  rintro e w3 ⟨v3, rfl, G3⟩
  replace G3 := Lib.hid G3
  clear hT
  go_wp2
  go_ret
  exact ⟨_, rfl, G3.out⟩
set_option maxRecDepth 100000 in
set_option maxHeartbeats 4000000 in
theorem comb7 (h : LR uC w A n a) (hB : LR uC w B m b) (hn : n ≤ 100) (hm : m ≤ 100) (ha : U64 a) (hb : U64 b) : Calls Tryd.prog 85 #[.int .i64 7, .slice A n c, .slice B m d] w fun e w' => ∃ v, e = .returned v ∧ Gro uC w w' [] [] 86 v (F10.op2 7 a b) := by
  have hT := Lib.hid (crossed_any a b A n c B m d w h hB (by omega) (by omega) ha hb)
  clear h hB hn hm ha hb
  go_enter Tryd.func85, Tryd.ntmps85
  go_wp2_with fail
  refine hT.out.mono ?_
  rintro e w3 ⟨v3, rfl, G3⟩
  replace G3 := Lib.hid G3
  clear hT
  go_wp2
  go_ret
  exact ⟨_, rfl, G3.out⟩
set_option maxRecDepth 100000 in
set_option maxHeartbeats 4000000 in
theorem comb8 (h : LR uC w A n a) (hc : n ≤ c) (hB : LR uC w B m b) (hd : m ≤ d) (hn : n ≤ 100) (hm : m ≤ 100) (ha : U64 a) (hb : U64 b) (hnd : a.Nodup) : Calls Tryd.prog 85 #[.int .i64 8, .slice A n c, .slice B m d] w fun e w' => ∃ v, e = .returned v ∧ Gro uC w w' [] [] 86 v (F10.op2 8 a b) := by
  have e1 := h.len
  have e2 := hB.len
  subst e1 e2
  have hX := Lib.hid (crossed_any a b A a.length c B b.length d w h hB (by omega) (by omega) ha hb)
  have hz := Lib.hid (show (F10.crs a b).length ≤ 10000 from Nat.le_trans (crs_len a b) (Nat.le_trans (Nat.mul_le_mul hn hm) (by decide)))
  have hR : Hid (F10.pls [] (a ++ (b ++ F10.crs a b)) = F10.op2 8 a b) := Lib.hid (by
    rw [F10.together_two _ hnd, F10.pls_app]; rfl)
  have hh := Lib.hid (show (LR uC w A a.length a ∧ a.length ≤ c) ∧ (LR uC w B b.length b ∧ b.length ≤ d) ∧ a.length ≤ 100 ∧ b.length ≤ 100 from ⟨⟨h, hc⟩, ⟨hB, hd⟩, hn, hm⟩)
  clear h hc hB hd hn hm hnd ha hb
  go_enter Tryd.func85, Tryd.ntmps85
  go_wp2_with fail
  refine hX.out.mono ?_
  rintro e w1 ⟨v1, rfl, G1⟩
  obtain ⟨A1, c1, rfl, hl1, hc1⟩ := G1.lrc
  have S0 := Lib.hid ((St.new w1).alloc #[(⟨A, c, a⟩ : Sl Nat).v, (⟨B, d, b⟩ : Sl Nat).v, (⟨A1, c1, F10.crs a b⟩ : Sl Nat).v] 55 (noLof rfl))
  have hb0 := Lib.hid (G1.st.bel.trans (S0.out.bel.mono G1.st.bel.size))
  have hT := Lib.hid (together_any [⟨A, c, a⟩, ⟨B, d, b⟩, ⟨A1, c1, F10.crs a b⟩] (some ⟨w1.heap.size, 0, none⟩) 3 3 _ (lr_three S0.out (hh.out.1.1.bel hb0.out) hh.out.1.2 (hh.out.2.1.1.bel hb0.out) hh.out.2.1.2 (hl1.bel S0.out.bel) hc1) (by omega) (by have := hh.out.2.2; have := hz.out; simp; omega))
  have hR2 : Hid (F10.pls [] (([⟨A, c, a⟩, ⟨B, d, b⟩, ⟨A1, c1, F10.crs a b⟩] : List (Sl Nat)).map (fun l => l.L)).flatten = F10.op2 8 a b) := Lib.hid (by
    simp only [List.map_cons, List.map_nil, List.flatten_cons, List.flatten_nil, List.append_nil]
    exact hR.out)
  clear hX G1 hl1 hc1
  go_wp2_with fail
  refine hT.out.mono ?_
  rintro e w3 ⟨v3, rfl, G3⟩
  rw [hR2.out] at G3
  have GF := Lib.hid (G3.rebase hb0.out (fun _ _ => trivial))
  clear hT G3 S0 hR
  go_wp2
  go_ret
  exact ⟨_, rfl, GF.out⟩
set_option maxRecDepth 100000 in
set_option maxHeartbeats 4000000 in
theorem comb9 (h : LR uC w A n a) (hc : n ≤ c) (hB : LR uC w B m b) (hn : n ≤ 100) (hm : m ≤ 100) (ha : U64 a) (hb : U64 b) (hnd : a.Nodup) : Calls Tryd.prog 85 #[.int .i64 9, .slice A n c, .slice B m d] w fun e w' => ∃ v, e = .returned v ∧ Gro uC w w' [] [] 86 v (F10.op2 9 a b) := by
  have e1 := h.len
  have e2 := hB.len
  subst e1 e2
  have hW := Lib.hid (whole_any a A a.length c w h (by omega) ha)
  have hww := u64_whl ha
  have hz := Lib.hid (show (F10.crs [F10.whl a] b).length ≤ 10000 from Nat.le_trans (crs_len _ b) (by simp; omega))
  have hR : Hid (F10.pls [] (a ++ F10.crs [F10.whl a] b) = F10.op2 9 a b) := Lib.hid (by rw [F10.together_two _ hnd]; rfl)
  have S0 := Lib.hid ((St.new w).alloc (uC.all [F10.whl a]).toArray 86 (noLof rfl))
  have hX := Lib.hid (crossed_any [F10.whl a] b (some ⟨w.heap.size, 0, none⟩) 1 1 B b.length d _ (St_glr S0.out 1 rfl (fun _ _ => trivial)) (hB.bel S0.out.bel) (by omega) (by omega) (fun t ht => by rw [List.mem_singleton.1 ht]; exact hww) hb)
  have hb1 := Lib.hid S0.out.bel
  have hh := Lib.hid (show (LR uC w A a.length a ∧ a.length ≤ c) ∧ a.length ≤ 100 ∧ b.length ≤ 100 from ⟨⟨h, hc⟩, hn, hm⟩)
  clear h hc hB hn hm hnd ha hb hww S0
  generalize F10.crs [F10.whl a] b = X at *
  go_enter Tryd.func85, Tryd.ntmps85
  go_wp2_with fail
  refine hW.out.mono ?_
  rintro e w1 ⟨rfl, _, hw1⟩
  subst hw1
  clear hW
  go_wp2_with fail
  refine hX.out.mono ?_
  rintro e w2 ⟨v2, rfl, G2⟩
  obtain ⟨A2, c2, rfl, hl2, hc2⟩ := G2.lrc
  have S1 := Lib.hid ((St.new w2).alloc #[(⟨A, c, a⟩ : Sl Nat).v, (⟨A2, c2, X⟩ : Sl Nat).v] 55 (noLof rfl))
  have hb2 := hb1.out.trans (G2.st.bel.mono hb1.out.size)
  have hb0 := Lib.hid (hb2.trans (S1.out.bel.mono hb2.size))
  have hT := Lib.hid (together_any [⟨A, c, a⟩, ⟨A2, c2, X⟩] (some ⟨w2.heap.size, 0, none⟩) 2 2 _ (lr_two S1.out (hh.out.1.1.bel hb0.out) hh.out.1.2 (hl2.bel S1.out.bel) hc2) (by omega) (by have := hh.out.2; have := hz.out; simp; omega))
  have hR2 : Hid (F10.pls [] (([⟨A, c, a⟩, ⟨A2, c2, X⟩] : List (Sl Nat)).map (fun l => l.L)).flatten = F10.op2 9 a b) := Lib.hid (by
    simp only [List.map_cons, List.map_nil, List.flatten_cons, List.flatten_nil, List.append_nil]
    exact hR.out)
  clear hX G2 hl2 hc2 hb2
  go_wp2_with fail
  refine hT.out.mono ?_
  rintro e w3 ⟨v3, rfl, G3⟩
  rw [hR2.out] at G3
  have GF := Lib.hid (G3.rebase hb0.out (fun _ _ => trivial))
  clear hT G3 S1 hR
  go_wp2
  go_ret
  exact ⟨_, rfl, GF.out⟩
theorem combined_any (op : Nat) (hop : 5 ≤ op ∧ op ≤ 9) (h : LR uC w A n a) (hc : n ≤ c) (hB : LR uC w B m b) (hd : m ≤ d) (hn : n ≤ 100) (hm : m ≤ 100) (ha : U64 a) (hb : U64 b) (hnd : a.Nodup) : Calls Tryd.prog 85 #[.int .i64 (op : Int), .slice A n c, .slice B m d] w fun e w' => ∃ v, e = .returned v ∧ Gro uC w w' [] [] 86 v (F10.op2 op a b) := by
  have hc5 : op = 5 ∨ op = 6 ∨ op = 7 ∨ op = 8 ∨ op = 9 := by omega
  rcases hc5 with rfl | rfl | rfl | rfl | rfl
  · exact comb5 a b A n c B m d w h hc hB hd hn hm hnd
  · exact comb6 a b A n c B m d w h hc hB hn hm
  · exact comb7 a b A n c B m d w h hB hn hm ha hb
  · exact comb8 a b A n c B m d w h hc hB hd hn hm ha hb hnd
  · exact comb9 a b A n c B m d w h hc hB hn hm ha hb hnd
end
end Go.Proofs.YthbkdjbmkhmlnaaDoor
namespace Go.Proofs.YthbkdjbmkhmlnaaDoor
open Go.RowKit
set_option linter.unusedVariables false

set_option maxRecDepth 100000 in
set_option maxHeartbeats 4000000 in
theorem judge_yes (L : List Nat) (A : Option Addr) (n c xb g : Nat) (w : World) (h : LR uC w A n L) (hn : n ≤ 50000) (hL : U64 L) (hg : w.cell? ⟨g, 0, none⟩ = some (.slice A n c)) (hf : F10.fts L = true) : Calls Tryd.prog 83 #[.pointer (some ⟨xb, 0, none⟩), .pointer (some ⟨g, 0, none⟩)] w fun e w' => e = .returned (.tuple #[]) ∧ w' = w := by
  have hX := cfJ_any L A n c w h (by omega) hL
  have hlen := h.len
  unfold F10.fts at hf
  rw [Bool.and_eq_true, decide_eq_true_eq, hlen] at hf
  have ha : L.any (fun t => decide (6 < F10.siz t)) = false := List.any_eq_false.2 fun x hx => by
    have := of_decide_eq_true (List.all_eq_true.1 hf.1 x hx)
    simp; omega
  rw [ha] at hX
  replace hX := Lib.hid hX
  have g1 : ¬ ((32 : Int) < (n : Int)) := by have := hf.2; omega
  clear h hn hL hf ha hlen
  go_enter Tryd.func83, Tryd.ntmps83
  go_wp2_with fail
  refine hX.out.mono ?_
  rintro e w1 ⟨rfl, rfl⟩
  go_wp2
  go_end0
  exact ⟨rfl, rfl⟩
set_option maxRecDepth 100000 in
set_option maxHeartbeats 4000000 in
theorem judge_no (L : List Nat) (A : Option Addr) (n c xb g : Nat) (ex : Bool) (w : World) (h : LR uC w A n L) (hn : n ≤ 50000) (hL : U64 L) (hg : w.cell? ⟨g, 0, none⟩ = some (.slice A n c)) (fg : w.frozen? ⟨g, 0, none⟩ = false) (hx : w.cell? ⟨xb, 2, none⟩ = some (.bool ex)) (fx : w.frozen? ⟨xb, 2, none⟩ = false) (hne : ¬ xb = g) (hf : F10.fts L = false) : Calls Tryd.prog 83 #[.pointer (some ⟨xb, 0, none⟩), .pointer (some ⟨g, 0, none⟩)] w fun e w' => e = .returned (.tuple #[]) ∧ w' = (w.setCell ⟨xb, 2, none⟩ (.bool true)).setCell ⟨g, 0, none⟩ (.slice none 0 0) := by
  have hX := cfJ_any L A n c w h (by omega) hL
  have hlen := h.len
  have hne2 : ¬ g = xb := fun e => hne e.symm
  by_cases hb : 32 < n
  · have g1 : (32 : Int) < (n : Int) := by omega
    clear h hn hL hf hlen hX hb
    go_enter Tryd.func83, Tryd.ntmps83
    go_wp2
    go_end0
    exact ⟨rfl, rfl⟩
  · unfold F10.fts at hf
    rw [hlen] at hf
    have ha : L.any (fun t => decide (6 < F10.siz t)) = true := by
      rw [decide_eq_true (show n ≤ 32 by omega), Bool.and_true] at hf
      rw [List.any_eq_true]
      obtain ⟨x, hx, hq⟩ := List.all_eq_false.1 hf
      refine ⟨x, hx, ?_⟩
      simp at hq ⊢; omega
    rw [ha] at hX
    replace hX := Lib.hid hX
    have g1 : ¬ ((32 : Int) < (n : Int)) := by omega
    clear h hn hL hf ha hlen hb
    go_enter Tryd.func83, Tryd.ntmps83
    go_wp2_with fail
    refine hX.out.mono ?_
    rintro e w1 ⟨rfl, rfl⟩
    go_wp2
    go_end0
    exact ⟨rfl, rfl⟩

set_option maxRecDepth 100000 in
set_option maxHeartbeats 4000000 in
theorem judgeD_yes (L : List Nat) (A : Option Addr) (n c xb g : Nat) (w : World) (h : LR uC w A n L) (hn : n ≤ 50000) (hL : U64 L) (hg : w.cell? ⟨g, 0, none⟩ = some (.slice A n c)) (hf : F10.fts L = true) : CallsD Tryd.prog 83 #[.pointer (some ⟨xb, 0, none⟩), .pointer (some ⟨g, 0, none⟩)] .returning w fun e u' w' => u' = .returning ∧ (e = .returned (.tuple #[]) ∧ w' = w) := by
  have hX := cfJ_any L A n c w h (by omega) hL
  have hlen := h.len
  unfold F10.fts at hf
  rw [Bool.and_eq_true, decide_eq_true_eq, hlen] at hf
  have ha : L.any (fun t => decide (6 < F10.siz t)) = false := List.any_eq_false.2 fun x hx => by
    have := of_decide_eq_true (List.all_eq_true.1 hf.1 x hx)
    simp; omega
  rw [ha] at hX
  replace hX := Lib.hid hX
  have g1 : ¬ ((32 : Int) < (n : Int)) := by have := hf.2; omega
  clear h hn hL hf ha hlen
  go_enter_d Tryd.func83, Tryd.ntmps83
  go_wp2_with fail
  refine hX.out.mono ?_
  rintro e w1 ⟨rfl, rfl⟩
  go_wp2
  go_end0
  exact ⟨rfl, rfl⟩
set_option maxRecDepth 100000 in
set_option maxHeartbeats 4000000 in
theorem judgeD_no (L : List Nat) (A : Option Addr) (n c xb g : Nat) (ex : Bool) (w : World) (h : LR uC w A n L) (hn : n ≤ 50000) (hL : U64 L) (hg : w.cell? ⟨g, 0, none⟩ = some (.slice A n c)) (fg : w.frozen? ⟨g, 0, none⟩ = false) (hx : w.cell? ⟨xb, 2, none⟩ = some (.bool ex)) (fx : w.frozen? ⟨xb, 2, none⟩ = false) (hne : ¬ xb = g) (hf : F10.fts L = false) : CallsD Tryd.prog 83 #[.pointer (some ⟨xb, 0, none⟩), .pointer (some ⟨g, 0, none⟩)] .returning w fun e u' w' => u' = .returning ∧ (e = .returned (.tuple #[]) ∧ w' = (w.setCell ⟨xb, 2, none⟩ (.bool true)).setCell ⟨g, 0, none⟩ (.slice none 0 0)) := by
  have hX := cfJ_any L A n c w h (by omega) hL
  have hlen := h.len
  have hne2 : ¬ g = xb := fun e => hne e.symm
  by_cases hb : 32 < n
  · have g1 : (32 : Int) < (n : Int) := by omega
    clear h hn hL hf hlen hX hb
    go_enter_d Tryd.func83, Tryd.ntmps83
    go_wp2
    go_end0
    exact ⟨rfl, rfl⟩
  · unfold F10.fts at hf
    rw [hlen] at hf
    have ha : L.any (fun t => decide (6 < F10.siz t)) = true := by
      rw [decide_eq_true (show n ≤ 32 by omega), Bool.and_true] at hf
      rw [List.any_eq_true]
      obtain ⟨x, hx, hq⟩ := List.all_eq_false.1 hf
      refine ⟨x, hx, ?_⟩
      simp at hq ⊢; omega
    rw [ha] at hX
    replace hX := Lib.hid hX
    have g1 : ¬ ((32 : Int) < (n : Int)) := by omega
    clear h hn hL hf ha hlen hb
    go_enter_d Tryd.func83, Tryd.ntmps83
    go_wp2_with fail
    refine hX.out.mono ?_
    rintro e w1 ⟨rfl, rfl⟩
    go_wp2
    go_end0
    exact ⟨rfl, rfl⟩

end Go.Proofs.YthbkdjbmkhmlnaaDoor
namespace Go.Proofs.YthbkdjbmkhmlnaaDoor
open Go.RowKit
set_option linter.unusedVariables false

theorem ba_beq (x y : ByteArray) : (x.toList == y.toList) = decide (x = y) := by
  by_cases h : x = y
  · subst h; simp
  · rw [decide_eq_false h, beq_eq_false_iff_ne]
    intro e
    apply h
    rw [Lib.toList_data, Lib.toList_data] at e
    cases x; cases y
    congr 1
    exact Array.ext' e
theorem eqf (x y : Fa) (w : World) : (Op.equalIn 10000 37 (.agg #[.string x.s, .int .i64 x.k]) (.agg #[.string y.s, .int .i64 y.k])).run Tryd.prog w = .ok (decide (x = y)) w := by
  have hS : Tryd.prog.underlying 37 = some (.struct (Tryd.prog.fieldsOf 37)) := by kernel_rfl
  have hp : Tryd.prog.stoodInHeld 37 = false := by kernel_rfl
  rw [show (10000 : Nat) = 9999 + 1 from rfl, run_equalIn_agg w 9999 37 _ _ hS hp]
  simp only [Program.fieldsOf, Tryd.underlying37]
  go_simp
  have hb := ba_beq x.s y.s
  obtain ⟨xs, xk⟩ := x
  obtain ⟨ys, yk⟩ := y
  simp only at hb ⊢
  by_cases h1 : xs = ys
  · subst h1
    by_cases h2 : xk = yk
    · subst h2; simp
    · simp [h2]
  · have h3 : ¬ xs.toList = ys.toList := fun e => by rw [decide_eq_false h1, e] at hb; simp at hb
    rw [if_neg h3]
    simp [h1]
/-- What an index of a factor leaves: the first place, or -1. -/
def Ix (L : List Fa) (f : Fa) (z : Int) : Prop := (z = -1 ∧ ¬ f ∈ L) ∨ (f ∈ L ∧ z = (L.idxOf f : Nat))
theorem idx_of {L : List Fa} {f : Fa} {i : Nat} (h : L[i]? = some f) (hall : ∀ j s, j < i → L[j]? = some s → ¬ s = f) : f ∈ L ∧ ((i : Nat) : Int) = (L.idxOf f : Nat) := by
  have hm := List.mem_of_getElem? h
  refine ⟨hm, ?_⟩
  have h1 : L.idxOf f < L.length := List.idxOf_lt_length_iff.2 hm
  have h2 : L[L.idxOf f]? = some f := by rw [List.getElem?_eq_getElem h1, List.getElem_idxOf]
  have h3 : ¬ L.idxOf f < i := fun hlt => hall _ f hlt h2 rfl
  have h4 : ¬ i < L.idxOf f := fun hlt => by
    have h5 := List.not_of_lt_findIdx (show i < L.findIdx (· == f) from hlt)
    obtain ⟨h6, h7⟩ := List.getElem?_eq_some_iff.1 h
    rw [h7] at h5
    simp at h5
  omega

set_option maxRecDepth 100000 in
set_option maxHeartbeats 4000000 in
theorem place_any (L : List Fa) (A : Option Addr) (n c : Nat) (f : Fa) (w : World) (h : LR faC w A n L) (hn : n ≤ 100000) : Calls Tryd.prog 39 #[.slice A n c, .agg #[.string f.s, .int .i64 f.k]] w fun e w' => (∃ z : Int, e = .returned (.int .i64 z) ∧ Ix L f z) ∧ Below w.heap.size w w' := by
  have hb := Lib.hid hn
  have hlen := Lib.hid h.len
  have S0 := Lib.hid ((St.new w).alloc #[.string f.s, .int .i64 f.k] 37 (noLof rfl))
  have hq := eqf
  replace h := Lib.hid h
  clear hn
  go_enter Tryd.func39, Tryd.ntmps39
  go_wp2
  obtain ⟨w1, hw1⟩ : ∃ W, W = w.alloc (.cells #[.string f.s, .int .i64 f.k] 37) := ⟨_, rfl⟩
  rw [← hw1] at S0
  rw [← hw1]
  clear hw1
  go_loopw [5] (fun iv wr => ∃ i : Nat, i ≤ n ∧ iv = .int .i64 i ∧ Below w1.heap.size w1 wr ∧ (∀ j s, j < i → L[j]? = some s → ¬ s = f)) (fun iv _ => n - (intOf iv).toNat)
  case atStart => exact ⟨0, Nat.zero_le _, rfl, Below.refl _ _, fun j s h0 => absurd h0 (Nat.not_lt_zero _)⟩
  case round =>
    obtain ⟨i, hin, rfl, B, hall⟩ := hrel
    have S1 := Lib.hid (S0.out.call B)
    by_cases hlt : i < n
    · obtain ⟨b, o, x, rfl, hx, hxm, e0, e1⟩ := fa_get (h.out.bel S1.out.bel) hlt
      have d0 := Lib.hid (S1.out.cl 0 0 rfl rfl)
      have d1 := Lib.hid (S1.out.cl 0 1 rfl rfl)
      have hih := Lib.hid hlt
      have g1 : (i : Int) < (n : Int) := by omega
      have g2 : (0 : Int) ≤ (i : Int) := by omega
      replace hall := Lib.hid hall
      replace hx := Lib.hid hx
      replace B := Lib.hid B
      replace e0 := Lib.hid e0
      replace e1 := Lib.hid e1
      clear hlt hin hxm S1
      go_upto_region 4 with fail
      have hbase := Lib.hid (St.new wr)
      refine RW.begin (Z := []) (S := (fun W => Below wr.heap.size wr W)) (by kernel_rfl) ?_ hbase.out ?_
      · exact ⟨by kernel_rfl, zis_nil, by decide, by decide, nol_nil, (fun _ _ h => h.bel)⟩
      intro hzk
      refine RW.t (i := 0) (v := .slice (some ⟨b, o, none⟩) n c) (some 12) at0 (hy := fun _ _ => by kernel_rfl) (h := ?_)
      refine RW.t (i := 1) (v := .int .i64 i) (some 13) at1 (hy := fun _ _ => by kernel_rfl) (h := ?_)
      refine RW.t (i := 2) (v := .pointer (some ⟨b, o + i * 2, none⟩)) (some 14) at2 (hy := fun _ _ => by go_simp) (h := ?_)
      refine RW.t (i := 3) (v := .agg #[.string x.s, .int .i64 x.k]) (some 15) at3 (hy := fun W hS => by (have k0 := bel_cell hS e0.out; have k1 := bel_cell hS e1.out; clear hS; go_simp)) (h := ?_)
      refine RW.t (i := 4) (v := .agg #[.string f.s, .int .i64 f.k]) (some 16) at4 (hy := fun W hS => by (have k0 := bel_cell hS d0.out; have k1 := bel_cell hS d1.out; clear hS; go_simp)) (h := ?_)
      refine RW.t (i := 5) (v := .bool (decide (x = f))) (some 17) at5 (hy := fun W _ => by (have hq1 := eqf x f W; go_simp)) (h := ?_)
      refine RW.tail hzk.out (by kernel_rfl) ?_
      intro gs' w5 hgs' hS Sb
      obtain rfl := len0 hgs'
      simp only [mark, fill, Act.put, List.setIfInBounds_toArray, List.set_cons_zero, List.set_cons_succ]
      refine Wk.done (by kernel_rfl) ?_
      have T := Lib.hid (B.out.trans (hS.mono B.out.size))
      clear Sb hgs' hzk hbase hS B
      try go_simp
      have hlt := hih.out
      have hbb := hb.out
      by_cases hv : x = f
      · have hI := Lib.hid (idx_of (f := f) (by rw [hx.out]; first | rw [hv] | rw [← hv]) hall.out)
        have hd : decide (x = f) = true := decide_eq_true hv
        have TT := Lib.hid (S0.out.bel.trans (T.out.mono S0.out.bel.size))
        replace hv := Lib.hid hv
        clear hall T
        go_wp2
        go_ret
        exact ⟨⟨_, rfl, .inr hI.out⟩, TT.out⟩
      · have hd : decide (x = f) = false := decide_eq_false hv
        replace hv := Lib.hid hv
        go_wp2
        go_roundw
        case rel => exact ⟨i + 1, by omega, by go_num, T.out, fun j' t h1 h2 => (by rcases Nat.lt_or_ge j' i with h3 | h3; exact hall.out j' t h3 h2; obtain rfl : j' = i := (by omega); rw [hx.out] at h2; injection h2 with h2; subst h2; exact fun e => hv.out (by first | exact e | exact e.symm))⟩
        case measure => simp [intOf]; omega
    · obtain rfl : i = n := by omega
      have hfin : Hid (¬ f ∈ L) := Lib.hid fun hm => by
        obtain ⟨k, hk⟩ := List.getElem?_of_mem hm
        exact hall k f (by rw [← hlen.out]; exact (List.getElem?_eq_some_iff.1 hk).1) hk rfl
      clear hall hin hlt B
      go_wp2
      go_ret
      exact ⟨⟨-1, rfl, .inl ⟨rfl, hfin.out⟩⟩, S1.out.bel⟩

set_option maxRecDepth 100000 in
set_option maxHeartbeats 4000000 in
theorem indexF_any (L : List Fa) (A : Option Addr) (n c : Nat) (f : Fa) (w : World) (h : LR faC w A n L) (hn : n ≤ 100000) : Calls Tryd.prog 95 #[.slice A n c, .agg #[.string f.s, .int .i64 f.k]] w fun e w' => (∃ z : Int, e = .returned (.int .i64 z) ∧ Ix L f z) ∧ Below w.heap.size w w' := by
  have hb := Lib.hid hn
  have hlen := Lib.hid h.len
  have S0 := Lib.hid ((St.new w).alloc #[.string f.s, .int .i64 f.k] 37 (noLof rfl))
  have hq := eqf
  replace h := Lib.hid h
  clear hn
  go_enter Tryd.func95, Tryd.ntmps95
  go_wp2
  obtain ⟨w1, hw1⟩ : ∃ W, W = w.alloc (.cells #[.string f.s, .int .i64 f.k] 37) := ⟨_, rfl⟩
  rw [← hw1] at S0
  rw [← hw1]
  clear hw1
  go_loopw [8] (fun iv wr => ∃ i : Nat, i ≤ n ∧ iv = .int .i64 i ∧ Below w1.heap.size w1 wr ∧ (∀ j s, j < i → L[j]? = some s → ¬ s = f)) (fun iv _ => n - (intOf iv).toNat)
  case atStart => exact ⟨0, Nat.zero_le _, rfl, Below.refl _ _, fun j s h0 => absurd h0 (Nat.not_lt_zero _)⟩
  case round =>
    obtain ⟨i, hin, rfl, B, hall⟩ := hrel
    have S1 := Lib.hid (S0.out.call B)
    by_cases hlt : i < n
    · obtain ⟨b, o, x, rfl, hx, hxm, e0, e1⟩ := fa_get (h.out.bel S1.out.bel) hlt
      have d0 := Lib.hid (S1.out.cl 0 0 rfl rfl)
      have d1 := Lib.hid (S1.out.cl 0 1 rfl rfl)
      have hih := Lib.hid hlt
      have g1 : (i : Int) < (n : Int) := by omega
      have g2 : (0 : Int) ≤ (i : Int) := by omega
      replace hall := Lib.hid hall
      replace hx := Lib.hid hx
      replace B := Lib.hid B
      replace e0 := Lib.hid e0
      replace e1 := Lib.hid e1
      clear hlt hin hxm S1
      go_upto_region 4 with fail
      have hbase := Lib.hid (St.new wr)
      refine RW.begin (Z := []) (S := (fun W => Below wr.heap.size wr W)) (by kernel_rfl) ?_ hbase.out ?_
      · exact ⟨by kernel_rfl, zis_nil, by decide, by decide, nol_nil, (fun _ _ h => h.bel)⟩
      intro hzk
      refine RW.t (i := 0) (v := .agg #[.string f.s, .int .i64 f.k]) (some 11) at0 (hy := fun W hS => by (have k0 := bel_cell hS d0.out; have k1 := bel_cell hS d1.out; clear hS; go_simp)) (h := ?_)
      refine RW.t (i := 1) (v := .slice (some ⟨b, o, none⟩) n c) (some 12) at1 (hy := fun _ _ => by kernel_rfl) (h := ?_)
      refine RW.t (i := 2) (v := .int .i64 i) (some 13) at2 (hy := fun _ _ => by kernel_rfl) (h := ?_)
      refine RW.t (i := 3) (v := .pointer (some ⟨b, o + i * 2, none⟩)) (some 14) at3 (hy := fun _ _ => by go_simp) (h := ?_)
      refine RW.t (i := 4) (v := .agg #[.string x.s, .int .i64 x.k]) (some 15) at4 (hy := fun W hS => by (have k0 := bel_cell hS e0.out; have k1 := bel_cell hS e1.out; clear hS; go_simp)) (h := ?_)
      refine RW.t (i := 5) (v := .bool (decide (f = x))) (some 16) at5 (hy := fun W _ => by (have hq1 := eqf f x W; go_simp)) (h := ?_)
      refine RW.tail hzk.out (by kernel_rfl) ?_
      intro gs' w5 hgs' hS Sb
      obtain rfl := len0 hgs'
      simp only [mark, fill, Act.put, List.setIfInBounds_toArray, List.set_cons_zero, List.set_cons_succ]
      refine Wk.done (by kernel_rfl) ?_
      have T := Lib.hid (B.out.trans (hS.mono B.out.size))
      clear Sb hgs' hzk hbase hS B
      try go_simp
      have hlt := hih.out
      have hbb := hb.out
      by_cases hv : f = x
      · have hI := Lib.hid (idx_of (f := f) (by rw [hx.out]; first | rw [hv] | rw [← hv]) hall.out)
        have hd : decide (f = x) = true := decide_eq_true hv
        have TT := Lib.hid (S0.out.bel.trans (T.out.mono S0.out.bel.size))
        replace hv := Lib.hid hv
        clear hall T
        go_wp2
        go_ret
        exact ⟨⟨_, rfl, .inr hI.out⟩, TT.out⟩
      · have hd : decide (f = x) = false := decide_eq_false hv
        replace hv := Lib.hid hv
        go_wp2
        go_roundw
        case rel => exact ⟨i + 1, by omega, by go_num, T.out, fun j' t h1 h2 => (by rcases Nat.lt_or_ge j' i with h3 | h3; exact hall.out j' t h3 h2; obtain rfl : j' = i := (by omega); rw [hx.out] at h2; injection h2 with h2; subst h2; exact fun e => hv.out (by first | exact e | exact e.symm))⟩
        case measure => simp [intOf]; omega
    · obtain rfl : i = n := by omega
      have hfin : Hid (¬ f ∈ L) := Lib.hid fun hm => by
        obtain ⟨k, hk⟩ := List.getElem?_of_mem hm
        exact hall k f (by rw [← hlen.out]; exact (List.getElem?_eq_some_iff.1 hk).1) hk rfl
      clear hall hin hlt B
      go_wp2
      go_ret
      exact ⟨⟨-1, rfl, .inl ⟨rfl, hfin.out⟩⟩, S1.out.bel⟩

end Go.Proofs.YthbkdjbmkhmlnaaDoor
namespace Go.Proofs.YthbkdjbmkhmlnaaDoor
open Go.RowKit
set_option linter.unusedVariables false

section
variable {α : Type} {C : Cod α} {w W W' : World} {A : Option Addr} {n c e g t : Nat} {L : List α} {bs bs' : List GBk} {rs : List GRd} {v : Value}
theorem Gro.prm (h : Gro C w W bs rs e v L) (p : bs.Perm bs') : Gro C w W bs' rs e v L := by
  obtain ⟨ob, h1, h2⟩ := h.1.open_
  exact ⟨Apd.close h1 (h2.prm (p.append_right ob)), fun x hx => C.mono (h.2 x hx) (fun q hq => p.mem_iff.1 hq) (fun q hq => hq)⟩
/-- A store into another block at hand. -/
theorem Gro.put (h : Gro C w W bs [] e v L) (i : Nat) {g t : Nat} {cs : Array Value} (hi : bs[i]? = some (g, cs, t)) (k : Nat) (u : Value) (hu : ∀ z, u ≠ .int .u32 z) (hin : ∀ x ∈ L, C.In w (bs.set i (g, cs.setIfInBounds k u, t)) [] x) : Gro C w (W.setCell ⟨g, k, none⟩ u) (bs.set i (g, cs.setIfInBounds k u, t)) [] e v L := by
  obtain ⟨⟨h1, h2, h3⟩, h4⟩ := h
  refine ⟨⟨h1, h2, ?_⟩, hin⟩
  rcases h3 with ⟨a, b, S⟩ | ⟨gg, cap, cur, a, b, c, d, f, S⟩
  · exact .inl ⟨a, b, S.set i k u hi hu⟩
  · exact .inr ⟨gg, cap, cur, a, b, c, d, f, S.set (i + 1) k u hi hu⟩
/-- Where a slice of a call's own lies. -/
theorem Gro.own (G : Gro C w W [] [] e v L) (hin : ∀ (w0 : World) bs, ∀ x ∈ L, C.In w0 bs [] x) : ∃ A c ob, v = .slice A L.length c ∧ L.length ≤ c ∧ St w W ob [] ∧ ∀ (w0 : World) (bs : List GBk), (∀ p ∈ ob, p ∈ bs) → LI C w0 bs [] A L.length L := by
  obtain ⟨⟨h1, h2, ⟨rfl, h3, S⟩ | ⟨g, cap, cur, rfl, h3, h4, h5, h6, S⟩⟩, _⟩ := G
  · have : L = [] := List.length_eq_zero_iff.1 h3
    subst this
    exact ⟨none, 0, [], rfl, Nat.le_refl _, S, fun _ _ _ => LI.nil_ _ _ _ _ _⟩
  · refine ⟨_, _, _, rfl, h3, S, fun w0 bs hb => ⟨rfl, .inr (.inr ⟨g, cur, e, rfl, hb _ List.mem_cons_self, fun j u hu => ?_⟩), hin w0 bs⟩⟩
    rw [← h6, List.getElem?_take] at hu
    split at hu
    · simpa using hu
    · cases hu
end
/-- The expander: what is left of the nodes, the factors so far, whether a limit has been exceeded. -/
def XS (w0 W : World) (xb : Nat) (ns : List Nd) (fs : List Fa) (ex : Bool) (bs : List GBk) : Prop :=
  ∃ (A : Option Addr) (c : Nat) (fv : Value), LR ndC w0 A ns.length ns ∧ ns.length ≤ c ∧ Gro faC w0 W ((xb, #[.slice A ns.length c, fv, .bool ex], 54) :: bs) [] 37 fv fs
section
variable {w0 W W' : World} {xb : Nat} {ns : List Nd} {fs : List Fa} {ex : Bool} {bs bs' : List GBk}
theorem XS.bel (h : XS w0 W xb ns fs ex bs) : Below w0.heap.size w0 W := by
  obtain ⟨A, c, fv, h1, h2, G⟩ := h
  exact G.st.bel
theorem XS.st (h : XS w0 W xb ns fs ex bs) : St w0 W bs [] := by
  obtain ⟨A, c, fv, h1, h2, G⟩ := h
  exact G.st.sub
theorem XS.call (h : XS w0 W xb ns fs ex bs) (hb : Below W.heap.size W W') : XS w0 W' xb ns fs ex bs := by
  obtain ⟨A, c, fv, h1, h2, G⟩ := h
  exact ⟨A, c, fv, h1, h2, G.call hb⟩
theorem XS.more (h : XS w0 W xb ns fs ex bs) (cs : Array Value) (t : Nat) (hn : NoL cs) : XS w0 (W.alloc (.cells cs t)) xb ns fs ex ((W.heap.size, cs, t) :: bs) := by
  obtain ⟨A, c, fv, h1, h2, G⟩ := h
  exact ⟨A, c, fv, h1, h2, (G.alloc cs t hn).prm (List.Perm.swap _ _ _)⟩
theorem XS.sub {p : GBk} (h : XS w0 W xb ns fs ex (p :: bs)) : XS w0 W xb ns fs ex bs := by
  obtain ⟨A, c, fv, h1, h2, G⟩ := h
  exact ⟨A, c, fv, h1, h2, (G.prm (List.Perm.swap _ _ _)).sub (fun _ _ => fa_in _)⟩
theorem XS.prm (h : XS w0 W xb ns fs ex bs) (p : bs.Perm bs') : XS w0 W xb ns fs ex bs' := by
  obtain ⟨A, c, fv, h1, h2, G⟩ := h
  exact ⟨A, c, fv, h1, h2, G.prm (p.cons _)⟩
theorem XS.adopt {ob : List GBk} (h : XS w0 W xb ns fs ex bs) (S : St W W' ob []) : XS w0 W' xb ns fs ex (bs ++ ob) := by
  obtain ⟨A, c, fv, h1, h2, G⟩ := h
  exact ⟨A, c, fv, h1, h2, G.join S⟩
theorem XS.put {g t : Nat} {cs : Array Value} (h : XS w0 W xb ns fs ex ((g, cs, t) :: bs)) (k : Nat) (u : Value) (hu : ∀ z, u ≠ .int .u32 z) : XS w0 (W.setCell ⟨g, k, none⟩ u) xb ns fs ex ((g, cs.setIfInBounds k u, t) :: bs) := by
  obtain ⟨A, c, fv, h1, h2, G⟩ := h
  exact ⟨A, c, fv, h1, h2, G.put 1 rfl k u hu (fun _ _ => fa_in _)⟩
theorem XS.exceed (h : XS w0 W xb ns fs ex bs) (b : Bool) : XS w0 (W.setCell ⟨xb, 2, none⟩ (.bool b)) xb ns fs b bs := by
  obtain ⟨A, c, fv, h1, h2, G⟩ := h
  exact ⟨A, c, fv, h1, h2, G.put 0 rfl 2 (.bool b) (by nofun) (fun _ _ => fa_in _)⟩
/-- The cells of the expander. -/
theorem XS.cells (h : XS w0 W xb ns fs ex bs) : ∃ (A : Option Addr) (c : Nat) (F : Option Addr) (d : Nat), LR ndC W A ns.length ns ∧ ns.length ≤ c ∧ LR faC W F fs.length fs ∧ fs.length ≤ d ∧ W.cell? ⟨xb, 0, none⟩ = some (.slice A ns.length c) ∧ W.cell? ⟨xb, 1, none⟩ = some (.slice F fs.length d) ∧ W.cell? ⟨xb, 2, none⟩ = some (.bool ex) ∧ (∀ k, W.frozen? ⟨xb, k, none⟩ = false) ∧ w0.heap.size ≤ xb ∧ xb < W.heap.size := by
  obtain ⟨A, c, fv, h1, h2, G⟩ := h
  obtain ⟨F, d, rfl, hl, hc⟩ := G.lrc
  have S := G.st
  exact ⟨A, c, F, d, h1.bel S.bel, h2, hl, hc, S.cl 0 0 rfl rfl, S.cl 0 1 rfl rfl, S.cl 0 2 rfl rfl, fun k => S.f 0 k rfl, (S.bk _ List.mem_cons_self).2.2, S.lt 0 rfl⟩
theorem XS.ne {g t : Nat} {cs : Array Value} (h : XS w0 W xb ns fs ex ((g, cs, t) :: bs)) : ¬ xb = g := by
  obtain ⟨A, c, fv, h1, h2, G⟩ := h
  exact (List.pairwise_cons.1 G.st.nd).1 _ List.mem_cons_self
end
theorem res_nxt (W : World) (tmps : Array Value) (g t : Nat) {v0 v1 v2 : Value} (ht : tmps.getD 2 undef = .pointer (some ⟨g, 0, none⟩)) (h : Cb W g #[v0, v1, v2] t) :
    (results Tryd.f52 tmps).run Tryd.prog W = .ok (.agg #[v0, v1, v2]) W := by
  have c0 : W.cell? ⟨g, 0, none⟩ = some v0 := h.cell rfl
  have c1 : W.cell? ⟨g, 1, none⟩ = some v1 := h.cell rfl
  have c2 : W.cell? ⟨g, 2, none⟩ = some v2 := h.cell rfl
  have ht' : tmps[2]?.getD undef = .pointer (some ⟨g, 0, none⟩) := by rw [← ht]; simp [Array.getD_eq_getD_getElem?]
  simp [results, Tryd.results52, go_sem, ht', c0, c1, c2]

set_option maxRecDepth 100000 in
set_option maxHeartbeats 4000000 in
theorem next_any (w0 w : World) (xb : Nat) (y : Nd) (ns : List Nd) (fs : List Fa) (ex : Bool) (bs : List GBk) (h : XS w0 w xb (y :: ns) fs ex bs) (hn : ns.length ≤ 1000) : Calls Tryd.prog 52 #[.pointer (some ⟨xb, 0, none⟩)] w fun e w' => e = .returned (.agg #[.int .i64 y.o, .string y.s, .int .i64 y.k]) ∧ XS w0 w' xb ns fs ex bs := by
  have h1 := Lib.hid (h.more #[.int .i64 0, .string ⟨#[]⟩, .int .i64 0] 39 (noLof rfl))
  obtain ⟨rb, hrb⟩ : ∃ b, b = w.heap.size := ⟨_, rfl⟩
  have hnn := Lib.hid hn
  rw [← hrb] at h1
  clear h hn
  go_enter Tryd.func52, Tryd.ntmps52
  go_upto_region 1 with fail
  rw [← hrb]
  obtain ⟨w1, hw1⟩ : ∃ W, W = w.alloc (.cells #[.int .i64 0, .string ⟨#[]⟩, .int .i64 0] 39) := ⟨_, rfl⟩
  rw [← hw1] at h1
  rw [← hw1]
  clear hw1 hrb
  obtain ⟨A, c, fv, hA, hc, G⟩ := h1.out
  have hA1 := hA.bel G.st.bel
  obtain ⟨b, o, x, rfl, hx, _, e0, e1, e2⟩ := nd_get hA1 (i := 0) (by simp)
  obtain rfl : y = x := by simpa using hx
  have hsub := Lib.hid (hA.sub (m := 1) (by simp))
  rw [Nat.zero_mul, Nat.add_zero] at e0 e1 e2
  have c0 : w1.cell? ⟨xb, 0, none⟩ = some (.slice (some ⟨b, o, none⟩) (ns.length + 1) c) := G.st.cl 0 0 rfl rfl
  have G2 := Lib.hid (G.alloc #[.int .i64 y.o, .string y.s, .int .i64 y.k] 39 (noLof rfl))
  obtain ⟨tb, htb⟩ : ∃ z, z = w1.heap.size := ⟨_, rfl⟩
  rw [← htb] at G2
  obtain ⟨w2, hw2⟩ : ∃ W, W = w1.alloc (.cells #[.int .i64 y.o, .string y.s, .int .i64 y.k] 39) := ⟨_, rfl⟩
  rw [← hw2] at G2
  replace G := Lib.hid G
  replace hA := Lib.hid hA
  have hcc := Lib.hid hc
  have hnl := Lib.hid (show (y :: ns).length = ns.length + 1 from rfl)
  clear hx hA1 hc
  have g1 : (0 : Int) < ((ns.length + 1 : Nat) : Int) := by omega
  go_upto_region 2 with fail
  rw [← htb, ← hw2]
  clear e0 e1 e2 c0 hw2 htb
  have d0 : w2.cell? ⟨xb, 0, none⟩ = some (.slice (some ⟨b, o, none⟩) (ns.length + 1) c) := G2.out.st.cl 1 0 rfl rfl
  have z0 := G2.out.st.f 1 0 rfl
  have hA2 : Hid (∃ A2 : Option Addr, ((c = 1 ∧ A2 = some ⟨b, o, none⟩) ∨ (¬ c = 1 ∧ A2 = some ⟨b, o + 3, none⟩)) ∧ LR ndC w0 A2 ns.length ns) := Lib.hid (by
    have h5 := hsub.out
    by_cases hc1 : c = 1
    · have : ns.length = 0 := by have := hcc.out; rw [hnl.out] at this; omega
      have : ns = [] := List.length_eq_zero_iff.1 this
      subst this
      exact ⟨_, .inl ⟨hc1, rfl⟩, LR.nil_ _ _ _⟩
    · exact ⟨_, .inr ⟨hc1, rfl⟩, h5⟩)
  obtain ⟨A2, hA3, hA4⟩ := hA2.out
  replace hA4 := Lib.hid hA4
  clear hA2 hsub hA G h1
  have G3 := Lib.hid (G2.out.put 1 rfl 0 (.slice A2 ns.length (c - 1)) (by nofun) (fun _ _ => fa_in _))
  replace G3 := Lib.hid (show Gro faC w0 (w2.setCell ⟨xb, 0, none⟩ (.slice A2 ns.length (c - 1))) ((tb, #[.int .i64 y.o, .string y.s, .int .i64 y.k], 39) :: (xb, #[.slice A2 ns.length (c - 1), fv, .bool ex], 54) :: (rb, #[.int .i64 0, .string ⟨#[]⟩, .int .i64 0], 39) :: bs) [] 37 fv fs from G3.out)
  obtain ⟨w3, hw3⟩ : ∃ W, W = w2.setCell ⟨xb, 0, none⟩ (.slice A2 ns.length (c - 1)) := ⟨_, rfl⟩
  rw [← hw3] at G3
  have hc2 : ns.length + 1 ≤ c := hcc.out
  have g5 : ns.length + 1 - 1 = ns.length := by omega
  clear hcc
  go_cut [3] from 4 (fun v wc => v = .pointer (some ⟨tb, 0, none⟩) ∧ wc = w3)
  case first =>
    rcases hA3 with ⟨rfl, rfl⟩ | ⟨hc1, rfl⟩
    · go_upto_region 3 with fail
      go_meet
      exact ⟨rfl, hw3.symm⟩
    · go_upto_region 3 with fail
      go_meet
      exact ⟨rfl, hw3.symm⟩
  case rest =>
    obtain ⟨rfl, rfl⟩ := hcut
    clear hw3 d0 z0 hA3 G2
    have t0 : wc.cell? ⟨tb, 0, none⟩ = some (.int .i64 y.o) := G3.out.st.cl 0 0 rfl rfl
    have t1 : wc.cell? ⟨tb, 1, none⟩ = some (.string y.s) := G3.out.st.cl 0 1 rfl rfl
    have t2 : wc.cell? ⟨tb, 2, none⟩ = some (.int .i64 y.k) := G3.out.st.cl 0 2 rfl rfl
    have r0 : wc.cell? ⟨rb, 0, none⟩ = some (.int .i64 0) := G3.out.st.cl 2 0 rfl rfl
    have r1 : wc.cell? ⟨rb, 1, none⟩ = some (.string ⟨#[]⟩) := G3.out.st.cl 2 1 rfl rfl
    have r2 : wc.cell? ⟨rb, 2, none⟩ = some (.int .i64 0) := G3.out.st.cl 2 2 rfl rfl
    have q0 := G3.out.st.f 2 0 rfl
    have q1 := G3.out.st.f 2 1 rfl
    have q2 := G3.out.st.f 2 2 rfl
    have G4 := Lib.hid (((G3.out.put 2 rfl 0 (.int .i64 y.o) (by nofun) (fun _ _ => fa_in _)).put 2 rfl 1 (.string y.s) (by nofun) (fun _ _ => fa_in _)).put 2 rfl 2 (.int .i64 y.k) (by nofun) (fun _ _ => fa_in _))
    have hcl := Lib.hid (show ns.length ≤ c - 1 by omega)
    clear G3
    go_wp2
    refine bodyPost_ret (res_nxt _ _ rb 39 rfl (G4.out.st.cb 2 rfl)) rfl ⟨rfl, A2, c - 1, fv, hA4.out, hcl.out, ?_⟩
    exact (G4.out.sub (fun _ _ => fa_in _)).prm (List.Perm.swap _ _ _) |>.sub (fun _ _ => fa_in _)
end Go.Proofs.YthbkdjbmkhmlnaaDoor
