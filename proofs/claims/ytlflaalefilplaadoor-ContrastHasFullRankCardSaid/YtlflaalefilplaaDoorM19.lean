/- The names that the program and the reference give. -/
import Derived.Test.YtlflaalefilplaaDoorM18
namespace Go.Proofs.YtlflaalefilplaaDoor
open Go.RowKit
set_option linter.unusedVariables false

theorem make_str (n : Nat) (hn : n ≤ 1000000) (w : World) : (Instr.makeSlice 29 (.int .i64 (n : Int)) (.int .i64 (n : Int))).run Tryd.prog w = .ok (.slice (some ⟨w.heap.size, 0, none⟩) n n) (w.alloc (.cells (strC.all (List.replicate n ByteArray.empty)).toArray 9)) :=
  make_of strC ByteArray.empty 29 9 (.string ByteArray.empty) 16 Tryd.underlying29 (by kernel_rfl) rfl (by decide) n hn w
/-- What a function gives back that returns names. -/
def NamR (K : List ByteArray) (w : World) (e : Ending) (w' : World) : Prop := ∃ A c, e = .returned (.tuple #[.slice A K.length c, .int .i64 0]) ∧ LR strC w' A K.length K ∧ K.length ≤ c ∧ Below w.heap.size w w'
theorem nm_size {k : Int} {L : List ByteArray} {j : Nat} (hs : ∀ s ∈ L, s.size ≤ 1000) (hj : j ≤ 50) : (nmB k L j).size ≤ 1010 := by
  have h1 : ∀ i : Nat, (L[i]?.getD ByteArray.empty).size ≤ 1000 := fun i => by
    cases h : L[i]? with
    | none => exact Nat.zero_le _
    | some x => exact hs x (List.mem_of_getElem? h)
  unfold nmB
  have h2 : (Lib.decDigits (j + 1)).length ≤ 2 := dec_len_le (k := 1) (by omega)
  split
  · rw [ByteArray.size_append]; have := h1 j; show 1 + _ ≤ _; omega
  · split
    · rw [ByteArray.size_append]; have := h1 (j + 1); show 1 + _ ≤ _; omega
    · rw [ByteArray.size_append]
      show 1 + (Lib.decDigits (j + 1)).toArray.size ≤ _
      simp; omega
set_option maxRecDepth 100000 in
set_option maxHeartbeats 4000000 in
theorem names_4 (L : List ByteArray) (A : Option Addr) (n c : Nat) (w : World) (h : LR strC w A n L) (n0 : 1 ≤ n) (n1 : n ≤ 32) (hs : ∀ s ∈ L, s.size ≤ 1000) : Calls Tryd.prog 11 #[.int .i64 4, .slice A n c] w (NamR (nmL 4 L) w) := by
  have hQ := Lib.hid (rule_4 n w (by omega) (by omega))
  have hLn := h.len
  have hc : cols 4 L.length = n := by rw [hLn]; rfl
  have hN : Hid (∀ (j : Nat) W, Below w.heap.size w W → j < n → Calls Tryd.prog 41 #[.int .i64 j, .slice A n c] W fun e w' => e = .returned (.string (nmB 4 L j)) ∧ w' = W) := Lib.hid fun j W hW hj => own_any L A n c j W (h.bel hW) (by omega) hs
  have hsz : Hid (∀ j : Nat, j ≤ 50 → (nmB 4 L j).size ≤ 1010) := Lib.hid fun j hj => nm_size hs hj
  have hm2 : ∀ W, (Instr.makeSlice 29 (.int .i64 (n : Int)) (.int .i64 (n : Int))).run Tryd.prog W = .ok (.slice (some ⟨W.heap.size, 0, none⟩) n n) (W.alloc (.cells (strC.all (List.replicate n ByteArray.empty)).toArray 9)) := fun W => make_str n (by omega) W
  have S0 := Lib.hid (St.new w)
  have hn1 := Lib.hid n1
  have hn0 := Lib.hid n0
  have b1 : (n : Int) ≤ 32 := by omega
  have b0 : (1 : Int) ≤ (n : Int) := by omega
  replace hc := Lib.hid hc
  clear n0 n1 h hs hLn
  go_enter Tryd.func11, Tryd.ntmps11
  go_wp2_with fail
  refine hQ.out.mono ?_
  rintro e w1 ⟨rfl, bb⟩
  obtain ⟨rb, hrb⟩ : ∃ g, g = w1.heap.size := ⟨_, rfl⟩
  obtain ⟨g, hg⟩ : ∃ g, g = rb + 1 := ⟨_, rfl⟩
  have S1 := Lib.hid (((S0.out.call bb).allocAt rb #[.int .i64 0, .func (.func 40) #[] #[], .func (.func 41) #[] #[]] 53 (noLof rfl) hrb.symm).allocC strC (List.replicate n ByteArray.empty) g 9 (by rw [hg, hrb]; simp))
  clear bb S0 hQ
  go_wp2
  rw [← hrb, ← hg]
  clear hrb hg b1 b0
  go_loopw [27] (fun jv wr => ∃ (j : Nat) (R : List ByteArray), j ≤ n ∧ jv = .int .i64 j ∧ R.length = n ∧ St w wr ((g, (strC.all R).toArray, 9) :: (rb, #[.int .i64 0, .func (.func 40) #[] #[], .func (.func 41) #[] #[]], 53) :: []) [] ∧ R.take j = (nmL 4 L).take j) (fun jv _ => n - (intOf jv).toNat)
  case atStart => exact ⟨0, List.replicate n ByteArray.empty, Nat.zero_le _, rfl, List.length_replicate, S1.out, rfl⟩
  case round =>
    clear S1
    obtain ⟨j, R, hjn, rfl, hRl, T, hV⟩ := hrel
    replace hRl := Lib.hid hRl
    replace hV := Lib.hid hV
    by_cases hlt : j < n
    · have g4 : (j : Int) < ((n : Nat) : Int) := by omega
      have g5 : (0 : Int) ≤ (j : Int) := by omega
      have hjh := Lib.hid hlt
      have hNj := Lib.hid (hN.out j wr T.bel hlt)
      obtain ⟨y0, hy0⟩ : ∃ y, R[j]? = some y := ⟨_, List.getElem?_eq_getElem (by rw [hRl.out]; exact hlt)⟩
      obtain ⟨hcl, hfr⟩ := St_gcl (C := strC) T hy0
      have c0 := hcl 0 _ rfl
      rw [show strC.sz = 1 from rfl, Nat.mul_one, Nat.add_zero] at c0
      have f0 := hfr j
      have cr := T.cl 1 2 rfl rfl
      have T3 : Hid (St w (wr.setCell ⟨g, j, none⟩ (.string (nmB 4 L j))) ((g, (strC.all (R.set j (nmB 4 L j))).toArray, 9) :: (rb, #[.int .i64 0, .func (.func 40) #[] #[], .func (.func 41) #[] #[]], 53) :: []) []) := Lib.hid (by
        have h := St_gset (C := strC) T (nmB 4 L j) (i := j) (by rw [hRl.out]; exact hlt)
        simpa [wset, strC, cellC] using h)
      have hV2 : Hid ((R.set j (nmB 4 L j)).take (j + 1) = (nmL 4 L).take (j + 1)) := Lib.hid (by
        rw [take_set_snoc (by rw [hRl.out]; exact hlt), nmL_take (by rw [hc.out]; exact hlt), hV.out])
      have hRl2 : Hid ((R.set j (nmB 4 L j)).length = n) := Lib.hid (by rw [List.length_set]; exact hRl.out)
      clear hcl hfr hy0 hV hlt hjn T
      generalize nmB 4 L j = v at *
      go_wp2_with fail
      refine hNj.out.mono ?_
      rintro e w2 ⟨rfl, rfl⟩
      have b1 : (n : Int) ≤ 32 := by have := hn1.out; omega
      have b2 := hjh.out
      clear hNj
      go_wp2
      go_roundw
      case rel => exact ⟨j + 1, _, by omega, by go_num, hRl2.out, T3.out, hV2.out⟩
      case measure => simp [intOf]; omega
    · obtain rfl : n = j := by omega
      have hfin : R = nmL 4 L := by
        have h := hV.out
        rwa [List.take_of_length_le (by rw [hRl.out]; exact Nat.le_refl _), List.take_of_length_le (by rw [nmL_len, hc.out]; exact Nat.le_refl _)] at h
      have hres : Hid (NamR (nmL 4 L) w (.returned (.tuple #[.slice (some ⟨g, 0, none⟩) n n, .int .i64 0])) wr) := Lib.hid (by
        have hl := hRl.out
        rw [hfin] at hl T
        refine ⟨some ⟨g, 0, none⟩, n, ?_, ?_, ?_, T.bel⟩
        · rw [hl]
        · rw [hl]; exact St_glr T _ hl (fun _ _ => trivial)
        · rw [hl]; exact Nat.le_refl _)
      clear T hV hRl hfin hlt hjn hN
      go_wp2
      go_ret2
      exact hres.out
set_option maxRecDepth 100000 in
set_option maxHeartbeats 4000000 in
theorem names_1 (L : List ByteArray) (A : Option Addr) (n c : Nat) (w : World) (h : LR strC w A n L) (n0 : 1 ≤ n) (n1 : n ≤ 32) (hs : ∀ s ∈ L, s.size ≤ 1000) : Calls Tryd.prog 11 #[.int .i64 1, .slice A n c] w (NamR (nmL 1 L) w) := by
  have hQ := Lib.hid (rule_1 n w (by omega) (by omega))
  have hLn := h.len
  have hc : cols 1 L.length = (n - 1) := by rw [hLn]; rfl
  have hN : Hid (∀ (j : Nat) W, Below w.heap.size w W → j < (n - 1) → Calls Tryd.prog 43 #[.int .i64 j, .slice A n c] W fun e w' => e = .returned (.string (nmB 1 L j)) ∧ w' = W) := Lib.hid fun j W hW hj => next_any L A n c j W (h.bel hW) (by omega) (by omega) hs
  have hsz : Hid (∀ j : Nat, j ≤ 50 → (nmB 1 L j).size ≤ 1010) := Lib.hid fun j hj => nm_size hs hj
  have hm2 : ∀ W, (Instr.makeSlice 29 (.int .i64 ((n : Int) - 1)) (.int .i64 ((n : Int) - 1))).run Tryd.prog W = .ok (.slice (some ⟨W.heap.size, 0, none⟩) (n - 1) (n - 1)) (W.alloc (.cells (strC.all (List.replicate (n - 1) ByteArray.empty)).toArray 9)) := fun W => by have h := make_str (n - 1) (by omega) W; rw [show (((n - 1 : Nat)) : Int) = (n : Int) - 1 by omega] at h; exact h
  have S0 := Lib.hid (St.new w)
  have hn1 := Lib.hid n1
  have hn0 := Lib.hid n0
  have b1 : (n : Int) ≤ 32 := by omega
  have b0 : (1 : Int) ≤ (n : Int) := by omega
  replace hc := Lib.hid hc
  clear n0 n1 h hs hLn
  go_enter Tryd.func11, Tryd.ntmps11
  go_wp2_with fail
  refine hQ.out.mono ?_
  rintro e w1 ⟨rfl, bb⟩
  obtain ⟨rb, hrb⟩ : ∃ g, g = w1.heap.size := ⟨_, rfl⟩
  obtain ⟨g, hg⟩ : ∃ g, g = rb + 1 := ⟨_, rfl⟩
  have S1 := Lib.hid (((S0.out.call bb).allocAt rb #[.int .i64 1, .func (.func 42) #[] #[], .func (.func 43) #[] #[]] 53 (noLof rfl) hrb.symm).allocC strC (List.replicate (n - 1) ByteArray.empty) g 9 (by rw [hg, hrb]; simp))
  clear bb S0 hQ
  go_wp2
  rw [← hrb, ← hg]
  clear hrb hg b1 b0
  go_loopw [27] (fun jv wr => ∃ (j : Nat) (R : List ByteArray), j ≤ (n - 1) ∧ jv = .int .i64 j ∧ R.length = (n - 1) ∧ St w wr ((g, (strC.all R).toArray, 9) :: (rb, #[.int .i64 1, .func (.func 42) #[] #[], .func (.func 43) #[] #[]], 53) :: []) [] ∧ R.take j = (nmL 1 L).take j) (fun jv _ => (n - 1) - (intOf jv).toNat)
  case atStart => exact ⟨0, List.replicate (n - 1) ByteArray.empty, Nat.zero_le _, rfl, List.length_replicate, S1.out, rfl⟩
  case round =>
    clear S1
    obtain ⟨j, R, hjn, rfl, hRl, T, hV⟩ := hrel
    replace hRl := Lib.hid hRl
    replace hV := Lib.hid hV
    by_cases hlt : j < (n - 1)
    · have g4 : (j : Int) < (((n - 1) : Nat) : Int) := by omega
      have g5 : (0 : Int) ≤ (j : Int) := by omega
      have hjh := Lib.hid hlt
      have hNj := Lib.hid (hN.out j wr T.bel hlt)
      obtain ⟨y0, hy0⟩ : ∃ y, R[j]? = some y := ⟨_, List.getElem?_eq_getElem (by rw [hRl.out]; exact hlt)⟩
      obtain ⟨hcl, hfr⟩ := St_gcl (C := strC) T hy0
      have c0 := hcl 0 _ rfl
      rw [show strC.sz = 1 from rfl, Nat.mul_one, Nat.add_zero] at c0
      have f0 := hfr j
      have cr := T.cl 1 2 rfl rfl
      have T3 : Hid (St w (wr.setCell ⟨g, j, none⟩ (.string (nmB 1 L j))) ((g, (strC.all (R.set j (nmB 1 L j))).toArray, 9) :: (rb, #[.int .i64 1, .func (.func 42) #[] #[], .func (.func 43) #[] #[]], 53) :: []) []) := Lib.hid (by
        have h := St_gset (C := strC) T (nmB 1 L j) (i := j) (by rw [hRl.out]; exact hlt)
        simpa [wset, strC, cellC] using h)
      have hV2 : Hid ((R.set j (nmB 1 L j)).take (j + 1) = (nmL 1 L).take (j + 1)) := Lib.hid (by
        rw [take_set_snoc (by rw [hRl.out]; exact hlt), nmL_take (by rw [hc.out]; exact hlt), hV.out])
      have hRl2 : Hid ((R.set j (nmB 1 L j)).length = (n - 1)) := Lib.hid (by rw [List.length_set]; exact hRl.out)
      clear hcl hfr hy0 hV hlt hjn T
      generalize nmB 1 L j = v at *
      go_wp2_with fail
      refine hNj.out.mono ?_
      rintro e w2 ⟨rfl, rfl⟩
      have b1 : (n : Int) ≤ 32 := by have := hn1.out; omega
      have b2 := hjh.out
      clear hNj
      go_wp2
      go_roundw
      case rel => exact ⟨j + 1, _, by omega, by go_num, hRl2.out, T3.out, hV2.out⟩
      case measure => simp [intOf]; omega
    · obtain rfl : j = n - 1 := by omega
      have hfin : R = nmL 1 L := by
        have h := hV.out
        rwa [List.take_of_length_le (by rw [hRl.out]; exact Nat.le_refl _), List.take_of_length_le (by rw [nmL_len, hc.out]; exact Nat.le_refl _)] at h
      have hres : Hid (NamR (nmL 1 L) w (.returned (.tuple #[.slice (some ⟨g, 0, none⟩) (n - 1) (n - 1), .int .i64 0])) wr) := Lib.hid (by
        have hl := hRl.out
        rw [hfin] at hl T
        refine ⟨some ⟨g, 0, none⟩, (n - 1), ?_, ?_, ?_, T.bel⟩
        · rw [hl]
        · rw [hl]; exact St_glr T _ hl (fun _ _ => trivial)
        · rw [hl]; exact Nat.le_refl _)
      clear T hV hRl hfin hlt hjn hN
      go_wp2
      go_ret2
      exact hres.out
set_option maxRecDepth 100000 in
set_option maxHeartbeats 4000000 in
theorem names_2 (L : List ByteArray) (A : Option Addr) (n c : Nat) (w : World) (h : LR strC w A n L) (n0 : 1 ≤ n) (n1 : n ≤ 32) (hs : ∀ s ∈ L, s.size ≤ 1000) : Calls Tryd.prog 11 #[.int .i64 2, .slice A n c] w (NamR (nmL 2 L) w) := by
  have hQ := Lib.hid (rule_2 n w (by omega) (by omega))
  have hLn := h.len
  have hc : cols 2 L.length = (n - 1) := by rw [hLn]; rfl
  have hN : Hid (∀ (j : Nat) W, Below w.heap.size w W → j < (n - 1) → Calls Tryd.prog 45 #[.int .i64 j, .slice A n c] W fun e w' => e = .returned (.string (nmB 2 L j)) ∧ w' = W) := Lib.hid fun j W hW hj => place_any A n c j W (by omega)
  have hsz : Hid (∀ j : Nat, j ≤ 50 → (nmB 2 L j).size ≤ 1010) := Lib.hid fun j hj => nm_size hs hj
  have hm2 : ∀ W, (Instr.makeSlice 29 (.int .i64 ((n : Int) - 1)) (.int .i64 ((n : Int) - 1))).run Tryd.prog W = .ok (.slice (some ⟨W.heap.size, 0, none⟩) (n - 1) (n - 1)) (W.alloc (.cells (strC.all (List.replicate (n - 1) ByteArray.empty)).toArray 9)) := fun W => by have h := make_str (n - 1) (by omega) W; rw [show (((n - 1 : Nat)) : Int) = (n : Int) - 1 by omega] at h; exact h
  have S0 := Lib.hid (St.new w)
  have hn1 := Lib.hid n1
  have hn0 := Lib.hid n0
  have b1 : (n : Int) ≤ 32 := by omega
  have b0 : (1 : Int) ≤ (n : Int) := by omega
  replace hc := Lib.hid hc
  clear n0 n1 h hs hLn
  go_enter Tryd.func11, Tryd.ntmps11
  go_wp2_with fail
  refine hQ.out.mono ?_
  rintro e w1 ⟨rfl, bb⟩
  obtain ⟨rb, hrb⟩ : ∃ g, g = w1.heap.size := ⟨_, rfl⟩
  obtain ⟨g, hg⟩ : ∃ g, g = rb + 1 := ⟨_, rfl⟩
  have S1 := Lib.hid (((S0.out.call bb).allocAt rb #[.int .i64 1, .func (.func 44) #[] #[], .func (.func 45) #[] #[]] 53 (noLof rfl) hrb.symm).allocC strC (List.replicate (n - 1) ByteArray.empty) g 9 (by rw [hg, hrb]; simp))
  clear bb S0 hQ
  go_wp2
  rw [← hrb, ← hg]
  clear hrb hg b1 b0
  go_loopw [27] (fun jv wr => ∃ (j : Nat) (R : List ByteArray), j ≤ (n - 1) ∧ jv = .int .i64 j ∧ R.length = (n - 1) ∧ St w wr ((g, (strC.all R).toArray, 9) :: (rb, #[.int .i64 1, .func (.func 44) #[] #[], .func (.func 45) #[] #[]], 53) :: []) [] ∧ R.take j = (nmL 2 L).take j) (fun jv _ => (n - 1) - (intOf jv).toNat)
  case atStart => exact ⟨0, List.replicate (n - 1) ByteArray.empty, Nat.zero_le _, rfl, List.length_replicate, S1.out, rfl⟩
  case round =>
    clear S1
    obtain ⟨j, R, hjn, rfl, hRl, T, hV⟩ := hrel
    replace hRl := Lib.hid hRl
    replace hV := Lib.hid hV
    by_cases hlt : j < (n - 1)
    · have g4 : (j : Int) < (((n - 1) : Nat) : Int) := by omega
      have g5 : (0 : Int) ≤ (j : Int) := by omega
      have hjh := Lib.hid hlt
      have hNj := Lib.hid (hN.out j wr T.bel hlt)
      obtain ⟨y0, hy0⟩ : ∃ y, R[j]? = some y := ⟨_, List.getElem?_eq_getElem (by rw [hRl.out]; exact hlt)⟩
      obtain ⟨hcl, hfr⟩ := St_gcl (C := strC) T hy0
      have c0 := hcl 0 _ rfl
      rw [show strC.sz = 1 from rfl, Nat.mul_one, Nat.add_zero] at c0
      have f0 := hfr j
      have cr := T.cl 1 2 rfl rfl
      have T3 : Hid (St w (wr.setCell ⟨g, j, none⟩ (.string (nmB 2 L j))) ((g, (strC.all (R.set j (nmB 2 L j))).toArray, 9) :: (rb, #[.int .i64 1, .func (.func 44) #[] #[], .func (.func 45) #[] #[]], 53) :: []) []) := Lib.hid (by
        have h := St_gset (C := strC) T (nmB 2 L j) (i := j) (by rw [hRl.out]; exact hlt)
        simpa [wset, strC, cellC] using h)
      have hV2 : Hid ((R.set j (nmB 2 L j)).take (j + 1) = (nmL 2 L).take (j + 1)) := Lib.hid (by
        rw [take_set_snoc (by rw [hRl.out]; exact hlt), nmL_take (by rw [hc.out]; exact hlt), hV.out])
      have hRl2 : Hid ((R.set j (nmB 2 L j)).length = (n - 1)) := Lib.hid (by rw [List.length_set]; exact hRl.out)
      clear hcl hfr hy0 hV hlt hjn T
      generalize nmB 2 L j = v at *
      go_wp2_with fail
      refine hNj.out.mono ?_
      rintro e w2 ⟨rfl, rfl⟩
      have b1 : (n : Int) ≤ 32 := by have := hn1.out; omega
      have b2 := hjh.out
      clear hNj
      go_wp2
      go_roundw
      case rel => exact ⟨j + 1, _, by omega, by go_num, hRl2.out, T3.out, hV2.out⟩
      case measure => simp [intOf]; omega
    · obtain rfl : j = n - 1 := by omega
      have hfin : R = nmL 2 L := by
        have h := hV.out
        rwa [List.take_of_length_le (by rw [hRl.out]; exact Nat.le_refl _), List.take_of_length_le (by rw [nmL_len, hc.out]; exact Nat.le_refl _)] at h
      have hres : Hid (NamR (nmL 2 L) w (.returned (.tuple #[.slice (some ⟨g, 0, none⟩) (n - 1) (n - 1), .int .i64 0])) wr) := Lib.hid (by
        have hl := hRl.out
        rw [hfin] at hl T
        refine ⟨some ⟨g, 0, none⟩, (n - 1), ?_, ?_, ?_, T.bel⟩
        · rw [hl]
        · rw [hl]; exact St_glr T _ hl (fun _ _ => trivial)
        · rw [hl]; exact Nat.le_refl _)
      clear T hV hRl hfin hlt hjn hN
      go_wp2
      go_ret2
      exact hres.out
set_option maxRecDepth 100000 in
set_option maxHeartbeats 4000000 in
theorem names_3 (L : List ByteArray) (A : Option Addr) (n c : Nat) (w : World) (h : LR strC w A n L) (n0 : 1 ≤ n) (n1 : n ≤ 32) (hs : ∀ s ∈ L, s.size ≤ 1000) : Calls Tryd.prog 11 #[.int .i64 3, .slice A n c] w (NamR (nmL 3 L) w) := by
  have hQ := Lib.hid (rule_3 n w (by omega) (by omega))
  have hLn := h.len
  have hc : cols 3 L.length = (n - 1) := by rw [hLn]; rfl
  have hN : Hid (∀ (j : Nat) W, Below w.heap.size w W → j < (n - 1) → Calls Tryd.prog 45 #[.int .i64 j, .slice A n c] W fun e w' => e = .returned (.string (nmB 3 L j)) ∧ w' = W) := Lib.hid fun j W hW hj => place_any A n c j W (by omega)
  have hsz : Hid (∀ j : Nat, j ≤ 50 → (nmB 3 L j).size ≤ 1010) := Lib.hid fun j hj => nm_size hs hj
  have hm2 : ∀ W, (Instr.makeSlice 29 (.int .i64 ((n : Int) - 1)) (.int .i64 ((n : Int) - 1))).run Tryd.prog W = .ok (.slice (some ⟨W.heap.size, 0, none⟩) (n - 1) (n - 1)) (W.alloc (.cells (strC.all (List.replicate (n - 1) ByteArray.empty)).toArray 9)) := fun W => by have h := make_str (n - 1) (by omega) W; rw [show (((n - 1 : Nat)) : Int) = (n : Int) - 1 by omega] at h; exact h
  have S0 := Lib.hid (St.new w)
  have hn1 := Lib.hid n1
  have hn0 := Lib.hid n0
  have b1 : (n : Int) ≤ 32 := by omega
  have b0 : (1 : Int) ≤ (n : Int) := by omega
  replace hc := Lib.hid hc
  clear n0 n1 h hs hLn
  go_enter Tryd.func11, Tryd.ntmps11
  go_wp2_with fail
  refine hQ.out.mono ?_
  rintro e w1 ⟨rfl, bb⟩
  obtain ⟨rb, hrb⟩ : ∃ g, g = w1.heap.size := ⟨_, rfl⟩
  obtain ⟨g, hg⟩ : ∃ g, g = rb + 1 := ⟨_, rfl⟩
  have S1 := Lib.hid (((S0.out.call bb).allocAt rb #[.int .i64 1, .func (.func 46) #[] #[], .func (.func 45) #[] #[]] 53 (noLof rfl) hrb.symm).allocC strC (List.replicate (n - 1) ByteArray.empty) g 9 (by rw [hg, hrb]; simp))
  clear bb S0 hQ
  go_wp2
  rw [← hrb, ← hg]
  clear hrb hg b1 b0
  go_loopw [27] (fun jv wr => ∃ (j : Nat) (R : List ByteArray), j ≤ (n - 1) ∧ jv = .int .i64 j ∧ R.length = (n - 1) ∧ St w wr ((g, (strC.all R).toArray, 9) :: (rb, #[.int .i64 1, .func (.func 46) #[] #[], .func (.func 45) #[] #[]], 53) :: []) [] ∧ R.take j = (nmL 3 L).take j) (fun jv _ => (n - 1) - (intOf jv).toNat)
  case atStart => exact ⟨0, List.replicate (n - 1) ByteArray.empty, Nat.zero_le _, rfl, List.length_replicate, S1.out, rfl⟩
  case round =>
    clear S1
    obtain ⟨j, R, hjn, rfl, hRl, T, hV⟩ := hrel
    replace hRl := Lib.hid hRl
    replace hV := Lib.hid hV
    by_cases hlt : j < (n - 1)
    · have g4 : (j : Int) < (((n - 1) : Nat) : Int) := by omega
      have g5 : (0 : Int) ≤ (j : Int) := by omega
      have hjh := Lib.hid hlt
      have hNj := Lib.hid (hN.out j wr T.bel hlt)
      obtain ⟨y0, hy0⟩ : ∃ y, R[j]? = some y := ⟨_, List.getElem?_eq_getElem (by rw [hRl.out]; exact hlt)⟩
      obtain ⟨hcl, hfr⟩ := St_gcl (C := strC) T hy0
      have c0 := hcl 0 _ rfl
      rw [show strC.sz = 1 from rfl, Nat.mul_one, Nat.add_zero] at c0
      have f0 := hfr j
      have cr := T.cl 1 2 rfl rfl
      have T3 : Hid (St w (wr.setCell ⟨g, j, none⟩ (.string (nmB 3 L j))) ((g, (strC.all (R.set j (nmB 3 L j))).toArray, 9) :: (rb, #[.int .i64 1, .func (.func 46) #[] #[], .func (.func 45) #[] #[]], 53) :: []) []) := Lib.hid (by
        have h := St_gset (C := strC) T (nmB 3 L j) (i := j) (by rw [hRl.out]; exact hlt)
        simpa [wset, strC, cellC] using h)
      have hV2 : Hid ((R.set j (nmB 3 L j)).take (j + 1) = (nmL 3 L).take (j + 1)) := Lib.hid (by
        rw [take_set_snoc (by rw [hRl.out]; exact hlt), nmL_take (by rw [hc.out]; exact hlt), hV.out])
      have hRl2 : Hid ((R.set j (nmB 3 L j)).length = (n - 1)) := Lib.hid (by rw [List.length_set]; exact hRl.out)
      clear hcl hfr hy0 hV hlt hjn T
      generalize nmB 3 L j = v at *
      go_wp2_with fail
      refine hNj.out.mono ?_
      rintro e w2 ⟨rfl, rfl⟩
      have b1 : (n : Int) ≤ 32 := by have := hn1.out; omega
      have b2 := hjh.out
      clear hNj
      go_wp2
      go_roundw
      case rel => exact ⟨j + 1, _, by omega, by go_num, hRl2.out, T3.out, hV2.out⟩
      case measure => simp [intOf]; omega
    · obtain rfl : j = n - 1 := by omega
      have hfin : R = nmL 3 L := by
        have h := hV.out
        rwa [List.take_of_length_le (by rw [hRl.out]; exact Nat.le_refl _), List.take_of_length_le (by rw [nmL_len, hc.out]; exact Nat.le_refl _)] at h
      have hres : Hid (NamR (nmL 3 L) w (.returned (.tuple #[.slice (some ⟨g, 0, none⟩) (n - 1) (n - 1), .int .i64 0])) wr) := Lib.hid (by
        have hl := hRl.out
        rw [hfin] at hl T
        refine ⟨some ⟨g, 0, none⟩, (n - 1), ?_, ?_, ?_, T.bel⟩
        · rw [hl]
        · rw [hl]; exact St_glr T _ hl (fun _ _ => trivial)
        · rw [hl]; exact Nat.le_refl _)
      clear T hV hRl hfin hlt hjn hN
      go_wp2
      go_ret2
      exact hres.out
end Go.Proofs.YtlflaalefilplaaDoor
