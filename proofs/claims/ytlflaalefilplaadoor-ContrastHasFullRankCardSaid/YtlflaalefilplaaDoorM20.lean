/- The names that the reference gives; refusals. -/
import Derived.Test.YtlflaalefilplaaDoorM19
namespace Go.Proofs.YtlflaalefilplaaDoor
open Go.RowKit
set_option linter.unusedVariables false

set_option maxRecDepth 100000 in
set_option maxHeartbeats 4000000 in
theorem rnames_no (k : Int) (A : Option Addr) (n c : Nat) (w : World) (h : posB k n = false) : Calls Tryd.prog 12 #[.int .i64 k, .slice A n c] w fun e w' => e = .returned (.tuple #[.slice none 0 0, .int .i64 1]) ∧ Below w.heap.size w w' := by
  have hP := possible_any k n w
  rw [h] at hP
  have hB := Lib.hid (Below.refl w.heap.size w)
  go_enter Tryd.func12, Tryd.ntmps12
  go_wp2_with fail
  refine hP.mono ?_
  rintro e w1 ⟨rfl, rfl⟩
  go_wp2
  go_ret2
  exact ⟨rfl, hB.out⟩
/-- No rule. -/
theorem rule_no (k n : Int) (w : World) (h : posB k n = false) : Calls Tryd.prog 22 #[.int .i64 k, .int .i64 n] w fun e w' => e = .returned (.tuple #[.agg #[.int .i64 0, .nilFunc, .nilFunc], .bool false]) ∧ Below w.heap.size w w' := by
  by_cases hn : 1 ≤ n ∧ n ≤ 32
  · have hk : ¬ (1 ≤ k ∧ k ≤ 4) := fun e => by
      have : posB k n = true := by simp [posB, e, hn]
      rw [this] at h; cases h
    exact rule_other k n w hn.1 hn.2 (by omega) (by omega) (by omega) (by omega)
  · exact rule_far k n w hn
set_option maxRecDepth 100000 in
set_option maxHeartbeats 4000000 in
theorem mat_no (k n : Int) (w : World) (h : posB k n = false) : Calls Tryd.prog 7 #[.int .i64 k, .int .i64 n] w fun e w' => e = .returned (.tuple #[.slice none 0 0, .int .i64 1]) ∧ Below w.heap.size w w' := by
  have hQ := Lib.hid (rule_no k n w h)
  have S0 := Lib.hid (St.new w)
  clear h
  go_enter Tryd.func7, Tryd.ntmps7
  go_wp2_with fail
  refine hQ.out.mono ?_
  rintro e w1 ⟨rfl, bb⟩
  have S1 := Lib.hid ((S0.out.call bb).alloc #[.int .i64 0, .nilFunc, .nilFunc] 53 (noLof rfl))
  clear bb S0 hQ
  go_wp2
  go_ret2
  exact ⟨rfl, S1.out.bel⟩
set_option maxRecDepth 100000 in
set_option maxHeartbeats 4000000 in
theorem names_no (k : Int) (A : Option Addr) (n c : Nat) (w : World) (h : posB k n = false) : Calls Tryd.prog 11 #[.int .i64 k, .slice A n c] w fun e w' => e = .returned (.tuple #[.slice none 0 0, .int .i64 1]) ∧ Below w.heap.size w w' := by
  have hQ := Lib.hid (rule_no k n w h)
  have S0 := Lib.hid (St.new w)
  clear h
  go_enter Tryd.func11, Tryd.ntmps11
  go_wp2_with fail
  refine hQ.out.mono ?_
  rintro e w1 ⟨rfl, bb⟩
  have S1 := Lib.hid ((S0.out.call bb).alloc #[.int .i64 0, .nilFunc, .nilFunc] 53 (noLof rfl))
  clear bb S0 hQ
  go_wp2
  go_ret2
  exact ⟨rfl, S1.out.bel⟩
set_option maxRecDepth 100000 in
set_option maxHeartbeats 4000000 in
theorem rnames_4 (L : List ByteArray) (A : Option Addr) (n c : Nat) (w : World) (h : LR strC w A n L) (n0 : 1 ≤ n) (n1 : n ≤ 32) (hs : ∀ s ∈ L, s.size ≤ 1000) : Calls Tryd.prog 12 #[.int .i64 4, .slice A n c] w (NamR (nmL 4 L) w) := by
  have hP := possible_any 4 n w
  rw [show posB 4 n = true by simp [posB]; omega] at hP
  have hLn := h.len
  have hc : cols 4 L.length = n := by rw [hLn]; rfl
  have hC : Hid (∀ W, Calls Tryd.prog 25 #[.int .i64 4, .int .i64 n] W fun e w' => e = .returned (.int .i64 (cols 4 L.length : Nat)) ∧ w' = W) := Lib.hid fun W => by
    have := columns_any n W 4 (by omega) (by omega)
    rw [show (if (4 : Int) = 4 then (n : Int) else n - 1) = (cols 4 L.length : Nat) by rw [hc]; rfl] at this
    exact this
  have S := Lib.hid (St.new w)
  have hn1 := Lib.hid n1
  replace hc := Lib.hid hc
  replace h := Lib.hid h
  replace hs := Lib.hid hs
  clear n0 n1 hLn
  go_enter Tryd.func12, Tryd.ntmps12
  go_wp2_with fail
  refine hP.mono ?_
  rintro e w1 ⟨rfl, rfl⟩
  clear hP
  go_wp2
  go_loopw [6, 7] (fun rv jv wr => ∃ (j : Nat), j ≤ cols 4 L.length ∧ jv = .int .i64 j ∧ Gro strC w1 wr [] [] 9 rv ((nmL 4 L).take j)) (fun _ jv _ => cols 4 L.length - (intOf jv).toNat)
  case atStart => exact ⟨0, Nat.zero_le _, rfl, Gro.nil_ strC S.out _⟩
  case round =>
    clear S
    obtain ⟨j, hjn, rfl, GR⟩ := hrel
    by_cases hlt : j < cols 4 L.length
    · have g2 : (j : Int) < ((cols 4 L.length : Nat) : Int) := by omega
      have g5 : (0 : Int) ≤ (j : Int) := by omega
      have hjh := Lib.hid hlt
      have hjb : Hid (j ≤ 32) := Lib.hid (by have := hc.out; have := hn1.out; omega)
      have hRl : Hid (((nmL 4 L).take j).length = j) := Lib.hid (by rw [List.length_take, nmL_len]; omega)
      have htk := Lib.hid (nmL_take (k := 4) (L := L) hlt)
      obtain ⟨b, o, x, rfl, hx, hxm, e0⟩ := str_get (h.out.bel GR.st.bel) (show j < n by have := hc.out; omega)
      have hv : nmB 4 L j = ⟨#[61]⟩ ++ x := by unfold nmB; simp [hx]
      have hsx := hs.out x hxm
      have g6 : (((j : Nat)) : Int) < (n : Int) := by have := hc.out; omega
      have b2 : (j : Int) ≤ 32 := by have := hjb.out; omega
      have g6' : (j : Int) < (n : Int) := by omega
      have GA := Lib.hid (GR.alloc #[.string (⟨#[61]⟩ ++ x)] 9 (noLof rfl))
      replace hv := Lib.hid hv
      clear GR hx hxm g6 hlt hjn
      go_wp2_with fail
      refine (hC.out _).mono ?_
      rintro e w2 ⟨rfl, rfl⟩
      go_wp2_with (at_builtin; refine Gro.wp rfl (.tmp 33) (.tmp 39) 29 rfl (.string ByteArray.empty) 16 Tryd.underlying29 (by kernel_rfl) rfl (fun v hv z e => by simp [Value.cells] at hv; subst hv; cases e) rfl GA.out w2.heap.size (⟨#[61]⟩ ++ x) rfl ((GA.out.st).cb 0 rfl) trivial (by have := hRl.out; have := hjb.out; omega) (by have := hRl.out; have := hjb.out; unfold maxLen; omega) ?_)
      intro v' w5 G5
      rw [← hv.out] at G5
      have G6 := Lib.hid (Gro.sub G5 (fun _ _ => trivial))
      clear G5 GA
      have hlt := hjh.out
      have hj3 := hjb.out
      go_wp2
      go_roundw
      case rel => exact ⟨j + 1, by omega, by go_num, by rw [htk.out]; exact G6.out⟩
      case measure => simp [intOf]; omega
    · obtain rfl : j = cols 4 L.length := by omega
      rw [List.take_of_length_le (by rw [nmL_len]; exact Nat.le_refl _)] at GR
      obtain ⟨A9, c9, bs2, hv, S2, _, hl⟩ := GR.done
      have hcap : (nmL 4 L).length ≤ c9 := by
        obtain ⟨⟨_, _, ⟨hv2, h0, _⟩ | ⟨g, cap, cur, hv2, hle, _⟩⟩, _⟩ := GR
        · omega
        · rw [hv] at hv2; injection hv2 with _ _ h3; omega
      subst hv
      have hres := Lib.hid (show NamR (nmL 4 L) w1 _ wr from ⟨A9, c9, rfl, hl.lr S2, hcap, S2.bel⟩)
      clear GR S2 hl hcap hjn hlt
      go_wp2_with fail
      refine (hC.out _).mono ?_
      rintro e w2 ⟨rfl, rfl⟩
      go_wp2
      go_ret2
      exact hres.out
set_option maxRecDepth 100000 in
set_option maxHeartbeats 4000000 in
theorem rnames_1 (L : List ByteArray) (A : Option Addr) (n c : Nat) (w : World) (h : LR strC w A n L) (n0 : 1 ≤ n) (n1 : n ≤ 32) (hs : ∀ s ∈ L, s.size ≤ 1000) : Calls Tryd.prog 12 #[.int .i64 1, .slice A n c] w (NamR (nmL 1 L) w) := by
  have hP := possible_any 1 n w
  rw [show posB 1 n = true by simp [posB]; omega] at hP
  have hLn := h.len
  have hc : cols 1 L.length = (n - 1) := by rw [hLn]; rfl
  have hC : Hid (∀ W, Calls Tryd.prog 25 #[.int .i64 1, .int .i64 n] W fun e w' => e = .returned (.int .i64 (cols 1 L.length : Nat)) ∧ w' = W) := Lib.hid fun W => by
    have := columns_any n W 1 (by omega) (by omega)
    rw [show (if (1 : Int) = 4 then (n : Int) else n - 1) = (cols 1 L.length : Nat) by rw [hc]; rw [if_neg (by decide)]; omega] at this
    exact this
  have S := Lib.hid (St.new w)
  have hn1 := Lib.hid n1
  replace hc := Lib.hid hc
  replace h := Lib.hid h
  replace hs := Lib.hid hs
  clear n0 n1 hLn
  go_enter Tryd.func12, Tryd.ntmps12
  go_wp2_with fail
  refine hP.mono ?_
  rintro e w1 ⟨rfl, rfl⟩
  clear hP
  go_wp2
  go_loopw [6, 7] (fun rv jv wr => ∃ (j : Nat), j ≤ cols 1 L.length ∧ jv = .int .i64 j ∧ Gro strC w1 wr [] [] 9 rv ((nmL 1 L).take j)) (fun _ jv _ => cols 1 L.length - (intOf jv).toNat)
  case atStart => exact ⟨0, Nat.zero_le _, rfl, Gro.nil_ strC S.out _⟩
  case round =>
    clear S
    obtain ⟨j, hjn, rfl, GR⟩ := hrel
    by_cases hlt : j < cols 1 L.length
    · have g2 : (j : Int) < ((cols 1 L.length : Nat) : Int) := by omega
      have g5 : (0 : Int) ≤ (j : Int) := by omega
      have hjh := Lib.hid hlt
      have hjb : Hid (j ≤ 32) := Lib.hid (by have := hc.out; have := hn1.out; omega)
      have hRl : Hid (((nmL 1 L).take j).length = j) := Lib.hid (by rw [List.length_take, nmL_len]; omega)
      have htk := Lib.hid (nmL_take (k := 1) (L := L) hlt)
      obtain ⟨b, o, x, rfl, hx, hxm, e0⟩ := str_get (h.out.bel GR.st.bel) (show j + 1 < n by have := hc.out; omega)
      have hv : nmB 1 L j = ⟨#[61]⟩ ++ x := by unfold nmB; simp [hx]
      have hsx := hs.out x hxm
      have g6 : (((j + 1 : Nat)) : Int) < (n : Int) := by have := hc.out; omega
      have b2 : (j : Int) ≤ 32 := by have := hjb.out; omega
      have g6' : (j : Int) + 1 < (n : Int) := by omega
      have GA := Lib.hid (GR.alloc #[.string (⟨#[61]⟩ ++ x)] 9 (noLof rfl))
      replace hv := Lib.hid hv
      clear GR hx hxm g6 hlt hjn
      go_wp2_with fail
      refine (hC.out _).mono ?_
      rintro e w2 ⟨rfl, rfl⟩
      go_wp2_with (at_builtin; refine Gro.wp rfl (.tmp 43) (.tmp 50) 29 rfl (.string ByteArray.empty) 16 Tryd.underlying29 (by kernel_rfl) rfl (fun v hv z e => by simp [Value.cells] at hv; subst hv; cases e) rfl GA.out w2.heap.size (⟨#[61]⟩ ++ x) rfl ((GA.out.st).cb 0 rfl) trivial (by have := hRl.out; have := hjb.out; omega) (by have := hRl.out; have := hjb.out; unfold maxLen; omega) ?_)
      intro v' w5 G5
      rw [← hv.out] at G5
      have G6 := Lib.hid (Gro.sub G5 (fun _ _ => trivial))
      clear G5 GA
      have hlt := hjh.out
      have hj3 := hjb.out
      go_wp2
      go_roundw
      case rel => exact ⟨j + 1, by omega, by go_num, by rw [htk.out]; exact G6.out⟩
      case measure => simp [intOf]; omega
    · obtain rfl : j = cols 1 L.length := by omega
      rw [List.take_of_length_le (by rw [nmL_len]; exact Nat.le_refl _)] at GR
      obtain ⟨A9, c9, bs2, hv, S2, _, hl⟩ := GR.done
      have hcap : (nmL 1 L).length ≤ c9 := by
        obtain ⟨⟨_, _, ⟨hv2, h0, _⟩ | ⟨g, cap, cur, hv2, hle, _⟩⟩, _⟩ := GR
        · omega
        · rw [hv] at hv2; injection hv2 with _ _ h3; omega
      subst hv
      have hres := Lib.hid (show NamR (nmL 1 L) w1 _ wr from ⟨A9, c9, rfl, hl.lr S2, hcap, S2.bel⟩)
      clear GR S2 hl hcap hjn hlt
      go_wp2_with fail
      refine (hC.out _).mono ?_
      rintro e w2 ⟨rfl, rfl⟩
      go_wp2
      go_ret2
      exact hres.out
set_option maxRecDepth 100000 in
set_option maxHeartbeats 4000000 in
theorem rnames_2 (L : List ByteArray) (A : Option Addr) (n c : Nat) (w : World) (h : LR strC w A n L) (n0 : 1 ≤ n) (n1 : n ≤ 32) (hs : ∀ s ∈ L, s.size ≤ 1000) : Calls Tryd.prog 12 #[.int .i64 2, .slice A n c] w (NamR (nmL 2 L) w) := by
  have hP := possible_any 2 n w
  rw [show posB 2 n = true by simp [posB]; omega] at hP
  have hLn := h.len
  have hc : cols 2 L.length = (n - 1) := by rw [hLn]; rfl
  have hC : Hid (∀ W, Calls Tryd.prog 25 #[.int .i64 2, .int .i64 n] W fun e w' => e = .returned (.int .i64 (cols 2 L.length : Nat)) ∧ w' = W) := Lib.hid fun W => by
    have := columns_any n W 2 (by omega) (by omega)
    rw [show (if (2 : Int) = 4 then (n : Int) else n - 1) = (cols 2 L.length : Nat) by rw [hc]; rw [if_neg (by decide)]; omega] at this
    exact this
  have S := Lib.hid (St.new w)
  have hn1 := Lib.hid n1
  replace hc := Lib.hid hc
  replace h := Lib.hid h
  replace hs := Lib.hid hs
  clear n0 n1 hLn
  go_enter Tryd.func12, Tryd.ntmps12
  go_wp2_with fail
  refine hP.mono ?_
  rintro e w1 ⟨rfl, rfl⟩
  clear hP
  go_wp2
  go_loopw [6, 7] (fun rv jv wr => ∃ (j : Nat), j ≤ cols 2 L.length ∧ jv = .int .i64 j ∧ Gro strC w1 wr [] [] 9 rv ((nmL 2 L).take j)) (fun _ jv _ => cols 2 L.length - (intOf jv).toNat)
  case atStart => exact ⟨0, Nat.zero_le _, rfl, Gro.nil_ strC S.out _⟩
  case round =>
    clear S
    obtain ⟨j, hjn, rfl, GR⟩ := hrel
    by_cases hlt : j < cols 2 L.length
    · have g2 : (j : Int) < ((cols 2 L.length : Nat) : Int) := by omega
      have g5 : (0 : Int) ≤ (j : Int) := by omega
      have hjh := Lib.hid hlt
      have hjb : Hid (j ≤ 32) := Lib.hid (by have := hc.out; have := hn1.out; omega)
      have hRl : Hid (((nmL 2 L).take j).length = j) := Lib.hid (by rw [List.length_take, nmL_len]; omega)
      have htk := Lib.hid (nmL_take (k := 2) (L := L) hlt)
      have hv : nmB 2 L j = ⟨#[46]⟩ ++ ⟨(Lib.decDigits (j + 1)).toArray⟩ := rfl
      have hU : Hid (∀ W, Calls Tryd.prog 29 #[.int .u64 ((j : Int) + 1)] W (RetN (j + 1) W)) := Lib.hid fun W => by
        have := rfromUint_any (j + 1) W (by have := hjb.out; omega)
        rwa [show ((j + 1 : Nat) : Int) = (j : Int) + 1 by omega] at this
      have hFm : Hid (∀ A m c W, Rd W A m c (limbs (j + 1)) → Calls Tryd.prog 28 #[.slice A m c] W fun e w' => e = .returned (.string ⟨(Lib.decDigits (j + 1)).toArray⟩) ∧ Below W.heap.size W w') := Lib.hid fun A m c W R => by
        have hm : m ≤ 1000 := by rw [← R.len, limbs_small (by omega) (show j + 1 < 4294967296 by have := hjb.out; omega)]; show 1 ≤ 1000; omega
        have := rformat_any A m c _ W R hm
        rwa [num_limbs] at this
      have hl : (⟨(Lib.decDigits (j + 1)).toArray⟩ : ByteArray).size ≤ 10 := by
        have : (Lib.decDigits (j + 1)).length ≤ 2 := dec_len_le (k := 1) (by have := hjb.out; omega)
        show (Lib.decDigits (j + 1)).toArray.size ≤ 10
        simp; omega
      have b2 : (j : Int) ≤ 32 := by have := hjb.out; omega
      replace hv := Lib.hid hv
      generalize (⟨(Lib.decDigits (j + 1)).toArray⟩ : ByteArray) = x at *
      replace GR := Lib.hid GR
      clear hlt hjn
      go_wp2_with fail
      refine (hC.out _).mono ?_
      rintro e w2 ⟨rfl, rfl⟩
      go_wp2_with fail
      refine (hU.out _).mono ?_
      rintro e w3 ⟨A9, m9, c9, rfl, R9, bb⟩
      replace GR := Lib.hid (GR.out.call bb)
      go_wp2_with fail
      refine (hFm.out _ _ _ _ R9).mono ?_
      rintro e w4 ⟨rfl, bb2⟩
      have GA := Lib.hid ((GR.out.call bb2).alloc #[.string (⟨#[46]⟩ ++ x)] 9 (noLof rfl))
      clear GR bb bb2 R9 hU hFm
      go_wp2_with (at_builtin; refine Gro.wp rfl (.tmp 22) (.tmp 29) 29 rfl (.string ByteArray.empty) 16 Tryd.underlying29 (by kernel_rfl) rfl (fun v hv z e => by simp [Value.cells] at hv; subst hv; cases e) rfl GA.out w4.heap.size (⟨#[46]⟩ ++ x) rfl ((GA.out.st).cb 0 rfl) trivial (by have := hRl.out; have := hjb.out; omega) (by have := hRl.out; have := hjb.out; unfold maxLen; omega) ?_)
      intro v' w5 G5
      rw [← hv.out] at G5
      have G6 := Lib.hid (Gro.sub G5 (fun _ _ => trivial))
      clear G5 GA
      have hlt := hjh.out
      have hj3 := hjb.out
      go_wp2
      go_roundw
      case rel => exact ⟨j + 1, by omega, by go_num, by rw [htk.out]; exact G6.out⟩
      case measure => simp [intOf]; omega
    · obtain rfl : j = cols 2 L.length := by omega
      rw [List.take_of_length_le (by rw [nmL_len]; exact Nat.le_refl _)] at GR
      obtain ⟨A9, c9, bs2, hv, S2, _, hl⟩ := GR.done
      have hcap : (nmL 2 L).length ≤ c9 := by
        obtain ⟨⟨_, _, ⟨hv2, h0, _⟩ | ⟨g, cap, cur, hv2, hle, _⟩⟩, _⟩ := GR
        · omega
        · rw [hv] at hv2; injection hv2 with _ _ h3; omega
      subst hv
      have hres := Lib.hid (show NamR (nmL 2 L) w1 _ wr from ⟨A9, c9, rfl, hl.lr S2, hcap, S2.bel⟩)
      clear GR S2 hl hcap hjn hlt
      go_wp2_with fail
      refine (hC.out _).mono ?_
      rintro e w2 ⟨rfl, rfl⟩
      go_wp2
      go_ret2
      exact hres.out
set_option maxRecDepth 100000 in
set_option maxHeartbeats 4000000 in
theorem rnames_3 (L : List ByteArray) (A : Option Addr) (n c : Nat) (w : World) (h : LR strC w A n L) (n0 : 1 ≤ n) (n1 : n ≤ 32) (hs : ∀ s ∈ L, s.size ≤ 1000) : Calls Tryd.prog 12 #[.int .i64 3, .slice A n c] w (NamR (nmL 3 L) w) := by
  have hP := possible_any 3 n w
  rw [show posB 3 n = true by simp [posB]; omega] at hP
  have hLn := h.len
  have hc : cols 3 L.length = (n - 1) := by rw [hLn]; rfl
  have hC : Hid (∀ W, Calls Tryd.prog 25 #[.int .i64 3, .int .i64 n] W fun e w' => e = .returned (.int .i64 (cols 3 L.length : Nat)) ∧ w' = W) := Lib.hid fun W => by
    have := columns_any n W 3 (by omega) (by omega)
    rw [show (if (3 : Int) = 4 then (n : Int) else n - 1) = (cols 3 L.length : Nat) by rw [hc]; rw [if_neg (by decide)]; omega] at this
    exact this
  have S := Lib.hid (St.new w)
  have hn1 := Lib.hid n1
  replace hc := Lib.hid hc
  replace h := Lib.hid h
  replace hs := Lib.hid hs
  clear n0 n1 hLn
  go_enter Tryd.func12, Tryd.ntmps12
  go_wp2_with fail
  refine hP.mono ?_
  rintro e w1 ⟨rfl, rfl⟩
  clear hP
  go_wp2
  go_loopw [6, 7] (fun rv jv wr => ∃ (j : Nat), j ≤ cols 3 L.length ∧ jv = .int .i64 j ∧ Gro strC w1 wr [] [] 9 rv ((nmL 3 L).take j)) (fun _ jv _ => cols 3 L.length - (intOf jv).toNat)
  case atStart => exact ⟨0, Nat.zero_le _, rfl, Gro.nil_ strC S.out _⟩
  case round =>
    clear S
    obtain ⟨j, hjn, rfl, GR⟩ := hrel
    by_cases hlt : j < cols 3 L.length
    · have g2 : (j : Int) < ((cols 3 L.length : Nat) : Int) := by omega
      have g5 : (0 : Int) ≤ (j : Int) := by omega
      have hjh := Lib.hid hlt
      have hjb : Hid (j ≤ 32) := Lib.hid (by have := hc.out; have := hn1.out; omega)
      have hRl : Hid (((nmL 3 L).take j).length = j) := Lib.hid (by rw [List.length_take, nmL_len]; omega)
      have htk := Lib.hid (nmL_take (k := 3) (L := L) hlt)
      have hv : nmB 3 L j = ⟨#[46]⟩ ++ ⟨(Lib.decDigits (j + 1)).toArray⟩ := rfl
      have hU : Hid (∀ W, Calls Tryd.prog 29 #[.int .u64 ((j : Int) + 1)] W (RetN (j + 1) W)) := Lib.hid fun W => by
        have := rfromUint_any (j + 1) W (by have := hjb.out; omega)
        rwa [show ((j + 1 : Nat) : Int) = (j : Int) + 1 by omega] at this
      have hFm : Hid (∀ A m c W, Rd W A m c (limbs (j + 1)) → Calls Tryd.prog 28 #[.slice A m c] W fun e w' => e = .returned (.string ⟨(Lib.decDigits (j + 1)).toArray⟩) ∧ Below W.heap.size W w') := Lib.hid fun A m c W R => by
        have hm : m ≤ 1000 := by rw [← R.len, limbs_small (by omega) (show j + 1 < 4294967296 by have := hjb.out; omega)]; show 1 ≤ 1000; omega
        have := rformat_any A m c _ W R hm
        rwa [num_limbs] at this
      have hl : (⟨(Lib.decDigits (j + 1)).toArray⟩ : ByteArray).size ≤ 10 := by
        have : (Lib.decDigits (j + 1)).length ≤ 2 := dec_len_le (k := 1) (by have := hjb.out; omega)
        show (Lib.decDigits (j + 1)).toArray.size ≤ 10
        simp; omega
      have b2 : (j : Int) ≤ 32 := by have := hjb.out; omega
      replace hv := Lib.hid hv
      generalize (⟨(Lib.decDigits (j + 1)).toArray⟩ : ByteArray) = x at *
      replace GR := Lib.hid GR
      clear hlt hjn
      go_wp2_with fail
      refine (hC.out _).mono ?_
      rintro e w2 ⟨rfl, rfl⟩
      go_wp2_with fail
      refine (hU.out _).mono ?_
      rintro e w3 ⟨A9, m9, c9, rfl, R9, bb⟩
      replace GR := Lib.hid (GR.out.call bb)
      go_wp2_with fail
      refine (hFm.out _ _ _ _ R9).mono ?_
      rintro e w4 ⟨rfl, bb2⟩
      have GA := Lib.hid ((GR.out.call bb2).alloc #[.string (⟨#[46]⟩ ++ x)] 9 (noLof rfl))
      clear GR bb bb2 R9 hU hFm
      go_wp2_with (at_builtin; refine Gro.wp rfl (.tmp 22) (.tmp 29) 29 rfl (.string ByteArray.empty) 16 Tryd.underlying29 (by kernel_rfl) rfl (fun v hv z e => by simp [Value.cells] at hv; subst hv; cases e) rfl GA.out w4.heap.size (⟨#[46]⟩ ++ x) rfl ((GA.out.st).cb 0 rfl) trivial (by have := hRl.out; have := hjb.out; omega) (by have := hRl.out; have := hjb.out; unfold maxLen; omega) ?_)
      intro v' w5 G5
      rw [← hv.out] at G5
      have G6 := Lib.hid (Gro.sub G5 (fun _ _ => trivial))
      clear G5 GA
      have hlt := hjh.out
      have hj3 := hjb.out
      go_wp2
      go_roundw
      case rel => exact ⟨j + 1, by omega, by go_num, by rw [htk.out]; exact G6.out⟩
      case measure => simp [intOf]; omega
    · obtain rfl : j = cols 3 L.length := by omega
      rw [List.take_of_length_le (by rw [nmL_len]; exact Nat.le_refl _)] at GR
      obtain ⟨A9, c9, bs2, hv, S2, _, hl⟩ := GR.done
      have hcap : (nmL 3 L).length ≤ c9 := by
        obtain ⟨⟨_, _, ⟨hv2, h0, _⟩ | ⟨g, cap, cur, hv2, hle, _⟩⟩, _⟩ := GR
        · omega
        · rw [hv] at hv2; injection hv2 with _ _ h3; omega
      subst hv
      have hres := Lib.hid (show NamR (nmL 3 L) w1 _ wr from ⟨A9, c9, rfl, hl.lr S2, hcap, S2.bel⟩)
      clear GR S2 hl hcap hjn hlt
      go_wp2_with fail
      refine (hC.out _).mono ?_
      rintro e w2 ⟨rfl, rfl⟩
      go_wp2
      go_ret2
      exact hres.out
end Go.Proofs.YtlflaalefilplaaDoor
