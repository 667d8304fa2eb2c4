/- The laws ContrastCodes and ContrastNames. -/
import Derived.Test.YtlflaalefilplaaDoorM21
namespace Go.Proofs.YtlflaalefilplaaDoor
open Go.RowKit
set_option linter.unusedVariables false

theorem posB_yes {k n : Int} (h : posB k n = true) : (1 ≤ k ∧ k ≤ 4) ∧ 1 ≤ n ∧ n ≤ 32 := by
  unfold posB at h
  simp only [Bool.and_eq_true, decide_eq_true_eq] at h
  exact ⟨h.1.1, h.1.2, h.2⟩
theorem mat_yes (k : Int) (n : Nat) (w : World) (hk : 1 ≤ k) (hk4 : k ≤ 4) (n0 : 1 ≤ n) (n1 : n ≤ 32) : Calls Tryd.prog 7 #[.int .i64 k, .int .i64 n] w (MatR (cM k n) w) := by
  have : k = 1 ∨ k = 2 ∨ k = 3 ∨ k = 4 := by omega
  rcases this with rfl | rfl | rfl | rfl
  · exact mat_1 n w n0 n1
  · exact mat_2 n w n0 n1
  · exact mat_3 n w n0 n1
  · exact mat_4 n w n0 n1
theorem names_yes (k : Int) (L : List ByteArray) (A : Option Addr) (n c : Nat) (w : World) (h : LR strC w A n L) (hk : 1 ≤ k) (hk4 : k ≤ 4) (n0 : 1 ≤ n) (n1 : n ≤ 32) (hs : ∀ s ∈ L, s.size ≤ 1000) : Calls Tryd.prog 11 #[.int .i64 k, .slice A n c] w (NamR (nmL k L) w) := by
  have : k = 1 ∨ k = 2 ∨ k = 3 ∨ k = 4 := by omega
  rcases this with rfl | rfl | rfl | rfl
  · exact names_1 L A n c w h n0 n1 hs
  · exact names_2 L A n c w h n0 n1 hs
  · exact names_3 L A n c w h n0 n1 hs
  · exact names_4 L A n c w h n0 n1 hs
theorem rnames_yes (k : Int) (L : List ByteArray) (A : Option Addr) (n c : Nat) (w : World) (h : LR strC w A n L) (hk : 1 ≤ k) (hk4 : k ≤ 4) (n0 : 1 ≤ n) (n1 : n ≤ 32) (hs : ∀ s ∈ L, s.size ≤ 1000) : Calls Tryd.prog 12 #[.int .i64 k, .slice A n c] w (NamR (nmL k L) w) := by
  have : k = 1 ∨ k = 2 ∨ k = 3 ∨ k = 4 := by omega
  rcases this with rfl | rfl | rfl | rfl
  · exact rnames_1 L A n c w h n0 n1 hs
  · exact rnames_2 L A n c w h n0 n1 hs
  · exact rnames_3 L A n c w h n0 n1 hs
  · exact rnames_4 L A n c w h n0 n1 hs
theorem cM_rs {k : Int} {n : Nat} (hn : n ≤ 32) : ∀ r ∈ cM k n, r.length ≤ 100000 ∧ ∀ q ∈ r, RQ.Rs q 200 := by
  intro r hr
  unfold cM at hr
  obtain ⟨i, hi, rfl⟩ := List.mem_map.1 hr
  rw [List.mem_range] at hi
  refine ⟨?_, fun q hq => ?_⟩
  · rw [rowM_len]; unfold cols; split <;> omega
  · unfold rowM at hq
    obtain ⟨j, hj, rfl⟩ := List.mem_map.1 hq
    have := ent_range (k := k) (n := n) (i := i) (j := j) (by omega) (by omega)
    refine RQ.Rs.int ?_ (by decide)
    have h1 : (ent k n i j).natAbs < 4294967296 ^ 1 := by omega
    exact Nat.lt_of_lt_of_le h1 (Nat.pow_le_pow_right (by decide) (by decide))
set_option maxRecDepth 100000 in
set_option maxHeartbeats 4000000 in
theorem law_codes (k n : Int) (w : World) : Calls Tryd.prog 3 #[.int .i64 k, .int .i64 n] w fun e w' => e = .returned (.bool true) ∧ Below w.heap.size w w' := by
  have hB0 := Lib.hid (Below.refl w.heap.size w)
  cases hp : posB k n
  · have hm := Lib.hid (mat_no k n w hp)
    have hr := Lib.hid (fun W => rmat_no k n W hp)
    clear hp
    go_enter Tryd.func3, Tryd.ntmps3
    go_wp2_with fail
    refine hm.out.mono ?_
    rintro e w1 ⟨rfl, b1⟩
    go_wp2_with fail
    refine (hr.out _).mono ?_
    rintro e w2 ⟨rfl, b2⟩
    go_wp2_with fail
    refine (awake_any _).mono ?_
    rintro e w3 ⟨rfl, b3⟩
    go_wp2_with fail
    refine (sameMat_yes [] [] [] none 0 0 none 0 _ (LR.nil_ _ _ _) (LR.nil_ _ _ _) rfl rfl (fun r hr => by cases hr) (by omega)).mono ?_
    rintro e w4 ⟨rfl, b4⟩
    have B4 := Lib.hid ((((b1.trans (b2.mono b1.size)).trans (b3.mono (Nat.le_trans b1.size b2.size))).trans (b4.mono (Nat.le_trans b1.size (Nat.le_trans b2.size b3.size)))))
    clear b1 b2 b3 b4 hm hr hB0
    go_wp2
    go_ret
    exact ⟨rfl, B4.out⟩
  · obtain ⟨⟨k1, k4⟩, n1, n4⟩ := posB_yes hp
    obtain ⟨m, rfl⟩ : ∃ m : Nat, n = (m : Int) := ⟨n.toNat, by omega⟩
    have hm := Lib.hid (mat_yes k m w k1 k4 (by omega) (by omega))
    have hr := Lib.hid (fun W => rmat_yes k m W k1 k4 (by omega) (by omega))
    have hrs := Lib.hid (cM_rs (k := k) (n := m) (by omega))
    have hm4 : Hid (m ≤ 32) := Lib.hid (by omega)
    clear hp k1 k4 n1 n4
    go_enter Tryd.func3, Tryd.ntmps3
    go_wp2_with fail
    refine hm.out.mono ?_
    rintro e w1 ⟨A, c, L, rfl, h1, _, h2, b1⟩
    have hl : L.length = m := by rw [h2.len, cM_len]
    rw [hl] at h1 ⊢
    go_wp2_with fail
    refine (hr.out _).mono ?_
    rintro e w2 ⟨A', c', L', rfl, h3, _, h4, b2⟩
    have hl' : L'.length = m := by rw [h4.len, cM_len]
    rw [hl'] at h3 ⊢
    go_wp2_with fail
    refine (awake_any _).mono ?_
    rintro e w3 ⟨rfl, b3⟩
    go_wp2_with fail
    refine (sameMat_yes (cM k m) L L' A m c A' c' _ ((h1.bel b2).bel b3) (h3.bel b3) h2 h4 hrs.out (by have := hm4.out; omega)).mono ?_
    rintro e w4 ⟨rfl, b4⟩
    have B4 := Lib.hid ((((b1.trans (b2.mono b1.size)).trans (b3.mono (Nat.le_trans b1.size b2.size))).trans (b4.mono (Nat.le_trans b1.size (Nat.le_trans b2.size b3.size)))))
    clear b1 b2 b3 b4 hm hr hB0 h1 h2 h3 h4 hrs hl hl'
    go_wp2
    go_ret
    exact ⟨rfl, B4.out⟩
end Go.Proofs.YtlflaalefilplaaDoor
