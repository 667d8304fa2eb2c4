/- The law ContrastNames. -/
import Derived.Test.YtlflaalefilplaaDoorM22
namespace Go.Proofs.YtlflaalefilplaaDoor
open Go.RowKit
set_option linter.unusedVariables false

/-- One name for each column. -/
theorem mat_first {k : Int} {n : Nat} {W : World} {A : Option Addr} {L : List (Sl Rw)} (h : LR (slC rwC) W A n L) (hM : MatV L (cM k n)) (hn : 1 ≤ n) : ∃ (b o : Nat) (s : Sl Rw), A = some ⟨b, o, none⟩ ∧ W.cell? ⟨b, o, none⟩ = some (.slice s.A s.L.length s.c) ∧ s.L.length = cols k n := by
  obtain ⟨b, o, s, hA, hs, _, e0, _⟩ := mat_get h (show 0 < n by omega)
  obtain ⟨q, hq, _, hsq⟩ := map_at hM hs
  refine ⟨b, o, s, hA, e0, ?_⟩
  have h1 : s.L.length = q.length := by have := congrArg List.length hsq; simpa using this
  have h2 : (cM k n)[0]? = some (rowM k n 0) := by
    unfold cM
    rw [List.getElem?_map, List.getElem?_range (by omega)]; rfl
  rw [hq] at h2
  rw [h1, Option.some.inj h2, rowM_len]
set_option maxRecDepth 100000 in
set_option maxHeartbeats 4000000 in
theorem law_names (k : Int) (A : Option Addr) (n c : Nat) (L : List ByteArray) (w : World) (h : LR strC w A n L) : Calls Tryd.prog 4 #[.int .i64 k, .slice A n c] w fun e w' => e = .returned (.bool true) ∧ Below w.heap.size w w' := by
  have hB0 := Lib.hid (Below.refl w.heap.size w)
  have hlen := Lib.hid h.len
  replace h := Lib.hid h
  by_cases h40 : n ≤ 40
  · have g1 : ¬ (40 : Int) < (n : Int) := by omega
    have hn40 := Lib.hid h40
    clear h40
    go_enter Tryd.func4, Tryd.ntmps4
    go_wp2
    go_loopw [5] (fun iv wr => ∃ i : Nat, i ≤ n ∧ iv = .int .i64 i ∧ wr = w ∧ ∀ s ∈ L.take i, s.size ≤ 100) (fun iv _ => n - (intOf iv).toNat)
    case atStart => exact ⟨0, Nat.zero_le _, rfl, rfl, fun s hs => by cases hs⟩
    case round =>
      obtain ⟨i, hin, rfl, rfl, hall⟩ := hrel
      by_cases hlt : i < n
      · obtain ⟨b, o, x, rfl, hx, hxm, e0⟩ := str_get h.out hlt
        have g2 : (i : Int) < (n : Int) := by omega
        have g3 : (0 : Int) ≤ (i : Int) := by omega
        have hih := Lib.hid hlt
        by_cases hs : x.size ≤ 100
        · have g4 : ¬ (100 : Int) < (x.size : Int) := by omega
          have hall2 : Hid (∀ s ∈ L.take (i + 1), s.size ≤ 100) := Lib.hid fun s hs2 => by
            rw [take_snoc hx] at hs2
            rcases List.mem_append.1 hs2 with h1 | h1
            · exact hall s h1
            · rw [List.mem_singleton.1 h1]; exact hs
          clear hall hs hx hxm hin hlt
          have hbb := hn40.out
          have hlt := hih.out
          go_wp2
          go_roundw
          case rel => exact ⟨i + 1, by omega, by go_num, by trivial, hall2.out⟩
          case measure => simp [intOf]; omega
        · have g4 : (100 : Int) < (x.size : Int) := by omega
          clear hall hs hx hxm hin hlt
          go_wp2_with fail
          refine (awake_any _).mono ?_
          rintro e w1 ⟨rfl, b1⟩
          have B1 := Lib.hid b1
          clear b1
          go_wp2
          go_ret
          exact ⟨rfl, B1.out⟩
      · obtain rfl : n = i := by omega
        rw [List.take_of_length_le (by rw [hlen.out]; exact Nat.le_refl _)] at hall
        have hs : ∀ s ∈ L, s.size ≤ 1000 := fun s hs => by have := hall s hs; omega
        clear hall hin hlt
        cases hp : posB k n
        · have hm := Lib.hid (names_no k A n c wr hp)
          have hr := Lib.hid (fun W => rnames_no k A n c W hp)
          have hx := Lib.hid (fun W => mat_no k n W hp)
          clear hp hs
          go_wp2_with fail
          refine hm.out.mono ?_
          rintro e w1 ⟨rfl, b1⟩
          have B1 := Lib.hid (hB0.out.trans b1)
          go_wp2_with fail
          refine (hr.out _).mono ?_
          rintro e w2 ⟨rfl, b2⟩
          have B2 := Lib.hid (B1.out.trans (b2.mono B1.out.size))
          go_wp2_with fail
          refine (hx.out _).mono ?_
          rintro e w3 ⟨rfl, b3⟩
          have B3 := Lib.hid (B2.out.trans (b3.mono B2.out.size))
          go_wp2_with fail
          refine (awake_any _).mono ?_
          rintro e w4 ⟨rfl, b4⟩
          have B4 := Lib.hid (B3.out.trans (b4.mono B3.out.size))
          go_wp2_with fail
          refine (sameStr_yes [] none 0 0 none 0 _ (LR.nil_ _ _ _) (LR.nil_ _ _ _) (by omega)).mono ?_
          rintro e w5 ⟨rfl, b5⟩
          have B5 := Lib.hid (B4.out.trans (b5.mono B4.out.size))
          clear b1 b2 b3 b4 b5 B1 B2 B3 B4 hm hr hx
          go_wp2
          go_ret
          exact ⟨rfl, B5.out⟩
        · obtain ⟨⟨k1, k4⟩, n1, n4⟩ := posB_yes hp
          have hm := Lib.hid (names_yes k L A n c wr h.out k1 k4 (by omega) (by omega) hs)
          have hr := Lib.hid (fun W (hW : Below wr.heap.size wr W) => rnames_yes k L A n c W (h.out.bel hW) k1 k4 (by omega) (by omega) hs)
          have hx := Lib.hid (fun W => mat_yes k n W k1 k4 (by omega) (by omega))
          have hcl : Hid ((nmL k L).length = cols k n) := Lib.hid (by rw [nmL_len, hlen.out])
          have hn1 : Hid (1 ≤ n) := Lib.hid (by omega)
          have hc32 : Hid (cols k n ≤ 32) := Lib.hid (by unfold cols; split <;> omega)
          clear hp hs k1 k4 n1 n4
          go_wp2_with fail
          refine hm.out.mono ?_
          rintro e w1 ⟨A1, c1, rfl, l1, _, b1⟩
          have B1 := Lib.hid (hB0.out.trans b1)
          rw [hcl.out] at l1 ⊢
          go_wp2_with fail
          refine (hr.out _ B1.out).mono ?_
          rintro e w2 ⟨A2, c2, rfl, l2, _, b2⟩
          have B2 := Lib.hid (B1.out.trans (b2.mono B1.out.size))
          rw [hcl.out] at l2 ⊢
          go_wp2_with fail
          refine (hx.out _).mono ?_
          rintro e w3 ⟨A3, c3, L3, rfl, l3, _, m3, b3⟩
          have B3 := Lib.hid (B2.out.trans (b3.mono B2.out.size))
          have hl3 : L3.length = n := by rw [m3.len, cM_len]
          rw [hl3] at l3 ⊢
          go_wp2_with fail
          refine (awake_any _).mono ?_
          rintro e w4 ⟨rfl, b4⟩
          have B4 := Lib.hid (B3.out.trans (b4.mono B3.out.size))
          have l1' := ((l1.bel b2).bel b3).bel b4
          have l2' := (l2.bel b3).bel b4
          go_wp2_with fail
          refine (sameStr_yes (nmL k L) A1 (cols k n) c1 A2 c2 _ l1' l2' (by have := hc32.out; omega)).mono ?_
          rintro e w5 ⟨rfl, b5⟩
          have B5 := Lib.hid (B4.out.trans (b5.mono B4.out.size))
          obtain ⟨b, o, s, rfl, e0, hsl⟩ := mat_first ((l3.bel b4).bel b5) m3 hn1.out
          rw [hsl] at e0
          have g5 : (0 : Int) < (n : Int) := by have := hn1.out; omega
          clear b1 b2 b3 b4 b5 B1 B2 B3 B4 hm hr hx l1 l2 l3 l1' l2' m3 hl3 hsl hcl hc32
          go_wp2
          go_ret
          exact ⟨rfl, B5.out⟩
  · have g1 : (40 : Int) < (n : Int) := by omega
    clear h40
    go_enter Tryd.func4, Tryd.ntmps4
    go_wp2_with fail
    refine (awake_any _).mono ?_
    rintro e w1 ⟨rfl, b1⟩
    have B1 := Lib.hid b1
    clear b1
    go_wp2
    go_ret
    exact ⟨rfl, B1.out⟩
end Go.Proofs.YtlflaalefilplaaDoor
