/- The law ContrastHasFullRank. -/
import Derived.Test.YtlflaalefilplaaDoorM31
import Derived.Test.YtlflaalefilplaaDoorM22
namespace Go.Proofs.YtlflaalefilplaaDoor
open Go.RowKit RQ
set_option linter.unusedVariables false

/-- The matrix whose rank is asked. -/
def fM (k n : Nat) : List (List Rat) := if k = 4 then cM k n else onesM (cM k n)
def fOk (k n : Nat) : Bool := okM (fM k n) && gok n 0 ⟨fM k n, [], 1⟩ && (grun n 0 ⟨fM k n, [], 1⟩).p.length == n
set_option maxRecDepth 1000000 in
theorem fOk_1 : ∀ n : Fin 12, fOk 1 (n + 1) = true := by decide +kernel
set_option maxRecDepth 1000000 in
theorem fOk_2 : ∀ n : Fin 12, fOk 2 (n + 1) = true := by decide +kernel
set_option maxRecDepth 1000000 in
theorem fOk_3 : ∀ n : Fin 12, fOk 3 (n + 1) = true := by decide +kernel
set_option maxRecDepth 1000000 in
theorem fOk_4 : ∀ n : Fin 12, fOk 4 (n + 1) = true := by decide +kernel
theorem fOk_yes {k n : Nat} (hk : 1 ≤ k) (hk4 : k ≤ 4) (n0 : 1 ≤ n) (n1 : n ≤ 12) : fOk k n = true := by
  have h := fOk_1 ⟨n - 1, by omega⟩
  have h2 := fOk_2 ⟨n - 1, by omega⟩
  have h3 := fOk_3 ⟨n - 1, by omega⟩
  have h4 := fOk_4 ⟨n - 1, by omega⟩
  simp only [show n - 1 + 1 = n by omega] at h h2 h3 h4
  have : k = 1 ∨ k = 2 ∨ k = 3 ∨ k = 4 := by omega
  rcases this with rfl | rfl | rfl | rfl <;> assumption
theorem fM_rct {k n : Nat} (n0 : 1 ≤ n) : rct n (fM k n) := by
  intro r hr
  unfold fM at hr
  split at hr
  · rename_i hk
    unfold cM at hr
    obtain ⟨i, _, rfl⟩ := List.mem_map.1 hr
    rw [rowM_len]; unfold cols; rw [if_pos (by rw [hk]; rfl)]
  · rename_i hk
    unfold onesM cM at hr
    obtain ⟨q, hq, rfl⟩ := List.mem_map.1 hr
    obtain ⟨i, _, rfl⟩ := List.mem_map.1 hq
    rw [List.length_cons, rowM_len]; unfold cols; rw [if_neg (by omega)]; omega
set_option maxRecDepth 100000 in
set_option maxHeartbeats 4000000 in
theorem law_rank (u v : UInt8) (w : World) : Calls Tryd.prog 5 #[.int .u8 u.toNat, .int .u8 v.toNat] w fun e w' => e = .returned (.bool true) ∧ Below w.heap.size w w' := by
  obtain ⟨c0, hc0⟩ : ∃ c : Nat, c = u.toNat := ⟨_, rfl⟩
  obtain ⟨d0, hd0⟩ : ∃ c : Nat, c = v.toNat := ⟨_, rfl⟩
  have hu : c0 < 256 := by rw [hc0]; exact u.toNat_lt
  have hv : d0 < 256 := by rw [hd0]; exact v.toNat_lt
  rw [← hc0, ← hd0]
  clear hc0 hd0
  obtain ⟨r, hr⟩ : ∃ r : Nat, r = c0 % 4 := ⟨_, rfl⟩
  obtain ⟨t, ht⟩ : ∃ r : Nat, r = d0 % 12 := ⟨_, rfl⟩
  obtain ⟨k, hk⟩ : ∃ n : Nat, n = 1 + r := ⟨_, rfl⟩
  obtain ⟨n, hn⟩ : ∃ n : Nat, n = 1 + t := ⟨_, rfl⟩
  have k0 : 1 ≤ k := by omega
  have k4 : k ≤ 4 := by omega
  have n0 : 1 ≤ n := by omega
  have n1 : n ≤ 12 := by omega
  have hrem : (c0 : Int) % 4 = (r : Int) := by omega
  have htem : (d0 : Int) % 12 = (t : Int) := by omega
  have hr3 : (r : Int) ≤ 3 := by omega
  have ht11 : (t : Int) ≤ 11 := by omega
  have hu2 : (c0 : Int) ≤ 255 := by omega
  have hv2 : (d0 : Int) ≤ 255 := by omega
  have hw1 : Hid ((1 : Int) + (r : Int) = (k : Int)) := Lib.hid (by omega)
  have hw2 : Hid ((1 : Int) + (t : Int) = (n : Int)) := Lib.hid (by omega)
  clear hu hv hr ht hk hn
  have hMt := Lib.hid (mat_yes k n w (by omega) (by omega) n0 (by omega))
  have hok := fOk_yes k0 k4 n0 n1
  unfold fOk at hok
  rw [Bool.and_eq_true, Bool.and_eq_true] at hok
  have hRk : Hid (∀ (L : List (Sl Rw)) (A : Option Addr) (c : Nat) W, LR (slC rwC) W A n L → MatV L (fM k n) → Calls Tryd.prog 15 #[.slice A n c] W fun e w' => e = .returned (.tuple #[.int .i64 n, .int .i64 0]) ∧ Below W.heap.size W w') := Lib.hid fun L A c W hL hM => by
    have := rank_any (fM k n) L A n c n W hL hM hok.1.1 (fM_rct n0) n0 (by omega) n0 (by omega) hok.1.2
    rwa [eq_of_beq hok.2] at this
  have hAw := Lib.hid (fun W => awake_any W)
  have hcl : Hid ((cM k n).length = n ∧ ∀ r ∈ cM k n, r.length ≤ 1000) := Lib.hid ⟨cM_len, fun r hr => by
    unfold cM at hr
    obtain ⟨i, _, rfl⟩ := List.mem_map.1 hr
    rw [rowM_len]; unfold cols; split <;> omega⟩
  have hB0 := Lib.hid (Below.refl w.heap.size w)
  replace k0 := Lib.hid k0
  replace k4 := Lib.hid k4
  replace n0 := Lib.hid n0
  replace n1 := Lib.hid n1
  clear hok
  go_enter Tryd.func5, Tryd.ntmps5
  go_wp2_with fail
  rw [hw1.out, hw2.out]
  clear hw1 hw2 hrem htem hr3 ht11 hu2 hv2
  generalize (c0 : Int) % 4 = z1
  generalize (d0 : Int) % 12 = z2
  refine hMt.out.mono ?_
  rintro e w1 ⟨A, c, L, rfl, hL, _, hM, b1⟩
  have B1 := Lib.hid (hB0.out.trans b1)
  have eL : L.length = n := by rw [hM.len]; exact hcl.out.1
  rw [eL] at hL ⊢
  clear hMt eL b1 hB0
  by_cases hk4 : k = 4
  · have g1 : (k : Int) = 4 := by omega
    have hM2 : MatV L (fM k n) := by unfold fM; rw [if_pos hk4]; exact hM
    have hR1 := Lib.hid (fun W (hb : Below w1.heap.size w1 W) => hRk.out L A c W (hL.bel hb) hM2)
    clear hM2 hM hL hk4
    go_wp2_with fail
    refine (hR1.out _ (Below.refl _ _)).mono ?_
    rintro e w3 ⟨rfl, b3⟩
    have B3 := Lib.hid (B1.out.trans (b3.mono B1.out.size))
    clear b3 hR1
    go_wp2_with fail
    refine (hAw.out _).mono ?_
    rintro e w4 ⟨rfl, b4⟩
    have B4 := Lib.hid (B3.out.trans (b4.mono B3.out.size))
    clear b4
    go_wp2
    go_ret
    exact ⟨rfl, B4.out⟩
  · have g1 : ¬ ((k : Int) = 4) := by omega
    have hW := Lib.hid (with_any (cM k n) L A n c w1 hL hM hcl.out.2 (by have := n1.out; omega))
    have hfM : Hid (onesM (cM k n) = fM k n) := Lib.hid (by unfold fM; rw [if_neg hk4])
    clear hL hM hk4
    go_wp2_with fail
    refine hW.out.mono ?_
    rintro e w2 ⟨v, bs, rs, L2, rfl, G, hI, hV⟩
    obtain ⟨A2, c2, bs2, rfl, S2, _, hl⟩ := G.done
    have hl2 : L2.length = n := by rw [hV.len]; unfold onesM; rw [List.length_map]; exact hcl.out.1
    have hLR := hl.lr S2
    rw [hl2] at hLR ⊢
    have B2 := Lib.hid (B1.out.trans (S2.bel.mono B1.out.size))
    have hR1 := Lib.hid (hRk.out L2 A2 c2 w2 hLR (by rw [← hfM.out]; exact hV))
    clear G hI hV S2 hl hl2 hLR hW
    go_wp2_with fail
    refine hR1.out.mono ?_
    rintro e w3 ⟨rfl, b3⟩
    have B3 := Lib.hid (B2.out.trans (b3.mono B2.out.size))
    clear b3 hR1
    go_wp2_with fail
    refine (hAw.out _).mono ?_
    rintro e w4 ⟨rfl, b4⟩
    have B4 := Lib.hid (B3.out.trans (b4.mono B3.out.size))
    clear b4
    go_wp2
    go_ret
    exact ⟨rfl, B4.out⟩
end Go.Proofs.YtlflaalefilplaaDoor
