/- The reference's digit, bracketed, write. -/
import Derived.Test.YtpdfliocldhblaaDoorM22
import Derived.Laws.IdiomStrings
namespace Go.Proofs.YtpdfliocldhblaaDoor
open Go.RowKit
set_option linter.unusedVariables false

theorem conv9 (W : World) (c : UInt8) : (convert 145 9 (.slice (some ⟨W.heap.size, 0, none⟩) 1 1)).run Tryd.prog (W.alloc (.cells #[.int .u8 (c.toNat : Int)] 5)) =
    .ok (.string (bsA [c])) (W.alloc (.cells #[.int .u8 (c.toNat : Int)] 5)) := by
  refine run_convert_bytes_back (P := Tryd.prog) _ 145 9 5 ⟨W.heap.size, 0, none⟩ 1 [c] Tryd.underlying145 Tryd.underlying5 Tryd.underlying9 ?_
  intro j hj
  have hj0 : j = 0 := by simpa using hj
  subst hj0
  have : (⟨W.heap.size, 0, none⟩ : Addr).add 0 = ⟨W.heap.size, 0, none⟩ := rfl
  rw [this, cell_of_row _ W.heap.size 0 #[.int .u8 (c.toNat : Int)] 5 (0, 0) (heap_alloc_new W _)]
  rfl
set_option maxRecDepth 100000 in
set_option maxHeartbeats 4000000 in
theorem digit9_any (k : Nat) (hk : k ≤ 9) (w : World) : Calls Tryd.prog 85 #[.int .i64 (k : Nat)] w fun e w' => e = .returned (.string (bsA (F9.dg k))) ∧ Below w.heap.size w w' := by
  have hc : k = 0 ∨ k = 1 ∨ k = 2 ∨ k = 3 ∨ k = 4 ∨ k = 5 ∨ k = 6 ∨ k = 7 ∨ k = 8 ∨ k = 9 := by omega
  clear hk
  rcases hc with rfl | rfl | rfl | rfl | rfl | rfl | rfl | rfl | rfl | rfl
  · have hcv : (convert 145 9 (.slice (some ⟨w.heap.size, 0, none⟩) 1 1)).run Tryd.prog (w.alloc (.cells #[.int .u8 48] 5)) = .ok (.string (bsA [48])) (w.alloc (.cells #[.int .u8 48] 5)) := conv9 w 48
    go_enter Tryd.func85, Tryd.ntmps85
    go_wp2
    go_ret
    exact ⟨rfl, (Below.refl w.heap.size w).alloc (Nat.le_refl _) _⟩
  · have hcv : (convert 145 9 (.slice (some ⟨w.heap.size, 0, none⟩) 1 1)).run Tryd.prog (w.alloc (.cells #[.int .u8 49] 5)) = .ok (.string (bsA [49])) (w.alloc (.cells #[.int .u8 49] 5)) := conv9 w 49
    go_enter Tryd.func85, Tryd.ntmps85
    go_wp2
    go_ret
    exact ⟨rfl, (Below.refl w.heap.size w).alloc (Nat.le_refl _) _⟩
  · have hcv : (convert 145 9 (.slice (some ⟨w.heap.size, 0, none⟩) 1 1)).run Tryd.prog (w.alloc (.cells #[.int .u8 50] 5)) = .ok (.string (bsA [50])) (w.alloc (.cells #[.int .u8 50] 5)) := conv9 w 50
    go_enter Tryd.func85, Tryd.ntmps85
    go_wp2
    go_ret
    exact ⟨rfl, (Below.refl w.heap.size w).alloc (Nat.le_refl _) _⟩
  · have hcv : (convert 145 9 (.slice (some ⟨w.heap.size, 0, none⟩) 1 1)).run Tryd.prog (w.alloc (.cells #[.int .u8 51] 5)) = .ok (.string (bsA [51])) (w.alloc (.cells #[.int .u8 51] 5)) := conv9 w 51
    go_enter Tryd.func85, Tryd.ntmps85
    go_wp2
    go_ret
    exact ⟨rfl, (Below.refl w.heap.size w).alloc (Nat.le_refl _) _⟩
  · have hcv : (convert 145 9 (.slice (some ⟨w.heap.size, 0, none⟩) 1 1)).run Tryd.prog (w.alloc (.cells #[.int .u8 52] 5)) = .ok (.string (bsA [52])) (w.alloc (.cells #[.int .u8 52] 5)) := conv9 w 52
    go_enter Tryd.func85, Tryd.ntmps85
    go_wp2
    go_ret
    exact ⟨rfl, (Below.refl w.heap.size w).alloc (Nat.le_refl _) _⟩
  · have hcv : (convert 145 9 (.slice (some ⟨w.heap.size, 0, none⟩) 1 1)).run Tryd.prog (w.alloc (.cells #[.int .u8 53] 5)) = .ok (.string (bsA [53])) (w.alloc (.cells #[.int .u8 53] 5)) := conv9 w 53
    go_enter Tryd.func85, Tryd.ntmps85
    go_wp2
    go_ret
    exact ⟨rfl, (Below.refl w.heap.size w).alloc (Nat.le_refl _) _⟩
  · have hcv : (convert 145 9 (.slice (some ⟨w.heap.size, 0, none⟩) 1 1)).run Tryd.prog (w.alloc (.cells #[.int .u8 54] 5)) = .ok (.string (bsA [54])) (w.alloc (.cells #[.int .u8 54] 5)) := conv9 w 54
    go_enter Tryd.func85, Tryd.ntmps85
    go_wp2
    go_ret
    exact ⟨rfl, (Below.refl w.heap.size w).alloc (Nat.le_refl _) _⟩
  · have hcv : (convert 145 9 (.slice (some ⟨w.heap.size, 0, none⟩) 1 1)).run Tryd.prog (w.alloc (.cells #[.int .u8 55] 5)) = .ok (.string (bsA [55])) (w.alloc (.cells #[.int .u8 55] 5)) := conv9 w 55
    go_enter Tryd.func85, Tryd.ntmps85
    go_wp2
    go_ret
    exact ⟨rfl, (Below.refl w.heap.size w).alloc (Nat.le_refl _) _⟩
  · have hcv : (convert 145 9 (.slice (some ⟨w.heap.size, 0, none⟩) 1 1)).run Tryd.prog (w.alloc (.cells #[.int .u8 56] 5)) = .ok (.string (bsA [56])) (w.alloc (.cells #[.int .u8 56] 5)) := conv9 w 56
    go_enter Tryd.func85, Tryd.ntmps85
    go_wp2
    go_ret
    exact ⟨rfl, (Below.refl w.heap.size w).alloc (Nat.le_refl _) _⟩
  · have hcv : (convert 145 9 (.slice (some ⟨w.heap.size, 0, none⟩) 1 1)).run Tryd.prog (w.alloc (.cells #[.int .u8 57] 5)) = .ok (.string (bsA [57])) (w.alloc (.cells #[.int .u8 57] 5)) := conv9 w 57
    go_enter Tryd.func85, Tryd.ntmps85
    go_wp2
    go_ret
    exact ⟨rfl, (Below.refl w.heap.size w).alloc (Nat.le_refl _) _⟩
theorem endB_cons (m : Int) (n : Nd) (l : List Nd) (i : Nat) : endB m (n :: l) i = if ariB n.o < 0 then -1 else if m + (ariB n.o - 1) = 0 then ((i + 1 : Nat) : Int) else endB (m + (ariB n.o - 1)) l (i + 1) := rfl
/-- The end of a tree's nodes. -/
theorem end_tree : ∀ (t : F9.Tr), t.wf → ∀ (R : List Nd) (i m : Nat), 1 ≤ m → endB (m : Int) (t.pre.map toNd ++ R) i = if m = 1 then ((i + t.pre.length : Nat) : Int) else endB ((m - 1 : Nat) : Int) R (i + t.pre.length)
  | .leaf x, h, R, i, m, hm => by
    have hop := lf_op h
    have ha : ariB (toNd x).o = ((F9.ari x.op : Nat) : Int) := ari_eq hop.1 (by omega)
    rw [ari_lf h] at ha
    show endB (m : Int) (toNd x :: R) i = _
    rw [endB_cons, ha, if_neg (by omega)]
    by_cases h1 : m = 1
    · rw [if_pos h1, if_pos (by omega)]; rfl
    · rw [if_neg h1, if_neg (by omega), show (m : Int) + (((0 : Nat) : Int) - 1) = ((m - 1 : Nat) : Int) by omega]; rfl
  | .hat k a, h, R, i, m, hm => by
    have ha : ariB (toNd ⟨10, [], k⟩).o = ((1 : Nat) : Int) := rfl
    show endB (m : Int) (toNd ⟨10, [], k⟩ :: (a.pre.map toNd ++ R)) i = _
    rw [endB_cons, ha, if_neg (by omega), if_neg (by omega), show (m : Int) + (((1 : Nat) : Int) - 1) = (m : Int) by omega, end_tree a h.2.2 R (i + 1) m hm]
    have e : i + 1 + a.pre.length = i + (F9.Tr.hat k a).pre.length := by show _ = i + (a.pre.length + 1); omega
    rw [e]
  | .bin op a b, h, R, i, m, hm => by
    have ha : ariB (toNd ⟨op, [], 0⟩).o = ((F9.ari op : Nat) : Int) := ari_eq (by have := h.1; show 1 ≤ op; omega) (by have := h.2.1; show op ≤ 10; omega)
    have e2 : F9.ari op = 2 := by unfold F9.ari; rw [if_pos ⟨h.1, h.2.1⟩]
    rw [e2] at ha
    show endB (m : Int) (toNd ⟨op, [], 0⟩ :: ((a.pre ++ b.pre).map toNd ++ R)) i = _
    rw [endB_cons, ha, if_neg (by omega), if_neg (by omega), show (m : Int) + (((2 : Nat) : Int) - 1) = ((m + 1 : Nat) : Int) by omega, List.map_append, List.append_assoc, end_tree a h.2.2.1 _ (i + 1) (m + 1) (by omega), if_neg (by omega), Nat.add_sub_cancel, end_tree b h.2.2.2 R _ m hm]
    have e : i + 1 + a.pre.length + b.pre.length = i + (F9.Tr.bin op a b).pre.length := by
      show _ = i + ((a.pre ++ b.pre).length + 1)
      rw [List.length_append]; omega
    rw [e]
/-- The root of a tree. -/
theorem tree_root : ∀ (t : F9.Tr), t.wf → ∃ x l, t.pre = x :: l ∧ rnkB (x.op : Nat) = (t.rank : Nat)
  | .leaf x, h => ⟨x, [], rfl, by
      have hop := lf_op h
      show rnkB (x.op : Nat) = ((5 : Nat) : Int)
      unfold rnkB
      rw [if_neg (by omega), if_neg (by omega), if_neg (by omega), if_neg (by omega)]
      rfl⟩
  | .hat k a, h => ⟨⟨10, [], k⟩, a.pre, rfl, rfl⟩
  | .bin op a b, h => ⟨⟨op, [], 0⟩, a.pre ++ b.pre, rfl, by
      have h1 := h.1
      have h2 := h.2.1
      show rnkB (op : Nat) = (F9.rul op : Nat)
      have hc : op = 5 ∨ op = 6 ∨ op = 7 ∨ op = 8 ∨ op = 9 := by omega
      rcases hc with rfl | rfl | rfl | rfl | rfl <;> rfl⟩
theorem sgn_tree {op : Nat} (h1 : 5 ≤ op) (h2 : op ≤ 9) : sgnB (op : Nat) = bsA (F9.sgn op) := by
  have hc : op = 5 ∨ op = 6 ∨ op = 7 ∨ op = 8 ∨ op = 9 := by omega
  rcases hc with rfl | rfl | rfl | rfl | rfl <;> rfl
/-- write does a tree wherever it stands. -/
def WrC (tr : F9.Tr) : Prop := ∀ (Pr Qr : List Nd) (A : Option Addr) (n c : Nat) (w : World), LR ndC w A n (Pr ++ tr.pre.map toNd ++ Qr) → n ≤ 100000 → tr.wr.length ≤ 99000 → Calls Tryd.prog 48 #[.slice A n c, .int .i64 (Pr.length : Nat)] w fun e w' => e = .returned (.string (bsA tr.wr)) ∧ Below w.heap.size w w'

set_option maxRecDepth 100000 in
set_option maxHeartbeats 4000000 in
theorem brk_any (tr : F9.Tr) (hw : tr.wf) (hW : WrC tr) (Pr Qr : List Nd) (A : Option Addr) (n c k : Nat) (w : World) (h : LR ndC w A n (Pr ++ tr.pre.map toNd ++ Qr)) (hn : n ≤ 100000) (hl : tr.wr.length ≤ 99000) : Calls Tryd.prog 86 #[.slice A n c, .int .i64 (Pr.length : Nat), .int .i64 (k : Nat)] w fun e w' => e = .returned (.string (bsA (F9.encl (tr.wr, tr.rank) k))) ∧ Below w.heap.size w w' := by
  obtain ⟨x, l, hx, hr⟩ := tree_root tr hw
  have hat : (Pr ++ tr.pre.map toNd ++ Qr)[Pr.length]? = some (toNd x) := by
    rw [hx, List.append_assoc, List.getElem?_append_right (Nat.le_refl _), Nat.sub_self]; rfl
  have hlt : Pr.length < n := by
    have := (List.getElem?_eq_some_iff.1 hat).1
    have e := h.len
    omega
  have hWr : Hid (∀ W, Below w.heap.size w W → Calls Tryd.prog 48 #[.slice A n c, .int .i64 (Pr.length : Nat)] W fun e w' => e = .returned (.string (bsA tr.wr)) ∧ Below W.heap.size W w') := Lib.hid fun W hB => hW Pr Qr A n c W (h.bel hB) hn hl
  obtain ⟨b, o, y, rfl, hy, _, a0, _, _⟩ := nd_get h hlt
  rw [hat] at hy
  injection hy with hy
  subst hy
  have a0' : w.cell? ⟨b, o + Pr.length * 3, none⟩ = some (.int .i64 (x.op : Nat)) := a0
  have hR : Hid (∀ W, Calls Tryd.prog 87 #[.int .i64 (x.op : Nat)] W fun e w' => e = .returned (.int .i64 (tr.rank : Nat)) ∧ w' = W) := Lib.hid fun W => by have := rrank_any (x.op : Nat) W; rwa [hr] at this
  have hen := Lib.hid (enc_bs (tr.wr, tr.rank) k)
  have hsz : (bsA tr.wr).size ≤ 99000 := by rw [bsA_size]; exact hl
  have hen2 := hen.out
  simp only at hen2
  rw [← hen2]
  generalize bsA tr.wr = wv at *
  generalize tr.rank = rk at *
  generalize x.op = xo at *
  have g1 : (Pr.length : Int) < (n : Int) := by omega
  have g2 : (0 : Int) ≤ (Pr.length : Int) := by omega
  generalize Pr.length = p at *
  clear a0 hat hx hr h hlt hen hen2 hW
  by_cases hk : rk < k
  · have gk : (rk : Int) < (k : Int) := by omega
    rw [if_pos gk]
    clear hk
    go_enter Tryd.func86, Tryd.ntmps86
    go_wp2_with fail
    refine (hR.out _).mono ?_
    rintro e w1 ⟨rfl, rfl⟩
    clear hR
    go_wp2_with fail
    refine (hWr.out _ (Below.refl _ _)).mono ?_
    rintro e w2 ⟨rfl, hB⟩
    replace hB := Lib.hid hB
    clear hWr
    go_wp2
    go_ret
    exact ⟨rfl, hB.out⟩
  · have gk : ¬ (rk : Int) < (k : Int) := by omega
    rw [if_neg gk]
    clear hk
    go_enter Tryd.func86, Tryd.ntmps86
    go_wp2_with fail
    refine (hR.out _).mono ?_
    rintro e w1 ⟨rfl, rfl⟩
    clear hR
    go_wp2_with fail
    refine (hWr.out _ (Below.refl _ _)).mono ?_
    rintro e w2 ⟨rfl, hB⟩
    replace hB := Lib.hid hB
    clear hWr
    go_wp2
    go_ret
    exact ⟨rfl, hB.out⟩
end Go.Proofs.YtpdfliocldhblaaDoor
