/- isNode at any node; node of the reference; what counts as an expression. -/
import Derived.Test.YthbkdjbmkhmlnaaDoorB05
import Derived.Shelf.LaysM
import Derived.Shelf.Strconv.Clone
import Derived.Test.YthbkdjbmkhmlnaaDoorProg
import Derived.Shelf.Strings.SlTrimAscii
namespace Go.Proofs.YthbkdjbmkhmlnaaDoor
open Go.RowKit
set_option linter.unusedVariables false

set_option maxRecDepth 100000 in
set_option maxHeartbeats 4000000 in
theorem isNode_any (x : Nd) (w : World) (hO : Og w) : Calls Tryd.prog 82 #[.agg #[.int .i64 x.o, .string x.s, .int .i64 x.k]] w fun e w' => e = .returned (.bool (nodB x)) ∧ Below w.heap.size w w' := by
  obtain ⟨o, s, k⟩ := x
  show Calls Tryd.prog 82 #[.agg #[.int .i64 o, .string s, .int .i64 k]] w fun e w' => e = .returned (.bool (nodB ⟨o, s, k⟩)) ∧ Below w.heap.size w w'
  unfold nodB
  dsimp only
  by_cases h1 : 1 ≤ o
  · by_cases h2 : o ≤ 10
    · rw [decide_eq_true h1, decide_eq_true h2, Bool.true_and, Bool.true_and]
      have hc : o = 1 ∨ o = 2 ∨ o = 3 ∨ o = 4 ∨ o = 5 ∨ o = 6 ∨ o = 7 ∨ o = 8 ∨ o = 9 ∨ o = 10 := by omega
      rcases hc with rfl | rfl | rfl | rfl | rfl | rfl | rfl | rfl | rfl | rfl
      · exact isNode_1 s k w hO
      · exact isNode_2 s k w hO
      · exact isNode_3 s k w hO
      · exact isNode_4 s k w hO
      · exact isNode_5 s k w hO
      · exact isNode_6 s k w hO
      · exact isNode_7 s k w hO
      · exact isNode_8 s k w hO
      · exact isNode_9 s k w hO
      · exact isNode_10 s k w hO
    · rw [decide_eq_false h2, Bool.and_false, Bool.false_and]
      clear hO
      have h3 : ¬ o < 1 := by omega
      have h4 : 11 ≤ o := by omega
      clear h1 h2
      go_enter Tryd.func82, Tryd.ntmps82
      go_wp2
      go_ret
      exact ⟨rfl, (Below.refl w.heap.size w).alloc (Nat.le_refl _) _⟩
  · rw [decide_eq_false h1, Bool.false_and, Bool.false_and]
    clear hO
    have h3 : o < 1 := by omega
    clear h1
    go_enter Tryd.func82, Tryd.ntmps82
    go_wp2
    go_ret
    exact ⟨rfl, (Below.refl w.heap.size w).alloc (Nat.le_refl _) _⟩

theorem fld1 {s : ByteArray} {k : Int} : fldB ⟨1, s, k⟩ = (nameB s && decide (0 ≤ k) && decide (k ≤ 0)) := rfl
theorem fld2 {s : ByteArray} {k : Int} : fldB ⟨2, s, k⟩ = (nameB s && decide (2 ≤ k) && decide (k ≤ 8)) := rfl
theorem fld10 {s : ByteArray} {k : Int} : fldB ⟨10, s, k⟩ = (s.toList.isEmpty && decide (1 ≤ k) && decide (k ≤ 6)) := rfl
theorem fldE {o : Int} {s : ByteArray} {k : Int} (h1 : ¬ o = 1) (h2 : ¬ o = 2) (h3 : ¬ o = 10) : fldB ⟨o, s, k⟩ = (s.toList.isEmpty && decide (0 ≤ k) && decide (k ≤ 0)) := by
  unfold fldB; dsimp only; rw [if_neg h1, if_neg h2, if_neg h3]

theorem two_dec (k : Int) : (decide (0 ≤ k) && decide (k ≤ 0)) = (k == 0) := by
  rw [Bool.eq_iff_iff, Bool.and_eq_true, decide_eq_true_eq, decide_eq_true_eq, beq_iff_eq]; omega

set_option maxRecDepth 100000 in
set_option maxHeartbeats 4000000 in
theorem rnode_any (x : Nd) (w : World) : Calls Tryd.prog 42 #[.agg #[.int .i64 x.o, .string x.s, .int .i64 x.k]] w fun e w' => e = .returned (.bool (fldB x)) ∧ Below w.heap.size w w' := by
  obtain ⟨o, s, k⟩ := x
  show Calls Tryd.prog 42 #[.agg #[.int .i64 o, .string s, .int .i64 k]] w fun e w' => e = .returned (.bool (fldB ⟨o, s, k⟩)) ∧ Below w.heap.size w w'
  have hN := Lib.hid (fun W => rName_any s W)
  by_cases h1 : o = 1
  · subst h1
    rw [fld1, Bool.and_assoc, two_dec]
    cases hb : nameB s
    · rw [hb] at hN
      clear hb
      go_enter Tryd.func42, Tryd.ntmps42
      go_wp2_with fail
      refine (hN.out _).mono ?_
      rintro e w1 ⟨rfl, rfl⟩
      go_wp2
      go_ret
      exact ⟨by (first | rfl | (simp; done)), (Below.refl w.heap.size w).alloc (Nat.le_refl _) _⟩
    · rw [hb] at hN
      clear hb
      cases hk : (k == 0)
      all_goals
        go_enter Tryd.func42, Tryd.ntmps42
        go_wp2_with fail
        refine (hN.out _).mono ?_
        rintro e w1 ⟨rfl, rfl⟩
        go_wp2
        go_ret
        exact ⟨by (first | rfl | (simp [hk]; done)), (Below.refl w.heap.size w).alloc (Nat.le_refl _) _⟩
  · by_cases h2 : o = 2
    · subst h2
      clear h1
      rw [fld2]
      cases hb : nameB s
      · rw [hb] at hN
        clear hb
        go_enter Tryd.func42, Tryd.ntmps42
        go_wp2_with fail
        refine (hN.out _).mono ?_
        rintro e w1 ⟨rfl, rfl⟩
        go_wp2
        go_ret
        exact ⟨by (first | rfl | (simp; done)), (Below.refl w.heap.size w).alloc (Nat.le_refl _) _⟩
      · rw [hb] at hN
        clear hb
        by_cases hk : 2 ≤ k
        · by_cases hk2 : k ≤ 8
          all_goals
            go_enter Tryd.func42, Tryd.ntmps42
            go_wp2_with fail
            refine (hN.out _).mono ?_
            rintro e w1 ⟨rfl, rfl⟩
            go_wp2
            go_ret
            exact ⟨by (first | rfl | (simp; done) | (simp; omega)), (Below.refl w.heap.size w).alloc (Nat.le_refl _) _⟩
        · go_enter Tryd.func42, Tryd.ntmps42
          go_wp2_with fail
          refine (hN.out _).mono ?_
          rintro e w1 ⟨rfl, rfl⟩
          go_wp2
          go_ret
          exact ⟨by (first | rfl | (simp; done) | (simp; omega)), (Below.refl w.heap.size w).alloc (Nat.le_refl _) _⟩
    · clear hN
      by_cases h3 : o = 10
      · subst h3
        clear h1 h2
        rw [fld10]
        cases hb : s.toList.isEmpty
        · go_enter Tryd.func42, Tryd.ntmps42
          go_wp2
          go_ret
          exact ⟨by (first | rfl | (simp; done)), (Below.refl w.heap.size w).alloc (Nat.le_refl _) _⟩
        · have hs := str_empty hb
          subst hs
          clear hb
          by_cases hk : 1 ≤ k
          · by_cases hk2 : k ≤ 6
            all_goals
              go_enter Tryd.func42, Tryd.ntmps42
              go_wp2
              go_ret
              exact ⟨by (first | rfl | (simp; done) | (simp; omega)), (Below.refl w.heap.size w).alloc (Nat.le_refl _) _⟩
          · go_enter Tryd.func42, Tryd.ntmps42
            go_wp2
            go_ret
            exact ⟨by (first | rfl | (simp; done) | (simp; omega)), (Below.refl w.heap.size w).alloc (Nat.le_refl _) _⟩
      · rw [fldE h1 h2 h3, Bool.and_assoc, two_dec]
        have e1 : (o == 1) = false := by rw [beq_eq_false_iff_ne]; exact h1
        have e2 : (o == 2) = false := by rw [beq_eq_false_iff_ne]; exact h2
        have e3 : (o == 10) = false := by rw [beq_eq_false_iff_ne]; exact h3
        clear h1 h2 h3
        cases hb : s.toList.isEmpty
        · go_enter Tryd.func42, Tryd.ntmps42
          go_wp2
          go_ret
          exact ⟨by (first | rfl | (simp; done)), (Below.refl w.heap.size w).alloc (Nat.le_refl _) _⟩
        · have hs := str_empty hb
          subst hs
          clear hb
          cases hk : (k == 0)
          all_goals
            go_enter Tryd.func42, Tryd.ntmps42
            go_wp2
            go_ret
            exact ⟨by (first | rfl | (simp [hk]; done)), (Below.refl w.heap.size w).alloc (Nat.le_refl _) _⟩

/-- Are these nodes so many expressions, one behind the other? -/
def excB (m : Int) : List Nd → Bool
  | [] => m == 0
  | n :: l => !(m == 0) && nodB n && excB (m + (ariB n.o - 1)) l
/-- The place behind so many expressions, or -1. -/
def endB (m : Int) : List Nd → Nat → Int
  | [], _ => -1
  | n :: l, i => if ariB n.o < 0 then -1 else if m + (ariB n.o - 1) = 0 then ((i + 1 : Nat) : Int) else endB (m + (ariB n.o - 1)) l (i + 1)
theorem ari_le (o : Int) : ariB o ≤ 2 ∧ -1 ≤ ariB o := by
  unfold ariB
  by_cases h1 : 1 ≤ o ∧ o ≤ 4
  · rw [if_pos h1]; omega
  · rw [if_neg h1]
    by_cases h2 : o = 10
    · rw [if_pos h2]; omega
    · rw [if_neg h2]
      by_cases h3 : 5 ≤ o ∧ o ≤ 9
      · rw [if_pos h3]; omega
      · rw [if_neg h3]; omega
theorem ari_nod (o : Int) : (0 ≤ ariB o) ↔ (1 ≤ o ∧ o ≤ 10) := by
  unfold ariB
  by_cases h1 : 1 ≤ o ∧ o ≤ 4
  · rw [if_pos h1]; omega
  · rw [if_neg h1]
    by_cases h2 : o = 10
    · rw [if_pos h2]; omega
    · rw [if_neg h2]
      by_cases h3 : 5 ≤ o ∧ o ≤ 9
      · rw [if_pos h3]; omega
      · rw [if_neg h3]; omega
theorem nod_ari (n : Nd) : nodB n = (decide (0 ≤ ariB n.o) && fldB n) := by
  unfold nodB
  congr 1
  rw [Bool.eq_iff_iff, Bool.and_eq_true, decide_eq_true_eq, decide_eq_true_eq, decide_eq_true_eq]
  exact (ari_nod n.o).symm
theorem end_big : ∀ (L : List Nd) (m : Int) (i : Nat), endB m L i = -1 ∨ ((i : Int) < endB m L i ∧ endB m L i ≤ ((i + L.length : Nat) : Int))
  | [], m, i => .inl rfl
  | n :: l, m, i => by
    unfold endB
    split
    · exact .inl rfl
    · split
      · right; rw [List.length_cons]; omega
      · rcases end_big l (m + (ariB n.o - 1)) (i + 1) with h | h
        · exact .inl h
        · right; rw [List.length_cons]; omega
/-- Both ways to say that nodes are an expression. -/
theorem exc_end : ∀ (L : List Nd) (m : Int) (i : Nat), 1 ≤ m → excB m L = (decide (endB m L i = ((i + L.length : Nat) : Int)) && L.all fldB)
  | [], m, i, h => by
    have e1 : excB m [] = false := by unfold excB; rw [beq_eq_false_iff_ne]; omega
    have e2 : decide (endB m [] i = ((i + ([] : List Nd).length : Nat) : Int)) = false := by
      rw [decide_eq_false_iff_not]; unfold endB; simp only [List.length_nil]; omega
    rw [e1, e2]; rfl
  | n :: l, m, i, h => by
    have hm : (m == 0) = false := by rw [beq_eq_false_iff_ne]; omega
    unfold excB
    rw [hm, nod_ari, List.all_cons]
    unfold endB
    by_cases ha : ariB n.o < 0
    · rw [if_pos ha, decide_eq_false (by omega)]
      have : decide ((-1 : Int) = ((i + (n :: l).length : Nat) : Int)) = false := decide_eq_false (by omega)
      rw [this]; simp
    · rw [if_neg ha, decide_eq_true (by omega : 0 ≤ ariB n.o)]
      by_cases hz : m + (ariB n.o - 1) = 0
      · rw [if_pos hz, hz]
        cases l with
        | nil =>
          rw [decide_eq_true (show ((i + 1 : Nat) : Int) = ((i + [n].length : Nat) : Int) from rfl)]
          simp [excB]
        | cons a r =>
          rw [decide_eq_false (by simp only [List.length_cons]; omega)]
          simp [excB]
      · rw [if_neg hz, exc_end l _ (i + 1) (by omega)]
        have e : ((i + 1 + l.length : Nat) : Int) = ((i + (n :: l).length : Nat) : Int) := by rw [List.length_cons]; omega
        rw [e]
        cases fldB n <;> simp
/-- Is this a formula? -/
def frmB (s : ByteArray) (L : List Nd) : Bool := nameB s && decide (L.length ≤ 64) && excB 1 L
end Go.Proofs.YthbkdjbmkhmlnaaDoor
namespace Go.Proofs.YthbkdjbmkhmlnaaDoor
open Go.RowKit
set_option linter.unusedVariables false

theorem drop_one {α : Type} {L : List α} {i : Nat} {x : α} (hx : L[i]? = some x) : L.drop i = x :: L.drop (i + 1) := by
  obtain ⟨h1, h2⟩ := List.getElem?_eq_some_iff.1 hx
  rw [List.drop_eq_getElem_cons h1, h2]
theorem noLn (o : Int) (s : ByteArray) (k : Int) : NoL #[.int .i64 o, .string s, .int .i64 k] := by
  intro i z; match i with
  | 0 => simp
  | 1 => simp
  | 2 => simp
  | k + 3 => simp
theorem og_ari {W : World} (h : Og W) {q : Nat} (h1 : q ≤ 10) (h2 : 1 ≤ q) : W.cell? ⟨0, q * 6 + 2, none⟩ = some (.int .i64 (ariB (q : Int))) := by
  have hc : q = 1 ∨ q = 2 ∨ q = 3 ∨ q = 4 ∨ q = 5 ∨ q = 6 ∨ q = 7 ∨ q = 8 ∨ q = 9 ∨ q = 10 := by omega
  rcases hc with rfl | rfl | rfl | rfl | rfl | rfl | rfl | rfl | rfl | rfl
  all_goals exact h.2 _ _ rfl

set_option maxRecDepth 100000 in
set_option maxHeartbeats 4000000 in
theorem isExpr_any (L : List Nd) (A : Option Addr) (n c : Nat) (w : World) (h : LR ndC w A n L) (hn : n ≤ 100000) (hO : Og w) : Calls Tryd.prog 50 #[.slice A n c] w fun e w' => e = .returned (.bool (excB 1 L)) ∧ Below w.heap.size w w' := by
  have hb := Lib.hid hn
  have hlen := Lib.hid h.len
  obtain ⟨nv, hnv⟩ : ∃ z, z = excB 1 L := ⟨_, rfl⟩
  rw [← hnv]
  replace hnv := Lib.hid hnv
  replace h := Lib.hid h
  replace hO := Lib.hid hO
  clear hn
  go_enter Tryd.func50, Tryd.ntmps50
  go_wp2
  go_loopw [3, 8] (fun mv iv wr => ∃ (i : Nat) (m : Int), i ≤ n ∧ iv = .int .i64 i ∧ mv = .int .i64 m ∧ Below w.heap.size w wr ∧ 0 ≤ m ∧ m ≤ i + 1 ∧ nv = excB m (L.drop i)) (fun _ iv _ => n - (intOf iv).toNat)
  case atStart => exact ⟨0, 1, Nat.zero_le _, rfl, rfl, Below.refl _ _, by decide, by decide, hnv.out⟩
  case round =>
    obtain ⟨i, m, hin, rfl, rfl, B, hm0, hm1, hall⟩ := hrel
    by_cases hlt : i < n
    · obtain ⟨b, o, x, rfl, hx, hxm, e0, e1, e2⟩ := nd_get (h.out.bel B) hlt
      have hdr := Lib.hid (drop_one hx)
      have hih := Lib.hid hlt
      have hmm := Lib.hid (And.intro hm0 hm1)
      have g1 : (i : Int) < (n : Int) := by omega
      have g2 : (0 : Int) ≤ (i : Int) := by omega
      have hX : Hid (∀ W, Below wr.heap.size wr W → Calls Tryd.prog 82 #[.agg #[.int .i64 x.o, .string x.s, .int .i64 x.k]] W fun e w' => e = .returned (.bool (nodB x)) ∧ Below W.heap.size W w') := Lib.hid fun W hW => isNode_any x W ((hO.out.bel B).bel hW)
      have hG : Hid (∀ W, Below wr.heap.size wr W → Og W) := Lib.hid fun W hW => (hO.out.bel B).bel hW
      rw [hdr.out] at hall
      unfold excB at hall
      have S : St wr _ [(wr.heap.size, #[.int .i64 x.o, .string x.s, .int .i64 x.k], 39)] [] := (St.new wr).allocAt wr.heap.size #[.int .i64 x.o, .string x.s, .int .i64 x.k] 39 (noLn _ _ _) rfl
      replace S := Lib.hid S
      replace B := Lib.hid B
      clear hx hxm hin hlt hm0 hm1
      cases hz : (m == 0)
      · rw [hz] at hall
        replace hall := Lib.hid hall
        go_wp2_with fail
        refine (hX.out _ S.out.bel).mono ?_
        rintro e w1 ⟨rfl, bb⟩
        have T := S.out.call bb
        clear bb S e0 e1 e2
        have S := T
        clear T
        cases hv : nodB x
        · have hfi : nv = false := by rw [hall.out, hv]; rfl
          subst hfi
          replace hv := Lib.hid hv
          have hbel := Lib.hid (B.out.trans (S.bel.mono B.out.size))
          clear S hall
          go_wp2
          go_ret
          exact ⟨rfl, hbel.out⟩
        · have hoo : 1 ≤ x.o ∧ x.o ≤ 10 := by
            have hv2 := hv
            unfold nodB at hv2
            rw [Bool.and_eq_true, Bool.and_eq_true, decide_eq_true_eq, decide_eq_true_eq] at hv2
            exact hv2.1
          obtain ⟨q, hq⟩ : ∃ q : Nat, x.o = (q : Int) := ⟨x.o.toNat, by omega⟩
          have hq1 : 1 ≤ q := by omega
          have hq2 : q ≤ 10 := by omega
          have ga := og_ari (hG.out _ S.bel) hq2 hq1
          have gl : (hG.out _ S.bel).1 = (hG.out _ S.bel).1 := rfl
          clear gl
          have hz0 : 0 < w1.heap.size := (hG.out _ S.bel).1
          have q1 : (q : Int) < 11 := by omega
          have q2 : (0 : Int) ≤ (q : Int) := by omega
          have hae : Hid (ariB x.o = ariB (q : Int)) := Lib.hid (by rw [hq])
          have hal := Lib.hid (ari_le (q : Int))
          have hnx : Hid (nv = excB (m + (ariB (q : Int) - 1)) (L.drop (i + 1))) := Lib.hid (by rw [hall.out, hv, hq]; rfl)
          have han : Hid (0 ≤ ariB (q : Int)) := Lib.hid (by rw [← hq]; exact (ari_nod _).2 hoo)
          have hmne : Hid (1 ≤ m) := Lib.hid (by have := hmm.out; have h2 : m ≠ 0 := (by rw [beq_eq_false_iff_ne] at hz; exact hz); omega)
          have c_x0 : w1.cell? ⟨wr.heap.size, 0, none⟩ = some (.int .i64 (q : Int)) := by rw [← hq]; exact S.cl 0 0 rfl rfl
          have hbel := Lib.hid (B.out.trans (S.bel.mono B.out.size))
          replace hv := Lib.hid hv
          replace hq := Lib.hid hq
          replace hq1 := Lib.hid hq1
          replace hq2 := Lib.hid hq2
          clear S hall hoo
          generalize ariB (q : Int) = a at *
          have hb1 := hal.out
          have hb2 := hmm.out
          have hb3 := hih.out
          have hb4 := hb.out
          go_wp2
          go_roundw
          case rel => exact ⟨i + 1, m + (a - 1), by omega, by go_num, by go_num, hbel.out, by (have := han.out; have := hmne.out; omega), by (have := hmm.out; have := hal.out; omega), hnx.out⟩
          case measure => simp [intOf]; omega
      · rw [hz] at hall
        have hfi : nv = false := by rw [hall]; rfl
        subst hfi
        clear hall hX hG
        go_wp2
        go_ret
        exact ⟨rfl, B.out.trans (S.out.bel.mono B.out.size)⟩
    · obtain rfl : i = n := by omega
      have hfi : nv = (m == 0) := by rw [hall, List.drop_eq_nil_of_le (by rw [hlen.out]; exact Nat.le_refl _)]; rfl
      replace B := Lib.hid B
      clear hall hin hlt hm0 hm1
      subst hfi
      go_wp2
      go_ret
      exact ⟨rfl, B.out⟩
end Go.Proofs.YthbkdjbmkhmlnaaDoor
namespace Go.Proofs.YthbkdjbmkhmlnaaDoor
open Go.RowKit
set_option linter.unusedVariables false

set_option maxRecDepth 100000 in
set_option maxHeartbeats 4000000 in
theorem end_any (L : List Nd) (A : Option Addr) (n c q : Nat) (w : World) (h : LR ndC w A n L) (hn : n ≤ 100000) (hq : q ≤ n) : Calls Tryd.prog 41 #[.slice A n c, .int .i64 q] w fun e w' => e = .returned (.int .i64 (endB 1 (L.drop q) q)) ∧ w' = w := by
  have hb := Lib.hid hn
  have hlen := Lib.hid h.len
  obtain ⟨nv, hnv⟩ : ∃ z, z = endB 1 (L.drop q) q := ⟨_, rfl⟩
  rw [← hnv]
  replace hnv := Lib.hid hnv
  replace h := Lib.hid h
  have hA := Lib.hid arity_any
  replace hq := Lib.hid hq
  clear hn
  go_enter Tryd.func41, Tryd.ntmps41
  go_wp2
  go_loopw [5, 6] (fun mv iv wr => ∃ (i : Nat) (m : Int), i ≤ n ∧ iv = .int .i64 i ∧ mv = .int .i64 m ∧ wr = w ∧ -(i : Int) - 1 ≤ m ∧ m ≤ i + 1 ∧ nv = endB m (L.drop i) i) (fun _ iv _ => n - (intOf iv).toNat)
  case atStart => exact ⟨q, 1, hq.out, rfl, rfl, rfl, by omega, by omega, hnv.out⟩
  case round =>
    obtain ⟨i, m, hin, rfl, rfl, rfl, hm0, hm1, hall⟩ := hrel
    by_cases hlt : i < n
    · obtain ⟨b, o, x, rfl, hx, hxm, e0, e1, e2⟩ := nd_get h.out hlt
      rw [drop_one hx] at hall
      unfold endB at hall
      have hih := Lib.hid hlt
      have hmm := Lib.hid (And.intro hm0 hm1)
      have g1 : (i : Int) < (n : Int) := by omega
      have g2 : (0 : Int) ≤ (i : Int) := by omega
      have hX := Lib.hid (hA.out x.o)
      have hal := Lib.hid (ari_le x.o)
      clear hx hxm hin hlt hm0 hm1 e1 e2
      generalize ariB x.o = a at *
      by_cases ha : a < 0
      · rw [if_pos ha] at hall
        subst hall
        clear hal hmm
        go_wp2_with fail
        refine (hX.out _).mono ?_
        rintro e w1 ⟨rfl, rfl⟩
        go_wp2
        go_ret
        exact ⟨rfl, rfl⟩
      · rw [if_neg ha] at hall
        by_cases hz : m + (a - 1) = 0
        · rw [if_pos hz] at hall
          have hb1 := hal.out
          have hb2 := hmm.out
          have hb3 := hih.out
          have hb4 := hb.out
          subst hall
          go_wp2_with fail
          refine (hX.out _).mono ?_
          rintro e w1 ⟨rfl, rfl⟩
          go_wp2
          go_ret
          exact ⟨by first | rfl | (simp; done) | (simp; omega), rfl⟩
        · rw [if_neg hz] at hall
          replace hall := Lib.hid hall
          have hz2 : (m + (a - 1) == 0) = false := by rw [beq_eq_false_iff_ne]; exact hz
          have hb1 := hal.out
          have hb2 := hmm.out
          have hb3 := hih.out
          have hb4 := hb.out
          clear hz
          go_wp2_with fail
          refine (hX.out _).mono ?_
          rintro e w1 ⟨rfl, rfl⟩
          go_wp2
          go_roundw
          case rel => exact ⟨i + 1, m + (a - 1), by omega, by go_num, by go_num, (by first | rfl | trivial), by (have := hal.out; have := hmm.out; omega), by (have := hal.out; have := hmm.out; omega), hall.out⟩
          case measure => simp [intOf]; omega
    · obtain rfl : i = n := by omega
      have hfi : nv = -1 := by rw [hall, List.drop_eq_nil_of_le (by rw [hlen.out]; exact Nat.le_refl _)]; rfl
      clear hall hin hlt hm0 hm1
      subst hfi
      go_wp2
      go_ret
      exact ⟨rfl, rfl⟩

set_option maxRecDepth 100000 in
set_option maxHeartbeats 4000000 in
theorem valid_any (s : ByteArray) (L : List Nd) (A : Option Addr) (n c : Nat) (w : World) (h : LR ndC w A n L) (hn : n ≤ 100000) (hO : Og w) : Calls Tryd.prog 24 #[.agg #[.string s, .slice A n c]] w fun e w' => e = .returned (.bool (frmB s L)) ∧ Below w.heap.size w w' := by
  have hN := Lib.hid (fun W => name_any s W)
  have hE : Hid (∀ W, Below w.heap.size w W → Calls Tryd.prog 50 #[.slice A n c] W fun e w' => e = .returned (.bool (excB 1 L)) ∧ Below W.heap.size W w') := Lib.hid fun W hW => isExpr_any L A n c W (h.bel hW) hn (hO.bel hW)
  have hlen := h.len
  unfold frmB
  rw [hlen]
  have S : St w _ [(w.heap.size, #[.string s, .slice A n c], 24)] [] := (St.new w).allocAt w.heap.size #[.string s, .slice A n c] 24 (by intro i z; match i with | 0 => simp | 1 => simp | k + 2 => simp) rfl
  replace S := Lib.hid S
  clear hlen h hn hO
  generalize excB 1 L = v at *
  cases hb : nameB s
  · rw [hb] at hN
    clear hb hE
    go_enter Tryd.func24, Tryd.ntmps24
    go_wp2_with fail
    refine (hN.out _).mono ?_
    rintro e w1 ⟨rfl, rfl⟩
    go_wp2
    go_ret
    exact ⟨rfl, S.out.bel⟩
  · rw [hb] at hN
    clear hb
    by_cases h64 : n ≤ 64
    · rw [decide_eq_true h64]
      have g : (n : Int) ≤ 64 := by omega
      clear h64
      go_enter Tryd.func24, Tryd.ntmps24
      go_wp2_with fail
      refine (hN.out _).mono ?_
      rintro e w1 ⟨rfl, rfl⟩
      go_wp2_with fail
      refine (hE.out _ S.out.bel).mono ?_
      rintro e w2 ⟨rfl, bb⟩
      have B := Lib.hid (S.out.bel.trans (bb.mono S.out.bel.size))
      clear bb S
      go_wp2
      go_ret
      exact ⟨by first | rfl | (simp; done), B.out⟩
    · rw [decide_eq_false h64]
      have g : ¬ (n : Int) ≤ 64 := by omega
      clear h64 hE
      go_enter Tryd.func24, Tryd.ntmps24
      go_wp2_with fail
      refine (hN.out _).mono ?_
      rintro e w1 ⟨rfl, rfl⟩
      go_wp2
      go_ret
      exact ⟨by first | rfl | (simp; done), S.out.bel⟩
end Go.Proofs.YthbkdjbmkhmlnaaDoor
namespace Go.Proofs.YthbkdjbmkhmlnaaDoor
open Go.RowKit
set_option linter.unusedVariables false

theorem bel_cell {w W : World} (h : Below w.heap.size w W) {a : Addr} {v : Value} (hc : w.cell? a = some v) : W.cell? a = some v := by
  have hlt : a.block < w.heap.size := by
    rcases Nat.lt_or_ge a.block w.heap.size with h1 | h1
    · exact h1
    · rw [World.cell?, Array.getElem?_eq_none h1] at hc
      cases hc
  rw [World.cell?_of_block (w := w) (h.block _ hlt)]; exact hc
theorem noLf (s : ByteArray) (A : Option Addr) (n c : Nat) : NoL #[.string s, .slice A n c] := by
  intro i z; match i with
  | 0 => simp
  | 1 => simp
  | k + 2 => simp
theorem frm_ref {s : ByteArray} {L : List Nd} : frmB s L = (nameB s && decide (1 ≤ L.length) && decide (L.length ≤ 64) && decide (endB 1 L 0 = (L.length : Int)) && L.all fldB) := by
  unfold frmB
  rw [exc_end L 1 0 (by decide), Nat.zero_add]
  cases L with
  | nil => cases nameB s <;> simp [endB]
  | cons a l => rw [decide_eq_true (show 1 ≤ (a :: l).length by rw [List.length_cons]; omega)]; cases nameB s <;> simp [Bool.and_assoc]

set_option maxRecDepth 100000 in
set_option maxHeartbeats 4000000 in
theorem rvalid_any (s : ByteArray) (L : List Nd) (A : Option Addr) (n c : Nat) (w : World) (h : LR ndC w A n L) (hn : n ≤ 100000) : Calls Tryd.prog 16 #[.agg #[.string s, .slice A n c]] w fun e w' => e = .returned (.bool (frmB s L)) ∧ Below w.heap.size w w' := by
  have hN := Lib.hid (fun W => rName_any s W)
  have hE0 : Hid (∀ W, Below w.heap.size w W → Calls Tryd.prog 41 #[.slice A n c, .int .i64 0] W fun e w' => e = .returned (.int .i64 (endB 1 L 0)) ∧ w' = W) := Lib.hid fun W hW => end_any L A n c 0 W (h.bel hW) hn (Nat.zero_le _)
  have hlen := Lib.hid h.len
  have hb := Lib.hid hn
  rw [frm_ref, hlen.out]
  obtain ⟨nv, hnv⟩ : ∃ z, z = L.all fldB := ⟨_, rfl⟩
  rw [← hnv]
  replace hnv := Lib.hid hnv
  replace h := Lib.hid h
  clear hn
  have hE := hE0
  clear hE0
  generalize hzz0 : endB 1 L 0 = z at *
  clear hzz0
  cases hbn : nameB s
  · rw [hbn] at hN
    clear hbn hE hnv
    go_enter Tryd.func16, Tryd.ntmps16
    go_upto_region 1 with fail
    have S1 := Lib.hid ((St.new w).allocAt w.heap.size #[.string s, .slice A n c] 24 (noLf s A n c) rfl)
    have c_x0 := S1.out.cl 0 0 rfl rfl
    have c_x1 := S1.out.cl 0 1 rfl rfl
    have hzz := S1.out.lt 0 rfl
    generalize hW1 : (w.alloc (.cells #[.string s, .slice A n c] 24)) = W1 at *
    clear hW1
    have hbase := Lib.hid (St.new W1)
    refine RW.begin (Z := []) (S := (fun W => Below W1.heap.size W1 W)) (by kernel_rfl) ?_ hbase.out ?_
    · exact ⟨by kernel_rfl, zis_nil, by decide, by decide, nol_nil, (fun _ _ h => h.bel)⟩
    intro hzk
    refine RW.t (i := 0) (v := .pointer (some ⟨w.heap.size, 0, none⟩)) (some 4) at0 (hy := fun _ _ => by go_simp) (h := ?_)
    refine RW.t (i := 1) (v := .string s) (some 5) at1 (hy := fun W hS => by (have k0 := bel_cell hS c_x0; clear hS; go_simp)) (h := ?_)
    refine RW.c (i := 2) (args := #[.string s]) (some 6) hzk.out at2 (hx := fun _ => by kernel_rfl) (h := fun _ S => (hN.out _).mono ?_)
    rintro e w7 ⟨rfl, rfl⟩
    refine ⟨Below.refl _ _, _, [], rfl, rd_nil, ?_⟩
    clear S
    refine RW.t (i := 3) (v := .bool true) (some 7) at3 (hy := fun _ _ => by kernel_rfl) (h := ?_)
    refine RW.t (i := 4) (v := .bool true) (some 8) at4 (hy := fun _ _ => by kernel_rfl) (h := ?_)
    refine RW.u (i := 5) (some 9) at5 (h := ?_)
    refine RW.u (i := 6) (some 10) at6 (h := ?_)
    refine RW.u (i := 7) (some 11) at7 (h := ?_)
    refine RW.u (i := 8) (some 12) at8 (h := ?_)
    refine RW.t (i := 9) (v := .bool true) (some 13) at9 (hy := fun _ _ => by kernel_rfl) (h := ?_)
    refine RW.t (i := 10) (v := .bool true) (some 14) at10 (hy := fun _ _ => by kernel_rfl) (h := ?_)
    refine RW.u (i := 11) (some 15) at11 (h := ?_)
    refine RW.u (i := 12) (some 16) at12 (h := ?_)
    refine RW.u (i := 13) (some 17) at13 (h := ?_)
    refine RW.u (i := 14) (some 18) at14 (h := ?_)
    refine RW.t (i := 15) (v := .bool true) (some 19) at15 (hy := fun _ _ => by kernel_rfl) (h := ?_)
    refine RW.t (i := 16) (v := .bool true) (some 20) at16 (hy := fun _ _ => by kernel_rfl) (h := ?_)
    refine RW.u (i := 17) (some 21) at17 (h := ?_)
    refine RW.u (i := 18) (some 22) at18 (h := ?_)
    refine RW.u (i := 19) (some 23) at19 (h := ?_)
    refine RW.u (i := 20) (some 24) at20 (h := ?_)
    refine RW.u (i := 21) (some 25) at21 (h := ?_)
    refine RW.u (i := 22) (some 26) at22 (h := ?_)
    refine RW.u (i := 23) (some 27) at23 (h := ?_)
    refine RW.t (i := 24) (v := .bool true) (some 28) at24 (hy := fun _ _ => by kernel_rfl) (h := ?_)
    refine RW.tail hzk.out (by kernel_rfl) ?_
    intro gs' w5 hgs' hS Sb
    obtain rfl := len0 hgs'
    simp only [mark, fill, Act.put, List.setIfInBounds_toArray, List.set_cons_zero, List.set_cons_succ]
    refine Wk.done (by kernel_rfl) ?_
    have S5 := Lib.hid (S1.out.call hS)
    clear Sb hgs' hzk hbase hS
    try go_simp
    go_wp2
    go_ret
    exact ⟨by first | rfl | (simp; done), S5.out.bel⟩
  · rw [hbn] at hN
    clear hbn
    by_cases h1 : 1 ≤ n
    · rw [decide_eq_true h1]
      by_cases h64 : n ≤ 64
      · rw [decide_eq_true h64]
        have g1 : ¬ (n : Int) < 1 := by omega
        have g2 : ¬ 64 < (n : Int) := by omega
        clear h1 h64
        by_cases hz : z = (n : Int)
        · rw [decide_eq_true hz]
          have g3 : (z == (n : Int)) = true := by rw [beq_iff_eq]; exact hz
          replace hz := Lib.hid hz
          go_enter Tryd.func16, Tryd.ntmps16
          go_upto_region 1 with fail
          have S1 := Lib.hid ((St.new w).allocAt w.heap.size #[.string s, .slice A n c] 24 (noLf s A n c) rfl)
          have c_x0 := S1.out.cl 0 0 rfl rfl
          have c_x1 := S1.out.cl 0 1 rfl rfl
          have hzz := S1.out.lt 0 rfl
          generalize hW1 : (w.alloc (.cells #[.string s, .slice A n c] 24)) = W1 at *
          clear hW1
          replace hE : Hid (∀ W, Below W1.heap.size W1 W → _) := Lib.hid fun W hW => hE.out W (S1.out.bel.trans (hW.mono S1.out.bel.size))
          have hbase := Lib.hid (St.new W1)
          refine RW.begin (Z := []) (S := (fun W => Below W1.heap.size W1 W)) (by kernel_rfl) ?_ hbase.out ?_
          · exact ⟨by kernel_rfl, zis_nil, by decide, by decide, nol_nil, (fun _ _ h => h.bel)⟩
          intro hzk
          refine RW.t (i := 0) (v := .pointer (some ⟨w.heap.size, 0, none⟩)) (some 4) at0 (hy := fun _ _ => by go_simp) (h := ?_)
          refine RW.t (i := 1) (v := .string s) (some 5) at1 (hy := fun W hS => by (have k0 := bel_cell hS c_x0; clear hS; go_simp)) (h := ?_)
          refine RW.c (i := 2) (args := #[.string s]) (some 6) hzk.out at2 (hx := fun _ => by kernel_rfl) (h := fun _ S => (hN.out _).mono ?_)
          rintro e w7 ⟨rfl, rfl⟩
          refine ⟨Below.refl _ _, _, [], rfl, rd_nil, ?_⟩
          clear S
          refine RW.t (i := 3) (v := .bool false) (some 7) at3 (hy := fun _ _ => by kernel_rfl) (h := ?_)
          refine RW.t (i := 4) (v := .bool false) (some 8) at4 (hy := fun _ _ => by kernel_rfl) (h := ?_)
          refine RW.t (i := 5) (v := .pointer (some ⟨w.heap.size, 1, none⟩)) (some 9) at5 (hy := fun _ _ => by go_simp) (h := ?_)
          refine RW.t (i := 6) (v := .slice A n c) (some 10) at6 (hy := fun W hS => by (have k0 := bel_cell hS c_x1; clear hS; go_simp)) (h := ?_)
          refine RW.t (i := 7) (v := .int .i64 n) (some 11) at7 (hy := fun _ _ => by go_simp) (h := ?_)
          refine RW.t (i := 8) (v := .bool false) (some 12) at8 (hy := fun _ _ => by go_simp) (h := ?_)
          refine RW.t (i := 9) (v := .bool false) (some 13) at9 (hy := fun _ _ => by kernel_rfl) (h := ?_)
          refine RW.t (i := 10) (v := .bool false) (some 14) at10 (hy := fun _ _ => by kernel_rfl) (h := ?_)
          refine RW.t (i := 11) (v := .pointer (some ⟨w.heap.size, 1, none⟩)) (some 15) at11 (hy := fun _ _ => by go_simp) (h := ?_)
          refine RW.t (i := 12) (v := .slice A n c) (some 16) at12 (hy := fun W hS => by (have k0 := bel_cell hS c_x1; clear hS; go_simp)) (h := ?_)
          refine RW.t (i := 13) (v := .int .i64 n) (some 17) at13 (hy := fun _ _ => by go_simp) (h := ?_)
          refine RW.t (i := 14) (v := .bool false) (some 18) at14 (hy := fun _ _ => by go_simp) (h := ?_)
          refine RW.t (i := 15) (v := .bool false) (some 19) at15 (hy := fun _ _ => by kernel_rfl) (h := ?_)
          refine RW.t (i := 16) (v := .bool false) (some 20) at16 (hy := fun _ _ => by kernel_rfl) (h := ?_)
          refine RW.t (i := 17) (v := .pointer (some ⟨w.heap.size, 1, none⟩)) (some 21) at17 (hy := fun _ _ => by go_simp) (h := ?_)
          refine RW.t (i := 18) (v := .slice A n c) (some 22) at18 (hy := fun W hS => by (have k0 := bel_cell hS c_x1; clear hS; go_simp)) (h := ?_)
          refine RW.t (i := 20) (v := .pointer (some ⟨w.heap.size, 1, none⟩)) (some 24) at20 (hy := fun _ _ => by go_simp) (h := ?_)
          refine RW.t (i := 21) (v := .slice A n c) (some 25) at21 (hy := fun W hS => by (have k0 := bel_cell hS c_x1; clear hS; go_simp)) (h := ?_)
          refine RW.t (i := 22) (v := .int .i64 n) (some 26) at22 (hy := fun _ _ => by go_simp) (h := ?_)
          refine RW.c (i := 19) (args := #[.slice A n c, .int .i64 0]) (some 23) hzk.out at19 (hx := fun _ => by kernel_rfl) (h := fun W S => (hE.out W S.bel).mono ?_)
          rintro e w7 ⟨rfl, rfl⟩
          refine ⟨Below.refl _ _, _, [], rfl, rd_nil, ?_⟩
          clear S
          refine RW.t (i := 23) (v := .bool false) (some 27) at23 (hy := fun _ _ => by (go_simp; exact hz.out)) (h := ?_)
          refine RW.t (i := 24) (v := .bool false) (some 28) at24 (hy := fun _ _ => by kernel_rfl) (h := ?_)
          refine RW.tail hzk.out (by kernel_rfl) ?_
          intro gs' w5 hgs' hS Sb
          obtain rfl := len0 hgs'
          simp only [mark, fill, Act.put, List.setIfInBounds_toArray, List.set_cons_zero, List.set_cons_succ]
          refine Wk.done (by kernel_rfl) ?_
          have S5 := Lib.hid (S1.out.call hS)
          clear Sb hgs' hzk hbase hS
          try go_simp
          go_wp2
          go_loopw [3] (fun iv wr => ∃ i : Nat, i ≤ n ∧ iv = .int .i64 i ∧ St w wr [(w.heap.size, #[.string s, .slice A n c], 24)] [] ∧ (L.take i).all fldB = true) (fun iv _ => n - (intOf iv).toNat)
          case atStart => exact ⟨0, Nat.zero_le _, rfl, S5.out, rfl⟩
          case round =>
            obtain ⟨i, hin, rfl, S, hall⟩ := hrel
            by_cases hlt : i < n
            · obtain ⟨b, o, x, rfl, hx, hxm, e0, e1, e2⟩ := nd_get (h.out.bel S.bel) hlt
              have hih := Lib.hid hlt
              have g5 : (i : Int) < (n : Int) := by omega
              have g6 : (0 : Int) ≤ (i : Int) := by omega
              have hM := Lib.hid (fun W => rnode_any x W)
              have hyi : Hid (fldB x = true → (L.take (i + 1)).all fldB = true) := Lib.hid fun h1 => by
                rw [List.take_add_one, hx, List.all_append, hall]; simp [h1]
              have hni : Hid (fldB x = false → L.all fldB = false) := Lib.hid fun h1 => List.all_eq_false.2 ⟨x, hxm, by rw [h1]; simp⟩
              have c_x0 := S.cl 0 0 rfl rfl
              have c_x1 := S.cl 0 1 rfl rfl
              have hz1 := S.lt 0 rfl
              replace S := Lib.hid S
              clear hlt hin hx hxm hall
              go_wp2_with fail
              refine (hM.out _).mono ?_
              rintro e w2 ⟨rfl, bb⟩
              have T := Lib.hid (S.out.call bb)
              clear bb S hM c_x0 c_x1 e0 e1 e2 hz1
              cases hv : fldB x
              · have hfi := hni.out hv
                replace hv := Lib.hid hv
                rw [hfi] at hnv
                have hnn := hnv.out
                subst hnn
                go_wp2
                go_ret
                exact ⟨by first | rfl | (simp; done), T.out.bel⟩
              · have hlt := hih.out
                have hbb := hb.out
                have hy := Lib.hid (hyi.out hv)
                replace hv := Lib.hid hv
                go_wp2
                go_roundw
                case rel => exact ⟨i + 1, by omega, by go_num, T.out, hy.out⟩
                case measure => simp [intOf]; omega
            · obtain rfl : i = n := by omega
              have hfi : nv = true := by rw [hnv.out, ← hall, List.take_of_length_le (by rw [hlen.out]; exact Nat.le_refl _)]
              have c_x0 := S.cl 0 0 rfl rfl
              have c_x1 := S.cl 0 1 rfl rfl
              have hz1 := S.lt 0 rfl
              replace S := Lib.hid S
              clear hall hin hlt
              subst hfi
              go_wp2
              go_ret
              exact ⟨by first | rfl | (simp; done), S.out.bel⟩
        · rw [decide_eq_false hz]
          have g3 : (z == (n : Int)) = false := by rw [beq_eq_false_iff_ne]; exact hz
          replace hz := Lib.hid hz
          clear hnv
          go_enter Tryd.func16, Tryd.ntmps16
          go_upto_region 1 with fail
          have S1 := Lib.hid ((St.new w).allocAt w.heap.size #[.string s, .slice A n c] 24 (noLf s A n c) rfl)
          have c_x0 := S1.out.cl 0 0 rfl rfl
          have c_x1 := S1.out.cl 0 1 rfl rfl
          have hzz := S1.out.lt 0 rfl
          generalize hW1 : (w.alloc (.cells #[.string s, .slice A n c] 24)) = W1 at *
          clear hW1
          replace hE : Hid (∀ W, Below W1.heap.size W1 W → _) := Lib.hid fun W hW => hE.out W (S1.out.bel.trans (hW.mono S1.out.bel.size))
          have hbase := Lib.hid (St.new W1)
          refine RW.begin (Z := []) (S := (fun W => Below W1.heap.size W1 W)) (by kernel_rfl) ?_ hbase.out ?_
          · exact ⟨by kernel_rfl, zis_nil, by decide, by decide, nol_nil, (fun _ _ h => h.bel)⟩
          intro hzk
          refine RW.t (i := 0) (v := .pointer (some ⟨w.heap.size, 0, none⟩)) (some 4) at0 (hy := fun _ _ => by go_simp) (h := ?_)
          refine RW.t (i := 1) (v := .string s) (some 5) at1 (hy := fun W hS => by (have k0 := bel_cell hS c_x0; clear hS; go_simp)) (h := ?_)
          refine RW.c (i := 2) (args := #[.string s]) (some 6) hzk.out at2 (hx := fun _ => by kernel_rfl) (h := fun _ S => (hN.out _).mono ?_)
          rintro e w7 ⟨rfl, rfl⟩
          refine ⟨Below.refl _ _, _, [], rfl, rd_nil, ?_⟩
          clear S
          refine RW.t (i := 3) (v := .bool false) (some 7) at3 (hy := fun _ _ => by kernel_rfl) (h := ?_)
          refine RW.t (i := 4) (v := .bool false) (some 8) at4 (hy := fun _ _ => by kernel_rfl) (h := ?_)
          refine RW.t (i := 5) (v := .pointer (some ⟨w.heap.size, 1, none⟩)) (some 9) at5 (hy := fun _ _ => by go_simp) (h := ?_)
          refine RW.t (i := 6) (v := .slice A n c) (some 10) at6 (hy := fun W hS => by (have k0 := bel_cell hS c_x1; clear hS; go_simp)) (h := ?_)
          refine RW.t (i := 7) (v := .int .i64 n) (some 11) at7 (hy := fun _ _ => by go_simp) (h := ?_)
          refine RW.t (i := 8) (v := .bool false) (some 12) at8 (hy := fun _ _ => by go_simp) (h := ?_)
          refine RW.t (i := 9) (v := .bool false) (some 13) at9 (hy := fun _ _ => by kernel_rfl) (h := ?_)
          refine RW.t (i := 10) (v := .bool false) (some 14) at10 (hy := fun _ _ => by kernel_rfl) (h := ?_)
          refine RW.t (i := 11) (v := .pointer (some ⟨w.heap.size, 1, none⟩)) (some 15) at11 (hy := fun _ _ => by go_simp) (h := ?_)
          refine RW.t (i := 12) (v := .slice A n c) (some 16) at12 (hy := fun W hS => by (have k0 := bel_cell hS c_x1; clear hS; go_simp)) (h := ?_)
          refine RW.t (i := 13) (v := .int .i64 n) (some 17) at13 (hy := fun _ _ => by go_simp) (h := ?_)
          refine RW.t (i := 14) (v := .bool false) (some 18) at14 (hy := fun _ _ => by go_simp) (h := ?_)
          refine RW.t (i := 15) (v := .bool false) (some 19) at15 (hy := fun _ _ => by kernel_rfl) (h := ?_)
          refine RW.t (i := 16) (v := .bool false) (some 20) at16 (hy := fun _ _ => by kernel_rfl) (h := ?_)
          refine RW.t (i := 17) (v := .pointer (some ⟨w.heap.size, 1, none⟩)) (some 21) at17 (hy := fun _ _ => by go_simp) (h := ?_)
          refine RW.t (i := 18) (v := .slice A n c) (some 22) at18 (hy := fun W hS => by (have k0 := bel_cell hS c_x1; clear hS; go_simp)) (h := ?_)
          refine RW.t (i := 20) (v := .pointer (some ⟨w.heap.size, 1, none⟩)) (some 24) at20 (hy := fun _ _ => by go_simp) (h := ?_)
          refine RW.t (i := 21) (v := .slice A n c) (some 25) at21 (hy := fun W hS => by (have k0 := bel_cell hS c_x1; clear hS; go_simp)) (h := ?_)
          refine RW.t (i := 22) (v := .int .i64 n) (some 26) at22 (hy := fun _ _ => by go_simp) (h := ?_)
          refine RW.c (i := 19) (args := #[.slice A n c, .int .i64 0]) (some 23) hzk.out at19 (hx := fun _ => by kernel_rfl) (h := fun W S => (hE.out W S.bel).mono ?_)
          rintro e w7 ⟨rfl, rfl⟩
          refine ⟨Below.refl _ _, _, [], rfl, rd_nil, ?_⟩
          clear S
          refine RW.t (i := 23) (v := .bool true) (some 27) at23 (hy := fun _ _ => by (go_simp; exact hz.out)) (h := ?_)
          refine RW.t (i := 24) (v := .bool true) (some 28) at24 (hy := fun _ _ => by kernel_rfl) (h := ?_)
          refine RW.tail hzk.out (by kernel_rfl) ?_
          intro gs' w5 hgs' hS Sb
          obtain rfl := len0 hgs'
          simp only [mark, fill, Act.put, List.setIfInBounds_toArray, List.set_cons_zero, List.set_cons_succ]
          refine Wk.done (by kernel_rfl) ?_
          have S5 := Lib.hid (S1.out.call hS)
          clear Sb hgs' hzk hbase hS
          try go_simp
          go_wp2
          go_ret
          exact ⟨by first | rfl | (simp; done), S5.out.bel⟩
      · rw [decide_eq_false h64]
        have g1 : ¬ (n : Int) < 1 := by omega
        have g2 : 64 < (n : Int) := by omega
        clear h1 h64 hE hnv
        go_enter Tryd.func16, Tryd.ntmps16
        go_upto_region 1 with fail
        have S1 := Lib.hid ((St.new w).allocAt w.heap.size #[.string s, .slice A n c] 24 (noLf s A n c) rfl)
        have c_x0 := S1.out.cl 0 0 rfl rfl
        have c_x1 := S1.out.cl 0 1 rfl rfl
        have hzz := S1.out.lt 0 rfl
        generalize hW1 : (w.alloc (.cells #[.string s, .slice A n c] 24)) = W1 at *
        clear hW1
        have hbase := Lib.hid (St.new W1)
        refine RW.begin (Z := []) (S := (fun W => Below W1.heap.size W1 W)) (by kernel_rfl) ?_ hbase.out ?_
        · exact ⟨by kernel_rfl, zis_nil, by decide, by decide, nol_nil, (fun _ _ h => h.bel)⟩
        intro hzk
        refine RW.t (i := 0) (v := .pointer (some ⟨w.heap.size, 0, none⟩)) (some 4) at0 (hy := fun _ _ => by go_simp) (h := ?_)
        refine RW.t (i := 1) (v := .string s) (some 5) at1 (hy := fun W hS => by (have k0 := bel_cell hS c_x0; clear hS; go_simp)) (h := ?_)
        refine RW.c (i := 2) (args := #[.string s]) (some 6) hzk.out at2 (hx := fun _ => by kernel_rfl) (h := fun _ S => (hN.out _).mono ?_)
        rintro e w7 ⟨rfl, rfl⟩
        refine ⟨Below.refl _ _, _, [], rfl, rd_nil, ?_⟩
        clear S
        refine RW.t (i := 3) (v := .bool false) (some 7) at3 (hy := fun _ _ => by kernel_rfl) (h := ?_)
        refine RW.t (i := 4) (v := .bool false) (some 8) at4 (hy := fun _ _ => by kernel_rfl) (h := ?_)
        refine RW.t (i := 5) (v := .pointer (some ⟨w.heap.size, 1, none⟩)) (some 9) at5 (hy := fun _ _ => by go_simp) (h := ?_)
        refine RW.t (i := 6) (v := .slice A n c) (some 10) at6 (hy := fun W hS => by (have k0 := bel_cell hS c_x1; clear hS; go_simp)) (h := ?_)
        refine RW.t (i := 7) (v := .int .i64 n) (some 11) at7 (hy := fun _ _ => by go_simp) (h := ?_)
        refine RW.t (i := 8) (v := .bool false) (some 12) at8 (hy := fun _ _ => by go_simp) (h := ?_)
        refine RW.t (i := 9) (v := .bool false) (some 13) at9 (hy := fun _ _ => by kernel_rfl) (h := ?_)
        refine RW.t (i := 10) (v := .bool false) (some 14) at10 (hy := fun _ _ => by kernel_rfl) (h := ?_)
        refine RW.t (i := 11) (v := .pointer (some ⟨w.heap.size, 1, none⟩)) (some 15) at11 (hy := fun _ _ => by go_simp) (h := ?_)
        refine RW.t (i := 12) (v := .slice A n c) (some 16) at12 (hy := fun W hS => by (have k0 := bel_cell hS c_x1; clear hS; go_simp)) (h := ?_)
        refine RW.t (i := 13) (v := .int .i64 n) (some 17) at13 (hy := fun _ _ => by go_simp) (h := ?_)
        refine RW.t (i := 14) (v := .bool true) (some 18) at14 (hy := fun _ _ => by go_simp) (h := ?_)
        refine RW.t (i := 15) (v := .bool true) (some 19) at15 (hy := fun _ _ => by kernel_rfl) (h := ?_)
        refine RW.t (i := 16) (v := .bool true) (some 20) at16 (hy := fun _ _ => by kernel_rfl) (h := ?_)
        refine RW.u (i := 17) (some 21) at17 (h := ?_)
        refine RW.u (i := 18) (some 22) at18 (h := ?_)
        refine RW.u (i := 19) (some 23) at19 (h := ?_)
        refine RW.u (i := 20) (some 24) at20 (h := ?_)
        refine RW.u (i := 21) (some 25) at21 (h := ?_)
        refine RW.u (i := 22) (some 26) at22 (h := ?_)
        refine RW.u (i := 23) (some 27) at23 (h := ?_)
        refine RW.t (i := 24) (v := .bool true) (some 28) at24 (hy := fun _ _ => by kernel_rfl) (h := ?_)
        refine RW.tail hzk.out (by kernel_rfl) ?_
        intro gs' w5 hgs' hS Sb
        obtain rfl := len0 hgs'
        simp only [mark, fill, Act.put, List.setIfInBounds_toArray, List.set_cons_zero, List.set_cons_succ]
        refine Wk.done (by kernel_rfl) ?_
        have S5 := Lib.hid (S1.out.call hS)
        clear Sb hgs' hzk hbase hS
        try go_simp
        go_wp2
        go_ret
        exact ⟨by first | rfl | (simp; done), S5.out.bel⟩
    · rw [decide_eq_false h1]
      have g1 : (n : Int) < 1 := by omega
      clear h1 hE hnv
      go_enter Tryd.func16, Tryd.ntmps16
      go_upto_region 1 with fail
      have S1 := Lib.hid ((St.new w).allocAt w.heap.size #[.string s, .slice A n c] 24 (noLf s A n c) rfl)
      have c_x0 := S1.out.cl 0 0 rfl rfl
      have c_x1 := S1.out.cl 0 1 rfl rfl
      have hzz := S1.out.lt 0 rfl
      generalize hW1 : (w.alloc (.cells #[.string s, .slice A n c] 24)) = W1 at *
      clear hW1
      have hbase := Lib.hid (St.new W1)
      refine RW.begin (Z := []) (S := (fun W => Below W1.heap.size W1 W)) (by kernel_rfl) ?_ hbase.out ?_
      · exact ⟨by kernel_rfl, zis_nil, by decide, by decide, nol_nil, (fun _ _ h => h.bel)⟩
      intro hzk
      refine RW.t (i := 0) (v := .pointer (some ⟨w.heap.size, 0, none⟩)) (some 4) at0 (hy := fun _ _ => by go_simp) (h := ?_)
      refine RW.t (i := 1) (v := .string s) (some 5) at1 (hy := fun W hS => by (have k0 := bel_cell hS c_x0; clear hS; go_simp)) (h := ?_)
      refine RW.c (i := 2) (args := #[.string s]) (some 6) hzk.out at2 (hx := fun _ => by kernel_rfl) (h := fun _ S => (hN.out _).mono ?_)
      rintro e w7 ⟨rfl, rfl⟩
      refine ⟨Below.refl _ _, _, [], rfl, rd_nil, ?_⟩
      clear S
      refine RW.t (i := 3) (v := .bool false) (some 7) at3 (hy := fun _ _ => by kernel_rfl) (h := ?_)
      refine RW.t (i := 4) (v := .bool false) (some 8) at4 (hy := fun _ _ => by kernel_rfl) (h := ?_)
      refine RW.t (i := 5) (v := .pointer (some ⟨w.heap.size, 1, none⟩)) (some 9) at5 (hy := fun _ _ => by go_simp) (h := ?_)
      refine RW.t (i := 6) (v := .slice A n c) (some 10) at6 (hy := fun W hS => by (have k0 := bel_cell hS c_x1; clear hS; go_simp)) (h := ?_)
      refine RW.t (i := 7) (v := .int .i64 n) (some 11) at7 (hy := fun _ _ => by go_simp) (h := ?_)
      refine RW.t (i := 8) (v := .bool true) (some 12) at8 (hy := fun _ _ => by go_simp) (h := ?_)
      refine RW.t (i := 9) (v := .bool true) (some 13) at9 (hy := fun _ _ => by kernel_rfl) (h := ?_)
      refine RW.t (i := 10) (v := .bool true) (some 14) at10 (hy := fun _ _ => by kernel_rfl) (h := ?_)
      refine RW.u (i := 11) (some 15) at11 (h := ?_)
      refine RW.u (i := 12) (some 16) at12 (h := ?_)
      refine RW.u (i := 13) (some 17) at13 (h := ?_)
      refine RW.u (i := 14) (some 18) at14 (h := ?_)
      refine RW.t (i := 15) (v := .bool true) (some 19) at15 (hy := fun _ _ => by kernel_rfl) (h := ?_)
      refine RW.t (i := 16) (v := .bool true) (some 20) at16 (hy := fun _ _ => by kernel_rfl) (h := ?_)
      refine RW.u (i := 17) (some 21) at17 (h := ?_)
      refine RW.u (i := 18) (some 22) at18 (h := ?_)
      refine RW.u (i := 19) (some 23) at19 (h := ?_)
      refine RW.u (i := 20) (some 24) at20 (h := ?_)
      refine RW.u (i := 21) (some 25) at21 (h := ?_)
      refine RW.u (i := 22) (some 26) at22 (h := ?_)
      refine RW.u (i := 23) (some 27) at23 (h := ?_)
      refine RW.t (i := 24) (v := .bool true) (some 28) at24 (hy := fun _ _ => by kernel_rfl) (h := ?_)
      refine RW.tail hzk.out (by kernel_rfl) ?_
      intro gs' w5 hgs' hS Sb
      obtain rfl := len0 hgs'
      simp only [mark, fill, Act.put, List.setIfInBounds_toArray, List.set_cons_zero, List.set_cons_succ]
      refine Wk.done (by kernel_rfl) ?_
      have S5 := Lib.hid (S1.out.call hS)
      clear Sb hgs' hzk hbase hS
      try go_simp
      go_wp2
      go_ret
      exact ⟨by first | rfl | (simp; done), S5.out.bel⟩
end Go.Proofs.YthbkdjbmkhmlnaaDoor
namespace Go.Proofs.YthbkdjbmkhmlnaaDoor
open Go.RowKit
set_option linter.unusedVariables false

/-- Is a formula light? -/
def litB (s : ByteArray) (L : List Nd) : Bool := decide (s.size ≤ 60) && decide (L.length ≤ 80) && L.all (fun x => decide (x.s.size ≤ 60))
/-- How tight an operation is. -/
def rnkB (o : Int) : Int := if o = 5 ∨ o = 6 then 1 else if o = 8 ∨ o = 9 then 2 else if o = 7 then 3 else if o = 10 then 4 else 5
/-- A sign as it is written. -/
def sgnB (o : Int) : ByteArray := if o = 5 then ⟨#[32, 43, 32]⟩ else if o = 6 then ⟨#[32, 45, 32]⟩ else if o = 8 then ⟨#[32, 42, 32]⟩ else if o = 9 then ⟨#[32, 47, 32]⟩ else ⟨#[58]⟩
/-- The operation that a sign stands for, or 0. -/
def bopB (s : ByteArray) : Int := if s = ⟨#[43]⟩ then 5 else if s = ⟨#[45]⟩ then 6 else if s = ⟨#[58]⟩ then 7 else if s = ⟨#[42]⟩ then 8 else if s = ⟨#[47]⟩ then 9 else 0

end Go.Proofs.YthbkdjbmkhmlnaaDoor
namespace Go.Proofs.YthbkdjbmkhmlnaaDoor
open Go.RowKit
set_option linter.unusedVariables false

theorem str_is (s : ByteArray) (c : UInt8) : (s.toList == [c]) = decide (s = ⟨#[c]⟩) := by
  rw [Bool.eq_iff_iff, beq_iff_eq, decide_eq_true_eq, Lib.toList_data]
  constructor
  · intro h
    exact ByteArray.ext (by apply Array.ext'; simpa using h)
  · rintro rfl; rfl
theorem str_is' (s : ByteArray) (c : UInt8) : ([c] == s.toList) = decide (s = ⟨#[c]⟩) := by rw [Bool.beq_comm]; exact str_is s c

end Go.Proofs.YthbkdjbmkhmlnaaDoor
namespace Go.Proofs
open Go.Shelf

end Go.Proofs
namespace Go.Proofs
open Go.Shelf
def Tryd.laysM316_ren : Go.Shelf.Ren := ⟨fun | 316 => 87 | n => n, fun | 9 => 9 | 3 => 3 | 4 => 4 | 37 => 129 | 0 => 0 | 127 => 130 | 5 => 5 | n => n, fun | n => n⟩
theorem Tryd.laysM316 : Go.Proofs.LaysM.n316 Tryd.prog Tryd.laysM316_ren := {
  mixed := by kernel_rfl
  f316 := Tryd.func87.trans (congrArg some (by kernel_rfl))
  t0 := Tryd.underlying0
  a0 := Tryd.isAgg0
  z0 := Tryd.sizeOf0
  v0 := Tryd.zeroValue0
  t3 := Tryd.underlying3
  a3 := Tryd.isAgg3
  z3 := Tryd.sizeOf3
  v3 := Tryd.zeroValue3
  t4 := Tryd.underlying4
  a4 := Tryd.isAgg4
  z4 := Tryd.sizeOf4
  v4 := Tryd.zeroValue4
  t9 := Tryd.underlying9
  a9 := Tryd.isAgg9
  z9 := Tryd.sizeOf9
  v9 := Tryd.zeroValue9
  t37 := Tryd.underlying129
  a37 := Tryd.isAgg129
  z37 := Tryd.sizeOf129
  v37 := Tryd.zeroValue129
  t127 := Tryd.underlying130
  a127 := Tryd.isAgg130
  z127 := Tryd.sizeOf130
  v127 := Tryd.zeroValue130
  t5 := Tryd.underlying5
  a5 := Tryd.isAgg5
  z5 := Tryd.sizeOf5
  v5 := Tryd.zeroValue5
  i0 := by kernel_rfl
  i3 := by kernel_rfl
  i4 := by kernel_rfl
  i5 := by kernel_rfl
  i9 := by kernel_rfl
  i37 := by kernel_rfl
  i127 := by kernel_rfl }
open Go.RowKit in
theorem Tryd.stringslite_Clone (s : ByteArray) (w : World) (hlim : s.size ≤ 281474976710656) :
    Calls Tryd.prog 87 #[.string s] w fun e w' => e = .returned (.string s) ∧ Below w.heap.size w w' := Any.stringslite_Clone Tryd.laysM316 s w hlim
end Go.Proofs
namespace Go.Proofs.YthbkdjbmkhmlnaaDoor
open Go.RowKit
set_option linter.unusedVariables false

/-- What is left of a text when the characters of a set are passed. -/
def pasB (C s : ByteArray) : ByteArray := ⟨(Lib.trimLeftS s.data.toList C.data.toList).toArray⟩
def lettersB : ByteArray := ⟨#[97, 98, 99, 100, 101, 102, 103, 104, 105, 106, 107, 108, 109, 110, 111, 112, 113, 114, 115, 116, 117, 118, 119, 120, 121, 122, 65, 66, 67, 68, 69, 70, 71, 72, 73, 74, 75, 76, 77, 78, 79, 80, 81, 82, 83, 84, 85, 86, 87, 88, 89, 90]⟩
def digitsB : ByteArray := ⟨#[48, 49, 50, 51, 52, 53, 54, 55, 56, 57]⟩
def innerB : ByteArray := ⟨#[97, 98, 99, 100, 101, 102, 103, 104, 105, 106, 107, 108, 109, 110, 111, 112, 113, 114, 115, 116, 117, 118, 119, 120, 121, 122, 65, 66, 67, 68, 69, 70, 71, 72, 73, 74, 75, 76, 77, 78, 79, 80, 81, 82, 83, 84, 85, 86, 87, 88, 89, 90, 48, 49, 50, 51, 52, 53, 54, 55, 56, 57, 95, 46]⟩
theorem all256 {p : UInt8 → Bool} (h : (List.range 256).all (fun n => p (UInt8.ofNat n)) = true) (c : UInt8) : p c = true := by
  have := List.all_eq_true.1 h c.toNat (List.mem_range.2 (UInt8.toNat_lt c))
  simpa using this
theorem ixb_has : ∀ (l : List UInt8) (c : UInt8), -1 ≤ Lib.indexByte l c ∧ decide (0 ≤ Lib.indexByte l c) = l.contains c
  | [], c => ⟨by unfold Lib.indexByte; omega, rfl⟩
  | b :: l, c => by
    obtain ⟨h1, h2⟩ := ixb_has l c
    unfold Lib.indexByte
    by_cases hb : b == c
    · rw [if_pos hb]
      refine ⟨by omega, ?_⟩
      have hbc : c = b := (beq_iff_eq.1 hb).symm
      subst hbc
      simp
    · rw [if_neg hb]
      have hne : (c == b) = false := by rw [Bool.beq_comm]; simpa using hb
      rw [List.contains_cons, hne, Bool.false_or, ← h2]
      by_cases hm : Lib.indexByte l c == -1
      · rw [if_pos hm]
        have := beq_iff_eq.1 hm
        rw [this]; exact ⟨by omega, rfl⟩
      · rw [if_neg hm]
        have hm2 : Lib.indexByte l c ≠ -1 := fun e => hm (beq_iff_eq.2 e)
        refine ⟨by omega, ?_⟩
        rw [Bool.eq_iff_iff, decide_eq_true_eq, decide_eq_true_eq]; omega
theorem hasLet (c : UInt8) : lettersB.data.toList.contains c = letB c := by
  have := all256 (p := fun c => lettersB.data.toList.contains c == letB c) (by kernel_rfl) c
  exact beq_iff_eq.1 this
theorem isLet (c : UInt8) : decide (0 ≤ Lib.indexByte lettersB.data.toList c) = letB c := by rw [(ixb_has _ _).2, hasLet]
theorem isDigit' (c : UInt8) : decide (0 ≤ Lib.indexByte digitsB.data.toList c) = digB c := by
  have := all256 (p := fun c => digitsB.data.toList.contains c == digB c) (by kernel_rfl) c
  rw [(ixb_has _ _).2]; exact beq_iff_eq.1 this
theorem inInner (c : UInt8) : innerB.data.toList.contains c = innB c := by
  have := all256 (p := fun c => innerB.data.toList.contains c == innB c) (by kernel_rfl) c
  exact beq_iff_eq.1 this
theorem inDigits (c : UInt8) : digitsB.data.toList.contains c = digB c := by
  have := all256 (p := fun c => digitsB.data.toList.contains c == digB c) (by kernel_rfl) c
  exact beq_iff_eq.1 this
/-- The first word of a text. -/
def fwL : List UInt8 → List UInt8
  | [] => []
  | c :: r => if letB c then (c :: r).takeWhile innB else if digB c then (c :: r).takeWhile digB else [c]
def fwB (s : ByteArray) : ByteArray := ⟨(fwL s.data.toList).toArray⟩
theorem pas_size (C s : ByteArray) : (pasB C s).size ≤ s.size := by
  have : (pasB C s).size = (Lib.trimLeftS s.data.toList C.data.toList).length := by unfold pasB; simp [ByteArray.size]
  rw [this, ← toList_len s]
  exact (List.dropWhile_sublist _).length_le
theorem fw_cut (C s : ByteArray) (p : UInt8 → Bool) (hp : ∀ c, C.data.toList.contains c = p c) : s.extract 0 (s.size - (pasB C s).size) = ⟨(s.data.toList.takeWhile p).toArray⟩ := by
  have h1 : (pasB C s).size = (s.data.toList.dropWhile p).length := by
    have e : (fun b => C.data.toList.contains b) = p := funext hp
    unfold pasB Lib.trimLeftS
    rw [e]; simp [ByteArray.size]
  have h2 := List.takeWhile_append_dropWhile (p := p) (l := s.data.toList)
  have h3 : s.data.toList.length = (s.data.toList.takeWhile p).length + (s.data.toList.dropWhile p).length := by rw [← List.length_append, h2]
  apply ByteArray.ext
  apply Array.ext'
  rw [Lib.extract_data, h1, ← toList_len s, h3, List.drop_zero]
  have h4 : (s.data.toList.takeWhile p).length + (s.data.toList.dropWhile p).length - (s.data.toList.dropWhile p).length - 0 = (s.data.toList.takeWhile p).length := by omega
  rw [h4]
  have h5 : List.take (s.data.toList.takeWhile p).length (s.data.toList.takeWhile p ++ s.data.toList.dropWhile p) = s.data.toList.takeWhile p := List.take_left
  rw [h2] at h5
  exact h5

theorem fw_cons {s : ByteArray} (h : 0 < s.size) : fwB s = if letB s[0] then ⟨(s.data.toList.takeWhile innB).toArray⟩ else if digB s[0] then ⟨(s.data.toList.takeWhile digB).toArray⟩ else ⟨[s[0]].toArray⟩ := by
  have e : s.data.toList = s[0] :: s.data.toList.drop 1 := by
    have := drop_one (toList_get h)
    rwa [List.drop_zero] at this
  have e2 : fwL s.data.toList = if letB s[0] then s.data.toList.takeWhile innB else if digB s[0] then s.data.toList.takeWhile digB else [s[0]] := by
    generalize s[0] = c at *
    rw [e, fwL]
  unfold fwB
  rw [e2]
  split
  · rfl
  · split <;> rfl
theorem ext_first {s : ByteArray} (h : 0 < s.size) : s.extract 0 1 = ⟨[s[0]].toArray⟩ := by
  have e : s.data.toList = s[0] :: s.data.toList.drop 1 := by
    have := drop_one (toList_get h)
    rwa [List.drop_zero] at this
  apply ByteArray.ext
  apply Array.ext'
  rw [Lib.extract_data, List.drop_zero]
  generalize s[0] = c at *
  rw [e]
  rfl

end Go.Proofs.YthbkdjbmkhmlnaaDoor
namespace Go.Proofs.YthbkdjbmkhmlnaaDoor
open Go.RowKit
set_option linter.unusedVariables false

/-- The reader's cells: text, word, place, response, nodes, waiting. -/
abbrev rdC (t x : ByteArray) (p : Nat) (nm : ByteArray) (NA : Option Addr) (nn nc : Nat) (WA : Option Addr) (wn wc : Nat) : Array Value := #[.string t, .string x, .int .i64 p, .string nm, .slice NA nn nc, .slice WA wn wc]
/-- What is left behind the word, without its spaces. -/
def rsB (t : ByteArray) (q : Nat) : ByteArray := ⟨(Lib.trimLeftB (t.data.toList.drop q) 32).toArray⟩
theorem rs_size (t : ByteArray) (q : Nat) : (rsB t q).size ≤ t.size := by
  have : (rsB t q).size = (Lib.trimLeftB (t.data.toList.drop q) 32).length := by unfold rsB; simp [ByteArray.size]
  rw [this, ← toList_len t]
  unfold Lib.trimLeftB
  exact Nat.le_trans (List.dropWhile_sublist _).length_le (by rw [List.length_drop]; omega)
theorem rs_ext (t : ByteArray) (q : Nat) : (t.extract q t.size).data.toList = t.data.toList.drop q := by
  rw [Lib.extract_data, List.take_of_length_le]
  rw [List.length_drop, toList_len]
  exact Nat.le_refl _

end Go.Proofs.YthbkdjbmkhmlnaaDoor
namespace Go.Proofs.YthbkdjbmkhmlnaaDoor
open Go.RowKit
set_option linter.unusedVariables false

/-- The word behind a place, and its place. -/
def nwB (t : ByteArray) (q : Nat) : ByteArray := fwB (rsB t q)
def naN (t : ByteArray) (q : Nat) : Nat := t.size - (rsB t q).size
theorem fw_size (s : ByteArray) : (fwB s).size ≤ s.size := by
  have e : (fwB s).size = (fwL s.data.toList).length := by unfold fwB; simp [ByteArray.size]
  rw [e, ← toList_len s]
  generalize s.data.toList = l
  cases l with
  | nil => exact Nat.le_refl _
  | cons c r =>
    rw [fwL]
    split
    · exact (List.takeWhile_sublist _).length_le
    · split
      · exact (List.takeWhile_sublist _).length_le
      · simp
theorem nw_fits (t : ByteArray) (q : Nat) : naN t q + (nwB t q).size ≤ t.size := by
  have h1 := rs_size t q
  have h2 := fw_size (rsB t q)
  unfold naN nwB
  omega

set_option maxRecDepth 100000 in
set_option maxHeartbeats 4000000 in
theorem clone_any (s : ByteArray) (w : World) (hs : s.size ≤ 281474976710656) : Calls Tryd.prog 53 #[.string s] w fun e w' => e = .returned (.string s) ∧ Below w.heap.size w w' := by
  have hH := Lib.hid (fun W => Tryd.stringslite_Clone s W hs)
  go_enter Tryd.func53, Tryd.ntmps53
  go_wp2_with fail
  refine (hH.out _).mono ?_
  rintro e w' ⟨rfl, hb⟩
  replace hb := Lib.hid hb
  go_wp2
  go_ret
  exact ⟨rfl, hb.out⟩

end Go.Proofs.YthbkdjbmkhmlnaaDoor
