/- isNode at any node; node of the reference; what counts as an expression. -/
import Derived.Test.YtjebpmjbdchdlaaDoorM04
import Derived.Shelf.Strings.Trim
import Derived.Shelf.Small.Utf8
import Derived.Shelf.Small.Strs
import Derived.Shelf.Strconv.Itoa0
import Derived.Shelf.Strconv.Itoa1
import Derived.Shelf.LaysM
import Derived.Shelf.Strconv.Itoa2
import Derived.Shelf.Strconv.Itoa3
import Derived.Shelf.Strconv.Clone
import Derived.Shelf.Strings.Search1
import Derived.Shelf.Strings.Search2
import Derived.Shelf.Strings.Search3
import Derived.Shelf.Strings.Shaped
import Derived.Shelf.Strings.Runes
import Derived.Shelf.Strings.AsciiSet
import Derived.Shelf.Unicode.DecodeSlow
import Derived.Test.YtjebpmjbdchdlaaDoorProg
namespace Go.Proofs.YtjebpmjbdchdlaaDoor
open Go.RowKit
set_option linter.unusedVariables false

set_option maxRecDepth 100000 in
set_option maxHeartbeats 4000000 in
theorem isNode_any (x : Nd) (w : World) (hO : Og w) : Calls Tryd.prog 51 #[.agg #[.int .i64 x.o, .string x.s, .int .i64 x.k]] w fun e w' => e = .returned (.bool (nodB x)) ∧ Below w.heap.size w w' := by
  obtain ⟨o, s, k⟩ := x
  show Calls Tryd.prog 51 #[.agg #[.int .i64 o, .string s, .int .i64 k]] w fun e w' => e = .returned (.bool (nodB ⟨o, s, k⟩)) ∧ Below w.heap.size w w'
  unfold nodB
  dsimp only
  by_cases h1 : 1 ≤ o
  · by_cases h2 : o ≤ 10
    · rw [decide_eq_true h1, decide_eq_true h2, Bool.true_and, Bool.true_and]
      have hc : o = 1 ∨ o = 2 ∨ o = 3 ∨ o = 4 ∨ o = 5 ∨ o = 6 ∨ o = 7 ∨ o = 8 ∨ o = 9 ∨ o = 10 := by omega
      rcases hc with rfl | rfl | rfl | rfl | rfl | rfl | rfl | rfl | rfl | rfl
      · exact isNode_1 s k w hO
      · exact isNode_2 s k w hO
      · exact isNode_3 s k w hO
      · exact isNode_4 s k w hO
      · exact isNode_5 s k w hO
      · exact isNode_6 s k w hO
      · exact isNode_7 s k w hO
      · exact isNode_8 s k w hO
      · exact isNode_9 s k w hO
      · exact isNode_10 s k w hO
    · rw [decide_eq_false h2, Bool.and_false, Bool.false_and]
      clear hO
      have h3 : ¬ o < 1 := by omega
      have h4 : 11 ≤ o := by omega
      clear h1 h2
      go_enter Tryd.func51, Tryd.ntmps51
      go_wp2
      go_ret
      exact ⟨rfl, (Below.refl w.heap.size w).alloc (Nat.le_refl _) _⟩
  · rw [decide_eq_false h1, Bool.false_and, Bool.false_and]
    clear hO
    have h3 : o < 1 := by omega
    clear h1
    go_enter Tryd.func51, Tryd.ntmps51
    go_wp2
    go_ret
    exact ⟨rfl, (Below.refl w.heap.size w).alloc (Nat.le_refl _) _⟩

theorem fld1 {s : ByteArray} {k : Int} : fldB ⟨1, s, k⟩ = (nameB s && decide (0 ≤ k) && decide (k ≤ 0)) := rfl
theorem fld2 {s : ByteArray} {k : Int} : fldB ⟨2, s, k⟩ = (nameB s && decide (2 ≤ k) && decide (k ≤ 8)) := rfl
theorem fld10 {s : ByteArray} {k : Int} : fldB ⟨10, s, k⟩ = (s.toList.isEmpty && decide (1 ≤ k) && decide (k ≤ 6)) := rfl
theorem fldE {o : Int} {s : ByteArray} {k : Int} (h1 : ¬ o = 1) (h2 : ¬ o = 2) (h3 : ¬ o = 10) : fldB ⟨o, s, k⟩ = (s.toList.isEmpty && decide (0 ≤ k) && decide (k ≤ 0)) := by
  unfold fldB; dsimp only; rw [if_neg h1, if_neg h2, if_neg h3]

theorem two_dec (k : Int) : (decide (0 ≤ k) && decide (k ≤ 0)) = (k == 0) := by
  rw [Bool.eq_iff_iff, Bool.and_eq_true, decide_eq_true_eq, decide_eq_true_eq, beq_iff_eq]; omega

/-- Are these nodes so many expressions, one behind the other? -/
def excB (m : Int) : List Nd → Bool
  | [] => m == 0
  | n :: l => !(m == 0) && nodB n && excB (m + (ariB n.o - 1)) l
/-- The place behind so many expressions, or -1. -/
def endB (m : Int) : List Nd → Nat → Int
  | [], _ => -1
  | n :: l, i => if ariB n.o < 0 then -1 else if m + (ariB n.o - 1) = 0 then ((i + 1 : Nat) : Int) else endB (m + (ariB n.o - 1)) l (i + 1)
theorem ari_le (o : Int) : ariB o ≤ 2 ∧ -1 ≤ ariB o := by
  unfold ariB
  by_cases h1 : 1 ≤ o ∧ o ≤ 4
  · rw [if_pos h1]; omega
  · rw [if_neg h1]
    by_cases h2 : o = 10
    · rw [if_pos h2]; omega
    · rw [if_neg h2]
      by_cases h3 : 5 ≤ o ∧ o ≤ 9
      · rw [if_pos h3]; omega
      · rw [if_neg h3]; omega
theorem ari_nod (o : Int) : (0 ≤ ariB o) ↔ (1 ≤ o ∧ o ≤ 10) := by
  unfold ariB
  by_cases h1 : 1 ≤ o ∧ o ≤ 4
  · rw [if_pos h1]; omega
  · rw [if_neg h1]
    by_cases h2 : o = 10
    · rw [if_pos h2]; omega
    · rw [if_neg h2]
      by_cases h3 : 5 ≤ o ∧ o ≤ 9
      · rw [if_pos h3]; omega
      · rw [if_neg h3]; omega
theorem nod_ari (n : Nd) : nodB n = (decide (0 ≤ ariB n.o) && fldB n) := by
  unfold nodB
  congr 1
  rw [Bool.eq_iff_iff, Bool.and_eq_true, decide_eq_true_eq, decide_eq_true_eq, decide_eq_true_eq]
  exact (ari_nod n.o).symm
theorem end_big : ∀ (L : List Nd) (m : Int) (i : Nat), endB m L i = -1 ∨ ((i : Int) < endB m L i ∧ endB m L i ≤ ((i + L.length : Nat) : Int))
  | [], m, i => .inl rfl
  | n :: l, m, i => by
    unfold endB
    split
    · exact .inl rfl
    · split
      · right; rw [List.length_cons]; omega
      · rcases end_big l (m + (ariB n.o - 1)) (i + 1) with h | h
        · exact .inl h
        · right; rw [List.length_cons]; omega
/-- Both ways to say that nodes are an expression. -/
theorem exc_end : ∀ (L : List Nd) (m : Int) (i : Nat), 1 ≤ m → excB m L = (decide (endB m L i = ((i + L.length : Nat) : Int)) && L.all fldB)
  | [], m, i, h => by
    have e1 : excB m [] = false := by unfold excB; rw [beq_eq_false_iff_ne]; omega
    have e2 : decide (endB m [] i = ((i + ([] : List Nd).length : Nat) : Int)) = false := by
      rw [decide_eq_false_iff_not]; unfold endB; simp only [List.length_nil]; omega
    rw [e1, e2]; rfl
  | n :: l, m, i, h => by
    have hm : (m == 0) = false := by rw [beq_eq_false_iff_ne]; omega
    unfold excB
    rw [hm, nod_ari, List.all_cons]
    unfold endB
    by_cases ha : ariB n.o < 0
    · rw [if_pos ha, decide_eq_false (by omega)]
      have : decide ((-1 : Int) = ((i + (n :: l).length : Nat) : Int)) = false := decide_eq_false (by omega)
      rw [this]; simp
    · rw [if_neg ha, decide_eq_true (by omega : 0 ≤ ariB n.o)]
      by_cases hz : m + (ariB n.o - 1) = 0
      · rw [if_pos hz, hz]
        cases l with
        | nil =>
          rw [decide_eq_true (show ((i + 1 : Nat) : Int) = ((i + [n].length : Nat) : Int) from rfl)]
          simp [excB]
        | cons a r =>
          rw [decide_eq_false (by simp only [List.length_cons]; omega)]
          simp [excB]
      · rw [if_neg hz, exc_end l _ (i + 1) (by omega)]
        have e : ((i + 1 + l.length : Nat) : Int) = ((i + (n :: l).length : Nat) : Int) := by rw [List.length_cons]; omega
        rw [e]
        cases fldB n <;> simp
/-- Is this a formula? -/
def frmB (s : ByteArray) (L : List Nd) : Bool := nameB s && decide (L.length ≤ 64) && excB 1 L
end Go.Proofs.YtjebpmjbdchdlaaDoor
namespace Go.Proofs.YtjebpmjbdchdlaaDoor
open Go.RowKit
set_option linter.unusedVariables false

theorem drop_one {α : Type} {L : List α} {i : Nat} {x : α} (hx : L[i]? = some x) : L.drop i = x :: L.drop (i + 1) := by
  obtain ⟨h1, h2⟩ := List.getElem?_eq_some_iff.1 hx
  rw [List.drop_eq_getElem_cons h1, h2]
theorem noLn (o : Int) (s : ByteArray) (k : Int) : NoL #[.int .i64 o, .string s, .int .i64 k] := by
  intro i z; match i with
  | 0 => simp
  | 1 => simp
  | 2 => simp
  | k + 3 => simp
theorem og_ari {W : World} (h : Og W) {q : Nat} (h1 : q ≤ 10) (h2 : 1 ≤ q) : W.cell? ⟨0, q * 6 + 2, none⟩ = some (.int .i64 (ariB (q : Int))) := by
  have hc : q = 1 ∨ q = 2 ∨ q = 3 ∨ q = 4 ∨ q = 5 ∨ q = 6 ∨ q = 7 ∨ q = 8 ∨ q = 9 ∨ q = 10 := by omega
  rcases hc with rfl | rfl | rfl | rfl | rfl | rfl | rfl | rfl | rfl | rfl
  all_goals exact h.2 _ _ rfl

set_option maxRecDepth 100000 in
set_option maxHeartbeats 4000000 in
theorem isExpr_any (L : List Nd) (A : Option Addr) (n c : Nat) (w : World) (h : LR ndC w A n L) (hn : n ≤ 100000) (hO : Og w) : Calls Tryd.prog 33 #[.slice A n c] w fun e w' => e = .returned (.bool (excB 1 L)) ∧ Below w.heap.size w w' := by
  have hb := Lib.hid hn
  have hlen := Lib.hid h.len
  obtain ⟨nv, hnv⟩ : ∃ z, z = excB 1 L := ⟨_, rfl⟩
  rw [← hnv]
  replace hnv := Lib.hid hnv
  replace h := Lib.hid h
  replace hO := Lib.hid hO
  clear hn
  go_enter Tryd.func33, Tryd.ntmps33
  go_wp2
  go_loopw [3, 8] (fun mv iv wr => ∃ (i : Nat) (m : Int), i ≤ n ∧ iv = .int .i64 i ∧ mv = .int .i64 m ∧ Below w.heap.size w wr ∧ 0 ≤ m ∧ m ≤ i + 1 ∧ nv = excB m (L.drop i)) (fun _ iv _ => n - (intOf iv).toNat)
  case atStart => exact ⟨0, 1, Nat.zero_le _, rfl, rfl, Below.refl _ _, by decide, by decide, hnv.out⟩
  case round =>
    obtain ⟨i, m, hin, rfl, rfl, B, hm0, hm1, hall⟩ := hrel
    by_cases hlt : i < n
    · obtain ⟨b, o, x, rfl, hx, hxm, e0, e1, e2⟩ := nd_get (h.out.bel B) hlt
      have hdr := Lib.hid (drop_one hx)
      have hih := Lib.hid hlt
      have hmm := Lib.hid (And.intro hm0 hm1)
      have g1 : (i : Int) < (n : Int) := by omega
      have g2 : (0 : Int) ≤ (i : Int) := by omega
      have hX : Hid (∀ W, Below wr.heap.size wr W → Calls Tryd.prog 51 #[.agg #[.int .i64 x.o, .string x.s, .int .i64 x.k]] W fun e w' => e = .returned (.bool (nodB x)) ∧ Below W.heap.size W w') := Lib.hid fun W hW => isNode_any x W ((hO.out.bel B).bel hW)
      have hG : Hid (∀ W, Below wr.heap.size wr W → Og W) := Lib.hid fun W hW => (hO.out.bel B).bel hW
      rw [hdr.out] at hall
      unfold excB at hall
      have S : St wr _ [(wr.heap.size, #[.int .i64 x.o, .string x.s, .int .i64 x.k], 53)] [] := (St.new wr).allocAt wr.heap.size #[.int .i64 x.o, .string x.s, .int .i64 x.k] 53 (noLn _ _ _) rfl
      replace S := Lib.hid S
      replace B := Lib.hid B
      clear hx hxm hin hlt hm0 hm1
      cases hz : (m == 0)
      · rw [hz] at hall
        replace hall := Lib.hid hall
        go_wp2_with fail
        refine (hX.out _ S.out.bel).mono ?_
        rintro e w1 ⟨rfl, bb⟩
        have T := S.out.call bb
        clear bb S e0 e1 e2
        have S := T
        clear T
        cases hv : nodB x
        · have hfi : nv = false := by rw [hall.out, hv]; rfl
          subst hfi
          replace hv := Lib.hid hv
          have hbel := Lib.hid (B.out.trans (S.bel.mono B.out.size))
          clear S hall
          go_wp2
          go_ret
          exact ⟨rfl, hbel.out⟩
        · have hoo : 1 ≤ x.o ∧ x.o ≤ 10 := by
            have hv2 := hv
            unfold nodB at hv2
            rw [Bool.and_eq_true, Bool.and_eq_true, decide_eq_true_eq, decide_eq_true_eq] at hv2
            exact hv2.1
          obtain ⟨q, hq⟩ : ∃ q : Nat, x.o = (q : Int) := ⟨x.o.toNat, by omega⟩
          have hq1 : 1 ≤ q := by omega
          have hq2 : q ≤ 10 := by omega
          have ga := og_ari (hG.out _ S.bel) hq2 hq1
          have gl : (hG.out _ S.bel).1 = (hG.out _ S.bel).1 := rfl
          clear gl
          have hz0 : 0 < w1.heap.size := (hG.out _ S.bel).1
          have q1 : (q : Int) < 11 := by omega
          have q2 : (0 : Int) ≤ (q : Int) := by omega
          have hae : Hid (ariB x.o = ariB (q : Int)) := Lib.hid (by rw [hq])
          have hal := Lib.hid (ari_le (q : Int))
          have hnx : Hid (nv = excB (m + (ariB (q : Int) - 1)) (L.drop (i + 1))) := Lib.hid (by rw [hall.out, hv, hq]; rfl)
          have han : Hid (0 ≤ ariB (q : Int)) := Lib.hid (by rw [← hq]; exact (ari_nod _).2 hoo)
          have hmne : Hid (1 ≤ m) := Lib.hid (by have := hmm.out; have h2 : m ≠ 0 := (by rw [beq_eq_false_iff_ne] at hz; exact hz); omega)
          have c_x0 : w1.cell? ⟨wr.heap.size, 0, none⟩ = some (.int .i64 (q : Int)) := by rw [← hq]; exact S.cl 0 0 rfl rfl
          have hbel := Lib.hid (B.out.trans (S.bel.mono B.out.size))
          replace hv := Lib.hid hv
          replace hq := Lib.hid hq
          replace hq1 := Lib.hid hq1
          replace hq2 := Lib.hid hq2
          clear S hall hoo
          generalize ariB (q : Int) = a at *
          have hb1 := hal.out
          have hb2 := hmm.out
          have hb3 := hih.out
          have hb4 := hb.out
          go_wp2
          go_roundw
          case rel => exact ⟨i + 1, m + (a - 1), by omega, by go_num, by go_num, hbel.out, by (have := han.out; have := hmne.out; omega), by (have := hmm.out; have := hal.out; omega), hnx.out⟩
          case measure => simp [intOf]; omega
      · rw [hz] at hall
        have hfi : nv = false := by rw [hall]; rfl
        subst hfi
        clear hall hX hG
        go_wp2
        go_ret
        exact ⟨rfl, B.out.trans (S.out.bel.mono B.out.size)⟩
    · obtain rfl : i = n := by omega
      have hfi : nv = (m == 0) := by rw [hall, List.drop_eq_nil_of_le (by rw [hlen.out]; exact Nat.le_refl _)]; rfl
      replace B := Lib.hid B
      clear hall hin hlt hm0 hm1
      subst hfi
      go_wp2
      go_ret
      exact ⟨rfl, B.out⟩
end Go.Proofs.YtjebpmjbdchdlaaDoor
namespace Go.Proofs.YtjebpmjbdchdlaaDoor
open Go.RowKit
set_option linter.unusedVariables false

set_option maxRecDepth 100000 in
set_option maxHeartbeats 4000000 in
theorem valid_any (s : ByteArray) (L : List Nd) (A : Option Addr) (n c : Nat) (w : World) (h : LR ndC w A n L) (hn : n ≤ 100000) (hO : Og w) : Calls Tryd.prog 16 #[.agg #[.string s, .slice A n c]] w fun e w' => e = .returned (.bool (frmB s L)) ∧ Below w.heap.size w w' := by
  have hN := Lib.hid (fun W => name_any s W)
  have hE : Hid (∀ W, Below w.heap.size w W → Calls Tryd.prog 33 #[.slice A n c] W fun e w' => e = .returned (.bool (excB 1 L)) ∧ Below W.heap.size W w') := Lib.hid fun W hW => isExpr_any L A n c W (h.bel hW) hn (hO.bel hW)
  have hlen := h.len
  unfold frmB
  rw [hlen]
  have S : St w _ [(w.heap.size, #[.string s, .slice A n c], 25)] [] := (St.new w).allocAt w.heap.size #[.string s, .slice A n c] 25 (by intro i z; match i with | 0 => simp | 1 => simp | k + 2 => simp) rfl
  replace S := Lib.hid S
  clear hlen h hn hO
  generalize excB 1 L = v at *
  cases hb : nameB s
  · rw [hb] at hN
    clear hb hE
    go_enter Tryd.func16, Tryd.ntmps16
    go_wp2_with fail
    refine (hN.out _).mono ?_
    rintro e w1 ⟨rfl, rfl⟩
    go_wp2
    go_ret
    exact ⟨rfl, S.out.bel⟩
  · rw [hb] at hN
    clear hb
    by_cases h64 : n ≤ 64
    · rw [decide_eq_true h64]
      have g : (n : Int) ≤ 64 := by omega
      clear h64
      go_enter Tryd.func16, Tryd.ntmps16
      go_wp2_with fail
      refine (hN.out _).mono ?_
      rintro e w1 ⟨rfl, rfl⟩
      go_wp2_with fail
      refine (hE.out _ S.out.bel).mono ?_
      rintro e w2 ⟨rfl, bb⟩
      have B := Lib.hid (S.out.bel.trans (bb.mono S.out.bel.size))
      clear bb S
      go_wp2
      go_ret
      exact ⟨by first | rfl | (simp; done), B.out⟩
    · rw [decide_eq_false h64]
      have g : ¬ (n : Int) ≤ 64 := by omega
      clear h64 hE
      go_enter Tryd.func16, Tryd.ntmps16
      go_wp2_with fail
      refine (hN.out _).mono ?_
      rintro e w1 ⟨rfl, rfl⟩
      go_wp2
      go_ret
      exact ⟨by first | rfl | (simp; done), S.out.bel⟩
end Go.Proofs.YtjebpmjbdchdlaaDoor
namespace Go.Proofs.YtjebpmjbdchdlaaDoor
open Go.RowKit
set_option linter.unusedVariables false

theorem bel_cell {w W : World} (h : Below w.heap.size w W) {a : Addr} {v : Value} (hc : w.cell? a = some v) : W.cell? a = some v := by
  have hlt : a.block < w.heap.size := by
    rcases Nat.lt_or_ge a.block w.heap.size with h1 | h1
    · exact h1
    · rw [World.cell?, Array.getElem?_eq_none h1] at hc
      cases hc
  rw [World.cell?_of_block (w := w) (h.block _ hlt)]; exact hc
theorem noLf (s : ByteArray) (A : Option Addr) (n c : Nat) : NoL #[.string s, .slice A n c] := by
  intro i z; match i with
  | 0 => simp
  | 1 => simp
  | k + 2 => simp
theorem frm_ref {s : ByteArray} {L : List Nd} : frmB s L = (nameB s && decide (1 ≤ L.length) && decide (L.length ≤ 64) && decide (endB 1 L 0 = (L.length : Int)) && L.all fldB) := by
  unfold frmB
  rw [exc_end L 1 0 (by decide), Nat.zero_add]
  cases L with
  | nil => cases nameB s <;> simp [endB]
  | cons a l => rw [decide_eq_true (show 1 ≤ (a :: l).length by rw [List.length_cons]; omega)]; cases nameB s <;> simp [Bool.and_assoc]

end Go.Proofs.YtjebpmjbdchdlaaDoor
namespace Go.Proofs.YtjebpmjbdchdlaaDoor
open Go.RowKit
set_option linter.unusedVariables false

/-- Is a formula light? -/
def litB (s : ByteArray) (L : List Nd) : Bool := decide (s.size ≤ 60) && decide (L.length ≤ 80) && L.all (fun x => decide (x.s.size ≤ 60))
/-- How tight an operation is. -/
def rnkB (o : Int) : Int := if o = 5 ∨ o = 6 then 1 else if o = 8 ∨ o = 9 then 2 else if o = 7 then 3 else if o = 10 then 4 else 5
/-- A sign as it is written. -/
def sgnB (o : Int) : ByteArray := if o = 5 then ⟨#[32, 43, 32]⟩ else if o = 6 then ⟨#[32, 45, 32]⟩ else if o = 8 then ⟨#[32, 42, 32]⟩ else if o = 9 then ⟨#[32, 47, 32]⟩ else ⟨#[58]⟩
/-- The operation that a sign stands for, or 0. -/
def bopB (s : ByteArray) : Int := if s = ⟨#[43]⟩ then 5 else if s = ⟨#[45]⟩ then 6 else if s = ⟨#[58]⟩ then 7 else if s = ⟨#[42]⟩ then 8 else if s = ⟨#[47]⟩ then 9 else 0

end Go.Proofs.YtjebpmjbdchdlaaDoor
namespace Go.Proofs.YtjebpmjbdchdlaaDoor
open Go.RowKit
set_option linter.unusedVariables false

theorem str_is (s : ByteArray) (c : UInt8) : (s.toList == [c]) = decide (s = ⟨#[c]⟩) := by
  rw [Bool.eq_iff_iff, beq_iff_eq, decide_eq_true_eq, Lib.toList_data]
  constructor
  · intro h
    exact ByteArray.ext (by apply Array.ext'; simpa using h)
  · rintro rfl; rfl
theorem str_is' (s : ByteArray) (c : UInt8) : ([c] == s.toList) = decide (s = ⟨#[c]⟩) := by rw [Bool.beq_comm]; exact str_is s c

set_option maxRecDepth 100000 in
set_option maxHeartbeats 4000000 in
theorem bop_any (s : ByteArray) (w : World) (hO : Og w) : Calls Tryd.prog 42 #[.string s] w fun e w' => e = .returned (.int .i64 (bopB s)) ∧ w' = w := by
  have k5 := Lib.hid (str_is s 43)
  have j5 := Lib.hid (str_is' s 43)
  have k6 := Lib.hid (str_is s 45)
  have j6 := Lib.hid (str_is' s 45)
  have k7 := Lib.hid (str_is s 58)
  have j7 := Lib.hid (str_is' s 58)
  have k8 := Lib.hid (str_is s 42)
  have j8 := Lib.hid (str_is' s 42)
  have k9 := Lib.hid (str_is s 47)
  have j9 := Lib.hid (str_is' s 47)
  replace hO := Lib.hid hO
  obtain ⟨nv, hnv⟩ : ∃ z, z = bopB s := ⟨_, rfl⟩
  rw [← hnv]
  unfold bopB at hnv
  replace hnv := Lib.hid hnv
  go_enter Tryd.func42, Tryd.ntmps42
  go_wp2
  go_loopw [4] (fun iv wr => ∃ i : Nat, i ≤ 11 ∧ iv = .int .i64 i ∧ wr = w ∧ (6 ≤ i → ¬ s = ⟨#[43]⟩) ∧ (7 ≤ i → ¬ s = ⟨#[45]⟩) ∧ (8 ≤ i → ¬ s = ⟨#[58]⟩) ∧ (9 ≤ i → ¬ s = ⟨#[42]⟩) ∧ (10 ≤ i → ¬ s = ⟨#[47]⟩)) (fun iv _ => 11 - (intOf iv).toNat)
  case atStart => exact ⟨0, by omega, rfl, rfl, fun h => absurd h (by omega), fun h => absurd h (by omega), fun h => absurd h (by omega), fun h => absurd h (by omega), fun h => absurd h (by omega)⟩
  case round =>
    obtain ⟨i, hin, rfl, rfl, a5, a6, a7, a8, a9⟩ := hrel
    have hc : i = 0 ∨ i = 1 ∨ i = 2 ∨ i = 3 ∨ i = 4 ∨ i = 5 ∨ i = 6 ∨ i = 7 ∨ i = 8 ∨ i = 9 ∨ i = 10 ∨ i = 11 := by omega
    rcases hc with rfl | rfl | rfl | rfl | rfl | rfl | rfl | rfl | rfl | rfl | rfl | rfl
    · have o2 : wr.cell? ⟨0, 2, none⟩ = some (.int .i64 0) := hO.out.2 2 _ rfl
      replace a5 := Lib.hid a5
      replace a6 := Lib.hid a6
      replace a7 := Lib.hid a7
      replace a8 := Lib.hid a8
      replace a9 := Lib.hid a9
      clear hin
      go_wp2
      go_roundw
      case rel => exact ⟨1, by omega, by go_num, (by first | rfl | trivial), fun h => a5.out (by omega), fun h => a6.out (by omega), fun h => a7.out (by omega), fun h => a8.out (by omega), fun h => a9.out (by omega)⟩
      case measure => (first | (simp [intOf]; done) | (simp [intOf]; omega))
    · have o2 : wr.cell? ⟨0, 8, none⟩ = some (.int .i64 0) := hO.out.2 8 _ rfl
      replace a5 := Lib.hid a5
      replace a6 := Lib.hid a6
      replace a7 := Lib.hid a7
      replace a8 := Lib.hid a8
      replace a9 := Lib.hid a9
      clear hin
      go_wp2
      go_roundw
      case rel => exact ⟨2, by omega, by go_num, (by first | rfl | trivial), fun h => a5.out (by omega), fun h => a6.out (by omega), fun h => a7.out (by omega), fun h => a8.out (by omega), fun h => a9.out (by omega)⟩
      case measure => (first | (simp [intOf]; done) | (simp [intOf]; omega))
    · have o2 : wr.cell? ⟨0, 14, none⟩ = some (.int .i64 0) := hO.out.2 14 _ rfl
      replace a5 := Lib.hid a5
      replace a6 := Lib.hid a6
      replace a7 := Lib.hid a7
      replace a8 := Lib.hid a8
      replace a9 := Lib.hid a9
      clear hin
      go_wp2
      go_roundw
      case rel => exact ⟨3, by omega, by go_num, (by first | rfl | trivial), fun h => a5.out (by omega), fun h => a6.out (by omega), fun h => a7.out (by omega), fun h => a8.out (by omega), fun h => a9.out (by omega)⟩
      case measure => (first | (simp [intOf]; done) | (simp [intOf]; omega))
    · have o2 : wr.cell? ⟨0, 20, none⟩ = some (.int .i64 0) := hO.out.2 20 _ rfl
      replace a5 := Lib.hid a5
      replace a6 := Lib.hid a6
      replace a7 := Lib.hid a7
      replace a8 := Lib.hid a8
      replace a9 := Lib.hid a9
      clear hin
      go_wp2
      go_roundw
      case rel => exact ⟨4, by omega, by go_num, (by first | rfl | trivial), fun h => a5.out (by omega), fun h => a6.out (by omega), fun h => a7.out (by omega), fun h => a8.out (by omega), fun h => a9.out (by omega)⟩
      case measure => (first | (simp [intOf]; done) | (simp [intOf]; omega))
    · have o2 : wr.cell? ⟨0, 26, none⟩ = some (.int .i64 0) := hO.out.2 26 _ rfl
      replace a5 := Lib.hid a5
      replace a6 := Lib.hid a6
      replace a7 := Lib.hid a7
      replace a8 := Lib.hid a8
      replace a9 := Lib.hid a9
      clear hin
      go_wp2
      go_roundw
      case rel => exact ⟨5, by omega, by go_num, (by first | rfl | trivial), fun h => a5.out (by omega), fun h => a6.out (by omega), fun h => a7.out (by omega), fun h => a8.out (by omega), fun h => a9.out (by omega)⟩
      case measure => (first | (simp [intOf]; done) | (simp [intOf]; omega))
    · have o2 : wr.cell? ⟨0, 32, none⟩ = some (.int .i64 2) := hO.out.2 32 _ rfl
      have o0 : wr.cell? ⟨0, 30, none⟩ = some (.string ⟨#[43]⟩) := hO.out.2 30 _ rfl
      by_cases hs : s = ⟨#[43]⟩
      · have hv : nv = 5 := by rw [hnv.out, if_pos hs]
        have g1 : (s.toList == [43]) = true := by rw [k5.out]; exact decide_eq_true hs
        have g2 : ([43] == s.toList) = true := by rw [j5.out]; exact decide_eq_true hs
        clear a5 a6 a7 a8 a9 hin
        replace hs := Lib.hid hs
        subst hv
        go_wp2
        go_ret
        exact ⟨rfl, rfl⟩
      · have g1 : (s.toList == [43]) = false := by rw [k5.out]; exact decide_eq_false hs
        have g2 : ([43] == s.toList) = false := by rw [j5.out]; exact decide_eq_false hs
        replace hs := Lib.hid hs
        replace a5 := Lib.hid a5
        replace a6 := Lib.hid a6
        replace a7 := Lib.hid a7
        replace a8 := Lib.hid a8
        replace a9 := Lib.hid a9
        clear hin
        go_wp2
        go_roundw
        case rel => exact ⟨6, by omega, by go_num, (by first | rfl | trivial), fun _ => hs.out, fun h => a6.out (by omega), fun h => a7.out (by omega), fun h => a8.out (by omega), fun h => a9.out (by omega)⟩
        case measure => (first | (simp [intOf]; done) | (simp [intOf]; omega))
    · have o2 : wr.cell? ⟨0, 38, none⟩ = some (.int .i64 2) := hO.out.2 38 _ rfl
      have o0 : wr.cell? ⟨0, 36, none⟩ = some (.string ⟨#[45]⟩) := hO.out.2 36 _ rfl
      by_cases hs : s = ⟨#[45]⟩
      · have hv : nv = 6 := by rw [hnv.out, if_neg (a5 (by omega)), if_pos hs]
        have g1 : (s.toList == [45]) = true := by rw [k6.out]; exact decide_eq_true hs
        have g2 : ([45] == s.toList) = true := by rw [j6.out]; exact decide_eq_true hs
        clear a5 a6 a7 a8 a9 hin
        replace hs := Lib.hid hs
        subst hv
        go_wp2
        go_ret
        exact ⟨rfl, rfl⟩
      · have g1 : (s.toList == [45]) = false := by rw [k6.out]; exact decide_eq_false hs
        have g2 : ([45] == s.toList) = false := by rw [j6.out]; exact decide_eq_false hs
        replace hs := Lib.hid hs
        replace a5 := Lib.hid a5
        replace a6 := Lib.hid a6
        replace a7 := Lib.hid a7
        replace a8 := Lib.hid a8
        replace a9 := Lib.hid a9
        clear hin
        go_wp2
        go_roundw
        case rel => exact ⟨7, by omega, by go_num, (by first | rfl | trivial), fun h => a5.out (by omega), fun _ => hs.out, fun h => a7.out (by omega), fun h => a8.out (by omega), fun h => a9.out (by omega)⟩
        case measure => (first | (simp [intOf]; done) | (simp [intOf]; omega))
    · have o2 : wr.cell? ⟨0, 44, none⟩ = some (.int .i64 2) := hO.out.2 44 _ rfl
      have o0 : wr.cell? ⟨0, 42, none⟩ = some (.string ⟨#[58]⟩) := hO.out.2 42 _ rfl
      by_cases hs : s = ⟨#[58]⟩
      · have hv : nv = 7 := by rw [hnv.out, if_neg (a5 (by omega)), if_neg (a6 (by omega)), if_pos hs]
        have g1 : (s.toList == [58]) = true := by rw [k7.out]; exact decide_eq_true hs
        have g2 : ([58] == s.toList) = true := by rw [j7.out]; exact decide_eq_true hs
        clear a5 a6 a7 a8 a9 hin
        replace hs := Lib.hid hs
        subst hv
        go_wp2
        go_ret
        exact ⟨rfl, rfl⟩
      · have g1 : (s.toList == [58]) = false := by rw [k7.out]; exact decide_eq_false hs
        have g2 : ([58] == s.toList) = false := by rw [j7.out]; exact decide_eq_false hs
        replace hs := Lib.hid hs
        replace a5 := Lib.hid a5
        replace a6 := Lib.hid a6
        replace a7 := Lib.hid a7
        replace a8 := Lib.hid a8
        replace a9 := Lib.hid a9
        clear hin
        go_wp2
        go_roundw
        case rel => exact ⟨8, by omega, by go_num, (by first | rfl | trivial), fun h => a5.out (by omega), fun h => a6.out (by omega), fun _ => hs.out, fun h => a8.out (by omega), fun h => a9.out (by omega)⟩
        case measure => (first | (simp [intOf]; done) | (simp [intOf]; omega))
    · have o2 : wr.cell? ⟨0, 50, none⟩ = some (.int .i64 2) := hO.out.2 50 _ rfl
      have o0 : wr.cell? ⟨0, 48, none⟩ = some (.string ⟨#[42]⟩) := hO.out.2 48 _ rfl
      by_cases hs : s = ⟨#[42]⟩
      · have hv : nv = 8 := by rw [hnv.out, if_neg (a5 (by omega)), if_neg (a6 (by omega)), if_neg (a7 (by omega)), if_pos hs]
        have g1 : (s.toList == [42]) = true := by rw [k8.out]; exact decide_eq_true hs
        have g2 : ([42] == s.toList) = true := by rw [j8.out]; exact decide_eq_true hs
        clear a5 a6 a7 a8 a9 hin
        replace hs := Lib.hid hs
        subst hv
        go_wp2
        go_ret
        exact ⟨rfl, rfl⟩
      · have g1 : (s.toList == [42]) = false := by rw [k8.out]; exact decide_eq_false hs
        have g2 : ([42] == s.toList) = false := by rw [j8.out]; exact decide_eq_false hs
        replace hs := Lib.hid hs
        replace a5 := Lib.hid a5
        replace a6 := Lib.hid a6
        replace a7 := Lib.hid a7
        replace a8 := Lib.hid a8
        replace a9 := Lib.hid a9
        clear hin
        go_wp2
        go_roundw
        case rel => exact ⟨9, by omega, by go_num, (by first | rfl | trivial), fun h => a5.out (by omega), fun h => a6.out (by omega), fun h => a7.out (by omega), fun _ => hs.out, fun h => a9.out (by omega)⟩
        case measure => (first | (simp [intOf]; done) | (simp [intOf]; omega))
    · have o2 : wr.cell? ⟨0, 56, none⟩ = some (.int .i64 2) := hO.out.2 56 _ rfl
      have o0 : wr.cell? ⟨0, 54, none⟩ = some (.string ⟨#[47]⟩) := hO.out.2 54 _ rfl
      by_cases hs : s = ⟨#[47]⟩
      · have hv : nv = 9 := by rw [hnv.out, if_neg (a5 (by omega)), if_neg (a6 (by omega)), if_neg (a7 (by omega)), if_neg (a8 (by omega)), if_pos hs]
        have g1 : (s.toList == [47]) = true := by rw [k9.out]; exact decide_eq_true hs
        have g2 : ([47] == s.toList) = true := by rw [j9.out]; exact decide_eq_true hs
        clear a5 a6 a7 a8 a9 hin
        replace hs := Lib.hid hs
        subst hv
        go_wp2
        go_ret
        exact ⟨rfl, rfl⟩
      · have g1 : (s.toList == [47]) = false := by rw [k9.out]; exact decide_eq_false hs
        have g2 : ([47] == s.toList) = false := by rw [j9.out]; exact decide_eq_false hs
        replace hs := Lib.hid hs
        replace a5 := Lib.hid a5
        replace a6 := Lib.hid a6
        replace a7 := Lib.hid a7
        replace a8 := Lib.hid a8
        replace a9 := Lib.hid a9
        clear hin
        go_wp2
        go_roundw
        case rel => exact ⟨10, by omega, by go_num, (by first | rfl | trivial), fun h => a5.out (by omega), fun h => a6.out (by omega), fun h => a7.out (by omega), fun h => a8.out (by omega), fun _ => hs.out⟩
        case measure => (first | (simp [intOf]; done) | (simp [intOf]; omega))
    · have o2 : wr.cell? ⟨0, 62, none⟩ = some (.int .i64 1) := hO.out.2 62 _ rfl
      replace a5 := Lib.hid a5
      replace a6 := Lib.hid a6
      replace a7 := Lib.hid a7
      replace a8 := Lib.hid a8
      replace a9 := Lib.hid a9
      clear hin
      go_wp2
      go_roundw
      case rel => exact ⟨11, by omega, by go_num, (by first | rfl | trivial), fun h => a5.out (by omega), fun h => a6.out (by omega), fun h => a7.out (by omega), fun h => a8.out (by omega), fun h => a9.out (by omega)⟩
      case measure => (first | (simp [intOf]; done) | (simp [intOf]; omega))
    · have hv : nv = 0 := by rw [hnv.out, if_neg (a5 (by omega)), if_neg (a6 (by omega)), if_neg (a7 (by omega)), if_neg (a8 (by omega)), if_neg (a9 (by omega))]
      clear a5 a6 a7 a8 a9 hin
      subst hv
      go_wp2
      go_ret
      exact ⟨rfl, rfl⟩

set_option maxRecDepth 100000 in
set_option maxHeartbeats 4000000 in
theorem spaced_any (s : ByteArray) (r p : Int) (b : Bool) (l m : Int) (w : World) (hs : s.size ≤ 100000) : Calls Tryd.prog 56 #[.agg #[.string s, .int .i64 r, .int .i64 p, .bool b, .int .i64 l, .int .i64 m]] w fun e w' => e = .returned (.string (if r = 3 then s else (⟨#[32]⟩ ++ s ++ ⟨#[32]⟩))) ∧ Below w.heap.size w w' := by
  by_cases h : r = 3
  · rw [if_pos h]
    subst h
    go_enter Tryd.func56, Tryd.ntmps56
    go_wp2
    go_ret
    exact ⟨rfl, (Below.refl w.heap.size w).alloc (Nat.le_refl _) _⟩
  · rw [if_neg h]
    have e3 : (r == 3) = false := by rw [beq_eq_false_iff_ne]; exact h
    clear h
    go_enter Tryd.func56, Tryd.ntmps56
    go_wp2
    go_ret
    exact ⟨rfl, (Below.refl w.heap.size w).alloc (Nat.le_refl _) _⟩

set_option maxRecDepth 100000 in
set_option maxHeartbeats 4000000 in
theorem enclosed_any (s : ByteArray) (r k : Int) (w : World) (hs : s.size ≤ 100000) : Calls Tryd.prog 54 #[.agg #[.string s, .int .i64 r], .int .i64 k] w fun e w' => e = .returned (.string (if r < k then (⟨#[40]⟩ ++ s ++ ⟨#[41]⟩) else s)) ∧ Below w.heap.size w w' := by
  by_cases h : r < k
  · rw [if_pos h]
    go_enter Tryd.func54, Tryd.ntmps54
    go_wp2
    go_ret
    exact ⟨rfl, (Below.refl w.heap.size w).alloc (Nat.le_refl _) _⟩
  · rw [if_neg h]
    go_enter Tryd.func54, Tryd.ntmps54
    go_wp2
    go_ret
    exact ⟨rfl, (Below.refl w.heap.size w).alloc (Nat.le_refl _) _⟩
end Go.Proofs.YtjebpmjbdchdlaaDoor
namespace Go.Proofs
open Go.Shelf
def Tryd.laysM171_ren : Go.Shelf.Ren := ⟨fun | 171 => 55 | 243 => 67 | 246 => 73 | 283 => 78 | 284 => 79 | 285 => 80 | 286 => 81 | 129 => 87 | 317 => 86 | 318 => 88 | 319 => 89 | 320 => 90 | 337 => 92 | 338 => 93 | n => n, fun | 3 => 3 | 9 => 9 | 2 => 2 | 4 => 4 | 171 => 101 | 0 => 0 | 53 => 102 | 37 => 96 | 5 => 5 | 173 => 105 | 212 => 115 | 51 => 116 | 20 => 20 | 213 => 117 | 46 => 108 | 232 => 123 | 233 => 124 | n => n, fun | 17 => 4 | 18 => 5 | 19 => 6 | n => n⟩
theorem Tryd.laysM171 : Go.Proofs.LaysM.n171 Tryd.prog Tryd.laysM171_ren := {
  mixed := by kernel_rfl
  f129 := Tryd.func87.trans (congrArg some (by kernel_rfl))
  f171 := Tryd.func55.trans (congrArg some (by kernel_rfl))
  f243 := Tryd.func67.trans (congrArg some (by kernel_rfl))
  f246 := Tryd.func73.trans (congrArg some (by kernel_rfl))
  f283 := Tryd.func78.trans (congrArg some (by kernel_rfl))
  f284 := Tryd.func79.trans (congrArg some (by kernel_rfl))
  f285 := Tryd.func80.trans (congrArg some (by kernel_rfl))
  f286 := Tryd.func81.trans (congrArg some (by kernel_rfl))
  f317 := Tryd.func86.trans (congrArg some (by kernel_rfl))
  f318 := Tryd.func88.trans (congrArg some (by kernel_rfl))
  f319 := Tryd.func89.trans (congrArg some (by kernel_rfl))
  f320 := Tryd.func90.trans (congrArg some (by kernel_rfl))
  f337 := Tryd.func92.trans (congrArg some (by kernel_rfl))
  f338 := Tryd.func93.trans (congrArg some (by kernel_rfl))
  t0 := Tryd.underlying0
  a0 := Tryd.isAgg0
  z0 := Tryd.sizeOf0
  v0 := Tryd.zeroValue0
  t2 := Tryd.underlying2
  a2 := Tryd.isAgg2
  z2 := Tryd.sizeOf2
  v2 := Tryd.zeroValue2
  t3 := Tryd.underlying3
  a3 := Tryd.isAgg3
  z3 := Tryd.sizeOf3
  v3 := Tryd.zeroValue3
  t4 := Tryd.underlying4
  a4 := Tryd.isAgg4
  z4 := Tryd.sizeOf4
  v4 := Tryd.zeroValue4
  t5 := Tryd.underlying5
  a5 := Tryd.isAgg5
  z5 := Tryd.sizeOf5
  v5 := Tryd.zeroValue5
  t9 := Tryd.underlying9
  a9 := Tryd.isAgg9
  z9 := Tryd.sizeOf9
  v9 := Tryd.zeroValue9
  t20 := Tryd.underlying20
  a20 := Tryd.isAgg20
  z20 := Tryd.sizeOf20
  v20 := Tryd.zeroValue20
  t37 := Tryd.underlying96
  a37 := Tryd.isAgg96
  z37 := Tryd.sizeOf96
  v37 := Tryd.zeroValue96
  t46 := Tryd.underlying108
  a46 := Tryd.isAgg108
  z46 := Tryd.sizeOf108
  v46 := Tryd.zeroValue108
  t51 := Tryd.underlying116
  a51 := Tryd.isAgg116
  z51 := Tryd.sizeOf116
  v51 := Tryd.zeroValue116
  t53 := Tryd.underlying102
  a53 := Tryd.isAgg102
  z53 := Tryd.sizeOf102
  v53 := Tryd.zeroValue102
  t171 := Tryd.underlying101
  a171 := Tryd.isAgg101
  z171 := Tryd.sizeOf101
  v171 := Tryd.zeroValue101
  t173 := Tryd.underlying105
  a173 := Tryd.isAgg105
  z173 := Tryd.sizeOf105
  v173 := Tryd.zeroValue105
  t212 := Tryd.underlying115
  a212 := Tryd.isAgg115
  z212 := Tryd.sizeOf115
  v212 := Tryd.zeroValue115
  t213 := Tryd.underlying117
  a213 := Tryd.isAgg117
  z213 := Tryd.sizeOf117
  t232 := Tryd.underlying123
  a232 := Tryd.isAgg123
  z232 := Tryd.sizeOf123
  v232 := Tryd.zeroValue123
  t233 := Tryd.underlying124
  a233 := Tryd.isAgg124
  z233 := Tryd.sizeOf124
  v233 := Tryd.zeroValue124
  g17 := by kernel_rfl
  g18 := by kernel_rfl
  g19 := by kernel_rfl
  i0 := by kernel_rfl
  i2 := by kernel_rfl
  i3 := by kernel_rfl
  i4 := by kernel_rfl
  i5 := by kernel_rfl
  i9 := by kernel_rfl
  i20 := by kernel_rfl
  i37 := by kernel_rfl
  i46 := by kernel_rfl
  i51 := by kernel_rfl
  i53 := by kernel_rfl
  i171 := by kernel_rfl
  i173 := by kernel_rfl
  i212 := by kernel_rfl
  i232 := by kernel_rfl
  i233 := by kernel_rfl
  m17 := by kernel_rfl
  m18 := by kernel_rfl
  m19 := by kernel_rfl }
open Go.RowKit Go.Sort Go.Lib in
theorem Tryd.strconv_Itoa (n : Int) (h0 : -9223372036854775808 ≤ n) (h1 : n ≤ 9223372036854775807) (w : World) (htab : Lib.TabIs Tryd.prog w "internal/strconv.uint64pow10" .u64 Lib.pow10Tab) :
    Calls Tryd.prog 55 #[.int .i64 n] w fun e w' => e = .returned (.string ⟨(Lib.itoa n).toArray⟩) ∧ ∃ k os, w' = grow (w.drewN k) os := Any.strconv_Itoa Tryd.laysM171 n h0 h1 w htab
end Go.Proofs
namespace Go.Proofs
open Go.Shelf
def Tryd.lays161_ren : Go.Shelf.Ren := ⟨fun | 161 => 36 | 231 => 57 | 227 => 58 | 233 => 59 | 235 => 60 | 228 => 68 | 197 => 69 | 151 => 70 | 260 => 74 | 152 => 75 | 137 => 61 | 119 => 82 | 224 => 83 | 225 => 84 | 217 => 71 | 266 => 76 | n => n, fun | 9 => 9 | 4 => 4 | 3 => 3 | 5 => 5 | 117 => 85 | 116 => 84 | 0 => 0 | 124 => 88 | 105 => 93 | 21 => 21 | 119 => 107 | 46 => 108 | 139 => 111 | 138 => 110 | n => n, fun | 3 => 1 | 4 => 2 | n => n⟩
theorem Tryd.lays161 : Go.Proofs.Lays.n161 Tryd.prog Tryd.lays161_ren := {
  mixed := by kernel_rfl
  f119 := Tryd.func82.trans (congrArg some (by kernel_rfl))
  f137 := Tryd.func61.trans (congrArg some (by kernel_rfl))
  f151 := Tryd.func70.trans (congrArg some (by kernel_rfl))
  f152 := Tryd.func75.trans (congrArg some (by kernel_rfl))
  f161 := Tryd.func36.trans (congrArg some (by kernel_rfl))
  f197 := Tryd.func69.trans (congrArg some (by kernel_rfl))
  f217 := Tryd.func71.trans (congrArg some (by kernel_rfl))
  f224 := Tryd.func83.trans (congrArg some (by kernel_rfl))
  f225 := Tryd.func84.trans (congrArg some (by kernel_rfl))
  f227 := Tryd.func58.trans (congrArg some (by kernel_rfl))
  f228 := Tryd.func68.trans (congrArg some (by kernel_rfl))
  f231 := Tryd.func57.trans (congrArg some (by kernel_rfl))
  f233 := Tryd.func59.trans (congrArg some (by kernel_rfl))
  f235 := Tryd.func60.trans (congrArg some (by kernel_rfl))
  f260 := Tryd.func74.trans (congrArg some (by kernel_rfl))
  f266 := Tryd.func76.trans (congrArg some (by kernel_rfl))
  t0 := Tryd.underlying0
  a0 := Tryd.isAgg0
  z0 := Tryd.sizeOf0
  v0 := Tryd.zeroValue0
  t3 := Tryd.underlying3
  a3 := Tryd.isAgg3
  z3 := Tryd.sizeOf3
  v3 := Tryd.zeroValue3
  t4 := Tryd.underlying4
  a4 := Tryd.isAgg4
  z4 := Tryd.sizeOf4
  v4 := Tryd.zeroValue4
  t5 := Tryd.underlying5
  a5 := Tryd.isAgg5
  z5 := Tryd.sizeOf5
  v5 := Tryd.zeroValue5
  t9 := Tryd.underlying9
  a9 := Tryd.isAgg9
  z9 := Tryd.sizeOf9
  v9 := Tryd.zeroValue9
  t21 := Tryd.underlying21
  a21 := Tryd.isAgg21
  z21 := Tryd.sizeOf21
  v21 := Tryd.zeroValue21
  t46 := Tryd.underlying108
  a46 := Tryd.isAgg108
  z46 := Tryd.sizeOf108
  v46 := Tryd.zeroValue108
  t105 := Tryd.underlying93
  a105 := Tryd.isAgg93
  z105 := Tryd.sizeOf93
  v105 := Tryd.zeroValue93
  t116 := Tryd.underlying84
  a116 := Tryd.isAgg84
  z116 := Tryd.sizeOf84
  t117 := Tryd.underlying85
  a117 := Tryd.isAgg85
  z117 := Tryd.sizeOf85
  v117 := Tryd.zeroValue85
  t119 := Tryd.underlying107
  a119 := Tryd.isAgg107
  z119 := Tryd.sizeOf107
  t124 := Tryd.underlying88
  a124 := Tryd.isAgg88
  z124 := Tryd.sizeOf88
  v124 := Tryd.zeroValue88
  t138 := Tryd.underlying110
  a138 := Tryd.isAgg110
  z138 := Tryd.sizeOf110
  v138 := Tryd.zeroValue110
  t139 := Tryd.underlying111
  a139 := Tryd.isAgg111
  z139 := Tryd.sizeOf111
  v139 := Tryd.zeroValue111
  g3 := by kernel_rfl
  g4 := by kernel_rfl }
open Go.RowKit in
theorem Tryd.strings_TrimLeft_one (s : ByteArray) (c : UInt8) (hc : c.toNat < 128) (w : World) :
    Calls Tryd.prog 36 #[.string s, .string ⟨#[c]⟩] w fun e w' => e = .returned (.string ⟨(Lib.trimLeftB s.data.toList c).toArray⟩) ∧ w' = w := Any.strings_TrimLeft_one Tryd.lays161 s c hc w
def Tryd.lays119_ren : Go.Shelf.Ren := ⟨fun | 119 => 82 | n => n, fun | 21 => 21 | 4 => 4 | n => n, fun | n => n⟩
theorem Tryd.lays119 : Go.Proofs.Lays.n119 Tryd.prog Tryd.lays119_ren := {
  mixed := by kernel_rfl
  f119 := Tryd.func82.trans (congrArg some (by kernel_rfl))
  t4 := Tryd.underlying4
  a4 := Tryd.isAgg4
  z4 := Tryd.sizeOf4
  v4 := Tryd.zeroValue4
  t21 := Tryd.underlying21
  a21 := Tryd.isAgg21
  z21 := Tryd.sizeOf21
  v21 := Tryd.zeroValue21 }
theorem Tryd.utf8_ValidRune (r : Int) (w : World) :
    Calls Tryd.prog 82 #[.int .i32 r] w fun e w' => e = .returned (.bool (Lib.validRune r)) ∧ w' = w := Any.utf8_ValidRune Tryd.lays119 r w
def Tryd.lays137_ren : Go.Shelf.Ren := ⟨fun | 137 => 61 | 217 => 71 | 266 => 76 | n => n, fun | 9 => 9 | 5 => 5 | 3 => 3 | n => n, fun | n => n⟩
theorem Tryd.lays137 : Go.Proofs.Lays.n137 Tryd.prog Tryd.lays137_ren := {
  mixed := by kernel_rfl
  f137 := Tryd.func61.trans (congrArg some (by kernel_rfl))
  f217 := Tryd.func71.trans (congrArg some (by kernel_rfl))
  f266 := Tryd.func76.trans (congrArg some (by kernel_rfl))
  t3 := Tryd.underlying3
  a3 := Tryd.isAgg3
  z3 := Tryd.sizeOf3
  v3 := Tryd.zeroValue3
  t5 := Tryd.underlying5
  a5 := Tryd.isAgg5
  z5 := Tryd.sizeOf5
  v5 := Tryd.zeroValue5
  t9 := Tryd.underlying9
  a9 := Tryd.isAgg9
  z9 := Tryd.sizeOf9
  v9 := Tryd.zeroValue9 }
open Go.RowKit in
theorem Tryd.strings_IndexByte (s : ByteArray) (c : Int) (w : World) :
    Calls Tryd.prog 61 #[.string s, .int .u8 c] w fun e w' => e = .returned (.int .i64 (Lib.indexByte s.data.toList c.toNat.toUInt8)) ∧ w' = w := Any.strings_IndexByte Tryd.lays137 s c w
def Tryd.laysM243_ren : Go.Shelf.Ren := ⟨fun | 243 => 67 | 246 => 73 | 283 => 78 | 284 => 79 | 285 => 80 | 286 => 81 | 129 => 87 | 317 => 86 | 318 => 88 | 319 => 89 | 320 => 90 | 337 => 92 | 338 => 93 | n => n, fun | 3 => 3 | 9 => 9 | 2 => 2 | 4 => 4 | 171 => 101 | 0 => 0 | 53 => 102 | 37 => 96 | 5 => 5 | 173 => 105 | 212 => 115 | 51 => 116 | 20 => 20 | 213 => 117 | 46 => 108 | 232 => 123 | 233 => 124 | n => n, fun | 17 => 4 | 18 => 5 | 19 => 6 | n => n⟩
theorem Tryd.laysM243 : Go.Proofs.LaysM.n243 Tryd.prog Tryd.laysM243_ren := {
  mixed := by kernel_rfl
  f129 := Tryd.func87.trans (congrArg some (by kernel_rfl))
  f243 := Tryd.func67.trans (congrArg some (by kernel_rfl))
  f246 := Tryd.func73.trans (congrArg some (by kernel_rfl))
  f283 := Tryd.func78.trans (congrArg some (by kernel_rfl))
  f284 := Tryd.func79.trans (congrArg some (by kernel_rfl))
  f285 := Tryd.func80.trans (congrArg some (by kernel_rfl))
  f286 := Tryd.func81.trans (congrArg some (by kernel_rfl))
  f317 := Tryd.func86.trans (congrArg some (by kernel_rfl))
  f318 := Tryd.func88.trans (congrArg some (by kernel_rfl))
  f319 := Tryd.func89.trans (congrArg some (by kernel_rfl))
  f320 := Tryd.func90.trans (congrArg some (by kernel_rfl))
  f337 := Tryd.func92.trans (congrArg some (by kernel_rfl))
  f338 := Tryd.func93.trans (congrArg some (by kernel_rfl))
  t0 := Tryd.underlying0
  a0 := Tryd.isAgg0
  z0 := Tryd.sizeOf0
  v0 := Tryd.zeroValue0
  t2 := Tryd.underlying2
  a2 := Tryd.isAgg2
  z2 := Tryd.sizeOf2
  v2 := Tryd.zeroValue2
  t3 := Tryd.underlying3
  a3 := Tryd.isAgg3
  z3 := Tryd.sizeOf3
  v3 := Tryd.zeroValue3
  t4 := Tryd.underlying4
  a4 := Tryd.isAgg4
  z4 := Tryd.sizeOf4
  v4 := Tryd.zeroValue4
  t5 := Tryd.underlying5
  a5 := Tryd.isAgg5
  z5 := Tryd.sizeOf5
  v5 := Tryd.zeroValue5
  t9 := Tryd.underlying9
  a9 := Tryd.isAgg9
  z9 := Tryd.sizeOf9
  v9 := Tryd.zeroValue9
  t20 := Tryd.underlying20
  a20 := Tryd.isAgg20
  z20 := Tryd.sizeOf20
  v20 := Tryd.zeroValue20
  t37 := Tryd.underlying96
  a37 := Tryd.isAgg96
  z37 := Tryd.sizeOf96
  v37 := Tryd.zeroValue96
  t46 := Tryd.underlying108
  a46 := Tryd.isAgg108
  z46 := Tryd.sizeOf108
  v46 := Tryd.zeroValue108
  t51 := Tryd.underlying116
  a51 := Tryd.isAgg116
  z51 := Tryd.sizeOf116
  v51 := Tryd.zeroValue116
  t53 := Tryd.underlying102
  a53 := Tryd.isAgg102
  z53 := Tryd.sizeOf102
  v53 := Tryd.zeroValue102
  t171 := Tryd.underlying101
  a171 := Tryd.isAgg101
  z171 := Tryd.sizeOf101
  v171 := Tryd.zeroValue101
  t173 := Tryd.underlying105
  a173 := Tryd.isAgg105
  z173 := Tryd.sizeOf105
  v173 := Tryd.zeroValue105
  t212 := Tryd.underlying115
  a212 := Tryd.isAgg115
  z212 := Tryd.sizeOf115
  v212 := Tryd.zeroValue115
  t213 := Tryd.underlying117
  a213 := Tryd.isAgg117
  z213 := Tryd.sizeOf117
  t232 := Tryd.underlying123
  a232 := Tryd.isAgg123
  z232 := Tryd.sizeOf123
  v232 := Tryd.zeroValue123
  t233 := Tryd.underlying124
  a233 := Tryd.isAgg124
  z233 := Tryd.sizeOf124
  v233 := Tryd.zeroValue124
  g17 := by kernel_rfl
  g18 := by kernel_rfl
  g19 := by kernel_rfl
  i0 := by kernel_rfl
  i2 := by kernel_rfl
  i3 := by kernel_rfl
  i4 := by kernel_rfl
  i5 := by kernel_rfl
  i9 := by kernel_rfl
  i20 := by kernel_rfl
  i37 := by kernel_rfl
  i46 := by kernel_rfl
  i51 := by kernel_rfl
  i53 := by kernel_rfl
  i171 := by kernel_rfl
  i173 := by kernel_rfl
  i212 := by kernel_rfl
  i232 := by kernel_rfl
  i233 := by kernel_rfl
  m17 := by kernel_rfl
  m18 := by kernel_rfl
  m19 := by kernel_rfl }
open Go.RowKit Go.Sort Go.Lib in
theorem Tryd.internal_strconv_Itoa (n : Int) (h0 : -9223372036854775808 ≤ n) (h1 : n ≤ 9223372036854775807) (w : World) (htab : Lib.TabIs Tryd.prog w "internal/strconv.uint64pow10" .u64 Lib.pow10Tab) :
    Calls Tryd.prog 67 #[.int .i64 n] w fun e w' => e = .returned (.string ⟨(Lib.itoa n).toArray⟩) ∧ ∃ k os, w' = grow (w.drewN k) os := Any.internal_strconv_Itoa Tryd.laysM243 n h0 h1 w htab
def Tryd.laysM316_ren : Go.Shelf.Ren := ⟨fun | 316 => 62 | n => n, fun | 9 => 9 | 3 => 3 | 4 => 4 | 37 => 96 | 0 => 0 | 127 => 97 | 5 => 5 | n => n, fun | n => n⟩
theorem Tryd.laysM316 : Go.Proofs.LaysM.n316 Tryd.prog Tryd.laysM316_ren := {
  mixed := by kernel_rfl
  f316 := Tryd.func62.trans (congrArg some (by kernel_rfl))
  t0 := Tryd.underlying0
  a0 := Tryd.isAgg0
  z0 := Tryd.sizeOf0
  v0 := Tryd.zeroValue0
  t3 := Tryd.underlying3
  a3 := Tryd.isAgg3
  z3 := Tryd.sizeOf3
  v3 := Tryd.zeroValue3
  t4 := Tryd.underlying4
  a4 := Tryd.isAgg4
  z4 := Tryd.sizeOf4
  v4 := Tryd.zeroValue4
  t9 := Tryd.underlying9
  a9 := Tryd.isAgg9
  z9 := Tryd.sizeOf9
  v9 := Tryd.zeroValue9
  t37 := Tryd.underlying96
  a37 := Tryd.isAgg96
  z37 := Tryd.sizeOf96
  v37 := Tryd.zeroValue96
  t127 := Tryd.underlying97
  a127 := Tryd.isAgg97
  z127 := Tryd.sizeOf97
  v127 := Tryd.zeroValue97
  t5 := Tryd.underlying5
  a5 := Tryd.isAgg5
  z5 := Tryd.sizeOf5
  v5 := Tryd.zeroValue5
  i0 := by kernel_rfl
  i3 := by kernel_rfl
  i4 := by kernel_rfl
  i5 := by kernel_rfl
  i9 := by kernel_rfl
  i37 := by kernel_rfl
  i127 := by kernel_rfl }
open Go.RowKit in
theorem Tryd.stringslite_Clone (s : ByteArray) (w : World) (hlim : s.size ≤ 281474976710656) :
    Calls Tryd.prog 62 #[.string s] w fun e w' => e = .returned (.string s) ∧ Below w.heap.size w w' := Any.stringslite_Clone Tryd.laysM316 s w hlim
def Tryd.lays217_ren : Go.Shelf.Ren := ⟨fun | 217 => 71 | 266 => 76 | n => n, fun | 9 => 9 | 5 => 5 | 3 => 3 | n => n, fun | n => n⟩
theorem Tryd.lays217 : Go.Proofs.Lays.n217 Tryd.prog Tryd.lays217_ren := {
  mixed := by kernel_rfl
  f217 := Tryd.func71.trans (congrArg some (by kernel_rfl))
  f266 := Tryd.func76.trans (congrArg some (by kernel_rfl))
  t3 := Tryd.underlying3
  a3 := Tryd.isAgg3
  z3 := Tryd.sizeOf3
  v3 := Tryd.zeroValue3
  t5 := Tryd.underlying5
  a5 := Tryd.isAgg5
  z5 := Tryd.sizeOf5
  v5 := Tryd.zeroValue5
  t9 := Tryd.underlying9
  a9 := Tryd.isAgg9
  z9 := Tryd.sizeOf9
  v9 := Tryd.zeroValue9 }
open Go.RowKit Go.Lib in
theorem Tryd.stringslite_IndexByte (s : ByteArray) (c : Int) (w : World) :
    Calls Tryd.prog 71 #[.string s, .int .u8 c] w fun e w' => e = .returned (.int .i64 (Lib.indexByte s.data.toList c.toNat.toUInt8)) ∧ w' = w := Any.stringslite_IndexByte Tryd.lays217 s c w
def Tryd.lays219_ren : Go.Shelf.Ren := ⟨fun | 219 => 77 | 217 => 71 | 225 => 84 | 224 => 83 | 267 => 85 | 266 => 76 | 314 => 91 | n => n, fun | 9 => 9 | 3 => 3 | 4 => 4 | 5 => 5 | 46 => 108 | 146 => 120 | 51 => 116 | n => n, fun | 1 => 3 | n => n⟩
theorem Tryd.lays219 : Go.Proofs.Lays.n219 Tryd.prog Tryd.lays219_ren := {
  mixed := by kernel_rfl
  f217 := Tryd.func71.trans (congrArg some (by kernel_rfl))
  f219 := Tryd.func77.trans (congrArg some (by kernel_rfl))
  f224 := Tryd.func83.trans (congrArg some (by kernel_rfl))
  f225 := Tryd.func84.trans (congrArg some (by kernel_rfl))
  f266 := Tryd.func76.trans (congrArg some (by kernel_rfl))
  f267 := Tryd.func85.trans (congrArg some (by kernel_rfl))
  f314 := Tryd.func91.trans (congrArg some (by kernel_rfl))
  t3 := Tryd.underlying3
  a3 := Tryd.isAgg3
  z3 := Tryd.sizeOf3
  v3 := Tryd.zeroValue3
  t4 := Tryd.underlying4
  a4 := Tryd.isAgg4
  z4 := Tryd.sizeOf4
  v4 := Tryd.zeroValue4
  t5 := Tryd.underlying5
  a5 := Tryd.isAgg5
  z5 := Tryd.sizeOf5
  v5 := Tryd.zeroValue5
  t9 := Tryd.underlying9
  a9 := Tryd.isAgg9
  z9 := Tryd.sizeOf9
  v9 := Tryd.zeroValue9
  t46 := Tryd.underlying108
  a46 := Tryd.isAgg108
  z46 := Tryd.sizeOf108
  v46 := Tryd.zeroValue108
  t51 := Tryd.underlying116
  a51 := Tryd.isAgg116
  z51 := Tryd.sizeOf116
  v51 := Tryd.zeroValue116
  t146 := Tryd.underlying120
  a146 := Tryd.isAgg120
  z146 := Tryd.sizeOf120
  v146 := Tryd.zeroValue120
  g1 := by kernel_rfl }
open Go.RowKit Go.Lib in
theorem Tryd.stringslite_Index_one (s : ByteArray) (c : UInt8) (w : World) :
    Calls Tryd.prog 77 #[.string s, .string ⟨#[c]⟩] w fun e w' => e = .returned (.int .i64 (Lib.indexByte s.data.toList c)) ∧ w' = w := Any.stringslite_Index_one Tryd.lays219 s c w
def Tryd.lays144_ren : Go.Shelf.Ren := ⟨fun | 144 => 65 | 143 => 72 | 219 => 77 | 217 => 71 | 225 => 84 | 224 => 83 | 267 => 85 | 266 => 76 | 314 => 91 | n => n, fun | 9 => 9 | 4 => 4 | 3 => 3 | 5 => 5 | 46 => 108 | 146 => 120 | 51 => 116 | n => n, fun | 1 => 3 | n => n⟩
theorem Tryd.lays144 : Go.Proofs.Lays.n144 Tryd.prog Tryd.lays144_ren := {
  mixed := by kernel_rfl
  f143 := Tryd.func72.trans (congrArg some (by kernel_rfl))
  f144 := Tryd.func65.trans (congrArg some (by kernel_rfl))
  f217 := Tryd.func71.trans (congrArg some (by kernel_rfl))
  f219 := Tryd.func77.trans (congrArg some (by kernel_rfl))
  f224 := Tryd.func83.trans (congrArg some (by kernel_rfl))
  f225 := Tryd.func84.trans (congrArg some (by kernel_rfl))
  f266 := Tryd.func76.trans (congrArg some (by kernel_rfl))
  f267 := Tryd.func85.trans (congrArg some (by kernel_rfl))
  f314 := Tryd.func91.trans (congrArg some (by kernel_rfl))
  t3 := Tryd.underlying3
  a3 := Tryd.isAgg3
  z3 := Tryd.sizeOf3
  v3 := Tryd.zeroValue3
  t4 := Tryd.underlying4
  a4 := Tryd.isAgg4
  z4 := Tryd.sizeOf4
  v4 := Tryd.zeroValue4
  t5 := Tryd.underlying5
  a5 := Tryd.isAgg5
  z5 := Tryd.sizeOf5
  v5 := Tryd.zeroValue5
  t9 := Tryd.underlying9
  a9 := Tryd.isAgg9
  z9 := Tryd.sizeOf9
  v9 := Tryd.zeroValue9
  t46 := Tryd.underlying108
  a46 := Tryd.isAgg108
  z46 := Tryd.sizeOf108
  v46 := Tryd.zeroValue108
  t51 := Tryd.underlying116
  a51 := Tryd.isAgg116
  z51 := Tryd.sizeOf116
  v51 := Tryd.zeroValue116
  t146 := Tryd.underlying120
  a146 := Tryd.isAgg120
  z146 := Tryd.sizeOf120
  v146 := Tryd.zeroValue120
  g1 := by kernel_rfl }
open Go.RowKit Go.Lib in
theorem Tryd.strings_Contains (s sub : ByteArray) (m : Int) (w : World) (hs : s.size < 4294967281) (hm : w.cell? ⟨3, 0, none⟩ = some (.int .i64 m)) :
    Calls Tryd.prog 65 #[.string s, .string sub] w fun e w' => e = .returned (.bool (Lib.contains s.data.toList sub.data.toList)) ∧ w' = w := Any.strings_Contains Tryd.lays144 s sub m w hs hm
def Tryd.lays227_ren : Go.Shelf.Ren := ⟨fun | 227 => 58 | n => n, fun | 9 => 9 | 116 => 84 | 4 => 4 | 0 => 0 | 3 => 3 | 5 => 5 | n => n, fun | n => n⟩
theorem Tryd.lays227 : Go.Proofs.Lays.n227 Tryd.prog Tryd.lays227_ren := {
  mixed := by kernel_rfl
  f227 := Tryd.func58.trans (congrArg some (by kernel_rfl))
  t0 := Tryd.underlying0
  a0 := Tryd.isAgg0
  z0 := Tryd.sizeOf0
  v0 := Tryd.zeroValue0
  t3 := Tryd.underlying3
  a3 := Tryd.isAgg3
  z3 := Tryd.sizeOf3
  v3 := Tryd.zeroValue3
  t4 := Tryd.underlying4
  a4 := Tryd.isAgg4
  z4 := Tryd.sizeOf4
  v4 := Tryd.zeroValue4
  t5 := Tryd.underlying5
  a5 := Tryd.isAgg5
  z5 := Tryd.sizeOf5
  v5 := Tryd.zeroValue5
  t9 := Tryd.underlying9
  a9 := Tryd.isAgg9
  z9 := Tryd.sizeOf9
  v9 := Tryd.zeroValue9
  t116 := Tryd.underlying84
  a116 := Tryd.isAgg84
  z116 := Tryd.sizeOf84 }
open Go.RowKit Go.Lib in
theorem Tryd.strings_makeASCIISet (hv116 : ∀ w, (zeroValue 84).run Tryd.prog w = .ok (.agg (Array.replicate 256 (.bool false))) w) (chars : ByteArray) (w : World) (hs : chars.size < 4294967281) (hascii : ∀ (j : Nat) b, chars.data.toList[j]? = some b → b.toNat < 128) :
    Calls Tryd.prog 58 #[.string chars] w fun e w' => e = .returned (.tuple #[.agg (Lib.setCells chars.data.toList), .bool true]) ∧ w' = w.alloc (.cells (Lib.setCells chars.data.toList) 84) := Any.strings_makeASCIISet Tryd.lays227 hv116 (by kernel_rfl) chars w hs hascii
end Go.Proofs
