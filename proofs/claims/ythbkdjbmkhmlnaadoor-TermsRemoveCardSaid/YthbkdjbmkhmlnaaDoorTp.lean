/- The law's in, union, disjoint; the mathematics of TermsRemove. -/
import Derived.Test.YthbkdjbmkhmlnaaDoorTn
namespace Go.Proofs.YthbkdjbmkhmlnaaDoor
open Go.RowKit
set_option linter.unusedVariables false

def inL (T : List (List Fa)) (t : List Fa) : Bool := T.any fun y => sfB y t
set_option maxRecDepth 100000 in
set_option maxHeartbeats 4000000 in
theorem in_any (Ls : List (Sl Fa)) (t : List Fa) (A : Option Addr) (n c : Nat) (B : Option Addr) (m d : Nat) (w : World) (h : LR (slC faC) w A n Ls) (hB : LR faC w B m t) (hn : n ≤ 100000) (hs : ∀ x ∈ Ls, x.L.length ≤ 100000) (hm : m ≤ 100000) : Calls Tryd.prog 44 #[.slice A n c, .slice B m d] w fun e w' => e = .returned (.bool (inL (Ls.map fun x => x.L) t)) ∧ Below w.heap.size w w' := by
  have hlen := Lib.hid h.len
  have hnb := Lib.hid hn
  have hS := Lib.hid (fun (x : Sl Fa) (hx : x ∈ Ls) W (hW : Below w.heap.size w W) => sset_any x.L t x.A x.L.length x.c B m d W (((h.bel hW).el x hx).1) (hB.bel hW) (hs x hx) hm)
  replace h := Lib.hid h
  have hall0 : Hid (inL (Ls.map fun x => x.L) t = ((Ls.drop 0).any fun x => sfB x.L t)) := Lib.hid (by unfold inL; rw [List.any_map]; rfl)
  obtain ⟨bv, hbv⟩ : ∃ z, z = inL (Ls.map fun x => x.L) t := ⟨_, rfl⟩
  rw [← hbv] at hall0
  rw [← hbv]
  clear hB hn hs hm hbv
  go_enter Tryd.func44, Tryd.ntmps44
  go_wp2
  go_loopw [5] (fun iv wr => ∃ i : Nat, i ≤ n ∧ iv = .int .i64 i ∧ Below w.heap.size w wr ∧ bv = ((Ls.drop i).any fun x => sfB x.L t)) (fun iv _ => n - (intOf iv).toNat)
  case atStart => exact ⟨0, Nat.zero_le _, rfl, Below.refl _ _, hall0.out⟩
  case round =>
    obtain ⟨i, hin, rfl, Bw, hall⟩ := hrel
    by_cases hlt : i < n
    · obtain ⟨b, o, x, rfl, hx, hxm, e0, hxl, hxc⟩ := fs_get (h.out.bel Bw) hlt
      have hdr := drop_cons_of hx
      have hSx := hS.out x hxm wr Bw
      have hst : bv = (sfB x.L t || ((Ls.drop (i + 1)).any fun x => sfB x.L t)) := by rw [hall, hdr, List.any_cons]
      obtain ⟨q, hq⟩ : ∃ q, q = sfB x.L t := ⟨_, rfl⟩
      rw [← hq] at hSx hst
      replace hSx := Lib.hid hSx
      have hstt := Lib.hid hst
      have hih := Lib.hid hlt
      have g1 : (i : Int) < (n : Int) := by omega
      have g2 : (0 : Int) ≤ (i : Int) := by omega
      have Bi := Lib.hid Bw
      obtain ⟨xn, hxn⟩ : ∃ k, k = x.L.length := ⟨_, rfl⟩
      rw [← hxn] at e0 hSx
      clear hlt hin hx hxm hxl hxc Bw hall hdr hst hq hxn
      go_wp2_with fail
      refine hSx.out.mono ?_
      rintro e w2 ⟨rfl, bb⟩
      have T := Lib.hid (Bi.out.trans (bb.mono Bi.out.size))
      clear bb hSx e0
      cases q with
      | true =>
        have hf : Hid (bv = true) := Lib.hid (by rw [hstt.out]; rfl)
        clear hstt
        go_wp2
        go_ret
        exact ⟨by rw [hf.out]; rfl, T.out⟩
      | false =>
        have hf : Hid (bv = ((Ls.drop (i + 1)).any fun x => sfB x.L t)) := Lib.hid (by rw [hstt.out]; rfl)
        have hlt := hih.out
        have hbb := hnb.out
        clear hstt
        go_wp2
        go_roundw
        case rel => exact ⟨i + 1, by omega, by go_num, T.out, hf.out⟩
        case measure => simp [intOf]; omega
    · obtain rfl : i = n := by omega
      have hf : Hid (bv = false) := Lib.hid (by rw [hall, List.drop_eq_nil_of_le (by rw [hlen.out]; exact Nat.le_refl _)]; rfl)
      have Bi := Lib.hid Bw
      clear hall hin hlt Bw
      go_wp2
      go_ret
      exact ⟨by rw [hf.out]; rfl, Bi.out⟩
set_option maxRecDepth 100000 in
set_option maxHeartbeats 4000000 in
theorem disj_any (Ls Ms : List (Sl Fa)) (A : Option Addr) (n c : Nat) (B : Option Addr) (m d : Nat) (w : World) (h : LR (slC faC) w A n Ls) (hM : LR (slC faC) w B m Ms) (hn : n ≤ 100000) (hm : m ≤ 100000) (hs : ∀ x ∈ Ls, x.L.length ≤ 100000) (hs2 : ∀ x ∈ Ms, x.L.length ≤ 100000) (hd : ∀ x ∈ Ls, inL (Ms.map fun x => x.L) x.L = false) : Calls Tryd.prog 22 #[.slice A n c, .slice B m d] w fun e w' => e = .returned (.bool true) ∧ Below w.heap.size w w' := by
  have hnb := Lib.hid hn
  have hS : Hid (∀ (x : Sl Fa) (hx : x ∈ Ls) W (hW : Below w.heap.size w W), Calls Tryd.prog 44 #[.slice B m d, .slice x.A x.L.length x.c] W fun e w' => e = .returned (.bool false) ∧ Below W.heap.size W w') := Lib.hid (fun x hx W hW => by
    have := in_any Ms x.L B m d x.A x.L.length x.c W (hM.bel hW) ((h.bel hW).el x hx).1 hm hs2 (hs x hx)
    rwa [hd x hx] at this)
  replace h := Lib.hid h
  clear hM hn hm hs hs2 hd
  go_enter Tryd.func22, Tryd.ntmps22
  go_wp2
  go_loopw [5] (fun iv wr => ∃ i : Nat, i ≤ n ∧ iv = .int .i64 i ∧ Below w.heap.size w wr) (fun iv _ => n - (intOf iv).toNat)
  case atStart => exact ⟨0, Nat.zero_le _, rfl, Below.refl _ _⟩
  case round =>
    obtain ⟨i, hin, rfl, Bw⟩ := hrel
    by_cases hlt : i < n
    · obtain ⟨b, o, x, rfl, hx, hxm, e0, hxl, hxc⟩ := fs_get (h.out.bel Bw) hlt
      have hSx := Lib.hid (hS.out x hxm wr Bw)
      have hih := Lib.hid hlt
      have g1 : (i : Int) < (n : Int) := by omega
      have g2 : (0 : Int) ≤ (i : Int) := by omega
      have Bi := Lib.hid Bw
      obtain ⟨xn, hxn⟩ : ∃ k, k = x.L.length := ⟨_, rfl⟩
      rw [← hxn] at e0 hSx
      clear hlt hin hx hxm hxl hxc Bw hxn
      go_wp2_with fail
      refine hSx.out.mono ?_
      rintro e w2 ⟨rfl, bb⟩
      have T := Lib.hid (Bi.out.trans (bb.mono Bi.out.size))
      have hlt := hih.out
      have hbb := hnb.out
      clear bb hSx e0
      go_wp2
      go_roundw
      case rel => exact ⟨i + 1, by omega, by go_num, T.out⟩
      case measure => simp [intOf]; omega
    · obtain rfl : i = n := by omega
      have Bi := Lib.hid Bw
      clear hin hlt Bw
      go_wp2
      go_ret
      exact ⟨rfl, Bi.out⟩
set_option maxRecDepth 100000 in
set_option maxHeartbeats 4000000 in
theorem union_any (La Lb Lc : List (Sl Fa)) (A : Option Addr) (na ca : Nat) (B : Option Addr) (nb cb : Nat) (C : Option Addr) (nc cc : Nat) (w : World) (hA : LR (slC faC) w A na La) (hB : LR (slC faC) w B nb Lb) (hC : LR (slC faC) w C nc Lc) (ha : na ≤ 100000) (hb : nb ≤ 100000) (hc : nc ≤ 100000) (sa : ∀ x ∈ La, x.L.length ≤ 100000) (sb : ∀ x ∈ Lb, x.L.length ≤ 100000) (sc : ∀ x ∈ Lc, x.L.length ≤ 100000)
    (h1 : ∀ x ∈ Lc, inL (La.map fun x => x.L) x.L = true ∨ inL (Lb.map fun x => x.L) x.L = true) (h2 : ∀ x ∈ La, inL (Lc.map fun x => x.L) x.L = true) (h3 : ∀ x ∈ Lb, inL (Lc.map fun x => x.L) x.L = true) : Calls Tryd.prog 21 #[.slice A na ca, .slice B nb cb, .slice C nc cc] w fun e w' => e = .returned (.bool true) ∧ Below w.heap.size w w' := by
  have hab := Lib.hid ha
  have hbb0 := Lib.hid hb
  have hcb := Lib.hid hc
  have hI1 : Hid (∀ (x : Sl Fa) (hx : x ∈ Lc) W (hW : Below w.heap.size w W), Calls Tryd.prog 44 #[.slice A na ca, .slice x.A x.L.length x.c] W fun e w' => e = .returned (.bool (inL (La.map fun x => x.L) x.L)) ∧ Below W.heap.size W w') := Lib.hid (fun x hx W hW => in_any La x.L A na ca x.A x.L.length x.c W (hA.bel hW) ((hC.bel hW).el x hx).1 ha sa (sc x hx))
  have hI2 : Hid (∀ (x : Sl Fa) (hx : x ∈ Lc) W (hW : Below w.heap.size w W), Calls Tryd.prog 44 #[.slice B nb cb, .slice x.A x.L.length x.c] W fun e w' => e = .returned (.bool (inL (Lb.map fun x => x.L) x.L)) ∧ Below W.heap.size W w') := Lib.hid (fun x hx W hW => in_any Lb x.L B nb cb x.A x.L.length x.c W (hB.bel hW) ((hC.bel hW).el x hx).1 hb sb (sc x hx))
  have hI3 : Hid (∀ (x : Sl Fa) (hx : x ∈ La) W (hW : Below w.heap.size w W), Calls Tryd.prog 44 #[.slice C nc cc, .slice x.A x.L.length x.c] W fun e w' => e = .returned (.bool true) ∧ Below W.heap.size W w') := Lib.hid (fun x hx W hW => by
    have := in_any Lc x.L C nc cc x.A x.L.length x.c W (hC.bel hW) ((hA.bel hW).el x hx).1 hc sc (sa x hx)
    rwa [h2 x hx] at this)
  have hI4 : Hid (∀ (x : Sl Fa) (hx : x ∈ Lb) W (hW : Below w.heap.size w W), Calls Tryd.prog 44 #[.slice C nc cc, .slice x.A x.L.length x.c] W fun e w' => e = .returned (.bool true) ∧ Below W.heap.size W w') := Lib.hid (fun x hx W hW => by
    have := in_any Lc x.L C nc cc x.A x.L.length x.c W (hC.bel hW) ((hB.bel hW).el x hx).1 hc sc (sb x hx)
    rwa [h3 x hx] at this)
  replace hA := Lib.hid hA
  replace hB := Lib.hid hB
  replace hC := Lib.hid hC
  replace h1 := Lib.hid h1
  clear ha hb hc sa sb sc h2 h3
  go_enter Tryd.func21, Tryd.ntmps21
  go_wp2
  go_loopw [7] (fun iv wr => ∃ i : Nat, i ≤ nc ∧ iv = .int .i64 i ∧ Below w.heap.size w wr) (fun iv _ => nc - (intOf iv).toNat)
  case atStart => exact ⟨0, Nat.zero_le _, rfl, Below.refl _ _⟩
  case round =>
    obtain ⟨i, hin, rfl, Bw⟩ := hrel
    by_cases hlt : i < nc
    · obtain ⟨b, o, x, rfl, hx, hxm, e0, hxl, hxc⟩ := fs_get (hC.out.bel Bw) hlt
      have hSx := Lib.hid (hI1.out x hxm wr Bw)
      have hSy := Lib.hid (fun W hW => hI2.out x hxm W hW)
      have hor := h1.out x hxm
      obtain ⟨q1, hq1⟩ : ∃ q, q = inL (La.map fun x => x.L) x.L := ⟨_, rfl⟩
      obtain ⟨q2, hq2⟩ : ∃ q, q = inL (Lb.map fun x => x.L) x.L := ⟨_, rfl⟩
      rw [← hq1] at hSx hor
      rw [← hq2] at hSy hor
      replace hor := Lib.hid hor
      have hih := Lib.hid hlt
      have g1 : (i : Int) < (nc : Int) := by omega
      have g2 : (0 : Int) ≤ (i : Int) := by omega
      have Bi := Lib.hid Bw
      obtain ⟨xn, hxn⟩ : ∃ k, k = x.L.length := ⟨_, rfl⟩
      rw [← hxn] at e0 hSx hSy
      have e0h := Lib.hid e0
      clear hlt hin hx hxm hxl hxc Bw hxn hq1 hq2
      go_wp2_with fail
      clear e0
      refine hSx.out.mono ?_
      rintro e w2 ⟨rfl, bb⟩
      have T := Lib.hid (Bi.out.trans (bb.mono Bi.out.size))
      have e0 : w2.cell? ⟨b, o + i, none⟩ = some (.slice x.A xn x.c) := bel_cell bb e0h.out
      clear bb hSx
      cases q1 with
      | true =>
        have hlt := hih.out
        have hbb := hcb.out
        clear e0 hSy
        go_wp2
        go_roundw
        case rel => exact ⟨i + 1, by omega, by go_num, T.out⟩
        case measure => simp [intOf]; omega
      | false =>
        obtain rfl : q2 = true := by
          rcases hor.out with h | h
          · cases h
          · exact h
        clear hor
        have hSz := Lib.hid (hSy.out w2 T.out)
        clear hSy
        go_wp2_with fail
        clear e0
        refine hSz.out.mono ?_
        rintro e w3 ⟨rfl, bb⟩
        have T2 := Lib.hid (T.out.trans (bb.mono T.out.size))
        have hlt := hih.out
        have hbb := hcb.out
        clear bb hSz T
        go_wp2
        go_roundw
        case rel => exact ⟨i + 1, by omega, by go_num, T2.out⟩
        case measure => simp [intOf]; omega
    · have Bi := Lib.hid Bw
      have g0 : ¬ ((i : Int) < (nc : Int)) := by omega
      clear hin hlt Bw hI1 hI2 h1
      obtain ⟨wo, hwo⟩ : ∃ W, W = wr := ⟨wr, rfl⟩
      subst hwo
      go_wp2
      clear g0
      go_loopw [8] (fun iv wr => ∃ i : Nat, i ≤ na ∧ iv = .int .i64 i ∧ Below w.heap.size w wr) (fun iv _ => na - (intOf iv).toNat)
      case atStart => exact ⟨0, Nat.zero_le _, rfl, Bi.out⟩
      case round =>
        obtain ⟨j, hjn, rfl, Bw⟩ := hrel
        by_cases hlt : j < na
        · obtain ⟨b, o, x, rfl, hx, hxm, e0, hxl, hxc⟩ := fs_get (hA.out.bel Bw) hlt
          have hSx := Lib.hid (hI3.out x hxm wr Bw)
          have hih := Lib.hid hlt
          have g1 : (j : Int) < (na : Int) := by omega
          have g2 : (0 : Int) ≤ (j : Int) := by omega
          have Bj := Lib.hid Bw
          obtain ⟨xn, hxn⟩ : ∃ k, k = x.L.length := ⟨_, rfl⟩
          rw [← hxn] at e0 hSx
          clear hlt hjn hx hxm hxl hxc Bw hxn
          go_wp2_with fail
          refine hSx.out.mono ?_
          rintro e w2 ⟨rfl, bb⟩
          have T := Lib.hid (Bj.out.trans (bb.mono Bj.out.size))
          have hlt := hih.out
          have hbb := hab.out
          clear bb hSx e0
          go_wp2
          go_roundw
          case rel => exact ⟨j + 1, by omega, by go_num, T.out⟩
          case measure => simp [intOf]; omega
        · have Bj := Lib.hid Bw
          have g0 : ¬ ((j : Int) < (na : Int)) := by omega
          clear hjn hlt Bw hI3
          obtain ⟨wp, hwp⟩ : ∃ W, W = wr := ⟨wr, rfl⟩
          subst hwp
          go_wp2
          clear g0
          go_loopw [9] (fun iv wr => ∃ i : Nat, i ≤ nb ∧ iv = .int .i64 i ∧ Below w.heap.size w wr) (fun iv _ => nb - (intOf iv).toNat)
          case atStart => exact ⟨0, Nat.zero_le _, rfl, Bj.out⟩
          case round =>
            obtain ⟨k, hkn, rfl, Bw⟩ := hrel
            by_cases hlt : k < nb
            · obtain ⟨b, o, x, rfl, hx, hxm, e0, hxl, hxc⟩ := fs_get (hB.out.bel Bw) hlt
              have hSx := Lib.hid (hI4.out x hxm wr Bw)
              have hih := Lib.hid hlt
              have g1 : (k : Int) < (nb : Int) := by omega
              have g2 : (0 : Int) ≤ (k : Int) := by omega
              have Bk := Lib.hid Bw
              obtain ⟨xn, hxn⟩ : ∃ k, k = x.L.length := ⟨_, rfl⟩
              rw [← hxn] at e0 hSx
              clear hlt hkn hx hxm hxl hxc Bw hxn
              go_wp2_with fail
              refine hSx.out.mono ?_
              rintro e w2 ⟨rfl, bb⟩
              have T := Lib.hid (Bk.out.trans (bb.mono Bk.out.size))
              have hlt := hih.out
              have hbb := hbb0.out
              clear bb hSx e0
              go_wp2
              go_roundw
              case rel => exact ⟨k + 1, by omega, by go_num, T.out⟩
              case measure => simp [intOf]; omega
            · have Bk := Lib.hid Bw
              have g0 : ¬ ((k : Int) < (nb : Int)) := by omega
              clear hkn hlt Bw
              go_wp2
              go_ret
              exact ⟨rfl, Bk.out⟩
/-- A removal takes away the terms of its operand, an addition adds them. -/
theorem rm_ok {a b : F9.Tr} (wa : a.wf) (wb : b.wf) (la : a.pre.length ≤ 12) (lb : b.pre.length ≤ 12) (hz : F10.isZ b = false) (h1 : RTe a = 0) (h2 : RTe (.bin 5 a b) = 0) (h3 : RTe (.bin 6 a b) = 0) (h4 : RTe (.bin 5 F10.zeroT b) = 0) :
    RTb (.bin 5 a b) = (RTb a || RTb (.bin 5 F10.zeroT b)) ∧ RTb (.bin 6 a b) = (RTb a && !RTb (.bin 5 F10.zeroT b)) ∧
    (∀ x ∈ RTm (.bin 5 a b), inL (RTm a) x = true ∨ inL (RTm (.bin 5 F10.zeroT b)) x = true) ∧ (∀ x ∈ RTm a, inL (RTm (.bin 5 a b)) x = true) ∧ (∀ x ∈ RTm (.bin 5 F10.zeroT b), inL (RTm (.bin 5 a b)) x = true) ∧
    (∀ x ∈ RTm (.bin 5 a b), inL (RTm (.bin 6 a b)) x = true ∨ inL (RTm (.bin 5 F10.zeroT b)) x = true) ∧ (∀ x ∈ RTm (.bin 6 a b), inL (RTm (.bin 5 a b)) x = true) ∧ (∀ x ∈ RTm (.bin 6 a b), inL (RTm (.bin 5 F10.zeroT b)) x = false) := by
  obtain ⟨m, e1⟩ := rte_some h1
  obtain ⟨more, e2⟩ := rte_some h2
  obtain ⟨less, e3⟩ := rte_some h3
  obtain ⟨own, e4⟩ := rte_some h4
  have hzw : (F10.zeroT).wf := .inr (.inr ⟨.inr rfl, rfl, rfl⟩)
  have w5 : (F9.Tr.bin 5 a b).wf := ⟨by decide, by decide, wa, wb⟩
  have w6 : (F9.Tr.bin 6 a b).wf := ⟨by decide, by decide, wa, wb⟩
  have w0 : (F9.Tr.bin 5 F10.zeroT b).wf := ⟨by decide, by decide, hzw, wb⟩
  have l0 : (F10.zeroT).pre.length = 1 := rfl
  have key : ∀ (t : F9.Tr) (m : List Nat), t.wf → t.pre.length ≤ 64 → F10.rex t = some m → ∀ z, (z ∈ F10.mdT (F10.atoms t []) m ↔ F10.tms (F10.atoms t []) m z) := by
    intro t m hw hl hr z
    have lX : (F10.atoms t []).length ≤ 64 := by have := F10.atoms_len t []; simp only [List.length_nil] at this; omega
    have fX := F10.expand_same t (wf_shp hw)
    rw [hr] at fX
    exact F10.mdT_mem lX fX.2.2.2.2 (rex_bits (wf_shp hw) hl hr)
  have ka := key a m wa (by omega) e1
  have k5 := key _ more w5 (by rw [bin_len]; omega) e2
  have k6 := key _ less w6 (by rw [bin_len]; omega) e3
  have k0 := key _ own w0 (by rw [bin_len]; omega) e4
  have atz : F10.atoms (.bin 5 F10.zeroT b) [] = F10.atoms b [] := rfl
  have at5 : F10.atoms (.bin 5 a b) [] = F10.atoms b (F10.atoms a []) := rfl
  have at6 : F10.atoms (.bin 6 a b) [] = F10.atoms b (F10.atoms a []) := rfl
  obtain ⟨r1, r2, r3, r4, r5, r6, r7, r8⟩ := F10.removes (wf_shp wa) (wf_shp wb) hz (by omega) e1 e2 e3 e4
  rw [at5] at k5
  rw [at6] at k6
  rw [atz] at k0
  have inT : ∀ (A : List F10.Fac) (l : List Nat) (z : List F10.Fac), (∀ y, (y ∈ F10.mdT A l ↔ F10.tms A l y)) → F10.inn (F10.tms A l) z → inL ((F10.mdT A l).map fun l => l.map toFa) (z.map toFa) = true := by
    rintro A l z hk ⟨y, hy, hs⟩
    unfold inL
    rw [List.any_eq_true]
    exact ⟨y.map toFa, List.mem_map_of_mem ((hk y).2 hy), map_sfB hs⟩
  have outT : ∀ (A : List F10.Fac) (l : List Nat) (z : List F10.Fac), (∀ y, (y ∈ F10.mdT A l ↔ F10.tms A l y)) → inL ((F10.mdT A l).map fun l => l.map toFa) (z.map toFa) = true → F10.inn (F10.tms A l) z := by
    intro A l z hk h
    unfold inL at h
    obtain ⟨u, hu, hs⟩ := List.any_eq_true.1 h
    obtain ⟨y, hy, rfl⟩ := List.mem_map.1 hu
    exact ⟨y, (hk y).1 hy, sfB_map hs⟩
  have ea : RTm a = (F10.mdT (F10.atoms a []) m).map fun l => l.map toFa := by unfold RTm; rw [e1]
  have e5 : RTm (.bin 5 a b) = (F10.mdT (F10.atoms b (F10.atoms a [])) more).map fun l => l.map toFa := by unfold RTm; rw [e2]; rfl
  have e6 : RTm (.bin 6 a b) = (F10.mdT (F10.atoms b (F10.atoms a [])) less).map fun l => l.map toFa := by unfold RTm; rw [e3]; rfl
  have e0 : RTm (.bin 5 F10.zeroT b) = (F10.mdT (F10.atoms b []) own).map fun l => l.map toFa := by unfold RTm; rw [e4]; rfl
  have ba : RTb a = m.contains 0 := by unfold RTb; rw [e1]
  have b5 : RTb (.bin 5 a b) = more.contains 0 := by unfold RTb; rw [e2]
  have b6 : RTb (.bin 6 a b) = less.contains 0 := by unfold RTb; rw [e3]
  have b0 : RTb (.bin 5 F10.zeroT b) = own.contains 0 := by unfold RTb; rw [e4]
  rw [ea, e5, e6, e0, ba, b5, b6, b0]
  refine ⟨?_, ?_, fun x hx => ?_, fun x hx => ?_, fun x hx => ?_, fun x hx => ?_, fun x hx => ?_, fun x hx => ?_⟩
  · rw [Bool.eq_iff_iff, Bool.or_eq_true, List.contains_iff_mem, List.contains_iff_mem, List.contains_iff_mem]; exact r1
  · rw [Bool.eq_iff_iff, Bool.and_eq_true, Bool.not_eq_true', List.contains_iff_mem, List.contains_iff_mem, r2]
    constructor
    · rintro ⟨h, h'⟩
      exact ⟨h, by cases hc : own.contains 0 with
        | false => rfl
        | true => exact absurd (List.contains_iff_mem.1 hc) h'⟩
    · rintro ⟨h, h'⟩
      exact ⟨h, fun hm => by rw [List.contains_iff_mem.2 hm] at h'; cases h'⟩
  · obtain ⟨z, hz', rfl⟩ := List.mem_map.1 hx
    rcases r3 z ((k5 z).1 hz') with h | h
    · exact .inl (inT _ _ _ ka h)
    · exact .inr (inT _ _ _ k0 h)
  · obtain ⟨z, hz', rfl⟩ := List.mem_map.1 hx
    exact inT _ _ _ k5 (r4 z ((ka z).1 hz'))
  · obtain ⟨z, hz', rfl⟩ := List.mem_map.1 hx
    exact inT _ _ _ k5 (r5 z ((k0 z).1 hz'))
  · obtain ⟨z, hz', rfl⟩ := List.mem_map.1 hx
    rcases r6 z ((k5 z).1 hz') with h | h
    · exact .inl (inT _ _ _ k6 h)
    · exact .inr (inT _ _ _ k0 h)
  · obtain ⟨z, hz', rfl⟩ := List.mem_map.1 hx
    exact inT _ _ _ k5 (r7 z ((k6 z).1 hz'))
  · obtain ⟨z, hz', rfl⟩ := List.mem_map.1 hx
    cases hc : inL ((F10.mdT (F10.atoms b []) own).map fun l => l.map toFa) (z.map toFa) with
    | false => rfl
    | true => exact absurd (outT _ _ _ k0 hc) (r8 z ((k6 z).1 hz'))
end Go.Proofs.YthbkdjbmkhmlnaaDoor
