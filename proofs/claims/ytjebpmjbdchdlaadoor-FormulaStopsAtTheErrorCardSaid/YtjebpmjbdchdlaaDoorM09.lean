/- The program's reader: power, primary. -/
import Derived.Test.YtjebpmjbdchdlaaDoorM08
namespace Go.Proofs.YtjebpmjbdchdlaaDoor
open Go.RowKit
set_option linter.unusedVariables false

theorem nod_10 (k : Nat) : nodB ⟨((10 : Nat) : Int), ⟨([] : F9.Bs).toArray⟩, (k : Int)⟩ = (decide (1 ≤ k) && decide (k ≤ 6)) := by
  show (decide ((1 : Int) ≤ 10) && decide ((10 : Int) ≤ 10) && fldB ⟨10, ⟨#[]⟩, (k : Int)⟩) = _
  rw [fld10]
  have e : (⟨#[]⟩ : ByteArray).toList.isEmpty = true := by rw [ByteArray.toList_eq]; rfl
  rw [e, Bool.eq_iff_iff]
  simp
  omega
theorem nod_2 {x : F9.Bs} (hx : nameL x = true) (k : Nat) : nodB ⟨((2 : Nat) : Int), ⟨x.toArray⟩, (k : Int)⟩ = (decide (2 ≤ k) && decide (k ≤ 8)) := by
  show (decide ((1 : Int) ≤ 2) && decide ((2 : Int) ≤ 10) && fldB ⟨2, ⟨x.toArray⟩, (k : Int)⟩) = _
  rw [fld2]
  have e : nameB ⟨x.toArray⟩ = true := by unfold nameB; exact hx
  rw [e, Bool.eq_iff_iff]
  simp
  omega
section
variable {fs : List GBk} {w0 W : World} {rb : Nat} {t nm : ByteArray} {r : F9.Bs} {N : List F9.Nd} {Wt : List Nat}
/-- The reader behind an error: only what is left matters. -/
def RE (fs : List GBk) (w0 W : World) (rb : Nat) (t nm : ByteArray) (r : F9.Bs) : Prop := ∃ N Wt, RS fs w0 W rb t nm r N Wt
set_option maxRecDepth 100000 in
set_option maxHeartbeats 4000000 in
theorem RS.powR (h : RS fs w0 W rb t nm r N Wt) (hO : Og w0) (ht : t.size ≤ 100000) (hN : N.length ≤ 200000) {x : F9.Er} (hl : F9.pw r = .error x) : Calls Tryd.prog 64 #[.pointer (some ⟨rb, 0, none⟩)] W fun e w' => e = .returned (.int .i64 x.1) ∧ RE fs w0 w' rb t nm x.2 := by
  unfold F9.pw at hl
  by_cases h1 : F9.fw r = [40]
  · rw [if_pos h1] at hl
    by_cases h2 : nameL (F9.fw (F9.nx r)) = true
    · rw [if_pos h2] at hl
      by_cases h3 : F9.fw (F9.nx (F9.nx r)) = [44]
      · rw [if_pos h3] at hl
        cases h4 : F9.expo 2 8 (F9.nx (F9.nx (F9.nx r))) with
        | error x1 =>
          rw [h4] at hl
          injection hl with hl; subst hl
          have hx0 := F9.expo_err h4
          have hxn : ((x1.1 : Int) == 0) = false := by rw [beq_eq_false_iff_ne]; omega
          have hxm : ¬ ((x1.1 : Int) = 0) := by omega
          obtain ⟨ec, hec⟩ : ∃ ec : Int, ec = (x1.1 : Int) := ⟨_, rfl⟩
          have hE := Lib.hid (fun V (hV : RS fs w0 V rb t nm (F9.nx (F9.nx (F9.nx r))) N Wt) => hV.expoR hO ht 2 (F9.fw (F9.nx r)) (nod_2 h2) h4)
          rw [← hec] at hxn hxm hE ⊢
          replace hec := Lib.hid hec
          clear hx0
          replace hO := Lib.hid hO
          replace ht := Lib.hid ht
          replace hN := Lib.hid hN
          replace h1 := Lib.hid h1
          replace h2 := Lib.hid h2
          replace h3 := Lib.hid h3
          replace h4 := Lib.hid h4
          replace h := Lib.hid h
          go_enter Tryd.func64, Tryd.ntmps64
          go_wp2_with fail
          refine (h.out.skipY ht.out h1.out).mono ?_
          rintro e w1 ⟨rfl, R1⟩
          replace R1 := Lib.hid R1
          clear h
          go_wp2_with fail
          refine (R1.out.nameY ht.out h2.out).mono ?_
          rintro e w2 ⟨rfl, R2⟩
          replace R2 := Lib.hid R2
          clear R1
          go_wp2_with fail
          refine (R2.out.skipY ht.out h3.out).mono ?_
          rintro e w3 ⟨rfl, R3⟩
          replace R3 := Lib.hid R3
          clear R2
          go_wp2_with fail
          refine (hE.out _ R3.out).mono ?_
          rintro e w4 ⟨rfl, R4⟩
          replace R4 := Lib.hid R4
          clear R3 hE
          go_wp2
          go_ret
          exact ⟨rfl, _, _, R4.out⟩
        | ok p =>
          obtain ⟨k, r1⟩ := p
          rw [h4] at hl
          simp only at hl
          by_cases h5 : F9.fw r1 = [41]
          · rw [if_pos h5] at hl; cases hl
          · rw [if_neg h5] at hl
            injection hl with hl; subst hl
            replace hO := Lib.hid hO
            replace ht := Lib.hid ht
            replace hN := Lib.hid hN
            replace h1 := Lib.hid h1
            replace h2 := Lib.hid h2
            replace h3 := Lib.hid h3
            replace h4 := Lib.hid h4
            replace h5 := Lib.hid h5
            replace h := Lib.hid h
            go_enter Tryd.func64, Tryd.ntmps64
            go_wp2_with fail
            refine (h.out.skipY ht.out h1.out).mono ?_
            rintro e w1 ⟨rfl, R1⟩
            replace R1 := Lib.hid R1
            clear h
            go_wp2_with fail
            refine (R1.out.nameY ht.out h2.out).mono ?_
            rintro e w2 ⟨rfl, R2⟩
            replace R2 := Lib.hid R2
            clear R1
            go_wp2_with fail
            refine (R2.out.skipY ht.out h3.out).mono ?_
            rintro e w3 ⟨rfl, R3⟩
            replace R3 := Lib.hid R3
            clear R2
            go_wp2_with fail
            refine (R3.out.expoY hO.out ht.out hN.out 2 _ (nod_2 h2.out) h4.out).mono ?_
            rintro e w4 ⟨rfl, R4⟩
            replace R4 := Lib.hid R4
            clear R3
            go_wp2_with fail
            refine (R4.out.skipN h5.out).mono ?_
            rintro e w5 ⟨rfl, R5⟩
            replace R5 := Lib.hid R5
            clear R4
            go_wp2
            go_ret
            exact ⟨rfl, _, _, R5.out⟩
      · rw [if_neg h3] at hl
        injection hl with hl; subst hl
        replace hO := Lib.hid hO
        replace ht := Lib.hid ht
        replace hN := Lib.hid hN
        replace h1 := Lib.hid h1
        replace h2 := Lib.hid h2
        replace h3 := Lib.hid h3
        replace h := Lib.hid h
        go_enter Tryd.func64, Tryd.ntmps64
        go_wp2_with fail
        refine (h.out.skipY ht.out h1.out).mono ?_
        rintro e w1 ⟨rfl, R1⟩
        replace R1 := Lib.hid R1
        clear h
        go_wp2_with fail
        refine (R1.out.nameY ht.out h2.out).mono ?_
        rintro e w2 ⟨rfl, R2⟩
        replace R2 := Lib.hid R2
        clear R1
        go_wp2_with fail
        refine (R2.out.skipN h3.out).mono ?_
        rintro e w3 ⟨rfl, R3⟩
        replace R3 := Lib.hid R3
        clear R2
        go_wp2
        go_ret
        exact ⟨rfl, _, _, R3.out⟩
    · rw [if_neg h2] at hl
      injection hl with hl; subst hl
      have h2 := Bool.eq_false_iff.2 h2
      replace hO := Lib.hid hO
      replace ht := Lib.hid ht
      replace hN := Lib.hid hN
      replace h1 := Lib.hid h1
      replace h2 := Lib.hid h2
      replace h := Lib.hid h
      go_enter Tryd.func64, Tryd.ntmps64
      go_wp2_with fail
      refine (h.out.skipY ht.out h1.out).mono ?_
      rintro e w1 ⟨rfl, R1⟩
      replace R1 := Lib.hid R1
      clear h
      go_wp2_with fail
      refine (R1.out.nameN h2.out).mono ?_
      rintro e w2 ⟨rfl, R2⟩
      replace R2 := Lib.hid R2
      clear R1
      go_wp2
      go_ret
      exact ⟨rfl, _, _, R2.out⟩
  · rw [if_neg h1] at hl
    injection hl with hl; subst hl
    replace hO := Lib.hid hO
    replace ht := Lib.hid ht
    replace hN := Lib.hid hN
    replace h1 := Lib.hid h1
    replace h := Lib.hid h
    go_enter Tryd.func64, Tryd.ntmps64
    go_wp2_with fail
    refine (h.out.skipN h1.out).mono ?_
    rintro e w1 ⟨rfl, R1⟩
    replace R1 := Lib.hid R1
    clear h
    go_wp2
    go_ret
    exact ⟨rfl, _, _, R1.out⟩
set_option maxRecDepth 100000 in
set_option maxHeartbeats 4000000 in
theorem RS.powY (h : RS fs w0 W rb t nm r N Wt) (hO : Og w0) (ht : t.size ≤ 100000) (hN : N.length ≤ 200000) {x : F9.Nd} {r1 : F9.Bs} (hl : F9.pw r = .ok (x, r1)) : Calls Tryd.prog 64 #[.pointer (some ⟨rb, 0, none⟩)] W fun e w' => e = .returned (.int .i64 0) ∧ RS fs w0 w' rb t nm r1 (N ++ [x]) Wt := by
  unfold F9.pw at hl
  by_cases h1 : F9.fw r = [40]
  · rw [if_pos h1] at hl
    by_cases h2 : nameL (F9.fw (F9.nx r)) = true
    · rw [if_pos h2] at hl
      by_cases h3 : F9.fw (F9.nx (F9.nx r)) = [44]
      · rw [if_pos h3] at hl
        cases h4 : F9.expo 2 8 (F9.nx (F9.nx (F9.nx r))) with
        | error x1 => rw [h4] at hl; cases hl
        | ok p =>
          obtain ⟨k, r1⟩ := p
          rw [h4] at hl
          simp only at hl
          by_cases h5 : F9.fw r1 = [41]
          · rw [if_pos h5] at hl
            injection hl with hl
            injection hl with ha hb
            subst ha hb
            replace hO := Lib.hid hO
            replace ht := Lib.hid ht
            replace hN := Lib.hid hN
            replace h1 := Lib.hid h1
            replace h2 := Lib.hid h2
            replace h3 := Lib.hid h3
            replace h4 := Lib.hid h4
            replace h5 := Lib.hid h5
            replace h := Lib.hid h
            go_enter Tryd.func64, Tryd.ntmps64
            go_wp2_with fail
            refine (h.out.skipY ht.out h1.out).mono ?_
            rintro e w1 ⟨rfl, R1⟩
            replace R1 := Lib.hid R1
            clear h
            go_wp2_with fail
            refine (R1.out.nameY ht.out h2.out).mono ?_
            rintro e w2 ⟨rfl, R2⟩
            replace R2 := Lib.hid R2
            clear R1
            go_wp2_with fail
            refine (R2.out.skipY ht.out h3.out).mono ?_
            rintro e w3 ⟨rfl, R3⟩
            replace R3 := Lib.hid R3
            clear R2
            go_wp2_with fail
            refine (R3.out.expoY hO.out ht.out hN.out 2 _ (nod_2 h2.out) h4.out).mono ?_
            rintro e w4 ⟨rfl, R4⟩
            replace R4 := Lib.hid R4
            clear R3
            go_wp2_with fail
            refine (R4.out.skipY ht.out h5.out).mono ?_
            rintro e w5 ⟨rfl, R5⟩
            replace R5 := Lib.hid R5
            clear R4
            go_wp2
            go_ret
            exact ⟨rfl, R5.out⟩
          · rw [if_neg h5] at hl; cases hl
      · rw [if_neg h3] at hl; cases hl
    · rw [if_neg h2] at hl; cases hl
  · rw [if_neg h1] at hl; cases hl

set_option maxRecDepth 100000 in
set_option maxHeartbeats 4000000 in
theorem RS.leafY (h : RS fs w0 W rb t nm r N Wt) (hO : Og w0) (ht : t.size ≤ 100000) (hN : N.length ≤ 200000) {x : F9.Nd} {r1 : F9.Bs} (hl : F9.leaf r = .ok (x, r1)) : Calls Tryd.prog 39 #[.pointer (some ⟨rb, 0, none⟩)] W fun e w' => e = .returned (.int .i64 0) ∧ RS fs w0 w' rb t nm r1 (N ++ [x]) Wt := by
  unfold F9.leaf at hl
  by_cases h1 : F9.fw r = [48]
  · rw [if_pos h1] at hl
    injection hl with hl
    injection hl with ha hb
    subst ha hb
    replace hO := Lib.hid hO
    replace ht := Lib.hid ht
    replace hN := Lib.hid hN
    replace h1 := Lib.hid h1
    replace h := Lib.hid h
    go_enter Tryd.func39, Tryd.ntmps39
    go_wp2_with fail
    refine (h.out.skipY ht.out h1.out).mono ?_
    rintro e w1 ⟨rfl, R1⟩
    replace R1 := Lib.hid R1
    clear h
    go_wp2_with fail
    refine (R1.out.add ⟨4, [], 0⟩ hN.out).mono ?_
    rintro e w2 ⟨rfl, R2⟩
    replace R2 := Lib.hid R2
    clear R1
    go_wp2
    go_ret
    exact ⟨rfl, R2.out⟩
  · rw [if_neg h1] at hl
    by_cases h2 : F9.fw r = [49]
    · rw [if_pos h2] at hl
      injection hl with hl
      injection hl with ha hb
      subst ha hb
      replace hO := Lib.hid hO
      replace ht := Lib.hid ht
      replace hN := Lib.hid hN
      replace h1 := Lib.hid h1
      replace h2 := Lib.hid h2
      replace h := Lib.hid h
      go_enter Tryd.func39, Tryd.ntmps39
      go_wp2_with fail
      refine (h.out.skipN h1.out).mono ?_
      rintro e w1 ⟨rfl, R1⟩
      replace R1 := Lib.hid R1
      clear h
      go_wp2_with fail
      refine (R1.out.skipY ht.out h2.out).mono ?_
      rintro e w2 ⟨rfl, R2⟩
      replace R2 := Lib.hid R2
      clear R1
      go_wp2_with fail
      refine (R2.out.add ⟨3, [], 0⟩ hN.out).mono ?_
      rintro e w3 ⟨rfl, R3⟩
      replace R3 := Lib.hid R3
      clear R2
      go_wp2
      go_ret
      exact ⟨rfl, R3.out⟩
    · rw [if_neg h2] at hl
      by_cases h3 : F9.fw r = [112, 111, 119, 101, 114]
      · rw [if_pos h3] at hl
        replace hO := Lib.hid hO
        replace ht := Lib.hid ht
        replace hN := Lib.hid hN
        replace h1 := Lib.hid h1
        replace h2 := Lib.hid h2
        replace h3 := Lib.hid h3
        replace hl := Lib.hid hl
        replace h := Lib.hid h
        go_enter Tryd.func39, Tryd.ntmps39
        go_wp2_with fail
        refine (h.out.skipN h1.out).mono ?_
        rintro e w1 ⟨rfl, R1⟩
        replace R1 := Lib.hid R1
        clear h
        go_wp2_with fail
        refine (R1.out.skipN h2.out).mono ?_
        rintro e w2 ⟨rfl, R2⟩
        replace R2 := Lib.hid R2
        clear R1
        go_wp2_with fail
        refine (R2.out.skipY ht.out h3.out).mono ?_
        rintro e w3 ⟨rfl, R3⟩
        replace R3 := Lib.hid R3
        clear R2
        go_wp2_with fail
        refine (R3.out.powY hO.out ht.out hN.out hl.out).mono ?_
        rintro e w4 ⟨rfl, R4⟩
        replace R4 := Lib.hid R4
        clear R3
        go_wp2
        go_ret
        exact ⟨rfl, R4.out⟩
      · rw [if_neg h3] at hl
        by_cases h4 : nameL (F9.fw r) = true
        · rw [if_pos h4] at hl
          injection hl with hl
          injection hl with ha hb
          subst ha hb
          replace hO := Lib.hid hO
          replace ht := Lib.hid ht
          replace hN := Lib.hid hN
          replace h1 := Lib.hid h1
          replace h2 := Lib.hid h2
          replace h3 := Lib.hid h3
          replace h4 := Lib.hid h4
          replace h := Lib.hid h
          go_enter Tryd.func39, Tryd.ntmps39
          go_wp2_with fail
          refine (h.out.skipN h1.out).mono ?_
          rintro e w1 ⟨rfl, R1⟩
          replace R1 := Lib.hid R1
          clear h
          go_wp2_with fail
          refine (R1.out.skipN h2.out).mono ?_
          rintro e w2 ⟨rfl, R2⟩
          replace R2 := Lib.hid R2
          clear R1
          go_wp2_with fail
          refine (R2.out.skipN h3.out).mono ?_
          rintro e w3 ⟨rfl, R3⟩
          replace R3 := Lib.hid R3
          clear R2
          go_wp2_with fail
          refine (R3.out.nameY ht.out h4.out).mono ?_
          rintro e w4 ⟨rfl, R4⟩
          replace R4 := Lib.hid R4
          clear R3
          go_wp2_with fail
          refine (R4.out.add ⟨1, F9.fw r, 0⟩ hN.out).mono ?_
          rintro e w5 ⟨rfl, R5⟩
          replace R5 := Lib.hid R5
          clear R4
          go_wp2
          go_ret
          exact ⟨rfl, R5.out⟩
        · rw [if_neg h4] at hl
          cases hl
set_option maxRecDepth 100000 in
set_option maxHeartbeats 4000000 in
theorem RS.leafR (h : RS fs w0 W rb t nm r N Wt) (hO : Og w0) (ht : t.size ≤ 100000) (hN : N.length ≤ 200000) {x : F9.Er} (hl : F9.leaf r = .error x) : Calls Tryd.prog 39 #[.pointer (some ⟨rb, 0, none⟩)] W fun e w' => e = .returned (.int .i64 x.1) ∧ RE fs w0 w' rb t nm x.2 := by
  unfold F9.leaf at hl
  by_cases h1 : F9.fw r = [48]
  · rw [if_pos h1] at hl
    cases hl
  · rw [if_neg h1] at hl
    by_cases h2 : F9.fw r = [49]
    · rw [if_pos h2] at hl
      cases hl
    · rw [if_neg h2] at hl
      by_cases h3 : F9.fw r = [112, 111, 119, 101, 114]
      · rw [if_pos h3] at hl
        replace hO := Lib.hid hO
        replace ht := Lib.hid ht
        replace hN := Lib.hid hN
        replace h1 := Lib.hid h1
        replace h2 := Lib.hid h2
        replace h3 := Lib.hid h3
        replace hl := Lib.hid hl
        replace h := Lib.hid h
        go_enter Tryd.func39, Tryd.ntmps39
        go_wp2_with fail
        refine (h.out.skipN h1.out).mono ?_
        rintro e w1 ⟨rfl, R1⟩
        replace R1 := Lib.hid R1
        clear h
        go_wp2_with fail
        refine (R1.out.skipN h2.out).mono ?_
        rintro e w2 ⟨rfl, R2⟩
        replace R2 := Lib.hid R2
        clear R1
        go_wp2_with fail
        refine (R2.out.skipY ht.out h3.out).mono ?_
        rintro e w3 ⟨rfl, R3⟩
        replace R3 := Lib.hid R3
        clear R2
        go_wp2_with fail
        refine (R3.out.powR hO.out ht.out hN.out hl.out).mono ?_
        rintro e w4 ⟨rfl, R4⟩
        replace R4 := Lib.hid R4
        clear R3
        go_wp2
        go_ret
        exact ⟨rfl, R4.out⟩
      · rw [if_neg h3] at hl
        by_cases h4 : nameL (F9.fw r) = true
        · rw [if_pos h4] at hl
          cases hl
        · rw [if_neg h4] at hl
          injection hl with hl; subst hl
          have h4 := Bool.eq_false_iff.2 h4
          replace hO := Lib.hid hO
          replace ht := Lib.hid ht
          replace hN := Lib.hid hN
          replace h1 := Lib.hid h1
          replace h2 := Lib.hid h2
          replace h3 := Lib.hid h3
          replace h4 := Lib.hid h4
          replace h := Lib.hid h
          go_enter Tryd.func39, Tryd.ntmps39
          go_wp2_with fail
          refine (h.out.skipN h1.out).mono ?_
          rintro e w1 ⟨rfl, R1⟩
          replace R1 := Lib.hid R1
          clear h
          go_wp2_with fail
          refine (R1.out.skipN h2.out).mono ?_
          rintro e w2 ⟨rfl, R2⟩
          replace R2 := Lib.hid R2
          clear R1
          go_wp2_with fail
          refine (R2.out.skipN h3.out).mono ?_
          rintro e w3 ⟨rfl, R3⟩
          replace R3 := Lib.hid R3
          clear R2
          go_wp2_with fail
          refine (R3.out.nameN h4.out).mono ?_
          rintro e w4 ⟨rfl, R4⟩
          replace R4 := Lib.hid R4
          clear R3
          go_wp2
          go_ret
          exact ⟨rfl, _, _, R4.out⟩
end
end Go.Proofs.YtjebpmjbdchdlaaDoor
namespace Go.Proofs.YtjebpmjbdchdlaaDoor
open Go.RowKit
set_option linter.unusedVariables false

/-- The place of the program's reader in a world. -/
def posP (b : Nat) (W : World) : Nat := match W.cell? ⟨b, 2, none⟩ with
  | some (.int _ z) => z.toNat
  | _ => 0
section
variable {fs : List GBk} {w0 W : World} {rb : Nat} {t nm : ByteArray} {r : F9.Bs} {N : List F9.Nd} {Wt : List Nat} {X : F9.Rs (List F9.Nd)}
theorem RS.pos (h : RS fs w0 W rb t nm r N Wt) : posP rb W + r.length = t.size := by
  obtain ⟨x, p, NA, WA, nc, wc, hRI, hwc, hrb, c_1, c_2, c_4, c_5, hL1, hL2⟩ := h.see
  have := hRI.rl
  unfold posP; rw [c_2]; exact this
theorem RS.resp (h : RS fs w0 W rb t nm r N Wt) (n : ByteArray) : RS fs w0 (W.setCell ⟨rb, 3, none⟩ (.string n)) rb t n r N Wt ∧ W.frozen? ⟨rb, 3, none⟩ = false ∧ rb < W.heap.size ∧ W.cell? ⟨rb, 3, none⟩ = some (.string nm) := by
  obtain ⟨x, p, l1, ob1, l2, ob2, h1, h2, h3, h4, h5, S⟩ := h
  exact ⟨⟨x, p, l1, ob1, l2, ob2, h1, h2, h3, h4, h5, S.set 0 3 (.string n) rfl (fun _ => by simp)⟩, S.f 0 3 rfl, S.lt 0 rfl, S.cl 0 3 rfl rfl⟩
theorem word_eq {x : ByteArray} {p : Nat} (h : RI t r x p) (l : F9.Bs) : (x.toList == l) = decide (F9.fw r = l) := by
  rw [ByteArray.toList_eq, h.2.2, Bool.eq_iff_iff, beq_iff_eq, decide_eq_true_eq]

set_option maxRecDepth 100000 in
set_option maxHeartbeats 4000000 in
theorem RS.operand (h : RS fs w0 W rb t nm r N Wt) (hO : Og w0) (ht : t.size ≤ 100000) (hv : Ev false N Wt r X) (hW : okW Wt) (hn : N.length + Wt.length + r.length ≤ t.size) {m0 : Nat} (hm0 : r.length ≤ m0) : Calls Tryd.prog 21 #[.pointer (some ⟨rb, 0, none⟩)] W fun e w' => (∃ x : F9.Er, X = .error x ∧ e = .returned (.int .i64 x.1) ∧ RE fs w0 w' rb t nm x.2) ∨ (e = .returned (.int .i64 0) ∧ ∃ r' N' W', RS fs w0 w' rb t nm r' N' W' ∧ Ev true N' W' r' X ∧ okW W' ∧ N'.length + W'.length + r'.length ≤ t.size ∧ ¬ F9.fw r' = [94] ∧ ¬ F9.fw r' = [41] ∧ r'.length ≤ m0) := by
  replace h := Lib.hid h
  replace hO := Lib.hid hO
  replace ht := Lib.hid ht
  replace hv := Lib.hid hv
  replace hW := Lib.hid hW
  replace hn := Lib.hid hn
  replace hm0 := Lib.hid hm0
  go_enter Tryd.func21, Tryd.ntmps21
  go_wp2
  go_loopw [] (fun wr => ∃ (r : F9.Bs) (Wt : List Nat), RS fs w0 wr rb t nm r N Wt ∧ Ev false N Wt r X ∧ okW Wt ∧ N.length + Wt.length + r.length ≤ t.size ∧ r.length ≤ m0) (fun wr => t.size - posP rb wr)
  case atStart => exact ⟨r, Wt, h.out, hv.out, hW.out, hn.out, hm0.out⟩
  case round =>
    clear h hv hW hn hm0
    obtain ⟨r, Wt, hR, hv, hW, hn, hm0⟩ := hrel
    replace hm0 := Lib.hid hm0
    have hps := Lib.hid hR.pos
    by_cases h1 : F9.fw r = [40]
    · have hl := F9.nx_lt (r := r) (by rw [h1]; simp)
      have hv2 := Lib.hid (hv.paren h1)
      have hW2 : Hid (okW (0 :: Wt)) := Lib.hid (fun u hu => by
        rcases List.mem_cons.1 hu with rfl | hu
        · exact .inl rfl
        · exact hW u hu)
      have hn2 : Hid (N.length + (0 :: Wt).length + (F9.nx r).length ≤ t.size) := Lib.hid (by simp; omega)
      have hl2 := Lib.hid hl
      have hXl : Hid ((wtL Wt).length ≤ 200000) := Lib.hid (by rw [wtL_len]; have := ht.out; omega)
      replace h1 := Lib.hid h1
      replace hR := Lib.hid hR
      clear hv hW hn hl
      go_wp2_with fail
      refine (hR.out.skipY ht.out h1.out).mono ?_
      rintro e w1 ⟨rfl, R1⟩
      clear hR h1
      obtain ⟨WA, wc, bs, hrb, c_5, G, hG⟩ := R1.gi
      replace G := Lib.hid G
      replace hG := Lib.hid hG
      clear R1
      have GA := Lib.hid (G.out.alloc #[.int .i64 0] 3 (noLof rfl))
      go_wp2_with (at_builtin; refine Gro.wp2 rfl (.tmp 11) (.tmp 12) 33 rfl (.int .i64 0) 8 Tryd.underlying33 (by kernel_rfl) rfl (fun v hv z e => by simp [Value.cells] at hv; subst hv; cases e) rfl GA.out w1.heap.size 0 rfl ((GA.out.st).cb 0 rfl) trivial (by have := hXl.out; omega) (by have := hXl.out; unfold maxLen; omega) ?_)
      intro av1 w6 G2 hmk
      obtain ⟨A9, c9, hav, _⟩ := G2.lr
      generalize (wtL Wt ++ [(0 : Int)]).length = k9 at hav
      subst hav
      obtain ⟨R2, f_5, hrb6, c_56⟩ := hG.out 0 w6 _ (G2.sub (fun _ _ => trivial))
      have hp2 := Lib.hid R2.pos
      replace R2 := Lib.hid R2
      clear G2 hmk GA G hG c_5 hrb
      go_wp2
      go_roundw
      case rel => exact ⟨F9.nx r, 0 :: Wt, R2.out, hv2.out, hW2.out, hn2.out, (by have := hl2.out; have := hm0.out; omega)⟩
      case measure => (have a1 := hps.out; have a2 := hp2.out; have a3 := hl2.out; omega)
    · have hN2 : N.length ≤ 200000 := by have := ht.out; omega
      cases hl : F9.leaf r with
      | error x1 =>
        have hx0 := F9.leaf_err hl
        have hxn : ((x1.1 : Int) == 0) = false := by rw [beq_eq_false_iff_ne]; omega
        have hxm : ¬ ((x1.1 : Int) = 0) := by omega
        have hxX := Lib.hid (hv.leaf_err h1 hl)
        obtain ⟨ec, hec⟩ : ∃ ec : Int, ec = (x1.1 : Int) := ⟨_, rfl⟩
        have hE := Lib.hid (fun V (hV : RS fs w0 V rb t nm r N Wt) => hV.leafR hO.out ht.out hN2 hl)
        rw [← hec] at hxn hxm hE
        replace hec := Lib.hid hec
        replace h1 := Lib.hid h1
        replace hR := Lib.hid hR
        clear hx0 hv hW hn hN2 hl hps
        go_wp2_with fail
        refine (hR.out.skipN h1.out).mono ?_
        rintro e w1 ⟨rfl, R1⟩
        replace R1 := Lib.hid R1
        clear hR h1
        go_wp2_with fail
        refine (hE.out _ R1.out).mono ?_
        rintro e w2 ⟨rfl, R2⟩
        replace R2 := Lib.hid R2
        clear R1 hE
        go_wp2
        go_ret
        exact .inl ⟨x1, hxX.out, by rw [hec.out]; rfl, R2.out⟩
      | ok q =>
        obtain ⟨x, r1⟩ := q
        have hv2 := Lib.hid (hv.leaf_ok h1 hl)
        have hm2 : Hid (r1.length ≤ m0) := Lib.hid (by have := (F9.leaf_ok hl).1; have := hm0.out; omega)
        have hn2 : Hid ((N ++ [x]).length + Wt.length + r1.length ≤ t.size) := Lib.hid (by have := (F9.leaf_ok hl).1; simp; omega)
        have hE := Lib.hid (fun V (hV : RS fs w0 V rb t nm r N Wt) => hV.leafY hO.out ht.out hN2 hl)
        replace h1 := Lib.hid h1
        replace hR := Lib.hid hR
        replace hW := Lib.hid hW
        clear hv hn hN2 hl hps
        go_wp2_with fail
        refine (hR.out.skipN h1.out).mono ?_
        rintro e w1 ⟨rfl, R1⟩
        replace R1 := Lib.hid R1
        clear hR h1
        go_wp2_with fail
        refine (hE.out _ R1.out).mono ?_
        rintro e w2 ⟨rfl, R2⟩
        replace R2 := Lib.hid R2
        clear R1 hE
        go_wp2
        go_loopw [] (fun wr => ∃ (r : F9.Bs) (N : List F9.Nd) (Wt : List Nat), RS fs w0 wr rb t nm r N Wt ∧ Ev true N Wt r X ∧ okW Wt ∧ N.length + Wt.length + r.length ≤ t.size ∧ r.length ≤ m0) (fun wr => t.size - posP rb wr)
        case atStart => exact ⟨r1, _, Wt, R2.out, hv2.out, hW.out, hn2.out, hm2.out⟩
        case round =>
          clear R2 hv2 hW hn2 hm2 hm0
          obtain ⟨r, N, Wt, hR, hv, hW, hn, hm0⟩ := hrel
          replace hm0 := Lib.hid hm0
          have hps := Lib.hid hR.pos
          have hN2 : N.length ≤ 200000 := by have := ht.out; omega
          have hNW : N.length + Wt.length ≤ 200000 := by have := ht.out; omega
          by_cases h1 : F9.fw r = [94]
          · have hl := F9.nx_lt (r := r) (by rw [h1]; simp)
            cases he : F9.expo 1 6 (F9.nx r) with
            | error x1 =>
              have hx0 := F9.expo_err he
              have hxn : ((x1.1 : Int) == 0) = false := by rw [beq_eq_false_iff_ne]; omega
              have hxm : ¬ ((x1.1 : Int) = 0) := by omega
              have hxX := Lib.hid (hv.hat_err h1 he)
              obtain ⟨ec, hec⟩ : ∃ ec : Int, ec = (x1.1 : Int) := ⟨_, rfl⟩
              have hE := Lib.hid (fun V (hV : RS fs w0 V rb t nm (F9.nx r) N Wt) => hV.expoR hO.out ht.out 10 [] nod_10 he)
              rw [← hec] at hxn hxm hE
              replace hec := Lib.hid hec
              replace h1 := Lib.hid h1
              replace hR := Lib.hid hR
              clear hx0 hv hW hn hN2 hNW hl he hps
              go_wp2_with fail
              refine (hR.out.skipY ht.out h1.out).mono ?_
              rintro e w1 ⟨rfl, R1⟩
              replace R1 := Lib.hid R1
              clear hR h1
              go_wp2_with fail
              refine (hE.out _ R1.out).mono ?_
              rintro e w2 ⟨rfl, R2⟩
              replace R2 := Lib.hid R2
              clear R1 hE
              go_wp2
              go_ret
              exact .inl ⟨x1, hxX.out, by rw [hec.out]; rfl, _, _, R2.out⟩
            | ok q =>
              obtain ⟨k, r2⟩ := q
              have hv2 := Lib.hid (hv.hat_ok h1 he)
              have hrl := (F9.expo_ok he).1
              have hn2 : Hid ((N ++ [(⟨10, [], k⟩ : F9.Nd)]).length + Wt.length + r2.length ≤ t.size) := Lib.hid (by simp; omega)
              have hl2 : Hid (r2.length < r.length) := Lib.hid (by omega)
              have hE := Lib.hid (fun V (hV : RS fs w0 V rb t nm (F9.nx r) N Wt) => hV.expoY hO.out ht.out hN2 10 [] nod_10 he)
              replace h1 := Lib.hid h1
              replace hR := Lib.hid hR
              replace hW := Lib.hid hW
              clear hv hn hN2 hNW hl he hrl
              go_wp2_with fail
              refine (hR.out.skipY ht.out h1.out).mono ?_
              rintro e w1 ⟨rfl, R1⟩
              replace R1 := Lib.hid R1
              clear hR h1
              go_wp2_with fail
              refine (hE.out _ R1.out).mono ?_
              rintro e w2 ⟨rfl, R2⟩
              have hp2 := Lib.hid R2.pos
              replace R2 := Lib.hid R2
              clear R1 hE
              go_wp2
              go_roundw
              case rel => exact ⟨r2, _, Wt, R2.out, hv2.out, hW.out, hn2.out, (by have := hl2.out; have := hm0.out; omega)⟩
              case measure => (have a1 := hps.out; have a2 := hp2.out; have a3 := hl2.out; omega)
          · by_cases h2 : F9.fw r = [41]
            · have hl := F9.nx_lt (r := r) (by rw [h2]; simp)
              have hfo := fin_ok 1 Wt N hW
              cases hf : (F9.fin 1 N Wt).2 with
              | nil =>
                have hxX := Lib.hid (hv.close_no h1 h2 hf)
                have hE := Lib.hid (fun V (hV : RS fs w0 V rb t nm r N Wt) => hV.closeN hO.out hW hNW hf)
                replace h1 := Lib.hid h1
                replace h2 := Lib.hid h2
                replace hR := Lib.hid hR
                clear hv hW hn hN2 hNW hl hf hps hfo
                go_wp2_with fail
                refine (hR.out.skipN h1.out).mono ?_
                rintro e w1 ⟨rfl, R1⟩
                obtain ⟨x, p, NA, WA, nc, wc, hRI, hwc, hrb, c_1, c_2, c_4, c_5, hL1, hL2⟩ := R1.see
                have g1 : (x.toList == [41]) = true := by rw [word_eq hRI, decide_eq_true h2.out]
                replace R1 := Lib.hid R1
                clear hR h1 hRI hwc c_2 c_4 c_5 hL1 hL2
                go_wp2_with fail
                refine (hE.out _ R1.out).mono ?_
                rintro e w2 ⟨rfl, R2⟩
                replace R2 := Lib.hid R2
                clear R1 hE c_1 hrb
                go_wp2
                go_ret
                exact .inl ⟨_, hxX.out, rfl, _, _, R2.out⟩
              | cons v W1 =>
                have hv2 := Lib.hid (hv.close_yes h1 h2 hf)
                rw [hf] at hfo
                have hW2 : Hid (okW W1) := Lib.hid (fun u hu => hfo.1 u (List.mem_cons_of_mem _ hu))
                have hn2 : Hid ((F9.fin 1 N Wt).1.length + W1.length + (F9.nx r).length ≤ t.size) := Lib.hid (by have := hfo.2; simp at this; omega)
                have hl2 := Lib.hid hl
                have hE := Lib.hid (fun V (hV : RS fs w0 V rb t nm r N Wt) => hV.closeY hO.out ht.out hW hNW hf)
                replace h1 := Lib.hid h1
                replace h2 := Lib.hid h2
                replace hR := Lib.hid hR
                clear hv hW hn hN2 hNW hl hf hfo
                go_wp2_with fail
                refine (hR.out.skipN h1.out).mono ?_
                rintro e w1 ⟨rfl, R1⟩
                obtain ⟨x, p, NA, WA, nc, wc, hRI, hwc, hrb, c_1, c_2, c_4, c_5, hL1, hL2⟩ := R1.see
                have g1 : (x.toList == [41]) = true := by rw [word_eq hRI, decide_eq_true h2.out]
                replace R1 := Lib.hid R1
                clear hR h1 hRI hwc c_2 c_4 c_5 hL1 hL2
                go_wp2_with fail
                refine (hE.out _ R1.out).mono ?_
                rintro e w2 ⟨rfl, R2⟩
                have hp2 := Lib.hid R2.pos
                replace R2 := Lib.hid R2
                clear R1 hE c_1 hrb
                go_wp2
                go_roundw
                case rel => exact ⟨_, _, W1, R2.out, hv2.out, hW2.out, hn2.out, (by have := hl2.out; have := hm0.out; omega)⟩
                case measure => (have a1 := hps.out; have a2 := hp2.out; have a3 := hl2.out; omega)
            · have hfin := Lib.hid (And.intro hv (And.intro hW (And.intro hn (And.intro h1 h2))))
              replace h1 := Lib.hid h1
              replace h2 := Lib.hid h2
              replace hR := Lib.hid hR
              clear hv hW hn hN2 hNW hps
              go_wp2_with fail
              refine (hR.out.skipN h1.out).mono ?_
              rintro e w1 ⟨rfl, R1⟩
              obtain ⟨x, p, NA, WA, nc, wc, hRI, hwc, hrb, c_1, c_2, c_4, c_5, hL1, hL2⟩ := R1.see
              have g1 : (x.toList == [41]) = false := by rw [word_eq hRI, decide_eq_false h2.out]
              replace R1 := Lib.hid R1
              clear hR h1 hRI hwc c_2 c_4 c_5 hL1 hL2
              go_wp2
              go_ret
              obtain ⟨a1, a2, a3, a4, a5⟩ := hfin.out
              exact .inr ⟨rfl, r, N, Wt, R1.out, a1, a2, a3, a4, a5, hm0.out⟩

end
end Go.Proofs.YtjebpmjbdchdlaaDoor
namespace Go.Proofs.YtjebpmjbdchdlaaDoor
open Go.RowKit
set_option linter.unusedVariables false

/-- A text as a formula: its response, its tree. -/
def rdT (l : F9.Bs) : F9.Rs (F9.Bs × F9.Tr) :=
  if nameL (F9.fw (F9.trm l)) then
    if F9.fw (F9.nx (F9.trm l)) = [126] then
      match F9.rdR (6 * (F9.nx (F9.nx (F9.trm l))).length + 5) (F9.nx (F9.nx (F9.trm l))) with
      | .error e => .error e
      | .ok x => .ok (F9.fw (F9.trm l), x)
    else .error (3, F9.nx (F9.trm l))
  else .error (3, F9.trm l)
section
variable {fs : List GBk} {w0 W : World} {rb : Nat} {t nm : ByteArray} {r : F9.Bs} {N : List F9.Nd} {Wt : List Nat} {X : F9.Rs (List F9.Nd)}
set_option maxRecDepth 100000 in
set_option maxHeartbeats 4000000 in
theorem RS.endY (h : RS fs w0 W rb t nm r N Wt) (hO : Og w0) (hW : okW Wt) (hn : N.length + Wt.length ≤ 200000) (h1 : F9.fw r = []) (h2 : (F9.fin 1 N Wt).2 = []) : Calls Tryd.prog 23 #[.pointer (some ⟨rb, 0, none⟩)] W fun e w' => e = .returned (.int .i64 0) ∧ RS fs w0 w' rb t nm r (F9.fin 1 N Wt).1 [] := by
  have hF := Lib.hid (fun V (hV : RS fs w0 V rb t nm r N Wt) => hV.finish hO hW hn 1)
  replace h := Lib.hid h
  rw [h2] at hF
  replace h1 := Lib.hid h1
  generalize (F9.fin 1 N Wt).1 = Y at *
  clear hO hW hn h2
  go_enter Tryd.func23, Tryd.ntmps23
  go_wp2_with fail
  refine (hF.out _ h.out).mono ?_
  rintro e w1 ⟨rfl, R1⟩
  obtain ⟨x, p, NA, WA, nc, wc, hRI, hwc, hrb, c_1, c_2, c_4, c_5, hL1, hL2⟩ := R1.see
  have g1 : x.toList.isEmpty = true := by
    have : x.toList.isEmpty = (x.toList == []) := by cases x.toList <;> rfl
    rw [this, word_eq hRI]; exact decide_eq_true h1.out
  have c_5 : w1.cell? ⟨rb, 5, none⟩ = some (.slice WA 0 wc) := c_5
  replace R1 := Lib.hid R1
  clear hF h h1 hRI hwc c_2 c_4 hL1 hL2
  go_wp2
  go_ret
  exact ⟨rfl, R1.out⟩

set_option maxRecDepth 100000 in
set_option maxHeartbeats 4000000 in
theorem RS.endN (h : RS fs w0 W rb t nm r N Wt) (hO : Og w0) (hW : okW Wt) (hn : N.length + Wt.length ≤ 200000) (hne : ¬ (F9.fw r = [] ∧ (F9.fin 1 N Wt).2 = [])) : Calls Tryd.prog 23 #[.pointer (some ⟨rb, 0, none⟩)] W fun e w' => e = .returned (.int .i64 3) ∧ RE fs w0 w' rb t nm r := by
  have hF := Lib.hid (fun V (hV : RS fs w0 V rb t nm r N Wt) => hV.finish hO hW hn 1)
  replace h := Lib.hid h
  by_cases h1 : F9.fw r = []
  · have hp : 0 < (F9.fin 1 N Wt).2.length := List.length_pos_iff.2 (fun e => hne ⟨h1, e⟩)
    replace h1 := Lib.hid h1
    generalize F9.fin 1 N Wt = Y at *
    have hp2 : (0 : Int) < (Y.2.length : Int) := by omega
    clear hO hW hn hne
    go_enter Tryd.func23, Tryd.ntmps23
    go_wp2_with fail
    refine (hF.out _ h.out).mono ?_
    rintro e w1 ⟨rfl, R1⟩
    obtain ⟨x, p, NA, WA, nc, wc, hRI, hwc, hrb, c_1, c_2, c_4, c_5, hL1, hL2⟩ := R1.see
    have g1 : x.toList.isEmpty = true := by
      have : x.toList.isEmpty = (x.toList == []) := by cases x.toList <;> rfl
      rw [this, word_eq hRI]; exact decide_eq_true h1.out
    generalize Y.2.length = yl at *
    replace R1 := Lib.hid R1
    clear hF h h1 hRI hwc c_2 c_4 hL1 hL2
    go_wp2
    go_ret
    exact ⟨rfl, _, _, R1.out⟩
  · replace h1 := Lib.hid h1
    generalize F9.fin 1 N Wt = Y at *
    clear hO hW hn hne
    go_enter Tryd.func23, Tryd.ntmps23
    go_wp2_with fail
    refine (hF.out _ h.out).mono ?_
    rintro e w1 ⟨rfl, R1⟩
    obtain ⟨x, p, NA, WA, nc, wc, hRI, hwc, hrb, c_1, c_2, c_4, c_5, hL1, hL2⟩ := R1.see
    have g1 : x.toList.isEmpty = false := by
      have : x.toList.isEmpty = (x.toList == []) := by cases x.toList <;> rfl
      rw [this, word_eq hRI]; exact decide_eq_false h1.out
    replace R1 := Lib.hid R1
    clear hF h h1 hRI hwc c_2 c_4 hL1 hL2
    go_wp2
    go_ret
    exact ⟨rfl, _, _, R1.out⟩

set_option maxRecDepth 100000 in
set_option maxHeartbeats 4000000 in
theorem formula_any (t : ByteArray) (rb : Nat) (fs : List GBk) (w0 W : World) (S : St w0 W ((rb, rdC t ByteArray.empty 0 ByteArray.empty none 0 0 none 0 0, 35) :: fs) []) (hO : Og w0) (ht : t.size ≤ 100000) : Calls Tryd.prog 9 #[.pointer (some ⟨rb, 0, none⟩)] W fun e w' => (∃ x : F9.Er, rdT t.data.toList = .error x ∧ e = .returned (.int .i64 x.1) ∧ ∃ nm', RE fs w0 w' rb t nm' x.2) ∨ (e = .returned (.int .i64 0) ∧ ∃ (n : F9.Bs) (tr : F9.Tr) (r' : F9.Bs), rdT t.data.toList = .ok (n, tr) ∧ RS fs w0 w' rb t ⟨n.toArray⟩ r' tr.post []) := by
  have hX := Lib.hid (next_any t ByteArray.empty 0 ByteArray.empty none 0 0 none 0 0 rb fs [] w0 W S ht (by show 0 + 0 ≤ _; omega))
  have hfirst : Hid (∀ V, St w0 V ((rb, rdC t (nwB t 0) (naN t 0) ByteArray.empty none 0 0 none 0 0, 35) :: fs) [] → RS fs w0 V rb t ByteArray.empty (F9.trm t.data.toList) [] []) := Lib.hid fun V hV => by
    refine ⟨nwB t 0, naN t 0, ⟨none, 0, []⟩, [], ⟨none, 0, []⟩, [], ?_, rfl, rfl, ⟨rfl, NoLl.nil, .inl ⟨rfl, rfl, rfl⟩⟩, ⟨rfl, NoLl.nil, .inl ⟨rfl, rfl, rfl⟩⟩, hV⟩
    have := ri_new t 0
    rwa [List.drop_zero] at this
  obtain ⟨l, hl⟩ : ∃ l, l = t.data.toList := ⟨_, rfl⟩
  have hlen : l.length = t.size := by rw [hl, toList_len]
  rw [← hl] at hfirst ⊢
  replace hl := Lib.hid hl
  have hrl : (F9.trm l).length ≤ l.length := (List.dropWhile_sublist _).length_le
  replace hO := Lib.hid hO
  replace ht := Lib.hid ht
  have hun : Hid (∀ x, rdT l = x → rdT l = x) := Lib.hid fun _ h => h
  unfold rdT at hun
  by_cases h1 : nameL (F9.fw (F9.trm l)) = true
  · have hl1 := F9.nx_lt (r := F9.trm l) (F9.nameL_ne h1)
    by_cases h2 : F9.fw (F9.nx (F9.trm l)) = [126]
    · have hl2 := F9.nx_lt (r := F9.nx (F9.trm l)) (by rw [h2]; simp)
      obtain ⟨r2, hr2⟩ : ∃ r2, r2 = F9.nx (F9.nx (F9.trm l)) := ⟨_, rfl⟩
      have hspec : rdT l = match F9.rdR (6 * r2.length + 5) r2 with
        | .error e => .error e
        | .ok x => .ok (F9.fw (F9.trm l), x) := by
        unfold rdT
        rw [if_pos h1, if_pos h2, hr2]
      have hbo := F9.both (6 * r2.length + 5) r2
      have hfu := F9.fuel (6 * r2.length + 5) (.bin 1) r2 (fun k e => by injection e; omega) (fun _ _ e => by cases e) trivial (Nat.le_refl _)
      have hXX : Hid (∃ X, Ev false [] [] r2 X ∧ ((∃ x : F9.Er, X = .error x ∧ rdT l = .error x ∧ ¬ x.1 = 0) ∨ ∃ tr, X = .ok (F9.Tr.post tr) ∧ rdT l = .ok (F9.fw (F9.trm l), tr))) := Lib.hid (by
        cases hq : F9.rdR (6 * r2.length + 5) r2 with
        | error x =>
          have hx0 : x.1 ≠ 0 := by
            unfold F9.rdR at hq
            cases hz : F9.run (6 * r2.length + 5) (.bin 1) r2 with
            | error y => rw [hz] at hq; injection hq with hq; subst hq; exact hfu.1 _ hz
            | ok y =>
              rw [hz] at hq
              simp only at hq
              split at hq
              · cases hq
              · injection hq with hq; subst hq; simp
          exact ⟨_, hbo.2 x hq hx0, .inl ⟨x, rfl, by rw [hspec, hq], hx0⟩⟩
        | ok tr => exact ⟨_, hbo.1 tr hq, .inr ⟨tr, rfl, by rw [hspec, hq]⟩⟩)
      clear hbo hfu hspec hun
      obtain ⟨X, hEv, hXc⟩ := hXX.out
      clear hXX
      replace hEv := Lib.hid hEv
      replace hXc := Lib.hid hXc
      have hn0 : Hid (([] : List F9.Nd).length + ([] : List Nat).length + r2.length ≤ t.size) := Lib.hid (by rw [hr2]; simp; omega)
      replace h1 := Lib.hid h1
      replace h2 := Lib.hid h2
      replace hr2 := Lib.hid hr2
      clear S hlen hrl hl1 hl2 hl
      go_enter Tryd.func9, Tryd.ntmps9
      go_wp2_with fail
      refine hX.out.mono ?_
      rintro e w1 ⟨rfl, S1⟩
      have R1 := Lib.hid (hfirst.out _ S1)
      clear hX hfirst S1
      go_wp2_with fail
      refine (R1.out.nameY ht.out h1.out).mono ?_
      rintro e w2 ⟨rfl, R2⟩
      obtain ⟨R3, f_3, hrb, c_3⟩ := R2.resp ⟨(F9.fw (F9.trm l)).toArray⟩
      replace R3 := Lib.hid R3
      clear R1 R2
      obtain ⟨nn, hnn⟩ : ∃ n : ByteArray, n = ⟨(F9.fw (F9.trm l)).toArray⟩ := ⟨_, rfl⟩
      rw [← hnn] at R3 ⊢
      replace hnn := Lib.hid hnn
      go_wp2_with fail
      refine (R3.out.skipY ht.out h2.out).mono ?_
      rintro e w4 ⟨rfl, R4⟩
      have R5 : Hid (RS fs w0 w4 rb t nn r2 [] []) := Lib.hid (by rw [hr2.out]; exact R4)
      clear R3 R4 f_3 hrb c_3 h2
      go_wp2
      go_loopw [] (fun wr => ∃ (r : F9.Bs) (N : List F9.Nd) (Wt : List Nat), RS fs w0 wr rb t nn r N Wt ∧ Ev false N Wt r X ∧ okW Wt ∧ N.length + Wt.length + r.length ≤ t.size) (fun wr => t.size - posP rb wr)
      case atStart => exact ⟨r2, [], [], R5.out, hEv.out, (fun _ h => by cases h), hn0.out⟩
      case round =>
        clear R5 hEv hn0
        obtain ⟨r, N, Wt, hR, hv, hW, hn⟩ := hrel
        have hps := Lib.hid hR.pos
        have hE := Lib.hid (hR.operand hO.out ht.out hv hW hn (Nat.le_refl _))
        clear hR hv hW hn
        go_wp2_with fail
        refine hE.out.mono ?_
        rintro e w5 (⟨x, hX1, rfl, hRE⟩ | ⟨rfl, r3, N3, W3, R6, hv, hW, hn, k1, k2, k3⟩)
        · have hfin := hXc.out
          rw [hX1] at hfin
          obtain ⟨x2, hx2, hx3, hx4⟩ : ∃ x2 : F9.Er, x2 = x ∧ rdT l = .error x ∧ ¬ x.1 = 0 := by
            rcases hfin with ⟨y, hy1, hy2, hy3⟩ | ⟨tr, hy1, _⟩
            · injection hy1 with hy1; subst hy1; exact ⟨_, rfl, hy2, hy3⟩
            · cases hy1
          clear hfin hx2 hE
          have hxn : ((x.1 : Int) == 0) = false := by rw [beq_eq_false_iff_ne]; omega
          have hxm : ¬ ((x.1 : Int) = 0) := by omega
          obtain ⟨ec, hec⟩ : ∃ ec : Int, ec = (x.1 : Int) := ⟨_, rfl⟩
          rw [← hec] at hxn hxm ⊢
          replace hec := Lib.hid hec
          replace hx3 := Lib.hid hx3
          replace hRE := Lib.hid hRE
          clear hx4
          go_wp2
          go_ret
          exact .inl ⟨x, hx3.out, by rw [hec.out]; rfl, nn, hRE.out⟩
        · have hNW : N3.length + W3.length ≤ 200000 := by have := ht.out; omega
          clear hE
          cases hb : F9.bop r3 with
          | some op =>
            have hbo := F9.bop_op hb
            have hl := F9.nx_lt hbo.2.2
            have hfo := fin_ok (F9.rul op) W3 N3 hW
            have hv2 := Lib.hid (hv.bin k1 k2 hb)
            have hW2 : Hid (okW (op :: (F9.fin (F9.rul op) N3 W3).2)) := Lib.hid (fun u hu => by
              rcases List.mem_cons.1 hu with rfl | hu
              · exact .inr ⟨hbo.1, hbo.2.1⟩
              · exact hfo.1 u hu)
            have hn2 : Hid ((F9.fin (F9.rul op) N3 W3).1.length + (op :: (F9.fin (F9.rul op) N3 W3).2).length + (F9.nx r3).length ≤ t.size) := Lib.hid (by have := hfo.2; simp; omega)
            have hB := Lib.hid (R6.binY hO.out ht.out hW hNW hb)
            have hps3 := Lib.hid R6.pos
            have hl2 : Hid ((F9.nx r3).length < r3.length) := Lib.hid hl
            have hps5 : Hid (r3.length ≤ r.length) := Lib.hid k3
            clear R6 hv hW hn k1 k2 k3 hNW hb hbo hl hfo
            go_wp2_with fail
            refine hB.out.mono ?_
            rintro e w6 ⟨rfl, R7⟩
            have hp2 := Lib.hid R7.pos
            replace R7 := Lib.hid R7
            clear hB
            go_wp2
            go_roundw
            case rel => exact ⟨_, _, _, R7.out, hv2.out, hW2.out, hn2.out⟩
            case measure => (have a1 := hps.out; have a2 := hp2.out; have a3 := hl2.out; have a4 := hps5.out; omega)
          | none =>
            have hB := Lib.hid (R6.binN hO.out hb)
            by_cases he : F9.fw r3 = [] ∧ (F9.fin 1 N3 W3).2 = []
            · have hxX := hv.end_ok k1 k2 hb he.1 he.2
              have hE := Lib.hid (fun V (hV : RS fs w0 V rb t nn r3 N3 W3) => hV.endY hO.out hW hNW he.1 he.2)
              have hfin := hXc.out
              rw [hxX] at hfin
              obtain ⟨tr, ht1, ht2⟩ : ∃ tr, (F9.fin 1 N3 W3).1 = F9.Tr.post tr ∧ rdT l = .ok (F9.fw (F9.trm l), tr) := by
                rcases hfin with ⟨y, hy1, _⟩ | ⟨tr, hy1, hy2⟩
                · cases hy1
                · injection hy1 with hy1; exact ⟨tr, hy1, hy2⟩
              rw [ht1] at hE
              replace ht2 := Lib.hid ht2
              clear R6 hv hW hn k1 k2 k3 hNW hb he hxX hfin ht1
              go_wp2_with fail
              refine hB.out.mono ?_
              rintro e w6 ⟨rfl, R7⟩
              replace R7 := Lib.hid R7
              clear hB
              go_wp2_with fail
              refine (hE.out _ R7.out).mono ?_
              rintro e w7 ⟨rfl, R8⟩
              replace R8 := Lib.hid R8
              clear hE R7
              go_wp2
              go_ret
              exact .inr ⟨rfl, _, tr, r3, ht2.out, by rw [← hnn.out]; exact R8.out⟩
            · have hxX := hv.end_no k1 k2 hb he
              have hE := Lib.hid (fun V (hV : RS fs w0 V rb t nn r3 N3 W3) => hV.endN hO.out hW hNW he)
              have hfin := hXc.out
              rw [hxX] at hfin
              have ht2 : Hid (rdT l = .error (3, r3)) := Lib.hid (by
                rcases hfin with ⟨y, hy1, hy2, _⟩ | ⟨tr, hy1, hy2⟩
                · injection hy1 with hy1; rw [hy1]; exact hy2
                · cases hy1)
              clear R6 hv hW hn k1 k2 k3 hNW hb he hxX hfin
              go_wp2_with fail
              refine hB.out.mono ?_
              rintro e w6 ⟨rfl, R7⟩
              replace R7 := Lib.hid R7
              clear hB
              go_wp2_with fail
              refine (hE.out _ R7.out).mono ?_
              rintro e w7 ⟨rfl, R8⟩
              replace R8 := Lib.hid R8
              clear hE R7
              go_wp2
              go_ret
              exact .inl ⟨(3, r3), ht2.out, rfl, nn, R8.out⟩
    · have hsp : Hid (rdT l = .error (3, F9.nx (F9.trm l))) := Lib.hid (by unfold rdT; rw [if_pos h1, if_neg h2])
      clear S hlen hrl hl1 hun hl
      replace h1 := Lib.hid h1
      replace h2 := Lib.hid h2
      go_enter Tryd.func9, Tryd.ntmps9
      go_wp2_with fail
      refine hX.out.mono ?_
      rintro e w1 ⟨rfl, S1⟩
      have R1 := Lib.hid (hfirst.out _ S1)
      clear hX hfirst S1
      go_wp2_with fail
      refine (R1.out.nameY ht.out h1.out).mono ?_
      rintro e w2 ⟨rfl, R2⟩
      obtain ⟨R3, f_3, hrb, c_3⟩ := R2.resp ⟨(F9.fw (F9.trm l)).toArray⟩
      replace R3 := Lib.hid R3
      clear R1 R2
      generalize (⟨(F9.fw (F9.trm l)).toArray⟩ : ByteArray) = nn at *
      go_wp2_with fail
      refine (R3.out.skipN h2.out).mono ?_
      rintro e w4 ⟨rfl, R4⟩
      replace R4 := Lib.hid R4
      clear R3 f_3 hrb c_3 h2
      go_wp2
      go_ret
      exact .inl ⟨_, hsp.out, rfl, nn, _, _, R4.out⟩
  · have hsp : Hid (rdT l = .error (3, F9.trm l)) := Lib.hid (by unfold rdT; rw [if_neg h1])
    have h1 := Bool.eq_false_iff.2 h1
    clear S hlen hrl hun hl
    replace h1 := Lib.hid h1
    go_enter Tryd.func9, Tryd.ntmps9
    go_wp2_with fail
    refine hX.out.mono ?_
    rintro e w1 ⟨rfl, S1⟩
    have R1 := Lib.hid (hfirst.out _ S1)
    clear hX hfirst S1
    go_wp2_with fail
    refine (R1.out.nameN h1.out).mono ?_
    rintro e w2 ⟨rfl, R2⟩
    obtain ⟨R3, f_3, hrb, c_3⟩ := R2.resp ByteArray.empty
    replace R3 := Lib.hid R3
    clear R1 R2
    go_wp2
    go_ret
    exact .inl ⟨_, hsp.out, rfl, _, _, _, R3.out⟩
end
end Go.Proofs.YtjebpmjbdchdlaaDoor
