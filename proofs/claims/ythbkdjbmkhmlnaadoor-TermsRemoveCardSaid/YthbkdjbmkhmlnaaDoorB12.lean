/- The reference's reader: primary, where nothing is wrong ahead of it. -/
import Derived.Test.YthbkdjbmkhmlnaaDoorB11
namespace Go.Proofs.YthbkdjbmkhmlnaaDoor
open Go.RowKit
set_option linter.unusedVariables false

/-- The contract of binary, at a fuel. -/
def BinC (w0 : World) (rb : Nat) (t : ByteArray) (f : Nat) : Prop := ∀ (j : Nat) (r : F9.Bs) (bs : List GBk) (V : World), 1 ≤ j → j ≤ 4 → 6 * r.length + (6 - j) ≤ f → RA w0 V rb t r bs →
  Calls Tryd.prog 47 #[.pointer (some ⟨rb, 0, none⟩), .int .i64 j] V fun e w' => Res w0 w' rb t e bs r.length (F9.run f (.bin j) r)
section
variable {w0 W : World} {rb : Nat} {t : ByteArray} {r : F9.Bs} {bs : List GBk} {er : Int} {pl k : Nat}
set_option maxRecDepth 100000 in
set_option maxHeartbeats 4000000 in
theorem RA.primB {f : Nat} (hB : BinC w0 rb t f) (hr : 6 * r.length ≤ f) (h : RA w0 W rb t r bs) (ht : t.size ≤ 100000) (h1 : F9.fw r = [40]) : Calls Tryd.prog 97 #[.pointer (some ⟨rb, 0, none⟩)] W fun e w' => Res w0 w' rb t e bs r.length (F9.run (f + 1) .prim r) := by
  have hl := F9.nx_lt (r := r) (by rw [h1]; simp)
  have hX := Lib.hid (fun V (hV : RA w0 V rb t (F9.nx r) bs) => hB 1 (F9.nx r) bs V (by decide) (by decide) (by omega) hV)
  replace ht := Lib.hid ht
  cases hq : F9.run f (.bin 1) (F9.nx r) with
  | error x =>
    rw [show F9.run (f + 1) .prim r = .error x by rw [F9.run, if_pos h1, hq]]
    rw [hq] at hX
    have hl2 := Lib.hid hl
    replace h1 := Lib.hid h1
    clear hq hl hB hr
    replace h := Lib.hid h
    go_enter Tryd.func97, Tryd.ntmps97
    go_wp2_with fail
    refine (h.out.takeY ht.out (c := 40) ⟨rfl, rfl, by decide⟩ h1.out).mono ?_
    rintro e w1 ⟨rfl, R1⟩
    replace R1 := Lib.hid R1
    clear h
    go_wp2_with fail
    refine (hX.out _ R1.out).mono ?_
    rintro e w2 ⟨l, ob, rfl, hL, hO, R2⟩
    have hv : l.v = .slice l.A l.L.length l.c := rfl
    rw [hv]
    replace hL := Lib.hid hL
    replace hO := Lib.hid hO
    replace R2 := Lib.hid R2
    clear hX R1 hv
    go_wp2_with fail
    refine (R2.out.want (c := 41) (by omega) ht.out ⟨rfl, rfl, by decide⟩).mono ?_
    rintro e w3 ⟨rfl, R3⟩
    replace R3 := Lib.hid R3
    clear R2
    go_wp2
    go_ret
    exact ⟨l, ob, rfl, by have := hL.out; have := hl2.out; omega, hO.out, R3.out⟩
  | ok y =>
    obtain ⟨a, r1⟩ := y
    have hl2 := Lib.hid hl
    by_cases h2 : F9.fw r1 = [41]
    · rw [show F9.run (f + 1) .prim r = .ok (a, F9.nx r1) by rw [F9.run, if_pos h1, hq]; simp only [if_pos h2]]
      rw [hq] at hX
      replace h1 := Lib.hid h1
      clear hq hl hB hr
      replace h2 := Lib.hid h2
      replace h := Lib.hid h
      go_enter Tryd.func97, Tryd.ntmps97
      go_wp2_with fail
      refine (h.out.takeY ht.out (c := 40) ⟨rfl, rfl, by decide⟩ h1.out).mono ?_
      rintro e w1 ⟨rfl, R1⟩
      replace R1 := Lib.hid R1
      clear h
      go_wp2_with fail
      refine (hX.out _ R1.out).mono ?_
      rintro e w2 ⟨⟨l, ob, rfl, hL, hO, R2⟩, hbd⟩
      have hv : l.v = .slice l.A l.L.length l.c := rfl
      rw [hv]
      replace hL := Lib.hid hL
      replace hO := Lib.hid hO
      replace R2 := Lib.hid R2
      replace hbd := Lib.hid hbd
      clear hX R1 hv
      go_wp2_with fail
      refine (R2.out.wantY ht.out (c := 41) ⟨rfl, rfl, by decide⟩ h2.out).mono ?_
      rintro e w3 ⟨rfl, R3⟩
      replace R3 := Lib.hid R3
      clear R2
      go_wp2
      go_ret
      exact ⟨⟨l, ob, rfl, hL.out, hO.out, R3.out⟩, by have := hbd.out; have := hl2.out; have := F9.nx_le r1; omega⟩
    · rw [show F9.run (f + 1) .prim r = .error (3, r1) by rw [F9.run, if_pos h1, hq]; simp only [if_neg h2]]
      rw [hq] at hX
      replace h1 := Lib.hid h1
      clear hq hl hB hr
      replace h2 := Lib.hid h2
      replace h := Lib.hid h
      go_enter Tryd.func97, Tryd.ntmps97
      go_wp2_with fail
      refine (h.out.takeY ht.out (c := 40) ⟨rfl, rfl, by decide⟩ h1.out).mono ?_
      rintro e w1 ⟨rfl, R1⟩
      replace R1 := Lib.hid R1
      clear h
      go_wp2_with fail
      refine (hX.out _ R1.out).mono ?_
      rintro e w2 ⟨⟨l, ob, rfl, hL, hO, R2⟩, hbd⟩
      have hv : l.v = .slice l.A l.L.length l.c := rfl
      rw [hv]
      replace hL := Lib.hid hL
      replace hO := Lib.hid hO
      replace R2 := Lib.hid R2
      replace hbd := Lib.hid hbd
      clear hX R1 hv
      go_wp2_with fail
      refine (R2.out.wantN ht.out (c := 41) ⟨rfl, rfl, by decide⟩ h2.out).mono ?_
      rintro e w3 ⟨rfl, R3⟩
      replace R3 := Lib.hid (R3.mono (Nat.zero_le 1))
      clear R2
      go_wp2
      go_ret
      exact ⟨l, ob, rfl, by rw [hL.out, List.length_map]; have := hbd.out; have := hl2.out; omega, hO.out, R3.out⟩

theorem bs_ne {y : ByteArray} {l : List UInt8} (h : ¬ y = ⟨l.toArray⟩) : (y.toList == l) = false := by
  rw [ByteArray.toList_eq, beq_eq_false_iff_ne]
  intro e
  apply h
  apply ByteArray.ext
  apply Array.ext'
  exact e
/-- What a leaf gives. -/
def ResL (w0 w' : World) (rb : Nat) (t : ByteArray) (e : Ending) (bs : List GBk) (X : F9.Rs (F9.Nd × F9.Bs)) : Prop := match X with
  | .ok (x, r') => ROk w0 w' rb t e bs [toNd x] r'
  | .error x => RBad w0 w' rb t e bs 1 x.1 (t.size - x.2.length)
set_option maxRecDepth 100000 in
set_option maxHeartbeats 4000000 in
theorem RA.leaf0 (h : RA w0 W rb t r bs) (ht : t.size ≤ 100000) (h0 : ¬ F9.fw r = [40]) (h1 : F9.fw r = [48]) : Calls Tryd.prog 97 #[.pointer (some ⟨rb, 0, none⟩)] W fun e w' => ResL w0 w' rb t e bs (F9.leaf r) := by
  have hx : F9.leaf r = .ok (⟨4, [], 0⟩, F9.nx r) := by
    unfold F9.leaf
    rw [if_pos h1]
  rw [hx]
  clear hx
  have hd := dg0.2 h1
  replace ht := Lib.hid ht
  replace h0 := Lib.hid h0
  replace h1 := Lib.hid h1
  replace h := Lib.hid h
  go_enter Tryd.func97, Tryd.ntmps97
  go_wp2_with fail
  refine (h.out.takeN ht.out (c := 40) ⟨rfl, rfl, by decide⟩ h0.out).mono ?_
  rintro e w1 ⟨rfl, R1⟩
  replace R1 := Lib.hid R1
  clear h
  go_wp2_with fail
  refine (R1.out.digitP ht.out).mono ?_
  rintro e w2 ⟨rfl, R2⟩
  replace R2 := Lib.hid R2
  clear R1
  rw [hd]
  clear hd
  obtain ⟨p, R52⟩ := R2.out
  obtain ⟨RR, f_1, bl, c_1⟩ := R52.on (n := 1) (by rw [h1.out]; rfl) (by decide)
  have hp5 : p ≤ 100000 := by have := R52.1; have := ht.out; omega
  have R102 : Hid (RA w0 (w2.setCell ⟨rb, 1, none⟩ (.int .i64 ((p : Int) + 1))) rb t (F9.nx r) bs) := Lib.hid RR
  clear RR R52 R2
  go_upto_region 8 with fail
  clear f_1 bl c_1
  obtain ⟨W9, hW9⟩ : ∃ V, V = w2.setCell ⟨rb, 1, none⟩ (.int .i64 ((p : Int) + 1)) := ⟨_, rfl⟩
  rw [← hW9] at R102 ⊢
  clear hW9
  have RF := Lib.hid (R102.out.put ⟨4, ⟨#[]⟩, 0⟩)
  clear R102
  go_wp2
  go_ret
  exact ⟨⟨some ⟨W9.heap.size, 0, none⟩, 1, [(⟨4, ⟨#[]⟩, 0⟩ : Nd)]⟩, [(W9.heap.size, (ndC.cs (⟨4, ⟨#[]⟩, 0⟩ : Nd)).toArray, 39)], rfl, rfl, OBn.one _ _, RF.out⟩

set_option maxRecDepth 100000 in
set_option maxHeartbeats 4000000 in
theorem RA.leaf1 (h : RA w0 W rb t r bs) (ht : t.size ≤ 100000) (h0 : ¬ F9.fw r = [40]) (h1 : F9.fw r = [49]) : Calls Tryd.prog 97 #[.pointer (some ⟨rb, 0, none⟩)] W fun e w' => ResL w0 w' rb t e bs (F9.leaf r) := by
  have hx : F9.leaf r = .ok (⟨3, [], 0⟩, F9.nx r) := by
    unfold F9.leaf
    rw [if_neg (by rw [h1]; simp), if_pos h1]
  rw [hx]
  clear hx
  have hd := dg1.2 h1
  replace ht := Lib.hid ht
  replace h0 := Lib.hid h0
  replace h1 := Lib.hid h1
  replace h := Lib.hid h
  go_enter Tryd.func97, Tryd.ntmps97
  go_wp2_with fail
  refine (h.out.takeN ht.out (c := 40) ⟨rfl, rfl, by decide⟩ h0.out).mono ?_
  rintro e w1 ⟨rfl, R1⟩
  replace R1 := Lib.hid R1
  clear h
  go_wp2_with fail
  refine (R1.out.digitP ht.out).mono ?_
  rintro e w2 ⟨rfl, R2⟩
  replace R2 := Lib.hid R2
  clear R1
  rw [hd]
  clear hd
  obtain ⟨p, R52⟩ := R2.out
  obtain ⟨RR, f_1, bl, c_1⟩ := R52.on (n := 1) (by rw [h1.out]; rfl) (by decide)
  have hp5 : p ≤ 100000 := by have := R52.1; have := ht.out; omega
  have R102 : Hid (RA w0 (w2.setCell ⟨rb, 1, none⟩ (.int .i64 ((p : Int) + 1))) rb t (F9.nx r) bs) := Lib.hid RR
  clear RR R52 R2
  go_upto_region 8 with fail
  clear f_1 bl c_1
  obtain ⟨W9, hW9⟩ : ∃ V, V = w2.setCell ⟨rb, 1, none⟩ (.int .i64 ((p : Int) + 1)) := ⟨_, rfl⟩
  rw [← hW9] at R102 ⊢
  clear hW9
  have RF := Lib.hid (R102.out.put ⟨3, ⟨#[]⟩, 0⟩)
  clear R102
  go_wp2
  go_ret
  exact ⟨⟨some ⟨W9.heap.size, 0, none⟩, 1, [(⟨3, ⟨#[]⟩, 0⟩ : Nd)]⟩, [(W9.heap.size, (ndC.cs (⟨3, ⟨#[]⟩, 0⟩ : Nd)).toArray, 39)], rfl, rfl, OBn.one _ _, RF.out⟩

set_option maxRecDepth 100000 in
set_option maxHeartbeats 4000000 in
theorem RA.leafN (h : RA w0 W rb t r bs) (ht : t.size ≤ 100000) (h0 : ¬ F9.fw r = [40]) (h1 : ¬ F9.fw r = [48]) (h2 : ¬ F9.fw r = [49]) (h3 : ¬ F9.fw r = [112, 111, 119, 101, 114]) (h4 : nameL (F9.fw r) = true) : Calls Tryd.prog 97 #[.pointer (some ⟨rb, 0, none⟩)] W fun e w' => ResL w0 w' rb t e bs (F9.leaf r) := by
  have hx : F9.leaf r = .ok (⟨1, F9.fw r, 0⟩, F9.nx r) := by
    unfold F9.leaf
    rw [if_neg h1, if_neg h2, if_neg h3, if_pos h4]
  rw [hx]
  clear hx
  have hd0 : ¬ dgN r = 0 := fun e => h1 (dg0.1 e)
  have hd1 : ¬ dgN r = 1 := fun e => h2 (dg1.1 e)
  have hd2 : (dgN r == 0) = false := by rw [beq_eq_false_iff_ne]; exact hd0
  have hd3 : (dgN r == 1) = false := by rw [beq_eq_false_iff_ne]; exact hd1
  obtain ⟨dv, hdv⟩ : ∃ v, v = dgN r := ⟨_, rfl⟩
  rw [← hdv] at hd0 hd1 hd2 hd3
  replace ht := Lib.hid ht
  replace h0 := Lib.hid h0
  replace h1 := Lib.hid h1
  replace h2 := Lib.hid h2
  replace h3 := Lib.hid h3
  replace h4 := Lib.hid h4
  replace h := Lib.hid h
  go_enter Tryd.func97, Tryd.ntmps97
  go_wp2_with fail
  refine (h.out.takeN ht.out (c := 40) ⟨rfl, rfl, by decide⟩ h0.out).mono ?_
  rintro e w1 ⟨rfl, R1⟩
  replace R1 := Lib.hid R1
  clear h
  go_wp2_with fail
  refine (R1.out.digit ht.out).mono ?_
  rintro e w2 ⟨rfl, R2⟩
  replace R2 := Lib.hid R2
  clear R1
  rw [← hdv]
  replace hdv := Lib.hid hdv
  go_wp2_with fail
  refine (R2.out.word_not ht.out (⟨112, [111, 119, 101, 114], rfl, rfl⟩ : ∃ c s, ([112, 111, 119, 101, 114] : F9.Bs) = c :: s ∧ letB c = true) h3.out).mono ?_
  rintro e w3 ⟨y, rfl, hy, R3⟩
  replace R3 := Lib.hid R3
  clear R2
  have hy2 := bs_ne hy
  clear hy
  go_wp2_with fail
  refine (R3.out.nameY ht.out h4.out).mono ?_
  rintro e w4 ⟨rfl, R4⟩
  replace R4 := Lib.hid R4
  clear R3
  obtain ⟨ns, hns⟩ : ∃ s : ByteArray, s = ⟨(F9.fw r).toArray⟩ := ⟨_, rfl⟩
  rw [← hns]
  replace hns := Lib.hid hns
  have RF := Lib.hid (R4.out.put ⟨1, ns, 0⟩)
  clear R4
  go_wp2
  go_ret
  exact ⟨⟨some ⟨w4.heap.size, 0, none⟩, 1, [(⟨1, ns, 0⟩ : Nd)]⟩, [(w4.heap.size, (ndC.cs (⟨1, ns, 0⟩ : Nd)).toArray, 39)], rfl, by rw [hns.out]; rfl, OBn.one _ _, RF.out⟩

set_option maxRecDepth 100000 in
set_option maxHeartbeats 4000000 in
theorem RA.leafNo (h : RA w0 W rb t r bs) (ht : t.size ≤ 100000) (h0 : ¬ F9.fw r = [40]) (h1 : ¬ F9.fw r = [48]) (h2 : ¬ F9.fw r = [49]) (h3 : ¬ F9.fw r = [112, 111, 119, 101, 114]) (h4 : nameL (F9.fw r) = false) : Calls Tryd.prog 97 #[.pointer (some ⟨rb, 0, none⟩)] W fun e w' => ResL w0 w' rb t e bs (F9.leaf r) := by
  have hx : F9.leaf r = .error (3, r) := by
    unfold F9.leaf
    rw [if_neg h1, if_neg h2, if_neg h3, if_neg (by rw [h4]; simp)]
  rw [hx]
  clear hx
  have hd0 : ¬ dgN r = 0 := fun e => h1 (dg0.1 e)
  have hd1 : ¬ dgN r = 1 := fun e => h2 (dg1.1 e)
  have hd2 : (dgN r == 0) = false := by rw [beq_eq_false_iff_ne]; exact hd0
  have hd3 : (dgN r == 1) = false := by rw [beq_eq_false_iff_ne]; exact hd1
  obtain ⟨dv, hdv⟩ : ∃ v, v = dgN r := ⟨_, rfl⟩
  rw [← hdv] at hd0 hd1 hd2 hd3
  replace ht := Lib.hid ht
  replace h0 := Lib.hid h0
  replace h1 := Lib.hid h1
  replace h2 := Lib.hid h2
  replace h3 := Lib.hid h3
  replace h4 := Lib.hid h4
  replace h := Lib.hid h
  go_enter Tryd.func97, Tryd.ntmps97
  go_wp2_with fail
  refine (h.out.takeN ht.out (c := 40) ⟨rfl, rfl, by decide⟩ h0.out).mono ?_
  rintro e w1 ⟨rfl, R1⟩
  replace R1 := Lib.hid R1
  clear h
  go_wp2_with fail
  refine (R1.out.digit ht.out).mono ?_
  rintro e w2 ⟨rfl, R2⟩
  replace R2 := Lib.hid R2
  clear R1
  rw [← hdv]
  replace hdv := Lib.hid hdv
  go_wp2_with fail
  refine (R2.out.word_not ht.out (⟨112, [111, 119, 101, 114], rfl, rfl⟩ : ∃ c s, ([112, 111, 119, 101, 114] : F9.Bs) = c :: s ∧ letB c = true) h3.out).mono ?_
  rintro e w3 ⟨y, rfl, hy, R3⟩
  replace R3 := Lib.hid R3
  clear R2
  have hy2 := bs_ne hy
  clear hy
  go_wp2_with fail
  refine (R3.out.nameN ht.out h4.out).mono ?_
  rintro e w4 ⟨rfl, R4⟩
  replace R4 := Lib.hid R4
  clear R3
  have RR := Lib.hid (R4.out.mono (Nat.zero_le 1))
  clear R4
  have RF := Lib.hid (RR.out.put ⟨1, ByteArray.empty, 0⟩)
  clear RR
  go_wp2
  go_ret
  exact ⟨⟨some ⟨w4.heap.size, 0, none⟩, 1, [(⟨1, ByteArray.empty, 0⟩ : Nd)]⟩, [(w4.heap.size, (ndC.cs (⟨1, ByteArray.empty, 0⟩ : Nd)).toArray, 39)], rfl, Nat.le_refl _, OBn.one _ _, RF.out⟩

set_option maxRecDepth 100000 in
set_option maxHeartbeats 4000000 in
theorem RA.pow1 (h : RA w0 W rb t r bs) (ht : t.size ≤ 100000) (h0 : ¬ F9.fw r = [40]) (h1 : ¬ F9.fw r = [48]) (h2 : ¬ F9.fw r = [49]) (h3 : F9.fw r = [112, 111, 119, 101, 114]) (h4 : ¬ F9.fw (F9.nx r) = [40]) : Calls Tryd.prog 97 #[.pointer (some ⟨rb, 0, none⟩)] W fun e w' => ResL w0 w' rb t e bs (F9.leaf r) := by
  have hx : F9.leaf r = .error (3, F9.nx r) := by
    unfold F9.leaf
    rw [if_neg h1, if_neg h2, if_pos h3]
    unfold F9.pw
    rw [if_neg h4]
  rw [hx]
  clear hx
  have hd0 : ¬ dgN r = 0 := fun e => h1 (dg0.1 e)
  have hd1 : ¬ dgN r = 1 := fun e => h2 (dg1.1 e)
  have hd2 : (dgN r == 0) = false := by rw [beq_eq_false_iff_ne]; exact hd0
  have hd3 : (dgN r == 1) = false := by rw [beq_eq_false_iff_ne]; exact hd1
  obtain ⟨dv, hdv⟩ : ∃ v, v = dgN r := ⟨_, rfl⟩
  rw [← hdv] at hd0 hd1 hd2 hd3
  replace ht := Lib.hid ht
  replace h0 := Lib.hid h0
  replace h1 := Lib.hid h1
  replace h2 := Lib.hid h2
  replace h3 := Lib.hid h3
  replace h4 := Lib.hid h4
  replace h := Lib.hid h
  go_enter Tryd.func97, Tryd.ntmps97
  go_wp2_with fail
  refine (h.out.takeN ht.out (c := 40) ⟨rfl, rfl, by decide⟩ h0.out).mono ?_
  rintro e w1 ⟨rfl, R1⟩
  replace R1 := Lib.hid R1
  clear h
  go_wp2_with fail
  refine (R1.out.digit ht.out).mono ?_
  rintro e w2 ⟨rfl, R2⟩
  replace R2 := Lib.hid R2
  clear R1
  rw [← hdv]
  replace hdv := Lib.hid hdv
  go_wp2_with fail
  refine (R2.out.wordP ht.out (⟨112, [111, 119, 101, 114], rfl, rfl⟩ : ∃ c s, ([112, 111, 119, 101, 114] : F9.Bs) = c :: s ∧ letB c = true) h3.out).mono ?_
  rintro e w3 ⟨rfl, R3⟩
  replace R3 := Lib.hid R3
  clear R2
  obtain ⟨p, R53⟩ := R3.out
  obtain ⟨RR, f_1, bl, c_1⟩ := R53.on (n := 5) (by rw [h3.out]; rfl) (by decide)
  have hp5 : p ≤ 100000 := by have := R53.1; have := ht.out; omega
  have R103 : Hid (RA w0 (w3.setCell ⟨rb, 1, none⟩ (.int .i64 ((p : Int) + 5))) rb t (F9.nx r) bs) := Lib.hid RR
  clear RR R53 R3
  go_upto_region 12 with fail
  clear f_1 bl c_1
  obtain ⟨W9, hW9⟩ : ∃ V, V = w3.setCell ⟨rb, 1, none⟩ (.int .i64 ((p : Int) + 5)) := ⟨_, rfl⟩
  rw [← hW9] at R103 ⊢
  clear hW9
  go_wp2_with fail
  refine (R103.out.wantN ht.out (c := 40) ⟨rfl, rfl, by decide⟩ h4.out).mono ?_
  rintro e w4 ⟨rfl, R4⟩
  replace R4 := Lib.hid R4
  clear R103
  go_wp2_with fail
  refine (R4.out.name (by omega) ht.out).mono ?_
  rintro e w5 ⟨rfl, R5⟩
  replace R5 := Lib.hid R5
  clear R4
  go_wp2_with fail
  refine (R5.out.want (c := 44) (by omega) ht.out ⟨rfl, rfl, by decide⟩).mono ?_
  rintro e w6 ⟨rfl, R6⟩
  replace R6 := Lib.hid R6
  clear R5
  go_wp2_with fail
  refine (R6.out.exp (by omega) ht.out 2 8).mono ?_
  rintro e w7 ⟨rfl, R7⟩
  replace R7 := Lib.hid R7
  clear R6
  go_wp2_with fail
  refine (R7.out.want (c := 41) (by omega) ht.out ⟨rfl, rfl, by decide⟩).mono ?_
  rintro e w8 ⟨rfl, R8⟩
  replace R8 := Lib.hid R8
  clear R7
  have RR := Lib.hid (R8.out.mono (show _ ≤ 1 by omega))
  clear R8
  have RF := Lib.hid (RR.out.put ⟨2, ByteArray.empty, -1⟩)
  clear RR
  go_wp2
  go_ret
  exact ⟨⟨some ⟨w8.heap.size, 0, none⟩, 1, [(⟨2, ByteArray.empty, -1⟩ : Nd)]⟩, [(w8.heap.size, (ndC.cs (⟨2, ByteArray.empty, -1⟩ : Nd)).toArray, 39)], rfl, Nat.le_refl _, OBn.one _ _, RF.out⟩

set_option maxRecDepth 100000 in
set_option maxHeartbeats 4000000 in
theorem RA.pow2 (h : RA w0 W rb t r bs) (ht : t.size ≤ 100000) (h0 : ¬ F9.fw r = [40]) (h1 : ¬ F9.fw r = [48]) (h2 : ¬ F9.fw r = [49]) (h3 : F9.fw r = [112, 111, 119, 101, 114]) (h4 : F9.fw (F9.nx r) = [40]) (h5 : nameL (F9.fw (F9.nx (F9.nx r))) = false) : Calls Tryd.prog 97 #[.pointer (some ⟨rb, 0, none⟩)] W fun e w' => ResL w0 w' rb t e bs (F9.leaf r) := by
  have hx : F9.leaf r = .error (3, F9.nx (F9.nx r)) := by
    unfold F9.leaf
    rw [if_neg h1, if_neg h2, if_pos h3]
    unfold F9.pw
    rw [if_pos h4, if_neg (by rw [h5]; simp)]
  rw [hx]
  clear hx
  have hd0 : ¬ dgN r = 0 := fun e => h1 (dg0.1 e)
  have hd1 : ¬ dgN r = 1 := fun e => h2 (dg1.1 e)
  have hd2 : (dgN r == 0) = false := by rw [beq_eq_false_iff_ne]; exact hd0
  have hd3 : (dgN r == 1) = false := by rw [beq_eq_false_iff_ne]; exact hd1
  obtain ⟨dv, hdv⟩ : ∃ v, v = dgN r := ⟨_, rfl⟩
  rw [← hdv] at hd0 hd1 hd2 hd3
  replace ht := Lib.hid ht
  replace h0 := Lib.hid h0
  replace h1 := Lib.hid h1
  replace h2 := Lib.hid h2
  replace h3 := Lib.hid h3
  replace h4 := Lib.hid h4
  replace h5 := Lib.hid h5
  replace h := Lib.hid h
  go_enter Tryd.func97, Tryd.ntmps97
  go_wp2_with fail
  refine (h.out.takeN ht.out (c := 40) ⟨rfl, rfl, by decide⟩ h0.out).mono ?_
  rintro e w1 ⟨rfl, R1⟩
  replace R1 := Lib.hid R1
  clear h
  go_wp2_with fail
  refine (R1.out.digit ht.out).mono ?_
  rintro e w2 ⟨rfl, R2⟩
  replace R2 := Lib.hid R2
  clear R1
  rw [← hdv]
  replace hdv := Lib.hid hdv
  go_wp2_with fail
  refine (R2.out.wordP ht.out (⟨112, [111, 119, 101, 114], rfl, rfl⟩ : ∃ c s, ([112, 111, 119, 101, 114] : F9.Bs) = c :: s ∧ letB c = true) h3.out).mono ?_
  rintro e w3 ⟨rfl, R3⟩
  replace R3 := Lib.hid R3
  clear R2
  obtain ⟨p, R53⟩ := R3.out
  obtain ⟨RR, f_1, bl, c_1⟩ := R53.on (n := 5) (by rw [h3.out]; rfl) (by decide)
  have hp5 : p ≤ 100000 := by have := R53.1; have := ht.out; omega
  have R103 : Hid (RA w0 (w3.setCell ⟨rb, 1, none⟩ (.int .i64 ((p : Int) + 5))) rb t (F9.nx r) bs) := Lib.hid RR
  clear RR R53 R3
  go_upto_region 12 with fail
  clear f_1 bl c_1
  obtain ⟨W9, hW9⟩ : ∃ V, V = w3.setCell ⟨rb, 1, none⟩ (.int .i64 ((p : Int) + 5)) := ⟨_, rfl⟩
  rw [← hW9] at R103 ⊢
  clear hW9
  go_wp2_with fail
  refine (R103.out.wantY ht.out (c := 40) ⟨rfl, rfl, by decide⟩ h4.out).mono ?_
  rintro e w4 ⟨rfl, R4⟩
  replace R4 := Lib.hid R4
  clear R103
  go_wp2_with fail
  refine (R4.out.nameN ht.out h5.out).mono ?_
  rintro e w5 ⟨rfl, R5⟩
  replace R5 := Lib.hid R5
  clear R4
  go_wp2_with fail
  refine (R5.out.want (c := 44) (by omega) ht.out ⟨rfl, rfl, by decide⟩).mono ?_
  rintro e w6 ⟨rfl, R6⟩
  replace R6 := Lib.hid R6
  clear R5
  go_wp2_with fail
  refine (R6.out.exp (by omega) ht.out 2 8).mono ?_
  rintro e w7 ⟨rfl, R7⟩
  replace R7 := Lib.hid R7
  clear R6
  go_wp2_with fail
  refine (R7.out.want (c := 41) (by omega) ht.out ⟨rfl, rfl, by decide⟩).mono ?_
  rintro e w8 ⟨rfl, R8⟩
  replace R8 := Lib.hid R8
  clear R7
  have RR := Lib.hid (R8.out.mono (show _ ≤ 1 by omega))
  clear R8
  have RF := Lib.hid (RR.out.put ⟨2, ByteArray.empty, -1⟩)
  clear RR
  go_wp2
  go_ret
  exact ⟨⟨some ⟨w8.heap.size, 0, none⟩, 1, [(⟨2, ByteArray.empty, -1⟩ : Nd)]⟩, [(w8.heap.size, (ndC.cs (⟨2, ByteArray.empty, -1⟩ : Nd)).toArray, 39)], rfl, Nat.le_refl _, OBn.one _ _, RF.out⟩

set_option maxRecDepth 100000 in
set_option maxHeartbeats 4000000 in
theorem RA.pow3 (h : RA w0 W rb t r bs) (ht : t.size ≤ 100000) (h0 : ¬ F9.fw r = [40]) (h1 : ¬ F9.fw r = [48]) (h2 : ¬ F9.fw r = [49]) (h3 : F9.fw r = [112, 111, 119, 101, 114]) (h4 : F9.fw (F9.nx r) = [40]) (h5 : nameL (F9.fw (F9.nx (F9.nx r))) = true) (h6 : ¬ F9.fw (F9.nx (F9.nx (F9.nx r))) = [44]) : Calls Tryd.prog 97 #[.pointer (some ⟨rb, 0, none⟩)] W fun e w' => ResL w0 w' rb t e bs (F9.leaf r) := by
  have hx : F9.leaf r = .error (3, F9.nx (F9.nx (F9.nx r))) := by
    unfold F9.leaf
    rw [if_neg h1, if_neg h2, if_pos h3]
    unfold F9.pw
    rw [if_pos h4, if_pos h5, if_neg h6]
  rw [hx]
  clear hx
  have hd0 : ¬ dgN r = 0 := fun e => h1 (dg0.1 e)
  have hd1 : ¬ dgN r = 1 := fun e => h2 (dg1.1 e)
  have hd2 : (dgN r == 0) = false := by rw [beq_eq_false_iff_ne]; exact hd0
  have hd3 : (dgN r == 1) = false := by rw [beq_eq_false_iff_ne]; exact hd1
  obtain ⟨dv, hdv⟩ : ∃ v, v = dgN r := ⟨_, rfl⟩
  rw [← hdv] at hd0 hd1 hd2 hd3
  replace ht := Lib.hid ht
  replace h0 := Lib.hid h0
  replace h1 := Lib.hid h1
  replace h2 := Lib.hid h2
  replace h3 := Lib.hid h3
  replace h4 := Lib.hid h4
  replace h5 := Lib.hid h5
  replace h6 := Lib.hid h6
  replace h := Lib.hid h
  go_enter Tryd.func97, Tryd.ntmps97
  go_wp2_with fail
  refine (h.out.takeN ht.out (c := 40) ⟨rfl, rfl, by decide⟩ h0.out).mono ?_
  rintro e w1 ⟨rfl, R1⟩
  replace R1 := Lib.hid R1
  clear h
  go_wp2_with fail
  refine (R1.out.digit ht.out).mono ?_
  rintro e w2 ⟨rfl, R2⟩
  replace R2 := Lib.hid R2
  clear R1
  rw [← hdv]
  replace hdv := Lib.hid hdv
  go_wp2_with fail
  refine (R2.out.wordP ht.out (⟨112, [111, 119, 101, 114], rfl, rfl⟩ : ∃ c s, ([112, 111, 119, 101, 114] : F9.Bs) = c :: s ∧ letB c = true) h3.out).mono ?_
  rintro e w3 ⟨rfl, R3⟩
  replace R3 := Lib.hid R3
  clear R2
  obtain ⟨p, R53⟩ := R3.out
  obtain ⟨RR, f_1, bl, c_1⟩ := R53.on (n := 5) (by rw [h3.out]; rfl) (by decide)
  have hp5 : p ≤ 100000 := by have := R53.1; have := ht.out; omega
  have R103 : Hid (RA w0 (w3.setCell ⟨rb, 1, none⟩ (.int .i64 ((p : Int) + 5))) rb t (F9.nx r) bs) := Lib.hid RR
  clear RR R53 R3
  go_upto_region 12 with fail
  clear f_1 bl c_1
  obtain ⟨W9, hW9⟩ : ∃ V, V = w3.setCell ⟨rb, 1, none⟩ (.int .i64 ((p : Int) + 5)) := ⟨_, rfl⟩
  rw [← hW9] at R103 ⊢
  clear hW9
  go_wp2_with fail
  refine (R103.out.wantY ht.out (c := 40) ⟨rfl, rfl, by decide⟩ h4.out).mono ?_
  rintro e w4 ⟨rfl, R4⟩
  replace R4 := Lib.hid R4
  clear R103
  go_wp2_with fail
  refine (R4.out.nameY ht.out h5.out).mono ?_
  rintro e w5 ⟨rfl, R5⟩
  replace R5 := Lib.hid R5
  clear R4
  obtain ⟨ns, hns⟩ : ∃ s : ByteArray, s = ⟨(F9.fw (F9.nx (F9.nx r))).toArray⟩ := ⟨_, rfl⟩
  rw [← hns]
  replace hns := Lib.hid hns
  go_wp2_with fail
  refine (R5.out.wantN ht.out (c := 44) ⟨rfl, rfl, by decide⟩ h6.out).mono ?_
  rintro e w6 ⟨rfl, R6⟩
  replace R6 := Lib.hid R6
  clear R5
  go_wp2_with fail
  refine (R6.out.exp (by omega) ht.out 2 8).mono ?_
  rintro e w7 ⟨rfl, R7⟩
  replace R7 := Lib.hid R7
  clear R6
  go_wp2_with fail
  refine (R7.out.want (c := 41) (by omega) ht.out ⟨rfl, rfl, by decide⟩).mono ?_
  rintro e w8 ⟨rfl, R8⟩
  replace R8 := Lib.hid R8
  clear R7
  have RR := Lib.hid (R8.out.mono (show _ ≤ 1 by omega))
  clear R8
  have RF := Lib.hid (RR.out.put ⟨2, ns, -1⟩)
  clear RR
  go_wp2
  go_ret
  exact ⟨⟨some ⟨w8.heap.size, 0, none⟩, 1, [(⟨2, ns, -1⟩ : Nd)]⟩, [(w8.heap.size, (ndC.cs (⟨2, ns, -1⟩ : Nd)).toArray, 39)], rfl, Nat.le_refl _, OBn.one _ _, RF.out⟩

set_option maxRecDepth 100000 in
set_option maxHeartbeats 4000000 in
theorem RA.pow4 (h : RA w0 W rb t r bs) (ht : t.size ≤ 100000) (h0 : ¬ F9.fw r = [40]) (h1 : ¬ F9.fw r = [48]) (h2 : ¬ F9.fw r = [49]) (h3 : F9.fw r = [112, 111, 119, 101, 114]) (h4 : F9.fw (F9.nx r) = [40]) (h5 : nameL (F9.fw (F9.nx (F9.nx r))) = true) (h6 : F9.fw (F9.nx (F9.nx (F9.nx r))) = [44]) {x : F9.Er} (h7 : F9.expo 2 8 (F9.nx (F9.nx (F9.nx (F9.nx r)))) = .error x) : Calls Tryd.prog 97 #[.pointer (some ⟨rb, 0, none⟩)] W fun e w' => ResL w0 w' rb t e bs (F9.leaf r) := by
  have hx : F9.leaf r = .error x := by
    unfold F9.leaf
    rw [if_neg h1, if_neg h2, if_pos h3]
    unfold F9.pw
    rw [if_pos h4, if_pos h5, if_pos h6, h7]
  rw [hx]
  clear hx
  have hd0 : ¬ dgN r = 0 := fun e => h1 (dg0.1 e)
  have hd1 : ¬ dgN r = 1 := fun e => h2 (dg1.1 e)
  have hd2 : (dgN r == 0) = false := by rw [beq_eq_false_iff_ne]; exact hd0
  have hd3 : (dgN r == 1) = false := by rw [beq_eq_false_iff_ne]; exact hd1
  obtain ⟨dv, hdv⟩ : ∃ v, v = dgN r := ⟨_, rfl⟩
  rw [← hdv] at hd0 hd1 hd2 hd3
  replace ht := Lib.hid ht
  replace h0 := Lib.hid h0
  replace h1 := Lib.hid h1
  replace h2 := Lib.hid h2
  replace h3 := Lib.hid h3
  replace h4 := Lib.hid h4
  replace h5 := Lib.hid h5
  replace h6 := Lib.hid h6
  replace h7 := Lib.hid h7
  replace h := Lib.hid h
  go_enter Tryd.func97, Tryd.ntmps97
  go_wp2_with fail
  refine (h.out.takeN ht.out (c := 40) ⟨rfl, rfl, by decide⟩ h0.out).mono ?_
  rintro e w1 ⟨rfl, R1⟩
  replace R1 := Lib.hid R1
  clear h
  go_wp2_with fail
  refine (R1.out.digit ht.out).mono ?_
  rintro e w2 ⟨rfl, R2⟩
  replace R2 := Lib.hid R2
  clear R1
  rw [← hdv]
  replace hdv := Lib.hid hdv
  go_wp2_with fail
  refine (R2.out.wordP ht.out (⟨112, [111, 119, 101, 114], rfl, rfl⟩ : ∃ c s, ([112, 111, 119, 101, 114] : F9.Bs) = c :: s ∧ letB c = true) h3.out).mono ?_
  rintro e w3 ⟨rfl, R3⟩
  replace R3 := Lib.hid R3
  clear R2
  obtain ⟨p, R53⟩ := R3.out
  obtain ⟨RR, f_1, bl, c_1⟩ := R53.on (n := 5) (by rw [h3.out]; rfl) (by decide)
  have hp5 : p ≤ 100000 := by have := R53.1; have := ht.out; omega
  have R103 : Hid (RA w0 (w3.setCell ⟨rb, 1, none⟩ (.int .i64 ((p : Int) + 5))) rb t (F9.nx r) bs) := Lib.hid RR
  clear RR R53 R3
  go_upto_region 12 with fail
  clear f_1 bl c_1
  obtain ⟨W9, hW9⟩ : ∃ V, V = w3.setCell ⟨rb, 1, none⟩ (.int .i64 ((p : Int) + 5)) := ⟨_, rfl⟩
  rw [← hW9] at R103 ⊢
  clear hW9
  go_wp2_with fail
  refine (R103.out.wantY ht.out (c := 40) ⟨rfl, rfl, by decide⟩ h4.out).mono ?_
  rintro e w4 ⟨rfl, R4⟩
  replace R4 := Lib.hid R4
  clear R103
  go_wp2_with fail
  refine (R4.out.nameY ht.out h5.out).mono ?_
  rintro e w5 ⟨rfl, R5⟩
  replace R5 := Lib.hid R5
  clear R4
  obtain ⟨ns, hns⟩ : ∃ s : ByteArray, s = ⟨(F9.fw (F9.nx (F9.nx r))).toArray⟩ := ⟨_, rfl⟩
  rw [← hns]
  replace hns := Lib.hid hns
  go_wp2_with fail
  refine (R5.out.wantY ht.out (c := 44) ⟨rfl, rfl, by decide⟩ h6.out).mono ?_
  rintro e w6 ⟨rfl, R6⟩
  replace R6 := Lib.hid R6
  clear R5
  go_wp2_with fail
  refine (R6.out.expN ht.out 2 8 h7.out).mono ?_
  rintro e w7 ⟨ev, rfl, R7⟩
  replace R7 := Lib.hid R7
  clear R6
  go_wp2_with fail
  refine (R7.out.want (c := 41) (by omega) ht.out ⟨rfl, rfl, by decide⟩).mono ?_
  rintro e w8 ⟨rfl, R8⟩
  replace R8 := Lib.hid R8
  clear R7
  have RR := Lib.hid (R8.out.mono (show _ ≤ 1 by omega))
  clear R8
  have RF := Lib.hid (RR.out.put ⟨2, ns, ev⟩)
  clear RR
  go_wp2
  go_ret
  exact ⟨⟨some ⟨w8.heap.size, 0, none⟩, 1, [(⟨2, ns, ev⟩ : Nd)]⟩, [(w8.heap.size, (ndC.cs (⟨2, ns, ev⟩ : Nd)).toArray, 39)], rfl, Nat.le_refl _, OBn.one _ _, RF.out⟩

set_option maxRecDepth 100000 in
set_option maxHeartbeats 4000000 in
theorem RA.pow5 (h : RA w0 W rb t r bs) (ht : t.size ≤ 100000) (h0 : ¬ F9.fw r = [40]) (h1 : ¬ F9.fw r = [48]) (h2 : ¬ F9.fw r = [49]) (h3 : F9.fw r = [112, 111, 119, 101, 114]) (h4 : F9.fw (F9.nx r) = [40]) (h5 : nameL (F9.fw (F9.nx (F9.nx r))) = true) (h6 : F9.fw (F9.nx (F9.nx (F9.nx r))) = [44]) {kk : Nat} {r1 : F9.Bs} (h7 : F9.expo 2 8 (F9.nx (F9.nx (F9.nx (F9.nx r)))) = .ok (kk, r1)) (h8 : ¬ F9.fw r1 = [41]) : Calls Tryd.prog 97 #[.pointer (some ⟨rb, 0, none⟩)] W fun e w' => ResL w0 w' rb t e bs (F9.leaf r) := by
  have hx : F9.leaf r = .error (3, r1) := by
    unfold F9.leaf
    rw [if_neg h1, if_neg h2, if_pos h3]
    unfold F9.pw
    rw [if_pos h4, if_pos h5, if_pos h6, h7]
    simp only [if_neg h8]
  rw [hx]
  clear hx
  have hd0 : ¬ dgN r = 0 := fun e => h1 (dg0.1 e)
  have hd1 : ¬ dgN r = 1 := fun e => h2 (dg1.1 e)
  have hd2 : (dgN r == 0) = false := by rw [beq_eq_false_iff_ne]; exact hd0
  have hd3 : (dgN r == 1) = false := by rw [beq_eq_false_iff_ne]; exact hd1
  obtain ⟨dv, hdv⟩ : ∃ v, v = dgN r := ⟨_, rfl⟩
  rw [← hdv] at hd0 hd1 hd2 hd3
  replace ht := Lib.hid ht
  replace h0 := Lib.hid h0
  replace h1 := Lib.hid h1
  replace h2 := Lib.hid h2
  replace h3 := Lib.hid h3
  replace h4 := Lib.hid h4
  replace h5 := Lib.hid h5
  replace h6 := Lib.hid h6
  replace h7 := Lib.hid h7
  replace h8 := Lib.hid h8
  replace h := Lib.hid h
  go_enter Tryd.func97, Tryd.ntmps97
  go_wp2_with fail
  refine (h.out.takeN ht.out (c := 40) ⟨rfl, rfl, by decide⟩ h0.out).mono ?_
  rintro e w1 ⟨rfl, R1⟩
  replace R1 := Lib.hid R1
  clear h
  go_wp2_with fail
  refine (R1.out.digit ht.out).mono ?_
  rintro e w2 ⟨rfl, R2⟩
  replace R2 := Lib.hid R2
  clear R1
  rw [← hdv]
  replace hdv := Lib.hid hdv
  go_wp2_with fail
  refine (R2.out.wordP ht.out (⟨112, [111, 119, 101, 114], rfl, rfl⟩ : ∃ c s, ([112, 111, 119, 101, 114] : F9.Bs) = c :: s ∧ letB c = true) h3.out).mono ?_
  rintro e w3 ⟨rfl, R3⟩
  replace R3 := Lib.hid R3
  clear R2
  obtain ⟨p, R53⟩ := R3.out
  obtain ⟨RR, f_1, bl, c_1⟩ := R53.on (n := 5) (by rw [h3.out]; rfl) (by decide)
  have hp5 : p ≤ 100000 := by have := R53.1; have := ht.out; omega
  have R103 : Hid (RA w0 (w3.setCell ⟨rb, 1, none⟩ (.int .i64 ((p : Int) + 5))) rb t (F9.nx r) bs) := Lib.hid RR
  clear RR R53 R3
  go_upto_region 12 with fail
  clear f_1 bl c_1
  obtain ⟨W9, hW9⟩ : ∃ V, V = w3.setCell ⟨rb, 1, none⟩ (.int .i64 ((p : Int) + 5)) := ⟨_, rfl⟩
  rw [← hW9] at R103 ⊢
  clear hW9
  go_wp2_with fail
  refine (R103.out.wantY ht.out (c := 40) ⟨rfl, rfl, by decide⟩ h4.out).mono ?_
  rintro e w4 ⟨rfl, R4⟩
  replace R4 := Lib.hid R4
  clear R103
  go_wp2_with fail
  refine (R4.out.nameY ht.out h5.out).mono ?_
  rintro e w5 ⟨rfl, R5⟩
  replace R5 := Lib.hid R5
  clear R4
  obtain ⟨ns, hns⟩ : ∃ s : ByteArray, s = ⟨(F9.fw (F9.nx (F9.nx r))).toArray⟩ := ⟨_, rfl⟩
  rw [← hns]
  replace hns := Lib.hid hns
  go_wp2_with fail
  refine (R5.out.wantY ht.out (c := 44) ⟨rfl, rfl, by decide⟩ h6.out).mono ?_
  rintro e w6 ⟨rfl, R6⟩
  replace R6 := Lib.hid R6
  clear R5
  go_wp2_with fail
  refine (R6.out.expY ht.out 2 8 h7.out).mono ?_
  rintro e w7 ⟨rfl, R7⟩
  replace R7 := Lib.hid R7
  clear R6
  go_wp2_with fail
  refine (R7.out.wantN ht.out (c := 41) ⟨rfl, rfl, by decide⟩ h8.out).mono ?_
  rintro e w8 ⟨rfl, R8⟩
  replace R8 := Lib.hid R8
  clear R7
  have RR := Lib.hid (R8.out.mono (show _ ≤ 1 by omega))
  clear R8
  have RF := Lib.hid (RR.out.put ⟨2, ns, kk⟩)
  clear RR
  go_wp2
  go_ret
  exact ⟨⟨some ⟨w8.heap.size, 0, none⟩, 1, [(⟨2, ns, kk⟩ : Nd)]⟩, [(w8.heap.size, (ndC.cs (⟨2, ns, kk⟩ : Nd)).toArray, 39)], rfl, Nat.le_refl _, OBn.one _ _, RF.out⟩

set_option maxRecDepth 100000 in
set_option maxHeartbeats 4000000 in
theorem RA.pow6 (h : RA w0 W rb t r bs) (ht : t.size ≤ 100000) (h0 : ¬ F9.fw r = [40]) (h1 : ¬ F9.fw r = [48]) (h2 : ¬ F9.fw r = [49]) (h3 : F9.fw r = [112, 111, 119, 101, 114]) (h4 : F9.fw (F9.nx r) = [40]) (h5 : nameL (F9.fw (F9.nx (F9.nx r))) = true) (h6 : F9.fw (F9.nx (F9.nx (F9.nx r))) = [44]) {kk : Nat} {r1 : F9.Bs} (h7 : F9.expo 2 8 (F9.nx (F9.nx (F9.nx (F9.nx r)))) = .ok (kk, r1)) (h8 : F9.fw r1 = [41]) : Calls Tryd.prog 97 #[.pointer (some ⟨rb, 0, none⟩)] W fun e w' => ResL w0 w' rb t e bs (F9.leaf r) := by
  have hx : F9.leaf r = .ok (⟨2, F9.fw (F9.nx (F9.nx r)), kk⟩, F9.nx r1) := by
    unfold F9.leaf
    rw [if_neg h1, if_neg h2, if_pos h3]
    unfold F9.pw
    rw [if_pos h4, if_pos h5, if_pos h6, h7]
    simp only [if_pos h8]
  rw [hx]
  clear hx
  have hd0 : ¬ dgN r = 0 := fun e => h1 (dg0.1 e)
  have hd1 : ¬ dgN r = 1 := fun e => h2 (dg1.1 e)
  have hd2 : (dgN r == 0) = false := by rw [beq_eq_false_iff_ne]; exact hd0
  have hd3 : (dgN r == 1) = false := by rw [beq_eq_false_iff_ne]; exact hd1
  obtain ⟨dv, hdv⟩ : ∃ v, v = dgN r := ⟨_, rfl⟩
  rw [← hdv] at hd0 hd1 hd2 hd3
  replace ht := Lib.hid ht
  replace h0 := Lib.hid h0
  replace h1 := Lib.hid h1
  replace h2 := Lib.hid h2
  replace h3 := Lib.hid h3
  replace h4 := Lib.hid h4
  replace h5 := Lib.hid h5
  replace h6 := Lib.hid h6
  replace h7 := Lib.hid h7
  replace h8 := Lib.hid h8
  replace h := Lib.hid h
  go_enter Tryd.func97, Tryd.ntmps97
  go_wp2_with fail
  refine (h.out.takeN ht.out (c := 40) ⟨rfl, rfl, by decide⟩ h0.out).mono ?_
  rintro e w1 ⟨rfl, R1⟩
  replace R1 := Lib.hid R1
  clear h
  go_wp2_with fail
  refine (R1.out.digit ht.out).mono ?_
  rintro e w2 ⟨rfl, R2⟩
  replace R2 := Lib.hid R2
  clear R1
  rw [← hdv]
  replace hdv := Lib.hid hdv
  go_wp2_with fail
  refine (R2.out.wordP ht.out (⟨112, [111, 119, 101, 114], rfl, rfl⟩ : ∃ c s, ([112, 111, 119, 101, 114] : F9.Bs) = c :: s ∧ letB c = true) h3.out).mono ?_
  rintro e w3 ⟨rfl, R3⟩
  replace R3 := Lib.hid R3
  clear R2
  obtain ⟨p, R53⟩ := R3.out
  obtain ⟨RR, f_1, bl, c_1⟩ := R53.on (n := 5) (by rw [h3.out]; rfl) (by decide)
  have hp5 : p ≤ 100000 := by have := R53.1; have := ht.out; omega
  have R103 : Hid (RA w0 (w3.setCell ⟨rb, 1, none⟩ (.int .i64 ((p : Int) + 5))) rb t (F9.nx r) bs) := Lib.hid RR
  clear RR R53 R3
  go_upto_region 12 with fail
  clear f_1 bl c_1
  obtain ⟨W9, hW9⟩ : ∃ V, V = w3.setCell ⟨rb, 1, none⟩ (.int .i64 ((p : Int) + 5)) := ⟨_, rfl⟩
  rw [← hW9] at R103 ⊢
  clear hW9
  go_wp2_with fail
  refine (R103.out.wantY ht.out (c := 40) ⟨rfl, rfl, by decide⟩ h4.out).mono ?_
  rintro e w4 ⟨rfl, R4⟩
  replace R4 := Lib.hid R4
  clear R103
  go_wp2_with fail
  refine (R4.out.nameY ht.out h5.out).mono ?_
  rintro e w5 ⟨rfl, R5⟩
  replace R5 := Lib.hid R5
  clear R4
  obtain ⟨ns, hns⟩ : ∃ s : ByteArray, s = ⟨(F9.fw (F9.nx (F9.nx r))).toArray⟩ := ⟨_, rfl⟩
  rw [← hns]
  replace hns := Lib.hid hns
  go_wp2_with fail
  refine (R5.out.wantY ht.out (c := 44) ⟨rfl, rfl, by decide⟩ h6.out).mono ?_
  rintro e w6 ⟨rfl, R6⟩
  replace R6 := Lib.hid R6
  clear R5
  go_wp2_with fail
  refine (R6.out.expY ht.out 2 8 h7.out).mono ?_
  rintro e w7 ⟨rfl, R7⟩
  replace R7 := Lib.hid R7
  clear R6
  go_wp2_with fail
  refine (R7.out.wantY ht.out (c := 41) ⟨rfl, rfl, by decide⟩ h8.out).mono ?_
  rintro e w8 ⟨rfl, R8⟩
  replace R8 := Lib.hid R8
  clear R7
  have RF := Lib.hid (R8.out.put ⟨2, ns, (kk : Int)⟩)
  clear R8
  go_wp2
  go_ret
  exact ⟨⟨some ⟨w8.heap.size, 0, none⟩, 1, [(⟨2, ns, (kk : Int)⟩ : Nd)]⟩, [(w8.heap.size, (ndC.cs (⟨2, ns, (kk : Int)⟩ : Nd)).toArray, 39)], rfl, by rw [hns.out]; rfl, OBn.one _ _, RF.out⟩

end
end Go.Proofs.YthbkdjbmkhmlnaaDoor
namespace Go.Proofs.YthbkdjbmkhmlnaaDoor
open Go.RowKit
set_option linter.unusedVariables false

theorem St.sl {w W : World} {bs bs' : List GBk} {rs : List GRd} (h : St w W bs rs) (hs : bs'.Sublist bs) : St w W bs' rs := ⟨h.bel, fun p hp => h.bk p (hs.subset hp), h.nd.sublist hs, h.rd⟩
theorem LR.one1 {W : World} {g ty : Nat} {l : Sl Nd} (hc : Cb W g #[.slice l.A l.L.length l.c] ty) (h : LR ndC W l.A l.L.length l.L) (hl : l.L.length ≤ l.c) : LR (slC ndC) W (some ⟨g, 0, none⟩) 1 [l] := by
  refine ⟨rfl, .inr ⟨g, 0, rfl, hc.lt, fun i x hx k v hv => ?_⟩, fun x hx => by rw [List.mem_singleton.1 hx]; exact ⟨h, hl⟩⟩
  match i, k with
  | 0, 0 =>
    have e : l = x := by simpa using hx
    subst e
    have hv2 : l.v = v := by (have h3 : ([l.v] : List Value)[0]? = some v := hv); simpa using h3
    subst hv2
    exact hc.cell rfl
  | 0, k + 1 => have hv2 : ([x.v] : List Value)[k + 1]? = some v := hv; simp at hv2
  | i + 1, _ => simp at hx
theorem LR.two2 {W : World} {g ty : Nat} {l m : Sl Nd} (hc : Cb W g #[.slice l.A l.L.length l.c, .slice m.A m.L.length m.c] ty) (h : LR ndC W l.A l.L.length l.L) (hl : l.L.length ≤ l.c) (h' : LR ndC W m.A m.L.length m.L) (hl' : m.L.length ≤ m.c) : LR (slC ndC) W (some ⟨g, 0, none⟩) 2 [l, m] := by
  refine ⟨rfl, .inr ⟨g, 0, rfl, hc.lt, fun i x hx k v hv => ?_⟩, fun x hx => by
    rcases List.mem_cons.1 hx with rfl | hx
    · exact ⟨h, hl⟩
    · rw [List.mem_singleton.1 hx]; exact ⟨h', hl'⟩⟩
  match i, k with
  | 0, 0 =>
    have e : l = x := by simpa using hx
    subst e
    have hv2 : l.v = v := by (have h3 : ([l.v] : List Value)[0]? = some v := hv); simpa using h3
    subst hv2
    exact hc.cell rfl
  | 1, 0 =>
    have e : m = x := by simpa using hx
    subst e
    have hv2 : m.v = v := by (have h3 : ([m.v] : List Value)[0]? = some v := hv); simpa using h3
    subst hv2
    exact hc.cell rfl
  | 0, k + 1 => have hv2 : ([x.v] : List Value)[k + 1]? = some v := hv; simp at hv2
  | 1, k + 1 => have hv2 : ([x.v] : List Value)[k + 1]? = some v := hv; simp at hv2
  | i + 2, _ => simp at hx
section
variable {w0 W W' : World} {rb : Nat} {t : ByteArray} {r : F9.Bs} {bs ob ob2 : List GBk} {er : Int} {pl k : Nat}
theorem sub_mid (p : GBk) (bs ob ob2 : List GBk) : (p :: (bs ++ ob2)).Sublist (p :: ((bs ++ ob) ++ ob2)) := by
  refine List.Sublist.cons_cons p ?_
  exact (List.sublist_append_left bs ob).append_right ob2
theorem RA.join (h : RA w0 W rb t r (bs ++ ob)) (S : St W W' ob2 []) : RA w0 W' rb t r (bs ++ ob2) := by
  obtain ⟨p, h1, h2, S0⟩ := h
  exact ⟨p, h1, h2, (S0.join S).sl (sub_mid _ bs ob ob2)⟩
theorem RD.join (h : RD w0 W rb t er pl k (bs ++ ob)) (S : St W W' ob2 []) : RD w0 W' rb t er pl k (bs ++ ob2) := by
  obtain ⟨he, p, h1, S0⟩ := h
  exact ⟨he, p, h1, (S0.join S).sl (sub_mid _ bs ob ob2)⟩
theorem RA.lr {l : Sl Nd} (h : RA w0 W rb t r (bs ++ ob)) (hO : OBn ob l) : LR ndC W l.A l.L.length l.L ∧ l.L.length ≤ l.c := by
  obtain ⟨p, h1, h2, S⟩ := h
  exact hO.lr (bs := (rb, r9C t p 0 0, 77) :: bs) S
theorem RD.lr {l : Sl Nd} (h : RD w0 W rb t er pl k (bs ++ ob)) (hO : OBn ob l) : LR ndC W l.A l.L.length l.L ∧ l.L.length ≤ l.c := by
  obtain ⟨he, p, h1, S⟩ := h
  exact hO.lr (bs := (rb, r9C t p er pl, 77) :: bs) S
theorem RA.leaf (h : RA w0 W rb t r bs) (ht : t.size ≤ 100000) (h0 : ¬ F9.fw r = [40]) : Calls Tryd.prog 97 #[.pointer (some ⟨rb, 0, none⟩)] W fun e w' => ResL w0 w' rb t e bs (F9.leaf r) := by
  by_cases h1 : F9.fw r = [48]
  · exact h.leaf0 ht h0 h1
  by_cases h2 : F9.fw r = [49]
  · exact h.leaf1 ht h0 h2
  by_cases h3 : F9.fw r = [112, 111, 119, 101, 114]
  · by_cases h4 : F9.fw (F9.nx r) = [40]
    · cases h5 : nameL (F9.fw (F9.nx (F9.nx r))) with
      | false => exact h.pow2 ht h0 h1 h2 h3 h4 h5
      | true =>
        by_cases h6 : F9.fw (F9.nx (F9.nx (F9.nx r))) = [44]
        · cases h7 : F9.expo 2 8 (F9.nx (F9.nx (F9.nx (F9.nx r)))) with
          | error x => exact h.pow4 ht h0 h1 h2 h3 h4 h5 h6 h7
          | ok y =>
            obtain ⟨kk, r1⟩ := y
            by_cases h8 : F9.fw r1 = [41]
            · exact h.pow6 ht h0 h1 h2 h3 h4 h5 h6 h7 h8
            · exact h.pow5 ht h0 h1 h2 h3 h4 h5 h6 h7 h8
        · exact h.pow3 ht h0 h1 h2 h3 h4 h5 h6
    · exact h.pow1 ht h0 h1 h2 h3 h4
  cases h4 : nameL (F9.fw r) with
  | true => exact h.leafN ht h0 h1 h2 h3 h4
  | false => exact h.leafNo ht h0 h1 h2 h3 h4
theorem RA.primary {f : Nat} (hB : BinC w0 rb t f) (hr : 6 * r.length ≤ f) (h : RA w0 W rb t r bs) (ht : t.size ≤ 100000) : Calls Tryd.prog 97 #[.pointer (some ⟨rb, 0, none⟩)] W fun e w' => Res w0 w' rb t e bs r.length (F9.run (f + 1) .prim r) := by
  by_cases h0 : F9.fw r = [40]
  · exact RA.primB hB hr h ht h0
  · refine (h.leaf ht h0).mono fun e w' hR => ?_
    cases hq : F9.leaf r with
    | error x =>
      rw [show F9.run (f + 1) .prim r = .error x by rw [F9.run, if_neg h0, hq]]
      rw [hq] at hR
      obtain ⟨l, ob, a1, a2, a3⟩ := hR
      exact ⟨l, ob, a1, by omega, a3⟩
    | ok y =>
      obtain ⟨x, r1⟩ := y
      rw [show F9.run (f + 1) .prim r = .ok (.leaf x, r1) by rw [F9.run, if_neg h0, hq]]
      rw [hq] at hR
      refine ⟨hR, ?_⟩
      have := (F9.leaf_ok hq).1
      show 1 + r1.length ≤ _
      omega

set_option maxRecDepth 100000 in
set_option maxHeartbeats 4000000 in
theorem RA.raised {f : Nat} (hB : BinC w0 rb t f) (hr : 6 * r.length ≤ f) (h : RA w0 W rb t r bs) (ht : t.size ≤ 100000) : Calls Tryd.prog 78 #[.pointer (some ⟨rb, 0, none⟩)] W fun e w' => Res w0 w' rb t e bs r.length (F9.run (f + 2) (.bin 4) r) := by
  have hP := Lib.hid (RA.primary hB hr h ht)
  obtain ⟨m, hm⟩ : ∃ m, m = r.length := ⟨_, rfl⟩
  have hrl : r.length ≤ 100000 := by
    obtain ⟨p, _, hq, hd, _, _⟩ := h.st ht
    have := (drop_len2 hd hq).2
    omega
  have hrun : F9.run (f + 2) (.bin 4) r = match F9.run (f + 1) .prim r with
    | .error e => .error e
    | .ok (a, r1) => F9.run (f + 1) (.hats a) r1 := by rw [F9.run, if_pos rfl]; rfl
  obtain ⟨X, hX⟩ : ∃ X, X = F9.run (f + 2) (.bin 4) r := ⟨_, rfl⟩
  rw [← hX]
  rw [hrun] at hX
  rw [← hm] at hP hrl ⊢
  have hpre : Hid ((∀ x, F9.run (f + 1) .prim r = .error x → X = .error x) ∧ ∀ a r1, F9.run (f + 1) .prim r = .ok (a, r1) → F9.run (f + 1) (.hats a) r1 = X) := Lib.hid ⟨fun x hx => by rw [hX, hx], fun a r1 hx => by rw [hX, hx]⟩
  have hff := Lib.hid hr
  replace ht := Lib.hid ht
  replace hm := Lib.hid hm
  have hml := Lib.hid hrl
  clear hX hrun hB h hr hrl
  generalize F9.run (f + 1) .prim r = Y at *
  go_enter Tryd.func78, Tryd.ntmps78
  go_wp2_with fail
  refine hP.out.mono ?_
  intro e w1 hR
  obtain ⟨l0, hl0, hst⟩ : ∃ l0 : Sl Nd, e = .returned (.slice l0.A l0.L.length l0.c) ∧ ((∃ (a : F9.Tr) (r2 : F9.Bs) (g : Nat) (l : Sl Nd) (ob : List GBk), l0 = l ∧ l.L = a.pre.map toNd ∧ OBn ob l ∧ RA w0 w1 rb t r2 (bs ++ ob) ∧ F9.run g (.hats a) r2 = X ∧ 6 * r2.length + 1 ≤ g ∧ a.pre.length + r2.length ≤ m ∧ r2.length < m + 1) ∨ (∃ (x : F9.Er) (l : Sl Nd) (ob : List GBk), X = .error x ∧ l0 = l ∧ l.L.length ≤ m + 1 ∧ OBn ob l ∧ RD w0 w1 rb t x.1 (t.size - x.2.length) 1 (bs ++ ob))) := by
    cases hY : Y with
    | error x =>
      rw [hY] at hR
      obtain ⟨l, ob, a1, a2, a3, a4⟩ := hR
      exact ⟨l, a1, .inr ⟨x, l, ob, hpre.out.1 x hY, rfl, a2, a3, a4⟩⟩
    | ok y =>
      obtain ⟨a, r1⟩ := y
      rw [hY] at hR
      obtain ⟨⟨l, ob, a1, a2, a3, a4⟩, a5⟩ := hR
      exact ⟨l, a1, .inl ⟨a, r1, f + 1, l, ob, rfl, a2, a3, a4, hpre.out.2 a r1 hY, by (have := hm.out; have := hff.out; omega), a5, by omega⟩⟩
  subst hl0
  replace hst := Lib.hid hst
  clear hR hpre hP hff hm
  go_wp2
  go_loopg [3] (m + 1) (fun k v wr => (∃ (a : F9.Tr) (r2 : F9.Bs) (g : Nat) (l : Sl Nd) (ob : List GBk), v = .slice l.A l.L.length l.c ∧ l.L = a.pre.map toNd ∧ OBn ob l ∧ RA w0 wr rb t r2 (bs ++ ob) ∧ F9.run g (.hats a) r2 = X ∧ 6 * r2.length + 1 ≤ g ∧ a.pre.length + r2.length ≤ m ∧ r2.length < k) ∨ (∃ (x : F9.Er) (l : Sl Nd) (ob : List GBk), X = .error x ∧ v = .slice l.A l.L.length l.c ∧ l.L.length ≤ m + 1 ∧ OBn ob l ∧ RD w0 wr rb t x.1 (t.size - x.2.length) 1 (bs ++ ob)))
  case atStart =>
    rcases hst.out with ⟨a, r2, g, l, ob, rfl, b1⟩ | ⟨x, l, ob, b0, rfl, b1⟩
    · exact .inl ⟨a, r2, g, l0, ob, rfl, b1⟩
    · exact .inr ⟨x, l0, ob, b0, rfl, b1⟩
  case round =>
    clear hst
    rcases hrel with ⟨a, r2, g, l, ob, rfl, hL, hO, R, hrun, hg, hbd, hk⟩ | ⟨x, l, ob, hX, rfl, hL, hO, R⟩
    · obtain ⟨g1, rfl⟩ : ∃ g1, g = g1 + 1 := ⟨g - 1, by omega⟩
      rw [F9.run] at hrun
      have hlb : Hid (l.L.length ≤ 100000) := Lib.hid (by rw [hL, List.length_map]; have := hml.out; omega)
      by_cases h1 : F9.fw r2 = [94]
      · rw [if_pos h1] at hrun
        have hnl := F9.nx_lt (r := r2) (by rw [h1]; simp)
        cases he : F9.expo 1 6 (F9.nx r2) with
        | error x =>
          rw [he] at hrun
          have hX := Lib.hid hrun.symm
          have hl3 : Hid (l.L.length + 1 ≤ m) := Lib.hid (by rw [hL, List.length_map]; omega)
          have hk2 := Lib.hid hk
          replace h1 := Lib.hid h1
          replace he := Lib.hid he
          replace R := Lib.hid R
          replace hO := Lib.hid hO
          clear hrun hg hbd hnl hL hk
          go_wp2_with fail
          refine (R.out.takeY ht.out (c := 94) ⟨rfl, rfl, by decide⟩ h1.out).mono ?_
          rintro e w2 ⟨rfl, R2⟩
          replace R2 := Lib.hid R2
          clear R h1
          go_wp2_with fail
          refine (R2.out.expN ht.out 1 6 he.out).mono ?_
          rintro e w3 ⟨ev, rfl, R3⟩
          replace R3 := Lib.hid R3
          clear R2 he
          have hlr := R3.out.lr hO.out
          have hlr2 := Lib.hid (hlr.1.bel ((Below.refl _ _).alloc (Nat.le_refl _) (.cells #[.slice l.A l.L.length l.c] 22)))
          have hlc := Lib.hid hlr.2
          have hOp := Lib.hid (oper_any ⟨10, ByteArray.empty, ev⟩ [l] (some ⟨w3.heap.size, 0, none⟩) 1 1 (w3.alloc (.cells #[.slice l.A l.L.length l.c] 22)) (LR.one1 (Cb.new _ _ _) hlr2.out hlc.out) (by decide) (by have := hlb.out; simp; omega))
          have RC := Lib.hid (R3.out.call ((Below.refl _ _).alloc (Nat.le_refl _) (.cells #[.slice l.A l.L.length l.c] 22)))
          clear hlr hlr2 hlc R3
          go_wp2_with fail
          refine hOp.out.mono ?_
          rintro e w9 ⟨l2, ob2, rfl, hL2, hO2, S2⟩
          have hv : l2.v = .slice l2.A l2.L.length l2.c := rfl
          rw [hv]
          clear hv
          have RJ := Lib.hid (RC.out.join S2)
          have hL3 : Hid (l2.L = ⟨10, ByteArray.empty, ev⟩ :: l.L) := Lib.hid (by rw [hL2]; simp)
          replace hO2 := Lib.hid hO2
          clear S2 hL2 RC hOp
          go_wp2
          go_roundg 0
          case measure => (have := hk2.out; omega)
          case rel => exact .inr ⟨x, l2, ob2, hX.out, rfl, by rw [hL3.out]; have := hl3.out; simp; omega, hO2.out, RJ.out⟩
        | ok y =>
          obtain ⟨kk, r3⟩ := y
          rw [he] at hrun
          have hX := Lib.hid hrun
          have he2 := (F9.expo_ok he).1
          have hg2 : Hid (6 * r3.length + 1 ≤ g1 ∧ r3.length + 1 < gk ∧ a.pre.length + 1 + r3.length ≤ m) := Lib.hid (by omega)
          replace h1 := Lib.hid h1
          replace he := Lib.hid he
          replace R := Lib.hid R
          replace hO := Lib.hid hO
          replace hL := Lib.hid hL
          clear hrun hg hbd hnl hk he2
          go_wp2_with fail
          refine (R.out.takeY ht.out (c := 94) ⟨rfl, rfl, by decide⟩ h1.out).mono ?_
          rintro e w2 ⟨rfl, R2⟩
          replace R2 := Lib.hid R2
          clear R h1
          go_wp2_with fail
          refine (R2.out.expY ht.out 1 6 he.out).mono ?_
          rintro e w3 ⟨rfl, R3⟩
          replace R3 := Lib.hid R3
          clear R2 he
          have hlr := R3.out.lr hO.out
          have hlr2 := Lib.hid (hlr.1.bel ((Below.refl _ _).alloc (Nat.le_refl _) (.cells #[.slice l.A l.L.length l.c] 22)))
          have hlc := Lib.hid hlr.2
          have hOp := Lib.hid (oper_any ⟨10, ByteArray.empty, (kk : Int)⟩ [l] (some ⟨w3.heap.size, 0, none⟩) 1 1 (w3.alloc (.cells #[.slice l.A l.L.length l.c] 22)) (LR.one1 (Cb.new _ _ _) hlr2.out hlc.out) (by decide) (by have := hlb.out; simp; omega))
          have RC := Lib.hid (R3.out.call ((Below.refl _ _).alloc (Nat.le_refl _) (.cells #[.slice l.A l.L.length l.c] 22)))
          clear hlr hlr2 hlc R3
          go_wp2_with fail
          refine hOp.out.mono ?_
          rintro e w9 ⟨l2, ob2, rfl, hL2, hO2, S2⟩
          have hv : l2.v = .slice l2.A l2.L.length l2.c := rfl
          rw [hv]
          clear hv
          have RJ := Lib.hid (RC.out.join S2)
          have hL3 : Hid (l2.L = ⟨10, ByteArray.empty, (kk : Int)⟩ :: l.L) := Lib.hid (by rw [hL2]; simp)
          replace hO2 := Lib.hid hO2
          clear S2 hL2 RC hOp
          go_wp2
          go_roundg (r3.length + 1)
          case measure => exact hg2.out.2.1
          case rel => exact .inl ⟨.hat kk a, r3, g1, l2, ob2, rfl, by rw [hL3.out, hL.out]; rfl, hO2.out, RJ.out, hX.out, hg2.out.1, by show (_ :: a.pre).length + _ ≤ _; rw [List.length_cons]; exact hg2.out.2.2, Nat.lt_succ_self _⟩
      · rw [if_neg h1] at hrun
        replace h1 := Lib.hid h1
        replace R := Lib.hid R
        replace hO := Lib.hid hO
        replace hL := Lib.hid hL
        replace hbd := Lib.hid hbd
        subst hrun
        clear hg hk
        go_wp2_with fail
        refine (R.out.takeN ht.out (c := 94) ⟨rfl, rfl, by decide⟩ h1.out).mono ?_
        rintro e w2 ⟨rfl, R2⟩
        replace R2 := Lib.hid R2
        clear R h1
        go_wp2
        go_ret
        exact ⟨⟨l, ob, rfl, hL.out, hO.out, R2.out⟩, hbd.out⟩
    · subst hX
      replace R := Lib.hid R
      replace hO := Lib.hid hO
      replace hL := Lib.hid hL
      go_wp2_with fail
      refine (R.out.take (c := 94) (by omega) ht.out ⟨rfl, rfl, by decide⟩).mono ?_
      rintro e w2 ⟨rfl, R2⟩
      replace R2 := Lib.hid R2
      clear R
      go_wp2
      go_ret
      exact ⟨l, ob, rfl, hL.out, hO.out, R2.out⟩
end
end Go.Proofs.YthbkdjbmkhmlnaaDoor
