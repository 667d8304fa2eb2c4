/- The reference's reader: primary, where nothing is wrong ahead of it. -/
import Derived.Test.YtjebpmjbdchdlaaDoorM17
namespace Go.Proofs.YtjebpmjbdchdlaaDoor
open Go.RowKit
set_option linter.unusedVariables false

/-- The contract of binary, at a fuel. -/
def BinC (w0 : World) (rb : Nat) (t : ByteArray) (f : Nat) : Prop := ∀ (j : Nat) (r : F9.Bs) (bs : List GBk) (V : World), 1 ≤ j → j ≤ 4 → 6 * r.length + (6 - j) ≤ f → RA w0 V rb t r bs →
  Calls Tryd.prog 13 #[.pointer (some ⟨rb, 0, none⟩), .int .i64 j] V fun e w' => Res w0 w' rb t e bs r.length (F9.run f (.bin j) r)
section
variable {w0 W : World} {rb : Nat} {t : ByteArray} {r : F9.Bs} {bs : List GBk} {er : Int} {pl k : Nat}
set_option maxRecDepth 100000 in
set_option maxHeartbeats 4000000 in
theorem RA.primB {f : Nat} (hB : BinC w0 rb t f) (hr : 6 * r.length ≤ f) (h : RA w0 W rb t r bs) (ht : t.size ≤ 100000) (h1 : F9.fw r = [40]) : Calls Tryd.prog 47 #[.pointer (some ⟨rb, 0, none⟩)] W fun e w' => Res w0 w' rb t e bs r.length (F9.run (f + 1) .prim r) := by
  have hl := F9.nx_lt (r := r) (by rw [h1]; simp)
  have hX := Lib.hid (fun V (hV : RA w0 V rb t (F9.nx r) bs) => hB 1 (F9.nx r) bs V (by decide) (by decide) (by omega) hV)
  replace ht := Lib.hid ht
  cases hq : F9.run f (.bin 1) (F9.nx r) with
  | error x =>
    rw [show F9.run (f + 1) .prim r = .error x by rw [F9.run, if_pos h1, hq]]
    rw [hq] at hX
    have hl2 := Lib.hid hl
    replace h1 := Lib.hid h1
    clear hq hl hB hr
    replace h := Lib.hid h
    go_enter Tryd.func47, Tryd.ntmps47
    go_wp2_with fail
    refine (h.out.takeY ht.out (c := 40) ⟨rfl, rfl, by decide⟩ h1.out).mono ?_
    rintro e w1 ⟨rfl, R1⟩
    replace R1 := Lib.hid R1
    clear h
    go_wp2_with fail
    refine (hX.out _ R1.out).mono ?_
    rintro e w2 ⟨l, ob, rfl, hL, hO, R2⟩
    have hv : l.v = .slice l.A l.L.length l.c := rfl
    rw [hv]
    replace hL := Lib.hid hL
    replace hO := Lib.hid hO
    replace R2 := Lib.hid R2
    clear hX R1 hv
    go_wp2_with fail
    refine (R2.out.want (c := 41) (by omega) ht.out ⟨rfl, rfl, by decide⟩).mono ?_
    rintro e w3 ⟨rfl, R3⟩
    replace R3 := Lib.hid R3
    clear R2
    go_wp2
    go_ret
    exact ⟨l, ob, rfl, by have := hL.out; have := hl2.out; omega, hO.out, R3.out⟩
  | ok y =>
    obtain ⟨a, r1⟩ := y
    have hl2 := Lib.hid hl
    by_cases h2 : F9.fw r1 = [41]
    · rw [show F9.run (f + 1) .prim r = .ok (a, F9.nx r1) by rw [F9.run, if_pos h1, hq]; simp only [if_pos h2]]
      rw [hq] at hX
      replace h1 := Lib.hid h1
      clear hq hl hB hr
      replace h2 := Lib.hid h2
      replace h := Lib.hid h
      go_enter Tryd.func47, Tryd.ntmps47
      go_wp2_with fail
      refine (h.out.takeY ht.out (c := 40) ⟨rfl, rfl, by decide⟩ h1.out).mono ?_
      rintro e w1 ⟨rfl, R1⟩
      replace R1 := Lib.hid R1
      clear h
      go_wp2_with fail
      refine (hX.out _ R1.out).mono ?_
      rintro e w2 ⟨⟨l, ob, rfl, hL, hO, R2⟩, hbd⟩
      have hv : l.v = .slice l.A l.L.length l.c := rfl
      rw [hv]
      replace hL := Lib.hid hL
      replace hO := Lib.hid hO
      replace R2 := Lib.hid R2
      replace hbd := Lib.hid hbd
      clear hX R1 hv
      go_wp2_with fail
      refine (R2.out.wantY ht.out (c := 41) ⟨rfl, rfl, by decide⟩ h2.out).mono ?_
      rintro e w3 ⟨rfl, R3⟩
      replace R3 := Lib.hid R3
      clear R2
      go_wp2
      go_ret
      exact ⟨⟨l, ob, rfl, hL.out, hO.out, R3.out⟩, by have := hbd.out; have := hl2.out; have := F9.nx_le r1; omega⟩
    · rw [show F9.run (f + 1) .prim r = .error (3, r1) by rw [F9.run, if_pos h1, hq]; simp only [if_neg h2]]
      rw [hq] at hX
      replace h1 := Lib.hid h1
      clear hq hl hB hr
      replace h2 := Lib.hid h2
      replace h := Lib.hid h
      go_enter Tryd.func47, Tryd.ntmps47
      go_wp2_with fail
      refine (h.out.takeY ht.out (c := 40) ⟨rfl, rfl, by decide⟩ h1.out).mono ?_
      rintro e w1 ⟨rfl, R1⟩
      replace R1 := Lib.hid R1
      clear h
      go_wp2_with fail
      refine (hX.out _ R1.out).mono ?_
      rintro e w2 ⟨⟨l, ob, rfl, hL, hO, R2⟩, hbd⟩
      have hv : l.v = .slice l.A l.L.length l.c := rfl
      rw [hv]
      replace hL := Lib.hid hL
      replace hO := Lib.hid hO
      replace R2 := Lib.hid R2
      replace hbd := Lib.hid hbd
      clear hX R1 hv
      go_wp2_with fail
      refine (R2.out.wantN ht.out (c := 41) ⟨rfl, rfl, by decide⟩ h2.out).mono ?_
      rintro e w3 ⟨rfl, R3⟩
      replace R3 := Lib.hid (R3.mono (Nat.zero_le 1))
      clear R2
      go_wp2
      go_ret
      exact ⟨l, ob, rfl, by rw [hL.out, List.length_map]; have := hbd.out; have := hl2.out; omega, hO.out, R3.out⟩

theorem bs_ne {y : ByteArray} {l : List UInt8} (h : ¬ y = ⟨l.toArray⟩) : (y.toList == l) = false := by
  rw [ByteArray.toList_eq, beq_eq_false_iff_ne]
  intro e
  apply h
  apply ByteArray.ext
  apply Array.ext'
  exact e
/-- What a leaf gives. -/
def ResL (w0 w' : World) (rb : Nat) (t : ByteArray) (e : Ending) (bs : List GBk) (X : F9.Rs (F9.Nd × F9.Bs)) : Prop := match X with
  | .ok (x, r') => ROk w0 w' rb t e bs [toNd x] r'
  | .error x => RBad w0 w' rb t e bs 1 x.1 (t.size - x.2.length)
set_option maxRecDepth 100000 in
set_option maxHeartbeats 4000000 in
theorem RA.leaf0 (h : RA w0 W rb t r bs) (ht : t.size ≤ 100000) (h0 : ¬ F9.fw r = [40]) (h1 : F9.fw r = [48]) : Calls Tryd.prog 47 #[.pointer (some ⟨rb, 0, none⟩)] W fun e w' => ResL w0 w' rb t e bs (F9.leaf r) := by
  have hx : F9.leaf r = .ok (⟨4, [], 0⟩, F9.nx r) := by
    unfold F9.leaf
    rw [if_pos h1]
  rw [hx]
  clear hx
  have hd := dg0.2 h1
  replace ht := Lib.hid ht
  replace h0 := Lib.hid h0
  replace h1 := Lib.hid h1
  replace h := Lib.hid h
  go_enter Tryd.func47, Tryd.ntmps47
  go_wp2_with fail
  refine (h.out.takeN ht.out (c := 40) ⟨rfl, rfl, by decide⟩ h0.out).mono ?_
  rintro e w1 ⟨rfl, R1⟩
  replace R1 := Lib.hid R1
  clear h
  go_wp2_with fail
  refine (R1.out.digitP ht.out).mono ?_
  rintro e w2 ⟨rfl, R2⟩
  replace R2 := Lib.hid R2
  clear R1
  rw [hd]
  clear hd
  obtain ⟨p, R52⟩ := R2.out
  obtain ⟨RR, f_1, bl, c_1⟩ := R52.on (n := 1) (by rw [h1.out]; rfl) (by decide)
  have hp5 : p ≤ 100000 := by have := R52.1; have := ht.out; omega
  have R102 : Hid (RA w0 (w2.setCell ⟨rb, 1, none⟩ (.int .i64 ((p : Int) + 1))) rb t (F9.nx r) bs) := Lib.hid RR
  clear RR R52 R2
  go_upto_region 8 with fail
  clear f_1 bl c_1
  obtain ⟨W9, hW9⟩ : ∃ V, V = w2.setCell ⟨rb, 1, none⟩ (.int .i64 ((p : Int) + 1)) := ⟨_, rfl⟩
  rw [← hW9] at R102 ⊢
  clear hW9
  have RF := Lib.hid (R102.out.put ⟨4, ⟨#[]⟩, 0⟩)
  clear R102
  go_wp2
  go_ret
  exact ⟨⟨some ⟨W9.heap.size, 0, none⟩, 1, [(⟨4, ⟨#[]⟩, 0⟩ : Nd)]⟩, [(W9.heap.size, (ndC.cs (⟨4, ⟨#[]⟩, 0⟩ : Nd)).toArray, 53)], rfl, rfl, OBn.one _ _, RF.out⟩

set_option maxRecDepth 100000 in
set_option maxHeartbeats 4000000 in
theorem RA.leaf1 (h : RA w0 W rb t r bs) (ht : t.size ≤ 100000) (h0 : ¬ F9.fw r = [40]) (h1 : F9.fw r = [49]) : Calls Tryd.prog 47 #[.pointer (some ⟨rb, 0, none⟩)] W fun e w' => ResL w0 w' rb t e bs (F9.leaf r) := by
  have hx : F9.leaf r = .ok (⟨3, [], 0⟩, F9.nx r) := by
    unfold F9.leaf
    rw [if_neg (by rw [h1]; simp), if_pos h1]
  rw [hx]
  clear hx
  have hd := dg1.2 h1
  replace ht := Lib.hid ht
  replace h0 := Lib.hid h0
  replace h1 := Lib.hid h1
  replace h := Lib.hid h
  go_enter Tryd.func47, Tryd.ntmps47
  go_wp2_with fail
  refine (h.out.takeN ht.out (c := 40) ⟨rfl, rfl, by decide⟩ h0.out).mono ?_
  rintro e w1 ⟨rfl, R1⟩
  replace R1 := Lib.hid R1
  clear h
  go_wp2_with fail
  refine (R1.out.digitP ht.out).mono ?_
  rintro e w2 ⟨rfl, R2⟩
  replace R2 := Lib.hid R2
  clear R1
  rw [hd]
  clear hd
  obtain ⟨p, R52⟩ := R2.out
  obtain ⟨RR, f_1, bl, c_1⟩ := R52.on (n := 1) (by rw [h1.out]; rfl) (by decide)
  have hp5 : p ≤ 100000 := by have := R52.1; have := ht.out; omega
  have R102 : Hid (RA w0 (w2.setCell ⟨rb, 1, none⟩ (.int .i64 ((p : Int) + 1))) rb t (F9.nx r) bs) := Lib.hid RR
  clear RR R52 R2
  go_upto_region 8 with fail
  clear f_1 bl c_1
  obtain ⟨W9, hW9⟩ : ∃ V, V = w2.setCell ⟨rb, 1, none⟩ (.int .i64 ((p : Int) + 1)) := ⟨_, rfl⟩
  rw [← hW9] at R102 ⊢
  clear hW9
  have RF := Lib.hid (R102.out.put ⟨3, ⟨#[]⟩, 0⟩)
  clear R102
  go_wp2
  go_ret
  exact ⟨⟨some ⟨W9.heap.size, 0, none⟩, 1, [(⟨3, ⟨#[]⟩, 0⟩ : Nd)]⟩, [(W9.heap.size, (ndC.cs (⟨3, ⟨#[]⟩, 0⟩ : Nd)).toArray, 53)], rfl, rfl, OBn.one _ _, RF.out⟩

set_option maxRecDepth 100000 in
set_option maxHeartbeats 4000000 in
theorem RA.leafN (h : RA w0 W rb t r bs) (ht : t.size ≤ 100000) (h0 : ¬ F9.fw r = [40]) (h1 : ¬ F9.fw r = [48]) (h2 : ¬ F9.fw r = [49]) (h3 : ¬ F9.fw r = [112, 111, 119, 101, 114]) (h4 : nameL (F9.fw r) = true) : Calls Tryd.prog 47 #[.pointer (some ⟨rb, 0, none⟩)] W fun e w' => ResL w0 w' rb t e bs (F9.leaf r) := by
  have hx : F9.leaf r = .ok (⟨1, F9.fw r, 0⟩, F9.nx r) := by
    unfold F9.leaf
    rw [if_neg h1, if_neg h2, if_neg h3, if_pos h4]
  rw [hx]
  clear hx
  have hd0 : ¬ dgN r = 0 := fun e => h1 (dg0.1 e)
  have hd1 : ¬ dgN r = 1 := fun e => h2 (dg1.1 e)
  have hd2 : (dgN r == 0) = false := by rw [beq_eq_false_iff_ne]; exact hd0
  have hd3 : (dgN r == 1) = false := by rw [beq_eq_false_iff_ne]; exact hd1
  obtain ⟨dv, hdv⟩ : ∃ v, v = dgN r := ⟨_, rfl⟩
  rw [← hdv] at hd0 hd1 hd2 hd3
  replace ht := Lib.hid ht
  replace h0 := Lib.hid h0
  replace h1 := Lib.hid h1
  replace h2 := Lib.hid h2
  replace h3 := Lib.hid h3
  replace h4 := Lib.hid h4
  replace h := Lib.hid h
  go_enter Tryd.func47, Tryd.ntmps47
  go_wp2_with fail
  refine (h.out.takeN ht.out (c := 40) ⟨rfl, rfl, by decide⟩ h0.out).mono ?_
  rintro e w1 ⟨rfl, R1⟩
  replace R1 := Lib.hid R1
  clear h
  go_wp2_with fail
  refine (R1.out.digit ht.out).mono ?_
  rintro e w2 ⟨rfl, R2⟩
  replace R2 := Lib.hid R2
  clear R1
  rw [← hdv]
  replace hdv := Lib.hid hdv
  go_wp2_with fail
  refine (R2.out.word_not ht.out (⟨112, [111, 119, 101, 114], rfl, rfl⟩ : ∃ c s, ([112, 111, 119, 101, 114] : F9.Bs) = c :: s ∧ letB c = true) h3.out).mono ?_
  rintro e w3 ⟨y, rfl, hy, R3⟩
  replace R3 := Lib.hid R3
  clear R2
  have hy2 := bs_ne hy
  clear hy
  go_wp2_with fail
  refine (R3.out.nameY ht.out h4.out).mono ?_
  rintro e w4 ⟨rfl, R4⟩
  replace R4 := Lib.hid R4
  clear R3
  obtain ⟨ns, hns⟩ : ∃ s : ByteArray, s = ⟨(F9.fw r).toArray⟩ := ⟨_, rfl⟩
  rw [← hns]
  replace hns := Lib.hid hns
  have RF := Lib.hid (R4.out.put ⟨1, ns, 0⟩)
  clear R4
  go_wp2
  go_ret
  exact ⟨⟨some ⟨w4.heap.size, 0, none⟩, 1, [(⟨1, ns, 0⟩ : Nd)]⟩, [(w4.heap.size, (ndC.cs (⟨1, ns, 0⟩ : Nd)).toArray, 53)], rfl, by rw [hns.out]; rfl, OBn.one _ _, RF.out⟩

set_option maxRecDepth 100000 in
set_option maxHeartbeats 4000000 in
theorem RA.leafNo (h : RA w0 W rb t r bs) (ht : t.size ≤ 100000) (h0 : ¬ F9.fw r = [40]) (h1 : ¬ F9.fw r = [48]) (h2 : ¬ F9.fw r = [49]) (h3 : ¬ F9.fw r = [112, 111, 119, 101, 114]) (h4 : nameL (F9.fw r) = false) : Calls Tryd.prog 47 #[.pointer (some ⟨rb, 0, none⟩)] W fun e w' => ResL w0 w' rb t e bs (F9.leaf r) := by
  have hx : F9.leaf r = .error (3, r) := by
    unfold F9.leaf
    rw [if_neg h1, if_neg h2, if_neg h3, if_neg (by rw [h4]; simp)]
  rw [hx]
  clear hx
  have hd0 : ¬ dgN r = 0 := fun e => h1 (dg0.1 e)
  have hd1 : ¬ dgN r = 1 := fun e => h2 (dg1.1 e)
  have hd2 : (dgN r == 0) = false := by rw [beq_eq_false_iff_ne]; exact hd0
  have hd3 : (dgN r == 1) = false := by rw [beq_eq_false_iff_ne]; exact hd1
  obtain ⟨dv, hdv⟩ : ∃ v, v = dgN r := ⟨_, rfl⟩
  rw [← hdv] at hd0 hd1 hd2 hd3
  replace ht := Lib.hid ht
  replace h0 := Lib.hid h0
  replace h1 := Lib.hid h1
  replace h2 := Lib.hid h2
  replace h3 := Lib.hid h3
  replace h4 := Lib.hid h4
  replace h := Lib.hid h
  go_enter Tryd.func47, Tryd.ntmps47
  go_wp2_with fail
  refine (h.out.takeN ht.out (c := 40) ⟨rfl, rfl, by decide⟩ h0.out).mono ?_
  rintro e w1 ⟨rfl, R1⟩
  replace R1 := Lib.hid R1
  clear h
  go_wp2_with fail
  refine (R1.out.digit ht.out).mono ?_
  rintro e w2 ⟨rfl, R2⟩
  replace R2 := Lib.hid R2
  clear R1
  rw [← hdv]
  replace hdv := Lib.hid hdv
  go_wp2_with fail
  refine (R2.out.word_not ht.out (⟨112, [111, 119, 101, 114], rfl, rfl⟩ : ∃ c s, ([112, 111, 119, 101, 114] : F9.Bs) = c :: s ∧ letB c = true) h3.out).mono ?_
  rintro e w3 ⟨y, rfl, hy, R3⟩
  replace R3 := Lib.hid R3
  clear R2
  have hy2 := bs_ne hy
  clear hy
  go_wp2_with fail
  refine (R3.out.nameN ht.out h4.out).mono ?_
  rintro e w4 ⟨rfl, R4⟩
  replace R4 := Lib.hid R4
  clear R3
  have RR := Lib.hid (R4.out.mono (Nat.zero_le 1))
  clear R4
  have RF := Lib.hid (RR.out.put ⟨1, ByteArray.empty, 0⟩)
  clear RR
  go_wp2
  go_ret
  exact ⟨⟨some ⟨w4.heap.size, 0, none⟩, 1, [(⟨1, ByteArray.empty, 0⟩ : Nd)]⟩, [(w4.heap.size, (ndC.cs (⟨1, ByteArray.empty, 0⟩ : Nd)).toArray, 53)], rfl, Nat.le_refl _, OBn.one _ _, RF.out⟩

set_option maxRecDepth 100000 in
set_option maxHeartbeats 4000000 in
theorem RA.pow1 (h : RA w0 W rb t r bs) (ht : t.size ≤ 100000) (h0 : ¬ F9.fw r = [40]) (h1 : ¬ F9.fw r = [48]) (h2 : ¬ F9.fw r = [49]) (h3 : F9.fw r = [112, 111, 119, 101, 114]) (h4 : ¬ F9.fw (F9.nx r) = [40]) : Calls Tryd.prog 47 #[.pointer (some ⟨rb, 0, none⟩)] W fun e w' => ResL w0 w' rb t e bs (F9.leaf r) := by
  have hx : F9.leaf r = .error (3, F9.nx r) := by
    unfold F9.leaf
    rw [if_neg h1, if_neg h2, if_pos h3]
    unfold F9.pw
    rw [if_neg h4]
  rw [hx]
  clear hx
  have hd0 : ¬ dgN r = 0 := fun e => h1 (dg0.1 e)
  have hd1 : ¬ dgN r = 1 := fun e => h2 (dg1.1 e)
  have hd2 : (dgN r == 0) = false := by rw [beq_eq_false_iff_ne]; exact hd0
  have hd3 : (dgN r == 1) = false := by rw [beq_eq_false_iff_ne]; exact hd1
  obtain ⟨dv, hdv⟩ : ∃ v, v = dgN r := ⟨_, rfl⟩
  rw [← hdv] at hd0 hd1 hd2 hd3
  replace ht := Lib.hid ht
  replace h0 := Lib.hid h0
  replace h1 := Lib.hid h1
  replace h2 := Lib.hid h2
  replace h3 := Lib.hid h3
  replace h4 := Lib.hid h4
  replace h := Lib.hid h
  go_enter Tryd.func47, Tryd.ntmps47
  go_wp2_with fail
  refine (h.out.takeN ht.out (c := 40) ⟨rfl, rfl, by decide⟩ h0.out).mono ?_
  rintro e w1 ⟨rfl, R1⟩
  replace R1 := Lib.hid R1
  clear h
  go_wp2_with fail
  refine (R1.out.digit ht.out).mono ?_
  rintro e w2 ⟨rfl, R2⟩
  replace R2 := Lib.hid R2
  clear R1
  rw [← hdv]
  replace hdv := Lib.hid hdv
  go_wp2_with fail
  refine (R2.out.wordP ht.out (⟨112, [111, 119, 101, 114], rfl, rfl⟩ : ∃ c s, ([112, 111, 119, 101, 114] : F9.Bs) = c :: s ∧ letB c = true) h3.out).mono ?_
  rintro e w3 ⟨rfl, R3⟩
  replace R3 := Lib.hid R3
  clear R2
  obtain ⟨p, R53⟩ := R3.out
  obtain ⟨RR, f_1, bl, c_1⟩ := R53.on (n := 5) (by rw [h3.out]; rfl) (by decide)
  have hp5 : p ≤ 100000 := by have := R53.1; have := ht.out; omega
  have R103 : Hid (RA w0 (w3.setCell ⟨rb, 1, none⟩ (.int .i64 ((p : Int) + 5))) rb t (F9.nx r) bs) := Lib.hid RR
  clear RR R53 R3
  go_upto_region 12 with fail
  clear f_1 bl c_1
  obtain ⟨W9, hW9⟩ : ∃ V, V = w3.setCell ⟨rb, 1, none⟩ (.int .i64 ((p : Int) + 5)) := ⟨_, rfl⟩
  rw [← hW9] at R103 ⊢
  clear hW9
  go_wp2_with fail
  refine (R103.out.wantN ht.out (c := 40) ⟨rfl, rfl, by decide⟩ h4.out).mono ?_
  rintro e w4 ⟨rfl, R4⟩
  replace R4 := Lib.hid R4
  clear R103
  go_wp2_with fail
  refine (R4.out.name (by omega) ht.out).mono ?_
  rintro e w5 ⟨rfl, R5⟩
  replace R5 := Lib.hid R5
  clear R4
  go_wp2_with fail
  refine (R5.out.want (c := 44) (by omega) ht.out ⟨rfl, rfl, by decide⟩).mono ?_
  rintro e w6 ⟨rfl, R6⟩
  replace R6 := Lib.hid R6
  clear R5
  go_wp2_with fail
  refine (R6.out.exp (by omega) ht.out 2 8).mono ?_
  rintro e w7 ⟨rfl, R7⟩
  replace R7 := Lib.hid R7
  clear R6
  go_wp2_with fail
  refine (R7.out.want (c := 41) (by omega) ht.out ⟨rfl, rfl, by decide⟩).mono ?_
  rintro e w8 ⟨rfl, R8⟩
  replace R8 := Lib.hid R8
  clear R7
  have RR := Lib.hid (R8.out.mono (show _ ≤ 1 by omega))
  clear R8
  have RF := Lib.hid (RR.out.put ⟨2, ByteArray.empty, -1⟩)
  clear RR
  go_wp2
  go_ret
  exact ⟨⟨some ⟨w8.heap.size, 0, none⟩, 1, [(⟨2, ByteArray.empty, -1⟩ : Nd)]⟩, [(w8.heap.size, (ndC.cs (⟨2, ByteArray.empty, -1⟩ : Nd)).toArray, 53)], rfl, Nat.le_refl _, OBn.one _ _, RF.out⟩

set_option maxRecDepth 100000 in
set_option maxHeartbeats 4000000 in
theorem RA.pow2 (h : RA w0 W rb t r bs) (ht : t.size ≤ 100000) (h0 : ¬ F9.fw r = [40]) (h1 : ¬ F9.fw r = [48]) (h2 : ¬ F9.fw r = [49]) (h3 : F9.fw r = [112, 111, 119, 101, 114]) (h4 : F9.fw (F9.nx r) = [40]) (h5 : nameL (F9.fw (F9.nx (F9.nx r))) = false) : Calls Tryd.prog 47 #[.pointer (some ⟨rb, 0, none⟩)] W fun e w' => ResL w0 w' rb t e bs (F9.leaf r) := by
  have hx : F9.leaf r = .error (3, F9.nx (F9.nx r)) := by
    unfold F9.leaf
    rw [if_neg h1, if_neg h2, if_pos h3]
    unfold F9.pw
    rw [if_pos h4, if_neg (by rw [h5]; simp)]
  rw [hx]
  clear hx
  have hd0 : ¬ dgN r = 0 := fun e => h1 (dg0.1 e)
  have hd1 : ¬ dgN r = 1 := fun e => h2 (dg1.1 e)
  have hd2 : (dgN r == 0) = false := by rw [beq_eq_false_iff_ne]; exact hd0
  have hd3 : (dgN r == 1) = false := by rw [beq_eq_false_iff_ne]; exact hd1
  obtain ⟨dv, hdv⟩ : ∃ v, v = dgN r := ⟨_, rfl⟩
  rw [← hdv] at hd0 hd1 hd2 hd3
  replace ht := Lib.hid ht
  replace h0 := Lib.hid h0
  replace h1 := Lib.hid h1
  replace h2 := Lib.hid h2
  replace h3 := Lib.hid h3
  replace h4 := Lib.hid h4
  replace h5 := Lib.hid h5
  replace h := Lib.hid h
  go_enter Tryd.func47, Tryd.ntmps47
  go_wp2_with fail
  refine (h.out.takeN ht.out (c := 40) ⟨rfl, rfl, by decide⟩ h0.out).mono ?_
  rintro e w1 ⟨rfl, R1⟩
  replace R1 := Lib.hid R1
  clear h
  go_wp2_with fail
  refine (R1.out.digit ht.out).mono ?_
  rintro e w2 ⟨rfl, R2⟩
  replace R2 := Lib.hid R2
  clear R1
  rw [← hdv]
  replace hdv := Lib.hid hdv
  go_wp2_with fail
  refine (R2.out.wordP ht.out (⟨112, [111, 119, 101, 114], rfl, rfl⟩ : ∃ c s, ([112, 111, 119, 101, 114] : F9.Bs) = c :: s ∧ letB c = true) h3.out).mono ?_
  rintro e w3 ⟨rfl, R3⟩
  replace R3 := Lib.hid R3
  clear R2
  obtain ⟨p, R53⟩ := R3.out
  obtain ⟨RR, f_1, bl, c_1⟩ := R53.on (n := 5) (by rw [h3.out]; rfl) (by decide)
  have hp5 : p ≤ 100000 := by have := R53.1; have := ht.out; omega
  have R103 : Hid (RA w0 (w3.setCell ⟨rb, 1, none⟩ (.int .i64 ((p : Int) + 5))) rb t (F9.nx r) bs) := Lib.hid RR
  clear RR R53 R3
  go_upto_region 12 with fail
  clear f_1 bl c_1
  obtain ⟨W9, hW9⟩ : ∃ V, V = w3.setCell ⟨rb, 1, none⟩ (.int .i64 ((p : Int) + 5)) := ⟨_, rfl⟩
  rw [← hW9] at R103 ⊢
  clear hW9
  go_wp2_with fail
  refine (R103.out.wantY ht.out (c := 40) ⟨rfl, rfl, by decide⟩ h4.out).mono ?_
  rintro e w4 ⟨rfl, R4⟩
  replace R4 := Lib.hid R4
  clear R103
  go_wp2_with fail
  refine (R4.out.nameN ht.out h5.out).mono ?_
  rintro e w5 ⟨rfl, R5⟩
  replace R5 := Lib.hid R5
  clear R4
  go_wp2_with fail
  refine (R5.out.want (c := 44) (by omega) ht.out ⟨rfl, rfl, by decide⟩).mono ?_
  rintro e w6 ⟨rfl, R6⟩
  replace R6 := Lib.hid R6
  clear R5
  go_wp2_with fail
  refine (R6.out.exp (by omega) ht.out 2 8).mono ?_
  rintro e w7 ⟨rfl, R7⟩
  replace R7 := Lib.hid R7
  clear R6
  go_wp2_with fail
  refine (R7.out.want (c := 41) (by omega) ht.out ⟨rfl, rfl, by decide⟩).mono ?_
  rintro e w8 ⟨rfl, R8⟩
  replace R8 := Lib.hid R8
  clear R7
  have RR := Lib.hid (R8.out.mono (show _ ≤ 1 by omega))
  clear R8
  have RF := Lib.hid (RR.out.put ⟨2, ByteArray.empty, -1⟩)
  clear RR
  go_wp2
  go_ret
  exact ⟨⟨some ⟨w8.heap.size, 0, none⟩, 1, [(⟨2, ByteArray.empty, -1⟩ : Nd)]⟩, [(w8.heap.size, (ndC.cs (⟨2, ByteArray.empty, -1⟩ : Nd)).toArray, 53)], rfl, Nat.le_refl _, OBn.one _ _, RF.out⟩

set_option maxRecDepth 100000 in
set_option maxHeartbeats 4000000 in
theorem RA.pow3 (h : RA w0 W rb t r bs) (ht : t.size ≤ 100000) (h0 : ¬ F9.fw r = [40]) (h1 : ¬ F9.fw r = [48]) (h2 : ¬ F9.fw r = [49]) (h3 : F9.fw r = [112, 111, 119, 101, 114]) (h4 : F9.fw (F9.nx r) = [40]) (h5 : nameL (F9.fw (F9.nx (F9.nx r))) = true) (h6 : ¬ F9.fw (F9.nx (F9.nx (F9.nx r))) = [44]) : Calls Tryd.prog 47 #[.pointer (some ⟨rb, 0, none⟩)] W fun e w' => ResL w0 w' rb t e bs (F9.leaf r) := by
  have hx : F9.leaf r = .error (3, F9.nx (F9.nx (F9.nx r))) := by
    unfold F9.leaf
    rw [if_neg h1, if_neg h2, if_pos h3]
    unfold F9.pw
    rw [if_pos h4, if_pos h5, if_neg h6]
  rw [hx]
  clear hx
  have hd0 : ¬ dgN r = 0 := fun e => h1 (dg0.1 e)
  have hd1 : ¬ dgN r = 1 := fun e => h2 (dg1.1 e)
  have hd2 : (dgN r == 0) = false := by rw [beq_eq_false_iff_ne]; exact hd0
  have hd3 : (dgN r == 1) = false := by rw [beq_eq_false_iff_ne]; exact hd1
  obtain ⟨dv, hdv⟩ : ∃ v, v = dgN r := ⟨_, rfl⟩
  rw [← hdv] at hd0 hd1 hd2 hd3
  replace ht := Lib.hid ht
  replace h0 := Lib.hid h0
  replace h1 := Lib.hid h1
  replace h2 := Lib.hid h2
  replace h3 := Lib.hid h3
  replace h4 := Lib.hid h4
  replace h5 := Lib.hid h5
  replace h6 := Lib.hid h6
  replace h := Lib.hid h
  go_enter Tryd.func47, Tryd.ntmps47
  go_wp2_with fail
  refine (h.out.takeN ht.out (c := 40) ⟨rfl, rfl, by decide⟩ h0.out).mono ?_
  rintro e w1 ⟨rfl, R1⟩
  replace R1 := Lib.hid R1
  clear h
  go_wp2_with fail
  refine (R1.out.digit ht.out).mono ?_
  rintro e w2 ⟨rfl, R2⟩
  replace R2 := Lib.hid R2
  clear R1
  rw [← hdv]
  replace hdv := Lib.hid hdv
  go_wp2_with fail
  refine (R2.out.wordP ht.out (⟨112, [111, 119, 101, 114], rfl, rfl⟩ : ∃ c s, ([112, 111, 119, 101, 114] : F9.Bs) = c :: s ∧ letB c = true) h3.out).mono ?_
  rintro e w3 ⟨rfl, R3⟩
  replace R3 := Lib.hid R3
  clear R2
  obtain ⟨p, R53⟩ := R3.out
  obtain ⟨RR, f_1, bl, c_1⟩ := R53.on (n := 5) (by rw [h3.out]; rfl) (by decide)
  have hp5 : p ≤ 100000 := by have := R53.1; have := ht.out; omega
  have R103 : Hid (RA w0 (w3.setCell ⟨rb, 1, none⟩ (.int .i64 ((p : Int) + 5))) rb t (F9.nx r) bs) := Lib.hid RR
  clear RR R53 R3
  go_upto_region 12 with fail
  clear f_1 bl c_1
  obtain ⟨W9, hW9⟩ : ∃ V, V = w3.setCell ⟨rb, 1, none⟩ (.int .i64 ((p : Int) + 5)) := ⟨_, rfl⟩
  rw [← hW9] at R103 ⊢
  clear hW9
  go_wp2_with fail
  refine (R103.out.wantY ht.out (c := 40) ⟨rfl, rfl, by decide⟩ h4.out).mono ?_
  rintro e w4 ⟨rfl, R4⟩
  replace R4 := Lib.hid R4
  clear R103
  go_wp2_with fail
  refine (R4.out.nameY ht.out h5.out).mono ?_
  rintro e w5 ⟨rfl, R5⟩
  replace R5 := Lib.hid R5
  clear R4
  obtain ⟨ns, hns⟩ : ∃ s : ByteArray, s = ⟨(F9.fw (F9.nx (F9.nx r))).toArray⟩ := ⟨_, rfl⟩
  rw [← hns]
  replace hns := Lib.hid hns
  go_wp2_with fail
  refine (R5.out.wantN ht.out (c := 44) ⟨rfl, rfl, by decide⟩ h6.out).mono ?_
  rintro e w6 ⟨rfl, R6⟩
  replace R6 := Lib.hid R6
  clear R5
  go_wp2_with fail
  refine (R6.out.exp (by omega) ht.out 2 8).mono ?_
  rintro e w7 ⟨rfl, R7⟩
  replace R7 := Lib.hid R7
  clear R6
  go_wp2_with fail
  refine (R7.out.want (c := 41) (by omega) ht.out ⟨rfl, rfl, by decide⟩).mono ?_
  rintro e w8 ⟨rfl, R8⟩
  replace R8 := Lib.hid R8
  clear R7
  have RR := Lib.hid (R8.out.mono (show _ ≤ 1 by omega))
  clear R8
  have RF := Lib.hid (RR.out.put ⟨2, ns, -1⟩)
  clear RR
  go_wp2
  go_ret
  exact ⟨⟨some ⟨w8.heap.size, 0, none⟩, 1, [(⟨2, ns, -1⟩ : Nd)]⟩, [(w8.heap.size, (ndC.cs (⟨2, ns, -1⟩ : Nd)).toArray, 53)], rfl, Nat.le_refl _, OBn.one _ _, RF.out⟩

set_option maxRecDepth 100000 in
set_option maxHeartbeats 4000000 in
theorem RA.pow4 (h : RA w0 W rb t r bs) (ht : t.size ≤ 100000) (h0 : ¬ F9.fw r = [40]) (h1 : ¬ F9.fw r = [48]) (h2 : ¬ F9.fw r = [49]) (h3 : F9.fw r = [112, 111, 119, 101, 114]) (h4 : F9.fw (F9.nx r) = [40]) (h5 : nameL (F9.fw (F9.nx (F9.nx r))) = true) (h6 : F9.fw (F9.nx (F9.nx (F9.nx r))) = [44]) {x : F9.Er} (h7 : F9.expo 2 8 (F9.nx (F9.nx (F9.nx (F9.nx r)))) = .error x) : Calls Tryd.prog 47 #[.pointer (some ⟨rb, 0, none⟩)] W fun e w' => ResL w0 w' rb t e bs (F9.leaf r) := by
  have hx : F9.leaf r = .error x := by
    unfold F9.leaf
    rw [if_neg h1, if_neg h2, if_pos h3]
    unfold F9.pw
    rw [if_pos h4, if_pos h5, if_pos h6, h7]
  rw [hx]
  clear hx
  have hd0 : ¬ dgN r = 0 := fun e => h1 (dg0.1 e)
  have hd1 : ¬ dgN r = 1 := fun e => h2 (dg1.1 e)
  have hd2 : (dgN r == 0) = false := by rw [beq_eq_false_iff_ne]; exact hd0
  have hd3 : (dgN r == 1) = false := by rw [beq_eq_false_iff_ne]; exact hd1
  obtain ⟨dv, hdv⟩ : ∃ v, v = dgN r := ⟨_, rfl⟩
  rw [← hdv] at hd0 hd1 hd2 hd3
  replace ht := Lib.hid ht
  replace h0 := Lib.hid h0
  replace h1 := Lib.hid h1
  replace h2 := Lib.hid h2
  replace h3 := Lib.hid h3
  replace h4 := Lib.hid h4
  replace h5 := Lib.hid h5
  replace h6 := Lib.hid h6
  replace h7 := Lib.hid h7
  replace h := Lib.hid h
  go_enter Tryd.func47, Tryd.ntmps47
  go_wp2_with fail
  refine (h.out.takeN ht.out (c := 40) ⟨rfl, rfl, by decide⟩ h0.out).mono ?_
  rintro e w1 ⟨rfl, R1⟩
  replace R1 := Lib.hid R1
  clear h
  go_wp2_with fail
  refine (R1.out.digit ht.out).mono ?_
  rintro e w2 ⟨rfl, R2⟩
  replace R2 := Lib.hid R2
  clear R1
  rw [← hdv]
  replace hdv := Lib.hid hdv
  go_wp2_with fail
  refine (R2.out.wordP ht.out (⟨112, [111, 119, 101, 114], rfl, rfl⟩ : ∃ c s, ([112, 111, 119, 101, 114] : F9.Bs) = c :: s ∧ letB c = true) h3.out).mono ?_
  rintro e w3 ⟨rfl, R3⟩
  replace R3 := Lib.hid R3
  clear R2
  obtain ⟨p, R53⟩ := R3.out
  obtain ⟨RR, f_1, bl, c_1⟩ := R53.on (n := 5) (by rw [h3.out]; rfl) (by decide)
  have hp5 : p ≤ 100000 := by have := R53.1; have := ht.out; omega
  have R103 : Hid (RA w0 (w3.setCell ⟨rb, 1, none⟩ (.int .i64 ((p : Int) + 5))) rb t (F9.nx r) bs) := Lib.hid RR
  clear RR R53 R3
  go_upto_region 12 with fail
  clear f_1 bl c_1
  obtain ⟨W9, hW9⟩ : ∃ V, V = w3.setCell ⟨rb, 1, none⟩ (.int .i64 ((p : Int) + 5)) := ⟨_, rfl⟩
  rw [← hW9] at R103 ⊢
  clear hW9
  go_wp2_with fail
  refine (R103.out.wantY ht.out (c := 40) ⟨rfl, rfl, by decide⟩ h4.out).mono ?_
  rintro e w4 ⟨rfl, R4⟩
  replace R4 := Lib.hid R4
  clear R103
  go_wp2_with fail
  refine (R4.out.nameY ht.out h5.out).mono ?_
  rintro e w5 ⟨rfl, R5⟩
  replace R5 := Lib.hid R5
  clear R4
  obtain ⟨ns, hns⟩ : ∃ s : ByteArray, s = ⟨(F9.fw (F9.nx (F9.nx r))).toArray⟩ := ⟨_, rfl⟩
  rw [← hns]
  replace hns := Lib.hid hns
  go_wp2_with fail
  refine (R5.out.wantY ht.out (c := 44) ⟨rfl, rfl, by decide⟩ h6.out).mono ?_
  rintro e w6 ⟨rfl, R6⟩
  replace R6 := Lib.hid R6
  clear R5
  go_wp2_with fail
  refine (R6.out.expN ht.out 2 8 h7.out).mono ?_
  rintro e w7 ⟨ev, rfl, R7⟩
  replace R7 := Lib.hid R7
  clear R6
  go_wp2_with fail
  refine (R7.out.want (c := 41) (by omega) ht.out ⟨rfl, rfl, by decide⟩).mono ?_
  rintro e w8 ⟨rfl, R8⟩
  replace R8 := Lib.hid R8
  clear R7
  have RR := Lib.hid (R8.out.mono (show _ ≤ 1 by omega))
  clear R8
  have RF := Lib.hid (RR.out.put ⟨2, ns, ev⟩)
  clear RR
  go_wp2
  go_ret
  exact ⟨⟨some ⟨w8.heap.size, 0, none⟩, 1, [(⟨2, ns, ev⟩ : Nd)]⟩, [(w8.heap.size, (ndC.cs (⟨2, ns, ev⟩ : Nd)).toArray, 53)], rfl, Nat.le_refl _, OBn.one _ _, RF.out⟩

set_option maxRecDepth 100000 in
set_option maxHeartbeats 4000000 in
theorem RA.pow5 (h : RA w0 W rb t r bs) (ht : t.size ≤ 100000) (h0 : ¬ F9.fw r = [40]) (h1 : ¬ F9.fw r = [48]) (h2 : ¬ F9.fw r = [49]) (h3 : F9.fw r = [112, 111, 119, 101, 114]) (h4 : F9.fw (F9.nx r) = [40]) (h5 : nameL (F9.fw (F9.nx (F9.nx r))) = true) (h6 : F9.fw (F9.nx (F9.nx (F9.nx r))) = [44]) {kk : Nat} {r1 : F9.Bs} (h7 : F9.expo 2 8 (F9.nx (F9.nx (F9.nx (F9.nx r)))) = .ok (kk, r1)) (h8 : ¬ F9.fw r1 = [41]) : Calls Tryd.prog 47 #[.pointer (some ⟨rb, 0, none⟩)] W fun e w' => ResL w0 w' rb t e bs (F9.leaf r) := by
  have hx : F9.leaf r = .error (3, r1) := by
    unfold F9.leaf
    rw [if_neg h1, if_neg h2, if_pos h3]
    unfold F9.pw
    rw [if_pos h4, if_pos h5, if_pos h6, h7]
    simp only [if_neg h8]
  rw [hx]
  clear hx
  have hd0 : ¬ dgN r = 0 := fun e => h1 (dg0.1 e)
  have hd1 : ¬ dgN r = 1 := fun e => h2 (dg1.1 e)
  have hd2 : (dgN r == 0) = false := by rw [beq_eq_false_iff_ne]; exact hd0
  have hd3 : (dgN r == 1) = false := by rw [beq_eq_false_iff_ne]; exact hd1
  obtain ⟨dv, hdv⟩ : ∃ v, v = dgN r := ⟨_, rfl⟩
  rw [← hdv] at hd0 hd1 hd2 hd3
  replace ht := Lib.hid ht
  replace h0 := Lib.hid h0
  replace h1 := Lib.hid h1
  replace h2 := Lib.hid h2
  replace h3 := Lib.hid h3
  replace h4 := Lib.hid h4
  replace h5 := Lib.hid h5
  replace h6 := Lib.hid h6
  replace h7 := Lib.hid h7
  replace h8 := Lib.hid h8
  replace h := Lib.hid h
  go_enter Tryd.func47, Tryd.ntmps47
  go_wp2_with fail
  refine (h.out.takeN ht.out (c := 40) ⟨rfl, rfl, by decide⟩ h0.out).mono ?_
  rintro e w1 ⟨rfl, R1⟩
  replace R1 := Lib.hid R1
  clear h
  go_wp2_with fail
  refine (R1.out.digit ht.out).mono ?_
  rintro e w2 ⟨rfl, R2⟩
  replace R2 := Lib.hid R2
  clear R1
  rw [← hdv]
  replace hdv := Lib.hid hdv
  go_wp2_with fail
  refine (R2.out.wordP ht.out (⟨112, [111, 119, 101, 114], rfl, rfl⟩ : ∃ c s, ([112, 111, 119, 101, 114] : F9.Bs) = c :: s ∧ letB c = true) h3.out).mono ?_
  rintro e w3 ⟨rfl, R3⟩
  replace R3 := Lib.hid R3
  clear R2
  obtain ⟨p, R53⟩ := R3.out
  obtain ⟨RR, f_1, bl, c_1⟩ := R53.on (n := 5) (by rw [h3.out]; rfl) (by decide)
  have hp5 : p ≤ 100000 := by have := R53.1; have := ht.out; omega
  have R103 : Hid (RA w0 (w3.setCell ⟨rb, 1, none⟩ (.int .i64 ((p : Int) + 5))) rb t (F9.nx r) bs) := Lib.hid RR
  clear RR R53 R3
  go_upto_region 12 with fail
  clear f_1 bl c_1
  obtain ⟨W9, hW9⟩ : ∃ V, V = w3.setCell ⟨rb, 1, none⟩ (.int .i64 ((p : Int) + 5)) := ⟨_, rfl⟩
  rw [← hW9] at R103 ⊢
  clear hW9
  go_wp2_with fail
  refine (R103.out.wantY ht.out (c := 40) ⟨rfl, rfl, by decide⟩ h4.out).mono ?_
  rintro e w4 ⟨rfl, R4⟩
  replace R4 := Lib.hid R4
  clear R103
  go_wp2_with fail
  refine (R4.out.nameY ht.out h5.out).mono ?_
  rintro e w5 ⟨rfl, R5⟩
  replace R5 := Lib.hid R5
  clear R4
  obtain ⟨ns, hns⟩ : ∃ s : ByteArray, s = ⟨(F9.fw (F9.nx (F9.nx r))).toArray⟩ := ⟨_, rfl⟩
  rw [← hns]
  replace hns := Lib.hid hns
  go_wp2_with fail
  refine (R5.out.wantY ht.out (c := 44) ⟨rfl, rfl, by decide⟩ h6.out).mono ?_
  rintro e w6 ⟨rfl, R6⟩
  replace R6 := Lib.hid R6
  clear R5
  go_wp2_with fail
  refine (R6.out.expY ht.out 2 8 h7.out).mono ?_
  rintro e w7 ⟨rfl, R7⟩
  replace R7 := Lib.hid R7
  clear R6
  go_wp2_with fail
  refine (R7.out.wantN ht.out (c := 41) ⟨rfl, rfl, by decide⟩ h8.out).mono ?_
  rintro e w8 ⟨rfl, R8⟩
  replace R8 := Lib.hid R8
  clear R7
  have RR := Lib.hid (R8.out.mono (show _ ≤ 1 by omega))
  clear R8
  have RF := Lib.hid (RR.out.put ⟨2, ns, kk⟩)
  clear RR
  go_wp2
  go_ret
  exact ⟨⟨some ⟨w8.heap.size, 0, none⟩, 1, [(⟨2, ns, kk⟩ : Nd)]⟩, [(w8.heap.size, (ndC.cs (⟨2, ns, kk⟩ : Nd)).toArray, 53)], rfl, Nat.le_refl _, OBn.one _ _, RF.out⟩

set_option maxRecDepth 100000 in
set_option maxHeartbeats 4000000 in
theorem RA.pow6 (h : RA w0 W rb t r bs) (ht : t.size ≤ 100000) (h0 : ¬ F9.fw r = [40]) (h1 : ¬ F9.fw r = [48]) (h2 : ¬ F9.fw r = [49]) (h3 : F9.fw r = [112, 111, 119, 101, 114]) (h4 : F9.fw (F9.nx r) = [40]) (h5 : nameL (F9.fw (F9.nx (F9.nx r))) = true) (h6 : F9.fw (F9.nx (F9.nx (F9.nx r))) = [44]) {kk : Nat} {r1 : F9.Bs} (h7 : F9.expo 2 8 (F9.nx (F9.nx (F9.nx (F9.nx r)))) = .ok (kk, r1)) (h8 : F9.fw r1 = [41]) : Calls Tryd.prog 47 #[.pointer (some ⟨rb, 0, none⟩)] W fun e w' => ResL w0 w' rb t e bs (F9.leaf r) := by
  have hx : F9.leaf r = .ok (⟨2, F9.fw (F9.nx (F9.nx r)), kk⟩, F9.nx r1) := by
    unfold F9.leaf
    rw [if_neg h1, if_neg h2, if_pos h3]
    unfold F9.pw
    rw [if_pos h4, if_pos h5, if_pos h6, h7]
    simp only [if_pos h8]
  rw [hx]
  clear hx
  have hd0 : ¬ dgN r = 0 := fun e => h1 (dg0.1 e)
  have hd1 : ¬ dgN r = 1 := fun e => h2 (dg1.1 e)
  have hd2 : (dgN r == 0) = false := by rw [beq_eq_false_iff_ne]; exact hd0
  have hd3 : (dgN r == 1) = false := by rw [beq_eq_false_iff_ne]; exact hd1
  obtain ⟨dv, hdv⟩ : ∃ v, v = dgN r := ⟨_, rfl⟩
  rw [← hdv] at hd0 hd1 hd2 hd3
  replace ht := Lib.hid ht
  replace h0 := Lib.hid h0
  replace h1 := Lib.hid h1
  replace h2 := Lib.hid h2
  replace h3 := Lib.hid h3
  replace h4 := Lib.hid h4
  replace h5 := Lib.hid h5
  replace h6 := Lib.hid h6
  replace h7 := Lib.hid h7
  replace h8 := Lib.hid h8
  replace h := Lib.hid h
  go_enter Tryd.func47, Tryd.ntmps47
  go_wp2_with fail
  refine (h.out.takeN ht.out (c := 40) ⟨rfl, rfl, by decide⟩ h0.out).mono ?_
  rintro e w1 ⟨rfl, R1⟩
  replace R1 := Lib.hid R1
  clear h
  go_wp2_with fail
  refine (R1.out.digit ht.out).mono ?_
  rintro e w2 ⟨rfl, R2⟩
  replace R2 := Lib.hid R2
  clear R1
  rw [← hdv]
  replace hdv := Lib.hid hdv
  go_wp2_with fail
  refine (R2.out.wordP ht.out (⟨112, [111, 119, 101, 114], rfl, rfl⟩ : ∃ c s, ([112, 111, 119, 101, 114] : F9.Bs) = c :: s ∧ letB c = true) h3.out).mono ?_
  rintro e w3 ⟨rfl, R3⟩
  replace R3 := Lib.hid R3
  clear R2
  obtain ⟨p, R53⟩ := R3.out
  obtain ⟨RR, f_1, bl, c_1⟩ := R53.on (n := 5) (by rw [h3.out]; rfl) (by decide)
  have hp5 : p ≤ 100000 := by have := R53.1; have := ht.out; omega
  have R103 : Hid (RA w0 (w3.setCell ⟨rb, 1, none⟩ (.int .i64 ((p : Int) + 5))) rb t (F9.nx r) bs) := Lib.hid RR
  clear RR R53 R3
  go_upto_region 12 with fail
  clear f_1 bl c_1
  obtain ⟨W9, hW9⟩ : ∃ V, V = w3.setCell ⟨rb, 1, none⟩ (.int .i64 ((p : Int) + 5)) := ⟨_, rfl⟩
  rw [← hW9] at R103 ⊢
  clear hW9
  go_wp2_with fail
  refine (R103.out.wantY ht.out (c := 40) ⟨rfl, rfl, by decide⟩ h4.out).mono ?_
  rintro e w4 ⟨rfl, R4⟩
  replace R4 := Lib.hid R4
  clear R103
  go_wp2_with fail
  refine (R4.out.nameY ht.out h5.out).mono ?_
  rintro e w5 ⟨rfl, R5⟩
  replace R5 := Lib.hid R5
  clear R4
  obtain ⟨ns, hns⟩ : ∃ s : ByteArray, s = ⟨(F9.fw (F9.nx (F9.nx r))).toArray⟩ := ⟨_, rfl⟩
  rw [← hns]
  replace hns := Lib.hid hns
  go_wp2_with fail
  refine (R5.out.wantY ht.out (c := 44) ⟨rfl, rfl, by decide⟩ h6.out).mono ?_
  rintro e w6 ⟨rfl, R6⟩
  replace R6 := Lib.hid R6
  clear R5
  go_wp2_with fail
  refine (R6.out.expY ht.out 2 8 h7.out).mono ?_
  rintro e w7 ⟨rfl, R7⟩
  replace R7 := Lib.hid R7
  clear R6
  go_wp2_with fail
  refine (R7.out.wantY ht.out (c := 41) ⟨rfl, rfl, by decide⟩ h8.out).mono ?_
  rintro e w8 ⟨rfl, R8⟩
  replace R8 := Lib.hid R8
  clear R7
  have RF := Lib.hid (R8.out.put ⟨2, ns, (kk : Int)⟩)
  clear R8
  go_wp2
  go_ret
  exact ⟨⟨some ⟨w8.heap.size, 0, none⟩, 1, [(⟨2, ns, (kk : Int)⟩ : Nd)]⟩, [(w8.heap.size, (ndC.cs (⟨2, ns, (kk : Int)⟩ : Nd)).toArray, 53)], rfl, by rw [hns.out]; rfl, OBn.one _ _, RF.out⟩

end
end Go.Proofs.YtjebpmjbdchdlaaDoor
