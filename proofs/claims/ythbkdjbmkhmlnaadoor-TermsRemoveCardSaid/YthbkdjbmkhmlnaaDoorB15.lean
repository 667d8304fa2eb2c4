/- Valid formulas are trees. -/
import Derived.Test.YthbkdjbmkhmlnaaDoorB13
import Derived.Test.YthbkdjbmkhmlnaaDoorB14
import Derived.Lib.AppendZeros
import Derived.Lib.SliceRun
namespace Go.Proofs.YthbkdjbmkhmlnaaDoor
open Go.RowKit
set_option linter.unusedVariables false

theorem lf_op {x : F9.Nd} (h : F9.lfN x) : 1 ≤ x.op ∧ x.op ≤ 4 := by
  rcases h with h | h | h
  · rw [h.1]; decide
  · rw [h.1]; decide
  · rcases h.1 with h | h <;> rw [h] <;> decide

theorem okN_op {x : F9.Nd} (h : F9.okN x) : 1 ≤ x.op ∧ x.op ≤ 10 := by
  rcases h with h | h | h
  · have := lf_op h; omega
  · have := h.1; omega
  · have := h.1; have := h.2.1; omega
/-- A node of memory as one of the grammar's. -/
def ofNd (x : Nd) : F9.Nd := ⟨x.o.toNat, x.s.data.toList, x.k.toNat⟩
theorem bs_of (s : ByteArray) : (⟨s.data.toList.toArray⟩ : ByteArray) = s := by simp
theorem of_to (y : F9.Nd) : ofNd (toNd y) = y := by
  obtain ⟨op, nm, k⟩ := y
  simp [ofNd, toNd]
theorem to_of {x : Nd} (h1 : 0 ≤ x.o) (h2 : 0 ≤ x.k) : toNd (ofNd x) = x := by
  obtain ⟨o, s, k⟩ := x
  simp only at h1 h2
  simp [ofNd, toNd, Int.toNat_of_nonneg h1, Int.toNat_of_nonneg h2]
theorem emp_of (s : ByteArray) : s.toList.isEmpty = true ↔ s.data.toList = [] := by
  rw [Lib.toList_data, List.isEmpty_iff]
theorem nod_ok {x : Nd} (h : nodB x = true) : F9.okN (ofNd x) ∧ toNd (ofNd x) = x := by
  unfold nodB at h
  simp only [Bool.and_eq_true, decide_eq_true_eq] at h
  obtain ⟨⟨h1, h2⟩, h3⟩ := h
  have ho : ((ofNd x).op : Int) = x.o := by show ((x.o.toNat : Nat) : Int) = x.o; omega
  have hnm : (ofNd x).nm = x.s.data.toList := rfl
  unfold fldB at h3
  by_cases a1 : x.o = 1
  · rw [if_pos a1] at h3
    simp only [Bool.and_eq_true, decide_eq_true_eq] at h3
    have hk : ((ofNd x).k : Int) = x.k := by show ((x.k.toNat : Nat) : Int) = x.k; omega
    exact ⟨.inl (.inl ⟨by omega, h3.1.1, by omega⟩), to_of (by omega) h3.1.2⟩
  · rw [if_neg a1] at h3
    by_cases a2 : x.o = 2
    · rw [if_pos a2] at h3
      simp only [Bool.and_eq_true, decide_eq_true_eq] at h3
      have hk : ((ofNd x).k : Int) = x.k := by show ((x.k.toNat : Nat) : Int) = x.k; omega
      exact ⟨.inl (.inr (.inl ⟨by omega, h3.1.1, by omega, by omega⟩)), to_of (by omega) (by omega)⟩
    · rw [if_neg a2] at h3
      by_cases a3 : x.o = 10
      · rw [if_pos a3] at h3
        simp only [Bool.and_eq_true, decide_eq_true_eq] at h3
        have hk : ((ofNd x).k : Int) = x.k := by show ((x.k.toNat : Nat) : Int) = x.k; omega
        exact ⟨.inr (.inl ⟨by omega, by rw [hnm]; exact (emp_of x.s).1 h3.1.1, by omega, by omega⟩), to_of (by omega) (by omega)⟩
      · rw [if_neg a3] at h3
        simp only [Bool.and_eq_true, decide_eq_true_eq] at h3
        have hk : ((ofNd x).k : Int) = x.k := by show ((x.k.toNat : Nat) : Int) = x.k; omega
        have he : (ofNd x).nm = [] := by rw [hnm]; exact (emp_of x.s).1 h3.1.1
        refine ⟨?_, to_of (by omega) (by omega)⟩
        by_cases a4 : x.o ≤ 4
        · exact .inl (.inr (.inr ⟨by omega, he, by omega⟩))
        · exact .inr (.inr ⟨by omega, by omega, he, by omega⟩)
theorem ok_nod {y : F9.Nd} (h : F9.okN y) : nodB (toNd y) = true := by
  obtain ⟨op, nm, k⟩ := y
  have hn : nameB (⟨nm.toArray⟩ : ByteArray) = nameL nm := by unfold nameB; simp
  have he : (⟨([] : List UInt8).toArray⟩ : ByteArray).toList.isEmpty = true := (emp_of _).2 rfl
  unfold nodB fldB toNd
  simp only at h ⊢
  rcases h with (⟨h1, h2, h3⟩ | ⟨h1, h2, h3, h4⟩ | ⟨h1, h2, h3⟩) | ⟨h1, h2, h3, h4⟩ | ⟨h1, h2, h3, h4⟩
  · simp only at h1 h2 h3
    subst h1 h3
    simp [hn, h2]
  · simp only at h1 h2 h3 h4
    subst h1
    simp [hn, h2]
    omega
  · simp only at h1 h2 h3
    subst h2 h3
    rcases h1 with rfl | rfl <;> simp
  · simp only at h1 h2 h3 h4
    subst h1 h2
    simp
    omega
  · simp only at h1 h2 h3 h4
    subst h3 h4
    have hc : op = 5 ∨ op = 6 ∨ op = 7 ∨ op = 8 ∨ op = 9 := by omega
    rcases hc with rfl | rfl | rfl | rfl | rfl <;> simp
theorem exc_cnt : ∀ (L : List Nd) (m : Nat), excB (m : Int) L = true → F9.cntP m (L.map ofNd) ∧ (L.map ofNd).map toNd = L
  | [], m, h => by
    unfold excB at h
    rw [beq_iff_eq] at h
    exact ⟨by show m = 0; omega, rfl⟩
  | x :: L, m, h => by
    unfold excB at h
    simp only [Bool.and_eq_true, Bool.not_eq_true', beq_eq_false_iff_ne] at h
    obtain ⟨⟨h1, h2⟩, h3⟩ := h
    obtain ⟨k1, k2⟩ := nod_ok h2
    have hop := okN_op k1
    have e : (x.o : Int) = ((ofNd x).op : Nat) := by rw [← congrArg Nd.o k2]; rfl
    have ea : ariB x.o = (F9.ari (ofNd x).op : Nat) := by rw [e]; exact ari_eq hop.1 hop.2
    rw [ea, show (m : Int) + (((F9.ari (ofNd x).op : Nat) : Int) - 1) = ((m - 1 + F9.ari (ofNd x).op : Nat) : Int) by omega] at h3
    obtain ⟨r1, r2⟩ := exc_cnt L _ h3
    exact ⟨⟨by omega, k1, r1⟩, by rw [List.map_cons, List.map_cons, k2, r2]⟩
theorem cnt_exc : ∀ (l : List F9.Nd) (m : Nat), F9.cntP m l → excB (m : Int) (l.map toNd) = true
  | [], m, h => by
    have : m = 0 := h
    subst this
    rfl
  | x :: l, m, h => by
    obtain ⟨h1, h2, h3⟩ := h
    have hop := okN_op h2
    have ea : ariB (toNd x).o = (F9.ari x.op : Nat) := ari_eq hop.1 hop.2
    have r := cnt_exc l _ h3
    rw [List.map_cons]
    unfold excB
    rw [ea, show (m : Int) + (((F9.ari x.op : Nat) : Int) - 1) = ((m - 1 + F9.ari x.op : Nat) : Int) by omega, r, ok_nod h2]
    simp
    omega
/-- A valid formula's nodes are a tree's. -/
theorem frm_tree {s : ByteArray} {L : List Nd} (h : frmB s L = true) : ∃ tr : F9.Tr, tr.wf ∧ L = tr.pre.map toNd := by
  unfold frmB at h
  simp only [Bool.and_eq_true] at h
  obtain ⟨r1, r2⟩ := exc_cnt L 1 h.2
  obtain ⟨tr, h1, h2⟩ := (F9.expr_iff _).1 r1
  exact ⟨tr, h1, by rw [← h2, r2]⟩
theorem tree_frm {s : ByteArray} {tr : F9.Tr} (h : tr.wf) (hs : nameB s = true) (hl : tr.pre.length ≤ 64) : frmB s (tr.pre.map toNd) = true := by
  unfold frmB
  have := cnt_exc tr.pre 1 ((F9.expr_iff _).2 ⟨tr, h, rfl⟩)
  rw [hs, decide_eq_true (by rw [List.length_map]; exact hl)]
  simpa using this
theorem frm_len {s : ByteArray} {L : List Nd} (h : frmB s L = true) : L.length ≤ 64 ∧ nameB s = true := by
  unfold frmB at h
  simp only [Bool.and_eq_true, decide_eq_true_eq] at h
  exact ⟨h.1.2, h.1.1⟩
end Go.Proofs.YthbkdjbmkhmlnaaDoor
namespace Go.Proofs.YthbkdjbmkhmlnaaDoor
open Go.RowKit
set_option linter.unusedVariables false

def uC : Cod Nat := cellC (fun t => Value.int .u64 (t : Int)) (fun _ _ e => by cases e) (fun _ => rfl)
theorem u_sz : uC.sz = 1 := rfl
theorem u_cs (t : Nat) : uC.cs t = [.int .u64 (t : Int)] := rfl
theorem u_in {w : World} {bs : List GBk} {rs : List GRd} (t : Nat) : uC.In w bs rs t := trivial
theorem u_get {W : World} {A : Option Addr} {n : Nat} {L : List Nat} (h : LR uC W A n L) {i : Nat} (hi : i < n) : ∃ b o x, A = some ⟨b, o, none⟩ ∧ L[i]? = some x ∧ x ∈ L ∧ W.cell? ⟨b, o + i, none⟩ = some (.int .u64 (x : Int)) := by
  obtain ⟨b, o, c, h1, h2, h3, h4, h5⟩ := h.get hi
  refine ⟨b, o, c, h1, h2, h3, ?_⟩
  have := h5 0 _ rfl
  rwa [show o + i * uC.sz + 0 = o + i by show o + i * 1 + 0 = o + i; omega] at this
/-- A factor as it lies in memory. -/
structure Fa where
  s : ByteArray
  k : Int
deriving DecidableEq
def faC : Cod Fa := (proC strC intC).via fun c => (c.s, c.k)
theorem fa_sz : faC.sz = 2 := rfl
theorem fa_cs (c : Fa) : faC.cs c = [.string c.s, .int .i64 c.k] := rfl
theorem fa_in {w : World} {bs : List GBk} {rs : List GRd} (t : Fa) : faC.In w bs rs t := ⟨trivial, trivial⟩
theorem fa_get {W : World} {A : Option Addr} {n : Nat} {L : List Fa} (h : LR faC W A n L) {i : Nat} (hi : i < n) : ∃ b o c, A = some ⟨b, o, none⟩ ∧ L[i]? = some c ∧ c ∈ L ∧ W.cell? ⟨b, o + i * 2, none⟩ = some (.string c.s) ∧ W.cell? ⟨b, o + i * 2 + 1, none⟩ = some (.int .i64 c.k) := by
  obtain ⟨b, o, c, h1, h2, h3, h4, h5⟩ := h.get hi
  exact ⟨b, o, c, h1, h2, h3, h5 0 _ rfl, h5 1 _ rfl⟩
/-- Lists of terms: each is a number of 64 bits. -/
def U64 (L : List Nat) : Prop := ∀ t ∈ L, t < 18446744073709551616

theorem wrap64_nat {n : Nat} (h : n < 18446744073709551616) : IntKind.u64.wrap (n : Int) = (n : Int) := by
  rw [IntKind.wrap_u64]; omega
theorem and127_i64 (x : Nat) (h : x < 18446744073709551616) : bits .and .i64 (IntKind.i64.wrap (x : Int)) 127 = ((x % 128 : Nat) : Int) := by
  have e : IntKind.i64.wrap (x : Int) = if x < 9223372036854775808 then (x : Int) else (x : Int) - 18446744073709551616 := by
    rw [IntKind.wrap_i64]
    split <;> omega
  have e2 : (BitVec.ofInt 64 (IntKind.i64.wrap (x : Int))).toNat = x := by
    rw [e]
    split
    · exact ofInt_u64 x h
    · rw [BitVec.toNat_ofInt]
      have : ((x : Int) - 18446744073709551616) % ((2 ^ 64 : Nat) : Int) = (x : Int) := by
        show ((x : Int) - 18446744073709551616) % (18446744073709551616 : Int) = _
        omega
      rw [this]; rfl
  show IntKind.i64.wrap ((BitVec.ofInt 64 (IntKind.i64.wrap (x : Int)) &&& BitVec.ofInt 64 ((127 : Nat) : Int)).toNat : Int) = _
  rw [BitVec.toNat_and, e2, ofInt_u64 127 (by omega), show (127 : Nat) = 2 ^ 7 - 1 from rfl, Nat.and_two_pow_sub_one_eq_mod, IntKind.wrap_i64]
  show (((x % 128 : Nat) : Int) + 9223372036854775808) % 18446744073709551616 - 9223372036854775808 = _
  omega
theorem w64 (z : Int) : wrap64 z = IntKind.i64.wrap z := by simp [wrap64, IntKind.wrap_i64]
theorem ones1 (x : Nat) (hx : x < 18446744073709551616) : IntKind.u64.wrap (bits .and .u64 ((x : Int) / 2) 6148914691236517205 + bits .and .u64 (x : Int) 6148914691236517205) = ((F10.f1 8 x : Nat) : Int) ∧ F10.f1 8 x < 18446744073709551616 := by
  have hm := F10.f_masks.1
  have e1 : bits .and .u64 ((x : Int) / 2) 6148914691236517205 = ((x / 2 &&& 6148914691236517205 : Nat) : Int) := u64_and_nat (x / 2) 6148914691236517205 (by omega) (by omega)
  have e2 : bits .and .u64 (x : Int) 6148914691236517205 = ((x &&& 6148914691236517205 : Nat) : Int) := u64_and_nat x 6148914691236517205 hx (by omega)
  have b1 : (x / 2 &&& 6148914691236517205) ≤ 6148914691236517205 := Nat.and_le_right
  have b2 : (x &&& 6148914691236517205) ≤ 6148914691236517205 := Nat.and_le_right
  have ef : F10.f1 8 x = (x / 2 &&& 6148914691236517205) + (x &&& 6148914691236517205) := by unfold F10.f1; rw [hm]
  rw [e1, e2, ef, ← Int.natCast_add]
  exact ⟨wrap64_nat (by omega), by omega⟩
theorem ones2 (x : Nat) (hx : x < 18446744073709551616) : IntKind.u64.wrap (bits .and .u64 ((x : Int) / 4) 3689348814741910323 + bits .and .u64 (x : Int) 3689348814741910323) = ((F10.f2 8 x : Nat) : Int) ∧ F10.f2 8 x < 9223372036854775808 := by
  have hm := F10.f_masks.2.1
  have e1 : bits .and .u64 ((x : Int) / 4) 3689348814741910323 = ((x / 4 &&& 3689348814741910323 : Nat) : Int) := u64_and_nat (x / 4) 3689348814741910323 (by omega) (by omega)
  have e2 : bits .and .u64 (x : Int) 3689348814741910323 = ((x &&& 3689348814741910323 : Nat) : Int) := u64_and_nat x 3689348814741910323 hx (by omega)
  have b1 : (x / 4 &&& 3689348814741910323) ≤ 3689348814741910323 := Nat.and_le_right
  have b2 : (x &&& 3689348814741910323) ≤ 3689348814741910323 := Nat.and_le_right
  have ef : F10.f2 8 x = (x / 4 &&& 3689348814741910323) + (x &&& 3689348814741910323) := by unfold F10.f2; rw [hm]
  rw [e1, e2, ef, ← Int.natCast_add]
  exact ⟨wrap64_nat (by omega), by omega⟩
theorem ones3 (x : Nat) (hx : x < 9223372036854775808) : bits .and .u64 (IntKind.u64.wrap ((x : Int) / 16 + (x : Int))) 1085102592571150095 = ((F10.f3 8 x : Nat) : Int) := by
  have hm := F10.f_masks.2.2
  have e0 : IntKind.u64.wrap ((x : Int) / 16 + (x : Int)) = ((x / 16 + x : Nat) : Int) := wrap64_nat (n := x / 16 + x) (by omega)
  rw [e0]
  have e1 := u64_and_nat (x / 16 + x) 1085102592571150095 (by omega) (by omega)
  have ef : F10.f3 8 x = (x / 16 + x) &&& 1085102592571150095 := by unfold F10.f3; rw [hm]
  rw [ef]
  exact e1
theorem ones4 {x y : Nat} (q : Nat) (h : x + x / q < 18446744073709551616) (hy : y = x + x / q) : IntKind.u64.wrap ((x : Int) + (x : Int) / (q : Int)) = (y : Int) := by
  subst hy
  exact wrap64_nat h

set_option maxRecDepth 100000 in
set_option maxHeartbeats 4000000 in
theorem ones_any (x : Nat) (w : World) (hx : x < 18446744073709551616) : Calls Tryd.prog 93 #[.int .u64 (x : Int)] w fun e w' => e = .returned (.int .i64 ((F10.siz x : Nat) : Int)) ∧ w' = w := by
  obtain ⟨b0, b1, b2, b3, hs⟩ := F10.ones_ok x
  obtain ⟨e1, c1⟩ := ones1 x hx
  obtain ⟨e2, c2⟩ := ones2 _ c1
  have e3 := ones3 _ c2
  obtain ⟨y, hy⟩ : ∃ y, y = F10.F 8 x := ⟨_, rfl⟩
  have hy3 : F10.f3 8 (F10.f2 8 (F10.f1 8 x)) = y := hy.symm
  rw [← hy] at b0 b1 b2 b3 hs
  rw [hy3] at e3
  generalize F10.f1 8 x = x1 at *
  generalize F10.f2 8 x1 = x2 at *
  unfold F10.ones at b3 hs
  obtain ⟨y1, hy1⟩ : ∃ z, z = y + y / 256 := ⟨_, rfl⟩
  rw [← hy1] at b1 b2 b3 hs
  obtain ⟨y2, hy2⟩ : ∃ z, z = y1 + y1 / 65536 := ⟨_, rfl⟩
  rw [← hy2] at b2 b3 hs
  obtain ⟨y3, hy4⟩ : ∃ z, z = y2 + y2 / 4294967296 := ⟨_, rfl⟩
  rw [← hy4] at b3 hs
  have e4 := Lib.hid (ones4 256 (by rw [← hy1]; exact b1) hy1)
  have e5 := Lib.hid (ones4 65536 (by rw [← hy2]; exact b2) hy2)
  have e6 := Lib.hid (ones4 4294967296 (by rw [← hy4]; exact b3) hy4)
  have e7 := Lib.hid (show bits .and .i64 (wrap64 (y3 : Int)) 127 = ((y3 % 128 : Nat) : Int) from by rw [w64]; exact and127_i64 y3 b3)
  replace hs := Lib.hid hs
  replace e1 := Lib.hid e1
  replace e2 := Lib.hid e2
  replace e3 := Lib.hid e3
  clear b0 b1 b2 b3 c1 c2 hy hy3 hy1 hy2 hy4
  go_enter Tryd.func93, Tryd.ntmps93
  go_upto_region 2 with fail
  rw [e1.out]
  go_upto_region 3 with fail
  rw [e2.out]
  go_upto_region 4 with fail
  rw [e3.out]
  go_upto_region 5 with fail
  rw [show ((y : Int) / 256) = (y : Int) / ((256 : Nat) : Int) from rfl, e4.out]
  go_upto_region 6 with fail
  rw [show ((y1 : Int) / 65536) = (y1 : Int) / ((65536 : Nat) : Int) from rfl, e5.out]
  go_upto_region 7 with fail
  rw [show ((y2 : Int) / 4294967296) = (y2 : Int) / ((4294967296 : Nat) : Int) from rfl, e6.out]
  go_wp2
  go_ret
  refine ⟨?_, rfl⟩
  rw [← hs.out, ← e7.out]
  rfl
set_option maxRecDepth 100000 in
set_option maxHeartbeats 4000000 in
theorem size_any (x : Nat) (w : World) (hx : x < 18446744073709551616) : Calls Tryd.prog 58 #[.int .u64 (x : Int)] w fun e w' => e = .returned (.int .i64 ((F10.siz x : Nat) : Int)) ∧ w' = w := by
  have h := Lib.hid (ones_any x w hx)
  go_enter Tryd.func58, Tryd.ntmps58
  go_wp2_with fail
  refine h.out.mono ?_
  rintro e w1 ⟨rfl, rfl⟩
  go_wp2
  go_ret
  exact ⟨rfl, rfl⟩
set_option maxRecDepth 100000 in
set_option maxHeartbeats 4000000 in
theorem big_any (x : Nat) (w : World) (hx : x < 18446744073709551616) : Calls Tryd.prog 100 #[.int .u64 (x : Int)] w fun e w' => e = .returned (.bool (decide (6 < F10.siz x))) ∧ w' = w := by
  have h := Lib.hid (size_any x w hx)
  go_enter Tryd.func100, Tryd.ntmps100
  go_wp2_with fail
  refine h.out.mono ?_
  rintro e w1 ⟨rfl, rfl⟩
  go_wp2
  go_ret
  exact ⟨by simp; omega, rfl⟩
end Go.Proofs.YthbkdjbmkhmlnaaDoor
namespace Go.Proofs.YthbkdjbmkhmlnaaDoor
open Go.RowKit
set_option linter.unusedVariables false

set_option maxRecDepth 100000 in
set_option maxHeartbeats 4000000 in
theorem has_any (t i : Nat) (w : World) (ht : t < 18446744073709551616) (hi : i < 64) : Calls Tryd.prog 94 #[.int .u64 (t : Int), .int .i64 (i : Int)] w fun e w' => e = .returned (.bool (t.testBit i)) ∧ w' = w := by
  have e1 : t / 2 ^ i < 18446744073709551616 := Nat.lt_of_le_of_lt (Nat.div_le_self _ _) ht
  have h1 : Hid ((bits .and .u64 ((t : Int) / 2 ^ i) 1 == 1) = t.testBit i) := Lib.hid (by
    have h := u64_and_nat (t / 2 ^ i) 1 e1 (by omega)
    have e : ((t / 2 ^ i : Nat) : Int) = (t : Int) / 2 ^ i := by rw [Int.natCast_ediv, Int.natCast_pow]; rfl
    rw [e] at h
    rw [show (1 : Int) = ((1 : Nat) : Int) from rfl, h, Nat.testBit_eq_decide_div_mod_eq, Nat.and_one_is_mod]
    generalize t / 2 ^ i % 2 = k
    by_cases hk : k = 1
    · rw [hk]; rfl
    · rw [decide_eq_false hk, beq_eq_false_iff_ne]; omega)
  clear e1
  go_enter Tryd.func94, Tryd.ntmps94
  go_wp2
  go_ret
  refine ⟨?_, rfl⟩
  rw [← h1.out]
  rfl
set_option maxRecDepth 100000 in
set_option maxHeartbeats 4000000 in
theorem indexT_any (L : List Nat) (A : Option Addr) (n c t : Nat) (w : World) (h : LR uC w A n L) (hn : n ≤ 100000) : Calls Tryd.prog 88 #[.slice A n c, .int .u64 (t : Int)] w fun e w' => (∃ z : Int, e = .returned (.int .i64 z) ∧ decide (0 ≤ z) = L.contains t) ∧ w' = w := by
  have hb := Lib.hid hn
  have hlen := Lib.hid h.len
  replace h := Lib.hid h
  clear hn
  go_enter Tryd.func88, Tryd.ntmps88
  go_wp2
  go_loopw [8] (fun iv wr => ∃ i : Nat, i ≤ n ∧ iv = .int .i64 i ∧ wr = w ∧ (∀ j s, j < i → L[j]? = some s → ¬ s = t)) (fun iv _ => n - (intOf iv).toNat)
  case atStart => exact ⟨0, Nat.zero_le _, rfl, rfl, fun j s h0 => absurd h0 (Nat.not_lt_zero _)⟩
  case round =>
    obtain ⟨i, hin, rfl, rfl, hall⟩ := hrel
    by_cases hlt : i < n
    · obtain ⟨b, o, x, rfl, hx, hxm, e0⟩ := u_get h.out hlt
      have hih := Lib.hid hlt
      have g1 : (i : Int) < (n : Int) := by omega
      have g2 : (0 : Int) ≤ (i : Int) := by omega
      replace hall := Lib.hid hall
      replace hx := Lib.hid hx
      clear hlt hin hxm
      by_cases hv : t = x
      · have g3 : ((t : Int) == (x : Int)) = true := by rw [beq_iff_eq]; omega
        have hz : Hid (decide (0 ≤ (i : Int)) = L.contains t) := Lib.hid (by
          rw [decide_eq_true (by omega)]
          refine (List.elem_eq_true_of_mem ?_).symm
          rw [hv]; exact List.mem_of_getElem? hx.out)
        replace hv := Lib.hid hv
        go_wp2
        go_ret
        exact ⟨⟨_, rfl, hz.out⟩, rfl⟩
      · have g3 : ((t : Int) == (x : Int)) = false := by rw [beq_eq_false_iff_ne]; omega
        replace hv := Lib.hid hv
        have hlt := hih.out
        have hbb := hb.out
        go_wp2
        go_roundw
        case rel => exact ⟨i + 1, by omega, by go_num, (by first | rfl | trivial), fun j' s h1 h2 => (by rcases Nat.lt_or_ge j' i with h3 | h3; exact hall.out j' s h3 h2; obtain rfl : j' = i := (by omega); rw [hx.out] at h2; injection h2 with h2; subst h2; exact fun e => hv.out e.symm)⟩
        case measure => simp [intOf]; omega
    · obtain rfl : i = n := by omega
      have hfin : Hid (decide (0 ≤ (-1 : Int)) = L.contains t) := Lib.hid (by
        rw [decide_eq_false (by omega)]
        refine (Bool.eq_false_iff.2 fun hc => ?_).symm
        obtain ⟨k, hk⟩ := List.getElem?_of_mem (List.mem_of_elem_eq_true hc)
        exact hall k t (by rw [← hlen.out]; exact (List.getElem?_eq_some_iff.1 hk).1) hk rfl)
      clear hall hin hlt
      go_wp2
      go_ret
      exact ⟨⟨-1, rfl, hfin.out⟩, rfl⟩
set_option maxRecDepth 100000 in
set_option maxHeartbeats 4000000 in
theorem containsT_any (L : List Nat) (A : Option Addr) (n c t : Nat) (w : World) (h : LR uC w A n L) (hn : n ≤ 100000) : Calls Tryd.prog 54 #[.slice A n c, .int .u64 (t : Int)] w fun e w' => e = .returned (.bool (L.contains t)) ∧ w' = w := by
  have hI := Lib.hid (indexT_any L A n c t w h hn)
  clear h hn
  go_enter Tryd.func54, Tryd.ntmps54
  go_wp2_with fail
  refine hI.out.mono ?_
  rintro e w1 ⟨⟨z, rfl, hz⟩, rfl⟩
  replace hz := Lib.hid hz
  clear hI
  go_wp2
  go_ret
  exact ⟨by rw [← hz.out]; rfl, rfl⟩
set_option maxRecDepth 100000 in
set_option maxHeartbeats 4000000 in
theorem whole_any (L : List Nat) (A : Option Addr) (n c : Nat) (w : World) (h : LR uC w A n L) (hn : n ≤ 100000) (hL : U64 L) : Calls Tryd.prog 104 #[.slice A n c] w fun e w' => e = .returned (.int .u64 ((F10.whl L : Nat) : Int)) ∧ F10.whl L < 18446744073709551616 ∧ w' = w := by
  have hb := Lib.hid hn
  have hlen := Lib.hid h.len
  replace h := Lib.hid h
  replace hL := Lib.hid hL
  clear hn
  go_enter Tryd.func104, Tryd.ntmps104
  go_wp2
  go_loopw [3, 8] (fun tv iv wr => ∃ (i : Nat) (t : Nat), i ≤ n ∧ iv = .int .i64 i ∧ tv = .int .u64 (t : Int) ∧ wr = w ∧ t < 18446744073709551616 ∧ F10.whl L = (L.drop i).foldl (· ||| ·) t) (fun _ iv _ => n - (intOf iv).toNat)
  case atStart => exact ⟨0, 0, Nat.zero_le _, rfl, rfl, rfl, by omega, rfl⟩
  case round =>
    obtain ⟨i, t, hin, rfl, rfl, rfl, ht, hall⟩ := hrel
    by_cases hlt : i < n
    · obtain ⟨b, o, x, rfl, hx, hxm, e0⟩ := u_get h.out hlt
      have hih := Lib.hid hlt
      have g1 : (i : Int) < (n : Int) := by omega
      have g2 : (0 : Int) ≤ (i : Int) := by omega
      have h1 := u64_or_nat t x ht (hL.out x hxm)
      have h2 : Hid ((t ||| x) < 18446744073709551616) := Lib.hid (Nat.or_lt_two_pow (n := 64) ht (hL.out x hxm))
      have hal : Hid (F10.whl L = (L.drop (i + 1)).foldl (· ||| ·) (t ||| x)) := Lib.hid (by
        have hd : L.drop i = x :: L.drop (i + 1) := by
          rw [← List.getElem_cons_drop (show i < L.length by rw [hlen.out]; exact hlt)]
          congr 1
          have := List.getElem?_eq_some_iff.1 hx
          exact this.2
        rw [hall, hd]; rfl)
      clear hlt hin hxm hall hx ht
      have hlt := hih.out
      have hbb := hb.out
      go_wp2
      go_roundw
      case rel => exact ⟨i + 1, t ||| x, by omega, by go_num, by first | rfl | (rw [h1]), (by first | rfl | trivial), h2.out, hal.out⟩
      case measure => simp [intOf]; omega
    · obtain rfl : i = n := by omega
      have hfin : Hid (F10.whl L = t) := Lib.hid (by rw [hall, List.drop_eq_nil_of_le (by rw [hlen.out]; exact Nat.le_refl _)]; rfl)
      replace ht := Lib.hid ht
      clear hall hin hlt
      go_wp2
      go_ret
      rw [hfin.out]
      exact ⟨rfl, ht.out, rfl⟩
end Go.Proofs.YthbkdjbmkhmlnaaDoor
namespace Go.Proofs.YthbkdjbmkhmlnaaDoor
open Go.RowKit
set_option linter.unusedVariables false

set_option maxRecDepth 100000 in
set_option maxHeartbeats 4000000 in
theorem ugrow_any (n : Nat) (w : World) (hn : n ≤ 100000) : Calls Tryd.prog 110 #[.slice none 0 0, .int .i64 n] w fun e w' => ∃ v, e = .returned v ∧ Gro uC w w' [] [] 86 v [] := by
  rcases Nat.eq_zero_or_pos n with h0 | h0
  · subst h0
    have G := Lib.hid (Gro.nil_ uC (St.new w) 86)
    go_enter Tryd.func110, Tryd.ntmps110
    go_wp2
    go_ret
    exact ⟨_, rfl, G.out⟩
  · have hge := grownCap_ge w n 0 86
    have hle := grownCap_le_maxLen w n 0 86 (by unfold maxLen; omega)
    obtain ⟨cp, hcp⟩ : ∃ cp, cp = grownCap w n 0 86 := ⟨_, rfl⟩
    have hr := Lib.hid (fun rt => run_nil_zeros (P := Tryd.prog) w 55 3 rt 86 (.int .u64 0) 1 8 .i64 .i64 Tryd.underlying55 Tryd.underlying3 (by kernel_rfl) n h0 (by decide) (by omega))
    rw [← hcp] at hge hle hr
    obtain ⟨cur, hcur⟩ : ∃ cur, cur = Builtin.zeroCells (Value.int .u64 0).cells n ++ Builtin.zeroCells (Value.int .u64 0).cells (cp - n) := ⟨_, rfl⟩
    rw [← hcur] at hr
    have G : Hid (Gro uC w (w.drew.alloc (.cells cur 86)) [] [] 86 (.slice (some ⟨w.heap.size, 0, none⟩) 0 cp) []) := Lib.hid (by
      have hz : NoLl (Value.int .u64 0).cells.toList := (fun v hv z e => by simp [Value.cells] at hv; subst e; simp at hv)
      refine ⟨⟨rfl, NoLl.nil, .inr ⟨w.heap.size, cp, cur, rfl, Nat.zero_le _, hle, ?_, rfl, ?_⟩⟩, fun x hx => by cases hx⟩
      · rw [hcur, Array.size_append, size_zeroCells, size_zeroCells]
        show n * 1 + (cp - n) * 1 = cp * 1
        omega
      · refine (St.new w).drew.allocAt _ cur 86 ?_ rfl
        rw [hcur]
        have := ((NoLl.zeros hz n).app (NoLl.zeros hz (cp - n))).arr
        rwa [show ((Builtin.zeroCells (Value.int .u64 0).cells n).toList ++ (Builtin.zeroCells (Value.int .u64 0).cells (cp - n)).toList).toArray = Builtin.zeroCells (Value.int .u64 0).cells n ++ Builtin.zeroCells (Value.int .u64 0).cells (cp - n) from Array.ext' (by simp)] at this)
    have g1 : ¬ (n : Int) < 0 := by omega
    have g2 : (0 : Int) < (n : Int) := by omega
    have g3 : (0 : Int) ≤ (cp : Int) := by omega
    have hn5 : n ≤ 100000 := hn
    clear hn hge hle hcp hcur
    go_enter Tryd.func110, Tryd.ntmps110
    go_wp2_with (at_builtin; refine Lib.wpList_append_run w rfl (.tmp 20) (.tmp 21) 55 3 rfl (.slice none 0 0) (.int .i64 n) rfl rfl _ _ (hr.out _) ?_)
    clear hr
    go_wp2
    go_ret
    exact ⟨_, rfl, G.out⟩

/-- The lists, one behind the other. -/
def ucatL (Ls : List (Sl Nat)) (i : Nat) : List Nat := ((Ls.take i).map (fun l => l.L)).flatten
theorem ucat_succ {Ls : List (Sl Nat)} {i : Nat} {x : Sl Nat} (h : Ls[i]? = some x) : ucatL Ls (i + 1) = ucatL Ls i ++ x.L := by
  unfold ucatL
  rw [List.take_add_one, h]; simp
theorem ucat_le (Ls : List (Sl Nat)) (i : Nat) : (ucatL Ls i).length ≤ ((Ls.map (fun l => l.L)).flatten).length := by
  unfold ucatL
  have e : (Ls.map (fun l => l.L)).flatten = ((Ls.take i).map (fun l => l.L)).flatten ++ ((Ls.drop i).map (fun l => l.L)).flatten := by
    rw [← List.flatten_append, ← List.map_append, List.take_append_drop]
  rw [e, List.length_append]
  exact Nat.le_add_right _ _
set_option maxRecDepth 100000 in
set_option maxHeartbeats 4000000 in
theorem uconcat_any (Ls : List (Sl Nat)) (A : Option Addr) (n c : Nat) (w : World) (h : LR (slC uC) w A n Ls) (hn : n ≤ 100000) (hb : ((Ls.map (fun l => l.L)).flatten).length ≤ 100000) : Calls Tryd.prog 105 #[.slice A n c] w fun e w' => ∃ v, e = .returned v ∧ Gro uC w w' [] [] 86 v ((Ls.map (fun l => l.L)).flatten) := by
  have hlen := Lib.hid h.len
  have hfull : Hid (ucatL Ls n = (Ls.map (fun l => l.L)).flatten) := Lib.hid (by unfold ucatL; rw [List.take_of_length_le (by rw [h.len]; exact Nat.le_refl _)])
  have hle := Lib.hid (ucat_le Ls)
  have hG := Lib.hid (fun k (hk : k ≤ 100000) => ugrow_any k w hk)
  obtain ⟨T, hT⟩ : ∃ T, T = (Ls.map (fun l => l.L)).flatten := ⟨_, rfl⟩
  rw [← hT] at hfull hb ⊢
  rw [← hT] at hle
  replace hT := Lib.hid hT
  replace h := Lib.hid h
  have hbb := Lib.hid hb
  replace hn := Lib.hid hn
  clear hb
  go_enter Tryd.func105, Tryd.ntmps105
  go_wp2
  go_loopw [3, 11] (fun sv iv wr => ∃ i : Nat, i ≤ n ∧ iv = .int .i64 i ∧ sv = .int .i64 ((ucatL Ls i).length : Nat) ∧ wr = w) (fun _ iv _ => n - (intOf iv).toNat)
  case atStart => exact ⟨0, Nat.zero_le _, rfl, rfl, rfl⟩
  case round =>
    obtain ⟨i, hin, rfl, rfl, rfl⟩ := hrel
    have hs5 : (ucatL Ls i).length ≤ 100000 := Nat.le_trans (hle.out i) hbb.out
    by_cases hlt : i < n
    · obtain ⟨b, o, x, rfl, hx, _, hat, hcs⟩ := h.out.get hlt
      have e0 : wr.cell? ⟨b, o + i, none⟩ = some (.slice x.A x.L.length x.c) := by
        have := hcs 0 _ rfl
        rwa [show o + i * (slC uC).sz + 0 = o + i by show o + i * 1 + 0 = o + i; omega] at this
      have hsu := ucat_succ hx
      have hs6 : (ucatL Ls i).length + x.L.length ≤ 100000 := by
        have h1 := hle.out (i + 1)
        rw [hsu, List.length_append] at h1
        exact Nat.le_trans h1 hbb.out
      have hnx : Hid (((ucatL Ls i).length : Int) + (x.L.length : Int) = (((ucatL Ls (i + 1)).length : Nat) : Int)) := Lib.hid (by rw [hsu, List.length_append]; omega)
      have g1 : (i : Int) < (n : Int) := by omega
      have g2 : (0 : Int) ≤ (i : Int) := by omega
      have hih := Lib.hid hlt
      have hbn := hn.out
      clear hcs hat hx hsu hin
      generalize (ucatL Ls i).length = s0 at *
      generalize x.L.length = s1 at *
      have g3 : ¬ ((s0 : Int) + (s1 : Int) < 0) := by omega
      have g4 : (s0 : Int) + (s1 : Int) ≤ 100000 := by omega
      clear hlt
      have hlt := hih.out
      go_wp2
      go_roundw
      case rel => exact ⟨i + 1, by omega, by go_num, by rw [← hnx.out]; try go_num, (by first | rfl | trivial)⟩
      case measure => simp [intOf]; omega
    · obtain rfl : n = i := by omega
      have hf := hfull.out
      rw [hf] at hs5 ⊢
      have hGG := Lib.hid (hG.out _ hs5)
      have g1 : ¬ (n : Int) < (n : Int) := by omega
      clear hin hlt hf hG
      go_wp2_with fail
      refine hGG.out.mono ?_
      rintro e w1 ⟨v0, rfl, G⟩
      replace G := Lib.hid G
      clear hGG
      go_wp2
      go_loopw [6, 27] (fun av iv wr2 => ∃ i : Nat, i ≤ n ∧ iv = .int .i64 i ∧ Gro uC wr wr2 [] [] 86 av (ucatL Ls i)) (fun _ iv _ => n - (intOf iv).toNat)
      case atStart => exact ⟨0, Nat.zero_le _, rfl, G.out⟩
      case round =>
        clear G
        obtain ⟨i, hin, rfl, G⟩ := hrel
        by_cases hlt : i < n
        · have hW := h.out.bel G.st.bel
          obtain ⟨b, o, x, rfl, hx, _, hat, hcs⟩ := hW.get hlt
          have e0 : wr.cell? ⟨b, o + i, none⟩ = some (.slice x.A x.L.length x.c) := by
            have := hcs 0 _ rfl
            rwa [show o + i * (slC uC).sz + 0 = o + i by show o + i * 1 + 0 = o + i; omega] at this
          have hsu := ucat_succ hx
          have hs6 : Hid ((ucatL Ls i).length + x.L.length ≤ 100000) := Lib.hid (by
            have h1 := hle.out (i + 1)
            rw [hsu, List.length_append] at h1
            exact Nat.le_trans h1 hbb.out)
          have hat1 := Lib.hid hat.1
          replace hsu := Lib.hid hsu
          have g1 : (i : Int) < (n : Int) := by omega
          have g2 : (0 : Int) ≤ (i : Int) := by omega
          have hih := Lib.hid hlt
          have hbn := hn.out
          replace G := Lib.hid G
          clear hcs hat hx hin hlt hW
          go_wp2_with (at_builtin; refine Gro.wpm rfl (.tmp 31) (.tmp 32) 55 rfl (.int .u64 0) 8 Tryd.underlying55 (by kernel_rfl) rfl (fun v hv z e => by simp [Value.cells] at hv; subst e; simp at hv) rfl G.out x.L x.A x.c rfl hat1.out (fun y _ => trivial) (by have := hs6.out; omega) (by have := hs6.out; unfold maxLen; omega) ?_)
          intro av1 w6 G2
          rw [← hsu.out] at G2
          replace G2 := Lib.hid G2
          clear G hat1 hs6 hsu e0
          have hlt := hih.out
          go_wp2
          go_roundw
          case rel => exact ⟨i + 1, by omega, by go_num, G2.out⟩
          case measure => simp [intOf]; omega
        · obtain rfl : n = i := by omega
          have hf := hfull.out
          rw [hf] at G
          replace G := Lib.hid G
          have g1 : ¬ (n : Int) < (n : Int) := by omega
          clear hin hlt hf
          go_wp2
          go_ret
          exact ⟨_, rfl, G.out⟩

end Go.Proofs.YthbkdjbmkhmlnaaDoor
namespace Go.Proofs.YthbkdjbmkhmlnaaDoor
open Go.RowKit
set_option linter.unusedVariables false

theorem St.rebase {w w1 W : World} {bs : List GBk} {rs : List GRd} (h : Below w.heap.size w w1) (S : St w1 W bs rs) : St w W bs rs :=
  ⟨h.trans (S.bel.mono h.size), fun p hp => ⟨(S.bk p hp).1, (S.bk p hp).2.1, Nat.le_trans h.size (S.bk p hp).2.2⟩, S.nd, S.rd⟩
section
variable {α : Type} {C : Cod α} {w w1 W : World} {A : Option Addr} {n c e g t : Nat} {L : List α} {bs : List GBk} {rs : List GRd} {v : Value}
theorem Gro.rebase (h : Below w.heap.size w w1) (G : Gro C w1 W bs rs e v L) (hx : ∀ x ∈ L, C.In w bs rs x) : Gro C w W bs rs e v L := by
  obtain ⟨ob, h1, h2⟩ := G.1.open_
  exact ⟨Apd.close h1 (St.rebase h h2), hx⟩
theorem St_glr (h : St w W ((g, (C.all L).toArray, t) :: bs) rs) (n : Nat) (hn : L.length = n) (hx : ∀ x ∈ L, C.At W x) : LR C W (some ⟨g, 0, none⟩) n L := by
  subst hn
  refine ⟨rfl, .inr ⟨g, 0, rfl, (h.bk _ List.mem_cons_self).1.lt, fun i x hi k v hv => ?_⟩, hx⟩
  rw [Nat.zero_add]
  exact (h.bk _ List.mem_cons_self).1.cell (by rw [List.getElem?_toArray]; exact all_get (i := i) C hi k v hv)
/-- A slice of the call's own: where it lies, how long it may be. -/
theorem Gro.lrc (h : Gro C w W bs rs e v L) : ∃ A c, v = .slice A L.length c ∧ LR C W A L.length L ∧ L.length ≤ c := by
  obtain ⟨A, c, hv, hl⟩ := h.lr
  subst hv
  exact ⟨A, c, rfl, hl, h.lenc.2.1⟩
end
theorem drop_cons_of {α : Type} {L : List α} {i : Nat} {x : α} (h : L[i]? = some x) : L.drop i = x :: L.drop (i + 1) := by
  obtain ⟨h1, h2⟩ := List.getElem?_eq_some_iff.1 h
  rw [← List.getElem_cons_drop h1, h2]
theorem take_snoc_of {α : Type} {L : List α} {i : Nat} {x : α} (h : L[i]? = some x) : L.take (i + 1) = L.take i ++ [x] := by
  rw [List.take_add_one, h]; rfl
theorem pls_len : ∀ (b a : List Nat), (F10.pls a b).length ≤ a.length + b.length
  | [], a => by simp [F10.pls]
  | t :: b, a => by
    show (F10.pls (if t ∈ a then a else a ++ [t]) b).length ≤ _
    refine Nat.le_trans (pls_len b _) ?_
    split <;> simp <;> omega
theorem pls_snoc (a b : List Nat) (x : Nat) : F10.pls a (b ++ [x]) = if x ∈ F10.pls a b then F10.pls a b else F10.pls a b ++ [x] := by
  rw [F10.pls_app]; rfl

set_option maxRecDepth 100000 in
set_option maxHeartbeats 4000000 in
theorem together_any (Ls : List (Sl Nat)) (A : Option Addr) (n c : Nat) (w : World) (h : LR (slC uC) w A n Ls) (hn : n ≤ 100000) (hb : ((Ls.map (fun l => l.L)).flatten).length ≤ 50000) : Calls Tryd.prog 86 #[.slice A n c] w fun e w' => ∃ v, e = .returned v ∧ Gro uC w w' [] [] 86 v (F10.pls [] ((Ls.map (fun l => l.L)).flatten)) := by
  have hC := Lib.hid (uconcat_any Ls A n c w h hn (by omega))
  have hS0 := Lib.hid (St.new w)
  generalize (Ls.map (fun l => l.L)).flatten = T at *
  clear h hn
  go_enter Tryd.func86, Tryd.ntmps86
  go_wp2_with fail
  refine hC.out.mono ?_
  rintro e w1 ⟨v0, rfl, G0⟩
  clear hC
  obtain ⟨A0, c0, rfl, hl0, hc0⟩ := G0.lrc
  have hbel := Lib.hid G0.st.bel
  have hk : Hid (T.length ≤ 50000) := Lib.hid hb
  obtain ⟨k, hkk⟩ : ∃ k, k = T.length := ⟨_, rfl⟩
  rw [← hkk] at hl0
  rw [← hkk]
  have hb5 : k ≤ 50000 := by rw [hkk]; exact hb
  replace hkk := Lib.hid hkk
  replace hl0 := Lib.hid hl0
  replace hb5 := Lib.hid hb5
  clear G0 hc0 hb
  go_wp2
  go_loopw [3, 9] (fun av iv wr => ∃ i : Nat, i ≤ k ∧ iv = .int .i64 i ∧ Gro uC w1 wr [] [] 86 av (F10.pls [] (T.take i))) (fun _ iv _ => k - (intOf iv).toNat)
  case atStart => exact ⟨0, Nat.zero_le _, rfl, Gro.nil_ _ (St.new w1) _⟩
  case round =>
    obtain ⟨i, hin, rfl, G⟩ := hrel
    by_cases hlt : i < k
    · obtain ⟨b, o, x, rfl, hx, hxm, e0⟩ := u_get (hl0.out.bel G.st.bel) hlt
      obtain ⟨A1, c1, rfl, hl1, hc1⟩ := G.lrc
      have hle := pls_len (T.take i) []
      have hsn := pls_snoc [] (T.take i) x
      rw [← take_snoc_of hx] at hsn
      have hlm : (F10.pls [] (T.take i)).length ≤ 50000 := by
        rw [List.length_take] at hle
        have := hb5.out
        simp at hle; omega
      have hQ := Lib.hid (containsT_any _ A1 _ c1 x wr hl1 (by omega))
      have hih := Lib.hid hlt
      have g1 : (i : Int) < (k : Int) := by omega
      have g2 : (0 : Int) ≤ (i : Int) := by omega
      replace hsn := Lib.hid hsn
      have hlmh := Lib.hid hlm
      replace G := Lib.hid G
      clear hlt hin hx hxm hl1 hc1 hle hlm
      generalize F10.pls [] (T.take i) = M at *
      go_wp2_with fail
      refine hQ.out.mono ?_
      rintro e wr ⟨rfl, rfl⟩
      clear hQ e0
      cases hv : M.contains x
      · have hnm : ¬ x ∈ M := fun hm => by rw [show M.contains x = true from List.elem_eq_true_of_mem hm] at hv; cases hv
        have hnew : Hid (F10.pls [] (T.take (i + 1)) = M ++ [x]) := Lib.hid (by rw [hsn.out, if_neg hnm])
        have GA := Lib.hid (G.out.alloc #[.int .u64 (x : Int)] 86 (noLof rfl))
        clear G hsn hv hnm
        go_wp2_with (at_builtin; refine Gro.wp2 rfl (.tmp 17) (.tmp 19) 55 rfl (.int .u64 0) 8 Tryd.underlying55 (by kernel_rfl) rfl (fun v hv z e => by simp [Value.cells] at hv; subst e; simp at hv) rfl GA.out wr.heap.size x rfl (GA.out.st.cb 0 rfl) trivial (by have := hlmh.out; omega) (by have := hlmh.out; unfold maxLen; omega) ?_)
        intro av1 w6 G2 hmk
        replace G2 := Lib.hid (G2.sub (fun _ _ => trivial))
        rw [← hnew.out] at G2
        clear GA hmk hnew
        have hlt := hih.out
        have hbb := hb5.out
        go_wp2
        go_roundw
        case rel => exact ⟨i + 1, by omega, by go_num, G2.out⟩
        case measure => simp [intOf]; omega
      · have hnm : x ∈ M := List.mem_of_elem_eq_true hv
        have hnew : Hid (F10.pls [] (T.take (i + 1)) = M) := Lib.hid (by rw [hsn.out, if_pos hnm])
        clear hsn hv hnm
        have hlt := hih.out
        have hbb := hb5.out
        go_wp2
        go_roundw
        case rel => exact ⟨i + 1, by omega, by go_num, by rw [hnew.out]; exact G.out⟩
        case measure => simp [intOf]; omega
    · obtain rfl : i = k := by omega
      have hfin : Hid (F10.pls [] (T.take i) = F10.pls [] T) := Lib.hid (by rw [List.take_of_length_le (by rw [← hkk.out]; exact Nat.le_refl _)])
      rw [hfin.out] at G
      have GF := Lib.hid (G.rebase hbel.out (fun _ _ => trivial))
      clear G hlt hin hl0
      go_wp2
      go_ret
      exact ⟨_, rfl, GF.out⟩
end Go.Proofs.YthbkdjbmkhmlnaaDoor
namespace Go.Proofs.YthbkdjbmkhmlnaaDoor
open Go.RowKit
set_option linter.unusedVariables false

theorem prods_take {a b : List Nat} {i x : Nat} (h : a[i]? = some x) : F10.prods (a.take (i + 1)) b = F10.prods (a.take i) b ++ b.map (x ||| ·) := by
  unfold F10.prods
  rw [take_snoc_of h, List.flatMap_append]
  simp
theorem prods_len (a b : List Nat) : (F10.prods a b).length = a.length * b.length := by
  unfold F10.prods
  induction a with
  | nil => simp
  | cons x a ih => rw [List.flatMap_cons, List.length_append, ih, List.length_map, List.length_cons, Nat.add_mul, Nat.one_mul, Nat.add_comm]
theorem lr_one {w W : World} {g t : Nat} {bs : List GBk} {rs : List GRd} {l : Sl Nat} (S : St w W ((g, #[l.v], t) :: bs) rs) (h : LR uC W l.A l.L.length l.L) (hc : l.L.length ≤ l.c) : LR (slC uC) W (some ⟨g, 0, none⟩) 1 [l] :=
  St_glr (C := slC uC) (L := [l]) S 1 rfl (fun x hx => by rw [List.mem_singleton.1 hx]; exact ⟨h, hc⟩)
theorem lr_two {w W : World} {g t : Nat} {bs : List GBk} {rs : List GRd} {l m : Sl Nat} (S : St w W ((g, #[l.v, m.v], t) :: bs) rs) (h : LR uC W l.A l.L.length l.L) (hc : l.L.length ≤ l.c) (h2 : LR uC W m.A m.L.length m.L) (hc2 : m.L.length ≤ m.c) : LR (slC uC) W (some ⟨g, 0, none⟩) 2 [l, m] :=
  St_glr (C := slC uC) (L := [l, m]) S 2 rfl (fun x hx => by
    rcases List.mem_cons.1 hx with rfl | hx
    · exact ⟨h, hc⟩
    · rw [List.mem_singleton.1 hx]; exact ⟨h2, hc2⟩)
theorem lr_three {w W : World} {g t : Nat} {bs : List GBk} {rs : List GRd} {l m o : Sl Nat} (S : St w W ((g, #[l.v, m.v, o.v], t) :: bs) rs) (h : LR uC W l.A l.L.length l.L) (hc : l.L.length ≤ l.c) (h2 : LR uC W m.A m.L.length m.L) (hc2 : m.L.length ≤ m.c) (h3 : LR uC W o.A o.L.length o.L) (hc3 : o.L.length ≤ o.c) : LR (slC uC) W (some ⟨g, 0, none⟩) 3 [l, m, o] :=
  St_glr (C := slC uC) (L := [l, m, o]) S 3 rfl (fun x hx => by
    rcases List.mem_cons.1 hx with rfl | hx
    · exact ⟨h, hc⟩
    · rcases List.mem_cons.1 hx with rfl | hx
      · exact ⟨h2, hc2⟩
      · rw [List.mem_singleton.1 hx]; exact ⟨h3, hc3⟩)

set_option maxRecDepth 100000 in
set_option maxHeartbeats 4000000 in
theorem crossed_any (a b : List Nat) (A : Option Addr) (n c : Nat) (B : Option Addr) (m d : Nat) (w : World) (h : LR uC w A n a) (hB : LR uC w B m b) (hn : n ≤ 200) (hm : m ≤ 200) (ha : U64 a) (hb : U64 b) : Calls Tryd.prog 103 #[.slice A n c, .slice B m d] w fun e w' => ∃ v, e = .returned v ∧ Gro uC w w' [] [] 86 v (F10.crs a b) := by
  have hlen := Lib.hid h.len
  have hlem := Lib.hid hB.len
  have hS0 := Lib.hid (St.new w)
  replace h := Lib.hid h
  replace hB := Lib.hid hB
  have hnn := Lib.hid hn
  have hmm := Lib.hid hm
  replace ha := Lib.hid ha
  replace hb := Lib.hid hb
  have hpl : Hid (∀ i, (F10.prods (a.take i) b).length ≤ 40000) := Lib.hid fun i => by
    rw [prods_len, List.length_take, hlem.out]
    exact Nat.le_trans (Nat.mul_le_mul (Nat.le_trans (Nat.min_le_right _ _) (by rw [hlen.out]; exact hn)) hm) (by decide)
  clear hn hm
  go_enter Tryd.func103, Tryd.ntmps103
  go_wp2
  go_loopw [5, 12] (fun av iv wr => ∃ i : Nat, i ≤ n ∧ iv = .int .i64 i ∧ Gro uC w wr [] [] 86 av (F10.prods (a.take i) b)) (fun _ iv _ => n - (intOf iv).toNat)
  case atStart => exact ⟨0, Nat.zero_le _, rfl, Gro.nil_ _ (St.new w) _⟩
  case round =>
    obtain ⟨i, hin, rfl, G⟩ := hrel
    by_cases hlt : i < n
    · obtain ⟨q, o, x, rfl, hx, hxm, e0⟩ := u_get (h.out.bel G.st.bel) hlt
      have hih := Lib.hid hlt
      have g1 : (i : Int) < (n : Int) := by omega
      have g2 : (0 : Int) ≤ (i : Int) := by omega
      have hx64 := Lib.hid (ha.out x hxm)
      have hpt := Lib.hid (prods_take (b := b) hx)
      have hpli := Lib.hid (hpl.out i)
      replace G := Lib.hid G
      clear hlt hin hx hxm
      go_wp2
      clear e0
      go_loopw [5, 18] (fun av iv wr => ∃ k : Nat, k ≤ m ∧ iv = .int .i64 k ∧ Gro uC w wr [] [] 86 av (F10.prods (a.take i) b ++ (b.take k).map (x ||| ·))) (fun _ iv _ => m - (intOf iv).toNat)
      case atStart => exact ⟨0, Nat.zero_le _, rfl, by rw [List.take_zero, List.map_nil, List.append_nil]; exact G.out⟩
      case round =>
        clear G
        obtain ⟨k, hkm, rfl, G⟩ := hrel
        by_cases hkt : k < m
        · obtain ⟨q2, o2, y, rfl, hy, hym, y0⟩ := u_get (hB.out.bel G.st.bel) hkt
          have hkh := Lib.hid hkt
          have k1 : (k : Int) < (m : Int) := by omega
          have k2 : (0 : Int) ≤ (k : Int) := by omega
          have hor := u64_or_nat x y hx64.out (hb.out y hym)
          have hnew : Hid (F10.prods (a.take i) b ++ (b.take (k + 1)).map (x ||| ·) = (F10.prods (a.take i) b ++ (b.take k).map (x ||| ·)) ++ [x ||| y]) := Lib.hid (by rw [take_snoc_of hy]; simp)
          have hll : Hid ((F10.prods (a.take i) b ++ (b.take k).map (x ||| ·)).length ≤ 40200) := Lib.hid (by
            rw [List.length_append, List.length_map, List.length_take]
            have := hpli.out
            have := hmm.out
            omega)
          have GA := Lib.hid (G.alloc #[.int .u64 ((x ||| y : Nat) : Int)] 86 (noLof rfl))
          clear hkt hkm hy hym G
          generalize (F10.prods (a.take i) b ++ (b.take k).map (x ||| ·)) = M at *
          go_wp2_with (at_builtin; refine Gro.wp2 (y := x ||| y) rfl (.tmp 22) (.tmp 26) 55 rfl (.int .u64 0) 8 Tryd.underlying55 (by kernel_rfl) rfl (fun v hv z e => by simp [Value.cells] at hv; subst e; simp at hv) rfl GA.out wr.heap.size rfl (GA.out.st.cb 0 rfl) trivial (by have := hll.out; omega) (by have := hll.out; unfold maxLen; omega) ?_)
          intro av1 w6 G2 hmk
          replace G2 := Lib.hid (G2.sub (fun _ _ => trivial))
          rw [← hnew.out] at G2
          clear GA hmk hnew hll hor y0
          have hkt := hkh.out
          have hbb := hmm.out
          go_wp2
          go_roundw
          case rel => exact ⟨k + 1, by omega, by go_num, G2.out⟩
          case measure => simp [intOf]; omega
        · obtain rfl : k = m := by omega
          have hfin : F10.prods (a.take i) b ++ (b.take k).map (x ||| ·) = F10.prods (a.take (i + 1)) b := by
            rw [hpt.out, List.take_of_length_le (l := b) (by rw [hlem.out]; exact Nat.le_refl _)]
          rw [hfin] at G
          replace G := Lib.hid G
          clear hkt hkm hfin
          have hlt := hih.out
          have hbb := hnn.out
          go_wp2
          go_roundw
          case rel => exact ⟨i + 1, by omega, by go_num, G.out⟩
          case measure => simp [intOf]; omega
    · obtain rfl : i = n := by omega
      have hfin : F10.prods (a.take i) b = F10.prods a b := by rw [List.take_of_length_le (by rw [hlen.out]; exact Nat.le_refl _)]
      have hle : (F10.prods a b).length ≤ 40000 := by rw [← hfin]; exact hpl.out i
      rw [hfin] at G
      obtain ⟨A1, c1, rfl, hl1, hc1⟩ := G.lrc
      have GA := Lib.hid ((St.new wr).allocAt wr.heap.size #[(⟨A1, c1, F10.prods a b⟩ : Sl Nat).v] 55 (noLof rfl) rfl)
      have hT := Lib.hid (together_any [⟨A1, c1, F10.prods a b⟩] (some ⟨wr.heap.size, 0, none⟩) 1 1 _ (lr_one GA.out (hl1.bel GA.out.bel) hc1) (by omega) (by simp; omega))
      have hbel := Lib.hid (G.st.bel.trans (GA.out.bel.mono G.st.bel.size))
      have hcr : Hid (F10.crs a b = F10.pls [] ((([⟨A1, c1, F10.prods a b⟩] : List (Sl Nat)).map (fun l => l.L)).flatten)) := Lib.hid (by simp [F10.crs])
      clear hlt hin hfin hle G hl1 hc1
      go_wp2_with fail
      refine hT.out.mono ?_
      rintro e w6 ⟨v6, rfl, G6⟩
      rw [← hcr.out] at G6
      have GF := Lib.hid (G6.rebase hbel.out (fun _ _ => trivial))
      clear G6 hT GA
      go_wp2
      go_ret
      exact ⟨_, rfl, GF.out⟩
end Go.Proofs.YthbkdjbmkhmlnaaDoor
namespace Go.Proofs.YthbkdjbmkhmlnaaDoor
open Go.RowKit
set_option linter.unusedVariables false

theorem u_all (L : List Nat) : uC.all L = L.map (fun t : Nat => Value.int .u64 (t : Int)) := by
  unfold Cod.all
  induction L with
  | nil => rfl
  | cons x l ih => rw [List.flatMap_cons, ih]; rfl
/-- A list of terms in a block of the call's own, at its beginning. -/
def Bl (w W : World) (g : Nat) (cp : Nat) (L : List Nat) (bs : List GBk) : Prop := ∃ R : List Value, L.length + R.length = cp ∧ cp ≤ maxLen ∧ NoLl R ∧ St w W ((g, (uC.all L ++ R).toArray, 86) :: bs) []
section
variable {w W W' : World} {g cp : Nat} {L : List Nat} {bs : List GBk}
theorem Bl.of {n : Nat} (G : Gro uC w W bs [] 86 (.slice (some ⟨g, 0, none⟩) n cp) L) (hn : L.length = n) : Bl w W g cp L bs := by
  subst hn
  obtain ⟨⟨h1, h2, ⟨hv, _, _⟩ | ⟨g', cap, cur, hv, h3, h4, h5, h6, S⟩⟩, _⟩ := G
  · injection hv with h; cases h
  · injection hv with ha _ hc
    injection ha with ha
    injection ha with ha
    subst ha hc
    have e : cur = (uC.all L ++ cur.toList.drop L.length).toArray := by
      apply Array.ext'
      rw [List.toList_toArray, ← h6]
      show cur.toList = cur.toList.take (L.length * 1) ++ _
      rw [Nat.mul_one, List.take_append_drop]
    refine ⟨cur.toList.drop L.length, ?_, h4, ?_, by rw [← e]; exact S⟩
    · have h8 : cur.toList.length = cp * 1 := by rw [Array.length_toList, h5]; rfl
      rw [List.length_drop, h8]
      omega
    · exact ((S.bk _ List.mem_cons_self).2.1).lst.drop _
theorem Bl.gro (h : Bl w W g cp L bs) : Gro uC w W bs [] 86 (.slice (some ⟨g, 0, none⟩) L.length cp) L := by
  obtain ⟨R, h1, h2, h3, S⟩ := h
  refine ⟨⟨all_len _ _, all_noL _ _, .inr ⟨g, cp, _, rfl, by omega, h2, ?_, ?_, S⟩⟩, fun _ _ => trivial⟩
  · rw [List.size_toArray, List.length_append, all_len]
    show L.length * 1 + R.length = cp * 1
    omega
  · rw [List.toList_toArray]
    exact List.take_left' (all_len _ _)
theorem Bl.call (h : Bl w W g cp L bs) (hb : Below W.heap.size W W') : Bl w W' g cp L bs := by
  obtain ⟨R, h1, h2, h3, S⟩ := h
  exact ⟨R, h1, h2, h3, S.call hb⟩
theorem Bl.lr (h : Bl w W g cp L bs) : LR uC W (some ⟨g, 0, none⟩) L.length L := h.gro.lenc.1
theorem Bl.bel (h : Bl w W g cp L bs) : Below w.heap.size w W := h.gro.st.bel
theorem u_at {L : List Nat} {R : List Value} {i : Nat} (hi : i < L.length) : (uC.all L ++ R)[i]? = some (.int .u64 ((L[i] : Nat) : Int)) := by
  rw [List.getElem?_append_left (by rw [u_all, List.length_map]; exact hi), u_all, List.getElem?_map, List.getElem?_eq_getElem hi]
  rfl
theorem Bl.cl (h : Bl w W g cp L bs) {i x : Nat} (hx : L[i]? = some x) : W.cell? ⟨g, i, none⟩ = some (.int .u64 (x : Int)) ∧ W.frozen? ⟨g, i, none⟩ = false := by
  obtain ⟨R, h1, h2, h3, S⟩ := h
  obtain ⟨hi, he⟩ := List.getElem?_eq_some_iff.1 hx
  have hc := (S.bk _ List.mem_cons_self).1
  refine ⟨?_, hc.frozen i⟩
  have := u_at (R := R) hi
  rw [he] at this
  exact hc.cell (by rw [List.getElem?_toArray]; exact this)
theorem Bl.set (h : Bl w W g cp L bs) {i : Nat} (x : Nat) (hi : i < L.length) : Bl w (W.setCell ⟨g, i, none⟩ (.int .u64 (x : Int))) g cp (L.set i x) bs := by
  obtain ⟨R, h1, h2, h3, S⟩ := h
  refine ⟨R, by rw [List.length_set]; exact h1, h2, h3, ?_⟩
  have := S.set 0 i (.int .u64 (x : Int)) rfl (fun z e => by cases e)
  have e : ((uC.all L ++ R).toArray.setIfInBounds i (.int .u64 (x : Int))) = (uC.all (L.set i x) ++ R).toArray := by
    rw [u_all, u_all, List.setIfInBounds_toArray, List.map_set, List.set_append_left _ _ (by rw [List.length_map]; exact hi)]
  rw [← e]
  exact this
theorem Bl.drew (h : Bl w W g cp L bs) : Bl w W.drew g cp L bs := by
  obtain ⟨R, h1, h2, h3, S⟩ := h
  exact ⟨R, h1, h2, h3, S.drew⟩
theorem St.setCells {cs : Array Value} {t : Nat} {rs : List GRd} (g : Nat) : ∀ (vs : List Value) (o : Nat) {W : World} {cs : Array Value}, NoLl vs → St w W ((g, cs, t) :: bs) rs → ∃ cs', St w (W.setCells g o vs) ((g, cs', t) :: bs) rs ∧ cs'.size = cs.size ∧ ∀ i, i < o → cs'[i]? = cs[i]?
  | [], o, W, cs, _, S => ⟨cs, S, rfl, fun _ _ => rfl⟩
  | v :: vs, o, W, cs, hn, S => by
    obtain ⟨cs', h1, h2, h3⟩ := St.setCells (cs := cs) g vs (o + 1) (fun u hu => hn u (List.mem_cons_of_mem _ hu)) (S.set 0 o v rfl (hn v List.mem_cons_self))
    refine ⟨cs', h1, by rw [h2, Array.size_setIfInBounds], fun i hi => ?_⟩
    rw [h3 i (by omega), Array.getElem?_setIfInBounds_ne (by omega)]
/-- What stands behind is struck; what stands ahead is left. -/
theorem Bl.cut (h : Bl w W g cp L bs) {i : Nat} (hi : i < L.length) (k : Nat) : Gro uC w (W.setCells g i (List.replicate k (.int .u64 0))) bs [] 86 (.slice (some ⟨g, 0, none⟩) i cp) (L.take i) := by
  obtain ⟨R, h1, h2, h3, S⟩ := h
  obtain ⟨cs', S', hs, hp⟩ := St.setCells (cs := #[]) g (List.replicate k (.int .u64 0)) i (fun v hv z e => by rw [List.eq_of_mem_replicate hv] at e; cases e) S
  have hl : (L.take i).length = i := by rw [List.length_take]; omega
  refine ⟨⟨all_len _ _, all_noL _ _, .inr ⟨g, cp, cs', by rw [hl], by rw [hl]; omega, h2, ?_, ?_, S'⟩⟩, fun _ _ => trivial⟩
  · rw [hs, List.size_toArray, List.length_append, all_len]
    show L.length * 1 + R.length = cp * 1
    omega
  · show cs'.toList.take ((L.take i).length * 1) = _
    rw [hl, Nat.mul_one, u_all]
    apply List.ext_getElem?
    intro j
    rw [List.getElem?_take]
    by_cases hj : j < i
    · rw [if_pos hj, Array.getElem?_toList, hp j hj, List.getElem?_toArray, u_at (by omega : j < L.length), List.getElem?_map, List.getElem?_take, if_pos hj, List.getElem?_eq_getElem (by omega)]
      rfl
    · rw [if_neg hj, List.getElem?_eq_none (by rw [List.length_map, hl]; omega)]
end
set_option maxRecDepth 100000 in
set_option maxHeartbeats 4000000 in
theorem cloneT_any (L : List Nat) (A : Option Addr) (n c : Nat) (w : World) (h : LR uC w A n L) (hn : n ≤ 50000) (hc : n ≤ c) : Calls Tryd.prog 90 #[.slice A n c] w fun e w' => ∃ v, e = .returned v ∧ Gro uC w w' [] [] 86 v L := by
  cases A with
  | none =>
    have h0 : L = [] := by
      rcases h.mem with h0 | ⟨b, o, hA, _⟩
      · exact List.length_eq_zero_iff.1 (by rw [h.len]; exact h0)
      · cases hA
    subst h0
    obtain rfl : 0 = n := h.len
    have he := Lib.run_eql_slice_nil (P := Tryd.prog) w 55 86 none 0 c 0 0 Tryd.underlying55
    have G := Lib.hid (Gro.nil_ uC (St.new w) 86)
    clear h hn hc
    go_enter Tryd.func90, Tryd.ntmps90
    go_wp2
    go_ret
    exact ⟨_, rfl, G.out⟩
  | some a =>
    have hl := h.len
    subst hl
    have S0 := (St.new w).alloc #[] 86 (fun i z e => by simp at e)
    have G0 := Lib.hid (show Gro uC w (w.alloc (.cells #[] 86)) [] [] 86 (.slice (some ⟨w.heap.size, 0, none⟩) 0 0) [] from ⟨⟨rfl, NoLl.nil, .inr ⟨_, 0, #[], rfl, Nat.le_refl _, Nat.zero_le _, rfl, rfl, S0⟩⟩, fun _ _ => trivial⟩)
    have hb := Lib.hid (h.bel S0.bel)
    have hnn := Lib.hid hn
    have he := Lib.run_eql_slice_nil (P := Tryd.prog) w 55 86 (some a) L.length c 0 0 Tryd.underlying55
    clear h hn S0
    go_enter Tryd.func90, Tryd.ntmps90
    go_wp2_with (at_builtin; refine Gro.wpm rfl (.tmp 5) (.tmp 6) 55 rfl (.int .u64 0) 8 Tryd.underlying55 (by kernel_rfl) rfl (fun v hv z e => by simp [Value.cells] at hv; subst e; simp at hv) rfl G0.out L _ _ rfl hb.out (fun y _ => trivial) (by have := hnn.out; simp; omega) (by have := hnn.out; unfold maxLen; simp; omega) ?_)
    intro av1 w6 G2
    replace G2 := Lib.hid G2
    clear G0 hb
    go_wp2
    go_ret
    exact ⟨_, rfl, G2.out⟩
end Go.Proofs.YthbkdjbmkhmlnaaDoor
namespace Go.Proofs.YthbkdjbmkhmlnaaDoor
open Go.RowKit
set_option linter.unusedVariables false

/-- What IndexFunc leaves. -/
def IxF {α : Type} (L : List α) (p : α → Bool) (z : Int) : Prop := (z = -1 ∧ ∀ r ∈ L, p r = false) ∨ ∃ (i : Nat) (r : α), z = i ∧ L[i]? = some r ∧ p r = true ∧ ∀ j s, j < i → L[j]? = some s → p s = false
theorem IxF.any_ {α : Type} {L : List α} {p : α → Bool} {z : Int} (h : IxF L p z) : L.any p = decide (0 ≤ z) := by
  rcases h with ⟨rfl, h⟩ | ⟨i, r, rfl, hr, hp, _⟩
  · have : L.any p = false := List.any_eq_false.2 fun x hx => by rw [h x hx]; simp
    rw [this]; rfl
  · rw [List.any_eq_true.2 ⟨r, List.mem_of_getElem? hr, hp⟩]
    exact (decide_eq_true (by omega)).symm

set_option maxRecDepth 100000 in
set_option maxHeartbeats 4000000 in
theorem ixW_any (L : List Nat) (A : Option Addr) (n c : Nat) (q : Nat) (pp : Nat → Bool) (w : World) (h : LR uC w A n L) (hn : n ≤ 100000) (hP : ∀ x ∈ L, Calls Tryd.prog 91 #[.int .u64 (x : Int), .pointer (some ⟨q, 0, none⟩)] w fun e w' => e = .returned (.bool (pp x)) ∧ w' = w) :
    Calls Tryd.prog 106 #[.slice A n c, .func (.func 91) #[] #[.pointer (some ⟨q, 0, none⟩)]] w fun e w' => (∃ z, e = .returned (.int .i64 z) ∧ IxF L pp z) ∧ w' = w := by
  have hb := Lib.hid hn
  have hlen := Lib.hid h.len
  replace h := Lib.hid h
  have hPh := Lib.hid hP
  clear hn hP
  go_enter Tryd.func106, Tryd.ntmps106
  go_wp2
  go_loopw [8] (fun iv wr => ∃ i : Nat, i ≤ n ∧ iv = .int .i64 i ∧ wr = w ∧ (∀ j s, j < i → L[j]? = some s → pp s = false)) (fun iv _ => n - (intOf iv).toNat)
  case atStart => exact ⟨0, Nat.zero_le _, rfl, rfl, fun j s h0 => absurd h0 (Nat.not_lt_zero _)⟩
  case round =>
    obtain ⟨i, hin, rfl, rfl, hall⟩ := hrel
    by_cases hlt : i < n
    · obtain ⟨b, o, x, rfl, hx, hxm, e0⟩ := u_get h.out hlt
      have hPx := Lib.hid (hPh.out x hxm)
      have hih := Lib.hid hlt
      have g1 : (i : Int) < (n : Int) := by omega
      have g2 : (0 : Int) ≤ (i : Int) := by omega
      replace hall := Lib.hid hall
      replace hx := Lib.hid hx
      clear hlt hin hxm
      cases hv : pp x with
      | false =>
        rw [hv] at hPx
        replace hv := Lib.hid hv
        go_wp2_with fail
        refine hPx.out.mono ?_
        rintro e wr ⟨rfl, rfl⟩
        clear hPx e0
        have hlt := hih.out
        have hbb := hb.out
        go_wp2
        go_roundw
        case rel => exact ⟨i + 1, by omega, by go_num, (by first | rfl | trivial), fun j' s h1 h2 => (by rcases Nat.lt_or_ge j' i with h3 | h3; exact hall.out j' s h3 h2; obtain rfl : j' = i := (by omega); rw [hx.out] at h2; injection h2 with h2; subst h2; exact hv.out)⟩
        case measure => simp [intOf]; omega
      | true =>
        rw [hv] at hPx
        replace hv := Lib.hid hv
        go_wp2_with fail
        refine hPx.out.mono ?_
        rintro e wr ⟨rfl, rfl⟩
        clear hPx e0
        go_wp2
        go_ret
        exact ⟨⟨_, rfl, .inr ⟨i, x, rfl, hx.out, hv.out, hall.out⟩⟩, rfl⟩
    · obtain rfl : i = n := by omega
      have hfin : Hid (∀ r ∈ L, pp r = false) := Lib.hid fun r hr => by
        obtain ⟨k, hk⟩ := List.getElem?_of_mem hr
        exact hall k r (by rw [← hlen.out]; exact (List.getElem?_eq_some_iff.1 hk).1) hk
      clear hall hin hlt
      go_wp2
      go_ret
      exact ⟨⟨-1, rfl, .inl ⟨rfl, hfin.out⟩⟩, rfl⟩

set_option maxRecDepth 100000 in
set_option maxHeartbeats 4000000 in
theorem ixJ_any (L : List Nat) (A : Option Addr) (n c : Nat)  (pp : Nat → Bool) (w : World) (h : LR uC w A n L) (hn : n ≤ 100000) (hP : ∀ x ∈ L, Calls Tryd.prog 100 #[.int .u64 (x : Int)] w fun e w' => e = .returned (.bool (pp x)) ∧ w' = w) :
    Calls Tryd.prog 106 #[.slice A n c, .func (.func 100) #[] #[]] w fun e w' => (∃ z, e = .returned (.int .i64 z) ∧ IxF L pp z) ∧ w' = w := by
  have hb := Lib.hid hn
  have hlen := Lib.hid h.len
  replace h := Lib.hid h
  have hPh := Lib.hid hP
  clear hn hP
  go_enter Tryd.func106, Tryd.ntmps106
  go_wp2
  go_loopw [8] (fun iv wr => ∃ i : Nat, i ≤ n ∧ iv = .int .i64 i ∧ wr = w ∧ (∀ j s, j < i → L[j]? = some s → pp s = false)) (fun iv _ => n - (intOf iv).toNat)
  case atStart => exact ⟨0, Nat.zero_le _, rfl, rfl, fun j s h0 => absurd h0 (Nat.not_lt_zero _)⟩
  case round =>
    obtain ⟨i, hin, rfl, rfl, hall⟩ := hrel
    by_cases hlt : i < n
    · obtain ⟨b, o, x, rfl, hx, hxm, e0⟩ := u_get h.out hlt
      have hPx := Lib.hid (hPh.out x hxm)
      have hih := Lib.hid hlt
      have g1 : (i : Int) < (n : Int) := by omega
      have g2 : (0 : Int) ≤ (i : Int) := by omega
      replace hall := Lib.hid hall
      replace hx := Lib.hid hx
      clear hlt hin hxm
      cases hv : pp x with
      | false =>
        rw [hv] at hPx
        replace hv := Lib.hid hv
        go_wp2_with fail
        refine hPx.out.mono ?_
        rintro e wr ⟨rfl, rfl⟩
        clear hPx e0
        have hlt := hih.out
        have hbb := hb.out
        go_wp2
        go_roundw
        case rel => exact ⟨i + 1, by omega, by go_num, (by first | rfl | trivial), fun j' s h1 h2 => (by rcases Nat.lt_or_ge j' i with h3 | h3; exact hall.out j' s h3 h2; obtain rfl : j' = i := (by omega); rw [hx.out] at h2; injection h2 with h2; subst h2; exact hv.out)⟩
        case measure => simp [intOf]; omega
      | true =>
        rw [hv] at hPx
        replace hv := Lib.hid hv
        go_wp2_with fail
        refine hPx.out.mono ?_
        rintro e wr ⟨rfl, rfl⟩
        clear hPx e0
        go_wp2
        go_ret
        exact ⟨⟨_, rfl, .inr ⟨i, x, rfl, hx.out, hv.out, hall.out⟩⟩, rfl⟩
    · obtain rfl : i = n := by omega
      have hfin : Hid (∀ r ∈ L, pp r = false) := Lib.hid fun r hr => by
        obtain ⟨k, hk⟩ := List.getElem?_of_mem hr
        exact hall k r (by rw [← hlen.out]; exact (List.getElem?_eq_some_iff.1 hk).1) hk
      clear hall hin hlt
      go_wp2
      go_ret
      exact ⟨⟨-1, rfl, .inl ⟨rfl, hfin.out⟩⟩, rfl⟩

set_option maxRecDepth 100000 in
set_option maxHeartbeats 4000000 in
theorem cfJ_any (L : List Nat) (A : Option Addr) (n c : Nat) (w : World) (h : LR uC w A n L) (hn : n ≤ 100000) (hL : U64 L) :
    Calls Tryd.prog 99 #[.slice A n c, .func (.func 100) #[] #[]] w fun e w' => e = .returned (.bool (L.any fun t => decide (6 < F10.siz t))) ∧ w' = w := by
  have hX := Lib.hid (ixJ_any L A n c (fun t => decide (6 < F10.siz t)) w h hn fun x hx => big_any x w (hL x hx))
  clear h hn hL
  go_enter Tryd.func99, Tryd.ntmps99
  go_wp2_with fail
  refine hX.out.mono ?_
  rintro e w1 ⟨⟨z, rfl, hz⟩, rfl⟩
  have hz2 := Lib.hid hz.any_
  clear hz hX
  go_wp2
  go_ret
  exact ⟨by rw [hz2.out]; simp, rfl⟩
set_option maxRecDepth 100000 in
set_option maxHeartbeats 4000000 in
theorem inB_any (b : List Nat) (B : Option Addr) (m d q x : Nat) (w : World) (h : LR uC w B m b) (hm : m ≤ 100000) (hq : w.cell? ⟨q, 0, none⟩ = some (.slice B m d)) : Calls Tryd.prog 91 #[.int .u64 (x : Int), .pointer (some ⟨q, 0, none⟩)] w fun e w' => e = .returned (.bool (b.contains x)) ∧ w' = w := by
  have hX := Lib.hid (containsT_any b B m d x w h hm)
  clear h hm
  go_enter Tryd.func91, Tryd.ntmps91
  go_wp2_with fail
  refine hX.out.mono ?_
  rintro e w1 ⟨rfl, rfl⟩
  go_wp2
  go_ret
  exact ⟨by simp, rfl⟩
end Go.Proofs.YthbkdjbmkhmlnaaDoor
