/- The program's reader: where it stands, in lists of bytes. -/
import Derived.Test.YthbkdjbmkhmlnaaDoorB07
import Derived.Test.YthbkdjbmkhmlnaaDoorB08
import Derived.Test.YthbkdjbmkhmlnaaDoorB06
namespace Go.Proofs.YthbkdjbmkhmlnaaDoor
open Go.RowKit
set_option linter.unusedVariables false

theorem letB_inn {c : UInt8} (h : letB c = true) : innB c = true := by unfold innB; simp [h]
theorem fwL_fw : ∀ l : List UInt8, fwL l = F9.fw l
  | [] => rfl
  | c :: t => by
    rw [fwL, F9.fw]
    by_cases h : letB c = true
    · rw [if_pos h, if_pos h, List.takeWhile_cons, if_pos (letB_inn h)]
    · rw [if_neg h, if_neg h]
      by_cases h2 : digB c = true
      · rw [if_pos h2, if_pos h2, List.takeWhile_cons, if_pos h2]
      · rw [if_neg h2, if_neg h2]
theorem fw_len (r : F9.Bs) : (F9.fw r).length ≤ r.length := by
  cases r with
  | nil => exact Nat.le_refl _
  | cons c t =>
    rw [F9.fw]
    split
    · have := (List.takeWhile_sublist innB (l := t)).length_le; simp; omega
    · split
      · have := (List.takeWhile_sublist digB (l := t)).length_le; simp; omega
      · simp
theorem suf_drop {l s : List UInt8} (h : s <:+ l) : l.drop (l.length - s.length) = s := by
  obtain ⟨a, rfl⟩ := h
  rw [List.length_append, Nat.add_sub_cancel, List.drop_left]
/-- The word at hand, its place, and what is left there. -/
def RI (t : ByteArray) (r : F9.Bs) (x : ByteArray) (p : Nat) : Prop := p ≤ t.size ∧ t.data.toList.drop p = r ∧ x.data.toList = F9.fw r
theorem ri_new (t : ByteArray) (q : Nat) : RI t (F9.trm (t.data.toList.drop q)) (nwB t q) (naN t q) := by
  have e : (rsB t q).data.toList = F9.trm (t.data.toList.drop q) := rfl
  have e2 : (rsB t q).size = (F9.trm (t.data.toList.drop q)).length := by rw [← e, toList_len]
  refine ⟨by unfold naN; omega, ?_, ?_⟩
  · unfold naN
    rw [e2, ← toList_len t]
    exact suf_drop ((List.dropWhile_suffix _).trans (List.drop_suffix _ _))
  · show (fwL (rsB t q).data.toList) = _
    rw [fwL_fw, e]
section
variable {t x : ByteArray} {r : F9.Bs} {p : Nat}
theorem RI.xl (h : RI t r x p) : x.size = (F9.fw r).length := by rw [← h.2.2, toList_len]
theorem RI.rl (h : RI t r x p) : p + r.length = t.size := by
  have := h.1
  rw [← h.2.1, List.length_drop, toList_len]; omega
theorem RI.fits (h : RI t r x p) : p + x.size ≤ t.size := by
  have h1 := h.xl
  have h2 := h.rl
  have h3 := fw_len r
  omega
theorem RI.next (h : RI t r x p) : RI t (F9.nx r) (nwB t (p + x.size)) (naN t (p + x.size)) := by
  have := ri_new t (p + x.size)
  rw [← List.drop_drop, h.2.1, h.xl] at this
  rw [h.xl]
  exact this
theorem RI.is (h : RI t r x p) (l : F9.Bs) : x = ⟨l.toArray⟩ ↔ F9.fw r = l := by
  rw [← h.2.2]
  constructor
  · rintro rfl; simp
  · intro e; apply ByteArray.ext; apply Array.ext'; rw [e]
theorem RI.name (h : RI t r x p) : nameB x = nameL (F9.fw r) := by unfold nameB; rw [h.2.2]
theorem RI.eqx (h : RI t r x p) : x = ⟨(F9.fw r).toArray⟩ := (h.is _).2 rfl
end
/-- The binary operation that a text begins with, as a number. -/
def bopN (r : F9.Bs) : Nat := (F9.bop r).getD 0
theorem bop_is {t x : ByteArray} {r : F9.Bs} {p : Nat} (h : RI t r x p) : bopB x = (bopN r : Int) := by
  unfold bopN bopB F9.bop
  have e1 := h.is [43]
  have e2 := h.is [45]
  have e3 := h.is [58]
  have e4 := h.is [42]
  have e5 := h.is [47]
  simp only [e1, e2, e3, e4, e5]
  clear e1 e2 e3 e4 e5
  by_cases a1 : F9.fw r = [43]
  · simp [a1]
  by_cases a2 : F9.fw r = [45]
  · simp [a2]
  by_cases a3 : F9.fw r = [58]
  · simp [a3]
  by_cases a4 : F9.fw r = [42]
  · simp [a4]
  by_cases a5 : F9.fw r = [47]
  · simp [a5]
  rw [if_neg a1, if_neg a2, if_neg a3, if_neg a4, if_neg a5]
  split <;> simp_all
/-- A node of the grammar as it lies in memory. -/
def toNd (x : F9.Nd) : Nd := ⟨(x.op : Int), ⟨x.nm.toArray⟩, (x.k : Int)⟩
def wtL (W : List Nat) : List Int := W.reverse.map fun n : Nat => (n : Int)
section
variable {fs : List GBk} {w0 W : World} {rb : Nat} {t nm : ByteArray} {r : F9.Bs} {N : List F9.Nd} {Wt : List Nat}
theorem permX {α : Type} (p : α) (A B F : List α) : (p :: (A ++ (B ++ F))).Perm ((p :: (A ++ F)) ++ B) := by
  refine List.Perm.cons p ?_
  show (A ++ (B ++ F)).Perm ((A ++ F) ++ B)
  rw [List.append_assoc]
  exact List.Perm.append_left A List.perm_append_comm
theorem permY {α : Type} (p q : α) (A B F : List α) : (q :: (p :: (A ++ (B ++ F)))).Perm (p :: (A ++ (B ++ (q :: F)))) := by
  refine (List.Perm.swap p q _).trans (List.Perm.cons p ?_)
  rw [← List.append_assoc, ← List.append_assoc]
  exact List.perm_middle.symm
end
end Go.Proofs.YthbkdjbmkhmlnaaDoor
namespace Go.Proofs.YthbkdjbmkhmlnaaDoor
open Go.RowKit
set_option linter.unusedVariables false

/-- The reader's cells of the reference: text, place, error, its place. -/
abbrev r9C (t : ByteArray) (p : Nat) (er : Int) (pl : Nat) : Array Value := #[.string t, .int .i64 p, .int .i64 er, .int .i64 pl]

set_option maxRecDepth 100000 in
set_option maxHeartbeats 4000000 in
theorem fail_any (t : ByteArray) (p : Nat) (er : Int) (pl : Nat) (rb : Nat) (bs : List GBk) (rs : List GRd) (w0 w : World) (S0 : St w0 w ((rb, r9C t p er pl, 77) :: bs) rs) (e : Int) : Calls Tryd.prog 49 #[.pointer (some ⟨rb, 0, none⟩), .int .i64 e] w fun E w' => E = .returned (.tuple #[]) ∧ St w0 w' ((rb, r9C t p (if er = 0 then e else er) (if er = 0 then p else pl), 77) :: bs) rs := by
  have c_0 := S0.cl 0 0 rfl rfl
  have c_1 := S0.cl 0 1 rfl rfl
  have c_2 := S0.cl 0 2 rfl rfl
  have c_3 := S0.cl 0 3 rfl rfl
  have f_1 := S0.f 0 1 rfl
  have f_2 := S0.f 0 2 rfl
  have f_3 := S0.f 0 3 rfl
  have hlt0 := S0.lt 0 rfl
  by_cases he : er = 0
  · rw [if_pos he, if_pos he]
    subst he
    have S2 := Lib.hid ((S0.set 0 2 (.int .i64 e) rfl (fun _ => by simp)).set 0 3 (.int .i64 p) rfl (fun _ => by simp))
    replace S0 := Lib.hid S0
    go_enter Tryd.func49, Tryd.ntmps49
    go_wp2
    exact bodyPost_end (results_none rfl _ _ _) rfl ⟨rfl, S2.out⟩
  · rw [if_neg he, if_neg he]
    have g1 : (er == 0) = false := by rw [beq_eq_false_iff_ne]; exact he
    replace S0 := Lib.hid S0
    clear he
    go_enter Tryd.func49, Tryd.ntmps49
    go_wp2
    exact bodyPost_end (results_none rfl _ _ _) rfl ⟨rfl, S0.out⟩

/-- The place of a reader in a world. -/
def posR (b : Nat) (W : World) : Nat := match W.cell? ⟨b, 1, none⟩ with
  | some (.int _ z) => z.toNat
  | _ => 0
/-- The place behind the spaces. -/
def blN (t : ByteArray) (p : Nat) : Nat := p + ((t.data.toList.drop p).takeWhile (fun c => c == 32)).length
theorem bl_end {t : ByteArray} {i : Nat} (h : t.size ≤ i) : blN t i = i := by
  unfold blN; rw [List.drop_eq_nil_of_le (by rw [toList_len]; exact h)]; rfl
theorem bl_no {t : ByteArray} {i : Nat} (hi : i < t.size) (h : (t[i] == 32) = false) : blN t i = i := by
  unfold blN; rw [drop_one (toList_get hi), List.takeWhile_cons, h]; rfl
theorem bl_yes {t : ByteArray} {i : Nat} (hi : i < t.size) (h : (t[i] == 32) = true) : blN t i = blN t (i + 1) := by
  unfold blN; rw [drop_one (toList_get hi), List.takeWhile_cons, h]; simp; omega

set_option maxRecDepth 100000 in
set_option maxHeartbeats 4000000 in
theorem blanks_any (t : ByteArray) (p : Nat) (er : Int) (pl : Nat) (rb : Nat) (bs : List GBk) (rs : List GRd) (w0 w : World) (S0 : St w0 w ((rb, r9C t p er pl, 77) :: bs) rs) (ht : t.size ≤ 100000) (hp : p ≤ 100100) : Calls Tryd.prog 81 #[.pointer (some ⟨rb, 0, none⟩)] w fun E w' => E = .returned (.tuple #[]) ∧ St w0 w' ((rb, r9C t (blN t p) er pl, 77) :: bs) rs := by
  obtain ⟨nv, hnv⟩ : ∃ z, z = blN t p := ⟨_, rfl⟩
  rw [← hnv]
  replace hnv := Lib.hid hnv
  replace S0 := Lib.hid S0
  have hb := Lib.hid ht
  replace hp := Lib.hid hp
  clear ht
  go_enter Tryd.func81, Tryd.ntmps81
  go_wp2_with fail
  go_loopw [] (fun wr => ∃ i, p ≤ i ∧ i ≤ 100100 ∧ St w0 wr ((rb, r9C t i er pl, 77) :: bs) rs ∧ nv = blN t i) (fun wr => t.size - posR rb wr)
  case atStart => exact ⟨p, Nat.le_refl _, hp.out, S0.out, hnv.out⟩
  case round =>
    obtain ⟨i, hpi, hin, S, hall⟩ := hrel
    have c_0 := S.cl 0 0 rfl rfl
    have c_1 := S.cl 0 1 rfl rfl
    have hlt0 := S.lt 0 rfl
    have hps0 : Hid (posR rb wr = i) := Lib.hid (by unfold posR; rw [c_1]; rfl)
    have g2 : (0 : Int) ≤ (i : Int) := by omega
    have hi5 : i ≤ 100100 := hin
    replace hpi := Lib.hid hpi
    replace S := Lib.hid S
    by_cases hlt : i < t.size
    · have hih := Lib.hid hlt
      have g1 : (i : Int) < (t.size : Int) := by omega
      cases hc : (t[i] == 32)
      · have hn : i = nv := by rw [hall, bl_no hlt hc]
        have g5 : Hid (¬ ((t[i].toNat : Int) = 32)) := Lib.hid (by
          have := u8_eq t[i] 32 (by decide)
          rw [show (UInt8.ofNat 32) = 32 from rfl, hc] at this
          intro h2; have h3 : ((t[i].toNat : Int) == ((32 : Nat) : Int)) = true := by rw [beq_iff_eq]; exact h2
          rw [h3] at this; cases this)
        subst hn
        clear hall hin
        go_upto_region 0 with fail
        have hbase := Lib.hid (St.new wr)
        refine RW.begin (Z := []) (S := (fun W => Below wr.heap.size wr W)) (by kernel_rfl) ?_ hbase.out ?_
        · exact ⟨by kernel_rfl, zis_nil, by decide, by decide, nol_nil, (fun _ _ h => h.bel)⟩
        intro hzk
        refine RW.t (i := 0) (v := .pointer (some ⟨rb, 0, none⟩)) (some 2) at0 (hy := fun _ _ => by kernel_rfl) (h := ?_)
        refine RW.t (i := 1) (v := .pointer (some ⟨rb, 0, none⟩)) (some 3) at1 (hy := fun _ _ => by go_simp) (h := ?_)
        refine RW.t (i := 2) (v := .pointer (some ⟨rb, 1, none⟩)) (some 4) at2 (hy := fun _ _ => by go_simp) (h := ?_)
        refine RW.t (i := 3) (v := .int .i64 i) (some 5) at3 (hy := fun W hS => by (have k0 := bel_cell hS c_1; clear hS; go_simp)) (h := ?_)
        refine RW.t (i := 4) (v := .pointer (some ⟨rb, 0, none⟩)) (some 6) at4 (hy := fun _ _ => by kernel_rfl) (h := ?_)
        refine RW.t (i := 5) (v := .pointer (some ⟨rb, 0, none⟩)) (some 7) at5 (hy := fun _ _ => by go_simp) (h := ?_)
        refine RW.t (i := 6) (v := .pointer (some ⟨rb, 0, none⟩)) (some 8) at6 (hy := fun _ _ => by go_simp) (h := ?_)
        refine RW.t (i := 7) (v := .string t) (some 9) at7 (hy := fun W hS => by (have k0 := bel_cell hS c_0; clear hS; go_simp)) (h := ?_)
        refine RW.t (i := 8) (v := .int .i64 t.size) (some 10) at8 (hy := fun _ _ => by go_simp) (h := ?_)
        refine RW.t (i := 9) (v := .bool true) (some 11) at9 (hy := fun _ _ => by go_simp) (h := ?_)
        refine RW.t (i := 10) (v := .bool true) (some 12) at10 (hy := fun _ _ => by kernel_rfl) (h := ?_)
        refine RW.t (i := 11) (v := .pointer (some ⟨rb, 0, none⟩)) (some 13) at11 (hy := fun _ _ => by kernel_rfl) (h := ?_)
        refine RW.t (i := 12) (v := .pointer (some ⟨rb, 0, none⟩)) (some 14) at12 (hy := fun _ _ => by go_simp) (h := ?_)
        refine RW.t (i := 13) (v := .pointer (some ⟨rb, 0, none⟩)) (some 15) at13 (hy := fun _ _ => by go_simp) (h := ?_)
        refine RW.t (i := 14) (v := .string t) (some 16) at14 (hy := fun W hS => by (have k0 := bel_cell hS c_0; clear hS; go_simp)) (h := ?_)
        refine RW.t (i := 15) (v := .pointer (some ⟨rb, 0, none⟩)) (some 17) at15 (hy := fun _ _ => by kernel_rfl) (h := ?_)
        refine RW.t (i := 16) (v := .pointer (some ⟨rb, 0, none⟩)) (some 18) at16 (hy := fun _ _ => by go_simp) (h := ?_)
        refine RW.t (i := 17) (v := .pointer (some ⟨rb, 1, none⟩)) (some 19) at17 (hy := fun _ _ => by go_simp) (h := ?_)
        refine RW.t (i := 18) (v := .int .i64 i) (some 20) at18 (hy := fun W hS => by (have k0 := bel_cell hS c_1; clear hS; go_simp)) (h := ?_)
        refine RW.t (i := 19) (v := .int .u8 t[i].toNat) (some 21) at19 (hy := fun _ _ => by (go_simp; try rfl)) (h := ?_)
        refine RW.t (i := 20) (v := .bool false) (some 22) at20 (hy := fun _ _ => by (go_simp; first | exact g5.out | skip)) (h := ?_)
        refine RW.t (i := 21) (v := .bool false) (some 23) at21 (hy := fun _ _ => by kernel_rfl) (h := ?_)
        refine RW.tail hzk.out (by kernel_rfl) ?_
        intro gs' w5 hgs' hS Sb
        obtain rfl := len0 hgs'
        simp only [mark, fill, Act.put, List.setIfInBounds_toArray, List.set_cons_zero, List.set_cons_succ]
        refine Wk.done (by kernel_rfl) ?_
        have S5 := S.out.call hS
        clear Sb hgs' hzk hbase hS S c_0 c_1 hlt0
        try go_simp
        replace S5 := Lib.hid S5
        go_wp2
        exact bodyPost_end (results_none rfl _ _ _) rfl ⟨rfl, S5.out⟩
      · have hnx := Lib.hid (hall.trans (bl_yes hlt hc))
        have g5 : Hid ((t[i].toNat : Int) = 32) := Lib.hid (by
          have := u8_eq t[i] 32 (by decide)
          rw [show (UInt8.ofNat 32) = 32 from rfl, hc] at this
          exact beq_iff_eq.1 this)
        clear hall hin
        go_upto_region 0 with fail
        have hbase := Lib.hid (St.new wr)
        refine RW.begin (Z := []) (S := (fun W => Below wr.heap.size wr W)) (by kernel_rfl) ?_ hbase.out ?_
        · exact ⟨by kernel_rfl, zis_nil, by decide, by decide, nol_nil, (fun _ _ h => h.bel)⟩
        intro hzk
        refine RW.t (i := 0) (v := .pointer (some ⟨rb, 0, none⟩)) (some 2) at0 (hy := fun _ _ => by kernel_rfl) (h := ?_)
        refine RW.t (i := 1) (v := .pointer (some ⟨rb, 0, none⟩)) (some 3) at1 (hy := fun _ _ => by go_simp) (h := ?_)
        refine RW.t (i := 2) (v := .pointer (some ⟨rb, 1, none⟩)) (some 4) at2 (hy := fun _ _ => by go_simp) (h := ?_)
        refine RW.t (i := 3) (v := .int .i64 i) (some 5) at3 (hy := fun W hS => by (have k0 := bel_cell hS c_1; clear hS; go_simp)) (h := ?_)
        refine RW.t (i := 4) (v := .pointer (some ⟨rb, 0, none⟩)) (some 6) at4 (hy := fun _ _ => by kernel_rfl) (h := ?_)
        refine RW.t (i := 5) (v := .pointer (some ⟨rb, 0, none⟩)) (some 7) at5 (hy := fun _ _ => by go_simp) (h := ?_)
        refine RW.t (i := 6) (v := .pointer (some ⟨rb, 0, none⟩)) (some 8) at6 (hy := fun _ _ => by go_simp) (h := ?_)
        refine RW.t (i := 7) (v := .string t) (some 9) at7 (hy := fun W hS => by (have k0 := bel_cell hS c_0; clear hS; go_simp)) (h := ?_)
        refine RW.t (i := 8) (v := .int .i64 t.size) (some 10) at8 (hy := fun _ _ => by go_simp) (h := ?_)
        refine RW.t (i := 9) (v := .bool true) (some 11) at9 (hy := fun _ _ => by go_simp) (h := ?_)
        refine RW.t (i := 10) (v := .bool true) (some 12) at10 (hy := fun _ _ => by kernel_rfl) (h := ?_)
        refine RW.t (i := 11) (v := .pointer (some ⟨rb, 0, none⟩)) (some 13) at11 (hy := fun _ _ => by kernel_rfl) (h := ?_)
        refine RW.t (i := 12) (v := .pointer (some ⟨rb, 0, none⟩)) (some 14) at12 (hy := fun _ _ => by go_simp) (h := ?_)
        refine RW.t (i := 13) (v := .pointer (some ⟨rb, 0, none⟩)) (some 15) at13 (hy := fun _ _ => by go_simp) (h := ?_)
        refine RW.t (i := 14) (v := .string t) (some 16) at14 (hy := fun W hS => by (have k0 := bel_cell hS c_0; clear hS; go_simp)) (h := ?_)
        refine RW.t (i := 15) (v := .pointer (some ⟨rb, 0, none⟩)) (some 17) at15 (hy := fun _ _ => by kernel_rfl) (h := ?_)
        refine RW.t (i := 16) (v := .pointer (some ⟨rb, 0, none⟩)) (some 18) at16 (hy := fun _ _ => by go_simp) (h := ?_)
        refine RW.t (i := 17) (v := .pointer (some ⟨rb, 1, none⟩)) (some 19) at17 (hy := fun _ _ => by go_simp) (h := ?_)
        refine RW.t (i := 18) (v := .int .i64 i) (some 20) at18 (hy := fun W hS => by (have k0 := bel_cell hS c_1; clear hS; go_simp)) (h := ?_)
        refine RW.t (i := 19) (v := .int .u8 t[i].toNat) (some 21) at19 (hy := fun _ _ => by (go_simp; try rfl)) (h := ?_)
        refine RW.t (i := 20) (v := .bool true) (some 22) at20 (hy := fun _ _ => by (go_simp; first | exact g5.out | skip)) (h := ?_)
        refine RW.t (i := 21) (v := .bool true) (some 23) at21 (hy := fun _ _ => by kernel_rfl) (h := ?_)
        refine RW.tail hzk.out (by kernel_rfl) ?_
        intro gs' w5 hgs' hS Sb
        obtain rfl := len0 hgs'
        simp only [mark, fill, Act.put, List.setIfInBounds_toArray, List.set_cons_zero, List.set_cons_succ]
        refine Wk.done (by kernel_rfl) ?_
        have S5 := S.out.call hS
        clear Sb hgs' hzk hbase hS S c_0 c_1 hlt0
        try go_simp
        have c_0 := S5.cl 0 0 rfl rfl
        have c_1 := S5.cl 0 1 rfl rfl
        have f_1 := S5.f 0 1 rfl
        have hlt0 := S5.lt 0 rfl
        have S6 := S5.set 0 1 (.int .i64 ((i + 1 : Nat) : Int)) rfl (fun _ => by simp)
        have hps : posR rb (w5.setCell ⟨rb, 1, none⟩ (.int .i64 ((i : Int) + 1))) = i + 1 := by
          have e : ((i : Int) + 1) = ((i + 1 : Nat) : Int) := by omega
          rw [e]; unfold posR; rw [S6.cl 0 1 rfl rfl]; rfl
        replace S6 := Lib.hid S6
        replace S5 := Lib.hid S5
        replace hps := Lib.hid hps
        have hlt := hih.out
        have hbb := hb.out
        go_wp2
        go_roundw
        case rel => exact ⟨i + 1, by (have := hpi.out; omega), by omega, S6.out, hnx.out⟩
        case measure => (have h1 := hps.out; have h2 := hps0.out; omega)
    · have hie : t.size ≤ i := by omega
      have hn2 : i = nv := by rw [hall, bl_end (by omega)]
      have g1 : ¬ ((i : Int) < (t.size : Int)) := by omega
      clear hie
      subst hn2
      clear hall hin hlt
      go_upto_region 0 with fail
      have hbase := Lib.hid (St.new wr)
      refine RW.begin (Z := []) (S := (fun W => Below wr.heap.size wr W)) (by kernel_rfl) ?_ hbase.out ?_
      · exact ⟨by kernel_rfl, zis_nil, by decide, by decide, nol_nil, (fun _ _ h => h.bel)⟩
      intro hzk
      refine RW.t (i := 0) (v := .pointer (some ⟨rb, 0, none⟩)) (some 2) at0 (hy := fun _ _ => by kernel_rfl) (h := ?_)
      refine RW.t (i := 1) (v := .pointer (some ⟨rb, 0, none⟩)) (some 3) at1 (hy := fun _ _ => by go_simp) (h := ?_)
      refine RW.t (i := 2) (v := .pointer (some ⟨rb, 1, none⟩)) (some 4) at2 (hy := fun _ _ => by go_simp) (h := ?_)
      refine RW.t (i := 3) (v := .int .i64 i) (some 5) at3 (hy := fun W hS => by (have k0 := bel_cell hS c_1; clear hS; go_simp)) (h := ?_)
      refine RW.t (i := 4) (v := .pointer (some ⟨rb, 0, none⟩)) (some 6) at4 (hy := fun _ _ => by kernel_rfl) (h := ?_)
      refine RW.t (i := 5) (v := .pointer (some ⟨rb, 0, none⟩)) (some 7) at5 (hy := fun _ _ => by go_simp) (h := ?_)
      refine RW.t (i := 6) (v := .pointer (some ⟨rb, 0, none⟩)) (some 8) at6 (hy := fun _ _ => by go_simp) (h := ?_)
      refine RW.t (i := 7) (v := .string t) (some 9) at7 (hy := fun W hS => by (have k0 := bel_cell hS c_0; clear hS; go_simp)) (h := ?_)
      refine RW.t (i := 8) (v := .int .i64 t.size) (some 10) at8 (hy := fun _ _ => by go_simp) (h := ?_)
      refine RW.t (i := 9) (v := .bool false) (some 11) at9 (hy := fun _ _ => by go_simp) (h := ?_)
      refine RW.t (i := 10) (v := .bool false) (some 12) at10 (hy := fun _ _ => by kernel_rfl) (h := ?_)
      refine RW.u (i := 11) (some 13) at11 (h := ?_)
      refine RW.u (i := 12) (some 14) at12 (h := ?_)
      refine RW.u (i := 13) (some 15) at13 (h := ?_)
      refine RW.u (i := 14) (some 16) at14 (h := ?_)
      refine RW.u (i := 15) (some 17) at15 (h := ?_)
      refine RW.u (i := 16) (some 18) at16 (h := ?_)
      refine RW.u (i := 17) (some 19) at17 (h := ?_)
      refine RW.u (i := 18) (some 20) at18 (h := ?_)
      refine RW.u (i := 19) (some 21) at19 (h := ?_)
      refine RW.u (i := 20) (some 22) at20 (h := ?_)
      refine RW.t (i := 21) (v := .bool false) (some 23) at21 (hy := fun _ _ => by kernel_rfl) (h := ?_)
      refine RW.tail hzk.out (by kernel_rfl) ?_
      intro gs' w5 hgs' hS Sb
      obtain rfl := len0 hgs'
      simp only [mark, fill, Act.put, List.setIfInBounds_toArray, List.set_cons_zero, List.set_cons_succ]
      refine Wk.done (by kernel_rfl) ?_
      have S5 := S.out.call hS
      clear Sb hgs' hzk hbase hS S c_0 c_1 hlt0
      try go_simp
      replace S5 := Lib.hid S5
      go_wp2
      exact bodyPost_end (results_none rfl _ _ _) rfl ⟨rfl, S5.out⟩
end Go.Proofs.YthbkdjbmkhmlnaaDoor
namespace Go.Proofs.YthbkdjbmkhmlnaaDoor
open Go.RowKit
set_option linter.unusedVariables false

/-- The byte at a place; 0 at the end of the text and behind an error. -/
def sgV (t : ByteArray) (q : Nat) (er : Int) : Nat := if er = 0 then (t.data.toList[q]?.map (fun c => c.toNat)).getD 0 else 0
theorem sg_err {t : ByteArray} {q : Nat} {er : Int} (h : ¬ er = 0) : sgV t q er = 0 := by unfold sgV; rw [if_neg h]
theorem sg_end {t : ByteArray} {q : Nat} {er : Int} (h : t.size ≤ q) : sgV t q er = 0 := by
  unfold sgV; rw [List.getElem?_eq_none (by rw [toList_len]; exact h)]; split <;> rfl
theorem sg_at {t : ByteArray} {q : Nat} (h : q < t.size) : sgV t q 0 = t[q].toNat := by
  unfold sgV; rw [toList_get h]; rfl
theorem bl_le {t : ByteArray} {p : Nat} (ht : t.size ≤ 100000) (h : p ≤ 100100) : p ≤ blN t p ∧ blN t p ≤ 100100 ∧ (p ≤ t.size → blN t p ≤ t.size) := by
  have h1 := (List.takeWhile_sublist (fun c : UInt8 => c == 32) (l := t.data.toList.drop p)).length_le
  rw [List.length_drop, toList_len] at h1
  unfold blN
  omega

set_option maxRecDepth 100000 in
set_option maxHeartbeats 4000000 in
theorem sign_any (t : ByteArray) (p : Nat) (er : Int) (pl : Nat) (rb : Nat) (bs : List GBk) (rs : List GRd) (w0 w : World) (S0 : St w0 w ((rb, r9C t p er pl, 77) :: bs) rs) (ht : t.size ≤ 100000) (hp : p ≤ 100100) : Calls Tryd.prog 48 #[.pointer (some ⟨rb, 0, none⟩)] w fun E w' => E = .returned (.int .u8 (sgV t (blN t p) er)) ∧ St w0 w' ((rb, r9C t (blN t p) er pl, 77) :: bs) rs := by
  have hB : Hid (∀ W, St w0 W ((rb, r9C t p er pl, 77) :: bs) rs → Calls Tryd.prog 81 #[.pointer (some ⟨rb, 0, none⟩)] W fun E w' => E = .returned (.tuple #[]) ∧ St w0 w' ((rb, r9C t (blN t p) er pl, 77) :: bs) rs) := Lib.hid fun W hW => blanks_any t p er pl rb bs rs w0 W hW ht hp
  have hbl := bl_le ht hp
  generalize blN t p = q at *
  replace S0 := Lib.hid S0
  have hq5 : q ≤ 100100 := by omega
  have g2 : (0 : Int) ≤ (q : Int) := by omega
  by_cases he : er = 0
  · subst he
    by_cases hlt : q < t.size
    · rw [sg_at hlt]
      have g1 : ¬ (t.size : Int) ≤ (q : Int) := by omega
      have g3 : (q : Int) < (t.size : Int) := by omega
      clear hbl hp ht
      go_enter Tryd.func48, Tryd.ntmps48
      go_wp2_with fail
      refine (hB.out _ S0.out).mono ?_
      rintro e w1 ⟨rfl, S⟩
      clear S0 hB
      have c_0 := S.cl 0 0 rfl rfl
      have c_1 := S.cl 0 1 rfl rfl
      have c_2 := S.cl 0 2 rfl rfl
      have hlt0 := S.lt 0 rfl
      replace S := Lib.hid S
      go_upto_region 2 with fail
      have hbase := Lib.hid (St.new w1)
      refine RW.begin (Z := []) (S := (fun W => Below w1.heap.size w1 W)) (by kernel_rfl) ?_ hbase.out ?_
      · exact ⟨by kernel_rfl, zis_nil, by decide, by decide, nol_nil, (fun _ _ h => h.bel)⟩
      intro hzk
      refine RW.t (i := 0) (v := .pointer (some ⟨rb, 0, none⟩)) (some 5) at0 (hy := fun _ _ => by kernel_rfl) (h := ?_)
      refine RW.t (i := 1) (v := .pointer (some ⟨rb, 0, none⟩)) (some 6) at1 (hy := fun _ _ => by go_simp) (h := ?_)
      refine RW.t (i := 2) (v := .pointer (some ⟨rb, 2, none⟩)) (some 7) at2 (hy := fun _ _ => by go_simp) (h := ?_)
      refine RW.t (i := 3) (v := .int .i64 0) (some 8) at3 (hy := fun W hS => by (have k0 := bel_cell hS c_2; clear hS; go_simp)) (h := ?_)
      refine RW.t (i := 4) (v := .bool false) (some 9) at4 (hy := fun _ _ => by go_simp) (h := ?_)
      refine RW.t (i := 5) (v := .bool false) (some 10) at5 (hy := fun _ _ => by kernel_rfl) (h := ?_)
      refine RW.t (i := 6) (v := .pointer (some ⟨rb, 0, none⟩)) (some 11) at6 (hy := fun _ _ => by kernel_rfl) (h := ?_)
      refine RW.t (i := 7) (v := .pointer (some ⟨rb, 0, none⟩)) (some 12) at7 (hy := fun _ _ => by go_simp) (h := ?_)
      refine RW.t (i := 8) (v := .pointer (some ⟨rb, 1, none⟩)) (some 13) at8 (hy := fun _ _ => by go_simp) (h := ?_)
      refine RW.t (i := 9) (v := .int .i64 q) (some 14) at9 (hy := fun W hS => by (have k0 := bel_cell hS c_1; clear hS; go_simp)) (h := ?_)
      refine RW.t (i := 10) (v := .pointer (some ⟨rb, 0, none⟩)) (some 15) at10 (hy := fun _ _ => by kernel_rfl) (h := ?_)
      refine RW.t (i := 11) (v := .pointer (some ⟨rb, 0, none⟩)) (some 16) at11 (hy := fun _ _ => by go_simp) (h := ?_)
      refine RW.t (i := 12) (v := .pointer (some ⟨rb, 0, none⟩)) (some 17) at12 (hy := fun _ _ => by go_simp) (h := ?_)
      refine RW.t (i := 13) (v := .string t) (some 18) at13 (hy := fun W hS => by (have k0 := bel_cell hS c_0; clear hS; go_simp)) (h := ?_)
      refine RW.t (i := 14) (v := .int .i64 t.size) (some 19) at14 (hy := fun _ _ => by go_simp) (h := ?_)
      refine RW.t (i := 15) (v := .bool false) (some 20) at15 (hy := fun _ _ => by go_simp) (h := ?_)
      refine RW.t (i := 16) (v := .bool false) (some 21) at16 (hy := fun _ _ => by kernel_rfl) (h := ?_)
      refine RW.tail hzk.out (by kernel_rfl) ?_
      intro gs' w5 hgs' hS Sb
      obtain rfl := len0 hgs'
      simp only [mark, fill, Act.put, List.setIfInBounds_toArray, List.set_cons_zero, List.set_cons_succ]
      refine Wk.done (by kernel_rfl) ?_
      have S5 := S.out.call hS
      clear Sb hgs' hzk hbase hS S c_0 c_1 c_2 hlt0
      try go_simp
      have S := S5
      have c_0 := S.cl 0 0 rfl rfl
      have c_1 := S.cl 0 1 rfl rfl
      have c_2 := S.cl 0 2 rfl rfl
      clear S5
      have hlt0 := S.lt 0 rfl
      replace S := Lib.hid S
      go_upto_region 4 with fail
      have hbase := Lib.hid (St.new w5)
      refine RW.begin (Z := []) (S := (fun W => Below w5.heap.size w5 W)) (by kernel_rfl) ?_ hbase.out ?_
      · exact ⟨by kernel_rfl, zis_nil, by decide, by decide, nol_nil, (fun _ _ h => h.bel)⟩
      intro hzk
      refine RW.t (i := 0) (v := .pointer (some ⟨rb, 0, none⟩)) (some 22) at0 (hy := fun _ _ => by kernel_rfl) (h := ?_)
      refine RW.t (i := 1) (v := .pointer (some ⟨rb, 0, none⟩)) (some 23) at1 (hy := fun _ _ => by go_simp) (h := ?_)
      refine RW.t (i := 2) (v := .pointer (some ⟨rb, 0, none⟩)) (some 24) at2 (hy := fun _ _ => by go_simp) (h := ?_)
      refine RW.t (i := 3) (v := .string t) (some 25) at3 (hy := fun W hS => by (have k0 := bel_cell hS c_0; clear hS; go_simp)) (h := ?_)
      refine RW.t (i := 4) (v := .pointer (some ⟨rb, 0, none⟩)) (some 26) at4 (hy := fun _ _ => by kernel_rfl) (h := ?_)
      refine RW.t (i := 5) (v := .pointer (some ⟨rb, 0, none⟩)) (some 27) at5 (hy := fun _ _ => by go_simp) (h := ?_)
      refine RW.t (i := 6) (v := .pointer (some ⟨rb, 1, none⟩)) (some 28) at6 (hy := fun _ _ => by go_simp) (h := ?_)
      refine RW.t (i := 7) (v := .int .i64 q) (some 29) at7 (hy := fun W hS => by (have k0 := bel_cell hS c_1; clear hS; go_simp)) (h := ?_)
      refine RW.t (i := 8) (v := .int .u8 t[q].toNat) (some 30) at8 (hy := fun _ _ => by (go_simp; try rfl)) (h := ?_)
      refine RW.tail hzk.out (by kernel_rfl) ?_
      intro gs' w6 hgs' hS Sb
      obtain rfl := len0 hgs'
      simp only [mark, fill, Act.put, List.setIfInBounds_toArray, List.set_cons_zero, List.set_cons_succ]
      refine Wk.o (i := 9) at9 (by kernel_rfl) fun K' hK => ?_
      go_simp
      refine hK.out _ _ hS ?_
      clear hK K'
      try simp only [Act.put, List.setIfInBounds_toArray, List.set_cons_zero, List.set_cons_succ]
      refine Wk.done (by kernel_rfl) ?_
      have S5 := S.out.call hS
      clear Sb hgs' hzk hbase hS S c_0 c_1 c_2 hlt0
      try go_simp
      replace S5 := Lib.hid S5
      go_wp2
      go_ret
      exact ⟨rfl, S5.out⟩
    · rw [sg_end (by omega)]
      have g1 : (t.size : Int) ≤ (q : Int) := by omega
      clear hbl hp ht hlt
      go_enter Tryd.func48, Tryd.ntmps48
      go_wp2_with fail
      refine (hB.out _ S0.out).mono ?_
      rintro e w1 ⟨rfl, S⟩
      clear S0 hB
      have c_0 := S.cl 0 0 rfl rfl
      have c_1 := S.cl 0 1 rfl rfl
      have c_2 := S.cl 0 2 rfl rfl
      have hlt0 := S.lt 0 rfl
      replace S := Lib.hid S
      go_upto_region 2 with fail
      have hbase := Lib.hid (St.new w1)
      refine RW.begin (Z := []) (S := (fun W => Below w1.heap.size w1 W)) (by kernel_rfl) ?_ hbase.out ?_
      · exact ⟨by kernel_rfl, zis_nil, by decide, by decide, nol_nil, (fun _ _ h => h.bel)⟩
      intro hzk
      refine RW.t (i := 0) (v := .pointer (some ⟨rb, 0, none⟩)) (some 5) at0 (hy := fun _ _ => by kernel_rfl) (h := ?_)
      refine RW.t (i := 1) (v := .pointer (some ⟨rb, 0, none⟩)) (some 6) at1 (hy := fun _ _ => by go_simp) (h := ?_)
      refine RW.t (i := 2) (v := .pointer (some ⟨rb, 2, none⟩)) (some 7) at2 (hy := fun _ _ => by go_simp) (h := ?_)
      refine RW.t (i := 3) (v := .int .i64 0) (some 8) at3 (hy := fun W hS => by (have k0 := bel_cell hS c_2; clear hS; go_simp)) (h := ?_)
      refine RW.t (i := 4) (v := .bool false) (some 9) at4 (hy := fun _ _ => by go_simp) (h := ?_)
      refine RW.t (i := 5) (v := .bool false) (some 10) at5 (hy := fun _ _ => by kernel_rfl) (h := ?_)
      refine RW.t (i := 6) (v := .pointer (some ⟨rb, 0, none⟩)) (some 11) at6 (hy := fun _ _ => by kernel_rfl) (h := ?_)
      refine RW.t (i := 7) (v := .pointer (some ⟨rb, 0, none⟩)) (some 12) at7 (hy := fun _ _ => by go_simp) (h := ?_)
      refine RW.t (i := 8) (v := .pointer (some ⟨rb, 1, none⟩)) (some 13) at8 (hy := fun _ _ => by go_simp) (h := ?_)
      refine RW.t (i := 9) (v := .int .i64 q) (some 14) at9 (hy := fun W hS => by (have k0 := bel_cell hS c_1; clear hS; go_simp)) (h := ?_)
      refine RW.t (i := 10) (v := .pointer (some ⟨rb, 0, none⟩)) (some 15) at10 (hy := fun _ _ => by kernel_rfl) (h := ?_)
      refine RW.t (i := 11) (v := .pointer (some ⟨rb, 0, none⟩)) (some 16) at11 (hy := fun _ _ => by go_simp) (h := ?_)
      refine RW.t (i := 12) (v := .pointer (some ⟨rb, 0, none⟩)) (some 17) at12 (hy := fun _ _ => by go_simp) (h := ?_)
      refine RW.t (i := 13) (v := .string t) (some 18) at13 (hy := fun W hS => by (have k0 := bel_cell hS c_0; clear hS; go_simp)) (h := ?_)
      refine RW.t (i := 14) (v := .int .i64 t.size) (some 19) at14 (hy := fun _ _ => by go_simp) (h := ?_)
      refine RW.t (i := 15) (v := .bool true) (some 20) at15 (hy := fun _ _ => by go_simp) (h := ?_)
      refine RW.t (i := 16) (v := .bool true) (some 21) at16 (hy := fun _ _ => by kernel_rfl) (h := ?_)
      refine RW.tail hzk.out (by kernel_rfl) ?_
      intro gs' w5 hgs' hS Sb
      obtain rfl := len0 hgs'
      simp only [mark, fill, Act.put, List.setIfInBounds_toArray, List.set_cons_zero, List.set_cons_succ]
      refine Wk.done (by kernel_rfl) ?_
      have S5 := S.out.call hS
      clear Sb hgs' hzk hbase hS S c_0 c_1 c_2 hlt0
      try go_simp
      replace S5 := Lib.hid S5
      go_wp2
      go_ret
      exact ⟨rfl, S5.out⟩
  · rw [sg_err he]
    have g5 : Hid (¬ er = 0) := Lib.hid he
    have g6 : (er == 0) = false := by rw [beq_eq_false_iff_ne]; exact he
    clear hbl hp ht he
    go_enter Tryd.func48, Tryd.ntmps48
    go_wp2_with fail
    refine (hB.out _ S0.out).mono ?_
    rintro e w1 ⟨rfl, S⟩
    clear S0 hB
    have c_0 := S.cl 0 0 rfl rfl
    have c_1 := S.cl 0 1 rfl rfl
    have c_2 := S.cl 0 2 rfl rfl
    have hlt0 := S.lt 0 rfl
    replace S := Lib.hid S
    go_upto_region 2 with fail
    have hbase := Lib.hid (St.new w1)
    refine RW.begin (Z := []) (S := (fun W => Below w1.heap.size w1 W)) (by kernel_rfl) ?_ hbase.out ?_
    · exact ⟨by kernel_rfl, zis_nil, by decide, by decide, nol_nil, (fun _ _ h => h.bel)⟩
    intro hzk
    refine RW.t (i := 0) (v := .pointer (some ⟨rb, 0, none⟩)) (some 5) at0 (hy := fun _ _ => by kernel_rfl) (h := ?_)
    refine RW.t (i := 1) (v := .pointer (some ⟨rb, 0, none⟩)) (some 6) at1 (hy := fun _ _ => by go_simp) (h := ?_)
    refine RW.t (i := 2) (v := .pointer (some ⟨rb, 2, none⟩)) (some 7) at2 (hy := fun _ _ => by go_simp) (h := ?_)
    refine RW.t (i := 3) (v := .int .i64 er) (some 8) at3 (hy := fun W hS => by (have k0 := bel_cell hS c_2; clear hS; go_simp)) (h := ?_)
    refine RW.t (i := 4) (v := .bool true) (some 9) at4 (hy := fun _ _ => by (go_simp; try exact g5.out)) (h := ?_)
    refine RW.t (i := 5) (v := .bool true) (some 10) at5 (hy := fun _ _ => by kernel_rfl) (h := ?_)
    refine RW.u (i := 6) (some 11) at6 (h := ?_)
    refine RW.u (i := 7) (some 12) at7 (h := ?_)
    refine RW.u (i := 8) (some 13) at8 (h := ?_)
    refine RW.u (i := 9) (some 14) at9 (h := ?_)
    refine RW.u (i := 10) (some 15) at10 (h := ?_)
    refine RW.u (i := 11) (some 16) at11 (h := ?_)
    refine RW.u (i := 12) (some 17) at12 (h := ?_)
    refine RW.u (i := 13) (some 18) at13 (h := ?_)
    refine RW.u (i := 14) (some 19) at14 (h := ?_)
    refine RW.u (i := 15) (some 20) at15 (h := ?_)
    refine RW.t (i := 16) (v := .bool true) (some 21) at16 (hy := fun _ _ => by kernel_rfl) (h := ?_)
    refine RW.tail hzk.out (by kernel_rfl) ?_
    intro gs' w5 hgs' hS Sb
    obtain rfl := len0 hgs'
    simp only [mark, fill, Act.put, List.setIfInBounds_toArray, List.set_cons_zero, List.set_cons_succ]
    refine Wk.done (by kernel_rfl) ?_
    have S5 := S.out.call hS
    clear Sb hgs' hzk hbase hS S c_0 c_1 c_2 hlt0
    try go_simp
    replace S5 := Lib.hid S5
    go_wp2
    go_ret
    exact ⟨rfl, S5.out⟩
end Go.Proofs.YthbkdjbmkhmlnaaDoor
namespace Go.Proofs.YthbkdjbmkhmlnaaDoor
open Go.RowKit
set_option linter.unusedVariables false

set_option maxRecDepth 100000 in
set_option maxHeartbeats 4000000 in
theorem take_yes (t : ByteArray) (p : Nat) (er : Int) (pl : Nat) (rb : Nat) (bs : List GBk) (rs : List GRd) (w0 w : World) (S0 : St w0 w ((rb, r9C t p er pl, 77) :: bs) rs) (ht : t.size ≤ 100000) (hp : p ≤ 100100) (b : Nat) (hb : sgV t (blN t p) er = b) : Calls Tryd.prog 77 #[.pointer (some ⟨rb, 0, none⟩), .int .u8 b] w fun E w' => E = .returned (.bool true) ∧ St w0 w' ((rb, r9C t (blN t p + 1) er pl, 77) :: bs) rs := by
  have hG : Hid (∀ W, St w0 W ((rb, r9C t p er pl, 77) :: bs) rs → Calls Tryd.prog 48 #[.pointer (some ⟨rb, 0, none⟩)] W fun E w' => E = .returned (.int .u8 (sgV t (blN t p) er)) ∧ St w0 w' ((rb, r9C t (blN t p) er pl, 77) :: bs) rs) := Lib.hid fun W hW => sign_any t p er pl rb bs rs w0 W hW ht hp
  have hbl := bl_le ht hp
  rw [hb] at hG
  clear hb
  generalize blN t p = q at *
  have hq5 : q ≤ 100100 := by omega
  replace S0 := Lib.hid S0
  clear hbl ht hp
  go_enter Tryd.func77, Tryd.ntmps77
  go_wp2_with fail
  refine (hG.out _ S0.out).mono ?_
  rintro e w1 ⟨rfl, S⟩
  clear S0 hG
  have c_1 := S.cl 0 1 rfl rfl
  have f_1 := S.f 0 1 rfl
  have hlt0 := S.lt 0 rfl
  have S6 := Lib.hid (S.set 0 1 (.int .i64 ((q + 1 : Nat) : Int)) rfl (fun _ => by simp))
  replace S := Lib.hid S
  go_wp2
  go_ret
  exact ⟨rfl, S6.out⟩

set_option maxRecDepth 100000 in
set_option maxHeartbeats 4000000 in
theorem take_no (t : ByteArray) (p : Nat) (er : Int) (pl : Nat) (rb : Nat) (bs : List GBk) (rs : List GRd) (w0 w : World) (S0 : St w0 w ((rb, r9C t p er pl, 77) :: bs) rs) (ht : t.size ≤ 100000) (hp : p ≤ 100100) (b : Nat) (hb : ¬ sgV t (blN t p) er = b) : Calls Tryd.prog 77 #[.pointer (some ⟨rb, 0, none⟩), .int .u8 b] w fun E w' => E = .returned (.bool false) ∧ St w0 w' ((rb, r9C t (blN t p) er pl, 77) :: bs) rs := by
  have hG : Hid (∀ W, St w0 W ((rb, r9C t p er pl, 77) :: bs) rs → Calls Tryd.prog 48 #[.pointer (some ⟨rb, 0, none⟩)] W fun E w' => E = .returned (.int .u8 (sgV t (blN t p) er)) ∧ St w0 w' ((rb, r9C t (blN t p) er pl, 77) :: bs) rs) := Lib.hid fun W hW => sign_any t p er pl rb bs rs w0 W hW ht hp
  have g1 : ((sgV t (blN t p) er : Int) == (b : Int)) = false := by rw [beq_eq_false_iff_ne]; omega
  generalize sgV t (blN t p) er = z at *
  generalize blN t p = q at *
  replace S0 := Lib.hid S0
  clear hb ht hp
  go_enter Tryd.func77, Tryd.ntmps77
  go_wp2_with fail
  refine (hG.out _ S0.out).mono ?_
  rintro e w1 ⟨rfl, S⟩
  clear S0 hG
  replace S := Lib.hid S
  go_wp2
  go_ret
  exact ⟨rfl, S.out⟩

set_option maxRecDepth 100000 in
set_option maxHeartbeats 4000000 in
theorem want_yes (t : ByteArray) (p : Nat) (er : Int) (pl : Nat) (rb : Nat) (bs : List GBk) (rs : List GRd) (w0 w : World) (S0 : St w0 w ((rb, r9C t p er pl, 77) :: bs) rs) (ht : t.size ≤ 100000) (hp : p ≤ 100100) (b : Nat) (hb : sgV t (blN t p) er = b) : Calls Tryd.prog 46 #[.pointer (some ⟨rb, 0, none⟩), .int .u8 b] w fun E w' => E = .returned (.tuple #[]) ∧ St w0 w' ((rb, r9C t (blN t p + 1) er pl, 77) :: bs) rs := by
  have hT := Lib.hid (take_yes t p er pl rb bs rs w0 w S0 ht hp b hb)
  clear hb ht hp S0
  go_enter Tryd.func46, Tryd.ntmps46
  go_wp2_with fail
  refine hT.out.mono ?_
  rintro e w1 ⟨rfl, S⟩
  replace S := Lib.hid S
  clear hT
  go_wp2
  exact bodyPost_end (results_none rfl _ _ _) rfl ⟨rfl, S.out⟩

set_option maxRecDepth 100000 in
set_option maxHeartbeats 4000000 in
theorem want_no (t : ByteArray) (p : Nat) (er : Int) (pl : Nat) (rb : Nat) (bs : List GBk) (rs : List GRd) (w0 w : World) (S0 : St w0 w ((rb, r9C t p er pl, 77) :: bs) rs) (ht : t.size ≤ 100000) (hp : p ≤ 100100) (b : Nat) (hb : ¬ sgV t (blN t p) er = b) : Calls Tryd.prog 46 #[.pointer (some ⟨rb, 0, none⟩), .int .u8 b] w fun E w' => E = .returned (.tuple #[]) ∧ St w0 w' ((rb, r9C t (blN t p) (if er = 0 then 3 else er) (if er = 0 then blN t p else pl), 77) :: bs) rs := by
  have hT := Lib.hid (take_no t p er pl rb bs rs w0 w S0 ht hp b hb)
  have hF : Hid (∀ W, St w0 W ((rb, r9C t (blN t p) er pl, 77) :: bs) rs → Calls Tryd.prog 49 #[.pointer (some ⟨rb, 0, none⟩), .int .i64 3] W fun E w' => E = .returned (.tuple #[]) ∧ St w0 w' ((rb, r9C t (blN t p) (if er = 0 then 3 else er) (if er = 0 then blN t p else pl), 77) :: bs) rs) := Lib.hid fun W hW => fail_any t (blN t p) er pl rb bs rs w0 W hW 3
  generalize (if er = 0 then (3 : Int) else er) = e2 at *
  generalize (if er = 0 then blN t p else pl) = p2 at *
  clear hb ht hp S0
  go_enter Tryd.func46, Tryd.ntmps46
  go_wp2_with fail
  refine hT.out.mono ?_
  rintro e w1 ⟨rfl, S⟩
  clear hT
  go_wp2_with fail
  refine (hF.out _ S).mono ?_
  rintro e w2 ⟨rfl, S2⟩
  replace S2 := Lib.hid S2
  clear hF S
  go_wp2
  exact bodyPost_end (results_none rfl _ _ _) rfl ⟨rfl, S2.out⟩
end Go.Proofs.YthbkdjbmkhmlnaaDoor
namespace Go.Proofs.YthbkdjbmkhmlnaaDoor
open Go.RowKit
set_option linter.unusedVariables false

/-- The sign as a byte. -/
def sgC (t : ByteArray) (q : Nat) (er : Int) : UInt8 := if er = 0 then (t.data.toList[q]?).getD 0 else 0
theorem sg_byte (t : ByteArray) (q : Nat) (er : Int) : sgV t q er = (sgC t q er).toNat := by
  unfold sgV sgC
  split
  · cases t.data.toList[q]? <;> rfl
  · rfl
theorem sgC_pos {t : ByteArray} {q : Nat} {er : Int} (h : letB (sgC t q er) = true) : er = 0 ∧ ∃ hq : q < t.size, sgC t q er = t[q] := by
  unfold sgC at h ⊢
  by_cases he : er = 0
  · rw [if_pos he] at h ⊢
    refine ⟨he, ?_⟩
    rcases Nat.lt_or_ge q t.size with hq | hq
    · exact ⟨hq, by rw [toList_get hq]; rfl⟩
    · rw [List.getElem?_eq_none (by rw [toList_len]; exact hq)] at h
      exact absurd h (by decide)
  · rw [if_neg he] at h
    exact absurd h (by decide)
/-- The word at a place. -/
def wdL (t : ByteArray) (q : Nat) : List UInt8 := (t.data.toList.drop q).takeWhile innB
def wdB (t : ByteArray) (q : Nat) (er : Int) : ByteArray := if letB (sgC t q er) then ⟨(wdL t q).toArray⟩ else ByteArray.empty
theorem wd_ext {t : ByteArray} {q k : Nat} (hk : q + k ≤ t.size) (h1 : ∀ j, q ≤ j → j < q + k → ∀ h : j < t.size, innB t[j] = true) (h2 : ∀ h : q + k < t.size, innB t[q + k] = false) : t.extract q (q + k) = ⟨(wdL t q).toArray⟩ := by
  apply ByteArray.ext
  apply Array.ext'
  rw [Lib.extract_data, show q + k - q = k by omega]
  show _ = wdL t q
  unfold wdL
  have hd : ∀ (k q : Nat), q + k ≤ t.size → (∀ j, q ≤ j → j < q + k → ∀ h : j < t.size, innB t[j] = true) → (∀ h : q + k < t.size, innB t[q + k] = false) → (t.data.toList.drop q).take k = (t.data.toList.drop q).takeWhile innB := by
    intro k
    induction k with
    | zero =>
      intro q hq a1 a2
      rw [List.take_zero]
      rcases Nat.lt_or_ge q t.size with hl | hl
      · have := a2 hl
        rw [drop_one (toList_get hl), List.takeWhile_cons]
        simp only [Nat.add_zero] at this
        rw [this]; rfl
      · rw [List.drop_eq_nil_of_le (by rw [toList_len]; exact hl)]; rfl
    | succ k ih =>
      intro q hq a1 a2
      have hl : q < t.size := by omega
      have := a1 q (Nat.le_refl _) (by omega) hl
      rw [drop_one (toList_get hl), List.take_succ_cons, List.takeWhile_cons, this, if_pos rfl]
      rw [ih (q + 1) (by omega) (fun j b1 b2 h => a1 j (by omega) (by omega) h) (fun h => by
        have e : q + 1 + k = q + (k + 1) := by omega
        have := a2 (by omega)
        simpa only [e] using this)]
  exact hd k q hk h1 h2
set_option maxRecDepth 100000 in
set_option maxHeartbeats 4000000 in
theorem word_any (t : ByteArray) (p : Nat) (er : Int) (pl : Nat) (rb : Nat) (bs : List GBk) (rs : List GRd) (w0 w : World) (S0 : St w0 w ((rb, r9C t p er pl, 77) :: bs) rs) (ht : t.size ≤ 100000) (hp : p ≤ 100100) : Calls Tryd.prog 76 #[.pointer (some ⟨rb, 0, none⟩)] w fun E w' => E = .returned (.string (wdB t (blN t p) er)) ∧ St w0 w' ((rb, r9C t (blN t p) er pl, 77) :: bs) rs := by
  have hG : Hid (∀ W, St w0 W ((rb, r9C t p er pl, 77) :: bs) rs → Calls Tryd.prog 48 #[.pointer (some ⟨rb, 0, none⟩)] W fun E w' => E = .returned (.int .u8 (sgV t (blN t p) er)) ∧ St w0 w' ((rb, r9C t (blN t p) er pl, 77) :: bs) rs) := Lib.hid fun W hW => sign_any t p er pl rb bs rs w0 W hW ht hp
  have hbl := bl_le ht hp
  rw [sg_byte] at hG
  have hb := Lib.hid ht
  replace S0 := Lib.hid S0
  unfold wdB
  have hps := fun h => sgC_pos (t := t) (q := blN t p) (er := er) h
  generalize sgC t (blN t p) er = c at *
  generalize blN t p = q at *
  have hL := Lib.hid (fun W => risLetter_any c W)
  clear ht hp
  cases hl : letB c
  · rw [hl] at hL
    clear hl hps hbl
    simp only [Bool.false_eq_true, if_false]
    go_enter Tryd.func76, Tryd.ntmps76
    go_wp2_with fail
    refine (hG.out _ S0.out).mono ?_
    rintro e w1 ⟨rfl, S⟩
    clear S0 hG
    replace S := Lib.hid S
    go_wp2_with fail
    refine (hL.out _).mono ?_
    rintro e w2 ⟨rfl, rfl⟩
    go_wp2
    go_ret
    exact ⟨rfl, S.out⟩
  · rw [hl] at hL
    obtain ⟨rfl, hq, hqc⟩ := hps hl
    have hI := Lib.hid (fun c W => rInner_any c W)
    simp only [if_true]
    have hbq := Lib.hid hbl
    replace hq := Lib.hid hq
    clear hl hps hbl hqc
    go_enter Tryd.func76, Tryd.ntmps76
    go_wp2_with fail
    refine (hG.out _ S0.out).mono ?_
    rintro e w1 ⟨rfl, S⟩
    clear S0 hG
    have c_0 := S.cl 0 0 rfl rfl
    have c_1 := S.cl 0 1 rfl rfl
    have hlt0 := S.lt 0 rfl
    replace S := Lib.hid S
    go_wp2_with fail
    refine (hL.out _).mono ?_
    rintro e w2 ⟨rfl, rfl⟩
    clear hL
    go_wp2
    go_loopw [3] (fun ev wr => ∃ m : Nat, q ≤ m ∧ m ≤ t.size ∧ ev = .int .i64 m ∧ wr = w2 ∧ (∀ j, q ≤ j → j < m → ∀ h : j < t.size, innB t[j] = true)) (fun ev _ => t.size - (intOf ev).toNat)
    case atStart => exact ⟨q, Nat.le_refl _, Nat.le_of_lt hq.out, rfl, rfl, fun j h1 h2 => absurd h2 (by omega)⟩
    case round =>
      obtain ⟨m, hqm, hin, rfl, rfl, hall⟩ := hrel
      have hwd : Hid ((∀ h : m < t.size, innB t[m] = false) → t.extract q m = ⟨(wdL t q).toArray⟩) := Lib.hid fun h => by
        have := wd_ext (t := t) (q := q) (k := m - q) (by omega) (fun j h1 h2 h3 => hall j h1 (by omega) h3) (fun h3 => by
          have e : q + (m - q) = m := by omega
          simpa only [e] using h (by omega))
        rwa [show q + (m - q) = m by omega] at this
      have hqm2 := Lib.hid hqm
      have g4 : (q : Int) ≤ (m : Int) := by omega
      have g5 : (m : Int) ≤ (t.size : Int) := by omega
      have g6 : (0 : Int) ≤ (q : Int) := by omega
      have g7 : (0 : Int) ≤ (m : Int) := by omega
      by_cases hlt : m < t.size
      · have hih := Lib.hid hlt
        have g1 : (m : Int) < (t.size : Int) := by omega
        have hX := Lib.hid (hI.out t[m])
        have hyi : Hid (innB t[m] = true → ∀ j, q ≤ j → j < m + 1 → ∀ h : j < t.size, innB t[j] = true) := Lib.hid fun h1 j h2 h3 h4 => by
          rcases Nat.lt_or_ge j m with h5 | h5
          · exact hall j h2 h5 h4
          · obtain rfl : j = m := by omega
            exact h1
        have hni : Hid (innB t[m] = false → t.extract q m = ⟨(wdL t q).toArray⟩) := Lib.hid fun h => hwd.out (fun _ => h)
        generalize innB t[m] = v at *
        clear hall hin hqm hwd
        cases v
        · have hwx := Lib.hid (hni.out rfl)
          clear hyi hni
          go_wp2_with fail
          refine (hX.out _).mono ?_
          rintro e w3 ⟨rfl, rfl⟩
          go_upto_region 6 with fail
          have hbase := Lib.hid (St.new w3)
          refine RW.begin (Z := []) (S := (fun W => Below w3.heap.size w3 W)) (by kernel_rfl) ?_ hbase.out ?_
          · exact ⟨by kernel_rfl, zis_nil, by decide, by decide, nol_nil, (fun _ _ h => h.bel)⟩
          intro hzk
          refine RW.t (i := 0) (v := .pointer (some ⟨rb, 0, none⟩)) (some 30) at0 (hy := fun _ _ => by kernel_rfl) (h := ?_)
          refine RW.t (i := 1) (v := .pointer (some ⟨rb, 0, none⟩)) (some 31) at1 (hy := fun _ _ => by go_simp) (h := ?_)
          refine RW.t (i := 2) (v := .pointer (some ⟨rb, 0, none⟩)) (some 32) at2 (hy := fun _ _ => by go_simp) (h := ?_)
          refine RW.t (i := 3) (v := .string t) (some 33) at3 (hy := fun W hS => by (have k0 := bel_cell hS c_0; clear hS; go_simp)) (h := ?_)
          refine RW.t (i := 4) (v := .pointer (some ⟨rb, 0, none⟩)) (some 34) at4 (hy := fun _ _ => by kernel_rfl) (h := ?_)
          refine RW.t (i := 5) (v := .pointer (some ⟨rb, 0, none⟩)) (some 35) at5 (hy := fun _ _ => by go_simp) (h := ?_)
          refine RW.t (i := 6) (v := .pointer (some ⟨rb, 1, none⟩)) (some 36) at6 (hy := fun _ _ => by go_simp) (h := ?_)
          refine RW.t (i := 7) (v := .int .i64 q) (some 37) at7 (hy := fun W hS => by (have k0 := bel_cell hS c_1; clear hS; go_simp)) (h := ?_)
          refine RW.t (i := 8) (v := .int .i64 m) (some 38) at8 (hy := fun _ _ => by kernel_rfl) (h := ?_)
          refine RW.t (i := 9) (v := .string (t.extract q m)) (some 39) at9 (hy := fun _ _ => by go_simp) (h := ?_)
          refine RW.tail hzk.out (by kernel_rfl) ?_
          intro gs' w5 hgs' hS Sb
          obtain rfl := len0 hgs'
          simp only [mark, fill, Act.put, List.setIfInBounds_toArray, List.set_cons_zero, List.set_cons_succ]
          refine Wk.o (i := 10) at10 (by kernel_rfl) fun K' hK => ?_
          go_simp
          refine hK.out _ _ hS ?_
          clear hK K'
          try simp only [Act.put, List.setIfInBounds_toArray, List.set_cons_zero, List.set_cons_succ]
          refine Wk.done (by kernel_rfl) ?_
          have S5 := Lib.hid (S.out.call hS)
          clear Sb hgs' hzk hbase hS S c_0 c_1 hlt0
          try go_simp
          go_wp2
          go_ret
          rw [hwx.out]
          exact ⟨rfl, S5.out⟩
        · have hn := Lib.hid (hyi.out rfl)
          clear hyi hni
          have hlt := hih.out
          have hbb := hb.out
          go_wp2_with fail
          refine (hX.out _).mono ?_
          rintro e w3 ⟨rfl, rfl⟩
          go_wp2
          go_roundw
          case rel => exact ⟨m + 1, by (have := hqm2.out; omega), by omega, by go_num, (by first | rfl | trivial), hn.out⟩
          case measure => simp [intOf]; omega
      · have hwx := Lib.hid (hwd.out (fun h => absurd h hlt))
        have g1 : ¬ (m : Int) < (t.size : Int) := by omega
        clear hall hin hqm hwd hlt
        go_upto_region 6 with fail
        have hbase := Lib.hid (St.new wr)
        refine RW.begin (Z := []) (S := (fun W => Below wr.heap.size wr W)) (by kernel_rfl) ?_ hbase.out ?_
        · exact ⟨by kernel_rfl, zis_nil, by decide, by decide, nol_nil, (fun _ _ h => h.bel)⟩
        intro hzk
        refine RW.t (i := 0) (v := .pointer (some ⟨rb, 0, none⟩)) (some 30) at0 (hy := fun _ _ => by kernel_rfl) (h := ?_)
        refine RW.t (i := 1) (v := .pointer (some ⟨rb, 0, none⟩)) (some 31) at1 (hy := fun _ _ => by go_simp) (h := ?_)
        refine RW.t (i := 2) (v := .pointer (some ⟨rb, 0, none⟩)) (some 32) at2 (hy := fun _ _ => by go_simp) (h := ?_)
        refine RW.t (i := 3) (v := .string t) (some 33) at3 (hy := fun W hS => by (have k0 := bel_cell hS c_0; clear hS; go_simp)) (h := ?_)
        refine RW.t (i := 4) (v := .pointer (some ⟨rb, 0, none⟩)) (some 34) at4 (hy := fun _ _ => by kernel_rfl) (h := ?_)
        refine RW.t (i := 5) (v := .pointer (some ⟨rb, 0, none⟩)) (some 35) at5 (hy := fun _ _ => by go_simp) (h := ?_)
        refine RW.t (i := 6) (v := .pointer (some ⟨rb, 1, none⟩)) (some 36) at6 (hy := fun _ _ => by go_simp) (h := ?_)
        refine RW.t (i := 7) (v := .int .i64 q) (some 37) at7 (hy := fun W hS => by (have k0 := bel_cell hS c_1; clear hS; go_simp)) (h := ?_)
        refine RW.t (i := 8) (v := .int .i64 m) (some 38) at8 (hy := fun _ _ => by kernel_rfl) (h := ?_)
        refine RW.t (i := 9) (v := .string (t.extract q m)) (some 39) at9 (hy := fun _ _ => by go_simp) (h := ?_)
        refine RW.tail hzk.out (by kernel_rfl) ?_
        intro gs' w5 hgs' hS Sb
        obtain rfl := len0 hgs'
        simp only [mark, fill, Act.put, List.setIfInBounds_toArray, List.set_cons_zero, List.set_cons_succ]
        refine Wk.o (i := 10) at10 (by kernel_rfl) fun K' hK => ?_
        go_simp
        refine hK.out _ _ hS ?_
        clear hK K'
        try simp only [Act.put, List.setIfInBounds_toArray, List.set_cons_zero, List.set_cons_succ]
        refine Wk.done (by kernel_rfl) ?_
        have S5 := Lib.hid (S.out.call hS)
        clear Sb hgs' hzk hbase hS S c_0 c_1 hlt0
        try go_simp
        go_wp2
        go_ret
        rw [hwx.out]
        exact ⟨rfl, S5.out⟩
end Go.Proofs.YthbkdjbmkhmlnaaDoor
namespace Go.Proofs.YthbkdjbmkhmlnaaDoor
open Go.RowKit
set_option linter.unusedVariables false

theorem wd_size (t : ByteArray) (q : Nat) (er : Int) (hq : q ≤ t.size) : q + (wdB t q er).size ≤ t.size := by
  unfold wdB
  split
  · have h1 : (⟨(wdL t q).toArray⟩ : ByteArray).size = (wdL t q).length := by simp [ByteArray.size]
    have h2 : (wdL t q).length ≤ t.size - q := by
      unfold wdL
      exact Nat.le_trans (List.takeWhile_sublist _).length_le (by rw [List.length_drop, toList_len]; exact Nat.le_refl _)
    rw [h1]; omega
  · exact hq

theorem wd_pos {t : ByteArray} {q : Nat} {er : Int} (h : nameB (wdB t q er) = true) : q < t.size := by
  unfold wdB at h
  split at h
  · rename_i hl
    obtain ⟨_, hq, _⟩ := sgC_pos hl
    exact hq
  · exact absurd h (by decide)

set_option maxRecDepth 100000 in
set_option maxHeartbeats 4000000 in
theorem name9_no (t : ByteArray) (p : Nat) (er : Int) (pl : Nat) (rb : Nat) (bs : List GBk) (rs : List GRd) (w0 w : World) (S0 : St w0 w ((rb, r9C t p er pl, 77) :: bs) rs) (ht : t.size ≤ 100000) (hp : p ≤ 100100) (hx : nameB (wdB t (blN t p) er) = false) : Calls Tryd.prog 45 #[.pointer (some ⟨rb, 0, none⟩)] w fun E w' => E = .returned (.string ByteArray.empty) ∧ St w0 w' ((rb, r9C t (blN t p) (if er = 0 then 3 else er) (if er = 0 then blN t p else pl), 77) :: bs) rs := by
  have hW : Hid (∀ W, St w0 W ((rb, r9C t p er pl, 77) :: bs) rs → Calls Tryd.prog 76 #[.pointer (some ⟨rb, 0, none⟩)] W fun E w' => E = .returned (.string (wdB t (blN t p) er)) ∧ St w0 w' ((rb, r9C t (blN t p) er pl, 77) :: bs) rs) := Lib.hid fun W hW => word_any t p er pl rb bs rs w0 W hW ht hp
  have hF : Hid (∀ W, St w0 W ((rb, r9C t (blN t p) er pl, 77) :: bs) rs → Calls Tryd.prog 49 #[.pointer (some ⟨rb, 0, none⟩), .int .i64 3] W fun E w' => E = .returned (.tuple #[]) ∧ St w0 w' ((rb, r9C t (blN t p) (if er = 0 then 3 else er) (if er = 0 then blN t p else pl), 77) :: bs) rs) := Lib.hid fun W hW => fail_any t (blN t p) er pl rb bs rs w0 W hW 3
  have hM := Lib.hid (fun W => rName_any (wdB t (blN t p) er) W)
  rw [hx] at hM
  generalize (if er = 0 then (3 : Int) else er) = e2 at *
  generalize (if er = 0 then blN t p else pl) = p2 at *
  generalize wdB t (blN t p) er = x at *
  replace S0 := Lib.hid S0
  clear ht hp hx
  go_enter Tryd.func45, Tryd.ntmps45
  go_wp2_with fail
  refine (hW.out _ S0.out).mono ?_
  rintro e w1 ⟨rfl, S⟩
  clear S0 hW
  replace S := Lib.hid S
  go_wp2_with fail
  refine (hM.out _).mono ?_
  rintro e w2 ⟨rfl, rfl⟩
  clear hM
  go_wp2_with fail
  refine (hF.out _ S.out).mono ?_
  rintro e w3 ⟨rfl, S2⟩
  clear S hF
  replace S2 := Lib.hid S2
  go_wp2
  go_ret
  exact ⟨rfl, S2.out⟩

set_option maxRecDepth 100000 in
set_option maxHeartbeats 4000000 in
theorem name9_yes (t : ByteArray) (p : Nat) (er : Int) (pl : Nat) (rb : Nat) (bs : List GBk) (rs : List GRd) (w0 w : World) (S0 : St w0 w ((rb, r9C t p er pl, 77) :: bs) rs) (ht : t.size ≤ 100000) (hp : p ≤ 100100) (hx : nameB (wdB t (blN t p) er) = true) : Calls Tryd.prog 45 #[.pointer (some ⟨rb, 0, none⟩)] w fun E w' => E = .returned (.string (wdB t (blN t p) er)) ∧ St w0 w' ((rb, r9C t (blN t p + (wdB t (blN t p) er).size) er pl, 77) :: bs) rs := by
  have hW : Hid (∀ W, St w0 W ((rb, r9C t p er pl, 77) :: bs) rs → Calls Tryd.prog 76 #[.pointer (some ⟨rb, 0, none⟩)] W fun E w' => E = .returned (.string (wdB t (blN t p) er)) ∧ St w0 w' ((rb, r9C t (blN t p) er pl, 77) :: bs) rs) := Lib.hid fun W hW => word_any t p er pl rb bs rs w0 W hW ht hp
  have hM := Lib.hid (fun W => rName_any (wdB t (blN t p) er) W)
  rw [hx] at hM
  have hbl := bl_le ht hp
  have hws := wd_size t (blN t p) er (Nat.le_of_lt (wd_pos hx))
  generalize wdB t (blN t p) er = x at *
  generalize blN t p = q at *
  obtain ⟨m, hm⟩ : ∃ m, m = q + x.size := ⟨_, rfl⟩
  have hm2 : (q : Int) + (x.size : Int) = (m : Int) := by omega
  have hm5 : m ≤ 100000 := by omega
  rw [← hm]
  replace S0 := Lib.hid S0
  clear ht hp hx hbl hws hm
  go_enter Tryd.func45, Tryd.ntmps45
  go_wp2_with fail
  refine (hW.out _ S0.out).mono ?_
  rintro e w1 ⟨rfl, S⟩
  clear S0 hW
  have c_1 := S.cl 0 1 rfl rfl
  have f_1 := S.f 0 1 rfl
  have hlt0 := S.lt 0 rfl
  have S6 := Lib.hid (S.set 0 1 (.int .i64 (m : Int)) rfl (fun _ => by simp))
  replace S := Lib.hid S
  go_wp2_with fail
  refine (hM.out _).mono ?_
  rintro e w2 ⟨rfl, rfl⟩
  clear hM
  go_wp2
  go_ret
  exact ⟨rfl, S6.out⟩
end Go.Proofs.YthbkdjbmkhmlnaaDoor
