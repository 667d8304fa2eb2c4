/- The program's reader: where it stands, in lists of bytes. -/
import Derived.Test.YtjebpmjbdchdlaaDoorM06
import Derived.Test.YtjebpmjbdchdlaaDoorM07
import Derived.Deep.CutRange
import Derived.Shelf.Strings.Trim
import Derived.Shelf.Small.Utf8
import Derived.Shelf.Small.Strs
import Derived.Shelf.Strconv.Itoa0
import Derived.Shelf.Strconv.Itoa1
import Derived.Shelf.LaysM
import Derived.Shelf.Strconv.Itoa2
import Derived.Shelf.Strconv.Itoa3
import Derived.Shelf.Strconv.Clone
import Derived.Shelf.Strings.Search1
import Derived.Shelf.Strings.Search2
import Derived.Shelf.Strings.Search3
import Derived.Shelf.Strings.Shaped
import Derived.Shelf.Strings.Runes
import Derived.Shelf.Strings.AsciiSet
import Derived.Shelf.Unicode.DecodeSlow
import Derived.Test.YtjebpmjbdchdlaaDoorProg
import Derived.Test.YtjebpmjbdchdlaaDoorM05
namespace Go.Proofs.YtjebpmjbdchdlaaDoor
open Go.RowKit
set_option linter.unusedVariables false

theorem letB_inn {c : UInt8} (h : letB c = true) : innB c = true := by unfold innB; simp [h]
theorem fwL_fw : ∀ l : List UInt8, fwL l = F9.fw l
  | [] => rfl
  | c :: t => by
    rw [fwL, F9.fw]
    by_cases h : letB c = true
    · rw [if_pos h, if_pos h, List.takeWhile_cons, if_pos (letB_inn h)]
    · rw [if_neg h, if_neg h]
      by_cases h2 : digB c = true
      · rw [if_pos h2, if_pos h2, List.takeWhile_cons, if_pos h2]
      · rw [if_neg h2, if_neg h2]
theorem fw_len (r : F9.Bs) : (F9.fw r).length ≤ r.length := by
  cases r with
  | nil => exact Nat.le_refl _
  | cons c t =>
    rw [F9.fw]
    split
    · have := (List.takeWhile_sublist innB (l := t)).length_le; simp; omega
    · split
      · have := (List.takeWhile_sublist digB (l := t)).length_le; simp; omega
      · simp
theorem suf_drop {l s : List UInt8} (h : s <:+ l) : l.drop (l.length - s.length) = s := by
  obtain ⟨a, rfl⟩ := h
  rw [List.length_append, Nat.add_sub_cancel, List.drop_left]
/-- The word at hand, its place, and what is left there. -/
def RI (t : ByteArray) (r : F9.Bs) (x : ByteArray) (p : Nat) : Prop := p ≤ t.size ∧ t.data.toList.drop p = r ∧ x.data.toList = F9.fw r
theorem ri_new (t : ByteArray) (q : Nat) : RI t (F9.trm (t.data.toList.drop q)) (nwB t q) (naN t q) := by
  have e : (rsB t q).data.toList = F9.trm (t.data.toList.drop q) := rfl
  have e2 : (rsB t q).size = (F9.trm (t.data.toList.drop q)).length := by rw [← e, toList_len]
  refine ⟨by unfold naN; omega, ?_, ?_⟩
  · unfold naN
    rw [e2, ← toList_len t]
    exact suf_drop ((List.dropWhile_suffix _).trans (List.drop_suffix _ _))
  · show (fwL (rsB t q).data.toList) = _
    rw [fwL_fw, e]
section
variable {t x : ByteArray} {r : F9.Bs} {p : Nat}
theorem RI.xl (h : RI t r x p) : x.size = (F9.fw r).length := by rw [← h.2.2, toList_len]
theorem RI.rl (h : RI t r x p) : p + r.length = t.size := by
  have := h.1
  rw [← h.2.1, List.length_drop, toList_len]; omega
theorem RI.fits (h : RI t r x p) : p + x.size ≤ t.size := by
  have h1 := h.xl
  have h2 := h.rl
  have h3 := fw_len r
  omega
theorem RI.next (h : RI t r x p) : RI t (F9.nx r) (nwB t (p + x.size)) (naN t (p + x.size)) := by
  have := ri_new t (p + x.size)
  rw [← List.drop_drop, h.2.1, h.xl] at this
  rw [h.xl]
  exact this
theorem RI.is (h : RI t r x p) (l : F9.Bs) : x = ⟨l.toArray⟩ ↔ F9.fw r = l := by
  rw [← h.2.2]
  constructor
  · rintro rfl; simp
  · intro e; apply ByteArray.ext; apply Array.ext'; rw [e]
theorem RI.name (h : RI t r x p) : nameB x = nameL (F9.fw r) := by unfold nameB; rw [h.2.2]
theorem RI.eqx (h : RI t r x p) : x = ⟨(F9.fw r).toArray⟩ := (h.is _).2 rfl
end
/-- The binary operation that a text begins with, as a number. -/
def bopN (r : F9.Bs) : Nat := (F9.bop r).getD 0
theorem bop_is {t x : ByteArray} {r : F9.Bs} {p : Nat} (h : RI t r x p) : bopB x = (bopN r : Int) := by
  unfold bopN bopB F9.bop
  have e1 := h.is [43]
  have e2 := h.is [45]
  have e3 := h.is [58]
  have e4 := h.is [42]
  have e5 := h.is [47]
  simp only [e1, e2, e3, e4, e5]
  clear e1 e2 e3 e4 e5
  by_cases a1 : F9.fw r = [43]
  · simp [a1]
  by_cases a2 : F9.fw r = [45]
  · simp [a2]
  by_cases a3 : F9.fw r = [58]
  · simp [a3]
  by_cases a4 : F9.fw r = [42]
  · simp [a4]
  by_cases a5 : F9.fw r = [47]
  · simp [a5]
  rw [if_neg a1, if_neg a2, if_neg a3, if_neg a4, if_neg a5]
  split <;> simp_all
/-- A node of the grammar as it lies in memory. -/
def toNd (x : F9.Nd) : Nd := ⟨(x.op : Int), ⟨x.nm.toArray⟩, (x.k : Int)⟩
def wtL (W : List Nat) : List Int := W.reverse.map fun n : Nat => (n : Int)
/-- The program's reader: the response, what is left, the nodes, what waits. -/
def RS (fs : List GBk) (w0 W : World) (rb : Nat) (t nm : ByteArray) (r : F9.Bs) (N : List F9.Nd) (Wt : List Nat) : Prop :=
  ∃ (x : ByteArray) (p : Nat) (l1 : Sl Nd) (ob1 : List GBk) (l2 : Sl Int) (ob2 : List GBk), RI t r x p ∧ l1.L = N.map toNd ∧ l2.L = wtL Wt ∧ OBn ob1 l1 ∧ OBi ob2 l2 ∧
    St w0 W ((rb, rdC t x p nm l1.A l1.L.length l1.c l2.A l2.L.length l2.c, 35) :: (ob1 ++ (ob2 ++ fs))) []

section
variable {fs : List GBk} {w0 W : World} {rb : Nat} {t nm : ByteArray} {r : F9.Bs} {N : List F9.Nd} {Wt : List Nat}
theorem RS.next (h : RS fs w0 W rb t nm r N Wt) (ht : t.size ≤ 100000) : Calls Tryd.prog 18 #[.pointer (some ⟨rb, 0, none⟩)] W fun e w' => e = .returned (.tuple #[]) ∧ RS fs w0 w' rb t nm (F9.nx r) N Wt := by
  obtain ⟨x, p, l1, ob1, l2, ob2, h1, h2, h3, h4, h5, S⟩ := h
  refine (next_any t x p nm l1.A l1.L.length l1.c l2.A l2.L.length l2.c rb _ _ w0 W S ht h1.fits).mono ?_
  rintro e w' ⟨rfl, S'⟩
  exact ⟨rfl, _, _, l1, ob1, l2, ob2, h1.next, h2, h3, h4, h5, S'⟩
theorem RS.skipN (h : RS fs w0 W rb t nm r N Wt) {u : F9.Bs} (hu : ¬ F9.fw r = u) : Calls Tryd.prog 20 #[.pointer (some ⟨rb, 0, none⟩), .string ⟨u.toArray⟩] W fun e w' => e = .returned (.bool false) ∧ RS fs w0 w' rb t nm r N Wt := by
  obtain ⟨x, p, l1, ob1, l2, ob2, h1, h2, h3, h4, h5, S⟩ := h
  refine (skip_no t x p nm l1.A l1.L.length l1.c l2.A l2.L.length l2.c rb _ _ w0 W S ⟨u.toArray⟩ (fun e => hu ((h1.is u).1 e))).mono ?_
  rintro e w' ⟨rfl, S'⟩
  exact ⟨rfl, x, p, l1, ob1, l2, ob2, h1, h2, h3, h4, h5, S'⟩
theorem RS.skipY (h : RS fs w0 W rb t nm r N Wt) (ht : t.size ≤ 100000) {u : F9.Bs} (hu : F9.fw r = u) : Calls Tryd.prog 20 #[.pointer (some ⟨rb, 0, none⟩), .string ⟨u.toArray⟩] W fun e w' => e = .returned (.bool true) ∧ RS fs w0 w' rb t nm (F9.nx r) N Wt := by
  obtain ⟨x, p, l1, ob1, l2, ob2, h1, h2, h3, h4, h5, S⟩ := h
  obtain rfl := (h1.is u).2 hu
  refine (skip_yes t _ p nm l1.A l1.L.length l1.c l2.A l2.L.length l2.c rb _ _ w0 W S ht h1.fits).mono ?_
  rintro e w' ⟨rfl, S'⟩
  exact ⟨rfl, _, _, l1, ob1, l2, ob2, h1.next, h2, h3, h4, h5, S'⟩
theorem RS.nameN (h : RS fs w0 W rb t nm r N Wt) (hn : nameL (F9.fw r) = false) : Calls Tryd.prog 19 #[.pointer (some ⟨rb, 0, none⟩)] W fun e w' => e = .returned (.tuple #[.string ByteArray.empty, .bool false]) ∧ RS fs w0 w' rb t nm r N Wt := by
  obtain ⟨x, p, l1, ob1, l2, ob2, h1, h2, h3, h4, h5, S⟩ := h
  refine (rname_no t x p nm l1.A l1.L.length l1.c l2.A l2.L.length l2.c rb _ _ w0 W S (by rw [h1.name]; exact hn)).mono ?_
  rintro e w' ⟨rfl, S'⟩
  exact ⟨rfl, x, p, l1, ob1, l2, ob2, h1, h2, h3, h4, h5, S'⟩
theorem RS.nameY (h : RS fs w0 W rb t nm r N Wt) (ht : t.size ≤ 100000) (hn : nameL (F9.fw r) = true) : Calls Tryd.prog 19 #[.pointer (some ⟨rb, 0, none⟩)] W fun e w' => e = .returned (.tuple #[.string ⟨(F9.fw r).toArray⟩, .bool true]) ∧ RS fs w0 w' rb t nm (F9.nx r) N Wt := by
  obtain ⟨x, p, l1, ob1, l2, ob2, h1, h2, h3, h4, h5, S⟩ := h
  refine (rname_yes t x p nm l1.A l1.L.length l1.c l2.A l2.L.length l2.c rb _ _ w0 W S (by rw [h1.name]; exact hn) ht h1.fits).mono ?_
  rintro e w' ⟨rfl, S'⟩
  exact ⟨by rw [h1.eqx], _, _, l1, ob1, l2, ob2, h1.next, h2, h3, h4, h5, S'⟩
theorem RS.call (h : RS fs w0 W rb t nm r N Wt) {W' : World} (hb : Below W.heap.size W W') : RS fs w0 W' rb t nm r N Wt := by
  obtain ⟨x, p, l1, ob1, l2, ob2, h1, h2, h3, h4, h5, S⟩ := h
  exact ⟨x, p, l1, ob1, l2, ob2, h1, h2, h3, h4, h5, S.call hb⟩
theorem RS.bel (h : RS fs w0 W rb t nm r N Wt) : Below w0.heap.size w0 W := by
  obtain ⟨x, p, l1, ob1, l2, ob2, h1, h2, h3, h4, h5, S⟩ := h
  exact S.bel
theorem permX {α : Type} (p : α) (A B F : List α) : (p :: (A ++ (B ++ F))).Perm ((p :: (A ++ F)) ++ B) := by
  refine List.Perm.cons p ?_
  show (A ++ (B ++ F)).Perm ((A ++ F) ++ B)
  rw [List.append_assoc]
  exact List.Perm.append_left A List.perm_append_comm
theorem permY {α : Type} (p q : α) (A B F : List α) : (q :: (p :: (A ++ (B ++ F)))).Perm (p :: (A ++ (B ++ (q :: F)))) := by
  refine (List.Perm.swap p q _).trans (List.Perm.cons p ?_)
  rw [← List.append_assoc, ← List.append_assoc]
  exact List.perm_middle.symm
/-- One more block is kept. -/
theorem RS.keep (h : RS fs w0 W rb t nm r N Wt) (cs : Array Value) (ty : Nat) (hn : NoL cs) : RS ((W.heap.size, cs, ty) :: fs) w0 (W.alloc (.cells cs ty)) rb t nm r N Wt := by
  obtain ⟨x, p, l1, ob1, l2, ob2, h1, h2, h3, h4, h5, S⟩ := h
  exact ⟨x, p, l1, ob1, l2, ob2, h1, h2, h3, h4, h5, (S.alloc cs ty hn).prm (permY _ _ _ _ _)⟩
theorem RS.drop {q : GBk} (h : RS (q :: fs) w0 W rb t nm r N Wt) : RS fs w0 W rb t nm r N Wt := by
  obtain ⟨x, p, l1, ob1, l2, ob2, h1, h2, h3, h4, h5, S⟩ := h
  exact ⟨x, p, l1, ob1, l2, ob2, h1, h2, h3, h4, h5, (S.prm (permY _ _ _ _ _).symm).sub⟩
theorem RS.blk {g ty : Nat} {cs : Array Value} (h : RS ((g, cs, ty) :: fs) w0 W rb t nm r N Wt) : Cb W g cs ty := by
  obtain ⟨x, p, l1, ob1, l2, ob2, h1, h2, h3, h4, h5, S⟩ := h
  exact (S.prm (permY _ _ _ _ _).symm).cb 0 rfl
end
end Go.Proofs.YtjebpmjbdchdlaaDoor
namespace Go.Proofs.YtjebpmjbdchdlaaDoor
open Go.RowKit
set_option linter.unusedVariables false

/-- What the reading from the left ends with. -/
def Ev (s : Bool) (N : List F9.Nd) (W : List Nat) (r : F9.Bs) (X : F9.Rs (List F9.Nd)) : Prop := ∃ c, ∀ g, F9.mach (g + c) s N W r = X
section
variable {N : List F9.Nd} {W : List Nat} {r : F9.Bs} {X : F9.Rs (List F9.Nd)}
theorem Ev.one {s : Bool} {Y : Nat → F9.Rs (List F9.Nd)} (h : Ev s N W r X) (e : ∀ f, F9.mach (f + 1) s N W r = Y f) : ∃ c, ∀ g, Y (g + c) = X := by
  obtain ⟨c, h⟩ := h
  refine ⟨c, fun g => ?_⟩
  have := h (g + 1)
  rw [show g + 1 + c = (g + c) + 1 by omega, e] at this
  exact this
theorem Ev.paren (h : Ev false N W r X) (hb : F9.fw r = [40]) : Ev false N (0 :: W) (F9.nx r) X := h.one (Y := fun f => F9.mach f false N (0 :: W) (F9.nx r)) (fun f => by rw [F9.mach, if_pos hb])
theorem Ev.leaf_ok (h : Ev false N W r X) (hb : ¬ F9.fw r = [40]) {x : F9.Nd} {r1 : F9.Bs} (hl : F9.leaf r = .ok (x, r1)) : Ev true (N ++ [x]) W r1 X := h.one (Y := fun f => F9.mach f true (N ++ [x]) W r1) (fun f => by rw [F9.mach, if_neg hb, hl])
theorem Ev.leaf_err (h : Ev false N W r X) (hb : ¬ F9.fw r = [40]) {e : F9.Er} (hl : F9.leaf r = .error e) : X = .error e := by
  obtain ⟨c, hc⟩ := h.one (Y := fun _ => .error e) (fun f => by rw [F9.mach, if_neg hb, hl])
  exact (hc 0).symm
theorem Ev.hat_ok (h : Ev true N W r X) (hb : F9.fw r = [94]) {k : Nat} {r1 : F9.Bs} (he : F9.expo 1 6 (F9.nx r) = .ok (k, r1)) : Ev true (N ++ [⟨10, [], k⟩]) W r1 X := h.one (Y := fun f => F9.mach f true (N ++ [(⟨10, [], k⟩ : F9.Nd)]) W r1) (fun f => by rw [F9.mach, if_pos hb, he])
theorem Ev.hat_err (h : Ev true N W r X) (hb : F9.fw r = [94]) {e : F9.Er} (he : F9.expo 1 6 (F9.nx r) = .error e) : X = .error e := by
  obtain ⟨c, hc⟩ := h.one (Y := fun _ => .error e) (fun f => by rw [F9.mach, if_pos hb, he])
  exact (hc 0).symm
theorem Ev.close_no (h : Ev true N W r X) (h1 : ¬ F9.fw r = [94]) (hb : F9.fw r = [41]) (hf : (F9.fin 1 N W).2 = []) : X = .error (3, r) := by
  obtain ⟨c, hc⟩ := h.one (Y := fun _ => .error (3, r)) (fun f => by rw [F9.mach, if_neg h1, if_pos hb, hf])
  exact (hc 0).symm
theorem Ev.close_yes (h : Ev true N W r X) (h1 : ¬ F9.fw r = [94]) (hb : F9.fw r = [41]) {w : Nat} {W1 : List Nat} (hf : (F9.fin 1 N W).2 = w :: W1) : Ev true (F9.fin 1 N W).1 W1 (F9.nx r) X := h.one (Y := fun f => F9.mach f true (F9.fin 1 N W).1 W1 (F9.nx r)) (fun f => by rw [F9.mach, if_neg h1, if_pos hb, hf])
theorem Ev.bin (h : Ev true N W r X) (h1 : ¬ F9.fw r = [94]) (h2 : ¬ F9.fw r = [41]) {op : Nat} (hb : F9.bop r = some op) : Ev false (F9.fin (F9.rul op) N W).1 (op :: (F9.fin (F9.rul op) N W).2) (F9.nx r) X := h.one (Y := fun f => F9.mach f false (F9.fin (F9.rul op) N W).1 (op :: (F9.fin (F9.rul op) N W).2) (F9.nx r)) (fun f => by rw [F9.mach, if_neg h1, if_neg h2, hb])
theorem Ev.end_ok (h : Ev true N W r X) (h1 : ¬ F9.fw r = [94]) (h2 : ¬ F9.fw r = [41]) (hb : F9.bop r = none) (hr : F9.fw r = []) (hf : (F9.fin 1 N W).2 = []) : X = .ok (F9.fin 1 N W).1 := by
  obtain ⟨c, hc⟩ := h.one (Y := fun _ => .ok (F9.fin 1 N W).1) (fun f => by rw [F9.mach, if_neg h1, if_neg h2, hb]; simp [hr, hf])
  exact (hc 0).symm
theorem Ev.end_no (h : Ev true N W r X) (h1 : ¬ F9.fw r = [94]) (h2 : ¬ F9.fw r = [41]) (hb : F9.bop r = none) (hn : ¬ (F9.fw r = [] ∧ (F9.fin 1 N W).2 = [])) : X = .error (3, r) := by
  obtain ⟨c, hc⟩ := h.one (Y := fun _ => .error (3, r)) (fun f => by rw [F9.mach, if_neg h1, if_neg h2, hb]; simp only; rw [if_neg hn])
  exact (hc 0).symm
end
/-- What waits are open brackets and operations with two operands. -/
def okW (W : List Nat) : Prop := ∀ w ∈ W, w = 0 ∨ (5 ≤ w ∧ w ≤ 9)
theorem fin_ok (k : Nat) : ∀ (W : List Nat) (N : List F9.Nd), okW W → okW (F9.fin k N W).2 ∧ (F9.fin k N W).1.length + (F9.fin k N W).2.length = N.length + W.length
  | [], N, h => ⟨h, rfl⟩
  | w :: W, N, h => by
    rw [F9.fin]
    split
    · obtain ⟨h1, h2⟩ := fin_ok k W (N ++ [⟨w, [], 0⟩]) (fun v hv => h v (List.mem_cons_of_mem _ hv))
      refine ⟨h1, ?_⟩
      rw [h2]; simp; omega
    · exact ⟨h, rfl⟩
end Go.Proofs.YtjebpmjbdchdlaaDoor
namespace Go.Proofs.YtjebpmjbdchdlaaDoor
open Go.RowKit
set_option linter.unusedVariables false

theorem noLof {xs : List Value} (h : xs.all (fun v => match v with | .int .u32 _ => false | _ => true) = true) : NoL xs.toArray := by
  refine NoLl.arr fun v hv z e => ?_
  have := List.all_eq_true.1 h v hv
  rw [e] at this
  cases this
theorem permT {α : Type} (p : α) (A B : List α) : (p :: (A ++ B)).Perm ((p :: B) ++ A) := List.perm_append_comm.cons p
theorem permU {α : Type} (p : α) (A B : List α) : ((p :: B) ++ A).Perm (p :: (A ++ B)) := List.perm_append_comm.cons p
theorem all_take {α : Type} (C : Cod α) : ∀ (L : List α) (m : Nat), (C.all L).take (m * C.sz) = C.all (L.take m)
  | [], m => by simp [Cod.all]
  | x :: l, 0 => by simp [Cod.all]
  | x :: l, m + 1 => by
    have : C.all (x :: l) = C.cs x ++ C.all l := rfl
    have e : C.all ((x :: l).take (m + 1)) = C.cs x ++ C.all (l.take m) := rfl
    rw [this, e, Nat.add_mul, Nat.one_mul, List.take_append, C.len, List.take_of_length_le (by rw [C.len]; omega), show m * C.sz + C.sz - C.sz = m * C.sz by omega, all_take C l m]
theorem OBi.cut {ob : List GBk} {l : Sl Int} (h : OBi ob l) {m : Nat} (hm : m ≤ l.L.length) : OBi ob ⟨l.A, l.c, l.L.take m⟩ := by
  obtain ⟨h1, h2, h3⟩ := h
  have hl : (l.L.take m).length = m := by rw [List.length_take]; omega
  refine ⟨all_len intC _, all_noL intC _, ?_⟩
  rcases h3 with ⟨hv, h0, rfl⟩ | ⟨g, cap, cur, hv, hle, hcap, hcs, htk, rfl⟩
  · injection hv with hA _ hc
    exact .inl ⟨by unfold Sl.v; rw [hA, hc, hl, show m = 0 by omega], by rw [hl]; omega, rfl⟩
  · injection hv with hA _ hc
    refine .inr ⟨g, cap, cur, by unfold Sl.v; rw [hA, hc], by rw [hl]; omega, hcap, hcs, ?_, rfl⟩
    rw [hl]
    have := all_take intC l.L m
    rw [← htk, List.take_take] at this
    rw [← this]
    congr 1
    show m * 1 = min (m * 1) (l.L.length * 1)
    omega
section
variable {w W : World} {bs ob : List GBk} {rs : List GRd}
theorem OBi.lr {l : Sl Int} (h : OBi ob l) (S : St w W (bs ++ ob) rs) : LR intC W l.A l.L.length l.L ∧ l.L.length ≤ l.c := by
  have G := h.gro S
  obtain ⟨A, c, hv, hl⟩ := G.lr
  injection hv with h1 h2 h3
  refine ⟨by rw [h1]; exact hl, ?_⟩
  obtain ⟨_, _, ⟨hv, h0, _⟩ | ⟨g, cap, cur, hv, hle, _⟩⟩ := h
  · omega
  · injection hv with _ _ h5; omega
theorem OBn.lr {l : Sl Nd} (h : OBn ob l) (S : St w W (bs ++ ob) rs) : LR ndC W l.A l.L.length l.L ∧ l.L.length ≤ l.c := by
  have G := h.gro S
  obtain ⟨A, c, hv, hl⟩ := G.lr
  injection hv with h1 h2 h3
  refine ⟨by rw [h1]; exact hl, ?_⟩
  obtain ⟨_, _, ⟨hv, h0, _⟩ | ⟨g, cap, cur, hv, hle, _⟩⟩ := h
  · omega
  · injection hv with _ _ h5; omega
end
section
variable {fs : List GBk} {w0 W : World} {rb : Nat} {t nm : ByteArray} {r : F9.Bs} {N : List F9.Nd} {Wt : List Nat}
set_option maxRecDepth 100000 in
set_option maxHeartbeats 4000000 in
theorem RS.add (h : RS fs w0 W rb t nm r N Wt) (x : F9.Nd) (hN : N.length ≤ 200000) : Calls Tryd.prog 63 #[.pointer (some ⟨rb, 0, none⟩), .agg #[.int .i64 x.op, .string ⟨x.nm.toArray⟩, .int .i64 x.k]] W fun e w' => e = .returned (.tuple #[]) ∧ RS fs w0 w' rb t nm r (N ++ [x]) Wt := by
  obtain ⟨xw, p, l1, ob1, l2, ob2, h1, h2, h3, h4, h5, S⟩ := h
  have hlen : l1.L.length ≤ 200000 := by rw [h2, List.length_map]; exact hN
  have hres : ∀ (w' : World) (l : Sl Nd) (ob : List GBk), l.L = l1.L ++ [toNd x] → OBn ob l → St w0 w' ((rb, rdC t xw p nm l.A l.L.length l.c l2.A l2.L.length l2.c, 35) :: (ob ++ (ob2 ++ fs))) [] → RS fs w0 w' rb t nm r (N ++ [x]) Wt := fun w' l ob a b c => ⟨xw, p, l, ob, l2, ob2, h1, by rw [a, h2, List.map_append]; rfl, h3, b, h5, c⟩
  have S0 : St w0 W (((rb, rdC t xw p nm l1.A l1.L.length l1.c l2.A l2.L.length l2.c, 35) :: (ob2 ++ fs)) ++ ob1) [] := S.prm (permT _ _ _)
  have G := h4.gro S0
  clear S S0 h1 h2 h3 h5 h4 hN
  obtain ⟨y, hy⟩ : ∃ y, y = toNd x := ⟨_, rfl⟩
  have hyo : (x.op : Int) = y.o := by rw [hy]; rfl
  have hys : (⟨x.nm.toArray⟩ : ByteArray) = y.s := by rw [hy]; rfl
  have hyk : (x.k : Int) = y.k := by rw [hy]; rfl
  rw [← hy] at hres
  rw [hyo, hys, hyk]
  clear hyo hys hyk hy
  have hll := Lib.hid hlen
  replace hres := Lib.hid hres
  have GB := Lib.hid (G.alloc #[.int .i64 y.o, .string y.s, .int .i64 y.k] 53 (noLof rfl))
  obtain ⟨bx, hbx⟩ : ∃ b, b = W.heap.size := ⟨_, rfl⟩
  rw [← hbx] at GB
  have hltb := G.st.lt 0 rfl
  replace G := Lib.hid G
  clear hlen
  go_enter Tryd.func63, Tryd.ntmps63
  go_upto_region 1 with fail
  rw [← hbx]
  generalize W.alloc (.cells #[.int .i64 y.o, .string y.s, .int .i64 y.k] 53) = W1 at *
  clear G hbx
  have G := GB
  clear GB
  have hbase := Lib.hid (St.new W1)
  refine RW.begin (Z := []) (S := (fun V => Cb V bx #[.int .i64 y.o, .string y.s, .int .i64 y.k] 53 ∧ Below w0.heap.size w0 V)) (by kernel_rfl) ?_ hbase.out ?_
  · exact ⟨by kernel_rfl, zis_nil, by decide, by decide, nol_nil, (fun _ _ h => ⟨(G.out.st.cb 0 rfl).bel h.bel, G.out.st.bel.trans (h.bel.mono G.out.st.bel.size)⟩)⟩
  intro hzk
  refine RW.t (i := 0) (v := .pointer (some ⟨rb, 0, none⟩)) (some 4) at0 (hy := fun _ _ => by kernel_rfl) (h := ?_)
  refine RW.t (i := 1) (v := .pointer (some ⟨rb, 0, none⟩)) (some 5) at1 (hy := fun _ _ => by kernel_rfl) (h := ?_)
  refine RW.t (i := 2) (v := .pointer (some ⟨rb, 0, none⟩)) (some 6) at2 (hy := fun _ _ => by go_simp) (h := ?_)
  refine RW.t (i := 3) (v := .pointer (some ⟨rb, 4, none⟩)) (some 7) at3 (hy := fun _ _ => by go_simp) (h := ?_)
  refine RW.t (i := 5) (v := .agg #[.int .i64 y.o, .string y.s, .int .i64 y.k]) (some 9) at5 (hy := fun V hS => by (have k0 := Cb.cell (i := 0) hS.1 rfl; have k1 := Cb.cell (i := 1) hS.1 rfl; have k2 := Cb.cell (i := 2) hS.1 rfl; clear hS; go_simp)) (h := ?_)
  refine RW.tail hzk.out (by kernel_rfl) ?_
  intro gs' w5 hgs' hS Sb
  obtain rfl := len0 hgs'
  simp only [mark, fill, Act.put, List.setIfInBounds_toArray, List.set_cons_zero, List.set_cons_succ]
  have T := Lib.hid (G.out.call Sb.bel)
  clear G Sb hS hgs' hzk hbase
  have G := T
  clear T
  refine Wk.two (i := 4) (j := 6) at4 at6 (by kernel_rfl) (fun K' hK => ?_) (fun K' hK => ?_)
  · have c_4 := G.out.st.cl 1 4 rfl rfl
    go_simp
    refine hK.out _ _ ⟨G.out.st.cb 0 rfl, G.out.st.bel⟩ ?_
    clear hK K'
    try simp only [Act.put, List.setIfInBounds_toArray, List.set_cons_zero, List.set_cons_succ]
    refine Wk.o (i := 6) at6 (by kernel_rfl) fun K' hK => ?_
    go_simp
    have GA := Lib.hid (G.out.alloc #[.int .i64 y.o, .string y.s, .int .i64 y.k] 53 (noLof rfl))
    clear G
    refine hK.out _ _ ⟨GA.out.st.cb 1 rfl, GA.out.st.bel⟩ ?_
    clear hK K'
    try simp only [Act.put, List.setIfInBounds_toArray, List.set_cons_zero, List.set_cons_succ]
    refine Wk.o (i := 7) at7 (by kernel_rfl) fun K' hK => ?_
    refine Gro.op (.tmp 8) (.tmp 10) 23 rfl (.agg #[.int .i64 0, .string ⟨#[]⟩, .int .i64 0]) 32 Tryd.underlying23 (by kernel_rfl) rfl (fun v hv z e => by simp [Value.cells] at hv; subst e; simp at hv) rfl GA.out _ y rfl (GA.out.st.cb 0 rfl) (nd_in y) (by have := hll.out; omega) (by have := hll.out; unfold maxLen; omega) ?_
    intro av1 w6 G2 hmk
    replace G2 := Lib.hid (G2.sub (fun _ _ => nd_in _))
    clear GA hmk
    refine hK.out _ _ ⟨G2.out.st.cb 0 rfl, G2.out.st.bel⟩ ?_
    clear hK K'
    try simp only [Act.put, List.setIfInBounds_toArray, List.set_cons_zero, List.set_cons_succ]
    obtain ⟨l, ob, hv, hL, hO, S6⟩ := G2.out.opn
    have hv2 : av1 = .slice l.A l.L.length l.c := hv
    subst hv2
    clear G2 hv
    replace hL := Lib.hid hL
    replace hO := Lib.hid hO
    have c_4b := S6.cl 1 4 rfl rfl
    have f_4 := S6.f 1 4 rfl
    have hltb := S6.lt 1 rfl
    have S7 := Lib.hid (S6.set 1 4 (.slice l.A l.L.length l.c) rfl (fun _ => by simp))
    replace S6 := Lib.hid S6
    refine Wk.o (i := 8) at8 (by kernel_rfl) fun K' hK => ?_
    go_simp
    refine hK.out _ _ ⟨S6.out.cb 0 rfl, S6.out.bel⟩ ?_
    clear hK K'
    try simp only [Act.put, List.setIfInBounds_toArray, List.set_cons_zero, List.set_cons_succ]
    refine Wk.o (i := 9) at9 (by kernel_rfl) fun K' hK => ?_
    go_simp
    refine hK.out _ _ ⟨S6.out.cb 0 rfl, S6.out.bel⟩ ?_
    clear hK K'
    try simp only [Act.put, List.setIfInBounds_toArray, List.set_cons_zero, List.set_cons_succ]
    refine Wk.o (i := 10) at10 (by kernel_rfl) fun K' hK => ?_
    go_simp
    refine hK.out _ _ ⟨S7.out.cb 0 rfl, S7.out.bel⟩ ?_
    clear hK K'
    try simp only [Act.put, List.setIfInBounds_toArray, List.set_cons_zero, List.set_cons_succ]
    refine Wk.done (by kernel_rfl) ?_
    try go_simp
    have hfin := Lib.hid (hres.out _ l ob hL.out hO.out ((S7.out.sub).prm (permU _ _ _)))
    clear S7 S6 hres hL hO f_4 hltb c_4 c_4b
    try go_wp2
    exact bodyPost_end (results_none rfl _ _ _) rfl ⟨rfl, hfin.out⟩
  · go_simp
    have GA := Lib.hid (G.out.alloc #[.int .i64 y.o, .string y.s, .int .i64 y.k] 53 (noLof rfl))
    clear G
    refine hK.out _ _ ⟨GA.out.st.cb 1 rfl, GA.out.st.bel⟩ ?_
    clear hK K'
    try simp only [Act.put, List.setIfInBounds_toArray, List.set_cons_zero, List.set_cons_succ]
    refine Wk.o (i := 4) at4 (by kernel_rfl) fun K' hK => ?_
    have c_4 := GA.out.st.cl 2 4 rfl rfl
    go_simp
    refine hK.out _ _ ⟨GA.out.st.cb 1 rfl, GA.out.st.bel⟩ ?_
    clear hK K'
    try simp only [Act.put, List.setIfInBounds_toArray, List.set_cons_zero, List.set_cons_succ]
    refine Wk.o (i := 7) at7 (by kernel_rfl) fun K' hK => ?_
    refine Gro.op (.tmp 8) (.tmp 10) 23 rfl (.agg #[.int .i64 0, .string ⟨#[]⟩, .int .i64 0]) 32 Tryd.underlying23 (by kernel_rfl) rfl (fun v hv z e => by simp [Value.cells] at hv; subst e; simp at hv) rfl GA.out _ y rfl (GA.out.st.cb 0 rfl) (nd_in y) (by have := hll.out; omega) (by have := hll.out; unfold maxLen; omega) ?_
    intro av1 w6 G2 hmk
    replace G2 := Lib.hid (G2.sub (fun _ _ => nd_in _))
    clear GA hmk
    refine hK.out _ _ ⟨G2.out.st.cb 0 rfl, G2.out.st.bel⟩ ?_
    clear hK K'
    try simp only [Act.put, List.setIfInBounds_toArray, List.set_cons_zero, List.set_cons_succ]
    obtain ⟨l, ob, hv, hL, hO, S6⟩ := G2.out.opn
    have hv2 : av1 = .slice l.A l.L.length l.c := hv
    subst hv2
    clear G2 hv
    replace hL := Lib.hid hL
    replace hO := Lib.hid hO
    have c_4b := S6.cl 1 4 rfl rfl
    have f_4 := S6.f 1 4 rfl
    have hltb := S6.lt 1 rfl
    have S7 := Lib.hid (S6.set 1 4 (.slice l.A l.L.length l.c) rfl (fun _ => by simp))
    replace S6 := Lib.hid S6
    refine Wk.o (i := 8) at8 (by kernel_rfl) fun K' hK => ?_
    go_simp
    refine hK.out _ _ ⟨S6.out.cb 0 rfl, S6.out.bel⟩ ?_
    clear hK K'
    try simp only [Act.put, List.setIfInBounds_toArray, List.set_cons_zero, List.set_cons_succ]
    refine Wk.o (i := 9) at9 (by kernel_rfl) fun K' hK => ?_
    go_simp
    refine hK.out _ _ ⟨S6.out.cb 0 rfl, S6.out.bel⟩ ?_
    clear hK K'
    try simp only [Act.put, List.setIfInBounds_toArray, List.set_cons_zero, List.set_cons_succ]
    refine Wk.o (i := 10) at10 (by kernel_rfl) fun K' hK => ?_
    go_simp
    refine hK.out _ _ ⟨S7.out.cb 0 rfl, S7.out.bel⟩ ?_
    clear hK K'
    try simp only [Act.put, List.setIfInBounds_toArray, List.set_cons_zero, List.set_cons_succ]
    refine Wk.done (by kernel_rfl) ?_
    try go_simp
    have hfin := Lib.hid (hres.out _ l ob hL.out hO.out ((S7.out.sub).prm (permU _ _ _)))
    clear S7 S6 hres hL hO f_4 hltb c_4 c_4b
    try go_wp2
    exact bodyPost_end (results_none rfl _ _ _) rfl ⟨rfl, hfin.out⟩
end
end Go.Proofs.YtjebpmjbdchdlaaDoor
namespace Go.Proofs.YtjebpmjbdchdlaaDoor
open Go.RowKit
set_option linter.unusedVariables false

theorem og_rul {W : World} (h : Og W) {q : Nat} (hq : q = 0 ∨ (5 ≤ q ∧ q ≤ 9)) : W.cell? ⟨0, q * 6 + 1, none⟩ = some (.int .i64 (F9.rul q : Nat)) := by
  have hc : q = 0 ∨ q = 5 ∨ q = 6 ∨ q = 7 ∨ q = 8 ∨ q = 9 := by omega
  rcases hc with rfl | rfl | rfl | rfl | rfl | rfl
  all_goals exact h.2 _ _ rfl
theorem wtL_cons (w : Nat) (W : List Nat) : wtL (w :: W) = wtL W ++ [(w : Int)] := by unfold wtL; simp
theorem wtL_len (W : List Nat) : (wtL W).length = W.length := by unfold wtL; simp
section
variable {fs : List GBk} {w0 W : World} {rb : Nat} {t nm : ByteArray} {r : F9.Bs} {N : List F9.Nd} {Wt : List Nat}
/-- What is seen of the reader: the word, and what waits. -/
theorem RS.see (h : RS fs w0 W rb t nm r N Wt) : ∃ (x : ByteArray) (p : Nat) (NA WA : Option Addr) (nc wc : Nat), RI t r x p ∧ Wt.length ≤ wc ∧ rb < W.heap.size ∧ W.cell? ⟨rb, 1, none⟩ = some (.string x) ∧ W.cell? ⟨rb, 2, none⟩ = some (.int .i64 p) ∧ W.cell? ⟨rb, 4, none⟩ = some (.slice NA N.length nc) ∧ W.cell? ⟨rb, 5, none⟩ = some (.slice WA Wt.length wc) ∧ LR ndC W NA N.length (N.map toNd) ∧ LR intC W WA Wt.length (wtL Wt) := by
  obtain ⟨x, p, l1, ob1, l2, ob2, h1, h2, h3, h4, h5, S⟩ := h
  have e1 : l1.L.length = N.length := by rw [h2, List.length_map]
  have e2 : l2.L.length = Wt.length := by rw [h3, wtL_len]
  have k1 := h4.lr (bs := (rb, rdC t x p nm l1.A l1.L.length l1.c l2.A l2.L.length l2.c, 35) :: (ob2 ++ fs)) (S.prm (permT _ _ _))
  have k2 := h5.lr (bs := (rb, rdC t x p nm l1.A l1.L.length l1.c l2.A l2.L.length l2.c, 35) :: (ob1 ++ fs)) (S.prm (permX _ _ _ _))
  refine ⟨x, p, l1.A, l2.A, l1.c, l2.c, h1, by rw [← e2]; exact k2.2, S.lt 0 rfl, S.cl 0 1 rfl rfl, S.cl 0 2 rfl rfl, ?_, ?_, ?_, ?_⟩
  · rw [← e1]; exact S.cl 0 4 rfl rfl
  · rw [← e2]; exact S.cl 0 5 rfl rfl
  · rw [← h2, ← e1]; exact k1.1
  · rw [← h3, ← e2]; exact k2.1
/-- The last that waits is taken away. -/
theorem RS.pop {v : Nat} (h : RS fs w0 W rb t nm r N (v :: Wt)) {WA : Option Addr} {n wc : Nat} (hc : W.cell? ⟨rb, 5, none⟩ = some (.slice WA n wc)) : RS fs w0 (W.setCell ⟨rb, 5, none⟩ (.slice WA Wt.length wc)) rb t nm r N Wt ∧ W.frozen? ⟨rb, 5, none⟩ = false := by
  obtain ⟨x, p, l1, ob1, l2, ob2, h1, h2, h3, h4, h5, S⟩ := h
  have hl : Wt.length ≤ l2.L.length := by rw [h3, wtL_len]; simp
  have h6 := h5.cut hl
  have e := S.cl 0 5 rfl rfl
  rw [hc] at e
  injection e with e
  injection e with e1 e2 e3
  subst e1 e3
  have e4 : l2.L.take Wt.length = wtL Wt := by
    rw [h3, wtL_cons, ← wtL_len Wt]; exact List.take_left
  refine ⟨⟨x, p, l1, ob1, ⟨l2.A, l2.c, l2.L.take Wt.length⟩, ob2, h1, h2, e4, h4, h6, ?_⟩, S.f 0 5 rfl⟩
  have e5 : (l2.L.take Wt.length).length = Wt.length := by rw [e4, wtL_len]
  have S1 := S.set 0 5 (.slice l2.A Wt.length l2.c) rfl (fun _ => by simp)
  show St w0 _ ((rb, rdC t x p nm l1.A l1.L.length l1.c l2.A (l2.L.take Wt.length).length l2.c, _) :: _) _
  rw [e5]
  exact S1
set_option maxRecDepth 100000 in
set_option maxHeartbeats 4000000 in
theorem RS.finish (h : RS fs w0 W rb t nm r N Wt) (hO : Og w0) (hW : okW Wt) (hb : N.length + Wt.length ≤ 200000) (k : Nat) : Calls Tryd.prog 43 #[.pointer (some ⟨rb, 0, none⟩), .int .i64 k] W fun e w' => e = .returned (.tuple #[]) ∧ RS fs w0 w' rb t nm r (F9.fin k N Wt).1 (F9.fin k N Wt).2 := by
  obtain ⟨x, p, NA, WA, nc, wc, hRI, hwc, hrb, c_1, c_2, c_4, c_5, hL1, hL2⟩ := h.see
  obtain ⟨X, hX⟩ : ∃ X, X = F9.fin k N Wt := ⟨_, rfl⟩
  rw [← hX]
  have hwl : Wt.length ≤ 200000 := by omega
  replace h := Lib.hid h
  replace hX := Lib.hid hX
  replace hb := Lib.hid hb
  replace hO := Lib.hid hO
  replace hW := Lib.hid hW
  clear hRI hwc c_1 c_2 c_4 hL1 hL2
  go_enter Tryd.func43, Tryd.ntmps43
  go_wp2
  clear c_5 hrb
  go_loopw [4] (fun nv wr => ∃ (N' : List F9.Nd) (W' : List Nat) (n : Int), nv = .int .i64 n ∧ n = (W'.length : Int) - 1 ∧ RS fs w0 wr rb t nm r N' W' ∧ okW W' ∧ N'.length + W'.length ≤ 200000 ∧ X = F9.fin k N' W') (fun nv _ => (intOf nv + 1).toNat)
  case atStart => exact ⟨N, Wt, _, rfl, rfl, h.out, hW.out, hb.out, hX.out⟩
  case round =>
    obtain ⟨N', W', n, rfl, hn, hR, hok, hlen, hfe⟩ := hrel
    cases W' with
    | nil =>
      have hn1 : n = -1 := by rw [hn]; rfl
      subst hn1
      rw [F9.fin] at hfe
      have hfin : Hid (RS fs w0 wr rb t nm r X.1 X.2) := Lib.hid (by rw [hfe]; exact hR)
      clear hfe hok hlen hn hR
      go_wp2
      exact bodyPost_end (results_none rfl _ _ _) rfl ⟨rfl, hfin.out⟩
    | cons v W' =>
      obtain ⟨m, hm⟩ : ∃ m, m = W'.length := ⟨_, rfl⟩
      have hn1 : n = (m : Int) := by rw [hn, hm]; simp
      subst hn1
      obtain ⟨x, p, NA, WA, nc, wc, hRI, hwc, hrb, c_1, c_2, c_4, c_5, hL1, hL2⟩ := hR.see
      have hvl : (v :: W').length = m + 1 := by rw [hm]; rfl
      rw [hvl] at c_5 hL2 hwc
      obtain ⟨b, q, z, rfl, hz, _, _, hcs⟩ := hL2.get (i := m) (by omega)
      have hzv : z = (v : Int) := by
        rw [wtL_cons, hm, ← wtL_len W', List.getElem?_concat_length] at hz
        injection hz with hz
        exact hz.symm
      subst hzv
      have e0 : wr.cell? ⟨b, q + m, none⟩ = some (.int .i64 (v : Int)) := by
        have := hcs 0 _ rfl
        rwa [show q + m * intC.sz + 0 = q + m by show q + m * 1 + 0 = q + m; omega] at this
      have hv5 := hok v List.mem_cons_self
      have hOr := hO.out.bel hR.bel
      have ga := og_rul hOr hv5
      have hz0 := hOr.1
      have q1 : (v : Int) < 11 := by omega
      have q2 : (0 : Int) ≤ (v : Int) := by omega
      have q3 : (0 : Int) ≤ (m : Int) := by omega
      have q4 : (m : Int) < ((m + 1 : Nat) : Int) := by omega
      have q5 : m + 1 ≤ wc := hwc
      have q6 : (m : Int) ≤ (wc : Int) := by omega
      rw [F9.fin] at hfe
      by_cases hk : k ≤ F9.rul v
      · rw [if_pos hk] at hfe
        have hkk : (k : Int) ≤ ((F9.rul v : Nat) : Int) := by omega
        have hA : Hid (∀ V, Below wr.heap.size wr V → Calls Tryd.prog 63 #[.pointer (some ⟨rb, 0, none⟩), .agg #[.int .i64 (v : Int), .string ByteArray.empty, .int .i64 0]] V fun e w' => e = .returned (.tuple #[]) ∧ RS fs w0 w' rb t nm r (N' ++ [⟨v, [], 0⟩]) (v :: W')) := Lib.hid fun V hV => RS.add (hR.call hV) ⟨v, [], 0⟩ (by simp at hlen; omega)
        have hml : Hid (m ≤ 200000) := Lib.hid (by simp at hlen; omega)
        have hok2 : Hid (okW W' ∧ (N' ++ [(⟨v, [], 0⟩ : F9.Nd)]).length + W'.length ≤ 200000) := Lib.hid ⟨fun u hu => hok u (List.mem_cons_of_mem _ hu), by simp at hlen ⊢; omega⟩
        replace hfe := Lib.hid hfe
        replace hm := Lib.hid hm
        generalize F9.rul v = ru at *
        clear hk hok hlen hn hR hRI c_1 c_2 c_4 hL1 hL2 hcs hz hvl hv5 hwc hOr
        go_wp2_with fail
        refine (hA.out _ (Below.refl _ _)).mono ?_
        rintro e w1 ⟨rfl, R1⟩
        obtain ⟨x, p, NA1, WA1, nc1, wc1, hRI, hwc, hrb, c_1, c_2, c_4, c_5, hL1, hL2⟩ := R1.see
        have hvl : (v :: W').length = m + 1 := by rw [hm.out]; rfl
        rw [hvl] at c_5 hwc
        have R2 := R1.pop c_5
        rw [← hm.out] at R2
        have f_5 := R2.2
        replace R2 := Lib.hid R2.1
        have q7 : (m : Int) ≤ (wc1 : Int) := by omega
        have q8 := hml.out
        clear hA R1 hRI hwc c_1 c_2 c_4 hL1 hL2 hvl e0 ga
        go_wp2
        go_roundw
        case rel => exact ⟨_, W', _, rfl, by (have := hm.out; omega), R2.out, hok2.out.1, hok2.out.2, hfe.out⟩
        case measure => simp [intOf]
      · rw [if_neg hk] at hfe
        have hkk : ¬ (k : Int) ≤ ((F9.rul v : Nat) : Int) := by omega
        have hfin : Hid (RS fs w0 wr rb t nm r X.1 X.2) := Lib.hid (by rw [hfe]; exact hR)
        generalize F9.rul v = ru at *
        clear hk hok hlen hn hR hRI c_1 c_2 c_4 hL1 hL2 hcs hz hvl hv5 hwc hOr hfe hm
        go_wp2
        exact bodyPost_end (results_none rfl _ _ _) rfl ⟨rfl, hfin.out⟩
end
end Go.Proofs.YtjebpmjbdchdlaaDoor
namespace Go.Proofs.YtjebpmjbdchdlaaDoor
open Go.RowKit
set_option linter.unusedVariables false

section
variable {fs : List GBk} {w0 W : World} {rb : Nat} {t nm : ByteArray} {r : F9.Bs} {N : List F9.Nd} {Wt : List Nat}
/-- What waits, as a list that grows. -/
theorem RS.gi (h : RS fs w0 W rb t nm r N Wt) : ∃ (WA : Option Addr) (wc : Nat) (bs : List GBk), rb < W.heap.size ∧ W.cell? ⟨rb, 5, none⟩ = some (.slice WA Wt.length wc) ∧ Gro intC w0 W bs [] 3 (.slice WA Wt.length wc) (wtL Wt) ∧
    ∀ (u : Nat) (V : World) (v' : Value), Gro intC w0 V bs [] 3 v' (wtL Wt ++ [(u : Int)]) → RS fs w0 (V.setCell ⟨rb, 5, none⟩ v') rb t nm r N (u :: Wt) ∧ V.frozen? ⟨rb, 5, none⟩ = false ∧ rb < V.heap.size ∧ V.cell? ⟨rb, 5, none⟩ = some (.slice WA Wt.length wc) := by
  obtain ⟨x, p, l1, ob1, l2, ob2, h1, h2, h3, h4, h5, S⟩ := h
  have e2 : l2.L.length = Wt.length := by rw [h3, wtL_len]
  have G := h5.gro (bs := (rb, rdC t x p nm l1.A l1.L.length l1.c l2.A l2.L.length l2.c, 35) :: (ob1 ++ fs)) (S.prm (permX _ _ _ _))
  refine ⟨l2.A, l2.c, (rb, rdC t x p nm l1.A l1.L.length l1.c l2.A l2.L.length l2.c, 35) :: (ob1 ++ fs), S.lt 0 rfl, ?_, ?_, fun u V v' G' => ?_⟩
  · rw [← e2]; exact S.cl 0 5 rfl rfl
  · rw [← h3, ← e2]; exact G
  · obtain ⟨l, ob, hv, hL, hO, S2⟩ := G'.opi
    have hv2 : v' = .slice l.A l.L.length l.c := hv
    subst hv2
    refine ⟨⟨x, p, l1, ob1, l, ob, h1, h2, by rw [hL, wtL_cons], h4, hO, (S2.set 0 5 (.slice l.A l.L.length l.c) rfl (fun _ => by simp)).prm (permX _ _ _ _).symm⟩, S2.f 0 5 rfl, S2.lt 0 rfl, ?_⟩
    rw [← e2]; exact S2.cl 0 5 rfl rfl

set_option maxRecDepth 100000 in
set_option maxHeartbeats 4000000 in
theorem RS.binN (h : RS fs w0 W rb t nm r N Wt) (hO : Og w0) (hb : F9.bop r = none) : Calls Tryd.prog 22 #[.pointer (some ⟨rb, 0, none⟩)] W fun e w' => e = .returned (.bool false) ∧ RS fs w0 w' rb t nm r N Wt := by
  obtain ⟨x, p, NA, WA, nc, wc, hRI, hwc, hrb, c_1, c_2, c_4, c_5, hL1, hL2⟩ := h.see
  have hB := Lib.hid (fun V (hV : Below W.heap.size W V) => bop_any x V ((hO.bel h.bel).bel hV))
  rw [bop_is hRI, show bopN r = 0 by unfold bopN; rw [hb]; rfl] at hB
  replace h := Lib.hid h
  clear hRI hwc c_2 c_4 c_5 hL1 hL2 hO hb
  go_enter Tryd.func22, Tryd.ntmps22
  go_wp2_with fail
  refine (hB.out _ (Below.refl _ _)).mono ?_
  rintro e w1 ⟨rfl, rfl⟩
  clear hB
  go_wp2
  go_ret
  exact ⟨rfl, h.out⟩

set_option maxRecDepth 100000 in
set_option maxHeartbeats 4000000 in
theorem RS.binY (h : RS fs w0 W rb t nm r N Wt) (hO : Og w0) (ht : t.size ≤ 100000) (hW : okW Wt) (hn : N.length + Wt.length ≤ 200000) {op : Nat} (hb : F9.bop r = some op) : Calls Tryd.prog 22 #[.pointer (some ⟨rb, 0, none⟩)] W fun e w' => e = .returned (.bool true) ∧ RS fs w0 w' rb t nm (F9.nx r) (F9.fin (F9.rul op) N Wt).1 (op :: (F9.fin (F9.rul op) N Wt).2) := by
  obtain ⟨x, p, NA, WA, nc, wc, hRI, hwc, hrb, c_1, c_2, c_4, c_5, hL1, hL2⟩ := h.see
  have hB := Lib.hid (fun V (hV : Below W.heap.size W V) => bop_any x V ((hO.bel h.bel).bel hV))
  rw [bop_is hRI, show bopN r = op by unfold bopN; rw [hb]; rfl] at hB
  have ho := F9.bop_op hb
  have hfo := Lib.hid (fin_ok (F9.rul op) Wt N hW)
  have hF : Hid (∀ V, Below W.heap.size W V → Calls Tryd.prog 43 #[.pointer (some ⟨rb, 0, none⟩), .int .i64 (F9.rul op : Nat)] V fun e w' => e = .returned (.tuple #[]) ∧ RS fs w0 w' rb t nm r (F9.fin (F9.rul op) N Wt).1 (F9.fin (F9.rul op) N Wt).2) := Lib.hid fun V hV => (h.call hV).finish hO hW hn (F9.rul op)
  have ga := og_rul (hO.bel h.bel) (q := op) (by omega)
  have hz0 := (hO.bel h.bel).1
  have q1 : (op : Int) < 11 := by omega
  have q2 : (0 : Int) ≤ (op : Int) := by omega
  have q3 : ((op : Int) == 0) = false := by rw [beq_eq_false_iff_ne]; omega
  have hnn := Lib.hid hn
  replace ht := Lib.hid ht
  replace h := Lib.hid h
  generalize F9.fin (F9.rul op) N Wt = X at *
  generalize F9.rul op = ru at *
  clear hRI hwc c_2 c_4 c_5 hL1 hL2 hO hb hW hn ho
  go_enter Tryd.func22, Tryd.ntmps22
  go_wp2_with fail
  refine (hB.out _ (Below.refl _ _)).mono ?_
  rintro e w1 ⟨rfl, rfl⟩
  clear hB
  go_wp2_with fail
  refine (hF.out _ (Below.refl _ _)).mono ?_
  rintro e w1 ⟨rfl, R1⟩
  clear hF h c_1 hrb ga hz0
  obtain ⟨WA, wc, bs, hrb, c_5, G, hG⟩ := R1.gi
  have hXl : Hid ((wtL X.2).length ≤ 200000) := Lib.hid (by rw [wtL_len]; have := hfo.out.2; have := hnn.out; omega)
  replace G := Lib.hid G
  replace hG := Lib.hid hG
  clear R1
  have GA := Lib.hid (G.out.alloc #[.int .i64 (op : Int)] 3 (noLof rfl))
  go_wp2_with (at_builtin; refine Gro.wp2 rfl (.tmp 21) (.tmp 23) 33 rfl (.int .i64 0) 8 Tryd.underlying33 (by kernel_rfl) rfl (fun v hv z e => by simp [Value.cells] at hv; subst hv; cases e) rfl GA.out w1.heap.size (op : Int) rfl ((GA.out.st).cb 0 rfl) trivial (by have := hXl.out; omega) (by have := hXl.out; unfold maxLen; omega) ?_)
  intro av1 w6 G2 hmk
  obtain ⟨A9, c9, hav, _⟩ := G2.lr
  generalize (wtL X.2 ++ [(op : Int)]).length = k9 at hav
  subst hav
  obtain ⟨R2, f_5, hrb6, c_56⟩ := hG.out op w6 _ (G2.sub (fun _ _ => trivial))
  have hN := Lib.hid (fun V (hV : Below (w6.setCell ⟨rb, 5, none⟩ (.slice A9 k9 c9)).heap.size (w6.setCell ⟨rb, 5, none⟩ (.slice A9 k9 c9)) V) => (R2.call hV).next ht.out)
  clear G2 hmk GA G hG R2 c_5 hrb
  go_wp2_with fail
  refine (hN.out _ (Below.refl _ _)).mono ?_
  rintro e w7 ⟨rfl, R3⟩
  replace R3 := Lib.hid R3
  clear hN f_5 hrb6 c_56
  go_wp2
  go_ret
  exact ⟨rfl, R3.out⟩

set_option maxRecDepth 100000 in
set_option maxHeartbeats 4000000 in
theorem RS.closeN (h : RS fs w0 W rb t nm r N Wt) (hO : Og w0) (hW : okW Wt) (hn : N.length + Wt.length ≤ 200000) (hf : (F9.fin 1 N Wt).2 = []) : Calls Tryd.prog 41 #[.pointer (some ⟨rb, 0, none⟩)] W fun e w' => e = .returned (.bool false) ∧ RS fs w0 w' rb t nm r (F9.fin 1 N Wt).1 [] := by
  have hfo := Lib.hid (fin_ok 1 Wt N hW)
  have hF : Hid (∀ V, Below W.heap.size W V → Calls Tryd.prog 43 #[.pointer (some ⟨rb, 0, none⟩), .int .i64 1] V fun e w' => e = .returned (.tuple #[]) ∧ RS fs w0 w' rb t nm r (F9.fin 1 N Wt).1 (F9.fin 1 N Wt).2) := Lib.hid fun V hV => (h.call hV).finish hO hW hn 1
  replace h := Lib.hid h
  rw [hf] at hF
  generalize (F9.fin 1 N Wt).1 = X at *
  clear hO hW hn hf hfo
  go_enter Tryd.func41, Tryd.ntmps41
  go_wp2_with fail
  refine (hF.out _ (Below.refl _ _)).mono ?_
  rintro e w1 ⟨rfl, R1⟩
  clear hF h
  obtain ⟨x, p, NA, WA, nc, wc, hRI, hwc, hrb, c_1, c_2, c_4, c_5, hL1, hL2⟩ := R1.see
  have c_5 : w1.cell? ⟨rb, 5, none⟩ = some (.slice WA 0 wc) := c_5
  replace R1 := Lib.hid R1
  clear hRI hwc c_1 c_2 c_4 hL1 hL2
  go_wp2
  go_ret
  exact ⟨rfl, R1.out⟩

set_option maxRecDepth 100000 in
set_option maxHeartbeats 4000000 in
theorem RS.closeY (h : RS fs w0 W rb t nm r N Wt) (hO : Og w0) (ht : t.size ≤ 100000) (hW : okW Wt) (hn : N.length + Wt.length ≤ 200000) {v : Nat} {W1 : List Nat} (hf : (F9.fin 1 N Wt).2 = v :: W1) : Calls Tryd.prog 41 #[.pointer (some ⟨rb, 0, none⟩)] W fun e w' => e = .returned (.bool true) ∧ RS fs w0 w' rb t nm (F9.nx r) (F9.fin 1 N Wt).1 W1 := by
  have hfo := Lib.hid (fin_ok 1 Wt N hW)
  have hF : Hid (∀ V, Below W.heap.size W V → Calls Tryd.prog 43 #[.pointer (some ⟨rb, 0, none⟩), .int .i64 1] V fun e w' => e = .returned (.tuple #[]) ∧ RS fs w0 w' rb t nm r (F9.fin 1 N Wt).1 (F9.fin 1 N Wt).2) := Lib.hid fun V hV => (h.call hV).finish hO hW hn 1
  replace h := Lib.hid h
  rw [hf] at hF hfo
  generalize (F9.fin 1 N Wt).1 = X at *
  have hnn := Lib.hid hn
  replace ht := Lib.hid ht
  clear hO hW hn hf
  go_enter Tryd.func41, Tryd.ntmps41
  go_wp2_with fail
  refine (hF.out _ (Below.refl _ _)).mono ?_
  rintro e w1 ⟨rfl, R1⟩
  clear hF h
  obtain ⟨x, p, NA, WA, nc, wc, hRI, hwc, hrb, c_1, c_2, c_4, c_5, hL1, hL2⟩ := R1.see
  obtain ⟨m, hm⟩ : ∃ m, m = W1.length := ⟨_, rfl⟩
  have hvl : (v :: W1).length = m + 1 := by rw [hm]; rfl
  rw [hvl] at c_5 hwc
  have R2 := R1.pop c_5
  rw [← hm] at R2
  have f_5 := R2.2
  have hms : m ≤ 200000 := by have h1 := hfo.out.2; have h2 := hnn.out; simp at h1; omega
  have q1 : ((m + 1 : Nat) : Int) = (m : Int) + 1 := by omega
  have q2 : (((m : Int) + 1) == 0) = false := by rw [beq_eq_false_iff_ne]; omega
  have q3 : (m : Int) ≤ (wc : Int) := by omega
  have q4 : (0 : Int) ≤ (m : Int) := by omega
  have hN := Lib.hid (fun V (hV : Below (w1.setCell ⟨rb, 5, none⟩ (.slice WA m wc)).heap.size (w1.setCell ⟨rb, 5, none⟩ (.slice WA m wc)) V) => (R2.1.call hV).next ht.out)
  clear hRI hwc c_1 c_2 c_4 hL1 hL2 hvl hfo hnn R1 R2 hm
  go_upto_region 4 with fail
  go_region
  clear c_5 f_5 hrb
  go_wp2_with fail
  refine (hN.out _ ((Below.refl _ _).drew)).mono ?_
  rintro e w7 ⟨rfl, R3⟩
  replace R3 := Lib.hid R3
  clear hN
  go_wp2
  go_ret
  exact ⟨rfl, R3.out⟩

end
end Go.Proofs.YtjebpmjbdchdlaaDoor
namespace Go.Proofs
open Go.Shelf
def Tryd.lays171_ren : Go.Shelf.Ren := ⟨fun | 171 => 55 | 243 => 67 | 246 => 73 | 283 => 78 | 284 => 79 | 285 => 80 | 286 => 81 | 129 => 87 | 317 => 86 | 318 => 88 | 319 => 89 | 320 => 90 | 337 => 92 | 338 => 93 | n => n, fun | 3 => 3 | 9 => 9 | 2 => 2 | 4 => 4 | 171 => 101 | 0 => 0 | 53 => 102 | 37 => 96 | 5 => 5 | 173 => 105 | 212 => 115 | 51 => 116 | 20 => 20 | 213 => 117 | 46 => 108 | 232 => 123 | 233 => 124 | n => n, fun | 17 => 4 | 18 => 5 | 19 => 6 | n => n⟩
theorem Tryd.lays171 : Go.Proofs.Lays.n171 Tryd.prog Tryd.lays171_ren := {
  mixed := by kernel_rfl
  f129 := Tryd.func87.trans (congrArg some (by kernel_rfl))
  f171 := Tryd.func55.trans (congrArg some (by kernel_rfl))
  f243 := Tryd.func67.trans (congrArg some (by kernel_rfl))
  f246 := Tryd.func73.trans (congrArg some (by kernel_rfl))
  f283 := Tryd.func78.trans (congrArg some (by kernel_rfl))
  f284 := Tryd.func79.trans (congrArg some (by kernel_rfl))
  f285 := Tryd.func80.trans (congrArg some (by kernel_rfl))
  f286 := Tryd.func81.trans (congrArg some (by kernel_rfl))
  f317 := Tryd.func86.trans (congrArg some (by kernel_rfl))
  f318 := Tryd.func88.trans (congrArg some (by kernel_rfl))
  f319 := Tryd.func89.trans (congrArg some (by kernel_rfl))
  f320 := Tryd.func90.trans (congrArg some (by kernel_rfl))
  f337 := Tryd.func92.trans (congrArg some (by kernel_rfl))
  f338 := Tryd.func93.trans (congrArg some (by kernel_rfl))
  t0 := Tryd.underlying0
  a0 := Tryd.isAgg0
  z0 := Tryd.sizeOf0
  v0 := Tryd.zeroValue0
  t2 := Tryd.underlying2
  a2 := Tryd.isAgg2
  z2 := Tryd.sizeOf2
  v2 := Tryd.zeroValue2
  t3 := Tryd.underlying3
  a3 := Tryd.isAgg3
  z3 := Tryd.sizeOf3
  v3 := Tryd.zeroValue3
  t4 := Tryd.underlying4
  a4 := Tryd.isAgg4
  z4 := Tryd.sizeOf4
  v4 := Tryd.zeroValue4
  t5 := Tryd.underlying5
  a5 := Tryd.isAgg5
  z5 := Tryd.sizeOf5
  v5 := Tryd.zeroValue5
  t9 := Tryd.underlying9
  a9 := Tryd.isAgg9
  z9 := Tryd.sizeOf9
  v9 := Tryd.zeroValue9
  t20 := Tryd.underlying20
  a20 := Tryd.isAgg20
  z20 := Tryd.sizeOf20
  v20 := Tryd.zeroValue20
  t37 := Tryd.underlying96
  a37 := Tryd.isAgg96
  z37 := Tryd.sizeOf96
  v37 := Tryd.zeroValue96
  t46 := Tryd.underlying108
  a46 := Tryd.isAgg108
  z46 := Tryd.sizeOf108
  v46 := Tryd.zeroValue108
  t51 := Tryd.underlying116
  a51 := Tryd.isAgg116
  z51 := Tryd.sizeOf116
  v51 := Tryd.zeroValue116
  t53 := Tryd.underlying102
  a53 := Tryd.isAgg102
  z53 := Tryd.sizeOf102
  v53 := Tryd.zeroValue102
  t171 := Tryd.underlying101
  a171 := Tryd.isAgg101
  z171 := Tryd.sizeOf101
  v171 := Tryd.zeroValue101
  t173 := Tryd.underlying105
  a173 := Tryd.isAgg105
  z173 := Tryd.sizeOf105
  v173 := Tryd.zeroValue105
  t212 := Tryd.underlying115
  a212 := Tryd.isAgg115
  z212 := Tryd.sizeOf115
  v212 := Tryd.zeroValue115
  t213 := Tryd.underlying117
  a213 := Tryd.isAgg117
  z213 := Tryd.sizeOf117
  t232 := Tryd.underlying123
  a232 := Tryd.isAgg123
  z232 := Tryd.sizeOf123
  v232 := Tryd.zeroValue123
  t233 := Tryd.underlying124
  a233 := Tryd.isAgg124
  z233 := Tryd.sizeOf124
  v233 := Tryd.zeroValue124
  g17 := by kernel_rfl
  g18 := by kernel_rfl
  g19 := by kernel_rfl }
open Go.RowKit Go.Sort Go.Lib in
theorem Tryd.strconv_Itoa_small (i : Nat) (hi : i < 100) (w : World) :
    Calls Tryd.prog 55 #[.int .i64 i] w fun e w' => e = .returned (.string ⟨(Lib.decDigits i).toArray⟩) ∧ w' = w := Any.strconv_Itoa_small Tryd.lays171 i hi w
open Go.RowKit Go.Lib in
theorem Tryd.strings_Contains_one (s : ByteArray) (c : UInt8) (w : World) :
    Calls Tryd.prog 65 #[.string s, .string ⟨#[c]⟩] w fun e w' => e = .returned (.bool (decide (0 ≤ Lib.indexByte s.data.toList c))) ∧ w' = w := Any.strings_Contains_one Tryd.lays144 s c w
end Go.Proofs
namespace Go.Proofs.YtjebpmjbdchdlaaDoor
open Go.RowKit
set_option linter.unusedVariables false

theorem expo_parts {lo hi : Nat} {r : F9.Bs} {k : Nat} {r1 : F9.Bs} (he : F9.expo lo hi r = .ok (k, r1)) : ∃ d : UInt8, F9.fw r = [d] ∧ digB d = true ∧ d.toNat = 48 + k ∧ k ≤ 9 ∧ lo ≤ k ∧ k ≤ hi ∧ r1 = F9.nx r := by
  unfold F9.expo at he
  split at he
  · rename_i d hd
    split at he
    · rename_i h
      have hd2 : 48 ≤ d.toNat ∧ d.toNat ≤ 57 := by unfold digB at h; simpa using h
      split at he
      · rename_i h2
        injection he with he
        injection he with h3 h4
        exact ⟨d, hd, h, by omega, by omega, by omega, by omega, h4.symm⟩
      · cases he
    · cases he
  · cases he
theorem expo_bad {lo hi : Nat} {r : F9.Bs} {x : F9.Er} (he : F9.expo lo hi r = .error x) : x.2 = r ∧ ((x.1 = 3 ∧ ∀ d, F9.fw r = [d] → digB d = false) ∨ (x.1 = 1 ∧ ∃ d : UInt8, ∃ k : Nat, F9.fw r = [d] ∧ digB d = true ∧ d.toNat = 48 + k ∧ k ≤ 9 ∧ ¬ (lo ≤ k ∧ k ≤ hi))) := by
  unfold F9.expo at he
  split at he
  · rename_i d hd
    split at he
    · rename_i h
      have hd2 : 48 ≤ d.toNat ∧ d.toNat ≤ 57 := by unfold digB at h; simpa using h
      split at he
      · cases he
      · rename_i h2
        injection he with he
        subst he
        exact ⟨rfl, .inr ⟨rfl, d, d.toNat - 48, hd, h, by omega, by omega, h2⟩⟩
    · rename_i h
      injection he with he
      subst he
      exact ⟨rfl, .inl ⟨rfl, fun d' e => by rw [hd] at e; injection e with e; subst e; simpa using h⟩⟩
  · rename_i hn
    injection he with he
    subst he
    exact ⟨rfl, .inl ⟨rfl, fun d e => absurd e (hn d)⟩⟩
section
variable {fs : List GBk} {w0 W : World} {rb : Nat} {t nm : ByteArray} {r : F9.Bs} {N : List F9.Nd} {Wt : List Nat}
set_option maxRecDepth 100000 in
set_option maxHeartbeats 4000000 in
theorem RS.expoY (h : RS fs w0 W rb t nm r N Wt) (hO : Og w0) (ht : t.size ≤ 100000) (hN : N.length ≤ 200000) (op : Nat) (nn : F9.Bs) {lo hi : Nat} (hk : ∀ k : Nat, nodB ⟨(op : Int), ⟨nn.toArray⟩, (k : Int)⟩ = (decide (lo ≤ k) && decide (k ≤ hi))) {k : Nat} {r1 : F9.Bs} (he : F9.expo lo hi r = .ok (k, r1)) : Calls Tryd.prog 40 #[.pointer (some ⟨rb, 0, none⟩), .agg #[.int .i64 op, .string ⟨nn.toArray⟩, .int .i64 0]] W fun e w' => e = .returned (.int .i64 0) ∧ RS fs w0 w' rb t nm r1 (N ++ [⟨op, nn, k⟩]) Wt := by
  obtain ⟨d, hd, hdg, hdk, hk9, hlo, hhi, rfl⟩ := expo_parts he
  obtain ⟨x, p, NA, WA, nc, wc, hRI, hwc, hrb, c_1, c_2, c_4, c_5, hL1, hL2⟩ := h.see
  have hx : x = ⟨#[d]⟩ := (hRI.is [d]).2 hd
  have hC : Hid (∀ V, Calls Tryd.prog 65 #[.string ⟨#[48, 49, 50, 51, 52, 53, 54, 55, 56, 57]⟩, .string x] V fun e w' => e = .returned (.bool true) ∧ w' = V) := Lib.hid fun V => by
    have := Tryd.strings_Contains_one digitsB d V
    rw [isDigit', hdg] at this
    rw [hx]; exact this
  have g0 : x.size = 1 := by rw [hx]; rfl
  have g1 : (x.size : Int) = 1 := by omega
  have g2 : (0 : Int) < (x.size : Int) := by omega
  have g3 : 0 < x.size := by omega
  have g4 : (x[0].toNat : Int) = 48 + (k : Int) := by
    have : x[0] = d := by subst hx; rfl
    rw [this]; omega
  have hM : Hid (∀ V, Below W.heap.size W V → Calls Tryd.prog 51 #[.agg #[.int .i64 op, .string ⟨nn.toArray⟩, .int .i64 k]] V fun e w' => e = .returned (.bool true) ∧ Below V.heap.size V w') := Lib.hid fun V hV => by
    have := isNode_any ⟨(op : Int), ⟨nn.toArray⟩, (k : Int)⟩ V ((hO.bel h.bel).bel hV)
    rw [hk, decide_eq_true hlo, decide_eq_true hhi] at this
    exact this
  have q1 : (48 : Int) + (k : Int) - 48 = (k : Int) := by omega
  have q2 : (k : Int) ≤ 9 := by omega
  have q3 : (0 : Int) ≤ (k : Int) := by omega
  have hX : Hid (∀ V, RS ((W.heap.size, #[.int .i64 op, .string ⟨nn.toArray⟩, .int .i64 k], 53) :: fs) w0 V rb t nm r N Wt → Calls Tryd.prog 18 #[.pointer (some ⟨rb, 0, none⟩)] V fun e w' => e = .returned (.tuple #[]) ∧ RS ((W.heap.size, #[.int .i64 op, .string ⟨nn.toArray⟩, .int .i64 k], 53) :: fs) w0 w' rb t nm (F9.nx r) N Wt) := Lib.hid fun V hV => hV.next ht
  have hA : Hid (∀ V, RS ((W.heap.size, #[.int .i64 op, .string ⟨nn.toArray⟩, .int .i64 k], 53) :: fs) w0 V rb t nm (F9.nx r) N Wt → Calls Tryd.prog 63 #[.pointer (some ⟨rb, 0, none⟩), .agg #[.int .i64 op, .string ⟨nn.toArray⟩, .int .i64 k]] V fun e w' => e = .returned (.tuple #[]) ∧ RS fs w0 w' rb t nm (F9.nx r) (N ++ [⟨op, nn, k⟩]) Wt) := Lib.hid fun V hV => (hV.add ⟨op, nn, k⟩ hN).mono (by rintro e w' ⟨rfl, R⟩; exact ⟨rfl, R.drop⟩)
  generalize (⟨nn.toArray⟩ : ByteArray) = ns at *
  have hh := Lib.hid (h.keep #[.int .i64 op, .string ns, .int .i64 k] 53 (noLof rfl))
  clear h hO ht hN hk he hd hdg hdk hk9 hlo hhi hRI hwc c_2 c_4 c_5 hL1 hL2 hx g0
  go_enter Tryd.func40, Tryd.ntmps40
  go_wp2_with fail
  refine (hC.out _).mono ?_
  rintro e w1 ⟨rfl, rfl⟩
  go_wp2_with fail
  refine (hM.out _ ((Below.refl _ _).alloc (Nat.le_refl _) _)).mono ?_
  rintro e w2 ⟨rfl, bb⟩
  have R1 := hh.out.call bb
  clear bb hh hM hC c_1 hrb
  go_wp2_with fail
  refine (hX.out _ R1).mono ?_
  rintro e w3 ⟨rfl, R2⟩
  clear hX R1
  have b0 := R2.blk.cell (i := 0) rfl
  have b1 := R2.blk.cell (i := 1) rfl
  have b2 := R2.blk.cell (i := 2) rfl
  have bl := R2.blk.lt
  replace R2 := Lib.hid R2
  go_wp2_with fail
  refine (hA.out _ R2.out).mono ?_
  rintro e w4 ⟨rfl, R3⟩
  replace R3 := Lib.hid R3
  clear hA R2 b0 b1 b2 bl
  go_wp2
  go_ret
  exact ⟨rfl, R3.out⟩

set_option maxRecDepth 100000 in
set_option maxHeartbeats 4000000 in
theorem RS.expoR (h : RS fs w0 W rb t nm r N Wt) (hO : Og w0) (ht : t.size ≤ 100000) (op : Nat) (nn : F9.Bs) {lo hi : Nat} (hk : ∀ k : Nat, nodB ⟨(op : Int), ⟨nn.toArray⟩, (k : Int)⟩ = (decide (lo ≤ k) && decide (k ≤ hi))) {x : F9.Er} (he : F9.expo lo hi r = .error x) : Calls Tryd.prog 40 #[.pointer (some ⟨rb, 0, none⟩), .agg #[.int .i64 op, .string ⟨nn.toArray⟩, .int .i64 0]] W fun e w' => e = .returned (.int .i64 x.1) ∧ RS fs w0 w' rb t nm x.2 N Wt := by
  obtain ⟨hx2, hx1⟩ := expo_bad he
  rw [hx2]
  rcases hx1 with ⟨hx1, hnd⟩ | ⟨hx1, d, k, hd, hdg, hdk, hk9, hlh⟩
  · rw [hx1]
    obtain ⟨x, p, NA, WA, nc, wc, hRI, hwc, hrb, c_1, c_2, c_4, c_5, hL1, hL2⟩ := h.see
    by_cases hs : x.size = 1
    · obtain ⟨d, hxd⟩ : ∃ d, x = ⟨#[d]⟩ := by
        have hl := hRI.xl
        rw [hs] at hl
        obtain ⟨d, hd⟩ := List.length_eq_one_iff.1 hl.symm
        exact ⟨d, (hRI.is [d]).2 hd⟩
      have hdg := hnd d ((hRI.is [d]).1 hxd)
      have hC : Hid (∀ V, Calls Tryd.prog 65 #[.string ⟨#[48, 49, 50, 51, 52, 53, 54, 55, 56, 57]⟩, .string x] V fun e w' => e = .returned (.bool false) ∧ w' = V) := Lib.hid fun V => by
        have := Tryd.strings_Contains_one digitsB d V
        rw [isDigit', hdg] at this
        rw [hxd]; exact this
      have g1 : (x.size : Int) = 1 := by omega
      generalize (⟨nn.toArray⟩ : ByteArray) = ns at *
      have hh := Lib.hid h
      clear h hO ht hk he hnd hdg hxd hs hRI hwc c_2 c_4 c_5 hL1 hL2 hx2 hx1
      go_enter Tryd.func40, Tryd.ntmps40
      go_wp2_with fail
      refine (hC.out _).mono ?_
      rintro e w1 ⟨rfl, rfl⟩
      go_wp2
      go_ret
      exact ⟨rfl, hh.out.call ((Below.refl _ _).alloc (Nat.le_refl _) _)⟩
    · have g1 : ((x.size : Int) == 1) = false := by rw [beq_eq_false_iff_ne]; omega
      have g3 : ¬ (x.size : Int) = 1 := by omega
      have g2 : (x.size == 1) = false := by rw [beq_eq_false_iff_ne]; exact hs
      generalize (⟨nn.toArray⟩ : ByteArray) = ns at *
      have hh := Lib.hid h
      clear h hO ht hk he hnd hRI hwc c_2 c_4 c_5 hL1 hL2 hx2 hx1
      go_enter Tryd.func40, Tryd.ntmps40
      go_wp2
      go_ret
      exact ⟨rfl, hh.out.call ((Below.refl _ _).alloc (Nat.le_refl _) _)⟩
  · rw [hx1]
    obtain ⟨x, p, NA, WA, nc, wc, hRI, hwc, hrb, c_1, c_2, c_4, c_5, hL1, hL2⟩ := h.see
    have hx : x = ⟨#[d]⟩ := (hRI.is [d]).2 hd
    have hC : Hid (∀ V, Calls Tryd.prog 65 #[.string ⟨#[48, 49, 50, 51, 52, 53, 54, 55, 56, 57]⟩, .string x] V fun e w' => e = .returned (.bool true) ∧ w' = V) := Lib.hid fun V => by
      have := Tryd.strings_Contains_one digitsB d V
      rw [isDigit', hdg] at this
      rw [hx]; exact this
    have g0 : x.size = 1 := by rw [hx]; rfl
    have g1 : (x.size : Int) = 1 := by omega
    have g2 : (0 : Int) < (x.size : Int) := by omega
    have g3 : 0 < x.size := by omega
    have g4 : (x[0].toNat : Int) = 48 + (k : Int) := by
      have : x[0] = d := by subst hx; rfl
      rw [this]; omega
    have hM : Hid (∀ V, Below W.heap.size W V → Calls Tryd.prog 51 #[.agg #[.int .i64 op, .string ⟨nn.toArray⟩, .int .i64 k]] V fun e w' => e = .returned (.bool false) ∧ Below V.heap.size V w') := Lib.hid fun V hV => by
      have := isNode_any ⟨(op : Int), ⟨nn.toArray⟩, (k : Int)⟩ V ((hO.bel h.bel).bel hV)
      rw [hk, show (decide (lo ≤ k) && decide (k ≤ hi)) = false by rw [Bool.eq_false_iff, ne_eq, Bool.and_eq_true, decide_eq_true_eq, decide_eq_true_eq]; exact hlh] at this
      exact this
    have q1 : (48 : Int) + (k : Int) - 48 = (k : Int) := by omega
    have q2 : (k : Int) ≤ 9 := by omega
    have q3 : (0 : Int) ≤ (k : Int) := by omega
    generalize (⟨nn.toArray⟩ : ByteArray) = ns at *
    have hh := Lib.hid (h.call ((Below.refl _ _).alloc (Nat.le_refl _) (.cells #[.int .i64 op, .string ns, .int .i64 k] 53)))
    clear h hO ht hk he hd hdg hdk hk9 hlh hRI hwc c_2 c_4 c_5 hL1 hL2 hx g0 hx2 hx1
    go_enter Tryd.func40, Tryd.ntmps40
    go_wp2_with fail
    refine (hC.out _).mono ?_
    rintro e w1 ⟨rfl, rfl⟩
    go_wp2_with fail
    refine (hM.out _ ((Below.refl _ _).alloc (Nat.le_refl _) _)).mono ?_
    rintro e w2 ⟨rfl, bb⟩
    have R1 := Lib.hid (hh.out.call bb)
    clear bb hh hM hC c_1 hrb
    go_wp2
    go_ret
    exact ⟨rfl, R1.out⟩

end
end Go.Proofs.YtjebpmjbdchdlaaDoor
