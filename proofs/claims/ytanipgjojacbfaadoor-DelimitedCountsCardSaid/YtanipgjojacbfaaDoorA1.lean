/- Blocks in memory: the reader's; what a call that moves it leaves alone. -/
import Derived.Test.YtanipgjojacbfaaDoorSh
import Derived.Test.YtanipgjojacbfaaDoorA0
import Derived.IntWalk
import Derived.WalkKit
import Derived.WalkSpells
import Derived.Lib.Hide
import Derived.Deep.QuietTactic
import Derived.BigQuiet
import Derived.Deep.Draws
import Derived.Deep.OwnRows
import Derived.Deep.DeepCutAuto
import Derived.Laws.BitsAllLaws
import Derived.WalkLawsBesides
import Derived.Laws.AppendOwn
import Derived.Lib.OthersKept
namespace Go.Proofs.YtanipgjojacbfaaDoor
open Go.RowKit

/-- A block that holds the cells cs. -/
def Cb (W : World) (g : Nat) (cs : Array Value) (t : Nat) : Prop := W.heap[g]? = some (.cells cs t (0, 0))
section
variable {w W W' : World} {g t : Nat} {cs : Array Value}
theorem Cb.lt (h : Cb W g cs t) : g < W.heap.size := by
  rcases Nat.lt_or_ge g W.heap.size with hlt | hge
  · exact hlt
  · unfold Cb at h; rw [Array.getElem?_eq_none hge] at h; cases h
theorem Cb.keep (h : Cb W g cs t) (hk : W'.heap[g]? = W.heap[g]?) : Cb W' g cs t := hk.trans h
theorem Cb.new (W : World) (cs : Array Value) (t : Nat) : Cb (W.alloc (.cells cs t)) W.heap.size cs t := by
  unfold Cb World.alloc; simp
theorem Cb.alloc (h : Cb W g cs t) (o : Obj) : Cb (W.alloc o) g cs t := h.keep (Below.heap_alloc W o g h.lt)
theorem Cb.bel (h : Cb W g cs t) (hb : Below W.heap.size W W') : Cb W' g cs t := h.keep (hb.block g h.lt)
theorem Cb.drew (h : Cb W g cs t) : Cb W.drew g cs t := h
theorem Cb.cell (h : Cb W g cs t) (i : Nat) {v : Value} (hv : cs[i]? = some v) : W.cell? ⟨g, i, none⟩ = some v := by
  rw [Lib.cell_of_heap h]; exact hv
theorem Cb.frozen (h : Cb W g cs t) (i : Nat) : W.frozen? ⟨g, i, none⟩ = false := by
  unfold Cb at h; simp [World.frozen?, h]
theorem Cb.set (h : Cb W g cs t) (i : Nat) (v : Value) : Cb (W.setCell ⟨g, i, none⟩ v) g (cs.setIfInBounds i v) t := by
  unfold Cb at *; simp [World.setCell, Array.getElem?_modify, h]
theorem Cb.far (h : Cb W g cs t) {p : Addr} (hp : g ≠ p.block) (u : Value) : Cb (W.setCell p u) g cs t := h.keep (Below.heap_setCell W p u g hp)
theorem Cb.drewN (h : Cb W g cs t) (k : Nat) : Cb (W.drewN k) g cs t := h
end
/-- Block b holds cs now; no other old block has changed. -/
structure Upd (b : Nat) (cs : Array Value) (t : Nat) (w w' : World) : Prop where
  os : w'.os = w.os
  tape : w'.tape = w.tape
  output : w'.output = w.output
  size : w.heap.size ≤ w'.heap.size
  block : ∀ k, k < w.heap.size → k ≠ b → w'.heap[k]? = w.heap[k]?
  here : Cb w' b cs t
section
variable {b t t' : Nat} {cs cs' : Array Value} {w w' w'' : World}
theorem Upd.refl (h : Cb w b cs t) : Upd b cs t w w := ⟨rfl, rfl, rfl, Nat.le_refl _, fun _ _ _ => rfl, h⟩
theorem Upd.trans (h : Upd b cs t w w') (k : Upd b cs' t' w' w'') : Upd b cs' t' w w'' :=
  ⟨k.os.trans h.os, k.tape.trans h.tape, k.output.trans h.output, Nat.le_trans h.size k.size, fun i hi hn => (k.block i (Nat.lt_of_lt_of_le hi h.size) hn).trans (h.block i hi hn), k.here⟩
theorem Upd.bel (h : Upd b cs t w w') (k : Below w'.heap.size w' w'') : Upd b cs t w w'' :=
  ⟨k.os.trans h.os, k.tape.trans h.tape, k.output.trans h.output, Nat.le_trans h.size k.size, fun i hi hn => (k.block i (Nat.lt_of_lt_of_le hi h.size)).trans (h.block i hi hn), h.here.bel k⟩
theorem Upd.of (h : Cb w b cs t) (k : Below w.heap.size w w') : Upd b cs t w w' := (Upd.refl h).bel k
theorem Upd.below (h : Upd b cs t w w') {B : Nat} (hb : B ≤ b) (hB : B ≤ w.heap.size) : Below B w w' :=
  ⟨h.os, h.tape, h.output, h.size, fun i hi => h.block i (Nat.lt_of_lt_of_le hi hB) (by omega)⟩
theorem Upd.set (h : Upd b cs t w w') (i : Nat) (v : Value) : Upd b (cs.setIfInBounds i v) t w (w'.setCell ⟨b, i, none⟩ v) :=
  ⟨h.os, h.tape, h.output, by simpa using h.size, fun k hk hn => (Below.heap_setCell w' ⟨b, i, none⟩ v k hn).trans (h.block k hk hn), h.here.set i v⟩
theorem Upd.drewN (h : Upd b cs t w w') (k : Nat) : Upd b cs t w (w'.drewN k) :=
  h.bel (below_drewN (Below.refl _ _) k)
theorem Upd.cb {g u : Nat} {ds : Array Value} (h : Upd b cs t w w') (hg : Cb w g ds u) (hn : g ≠ b) : Cb w' g ds u := hg.keep (h.block g hg.lt hn)
end
theorem quiet_add_same {P : Program} {f : FuncId} {args : Array Value} {w : World} {a n : Nat} {v : Value}
    (h : Calls P f args (w.drewN (a + n)) fun e w' => e = .returned v ∧ w' = w.drewN (a + n)) :
    Calls P f args (w.drewN (a + n)) fun e w'' => e = .returned v ∧ ∃ m, w'' = w.drewN (a + m) :=
  h.mono fun _ _ ⟨he, hm⟩ => ⟨he, n, hm⟩
theorem quiet_add {P : Program} {f : FuncId} {args : Array Value} {w : World} {a n : Nat} {v : Value}
    (h : Calls P f args (w.drewN (a + n)) fun e w' => e = .returned v ∧ ∃ m, w' = (w.drewN (a + n)).drewN m) :
    Calls P f args (w.drewN (a + n)) fun e w'' => e = .returned v ∧ ∃ m, w'' = w.drewN (a + m) :=
  h.mono fun _ _ ⟨he, m, hm⟩ => ⟨he, n + m, by rw [hm, World.drewN_drewN, Nat.add_assoc]⟩
/-- The reader of the program. -/
abbrev rdC (s : ByteArray) (d : UInt8) (p : Nat) : Array Value := #[.string s, .int .u8 d.toNat, .int .i64 p]
abbrev rdT : Nat := 46
section
variable {W : World} {b : Nat} {s : ByteArray} {d : UInt8} {p : Nat}
theorem rd0 (h : Cb W b (rdC s d p) rdT) : W.cell? ⟨b, 0, none⟩ = some (.string s) := h.cell 0 rfl
theorem rd1 (h : Cb W b (rdC s d p) rdT) : W.cell? ⟨b, 1, none⟩ = some (.int .u8 d.toNat) := h.cell 1 rfl
theorem rd2 (h : Cb W b (rdC s d p) rdT) : W.cell? ⟨b, 2, none⟩ = some (.int .i64 p) := h.cell 2 rfl
theorem isD_cases (h : isD d = true) : d = 44 ∨ d = 59 ∨ d = 9 ∨ d = 124 := by
  unfold isD at h
  simp only [Bool.or_eq_true, beq_iff_eq] at h
  rcases h with ((h | h) | h) | h <;> simp [h]
end
end Go.Proofs.YtanipgjojacbfaaDoor
