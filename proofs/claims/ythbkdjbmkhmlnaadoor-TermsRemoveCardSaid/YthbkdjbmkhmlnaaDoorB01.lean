/- How a slice reads as a list of limbs in the model's memory; what make and append leave. -/
import Derived.Test.YthbkdjbmkhmlnaaDoorProg
import Derived.Test.YthbkdjbmkhmlnaaDoorB00
import Derived.WalkKit
import Derived.WalkSpells
import Derived.Lib.Hide
import Derived.Deep.QuietTactic
import Derived.BigQuiet
import Derived.Deep.Draws
import Derived.Deep.OwnRows
import Derived.Deep.DeepCutAuto
import Derived.Laws.BitsAllLaws
import Derived.WalkLawsBesides
import Derived.Laws.AppendOwn
import Derived.Deep.RegionHeld3
import Derived.RegionTactic
import Derived.Deep.RegionWith
import Derived.Deep.LoopGhost
import Derived.OpenShut
namespace Go.Proofs.YthbkdjbmkhmlnaaDoor
open Go.RowKit

/-- A limb as a value. -/
def u32 (z : Nat) : Value := .int .u32 (z : Int)

/-- The slice value reads as the list of limbs xs, and lies below block B. -/
structure RdB (w : World) (B : Nat) (A : Option Addr) (n c : Nat) (xs : List Nat) : Prop where
  len : xs.length = n
  cap : n ≤ c
  sm : Sm xs
  mem : n = 0 ∨ ∃ b o, A = some ⟨b, o, none⟩ ∧ b < B ∧ ∀ k, k < n → w.cell? ⟨b, o + k, none⟩ = some (.int .u32 ((xs.getD k 0 : Nat) : Int))
def Rd (w : World) (A : Option Addr) (n c : Nat) (xs : List Nat) : Prop := RdB w w.heap.size A n c xs

section
variable {w w' : World} {B B' : Nat} {A : Option Addr} {n c : Nat} {xs : List Nat}
theorem RdB.at_ (h : RdB w B A n c xs) {k : Nat} (hk : k < n) :
    ∃ b o x, A = some ⟨b, o, none⟩ ∧ b < B ∧ x < 4294967296 ∧ xs.getD k 0 = x ∧ w.cell? ⟨b, o + k, none⟩ = some (.int .u32 ((x : Nat) : Int)) := by
  obtain ⟨_, _, h4, h5⟩ := h
  rcases h5 with h5 | ⟨b, o, h5, h6, h7⟩
  · omega
  · exact ⟨b, o, xs.getD k 0, h5, h6, sm_get h4 k, rfl, h7 k hk⟩
theorem Rd.at_ (h : Rd w A n c xs) {k : Nat} (hk : k < n) :
    ∃ b o x, A = some ⟨b, o, none⟩ ∧ b < w.heap.size ∧ x < 4294967296 ∧ xs.getD k 0 = x ∧ w.cell? ⟨b, o + k, none⟩ = some (.int .u32 ((x : Nat) : Int)) := RdB.at_ h hk
theorem RdB.nil_ (w : World) (B c : Nat) (A : Option Addr) : RdB w B A 0 c [] := ⟨rfl, Nat.zero_le _, sm_nil, .inl rfl⟩
theorem Rd.nil_ (w : World) (c : Nat) (A : Option Addr) : Rd w A 0 c [] := ⟨rfl, Nat.zero_le _, sm_nil, .inl rfl⟩
theorem RdB.keep (h : RdB w B A n c xs) (hk : ∀ p : Addr, p.block < B → w'.cell? p = w.cell? p) : RdB w' B A n c xs := by
  refine ⟨h.len, h.cap, h.sm, ?_⟩
  rcases h.mem with h5 | ⟨b, o, h5, h6, h7⟩
  · exact .inl h5
  · exact .inr ⟨b, o, h5, by omega, fun k hk' => (hk _ h6).trans (h7 k hk')⟩
theorem RdB.more (h : RdB w B A n c xs) (hB : B ≤ B') : RdB w B' A n c xs := by
  refine ⟨h.len, h.cap, h.sm, ?_⟩
  rcases h.mem with h5 | ⟨b, o, h5, h6, h7⟩
  · exact .inl h5
  · exact .inr ⟨b, o, h5, by omega, h7⟩
theorem RdB.below (h : RdB w B A n c xs) (hb : Below B w w') : RdB w' B A n c xs := h.keep fun _ hp => hb.cell hp
/-- What could be read can be read behind a call. -/
theorem Rd.below (h : Rd w A n c xs) (hb : Below w.heap.size w w') : Rd w' A n c xs := (RdB.below h hb).more hb.size
theorem Rd.base (h : Rd w A n c xs) (hb : Below w.heap.size w w') : RdB w' w.heap.size A n c xs := RdB.below h hb
theorem Rd.alloc (h : Rd w A n c xs) (o : Obj) : Rd (w.alloc o) A n c xs := Rd.below h ((Below.refl _ _).alloc (Nat.le_refl _) o)
theorem Rd.drewN (h : Rd w A n c xs) (k : Nat) : Rd (w.drewN k) A n c xs := ⟨h.len, h.cap, h.sm, h.mem⟩
theorem RdB.grown (h : RdB w B A n c xs) {g : Nat} (hg : w.grownBy w' (some g)) (hB : B ≤ w.heap.size) (hr : B ≤ g) : RdB w' B A n c xs :=
  h.keep fun p hp => World.cell?_of_block (hg.block p.block (by omega) (fun e => by injection e; omega))
theorem RdB.take (h : RdB w B A n c xs) {k : Nat} (hk : k ≤ n) : RdB w B A k c (xs.take k) := by
  have hl := h.len
  have hc := h.cap
  refine ⟨by rw [List.length_take]; omega, by omega, sm_take h.sm _, ?_⟩
  rcases h.mem with h5 | ⟨b, o, h5, h6, h7⟩
  · exact .inl (by omega)
  · refine .inr ⟨b, o, h5, h6, fun j hj => ?_⟩
    rw [h7 j (by omega)]
    simp [hj]
theorem Rd.take (h : Rd w A n c xs) {k : Nat} (hk : k ≤ n) : Rd w A k c (xs.take k) := RdB.take h hk
end

/-- The slice value reads as the list of limbs xs, and does not lie in block g. -/
structure RdX (w : World) (g : Nat) (A : Option Addr) (n c : Nat) (xs : List Nat) : Prop where
  len : xs.length = n
  cap : n ≤ c
  sm : Sm xs
  mem : n = 0 ∨ ∃ b o, A = some ⟨b, o, none⟩ ∧ b ≠ g ∧ ∀ k, k < n → w.cell? ⟨b, o + k, none⟩ = some (.int .u32 ((xs.getD k 0 : Nat) : Int))

section
variable {w w' : World} {g : Nat} {A : Option Addr} {n c : Nat} {xs : List Nat}
theorem RdB.x {B : Nat} (h : RdB w B A n c xs) (hB : B ≤ g) : RdX w g A n c xs := by
  refine ⟨h.len, h.cap, h.sm, ?_⟩
  rcases h.mem with h5 | ⟨b, o, h5, h6, h7⟩
  · exact .inl h5
  · exact .inr ⟨b, o, h5, by omega, h7⟩
theorem RdX.at_ (h : RdX w g A n c xs) {k : Nat} (hk : k < n) :
    ∃ b o x, A = some ⟨b, o, none⟩ ∧ b ≠ g ∧ x < 4294967296 ∧ xs.getD k 0 = x ∧ w.cell? ⟨b, o + k, none⟩ = some (.int .u32 ((x : Nat) : Int)) := by
  obtain ⟨_, _, h4, h5⟩ := h
  rcases h5 with h5 | ⟨b, o, h5, h6, h7⟩
  · omega
  · exact ⟨b, o, xs.getD k 0, h5, h6, sm_get h4 k, rfl, h7 k hk⟩
theorem RdX.grown (h : RdX w g A n c xs) (hg : w.grownBy w' (some g)) : RdX w' g A n c xs := by
  refine ⟨h.len, h.cap, h.sm, ?_⟩
  rcases h.mem with h5 | ⟨b, o, h5, h6, h7⟩
  · exact .inl h5
  · exact .inr ⟨b, o, h5, h6, fun k hk => hg.cell (h7 k hk) (by intro e; injection e with e; exact h6 e)⟩
end

/-- A block of the call's own begins with the limbs zs. -/
structure Own (w : World) (g : Nat) (zs : List Nat) : Prop where
  heap : ∃ cs, w.heap[g]? = some (.cells cs 139 (0, 0)) ∧ cs.toList.take zs.length = zs.map u32
  sm : Sm zs

section
variable {w w' : World} {g : Nat} {zs : List Nat}
theorem Own.lt (h : Own w g zs) : g < w.heap.size := by
  obtain ⟨cs, h, _⟩ := h.heap
  rcases Nat.lt_or_ge g w.heap.size with hlt | hge
  · exact hlt
  · rw [Array.getElem?_eq_none hge] at h; cases h
theorem Own.cell (h : Own w g zs) {k : Nat} (hk : k < zs.length) : w.cell? ⟨g, k, none⟩ = some (.int .u32 ((zs.getD k 0 : Nat) : Int)) := by
  obtain ⟨cs, h, ht⟩ := h.heap
  rw [cell_of_row w g k _ 139 (0, 0) h]
  have : (cs.toList.take zs.length)[k]? = (zs.map u32)[k]? := by rw [ht]
  rw [List.getElem?_take_of_lt hk, Array.getElem?_toList] at this
  rw [this]
  simp [hk, u32]
theorem Own.frozen (h : Own w g zs) (i : Nat) : w.frozen? ⟨g, i, none⟩ = false := by
  obtain ⟨cs, h, _⟩ := h.heap
  simp [World.frozen?, h]
theorem Own.drew (h : Own w g zs) : Own w.drew g zs := ⟨h.heap, h.sm⟩
theorem Own.drewN (h : Own w g zs) (k : Nat) : Own (w.drewN k) g zs := ⟨h.heap, h.sm⟩
theorem Own.keep (h : Own w g zs) (hk : w'.heap[g]? = w.heap[g]?) : Own w' g zs := by
  obtain ⟨cs, hc, ht⟩ := h.heap
  exact ⟨⟨cs, hk.trans hc, ht⟩, h.sm⟩
theorem Own.alloc (h : Own w g zs) (o : Obj) : Own (w.alloc o) g zs := h.keep (Below.heap_alloc w o g h.lt)
theorem Own.set_ (h : Own w g zs) (i x : Nat) (hx : x < 4294967296) : Own (w.setCell ⟨g, i, none⟩ (.int .u32 (x : Int))) g (zs.set i x) := by
  obtain ⟨cs, hc, ht⟩ := h.heap
  refine ⟨⟨cs.setIfInBounds i (u32 x), ?_, ?_⟩, sm_set h.sm i x hx⟩
  · simp [World.setCell, Array.getElem?_modify, hc, u32]
  · rw [Array.toList_setIfInBounds, List.length_set, List.take_set, ht, List.map_set]
theorem Own.far (h : Own w g zs) {p : Addr} (hp : g ≠ p.block) (u : Value) : Own (w.setCell p u) g zs := h.keep (Below.heap_setCell w p u g hp)
theorem Own.below {B : Nat} (h : Own w g zs) (hb : Below B w w') (hg : g < B) : Own w' g zs := h.keep (hb.block g hg)
theorem Own.grown {r : Option Nat} (h : Own w g zs) (hb : w.grownBy w' r) (hg : some g ≠ r) : Own w' g zs := h.keep (hb.block g h.lt hg)
theorem Own.pre (h : Own w g zs) (k : Nat) : Own w g (zs.take k) := by
  obtain ⟨cs, hc, ht⟩ := h.heap
  refine ⟨⟨cs, hc, ?_⟩, sm_take h.sm k⟩
  rw [List.map_take, ← ht, List.take_take, List.length_take]
/-- A part of the block, as a slice. -/
theorem Own.rd (h : Own w g zs) (o n c : Nat) (hn : o + n ≤ zs.length) (hc : n ≤ c) : Rd w (some ⟨g, o, none⟩) n c ((zs.drop o).take n) := by
  refine ⟨by rw [List.length_take, List.length_drop]; omega, hc, sm_take (sm_drop h.sm _) _, .inr ⟨g, o, rfl, h.lt, fun k hk => ?_⟩⟩
  rw [h.cell (by omega)]
  simp [hk, List.getElem?_drop]
theorem Own.rdx (h : Own w g zs) {g' n c : Nat} (hg : g ≠ g') (hn : n ≤ zs.length) (hc : n ≤ c) : RdX w g' (some ⟨g, 0, none⟩) n c (zs.take n) := by
  refine ⟨by rw [List.length_take]; omega, hc, sm_take h.sm _, .inr ⟨g, 0, rfl, hg, fun k hk => ?_⟩⟩
  rw [Nat.zero_add, h.cell (by omega)]
  simp [hk]
theorem Own.rd0 (h : Own w g zs) (c : Nat) (hc : zs.length ≤ c) : Rd w (some ⟨g, 0, none⟩) zs.length c zs := by
  have := h.rd 0 zs.length c (by omega) hc
  simpa using this
theorem Own.rdn (h : Own w g zs) {n c : Nat} (hn : zs.length = n) (hc : n ≤ c) : Rd w (some ⟨g, 0, none⟩) n c zs := by subst hn; exact h.rd0 c hc
theorem Own.new (w : World) (n : Nat) : Own (w.alloc (.cells (madeCells #[.int .u32 0] n) 139)) w.heap.size (List.replicate n 0) := by
  refine ⟨⟨_, heap_alloc_new w _, ?_⟩, sm_replicate n⟩
  have e : madeCells #[Value.int .u32 0] n = ((List.replicate n 0).map u32).toArray := by
    apply Array.ext
    · simp [madeCells]
    · intro i h1 h2
      simp [madeCells, u32, Nat.mod_one]
  rw [e]; simp
theorem made_eq (n : Nat) : madeCells #[Value.int .u32 0] n = ((List.replicate n 0).map u32).toArray := by
  apply Array.ext
  · simp [madeCells]
  · intro i h1 h2
    simp [madeCells, u32, Nat.mod_one]
theorem Own.newset (w : World) (n i x : Nat) (hx : x < 4294967296) : Own (w.alloc (.cells ((madeCells #[.int .u32 0] n).setIfInBounds i (.int .u32 (x : Int))) 139)) w.heap.size ((List.replicate n 0).set i x) := by
  refine ⟨⟨_, heap_alloc_new w _, ?_⟩, sm_set (sm_replicate n) i x hx⟩
  rw [made_eq, Array.toList_setIfInBounds, List.map_set]
  show ((((List.replicate n 0).map u32).set i (u32 x)).take _) = _
  rw [List.take_of_length_le (by simp)]
theorem Own.lit (w : World) (zs : List Nat) (h : Sm zs) : Own (w.alloc (.cells (zs.map u32).toArray 139)) w.heap.size zs :=
  ⟨⟨_, heap_alloc_new w _, by show (zs.map u32).take zs.length = _; rw [List.take_of_length_le (by simp)]⟩, h⟩
end

/-- What a function that returns one number leaves. -/
def RetN (N : Nat) (w : World) (e : Ending) (w' : World) : Prop := ∃ A n c, e = .returned (.slice A n c) ∧ Rd w' A n c (limbs N) ∧ Below w.heap.size w w'

/-- .. in new memory. -/
def RetO (N : Nat) (w : World) (e : Ending) (w' : World) : Prop := ∃ g n c, e = .returned (.slice (some ⟨g, 0, none⟩) n c) ∧ w.heap.size ≤ g ∧ Own w' g (limbs N) ∧ (limbs N).length = n ∧ n ≤ c ∧ Below w.heap.size w w'
theorem RetO.n {N : Nat} {w : World} {e : Ending} {w' : World} : RetO N w e w' → RetN N w e w' := by
  rintro ⟨g, n, c, he, _, hO, hn, hc, hb⟩
  exact ⟨_, n, c, he, hO.rdn hn hc, hb⟩

theorem Rd.drew1 {w : World} {A : Option Addr} {n c : Nat} {xs : List Nat} (h : Rd w A n c xs) : Rd w.drew A n c xs := ⟨h.len, h.cap, h.sm, h.mem⟩
theorem info41 : (Tryd.prog.info? 139).map (fun i => (i.zero, i.size, i.bytes)) = some (some (.int .u32 0), 1, 4) := by kernel_rfl

/-- A slice that grows by append: the call's own. -/
structure Gr (w : World) (base : Nat) (v : Value) (xs : List Nat) : Prop where
  own : w.ownsRow base 139 1 v xs.length (xs.map u32)
  sm : Sm xs

section
variable {w w' : World} {base : Nat} {v : Value} {xs : List Nat}
theorem Gr.nil_ (w : World) (base : Nat) : Gr w base (.slice none 0 0) [] := ⟨World.ownsRow_nil _ _ _ _, sm_nil⟩
theorem Gr.made (w : World) : Gr (w.alloc (.cells #[] 139)) w.heap.size (.slice (some ⟨w.heap.size, 0, none⟩) 0 0) [] :=
  ⟨World.ownsRow_made w #[] 0 (Nat.le_refl _) (by unfold maxLen; omega) rfl, sm_nil⟩
theorem Gr.zeros (w : World) (n : Nat) (hn : n ≤ 100000) : Gr (w.alloc (.cells (madeCells #[.int .u32 0] n) 139)) w.heap.size (.slice (some ⟨w.heap.size, 0, none⟩) n n) (List.replicate n 0) := by
  refine ⟨⟨by simp, .inr ⟨w.heap.size, n, madeCells #[.int .u32 0] n, by simp, Nat.le_refl _, heap_alloc_new w _, by simp, by unfold maxLen; omega, by rw [made_eq]; simp, ?_⟩⟩, sm_replicate n⟩
  rw [made_eq]
  simp
theorem Gr.alloc (h : Gr w base v xs) (o : Obj) : Gr (w.alloc o) base v xs := ⟨h.own.alloc o, h.sm⟩
theorem Gr.form (h : Gr w base v xs) : ∃ A c, v = .slice A xs.length c ∧ Rd w A xs.length c xs ∧ (xs.length = 0 ∨ ∃ g, A = some ⟨g, 0, none⟩ ∧ base ≤ g ∧ Own w g xs) := by
  rcases h.own.2 with ⟨hv, hn⟩ | ⟨g, cap, cur, hv, hb, hh, hn, hm, hs, ht⟩
  · have : xs = [] := List.eq_nil_of_length_eq_zero hn
    subst this
    exact ⟨none, 0, hv, Rd.nil_ _ _ _, .inl rfl⟩
  · have O : Own w g xs := ⟨⟨cur, hh, by simpa using ht⟩, h.sm⟩
    exact ⟨_, _, hv, O.rdn rfl hn, .inr ⟨g, rfl, hb, O⟩⟩
end

theorem one_u32 (xs : List Nat) : ∀ u ∈ xs.map u32, u.oneCell' = true := by
  intro u hu
  obtain ⟨z, _, rfl⟩ := List.mem_map.1 hu
  rfl

theorem cells_rd {w : World} {ad : Addr} {m c : Nat} {ys : List Nat} (h : Rd w (some ad) m c ys) : ∀ j u, (ys.map u32)[j]? = some u → w.cell? (ad.add j) = some u := by
  intro j u hu
  have hj : j < ys.length := by
    rcases Nat.lt_or_ge j ys.length with h | h
    · exact h
    · rw [List.getElem?_eq_none (by simpa using h)] at hu; cases hu
  have hl := h.len
  rcases h.mem with h5 | ⟨b, o, h5, h6, h7⟩
  · omega
  · injection h5 with h5
    subst h5
    have e : (⟨b, o, none⟩ : Addr).add j = ⟨b, o + j, none⟩ := by
      unfold Addr.add; split
      · rename_i h; subst h; rfl
      · rfl
    rw [e, h7 j (by omega)]
    rw [List.getElem?_map, List.getElem?_eq_getElem hj] at hu
    simp only [Option.map_some, Option.some.injEq] at hu
    rw [← hu, List.getD_eq_getElem?_getD, List.getElem?_eq_getElem hj]
    rfl

/-- Two parts of a number, joined by |. -/
theorem or_limb (a x : Nat) (ha : a < 4294967296) (hx : x < 4294967296) : bits .or .u64 ((a : Int) * 4294967296) (x : Int) = ((a * 4294967296 + x : Nat) : Int) := by
  rw [show (a : Int) * 4294967296 = ((a * 4294967296 : Nat) : Int) by simp]
  rw [u64_or_nat (a * 4294967296) x (by omega) (by omega)]
  congr 1
  have := Nat.two_pow_add_eq_or_of_lt (i := 32) (b := x) (by omega) a
  rw [show (2:Nat) ^ 32 = 4294967296 from rfl, Nat.mul_comm] at this
  exact this.symm

end Go.Proofs.YthbkdjbmkhmlnaaDoor
namespace Go.Proofs.YthbkdjbmkhmlnaaDoor
open Go.RowKit

/-- No cell of the row is a limb. -/
def NoL (cs : Array Value) : Prop := ∀ (i : Nat) (z : Int), cs[i]? ≠ some (Value.int .u32 z)
/-- A block that holds the cells cs. -/
def Cb (W : World) (g : Nat) (cs : Array Value) (t : Nat) : Prop := W.heap[g]? = some (.cells cs t (0, 0))
section
variable {w W W' : World} {g t : Nat} {cs : Array Value}
theorem Cb.lt (h : Cb W g cs t) : g < W.heap.size := by
  rcases Nat.lt_or_ge g W.heap.size with hlt | hge
  · exact hlt
  · unfold Cb at h; rw [Array.getElem?_eq_none hge] at h; cases h
theorem Cb.keep (h : Cb W g cs t) (hk : W'.heap[g]? = W.heap[g]?) : Cb W' g cs t := hk.trans h
theorem Cb.new (W : World) (cs : Array Value) (t : Nat) : Cb (W.alloc (.cells cs t)) W.heap.size cs t := heap_alloc_new W _
theorem Cb.alloc (h : Cb W g cs t) (o : Obj) : Cb (W.alloc o) g cs t := h.keep (Below.heap_alloc W o g h.lt)
theorem Cb.bel (h : Cb W g cs t) (hb : Below W.heap.size W W') : Cb W' g cs t := h.keep (hb.block g h.lt)
theorem Cb.drew (h : Cb W g cs t) : Cb W.drew g cs t := h
theorem Cb.cell (h : Cb W g cs t) {i : Nat} {v : Value} (hv : cs[i]? = some v) : W.cell? ⟨g, i, none⟩ = some v := by
  rw [cell_of_row W g i _ t (0, 0) h]; exact hv
theorem Cb.frozen (h : Cb W g cs t) (i : Nat) : W.frozen? ⟨g, i, none⟩ = false := by
  unfold Cb at h; simp [World.frozen?, h]
theorem Cb.set (h : Cb W g cs t) (i : Nat) (v : Value) : Cb (W.setCell ⟨g, i, none⟩ v) g (cs.setIfInBounds i v) t := by
  unfold Cb at *; simp [World.setCell, Array.getElem?_modify, h]
theorem Cb.far (h : Cb W g cs t) {p : Addr} (hp : g ≠ p.block) (u : Value) : Cb (W.setCell p u) g cs t := h.keep (Below.heap_setCell W p u g hp)
end
/-- A block without limbs: what reads as limbs is left alone by a store into it. -/
theorem Rd.set {W : World} {g t : Nat} {cs : Array Value} {A : Option Addr} {n c : Nat} {xs : List Nat} (h : Rd W A n c xs) (x : Cb W g cs t) (hn : NoL cs) (i : Nat) (v : Value) :
    Rd (W.setCell ⟨g, i, none⟩ v) A n c xs := by
  refine ⟨h.len, h.cap, h.sm, ?_⟩
  rcases h.mem with h0 | ⟨bk, o, hA, hlt, hc⟩
  · exact .inl h0
  · rcases Nat.eq_zero_or_pos n with hn0 | hn0
    · exact .inl hn0
    have hne : bk ≠ g := by
      rintro rfl
      have h1 := hc 0 hn0
      rw [Nat.add_zero, cell_of_row W bk o _ t (0, 0) x] at h1
      exact hn _ _ h1
    refine .inr ⟨bk, o, hA, by simpa using hlt, fun k hk => ?_⟩
    rw [World.cell?_of_block (Below.heap_setCell _ _ _ _ hne)]
    exact hc k hk

/-- What a call knows: the blocks of its own and the numbers that it can read. -/
structure St (w W : World) (bs : List (Nat × Array Value × Nat)) (rs : List (Option Addr × Nat × Nat × List Nat)) : Prop where
  bel : Below w.heap.size w W
  bk : ∀ p ∈ bs, Cb W p.1 p.2.1 p.2.2 ∧ NoL p.2.1 ∧ w.heap.size ≤ p.1
  nd : bs.Pairwise (fun p q => p.1 ≠ q.1)
  rd : ∀ r ∈ rs, Rd W r.1 r.2.1 r.2.2.1 r.2.2.2
section
variable {w W W' : World} {bs : List (Nat × Array Value × Nat)} {rs : List (Option Addr × Nat × Nat × List Nat)} {A : Option Addr} {n c : Nat} {xs : List Nat}
theorem St.new (w : World) : St w w [] [] := ⟨Below.refl _ _, by simp, List.Pairwise.nil, by simp⟩
theorem St.call (h : St w W bs rs) (hb : Below W.heap.size W W') : St w W' bs rs :=
  ⟨h.bel.trans (hb.mono h.bel.size), fun p hp => ⟨(h.bk p hp).1.bel hb, (h.bk p hp).2⟩, h.nd, fun r hr => (h.rd r hr).below hb⟩
theorem St.read (h : St w W bs rs) (R : Rd W A n c xs) : St w W bs ((A, n, c, xs) :: rs) :=
  ⟨h.bel, h.bk, h.nd, fun r hr => by rcases List.mem_cons.1 hr with rfl | hr; exact R; exact h.rd r hr⟩
theorem St.alloc (h : St w W bs rs) (cs : Array Value) (t : Nat) (hn : NoL cs) : St w (W.alloc (.cells cs t)) ((W.heap.size, cs, t) :: bs) rs := by
  refine ⟨h.bel.alloc h.bel.size _, ?_, ?_, fun r hr => (h.rd r hr).alloc _⟩
  · intro p hp
    rcases List.mem_cons.1 hp with rfl | hp
    · exact ⟨Cb.new _ _ _, hn, h.bel.size⟩
    · exact ⟨(h.bk p hp).1.alloc _, (h.bk p hp).2⟩
  · refine List.pairwise_cons.2 ⟨fun p hp => ?_, h.nd⟩
    have := (h.bk p hp).1.lt
    show W.heap.size ≠ p.1
    omega
theorem St.allocAt (h : St w W bs rs) (g : Nat) (cs : Array Value) (t : Nat) (hn : NoL cs) (hg : W.heap.size = g) : St w (W.alloc (.cells cs t)) ((g, cs, t) :: bs) rs := by
  subst hg; exact h.alloc cs t hn
theorem St.drew (h : St w W bs rs) : St w W.drew bs rs := ⟨h.bel.drew, h.bk, h.nd, fun r hr => Rd.drew1 (h.rd r hr)⟩
theorem St.drewN (h : St w W bs rs) (k : Nat) : St w (W.drewN k) bs rs := by
  exact ⟨below_drewN h.bel k, h.bk, h.nd, fun r hr => (h.rd r hr).drewN k⟩
theorem NoL.set {cs : Array Value} (h : NoL cs) (i : Nat) {v : Value} (hv : ∀ z, v ≠ .int .u32 z) : NoL (cs.setIfInBounds i v) := by
  intro j z
  rw [Array.getElem?_setIfInBounds]
  split
  · split
    · intro e; injection e with e; exact hv z e
    · simp
  · exact h j z
/-- A store into the k-th block. -/
theorem St.set (h : St w W bs rs) (k i : Nat) (v : Value) {g t : Nat} {cs : Array Value} (hk : bs[k]? = some (g, cs, t)) (hv : ∀ z, v ≠ .int .u32 z) :
    St w (W.setCell ⟨g, i, none⟩ v) (bs.set k (g, cs.setIfInBounds i v, t)) rs := by
  obtain ⟨hlt, hk'⟩ := List.getElem?_eq_some_iff.1 hk
  have hm : (g, cs, t) ∈ bs := hk' ▸ List.getElem_mem hlt
  obtain ⟨hb, hn, hw⟩ := h.bk _ hm
  have hpw : ∀ j, (hj : j < bs.length) → j ≠ k → bs[j].1 ≠ g := by
    intro j hj hjk
    have e : g = bs[k].1 := by rw [hk']
    rw [e]
    rcases Nat.lt_or_gt_of_ne hjk with hl | hl
    · exact List.pairwise_iff_getElem.1 h.nd j k hj hlt hl
    · exact (List.pairwise_iff_getElem.1 h.nd k j hlt hj hl).symm
  refine ⟨h.bel.setCell hw _, ?_, ?_, fun r hr => (h.rd r hr).set hb hn i v⟩
  · intro p hp
    obtain ⟨j, hj, rfl⟩ := List.mem_iff_getElem.1 hp
    rw [List.length_set] at hj
    by_cases hjk : k = j
    · subst hjk
      rw [List.getElem_set_self]
      exact ⟨hb.set i v, hn.set i hv, hw⟩
    · rw [List.getElem_set_ne hjk]
      obtain ⟨q1, q2, q3⟩ := h.bk bs[j] (List.getElem_mem hj)
      exact ⟨q1.far (hpw j hj (Ne.symm hjk)) _, q2, q3⟩
  · refine List.pairwise_iff_getElem.2 fun a b ha hb' hab => ?_
    rw [List.length_set] at ha hb'
    have := List.pairwise_iff_getElem.1 h.nd a b ha hb' hab
    rw [List.getElem_set, List.getElem_set]
    split
    · subst_vars
      rw [if_neg (by omega)]
      rw [hk'] at this; exact this
    · split
      · subst_vars
        rw [hk'] at this; exact this
      · exact this
theorem St.cl (h : St w W bs rs) (k i : Nat) {g t : Nat} {cs : Array Value} (hk : bs[k]? = some (g, cs, t)) {v : Value} (hv : cs[i]? = some v) : W.cell? ⟨g, i, none⟩ = some v :=
  (h.bk _ (List.mem_of_getElem? hk)).1.cell hv
theorem St.f (h : St w W bs rs) (k i : Nat) {g t : Nat} {cs : Array Value} (hk : bs[k]? = some (g, cs, t)) : W.frozen? ⟨g, i, none⟩ = false :=
  (h.bk _ (List.mem_of_getElem? hk)).1.frozen i
/-- The same blocks and numbers in another order. -/
theorem St.pick (h : St w W bs rs) (is js : List Nat) {bs' : List (Nat × Array Value × Nat)} {rs' : List (Option Addr × Nat × Nat × List Nat)} (hi : is.map (fun i => bs[i]?) = bs'.map some) (hd : is.Nodup) (hj : js.map (fun i => rs[i]?) = rs'.map some) : St w W bs' rs' := by
  have hm : ∀ k, k < bs'.length → ∃ i : Nat, is[k]? = some i ∧ bs[i]? = bs'[k]? := by
    intro k hk
    have hl : is.length = bs'.length := by have := congrArg List.length hi; simpa using this
    have e : (is.map (fun i => bs[i]?))[k]? = (bs'.map some)[k]? := by rw [hi]
    rw [List.getElem?_map, List.getElem?_map, List.getElem?_eq_getElem (by omega), List.getElem?_eq_getElem hk] at e
    refine ⟨is[k], List.getElem?_eq_getElem (by omega), ?_⟩
    rw [List.getElem?_eq_getElem hk]
    simpa using e
  have hr : ∀ k, k < rs'.length → ∃ i : Nat, rs[i]? = rs'[k]? := by
    intro k hk
    have hl : js.length = rs'.length := by have := congrArg List.length hj; simpa using this
    have e : (js.map (fun i => rs[i]?))[k]? = (rs'.map some)[k]? := by rw [hj]
    rw [List.getElem?_map, List.getElem?_map, List.getElem?_eq_getElem (by omega), List.getElem?_eq_getElem hk] at e
    refine ⟨js[k], ?_⟩
    rw [List.getElem?_eq_getElem hk]
    simpa using e
  refine ⟨h.bel, ?_, ?_, ?_⟩
  · intro p hp
    obtain ⟨k, hk, rfl⟩ := List.mem_iff_getElem.1 hp
    obtain ⟨i, _, e⟩ := hm k hk
    rw [List.getElem?_eq_getElem hk] at e
    exact h.bk _ (List.mem_of_getElem? e)
  · refine List.pairwise_iff_getElem.2 fun a b ha hb hab => ?_
    obtain ⟨i, ei, e1⟩ := hm a ha
    obtain ⟨j, ej, e2⟩ := hm b hb
    rw [List.getElem?_eq_getElem ha] at e1
    rw [List.getElem?_eq_getElem hb] at e2
    obtain ⟨li, e1'⟩ := List.getElem?_eq_some_iff.1 e1
    obtain ⟨lj, e2'⟩ := List.getElem?_eq_some_iff.1 e2
    have hij : i ≠ j := by
      intro e; subst e
      obtain ⟨la, ea⟩ := List.getElem?_eq_some_iff.1 ei
      obtain ⟨lb, eb⟩ := List.getElem?_eq_some_iff.1 ej
      have := List.pairwise_iff_getElem.1 hd a b la lb hab
      rw [ea, eb] at this; exact this rfl
    rw [← e1', ← e2']
    rcases Nat.lt_or_gt_of_ne hij with hl | hl
    · exact List.pairwise_iff_getElem.1 h.nd i j li lj hl
    · exact (List.pairwise_iff_getElem.1 h.nd j i lj li hl).symm
  · intro r hr'
    obtain ⟨k, hk, rfl⟩ := List.mem_iff_getElem.1 hr'
    obtain ⟨i, e⟩ := hr k hk
    rw [List.getElem?_eq_getElem hk] at e
    exact h.rd _ (List.mem_of_getElem? e)
theorem St.r (h : St w W bs rs) (k : Nat) (hk : rs[k]? = some (A, n, c, xs)) : Rd W A n c xs := h.rd _ (List.mem_of_getElem? hk)
theorem St.lt (h : St w W bs rs) (k : Nat) {g t : Nat} {cs : Array Value} (hk : bs[k]? = some (g, cs, t)) : g < W.heap.size := (h.bk _ (List.mem_of_getElem? hk)).1.lt
end
theorem noL2 (b : Bool) (A : Option Addr) (n c : Nat) : NoL #[.bool b, .slice A n c] := by
  intro i z; match i with
  | 0 => simp
  | 1 => simp
  | k + 2 => simp
theorem noL3 (b : Bool) (A : Option Addr) (n c : Nat) (D : Option Addr) (m d : Nat) : NoL #[.bool b, .slice A n c, .slice D m d] := by
  intro i z; match i with
  | 0 => simp
  | 1 => simp
  | 2 => simp
  | k + 3 => simp
theorem noLi (x y : Int) : NoL #[.int .i64 x, .int .i64 y] := by
  intro i z; match i with
  | 0 => simp
  | 1 => simp
  | k + 2 => simp
end Go.Proofs.YthbkdjbmkhmlnaaDoor
namespace Go.Proofs.YthbkdjbmkhmlnaaDoor
open Go.RowKit

/-- No value of the list is a limb. -/
def NoLl (xs : List Value) : Prop := ∀ v ∈ xs, ∀ z : Int, v ≠ Value.int .u32 z
theorem NoLl.arr {xs : List Value} (h : NoLl xs) : NoL xs.toArray := by
  intro i z e
  rw [List.getElem?_toArray] at e
  exact h _ (List.mem_of_getElem? e) z rfl
theorem NoL.lst {cs : Array Value} (h : NoL cs) : NoLl cs.toList := by
  intro v hv z e
  obtain ⟨i, hi⟩ := List.getElem?_of_mem hv
  rw [Array.getElem?_toList] at hi
  subst e
  exact h i z hi
theorem NoLl.app {xs ys : List Value} (h : NoLl xs) (h' : NoLl ys) : NoLl (xs ++ ys) := fun v hv => (List.mem_append.1 hv).elim (h v) (h' v)
theorem NoLl.take {xs : List Value} (h : NoLl xs) (k : Nat) : NoLl (xs.take k) := fun v hv => h v (List.mem_of_mem_take hv)
theorem NoLl.drop {xs : List Value} (h : NoLl xs) (k : Nat) : NoLl (xs.drop k) := fun v hv => h v (List.mem_of_mem_drop hv)
theorem NoLl.nil : NoLl [] := fun v hv => by cases hv
theorem NoLl.zeros {z : Array Value} (h : NoLl z.toList) (n : Nat) : NoLl (Builtin.zeroCells z n).toList := by
  intro v hv
  unfold Builtin.zeroCells at hv
  rw [Array.toList_map, List.mem_map] at hv
  obtain ⟨i, hi, rfl⟩ := hv
  have hlt : i < n * z.size := by simpa using hi
  have hz : 0 < z.size := Nat.pos_of_ne_zero (fun e => by rw [e] at hlt; omega)
  have hm := Nat.mod_lt i hz
  rw [getElem!_pos z _ hm]
  exact h _ (by rw [Array.mem_toList_iff]; exact Array.getElem_mem hm)
section
variable {w W W' : World} {bs : List (Nat × Array Value × Nat)} {rs : List (Option Addr × Nat × Nat × List Nat)} {g t : Nat} {cs cs' : Array Value}
theorem St.sub (h : St w W ((g, cs, t) :: bs) rs) : St w W bs rs := ⟨h.bel, fun p hp => h.bk p (List.mem_cons_of_mem _ hp), (List.pairwise_cons.1 h.nd).2, h.rd⟩
theorem Below.setRow {B : Nat} {a W : World} (h : Below B a W) (hg : B ≤ g) : Below B a (W.setRow g cs) := by
  refine ⟨h.os, h.tape, h.output, ?_, fun k hk => ?_⟩
  · have : (W.setRow g cs).heap.size = W.heap.size := by simp [World.setRow]
    rw [this]; exact h.size
  · rw [setRow_other W g k cs (by omega)]; exact h.block k hk
theorem St.setRow (h : St w W ((g, cs, t) :: bs) rs) (hn : NoL cs') : St w (W.setRow g cs') ((g, cs', t) :: bs) rs := by
  obtain ⟨hb, hl, hw⟩ := h.bk (g, cs, t) List.mem_cons_self
  obtain ⟨hd, hp⟩ := List.pairwise_cons.1 h.nd
  refine ⟨Below.setRow h.bel hw, ?_, List.pairwise_cons.2 ⟨hd, hp⟩, ?_⟩
  · intro p hp
    rcases List.mem_cons.1 hp with rfl | hp
    · exact ⟨setRow_heap W g cs cs' t (0, 0) hb, hn, hw⟩
    · obtain ⟨q1, q2, q3⟩ := h.bk p (List.mem_cons_of_mem _ hp)
      exact ⟨q1.keep (setRow_other W g p.1 cs' (hd p hp).symm), q2, q3⟩
  · intro r hr
    have R := h.rd r hr
    refine ⟨R.len, R.cap, R.sm, ?_⟩
    rcases R.mem with h0 | ⟨bk, o, hA, hlt, hc⟩
    · exact .inl h0
    · rcases Nat.eq_zero_or_pos r.2.1 with hn0 | hn0
      · exact .inl hn0
      have hne : bk ≠ g := by
        rintro rfl
        have h1 := hc 0 hn0
        rw [Nat.add_zero, cell_of_row W bk o _ t (0, 0) hb] at h1
        exact hl _ _ h1
      refine .inr ⟨bk, o, hA, by simpa [World.setRow] using hlt, fun k hk => ?_⟩
      rw [World.cell?_of_block (setRow_other W g _ cs' hne)]
      exact hc k hk
end

/-- A slice of the call's own with n elements of so many cells each, whose cells are xs; its block stands ahead of the others. -/
def Apd (w W : World) (bs : List (Nat × Array Value × Nat)) (rs : List (Option Addr × Nat × Nat × List Nat)) (e size : Nat) (v : Value) (n : Nat) (xs : List Value) : Prop :=
  xs.length = n * size ∧ NoLl xs ∧ ((v = .slice none 0 0 ∧ n = 0 ∧ St w W bs rs) ∨ ∃ g cap cur, v = .slice (some ⟨g, 0, none⟩) n cap ∧ n ≤ cap ∧ cap ≤ maxLen ∧ cur.size = cap * size ∧ cur.toList.take (n * size) = xs ∧ St w W ((g, cur, e) :: bs) rs)
section
variable {w W W' : World} {bs : List (Nat × Array Value × Nat)} {rs : List (Option Addr × Nat × Nat × List Nat)} {e size : Nat} {v : Value} {n : Nat} {xs : List Value}
theorem Apd.nil_ (h : St w W bs rs) (e size : Nat) : Apd w W bs rs e size (.slice none 0 0) 0 [] := ⟨by simp, NoLl.nil, .inl ⟨rfl, rfl, h⟩⟩
theorem Apd.st (h : Apd w W bs rs e size v n xs) : St w W bs rs := by
  obtain ⟨_, _, h | ⟨g, cap, cur, _, _, _, _, _, h⟩⟩ := h
  · exact h.2.2
  · exact h.sub
theorem Apd.mp (h : Apd w W bs rs e size v n xs) {rs' : List (Option Addr × Nat × Nat × List Nat)} (f : ∀ bs', St w W bs' rs → St w W' bs' rs') : Apd w W' bs rs' e size v n xs := by
  obtain ⟨h1, h2, h | ⟨g, cap, cur, k1, k2, k3, k4, k5, h⟩⟩ := h
  · exact ⟨h1, h2, .inl ⟨h.1, h.2.1, f _ h.2.2⟩⟩
  · exact ⟨h1, h2, .inr ⟨g, cap, cur, k1, k2, k3, k4, k5, f _ h⟩⟩
theorem Apd.call (h : Apd w W bs rs e size v n xs) (hb : Below W.heap.size W W') : Apd w W' bs rs e size v n xs := h.mp fun _ S => S.call hb
theorem Apd.read (h : Apd w W bs rs e size v n xs) {A : Option Addr} {n' c : Nat} {ys : List Nat} (R : Rd W A n' c ys) : Apd w W bs ((A, n', c, ys) :: rs) e size v n xs := h.mp fun _ S => S.read R
theorem Apd.drew (h : Apd w W bs rs e size v n xs) : Apd w W.drew bs rs e size v n xs := h.mp fun _ S => S.drew
theorem St.swap {p q : Nat × Array Value × Nat} (h : St w W (p :: q :: bs) rs) : St w W (q :: p :: bs) rs := by
  obtain ⟨hd, hp⟩ := List.pairwise_cons.1 h.nd
  obtain ⟨hd', hp'⟩ := List.pairwise_cons.1 hp
  refine ⟨h.bel, fun r hr => h.bk r ?_, List.pairwise_cons.2 ⟨fun r hr => ?_, List.pairwise_cons.2 ⟨fun r hr => hd r (List.mem_cons_of_mem _ hr), hp'⟩⟩, h.rd⟩
  · rcases List.mem_cons.1 hr with rfl | hr
    · exact List.mem_cons_of_mem _ List.mem_cons_self
    · rcases List.mem_cons.1 hr with rfl | hr
      · exact List.mem_cons_self
      · exact List.mem_cons_of_mem _ (List.mem_cons_of_mem _ hr)
  · rcases List.mem_cons.1 hr with rfl | hr
    · exact (hd q List.mem_cons_self).symm
    · exact hd' r hr
theorem Apd.alloc (h : Apd w W bs rs e size v n xs) (cs : Array Value) (t : Nat) (hn : NoL cs) : Apd w (W.alloc (.cells cs t)) ((W.heap.size, cs, t) :: bs) rs e size v n xs := by
  obtain ⟨h1, h2, h | ⟨g, cap, cur, k1, k2, k3, k4, k5, h⟩⟩ := h
  · exact ⟨h1, h2, .inl ⟨h.1, h.2.1, h.2.2.alloc cs t hn⟩⟩
  · exact ⟨h1, h2, .inr ⟨g, cap, cur, k1, k2, k3, k4, k5, (h.alloc cs t hn).swap⟩⟩
theorem Apd.sub {p : Nat × Array Value × Nat} (h : Apd w W (p :: bs) rs e size v n xs) : Apd w W bs rs e size v n xs := by
  obtain ⟨h1, h2, h | ⟨g, cap, cur, k1, k2, k3, k4, k5, h⟩⟩ := h
  · exact ⟨h1, h2, .inl ⟨h.1, h.2.1, h.2.2.sub⟩⟩
  · exact ⟨h1, h2, .inr ⟨g, cap, cur, k1, k2, k3, k4, k5, h.swap.sub⟩⟩
/-- The cells of the slice. -/
theorem Apd.cells (h : Apd w W bs rs e size v n xs) (hn : 0 < n) : ∃ g cap, v = .slice (some ⟨g, 0, none⟩) n cap ∧ n ≤ cap ∧ g < W.heap.size ∧ ∀ j u, xs[j]? = some u → W.cell? ⟨g, j, none⟩ = some u := by
  obtain ⟨h1, h2, h | ⟨g, cap, cur, k1, k2, k3, k4, k5, h⟩⟩ := h
  · omega
  · have hb := (h.bk _ List.mem_cons_self).1
    refine ⟨g, cap, k1, k2, hb.lt, fun j u hu => hb.cell ?_⟩
    rw [← k5, List.getElem?_take] at hu
    split at hu
    · simpa using hu
    · cases hu
end
section
variable {w W : World} {bs bs' : List (Nat × Array Value × Nat)} {rs rs' : List (Option Addr × Nat × Nat × List Nat)} {e size : Nat} {v : Value} {n : Nat} {xs : List Value}
theorem St.prm (h : St w W bs rs) (p : bs.Perm bs') : St w W bs' rs :=
  ⟨h.bel, fun q hq => h.bk q (p.mem_iff.2 hq), (p.pairwise_iff (fun h e => h e.symm)).1 h.nd, h.rd⟩
theorem St.pickr (h : St w W bs rs) (js : List Nat) (hj : js.map (fun i => rs[i]?) = rs'.map some) : St w W bs rs' := by
  refine ⟨h.bel, h.bk, h.nd, fun r hr => ?_⟩
  have : some r ∈ js.map (fun i => rs[i]?) := by rw [hj]; exact List.mem_map_of_mem hr
  obtain ⟨i, _, hi⟩ := List.mem_map.1 this
  exact h.rd r (List.mem_of_getElem? hi)
/-- The block of such a slice, if there is one. -/
def OB (ob : List (Nat × Array Value × Nat)) (e size : Nat) (v : Value) (n : Nat) (xs : List Value) : Prop :=
  (v = .slice none 0 0 ∧ n = 0 ∧ ob = []) ∨ ∃ g cap cur, v = .slice (some ⟨g, 0, none⟩) n cap ∧ n ≤ cap ∧ cap ≤ maxLen ∧ cur.size = cap * size ∧ cur.toList.take (n * size) = xs ∧ ob = [(g, cur, e)]
theorem Apd.open_ (h : Apd w W bs rs e size v n xs) : ∃ ob, (xs.length = n * size ∧ NoLl xs ∧ OB ob e size v n xs) ∧ St w W (bs ++ ob) rs := by
  obtain ⟨h1, h2, h | ⟨g, cap, cur, k1, k2, k3, k4, k5, h⟩⟩ := h
  · exact ⟨[], ⟨h1, h2, .inl ⟨h.1, h.2.1, rfl⟩⟩, by rw [List.append_nil]; exact h.2.2⟩
  · exact ⟨[(g, cur, e)], ⟨h1, h2, .inr ⟨g, cap, cur, k1, k2, k3, k4, k5, rfl⟩⟩, h.prm (List.perm_append_comm (l₁ := [(g, cur, e)]))⟩
theorem Apd.close {ob : List (Nat × Array Value × Nat)} (h : xs.length = n * size ∧ NoLl xs ∧ OB ob e size v n xs) (S : St w W (bs ++ ob) rs) : Apd w W bs rs e size v n xs := by
  obtain ⟨h1, h2, ⟨rfl, rfl, rfl⟩ | ⟨g, cap, cur, k1, k2, k3, k4, k5, rfl⟩⟩ := h
  · exact ⟨h1, h2, .inl ⟨rfl, rfl, by rw [List.append_nil] at S; exact S⟩⟩
  · exact ⟨h1, h2, .inr ⟨g, cap, cur, k1, k2, k3, k4, k5, S.prm List.perm_append_comm⟩⟩
end
section
variable {P : Program} {w W : World} {bs : List (Nat × Array Value × Nat)} {rs : List (Option Addr × Nat × Nat × List Nat)} {e size : Nat} {v : Value} {n : Nat} {xs : List Value}
theorem Apd.run (t ty : TypeId) (i : TypeInfo) (z : Value) (bytes : Nat) (ht : P.underlying t = some (.slice e)) (hi : P.info? e = some i) (hz : i.zero = some z)
    (hsize : i.size = size) (hby : i.bytes = bytes) (hzs : z.cells.size = size) (hzn : NoLl z.cells.toList)
    (h : Apd w W bs rs e size v n xs) (a : Addr) (m c : Nat) (news : List Value) (hl : news.length = m * size) (hnews : ∀ j u, news[j]? = some u → W.cell? (a.add j) = some u) (h1 : ∀ u ∈ news, u.oneCell' = true) (hnn : NoLl news) (hm : 0 < m)
    (h63 : n + m ≤ maxLen) (hbytes : (n + m) * bytes ≤ 140737488355328) :
    ∃ v' W', (Builtin.append_ #[t, t] ty #[v, .slice (some a) m c]).run P W = .ok v' W' ∧ Apd w W' bs rs e size v' (n + m) (xs ++ news) := by
  subst hsize
  subst hby
  have hsmall : n + m ≤ 9223372036854775807 := by simp only [maxLen] at h63; omega
  obtain ⟨hx, hxn, h⟩ := h
  have hlen : (xs ++ news).length = (n + m) * i.size := by rw [List.length_append, hx, hl, Nat.add_mul]
  have hall := hxn.app hnn
  have made : ∀ (old : Nat) (bs' : List (Nat × Array Value × Nat)), St w W bs' rs → ∀ bs, (∀ W' p, St w W' (p :: bs') rs → St w W' (p :: bs) rs) → old < n + m →
      Apd w (W.drew.alloc (.cells (xs.toArray ++ news.toArray ++ Builtin.zeroCells z.cells (grownCap W (n + m) old e - (n + m))) e)) bs rs e i.size (.slice (some ⟨W.heap.size, 0, none⟩) (n + m) (grownCap W (n + m) old e)) (n + m) (xs ++ news) := by
    intro old bs' S bs hbs ho
    have hge := grownCap_ge W (n + m) old e
    have hcm := grownCap_le_maxLen W (n + m) old e h63
    have hno : NoL (xs.toArray ++ news.toArray ++ Builtin.zeroCells z.cells (grownCap W (n + m) old e - (n + m))) := by
      have := (hall.app (NoLl.zeros hzn (grownCap W (n + m) old e - (n + m)))).arr
      rwa [show ((xs ++ news) ++ (Builtin.zeroCells z.cells (grownCap W (n + m) old e - (n + m))).toList).toArray = xs.toArray ++ news.toArray ++ Builtin.zeroCells z.cells (grownCap W (n + m) old e - (n + m)) from Array.ext' (by simp)] at this
    refine ⟨hlen, hall, .inr ⟨W.heap.size, _, _, rfl, hge, hcm, ?_, ?_, hbs _ _ (S.drew.alloc _ e hno)⟩⟩
    · simp only [Array.size_append, List.size_toArray, size_zeroCells, hzs, hx, hl, ← Nat.add_mul]
      congr 1
      omega
    · simp only [Array.toList_append, List.append_assoc]
      rw [← List.append_assoc, ← hlen]
      exact List.take_left
  rcases h with ⟨rfl, rfl, S⟩ | ⟨g, cap, cur, rfl, hnc, hcm, hcs, htake, S⟩
  · have hx0 : xs = [] := List.eq_nil_of_length_eq_zero (by simpa using hx)
    subst hx0
    have hr := run_append_nil (P := P) W t ty e i z ht hi hz a m c news hl hnews hm (by omega) (by have hb := hbytes; simp only [Nat.zero_add] at hb; omega)
    have hgr := made 0 bs S bs (fun _ _ h => h) (by omega)
    simp only [Nat.zero_add, List.nil_append, Array.empty_append] at hgr ⊢
    exact ⟨_, _, hr, hgr⟩
  · have hb := (S.bk _ List.mem_cons_self).1
    by_cases hroom : n + m ≤ cap
    · have hfit : n * i.size + news.length ≤ cur.size := by rw [hl, hcs, ← Nat.add_mul]; exact Nat.mul_le_mul_right _ hroom
      have hr := run_append_room (P := P) W t ty e i ht hi g n cap cur hb a m c news hl hnews h1 hroom hfit
      have hcn := (S.bk _ List.mem_cons_self).2.1
      refine ⟨_, _, hr, hlen, hall, .inr ⟨g, cap, _, rfl, hroom, hcm, ?_, ?_, S.setRow (((hcn.lst.take _).app hnn).app (hcn.lst.drop _)).arr⟩⟩
      · simp only [List.size_toArray, List.length_append, List.length_take, List.length_drop, Array.length_toList]
        omega
      · rw [htake, ← hlen]
        exact List.take_left
    · have holds : ∀ j u, xs[j]? = some u → W.cell? ((⟨g, 0, none⟩ : Addr).add j) = some u := by
        intro j u hu
        have hadd : (⟨g, 0, none⟩ : Addr).add j = ⟨g, j, none⟩ := by unfold Addr.add; split <;> simp_all
        rw [hadd]
        refine hb.cell ?_
        rw [← htake, List.getElem?_take] at hu
        split at hu
        · simpa using hu
        · cases hu
      have hr := run_append_grow (P := P) W t ty e i z ht hi hz ⟨g, 0, none⟩ n cap xs hx holds a m c news hl hnews (by omega) (by omega) (growslice_fits (by omega) hbytes)
      exact ⟨_, _, hr, made cap _ S bs (fun W' p h => h.swap.sub) (by omega)⟩
/-- v = append(v, x..) where the walk stands. -/
theorem Apd.wp {ops : Array Oper} {rest : List Oper} {o : Oper} {a : Act} {Q : Exit → Act → World → Prop} (hgd : o.guard = none) (s x : Operand) (t : TypeId)
    (ho : o.op = .call { callee := .builtin .append, args := #[s, x], argTypes := #[t, t] })
    (i : TypeInfo) (z : Value) (bytes : Nat) (ht : P.underlying t = some (.slice e)) (hi : P.info? e = some i) (hz : i.zero = some z)
    (hsize : i.size = size) (hby : i.bytes = bytes) (hzs : z.cells.size = size) (hzn : NoLl z.cells.toList)
    (hs : a.eval s = v) (h : Apd w W bs rs e size v n xs) (ad : Addr) (m c : Nat) (news : List Value) (hx : a.eval x = .slice (some ad) m c) (hl : news.length = m * size) (hnews : ∀ j u, news[j]? = some u → W.cell? (ad.add j) = some u) (h1 : ∀ u ∈ news, u.oneCell' = true) (hnn : NoLl news) (hm : 0 < m)
    (h63 : n + m ≤ maxLen) (hbytes : (n + m) * bytes ≤ 140737488355328)
    (hk : ∀ v' W', Apd w W' bs rs e size v' (n + m) (xs ++ news) → wpList P ops Q rest (a.put o.dst v') W') : wpList P ops Q (o :: rest) a W := by
  refine wpList_plain hgd fun _ hK => ?_
  obtain ⟨v', W', hr, h2⟩ := Apd.run (P := P) t o.type i z bytes ht hi hz hsize hby hzs hzn h ad m c news hl hnews h1 hnn hm h63 hbytes
  unfold Oper.wp execOp
  simp only [ho, resolve, invoke, builtin, Sem.run_bind, Sem.run_pure, Result.andThen_ok, List.map_toArray, List.map_cons, List.map_nil, hs, hx, hr]
  exact hK _ _ (hk v' W' h2)
end
end Go.Proofs.YthbkdjbmkhmlnaaDoor
