/- How a slice reads as a list of limbs in the model's memory; what make and append leave. -/
import Derived.Test.YtlflaalefilplaaDoorProg
import Derived.Test.YtlflaalefilplaaDoorM00
import Derived.WalkKit
import Derived.WalkSpells
import Derived.Lib.Hide
import Derived.Deep.QuietTactic
import Derived.BigQuiet
import Derived.Deep.Draws
import Derived.Deep.OwnRows
import Derived.Deep.DeepCutAuto
import Derived.Laws.BitsAllLaws
import Derived.WalkLawsBesides
import Derived.Laws.AppendOwn
import Derived.Shelf.Strconv.Itoa0
import Derived.Shelf.Strconv.Itoa1
import Derived.Shelf.LaysM
import Derived.Shelf.Strconv.Itoa2
import Derived.Shelf.Strconv.Itoa3
import Derived.Deep.LoopGhost
import Derived.OpenShut
import Derived.Deep.RegionHeld3
namespace Go.Proofs.YtlflaalefilplaaDoor
open Go.RowKit

/-- A limb as a value. -/
def u32 (z : Nat) : Value := .int .u32 (z : Int)

/-- The slice value reads as the list of limbs xs, and lies below block B. -/
structure RdB (w : World) (B : Nat) (A : Option Addr) (n c : Nat) (xs : List Nat) : Prop where
  len : xs.length = n
  cap : n ≤ c
  sm : Sm xs
  mem : n = 0 ∨ ∃ b o, A = some ⟨b, o, none⟩ ∧ b < B ∧ ∀ k, k < n → w.cell? ⟨b, o + k, none⟩ = some (.int .u32 ((xs.getD k 0 : Nat) : Int))
def Rd (w : World) (A : Option Addr) (n c : Nat) (xs : List Nat) : Prop := RdB w w.heap.size A n c xs

section
variable {w w' : World} {B B' : Nat} {A : Option Addr} {n c : Nat} {xs : List Nat}
theorem RdB.at_ (h : RdB w B A n c xs) {k : Nat} (hk : k < n) :
    ∃ b o x, A = some ⟨b, o, none⟩ ∧ b < B ∧ x < 4294967296 ∧ xs.getD k 0 = x ∧ w.cell? ⟨b, o + k, none⟩ = some (.int .u32 ((x : Nat) : Int)) := by
  obtain ⟨_, _, h4, h5⟩ := h
  rcases h5 with h5 | ⟨b, o, h5, h6, h7⟩
  · omega
  · exact ⟨b, o, xs.getD k 0, h5, h6, sm_get h4 k, rfl, h7 k hk⟩
theorem Rd.at_ (h : Rd w A n c xs) {k : Nat} (hk : k < n) :
    ∃ b o x, A = some ⟨b, o, none⟩ ∧ b < w.heap.size ∧ x < 4294967296 ∧ xs.getD k 0 = x ∧ w.cell? ⟨b, o + k, none⟩ = some (.int .u32 ((x : Nat) : Int)) := RdB.at_ h hk
theorem RdB.nil_ (w : World) (B c : Nat) (A : Option Addr) : RdB w B A 0 c [] := ⟨rfl, Nat.zero_le _, sm_nil, .inl rfl⟩
theorem Rd.nil_ (w : World) (c : Nat) (A : Option Addr) : Rd w A 0 c [] := ⟨rfl, Nat.zero_le _, sm_nil, .inl rfl⟩
theorem RdB.keep (h : RdB w B A n c xs) (hk : ∀ p : Addr, p.block < B → w'.cell? p = w.cell? p) : RdB w' B A n c xs := by
  refine ⟨h.len, h.cap, h.sm, ?_⟩
  rcases h.mem with h5 | ⟨b, o, h5, h6, h7⟩
  · exact .inl h5
  · exact .inr ⟨b, o, h5, by omega, fun k hk' => (hk _ h6).trans (h7 k hk')⟩
theorem RdB.more (h : RdB w B A n c xs) (hB : B ≤ B') : RdB w B' A n c xs := by
  refine ⟨h.len, h.cap, h.sm, ?_⟩
  rcases h.mem with h5 | ⟨b, o, h5, h6, h7⟩
  · exact .inl h5
  · exact .inr ⟨b, o, h5, by omega, h7⟩
theorem RdB.below (h : RdB w B A n c xs) (hb : Below B w w') : RdB w' B A n c xs := h.keep fun _ hp => hb.cell hp
/-- What could be read can be read behind a call. -/
theorem Rd.below (h : Rd w A n c xs) (hb : Below w.heap.size w w') : Rd w' A n c xs := (RdB.below h hb).more hb.size
theorem Rd.base (h : Rd w A n c xs) (hb : Below w.heap.size w w') : RdB w' w.heap.size A n c xs := RdB.below h hb
theorem Rd.alloc (h : Rd w A n c xs) (o : Obj) : Rd (w.alloc o) A n c xs := Rd.below h ((Below.refl _ _).alloc (Nat.le_refl _) o)
theorem Rd.drewN (h : Rd w A n c xs) (k : Nat) : Rd (w.drewN k) A n c xs := ⟨h.len, h.cap, h.sm, h.mem⟩
theorem RdB.grown (h : RdB w B A n c xs) {g : Nat} (hg : w.grownBy w' (some g)) (hB : B ≤ w.heap.size) (hr : B ≤ g) : RdB w' B A n c xs :=
  h.keep fun p hp => World.cell?_of_block (hg.block p.block (by omega) (fun e => by injection e; omega))
theorem RdB.take (h : RdB w B A n c xs) {k : Nat} (hk : k ≤ n) : RdB w B A k c (xs.take k) := by
  have hl := h.len
  have hc := h.cap
  refine ⟨by rw [List.length_take]; omega, by omega, sm_take h.sm _, ?_⟩
  rcases h.mem with h5 | ⟨b, o, h5, h6, h7⟩
  · exact .inl (by omega)
  · refine .inr ⟨b, o, h5, h6, fun j hj => ?_⟩
    rw [h7 j (by omega)]
    simp [hj]
theorem Rd.take (h : Rd w A n c xs) {k : Nat} (hk : k ≤ n) : Rd w A k c (xs.take k) := RdB.take h hk
end

/-- The slice value reads as the list of limbs xs, and does not lie in block g. -/
structure RdX (w : World) (g : Nat) (A : Option Addr) (n c : Nat) (xs : List Nat) : Prop where
  len : xs.length = n
  cap : n ≤ c
  sm : Sm xs
  mem : n = 0 ∨ ∃ b o, A = some ⟨b, o, none⟩ ∧ b ≠ g ∧ ∀ k, k < n → w.cell? ⟨b, o + k, none⟩ = some (.int .u32 ((xs.getD k 0 : Nat) : Int))

section
variable {w w' : World} {g : Nat} {A : Option Addr} {n c : Nat} {xs : List Nat}
theorem RdB.x {B : Nat} (h : RdB w B A n c xs) (hB : B ≤ g) : RdX w g A n c xs := by
  refine ⟨h.len, h.cap, h.sm, ?_⟩
  rcases h.mem with h5 | ⟨b, o, h5, h6, h7⟩
  · exact .inl h5
  · exact .inr ⟨b, o, h5, by omega, h7⟩
theorem RdX.at_ (h : RdX w g A n c xs) {k : Nat} (hk : k < n) :
    ∃ b o x, A = some ⟨b, o, none⟩ ∧ b ≠ g ∧ x < 4294967296 ∧ xs.getD k 0 = x ∧ w.cell? ⟨b, o + k, none⟩ = some (.int .u32 ((x : Nat) : Int)) := by
  obtain ⟨_, _, h4, h5⟩ := h
  rcases h5 with h5 | ⟨b, o, h5, h6, h7⟩
  · omega
  · exact ⟨b, o, xs.getD k 0, h5, h6, sm_get h4 k, rfl, h7 k hk⟩
theorem RdX.grown (h : RdX w g A n c xs) (hg : w.grownBy w' (some g)) : RdX w' g A n c xs := by
  refine ⟨h.len, h.cap, h.sm, ?_⟩
  rcases h.mem with h5 | ⟨b, o, h5, h6, h7⟩
  · exact .inl h5
  · exact .inr ⟨b, o, h5, h6, fun k hk => hg.cell (h7 k hk) (by intro e; injection e with e; exact h6 e)⟩
end

/-- A block of the call's own begins with the limbs zs. -/
structure Own (w : World) (g : Nat) (zs : List Nat) : Prop where
  heap : ∃ cs, w.heap[g]? = some (.cells cs 77 (0, 0)) ∧ cs.toList.take zs.length = zs.map u32
  sm : Sm zs

section
variable {w w' : World} {g : Nat} {zs : List Nat}
theorem Own.lt (h : Own w g zs) : g < w.heap.size := by
  obtain ⟨cs, h, _⟩ := h.heap
  rcases Nat.lt_or_ge g w.heap.size with hlt | hge
  · exact hlt
  · rw [Array.getElem?_eq_none hge] at h; cases h
theorem Own.cell (h : Own w g zs) {k : Nat} (hk : k < zs.length) : w.cell? ⟨g, k, none⟩ = some (.int .u32 ((zs.getD k 0 : Nat) : Int)) := by
  obtain ⟨cs, h, ht⟩ := h.heap
  rw [cell_of_row w g k _ 77 (0, 0) h]
  have : (cs.toList.take zs.length)[k]? = (zs.map u32)[k]? := by rw [ht]
  rw [List.getElem?_take_of_lt hk, Array.getElem?_toList] at this
  rw [this]
  simp [hk, u32]
theorem Own.frozen (h : Own w g zs) (i : Nat) : w.frozen? ⟨g, i, none⟩ = false := by
  obtain ⟨cs, h, _⟩ := h.heap
  simp [World.frozen?, h]
theorem Own.drew (h : Own w g zs) : Own w.drew g zs := ⟨h.heap, h.sm⟩
theorem Own.drewN (h : Own w g zs) (k : Nat) : Own (w.drewN k) g zs := ⟨h.heap, h.sm⟩
theorem Own.keep (h : Own w g zs) (hk : w'.heap[g]? = w.heap[g]?) : Own w' g zs := by
  obtain ⟨cs, hc, ht⟩ := h.heap
  exact ⟨⟨cs, hk.trans hc, ht⟩, h.sm⟩
theorem Own.alloc (h : Own w g zs) (o : Obj) : Own (w.alloc o) g zs := h.keep (Below.heap_alloc w o g h.lt)
theorem Own.set_ (h : Own w g zs) (i x : Nat) (hx : x < 4294967296) : Own (w.setCell ⟨g, i, none⟩ (.int .u32 (x : Int))) g (zs.set i x) := by
  obtain ⟨cs, hc, ht⟩ := h.heap
  refine ⟨⟨cs.setIfInBounds i (u32 x), ?_, ?_⟩, sm_set h.sm i x hx⟩
  · simp [World.setCell, Array.getElem?_modify, hc, u32]
  · rw [Array.toList_setIfInBounds, List.length_set, List.take_set, ht, List.map_set]
theorem Own.far (h : Own w g zs) {p : Addr} (hp : g ≠ p.block) (u : Value) : Own (w.setCell p u) g zs := h.keep (Below.heap_setCell w p u g hp)
theorem Own.below {B : Nat} (h : Own w g zs) (hb : Below B w w') (hg : g < B) : Own w' g zs := h.keep (hb.block g hg)
theorem Own.grown {r : Option Nat} (h : Own w g zs) (hb : w.grownBy w' r) (hg : some g ≠ r) : Own w' g zs := h.keep (hb.block g h.lt hg)
theorem Own.pre (h : Own w g zs) (k : Nat) : Own w g (zs.take k) := by
  obtain ⟨cs, hc, ht⟩ := h.heap
  refine ⟨⟨cs, hc, ?_⟩, sm_take h.sm k⟩
  rw [List.map_take, ← ht, List.take_take, List.length_take]
/-- A part of the block, as a slice. -/
theorem Own.rd (h : Own w g zs) (o n c : Nat) (hn : o + n ≤ zs.length) (hc : n ≤ c) : Rd w (some ⟨g, o, none⟩) n c ((zs.drop o).take n) := by
  refine ⟨by rw [List.length_take, List.length_drop]; omega, hc, sm_take (sm_drop h.sm _) _, .inr ⟨g, o, rfl, h.lt, fun k hk => ?_⟩⟩
  rw [h.cell (by omega)]
  simp [hk, List.getElem?_drop]
theorem Own.rdx (h : Own w g zs) {g' n c : Nat} (hg : g ≠ g') (hn : n ≤ zs.length) (hc : n ≤ c) : RdX w g' (some ⟨g, 0, none⟩) n c (zs.take n) := by
  refine ⟨by rw [List.length_take]; omega, hc, sm_take h.sm _, .inr ⟨g, 0, rfl, hg, fun k hk => ?_⟩⟩
  rw [Nat.zero_add, h.cell (by omega)]
  simp [hk]
theorem Own.rd0 (h : Own w g zs) (c : Nat) (hc : zs.length ≤ c) : Rd w (some ⟨g, 0, none⟩) zs.length c zs := by
  have := h.rd 0 zs.length c (by omega) hc
  simpa using this
theorem Own.rdn (h : Own w g zs) {n c : Nat} (hn : zs.length = n) (hc : n ≤ c) : Rd w (some ⟨g, 0, none⟩) n c zs := by subst hn; exact h.rd0 c hc
theorem Own.new (w : World) (n : Nat) : Own (w.alloc (.cells (madeCells #[.int .u32 0] n) 77)) w.heap.size (List.replicate n 0) := by
  refine ⟨⟨_, heap_alloc_new w _, ?_⟩, sm_replicate n⟩
  have e : madeCells #[Value.int .u32 0] n = ((List.replicate n 0).map u32).toArray := by
    apply Array.ext
    · simp [madeCells]
    · intro i h1 h2
      simp [madeCells, u32, Nat.mod_one]
  rw [e]; simp
theorem made_eq (n : Nat) : madeCells #[Value.int .u32 0] n = ((List.replicate n 0).map u32).toArray := by
  apply Array.ext
  · simp [madeCells]
  · intro i h1 h2
    simp [madeCells, u32, Nat.mod_one]
theorem Own.newset (w : World) (n i x : Nat) (hx : x < 4294967296) : Own (w.alloc (.cells ((madeCells #[.int .u32 0] n).setIfInBounds i (.int .u32 (x : Int))) 77)) w.heap.size ((List.replicate n 0).set i x) := by
  refine ⟨⟨_, heap_alloc_new w _, ?_⟩, sm_set (sm_replicate n) i x hx⟩
  rw [made_eq, Array.toList_setIfInBounds, List.map_set]
  show ((((List.replicate n 0).map u32).set i (u32 x)).take _) = _
  rw [List.take_of_length_le (by simp)]
theorem Own.lit (w : World) (zs : List Nat) (h : Sm zs) : Own (w.alloc (.cells (zs.map u32).toArray 77)) w.heap.size zs :=
  ⟨⟨_, heap_alloc_new w _, by show (zs.map u32).take zs.length = _; rw [List.take_of_length_le (by simp)]⟩, h⟩
end

/-- What a function that returns one number leaves. -/
def RetN (N : Nat) (w : World) (e : Ending) (w' : World) : Prop := ∃ A n c, e = .returned (.slice A n c) ∧ Rd w' A n c (limbs N) ∧ Below w.heap.size w w'

/-- .. in new memory. -/
def RetO (N : Nat) (w : World) (e : Ending) (w' : World) : Prop := ∃ g n c, e = .returned (.slice (some ⟨g, 0, none⟩) n c) ∧ w.heap.size ≤ g ∧ Own w' g (limbs N) ∧ (limbs N).length = n ∧ n ≤ c ∧ Below w.heap.size w w'
theorem RetO.n {N : Nat} {w : World} {e : Ending} {w' : World} : RetO N w e w' → RetN N w e w' := by
  rintro ⟨g, n, c, he, _, hO, hn, hc, hb⟩
  exact ⟨_, n, c, he, hO.rdn hn hc, hb⟩

theorem info41 : (Tryd.prog.info? 77).map (fun i => (i.zero, i.size, i.bytes)) = some (some (.int .u32 0), 1, 4) := by kernel_rfl

/-- make([]uint32, n). -/
theorem make_u32 (n : Nat) (hn : n ≤ 1000000) (k1 k2 : IntKind) (w : World) :
    (Instr.makeSlice 40 (.int k1 (n : Int)) (.int k2 (n : Int))).run Tryd.prog w = .ok (.slice (some ⟨w.heap.size, 0, none⟩) n n) (w.alloc (.cells (madeCells #[.int .u32 0] n) 77)) :=
  run_make_row' 40 77 (.int .u32 0) 4 Tryd.underlying40 info41 rfl k1 k2 n (by omega) (by omega) w

/-- A slice that grows by append: the call's own. -/
structure Gr (w : World) (base : Nat) (v : Value) (xs : List Nat) : Prop where
  own : w.ownsRow base 77 1 v xs.length (xs.map u32)
  sm : Sm xs

section
variable {w w' : World} {base : Nat} {v : Value} {xs : List Nat}
theorem Gr.nil_ (w : World) (base : Nat) : Gr w base (.slice none 0 0) [] := ⟨World.ownsRow_nil _ _ _ _, sm_nil⟩
theorem Gr.made (w : World) : Gr (w.alloc (.cells #[] 77)) w.heap.size (.slice (some ⟨w.heap.size, 0, none⟩) 0 0) [] :=
  ⟨World.ownsRow_made w #[] 0 (Nat.le_refl _) (by unfold maxLen; omega) rfl, sm_nil⟩
theorem Gr.zeros (w : World) (n : Nat) (hn : n ≤ 100000) : Gr (w.alloc (.cells (madeCells #[.int .u32 0] n) 77)) w.heap.size (.slice (some ⟨w.heap.size, 0, none⟩) n n) (List.replicate n 0) := by
  refine ⟨⟨by simp, .inr ⟨w.heap.size, n, madeCells #[.int .u32 0] n, by simp, Nat.le_refl _, heap_alloc_new w _, by simp, by unfold maxLen; omega, by rw [made_eq]; simp, ?_⟩⟩, sm_replicate n⟩
  rw [made_eq]
  simp
theorem Gr.alloc (h : Gr w base v xs) (o : Obj) : Gr (w.alloc o) base v xs := ⟨h.own.alloc o, h.sm⟩
theorem Gr.form (h : Gr w base v xs) : ∃ A c, v = .slice A xs.length c ∧ Rd w A xs.length c xs ∧ (xs.length = 0 ∨ ∃ g, A = some ⟨g, 0, none⟩ ∧ base ≤ g ∧ Own w g xs) := by
  rcases h.own.2 with ⟨hv, hn⟩ | ⟨g, cap, cur, hv, hb, hh, hn, hm, hs, ht⟩
  · have : xs = [] := List.eq_nil_of_length_eq_zero hn
    subst this
    exact ⟨none, 0, hv, Rd.nil_ _ _ _, .inl rfl⟩
  · have O : Own w g xs := ⟨⟨cur, hh, by simpa using ht⟩, h.sm⟩
    exact ⟨_, _, hv, O.rdn rfl hn, .inr ⟨g, rfl, hb, O⟩⟩
end

theorem one_u32 (xs : List Nat) : ∀ u ∈ xs.map u32, u.oneCell' = true := by
  intro u hu
  obtain ⟨z, _, rfl⟩ := List.mem_map.1 hu
  rfl

theorem cells_rd {w : World} {ad : Addr} {m c : Nat} {ys : List Nat} (h : Rd w (some ad) m c ys) : ∀ j u, (ys.map u32)[j]? = some u → w.cell? (ad.add j) = some u := by
  intro j u hu
  have hj : j < ys.length := by
    rcases Nat.lt_or_ge j ys.length with h | h
    · exact h
    · rw [List.getElem?_eq_none (by simpa using h)] at hu; cases hu
  have hl := h.len
  rcases h.mem with h5 | ⟨b, o, h5, h6, h7⟩
  · omega
  · injection h5 with h5
    subst h5
    have e : (⟨b, o, none⟩ : Addr).add j = ⟨b, o + j, none⟩ := by
      unfold Addr.add; split
      · rename_i h; subst h; rfl
      · rfl
    rw [e, h7 j (by omega)]
    rw [List.getElem?_map, List.getElem?_eq_getElem hj] at hu
    simp only [Option.map_some, Option.some.injEq] at hu
    rw [← hu, List.getD_eq_getElem?_getD, List.getElem?_eq_getElem hj]
    rfl

/-- out = append(out, ys...) -/
theorem wpList_append_u32 (w : World) {ops : Array Oper} {rest : List Oper} {o : Oper} {a : Act} {Q : Exit → Act → World → Prop} (hgd : o.guard = none) (s x : Operand)
    (ho : o.op = .call { callee := .builtin .append, args := #[s, x], argTypes := #[40, 40] })
    (base : Nat) (v : Value) (xs : List Nat) (hs : a.eval s = v) (hown : Gr w base v xs)
    (ad : Addr) (m c : Nat) (ys : List Nat) (hx : a.eval x = .slice (some ad) m c) (hR : Rd w (some ad) m c ys)
    (hl : xs.length + m ≤ 100000) (hbase : base ≤ w.heap.size)
    (h : ∀ v' w', Gr w' base v' (xs ++ ys) → w.grownBy w' v.ownBlock → wpList Tryd.prog ops Q rest (a.put o.dst v') w') : wpList Tryd.prog ops Q (o :: rest) a w := by
  obtain ⟨i0, hi, hzz⟩ := Option.map_eq_some_iff.1 info41
  simp only [Prod.mk.injEq] at hzz
  obtain ⟨hz0, hz1, hz2⟩ := hzz
  refine wpList_append_own w hgd s x 40 ho base 77 i0 (.int .u32 0) 1 4 Tryd.underlying40 hi hz0 hz1 hz2 rfl (by decide) v xs.length (xs.map u32) hs hown.own ad m c (ys.map u32) hx (by rw [List.length_map, hR.len]; omega) (cells_rd hR) (one_u32 _) (by unfold maxLen; omega) (by omega) hbase ?_
  intro v' w' h2 h3 _
  refine h v' w' ⟨?_, ?_⟩ h3
  · rw [List.length_append, hR.len, List.map_append]; exact h2
  · intro z hz
    rcases List.mem_append.1 hz with hz | hz
    · exact hown.sm z hz
    · exact hR.sm z hz

/-- Two parts of a number, joined by |. -/
theorem or_limb (a x : Nat) (ha : a < 4294967296) (hx : x < 4294967296) : bits .or .u64 ((a : Int) * 4294967296) (x : Int) = ((a * 4294967296 + x : Nat) : Int) := by
  rw [show (a : Int) * 4294967296 = ((a * 4294967296 : Nat) : Int) by simp]
  rw [u64_or_nat (a * 4294967296) x (by omega) (by omega)]
  congr 1
  have := Nat.two_pow_add_eq_or_of_lt (i := 32) (b := x) (by omega) a
  rw [show (2:Nat) ^ 32 = 4294967296 from rfl, Nat.mul_comm] at this
  exact this.symm

end Go.Proofs.YtlflaalefilplaaDoor
namespace Go.Proofs.YtlflaalefilplaaDoor
open Go.RowKit

theorem vldB_last {xs : List Nat} {m x : Nat} (hl : xs.length = m + 1) (hx : xs.getD m 0 = x) : vldB xs = !((x : Int) == 0) := by
  unfold vldB; rw [hl, show m + 1 - 1 = m from rfl, hx]
  have : ((m + 1 : Nat) == 0) = false := rfl
  rw [this, Bool.false_or]
  congr 1
  rw [Bool.eq_iff_iff]; simp

set_option maxHeartbeats 400000 in
theorem trim_any (A : Option Addr) (n c : Nat) (xs : List Nat) (w : World) (h : Rd w A n c xs) (hn : n ≤ 100000) :
    Calls Tryd.prog 82 #[.slice A n c] w fun e w' => ∃ n', e = .returned (.slice A n' c) ∧ w = w' ∧ Rd w A n' c (limbs (val xs)) := by
  have hcap := h.cap
  have hl := h.len
  have R : Rd w A (tl xs n) c (limbs (val xs)) := by
    have := h.take (tl_le xs n)
    rw [tl_limbs h.sm n (by omega), ← hl, List.take_length, hl] at this
    exact this
  have R := Lib.hid R
  have HH := Lib.hid h
  clear h hl
  go_enter Tryd.func82, Tryd.ntmps82
  go_wp2
  go_loop [0] (fun s => ∃ k : Nat, k ≤ n ∧ s = .slice A k c ∧ tl xs k = tl xs n) (fun s => match s with | .slice _ k _ => k | _ => 0)
  case atStart => exact ⟨n, Nat.le_refl _, rfl, rfl⟩
  case round =>
    obtain ⟨k, hk, rfl, ht⟩ := hrel
    have ht := Lib.hid ht
    by_cases h0 : k = 0
    · subst h0
      have hg : ((0:Int) > 0) = False := by simp
      go_wp2
      go_ret
      exact ⟨0, rfl, rfl, by have := R.out; rw [← ht.out] at this; exact this⟩
    · obtain ⟨m, rfl⟩ : ∃ m, k = m + 1 := ⟨k - 1, by omega⟩
      obtain ⟨b, o, x, rfl, hb, hx, hxs, hc⟩ := HH.out.at_ (k := m) (by omega)
      have hxs := Lib.hid hxs
      clear h0
      have hg : (0:Int) < (m : Int) + 1 := by omega
      have hg2 : decide ((0:Int) < (m : Int) + 1) = true := decide_eq_true hg
      by_cases hx0 : x = 0
      · have hx1 : ((x : Int) == 0) = true := by simp; omega
        have e : tl xs (m + 1) = tl xs m := by rw [tl, if_pos (by rw [hxs.out]; exact hx0)]
        have e := Lib.hid e
        clear hx0
        go_wp2
        go_round
        case rel => exact ⟨m, by omega, rfl, by rw [← e.out]; exact ht.out⟩
        case measure => simp
      · have hx1 : ((x : Int) == 0) = false := by simp; omega
        have e : tl xs (m + 1) = m + 1 := by rw [tl, if_neg]; rw [hxs.out]; exact hx0
        have e := Lib.hid e
        clear hx0
        go_wp2
        go_ret
        exact ⟨m + 1, rfl, rfl, by have := R.out; rw [← ht.out, e.out] at this; exact this⟩

end Go.Proofs.YtlflaalefilplaaDoor
namespace Go.Proofs.YtlflaalefilplaaDoor
open Go.RowKit

/-- The answer of a comparison. -/
def cmpi (a b : Int) : Int := if a < b then -1 else if b < a then 1 else 0
theorem cmpi_lt {a b : Int} (h : a < b) : cmpi a b = -1 := by unfold cmpi; rw [if_pos h]
theorem cmpi_gt {a b : Int} (h : b < a) : cmpi a b = 1 := by unfold cmpi; rw [if_neg (by omega), if_pos h]
theorem cmpi_eq {a b : Int} (h : a = b) : cmpi a b = 0 := by unfold cmpi; rw [if_neg (by omega), if_neg (by omega)]

theorem quiet_add_same {P : Program} {f : FuncId} {args : Array Value} {w : World} {a n : Nat} {v : Value}
    (h : Calls P f args (w.drewN (a + n)) fun e w' => e = .returned v ∧ w' = w.drewN (a + n)) :
    Calls P f args (w.drewN (a + n)) fun e w'' => e = .returned v ∧ ∃ m, w'' = w.drewN (a + m) :=
  h.mono fun _ _ ⟨he, hm⟩ => ⟨he, n, hm⟩

theorem cmp_at {x y j x1 y1 : Nat} (hX : j < (limbs x).length) (hY : j < (limbs y).length) (h : (limbs x).drop (j + 1) = (limbs y).drop (j + 1))
    (hx : (limbs x).getD j 0 = x1) (hy : (limbs y).getD j 0 = y1) (hne : ¬ x1 = y1) (s1 : Sm (limbs x)) (s2 : Sm (limbs y)) : cmpi x y = cmpi x1 y1 := by
  rcases Nat.lt_or_gt_of_ne hne with hlt | hgt
  · have := lt_at hX hY h s1 (by omega)
    rw [val_limbs, val_limbs] at this
    rw [cmpi_lt (by omega), cmpi_lt (by omega)]
  · have := lt_at hY hX h.symm s2 (by omega)
    rw [val_limbs, val_limbs] at this
    rw [cmpi_gt (by omega), cmpi_gt (by omega)]

theorem cmp_len {x y n1 n2 : Nat} (hX : (limbs x).length = n1) (hY : (limbs y).length = n2) (hne : ¬ n1 = n2) : cmpi x y = cmpi n1 n2 := by
  rcases Nat.lt_or_gt_of_ne hne with hlt | hgt
  · have := lt_len (x := x) (y := y) (by omega)
    rw [cmpi_lt (by omega), cmpi_lt (by omega)]
  · have := lt_len (x := y) (y := x) (by omega)
    rw [cmpi_gt (by omega), cmpi_gt (by omega)]

theorem drewN_below (w : World) (n : Nat) : Below w.heap.size w (w.drewN n) := ⟨rfl, rfl, rfl, Nat.le_refl _, fun _ _ => rfl⟩

end Go.Proofs.YtlflaalefilplaaDoor
namespace Go.Proofs.YtlflaalefilplaaDoor
open Go.RowKit

/-- What a function that copies a slice leaves: the limbs xs, in new memory. -/
def RetClone (n : Nat) (xs : List Nat) (w : World) (e : Ending) (w' : World) : Prop :=
  ∃ A c, e = .returned (.slice A n c) ∧ Rd w' A n c xs ∧ (n = 0 ∨ ∃ g, A = some ⟨g, 0, none⟩ ∧ w.heap.size ≤ g ∧ Own w' g xs) ∧ Below w.heap.size w w'

end Go.Proofs.YtlflaalefilplaaDoor
namespace Go.Proofs.YtlflaalefilplaaDoor
open Go.RowKit

/-- A window of the block was increased by x times ys. -/
def RetAddP (g o m x : Nat) (zs ys : List Nat) (w : World) (e : Ending) (w' : World) : Prop :=
  ∃ (cy : Nat) (zs' : List Nat), e = .returned (.int .u32 cy) ∧ cy < 4294967296 ∧ Own w' g zs' ∧ zs'.length = zs.length ∧ zs'.take o = zs.take o ∧ zs'.drop (o + m) = zs.drop (o + m) ∧
    val zs' + 4294967296 ^ (o + m) * cy = val zs + 4294967296 ^ o * (x * val ys) ∧ w.grownBy w' (some g)

theorem grown_set {a w : World} {g : Nat} (h : a.grownBy w (some g)) (i : Nat) (u : Value) : a.grownBy (w.setCell ⟨g, i, none⟩ u) (some g) :=
  ⟨h.os, h.tape, h.output, by simpa [World.setCell] using h.size, fun j hj hne => (Below.heap_setCell w ⟨g, i, none⟩ u j (by rintro rfl; exact hne rfl)).trans (h.block j hj hne)⟩

end Go.Proofs.YtlflaalefilplaaDoor
namespace Go.Proofs.YtlflaalefilplaaDoor
open Go.RowKit

set_option maxHeartbeats 1000000 in
theorem same_true (A : Option Addr) (n c : Nat) (A' : Option Addr) (n' c' : Nat) (xs : List Nat) (w : World)
    (h1 : Rd w A n c xs) (h2 : Rd w A' n' c' xs) (hn : n ≤ 100000) :
    Calls Tryd.prog 37 #[.slice A n c, .slice A' n' c'] w fun e w' => e = .returned (.bool true) ∧ ∃ m, w' = w.drewN m := by
  obtain rfl : n = n' := by rw [← h1.len, ← h2.len]
  replace h1 := Lib.hid h1
  replace h2 := Lib.hid h2
  go_enter Tryd.func37, Tryd.ntmps37
  go_wp2
  go_loopw [5] (fun iv wr => ∃ (k m : Nat), k ≤ n ∧ iv = .int .i64 k ∧ wr = w.drewN m) (fun iv _ => n - (intOf iv).toNat)
  case atStart => exact ⟨0, 0, Nat.zero_le _, rfl, rfl⟩
  case round =>
    obtain ⟨k, m, hk, rfl, rfl⟩ := hrel
    by_cases hlt : k < n
    · obtain ⟨b1, o1, x1, rfl, hb1, hx1, hxe, hcx⟩ := h1.out.at_ hlt
      obtain ⟨b2, o2, y1, rfl, hb2, hy1, hye, hcy⟩ := h2.out.at_ hlt
      obtain rfl : x1 = y1 := by rw [← hxe, ← hye]
      clear hxe hye
      have g1 : (0 : Int) ≤ (k : Int) := by omega
      have g2 : (k : Int) < (n : Int) := by omega
      have ht : ((x1 : Int) != (x1 : Int)) = false := by simp
      go_wp2
      go_quiet (fail)
      go_wp2
      go_roundw
      case rel => exact ⟨k + 1, _, by omega, by go_num, rfl⟩
      case measure => simp [intOf]; omega
    · go_wp2
      go_ret
      exact ⟨rfl, m, rfl⟩

set_option maxHeartbeats 400000 in
theorem rvalid_any (A : Option Addr) (n c : Nat) (xs : List Nat) (w : World) (h : Rd w A n c xs) (hn : n ≤ 100000) :
    Calls Tryd.prog 68 #[.slice A n c] w fun e w' => e = .returned (.bool (vldB xs)) ∧ w' = w := by
  by_cases h0 : n = 0
  · have H : Hid (vldB xs = true) := by have := h.len; show vldB xs = true; rw [List.eq_nil_of_length_eq_zero (by omega : xs.length = 0)]; rfl
    subst h0
    clear h
    go_enter Tryd.func68, Tryd.ntmps68
    go_wp2
    go_ret
    rw [H.out]; exact ⟨rfl, rfl⟩
  · obtain ⟨m, rfl⟩ : ∃ m, n = m + 1 := ⟨n - 1, by omega⟩
    obtain ⟨b, o, x, rfl, hb, hx, hxs, hc⟩ := h.at_ (k := m) (by omega)
    have H : Hid (vldB xs = !((x : Int) == 0)) := vldB_last h.len hxs
    clear hxs h h0
    have hg : ((m : Int) + 1 == 0) = false := by simp; omega
    have hm : (0:Int) ≤ m := by omega
    go_enter Tryd.func68, Tryd.ntmps68
    go_wp2
    go_ret
    rw [H.out]; exact ⟨rfl, rfl⟩

/-- Whether three lists are light and valid. -/
def fairB (n1 n2 n3 : Nat) (xs ys zs : List Nat) : Bool := decide (n1 ≤ 12 ∧ n2 ≤ 12 ∧ n3 ≤ 12 ∧ vldB xs = true ∧ vldB ys = true ∧ vldB zs = true)

end Go.Proofs.YtlflaalefilplaaDoor
namespace Go.Proofs.YtlflaalefilplaaDoor
open Go.RowKit

/-- A row was divided in place. -/
def RetDivL (g n b : Nat) (zs : List Nat) (w : World) (e : Ending) (w' : World) : Prop :=
  ∃ (r : Nat) (zs' : List Nat), e = .returned (.int .u32 r) ∧ r < b ∧ Own w' g zs' ∧ zs'.length = n ∧ val zs' * b + r = val zs ∧ w.grownBy w' (some g)

end Go.Proofs.YtlflaalefilplaaDoor
namespace Go.Proofs
open Go.Shelf
def Tryd.laysM171_ren : Go.Shelf.Ren := ⟨fun | 171 => 65 | 243 => 81 | 246 => 84 | 283 => 85 | 284 => 86 | 285 => 87 | 286 => 88 | 129 => 90 | 317 => 89 | 318 => 91 | 319 => 92 | 320 => 93 | 337 => 94 | 338 => 95 | n => n, fun | 3 => 3 | 9 => 9 | 2 => 2 | 4 => 4 | 171 => 105 | 0 => 0 | 53 => 60 | 37 => 79 | 5 => 5 | 173 => 108 | 212 => 111 | 51 => 77 | 20 => 20 | 213 => 112 | 46 => 80 | 232 => 116 | 233 => 117 | n => n, fun | 17 => 0 | 18 => 1 | 19 => 2 | n => n⟩
theorem Tryd.laysM171 : Go.Proofs.LaysM.n171 Tryd.prog Tryd.laysM171_ren := {
  mixed := by kernel_rfl
  f129 := Tryd.func90.trans (congrArg some (by kernel_rfl))
  f171 := Tryd.func65.trans (congrArg some (by kernel_rfl))
  f243 := Tryd.func81.trans (congrArg some (by kernel_rfl))
  f246 := Tryd.func84.trans (congrArg some (by kernel_rfl))
  f283 := Tryd.func85.trans (congrArg some (by kernel_rfl))
  f284 := Tryd.func86.trans (congrArg some (by kernel_rfl))
  f285 := Tryd.func87.trans (congrArg some (by kernel_rfl))
  f286 := Tryd.func88.trans (congrArg some (by kernel_rfl))
  f317 := Tryd.func89.trans (congrArg some (by kernel_rfl))
  f318 := Tryd.func91.trans (congrArg some (by kernel_rfl))
  f319 := Tryd.func92.trans (congrArg some (by kernel_rfl))
  f320 := Tryd.func93.trans (congrArg some (by kernel_rfl))
  f337 := Tryd.func94.trans (congrArg some (by kernel_rfl))
  f338 := Tryd.func95.trans (congrArg some (by kernel_rfl))
  t0 := Tryd.underlying0
  a0 := Tryd.isAgg0
  z0 := Tryd.sizeOf0
  v0 := Tryd.zeroValue0
  t2 := Tryd.underlying2
  a2 := Tryd.isAgg2
  z2 := Tryd.sizeOf2
  v2 := Tryd.zeroValue2
  t3 := Tryd.underlying3
  a3 := Tryd.isAgg3
  z3 := Tryd.sizeOf3
  v3 := Tryd.zeroValue3
  t4 := Tryd.underlying4
  a4 := Tryd.isAgg4
  z4 := Tryd.sizeOf4
  v4 := Tryd.zeroValue4
  t5 := Tryd.underlying5
  a5 := Tryd.isAgg5
  z5 := Tryd.sizeOf5
  v5 := Tryd.zeroValue5
  t9 := Tryd.underlying9
  a9 := Tryd.isAgg9
  z9 := Tryd.sizeOf9
  v9 := Tryd.zeroValue9
  t20 := Tryd.underlying20
  a20 := Tryd.isAgg20
  z20 := Tryd.sizeOf20
  v20 := Tryd.zeroValue20
  t37 := Tryd.underlying79
  a37 := Tryd.isAgg79
  z37 := Tryd.sizeOf79
  v37 := Tryd.zeroValue79
  t46 := Tryd.underlying80
  a46 := Tryd.isAgg80
  z46 := Tryd.sizeOf80
  v46 := Tryd.zeroValue80
  t51 := Tryd.underlying77
  a51 := Tryd.isAgg77
  z51 := Tryd.sizeOf77
  v51 := Tryd.zeroValue77
  t53 := Tryd.underlying60
  a53 := Tryd.isAgg60
  z53 := Tryd.sizeOf60
  v53 := Tryd.zeroValue60
  t171 := Tryd.underlying105
  a171 := Tryd.isAgg105
  z171 := Tryd.sizeOf105
  v171 := Tryd.zeroValue105
  t173 := Tryd.underlying108
  a173 := Tryd.isAgg108
  z173 := Tryd.sizeOf108
  v173 := Tryd.zeroValue108
  t212 := Tryd.underlying111
  a212 := Tryd.isAgg111
  z212 := Tryd.sizeOf111
  v212 := Tryd.zeroValue111
  t213 := Tryd.underlying112
  a213 := Tryd.isAgg112
  z213 := Tryd.sizeOf112
  t232 := Tryd.underlying116
  a232 := Tryd.isAgg116
  z232 := Tryd.sizeOf116
  v232 := Tryd.zeroValue116
  t233 := Tryd.underlying117
  a233 := Tryd.isAgg117
  z233 := Tryd.sizeOf117
  v233 := Tryd.zeroValue117
  g17 := by kernel_rfl
  g18 := by kernel_rfl
  g19 := by kernel_rfl
  i0 := by kernel_rfl
  i2 := by kernel_rfl
  i3 := by kernel_rfl
  i4 := by kernel_rfl
  i5 := by kernel_rfl
  i9 := by kernel_rfl
  i20 := by kernel_rfl
  i37 := by kernel_rfl
  i46 := by kernel_rfl
  i51 := by kernel_rfl
  i53 := by kernel_rfl
  i171 := by kernel_rfl
  i173 := by kernel_rfl
  i212 := by kernel_rfl
  i232 := by kernel_rfl
  i233 := by kernel_rfl
  m17 := by kernel_rfl
  m18 := by kernel_rfl
  m19 := by kernel_rfl }
open Go.RowKit Go.Sort Go.Lib in
theorem Tryd.strconv_Itoa (n : Int) (h0 : -9223372036854775808 ≤ n) (h1 : n ≤ 9223372036854775807) (w : World) (htab : Lib.TabIs Tryd.prog w "internal/strconv.uint64pow10" .u64 Lib.pow10Tab) :
    Calls Tryd.prog 65 #[.int .i64 n] w fun e w' => e = .returned (.string ⟨(Lib.itoa n).toArray⟩) ∧ ∃ k os, w' = grow (w.drewN k) os := Any.strconv_Itoa Tryd.laysM171 n h0 h1 w htab
end Go.Proofs
namespace Go.Proofs.YtlflaalefilplaaDoor
open Go.RowKit

theorem bitLen_zero : Lib.bitLen 0 = 0 := by decide +kernel

theorem bitLen_spec (x : Nat) (h : x < 18446744073709551616) : x < 2 ^ Lib.bitLen x ∧ (0 < x → 2 ^ Lib.bitLen x ≤ 2 * x) := by
  induction x using Nat.strongRecOn with
  | ind x ih =>
    by_cases h0 : x = 0
    · subst h0; rw [bitLen_zero]; simp
    · have e := Lib.bitLen_half x h0 (by omega)
      obtain ⟨i1, i2⟩ := ih (x / 2) (by omega) (by omega)
      rw [e, Nat.add_comm, Nat.pow_succ]
      refine ⟨by omega, fun _ => ?_⟩
      by_cases h1 : x / 2 = 0
      · rw [h1, bitLen_zero]; omega
      · have := i2 (by omega); omega

set_option maxHeartbeats 1000000 in
theorem fromUint_any (v : Nat) (w : World) (hv : v < 18446744073709551616) :
    Calls Tryd.prog 67 #[.int .u64 v] w (RetN v w) := by
  have O := Own.lit w [v % 4294967296, v / 4294967296] (by intro x hx; simp at hx; omega)
  have hval : val [v % 4294967296, v / 4294967296] = v := by simp [val]; omega
  have h1 : (v : Int) / 4294967296 < 4294967296 := by omega
  have h0 : (0 : Int) ≤ v := by omega
  replace hval := Lib.hid hval
  replace hv := Lib.hid hv
  replace O := Lib.hid O
  go_enter Tryd.func67, Tryd.ntmps67
  go_wp2_with fail
  have R := O.out.rd0 2 (by simp)
  simp only [List.map, u32, Int.natCast_emod, Int.natCast_ediv, List.length] at R
  refine (trim_any _ _ _ _ _ R (by omega)).mono ?_
  rintro e w' ⟨n', rfl, rfl, R2⟩
  replace R2 := Lib.hid R2
  go_wp2
  go_ret
  exact ⟨_, _, _, rfl, by have := R2.out; rw [hval.out] at this; exact this, (Below.refl _ _).alloc (Nat.le_refl _) _⟩

end Go.Proofs.YtlflaalefilplaaDoor
namespace Go.Proofs.YtlflaalefilplaaDoor
open Go.RowKit

/-- What a division leaves. -/
def RetDiv (x y : Nat) (w : World) (e : Ending) (w' : World) : Prop :=
  ∃ A n c A' n' c', e = .returned (.tuple #[.slice A n c, .slice A' n' c', .bool true]) ∧ Rd w' A n c (limbs (x / y)) ∧ Rd w' A' n' c' (limbs (x % y)) ∧ Below w.heap.size w w'

theorem limbs_ne {y n : Nat} (h : (limbs y).length = n) (hy : 0 < y) : 1 ≤ n := by
  rw [limbs_pos hy] at h; simp at h; omega

theorem limbs_one {y : Nat} (h : (limbs y).length = 1) : y < 4294967296 ∧ (limbs y).getD 0 0 = y := by
  have h1 := limbs_len_le.1 (show (limbs y).length ≤ 1 by omega)
  rw [Nat.pow_one] at h1
  refine ⟨h1, ?_⟩
  rcases Nat.eq_zero_or_pos y with h0 | h0
  · subst h0; rw [limbs_zero]; rfl
  · rw [limbs_pos h0]; show y % 4294967296 = y; omega

theorem divmod_of {x y q r : Nat} (h : q * y + r = x) (hr : r < y) : x / y = q ∧ x % y = r := by
  constructor
  · rw [← h, Nat.mul_comm, Nat.mul_add_div (by omega), Nat.div_eq_of_lt hr, Nat.add_zero]
  · rw [← h, Nat.mul_comm, Nat.mul_add_mod, Nat.mod_eq_of_lt hr]

end Go.Proofs.YtlflaalefilplaaDoor
namespace Go.Proofs.YtlflaalefilplaaDoor
open Go.RowKit

end Go.Proofs.YtlflaalefilplaaDoor
namespace Go.Proofs.YtlflaalefilplaaDoor
open Go.RowKit

end Go.Proofs.YtlflaalefilplaaDoor
namespace Go.Proofs.YtlflaalefilplaaDoor
open Go.RowKit

theorem limbs_small {x : Nat} (h0 : 0 < x) (h : x < 4294967296) : limbs x = [x] := by
  rw [limbs_pos h0, show x / 4294967296 = 0 by omega, limbs_zero, show x % 4294967296 = x by omega]

theorem isq_99 : isq 99 = 9 := isq_unique (by omega) (by omega)

/-- A literal of one limb. -/
theorem lit_one (w : World) (g x : Nat) (z : Int) (hg : g = w.heap.size) (hz : z = x) (h0 : 0 < x) (h : x < 4294967296) : Rd (w.alloc (.cells #[.int .u32 z] 77)) (some ⟨g, 0, none⟩) 1 1 (limbs x) := by
  subst hg
  subst hz
  have := (Own.lit w [x] (by intro y hy; simp at hy; omega)).rd0 1 (by simp)
  rw [limbs_small h0 h]
  exact this

theorem limbs_2_32 : limbs 4294967296 = [0, 1] := by
  rw [limbs_pos (by omega)]
  show 0 :: limbs 1 = [0, 1]
  rw [limbs_small (by omega) (by omega)]

theorem lit_two (w : World) (g : Nat) (hg : g = w.heap.size) : Rd (w.alloc (.cells #[.int .u32 0, .int .u32 1] 77)) (some ⟨g, 0, none⟩) 2 2 (limbs 4294967296) := by
  subst hg
  have := (Own.lit w [0, 1] (by intro y hy; simp at hy; omega)).rd0 2 (by simp)
  rw [limbs_2_32]
  exact this

theorem len_one {x n : Nat} (h : (limbs x).length = n) (hx : x < 4294967296) : n ≤ 1 := by
  have := len_of_lt (x := x) (n := 1) (by rw [Nat.pow_one]; exact hx)
  omega

end Go.Proofs.YtlflaalefilplaaDoor
namespace Go.Proofs.YtlflaalefilplaaDoor
open Go.RowKit

/-- A slice of integers that came in, as limbs. -/
theorem rd_of_row {w : World} {a : Option Addr} {len cap : Nat} {zs : List Int}
    (h : (a = none ∧ len = 0 ∧ cap = 0 ∧ zs = []) ∨
      ∃ x, a = some x ∧ len ≤ cap ∧ cap ≤ maxLen ∧ zs.length = cap ∧ (∀ i, i < zs.length → w.cell? (x.add i) = some (.int .u32 (zs.getD i 0))) ∧ ∀ n ∈ zs, (Lit.int .u32 n).wf = true) :
    ∃ xs, Rd w a len cap xs ∧ len ≤ 9223372036854775807 := by
  rcases h with ⟨rfl, rfl, rfl, rfl⟩ | ⟨x, rfl, hl, hc, hz, hcell, hwf⟩
  · exact ⟨[], Rd.nil_ _ _ _, by omega⟩
  · have hm : len ≤ 9223372036854775807 := by unfold maxLen at hc; omega
    refine ⟨(zs.take len).map Int.toNat, ⟨by rw [List.length_map, List.length_take]; omega, hl, ?_, ?_⟩, hm⟩
    · intro y hy
      obtain ⟨z, hz1, rfl⟩ := List.mem_map.1 hy
      have := bounds_u32 (hwf z (List.mem_of_mem_take hz1))
      omega
    · rcases Nat.eq_zero_or_pos len with h0 | h0
      · exact .inl h0
      · right
        obtain ⟨b, o, rfl, hc2⟩ := ints_at hcell (by omega)
        refine ⟨b, o, rfl, World.block_lt_of_cell? (a := ⟨b, o, none⟩) w (show w.cell? ⟨b, o, none⟩ = some _ from hc2 0 (by omega)), fun k hk => ?_⟩
        rw [hc2 k (by omega)]
        have hkz : k < zs.length := by omega
        have hb := bounds_u32 (hwf zs[k] (List.getElem_mem hkz))
        simp [hk, hkz]
        omega

theorem fair_yes {n1 n2 n3 : Nat} {xs ys zs : List Nat} (h : fairB n1 n2 n3 xs ys zs = true) : n1 ≤ 12 ∧ n2 ≤ 12 ∧ n3 ≤ 12 ∧ vldB xs = true ∧ vldB ys = true ∧ vldB zs = true := by
  simpa [fairB] using h

theorem rd_limbs {w : World} {A : Option Addr} {n c : Nat} {xs : List Nat} (h : Rd w A n c xs) (hv : vldB xs = true) : Rd w A n c (limbs (val xs)) := by
  rw [limbs_val h.sm hv]; exact h

theorem same_b (A : Option Addr) (n c : Nat) (A' : Option Addr) (n' c' : Nat) (xs ys : List Nat) (w : World)
    (h1 : Rd w A n c xs) (h2 : Rd w A' n' c' ys) (hn : n ≤ 100000) (he : xs = ys) :
    Calls Tryd.prog 37 #[.slice A n c, .slice A' n' c'] w fun e w' => e = .returned (.bool true) ∧ Below w.heap.size w w' := by
  subst he
  refine (same_true A n c A' n' c' xs w h1 h2 hn).mono ?_
  rintro e w' ⟨he, m, rfl⟩
  exact ⟨he, drewN_below w m⟩

theorem cmpi_neg (a b : Int) : cmpi b a = -cmpi a b := by
  unfold cmpi
  split <;> split <;> (try split) <;> omega

end Go.Proofs.YtlflaalefilplaaDoor
namespace Go.Proofs.YtlflaalefilplaaDoor
open Go.RowKit

theorem ret_u32 {k : IntKind} {a b : Int} (h : a = b) : Ending.returned (.int k a) = .returned (.int k b) := by rw [h]

end Go.Proofs.YtlflaalefilplaaDoor
namespace Go.Proofs.YtlflaalefilplaaDoor
open Go.RowKit

/-- A window of the block was decreased by x times ys. -/
def RetSubP (g o m x : Nat) (zs ys : List Nat) (w : World) (e : Ending) (w' : World) : Prop :=
  ∃ (cy : Nat) (zs' : List Nat), e = .returned (.int .u64 cy) ∧ cy < 4294967296 ∧ Own w' g zs' ∧ zs'.length = zs.length ∧ zs'.take o = zs.take o ∧ zs'.drop (o + m) = zs.drop (o + m) ∧
    val zs' + 4294967296 ^ o * (x * val ys) = val zs + 4294967296 ^ (o + m) * cy ∧ w.grownBy w' (some g)

end Go.Proofs.YtlflaalefilplaaDoor
namespace Go.Proofs.YtlflaalefilplaaDoor
open Go.RowKit

theorem quiet_add {P : Program} {f : FuncId} {args : Array Value} {w : World} {a n : Nat} {v : Value}
    (h : Calls P f args (w.drewN (a + n)) fun e w' => e = .returned v ∧ ∃ m, w' = (w.drewN (a + n)).drewN m) :
    Calls P f args (w.drewN (a + n)) fun e w'' => e = .returned v ∧ ∃ m, w'' = w.drewN (a + m) :=
  h.mono fun _ _ ⟨he, m, hm⟩ => ⟨he, n + m, by rw [hm, World.drewN_drewN, Nat.add_assoc]⟩

theorem keep_cell {w : World} {g i a : Nat} {zs zs' : List Nat} (O1 : Own w g zs') (l1 : zs'.length = zs.length) (d1 : zs'.drop i = zs.drop i) (h2 : zs.getD i 0 = a) (hi : i < zs.length) :
    w.cell? ⟨g, i, none⟩ = some (.int .u32 (a : Int)) := by
  rw [O1.cell (by omega)]
  have e1 := drop_get (X := zs') (j := i) (by omega)
  have e2 := drop_get (X := zs) (j := i) hi
  rw [d1, e2] at e1
  injection e1 with e1 _
  rw [← e1, h2]

theorem grown_trans2 {a b c : World} {g : Nat} (h : a.grownBy b (some g)) (k : b.grownBy c (some g)) : a.grownBy c (some g) :=
  ⟨k.os.trans h.os, k.tape.trans h.tape, k.output.trans h.output, Nat.le_trans h.size k.size, fun i hi hne => (k.block i (Nat.lt_of_lt_of_le hi h.size) hne).trans (h.block i hi hne)⟩

/-- What a step of the division leaves. -/
def RetStep (g o m D : Nat) (zs : List Nat) (w : World) (e : Ending) (w' : World) : Prop :=
  ∃ zs', e = .returned (.int .u32 (win zs o (m + 1) / D : Nat)) ∧ Own w' g zs' ∧ zs'.length = zs.length ∧ zs'.take o = zs.take o ∧ win zs' o m = win zs o (m + 1) % D ∧ w.grownBy w' (some g)

end Go.Proofs.YtlflaalefilplaaDoor
namespace Go.Proofs.YtlflaalefilplaaDoor
open Go.RowKit

/-- What a long division leaves. -/
def RetLong (x y : Nat) (w : World) (e : Ending) (w' : World) : Prop :=
  ∃ A n c A' n' c', e = .returned (.tuple #[.slice A n c, .slice A' n' c']) ∧ Rd w' A n c (limbs (x / y)) ∧ Rd w' A' n' c' (limbs (x % y)) ∧ Below w.heap.size w w'

end Go.Proofs.YtlflaalefilplaaDoor
namespace Go.Proofs.YtlflaalefilplaaDoor
open Go.RowKit

set_option maxHeartbeats 400000 in
theorem rtrim_any (A : Option Addr) (n c : Nat) (xs : List Nat) (w : World) (h : Rd w A n c xs) (hn : n ≤ 100000) :
    Calls Tryd.prog 52 #[.slice A n c] w fun e w' => ∃ n', e = .returned (.slice A n' c) ∧ w = w' ∧ Rd w A n' c (limbs (val xs)) := by
  have hcap := h.cap
  have hl := h.len
  have R : Rd w A (tl xs n) c (limbs (val xs)) := by
    have := h.take (tl_le xs n)
    rw [tl_limbs h.sm n (by omega), ← hl, List.take_length, hl] at this
    exact this
  have R := Lib.hid R
  have HH := Lib.hid h
  clear h hl
  go_enter Tryd.func52, Tryd.ntmps52
  go_wp2
  go_loop [0] (fun s => ∃ k : Nat, k ≤ n ∧ s = .slice A k c ∧ tl xs k = tl xs n) (fun s => match s with | .slice _ k _ => k | _ => 0)
  case atStart => exact ⟨n, Nat.le_refl _, rfl, rfl⟩
  case round =>
    obtain ⟨k, hk, rfl, ht⟩ := hrel
    have ht := Lib.hid ht
    by_cases h0 : k = 0
    · subst h0
      have hg : ((0:Int) > 0) = False := by simp
      go_wp2
      go_ret
      exact ⟨0, rfl, rfl, by have := R.out; rw [← ht.out] at this; exact this⟩
    · obtain ⟨m, rfl⟩ : ∃ m, k = m + 1 := ⟨k - 1, by omega⟩
      obtain ⟨b, o, x, rfl, hb, hx, hxs, hc⟩ := HH.out.at_ (k := m) (by omega)
      have hxs := Lib.hid hxs
      clear h0
      have hg : (0:Int) < (m : Int) + 1 := by omega
      have hg2 : decide ((0:Int) < (m : Int) + 1) = true := decide_eq_true hg
      by_cases hx0 : x = 0
      · have hx1 : ((x : Int) == 0) = true := by simp; omega
        have e : tl xs (m + 1) = tl xs m := by rw [tl, if_pos (by rw [hxs.out]; exact hx0)]
        have e := Lib.hid e
        clear hx0
        go_wp2
        go_round
        case rel => exact ⟨m, by omega, rfl, by rw [← e.out]; exact ht.out⟩
        case measure => simp
      · have hx1 : ((x : Int) == 0) = false := by simp; omega
        have e : tl xs (m + 1) = m + 1 := by rw [tl, if_neg]; rw [hxs.out]; exact hx0
        have e := Lib.hid e
        clear hx0
        go_wp2
        go_ret
        exact ⟨m + 1, rfl, rfl, by have := R.out; rw [← ht.out, e.out] at this; exact this⟩

set_option maxHeartbeats 1000000 in
theorem rfromUint_any (v : Nat) (w : World) (hv : v < 18446744073709551616) :
    Calls Tryd.prog 29 #[.int .u64 v] w (RetN v w) := by
  have O := Own.lit w [v % 4294967296, v / 4294967296] (by intro x hx; simp at hx; omega)
  have hval : val [v % 4294967296, v / 4294967296] = v := by simp [val]; omega
  have h1 : (v : Int) / 4294967296 < 4294967296 := by omega
  have h0 : (0 : Int) ≤ v := by omega
  replace hval := Lib.hid hval
  replace hv := Lib.hid hv
  replace O := Lib.hid O
  go_enter Tryd.func29, Tryd.ntmps29
  go_wp2_with fail
  have R := O.out.rd0 2 (by simp)
  simp only [List.map, u32, Int.natCast_emod, Int.natCast_ediv, List.length] at R
  refine (rtrim_any _ _ _ _ _ R (by omega)).mono ?_
  rintro e w' ⟨n', rfl, rfl, R2⟩
  replace R2 := Lib.hid R2
  go_wp2
  go_ret
  exact ⟨_, _, _, rfl, by have := R2.out; rw [hval.out] at this; exact this, (Below.refl _ _).alloc (Nat.le_refl _) _⟩


set_option maxHeartbeats 1000000 in
theorem take_any (A : Option Addr) (n c : Nat) (xs : List Nat) (w : World) (h : Rd w A n c xs) (hn : n ≤ 10000) :
    Calls Tryd.prog 49 #[.slice A n c] w fun e w' => ∃ A' n' c', e = .returned (.slice A' n' c') ∧ Rd w' A' n' c' (limbs (num xs)) ∧ Below w.heap.size w w' ∧ n' ≤ n := by
  have hv := rvalid_any A n c xs w h (by omega)
  have hk := kn_limbs h.sm
  cases hb : vldB xs
  · rw [hb] at hv
    have R : Rd w none 0 0 (limbs (num xs)) := by rw [← hk]; unfold kn; rw [hb]; exact Rd.nil_ w 0 none
    replace R := Lib.hid R
    replace hv := Lib.hid hv
    clear hk hb h
    go_enter Tryd.func49, Tryd.ntmps49
    go_wp2_with fail
    refine (hv.out).mono ?_
    rintro e w' ⟨rfl, hw⟩
    have hw := hw.symm
    subst hw
    go_wp2
    go_ret
    exact ⟨none, 0, 0, rfl, R.out, Below.refl _ _, Nat.zero_le _⟩
  · rw [hb] at hv
    have e : limbs (num xs) = xs := by rw [← hk]; unfold kn; rw [hb]; rfl
    rw [e]
    replace hv := Lib.hid hv
    have hl := h.len
    clear hk hb e
    rcases A with _ | ad
    · have hx : xs = [] := by
        rcases h.mem with h0 | ⟨b, o, h0, _⟩
        · exact List.eq_nil_of_length_eq_zero (by omega)
        · cases h0
      subst hx
      obtain rfl : n = 0 := by simpa using hl.symm
      clear h hl
      go_enter Tryd.func49, Tryd.ntmps49
      go_wp2_with fail
      refine (hv.out).mono ?_
      rintro e w' ⟨rfl, hw⟩
      have hw := hw.symm
      subst hw
      go_wp2
      go_ret
      exact ⟨none, 0, 0, rfl, Rd.nil_ _ _ _, Below.refl _ _, Nat.zero_le _⟩
    · replace h := Lib.hid h
      replace hl := Lib.hid hl
      go_enter Tryd.func49, Tryd.ntmps49
      go_wp2_with fail
      refine (hv.out).mono ?_
      rintro e w' ⟨rfl, hw⟩
      have hw := hw.symm
      subst hw
      go_wp2_with (at_builtin; refine wpList_append_u32 _ rfl (.const (.slice none 0 0)) (.tmp 6) rfl w.heap.size _ [] rfl (Gr.nil_ w _) ad n c xs rfl h.out ?c1 ?c2 ?_)
      case c1 => show 0 + n ≤ 100000; omega
      case c2 => exact Nat.le_refl _
      intro v' w' hG hg
      obtain ⟨A', c', hv', hR, _⟩ := hG.form
      subst hv'
      have hl2 := hl.out
      subst hl2
      replace hR := Lib.hid hR
      replace hg := Lib.hid (Below.grown (Below.refl w.heap.size w) hg (Nat.le_refl _) (by intro k hk; simp [Value.ownBlock] at hk))
      clear hG
      go_wp2
      go_ret
      exact ⟨_, _, _, rfl, hR.out, hg.out, Nat.le_refl _⟩

set_option maxHeartbeats 1000000 in
theorem rcmp_any (A : Option Addr) (n c : Nat) (x : Nat) (A' : Option Addr) (n' c' : Nat) (y : Nat) (w : World)
    (R1 : Rd w A n c (limbs x)) (R2 : Rd w A' n' c' (limbs y)) (hn : n ≤ 10000) (hn' : n' ≤ 10000) :
    Calls Tryd.prog 79 #[.slice A n c, .slice A' n' c'] w fun e w' => e = .returned (.int .i64 (cmpi x y)) ∧ ∃ m, w' = w.drewN m := by
  replace R1 := Lib.hid R1
  replace R2 := Lib.hid R2
  by_cases hne : n = n'
  · subst hne
    have hne0 : ((n : Int) != (n : Int)) = false := by simp
    go_enter Tryd.func79, Tryd.ntmps79
    go_wp2
    go_loopw [5] (fun iv wr => ∃ (i : Int) (k m : Nat), k ≤ n ∧ i + 1 = k ∧ iv = .int .i64 i ∧ wr = w.drewN m ∧ (limbs x).drop k = (limbs y).drop k) (fun iv _ => (intOf iv + 1).toNat)
    case atStart => exact ⟨_, n, 0, Nat.le_refl _, by omega, rfl, rfl, by rw [List.drop_of_length_le (by rw [R1.out.len]; omega), List.drop_of_length_le (by rw [R2.out.len]; omega)]⟩
    case round =>
      obtain ⟨i, k, m, hk, hik, rfl, rfl, hd⟩ := hrel
      replace hd := Lib.hid hd
      by_cases h0 : k = 0
      · subst h0
        have hxy : x = y := limbs_inj (by simpa using hd.out)
        have hcmp := Lib.hid (cmpi_eq (a := x) (b := y) (by omega))
        obtain rfl : i = -1 := by omega
        clear hik hd hxy
        go_wp2
        go_ret
        rw [hcmp.out]; exact ⟨rfl, _, rfl⟩
      · obtain ⟨j, rfl⟩ : ∃ j, k = j + 1 := ⟨k - 1, by omega⟩
        obtain rfl : i = j := by omega
        obtain ⟨b1, o1, x1, rfl, hb1, hx1, hxe, hcx⟩ := R1.out.at_ (k := j) (by omega)
        obtain ⟨b2, o2, y1, rfl, hb2, hy1, hye, hcy⟩ := R2.out.at_ (k := j) (by omega)
        replace hxe := Lib.hid hxe
        replace hye := Lib.hid hye
        clear hik h0
        have g1 : (0 : Int) ≤ (j : Int) := by omega
        have g2 : (j : Int) < (n : Int) := by omega
        by_cases hlt : x1 < y1
        · have hcm : cmpi x y = -1 := by
            rw [cmp_at (by rw [R1.out.len]; omega) (by rw [R2.out.len]; omega) hd.out hxe.out hye.out (by omega) (sm_limbs _) (sm_limbs _)]
            exact cmpi_lt (by omega)
          replace hcm := Lib.hid hcm
          go_wp2
          go_quiet (fail)
          go_wp2
          go_ret
          rw [hcm.out]; exact ⟨rfl, _, by rw [World.drewN_drewN]⟩
        · by_cases hgt : y1 < x1
          · have hcm : cmpi x y = 1 := by
              rw [cmp_at (by rw [R1.out.len]; omega) (by rw [R2.out.len]; omega) hd.out hxe.out hye.out (by omega) (sm_limbs _) (sm_limbs _)]
              exact cmpi_gt (by omega)
            replace hcm := Lib.hid hcm
            go_wp2
            go_quiet (fail)
            go_wp2
            go_quiet (fail)
            go_wp2
            go_ret
            rw [hcm.out]; exact ⟨rfl, _, by rw [World.drewN_drewN, World.drewN_drewN]⟩
          · have hd2 := Lib.hid (drop_same (by rw [R1.out.len]; omega) (by rw [R2.out.len]; omega) hd.out (hxe.out.trans ((show x1 = y1 by omega).trans hye.out.symm)))
            go_wp2
            go_quiet (fail)
            go_wp2
            go_quiet (fail)
            go_wp2
            go_roundw
            case rel => exact ⟨_, j, _, by omega, by omega, rfl, rfl, hd2.out⟩
            case measure => simp [intOf]
  · have hc : cmpi x y = cmpi n n' := cmp_len R1.out.len R2.out.len hne
    have ht : ((n : Int) != (n' : Int)) = true := by simp; omega
    by_cases hlt : n < n'
    · rw [hc, cmpi_lt (by omega)]
      clear hne hc
      go_enter Tryd.func79, Tryd.ntmps79
      go_wp2
      go_ret
      exact ⟨rfl, 0, rfl⟩
    · rw [hc, cmpi_gt (by omega)]
      clear hc
      go_enter Tryd.func79, Tryd.ntmps79
      go_wp2
      go_ret
      exact ⟨rfl, 0, rfl⟩

theorem rcmp_b (A : Option Addr) (n c : Nat) (x : Nat) (A' : Option Addr) (n' c' : Nat) (y : Nat) (w : World)
    (h1 : Rd w A n c (limbs x)) (h2 : Rd w A' n' c' (limbs y)) (hn : n ≤ 10000) (hn' : n' ≤ 10000) (q : Int) (hq : cmpi x y = q) :
    Calls Tryd.prog 79 #[.slice A n c, .slice A' n' c'] w fun e w' => e = .returned (.int .i64 q) ∧ Below w.heap.size w w' := by
  have := rcmp_any A n c x A' n' c' y w h1 h2 hn hn'
  rw [hq] at this
  refine this.mono ?_
  rintro e w' ⟨he, m, rfl⟩
  exact ⟨he, drewN_below w m⟩

end Go.Proofs.YtlflaalefilplaaDoor
namespace Go.Proofs.YtlflaalefilplaaDoor
open Go.RowKit

/-- What Uint gives of a number. -/
def uval (x : Nat) : Nat := if x < 18446744073709551616 then x else 0
def uok (x : Nat) : Bool := decide (x < 18446744073709551616)

theorem two_pow_64 : 4294967296 ^ 2 = 18446744073709551616 := rfl

theorem u_big {x n : Nat} (h : (limbs x).length = n) (hn : 2 < n) : uval x = 0 ∧ uok x = false := by
  have h1 : ¬ x < 18446744073709551616 := by
    intro hx
    have := len_of_lt (x := x) (n := 2) (by rw [two_pow_64]; exact hx)
    omega
  exact ⟨if_neg h1, decide_eq_false h1⟩

theorem u_small {x n : Nat} (h : (limbs x).length = n) (hn : n ≤ 2) : uval x = x ∧ uok x = true := by
  have h1 : x < 18446744073709551616 := by
    have := limbs_len_le (n := x) (k := 2).1 (by omega)
    rw [two_pow_64] at this
    exact this
  exact ⟨if_pos h1, decide_eq_true h1⟩

theorem or_high (a x : Nat) (ha : a < 4294967296) (hx : x < 4294967296) : bits .or .u64 (a : Int) ((x : Int) * 4294967296) = ((a + x * 4294967296 : Nat) : Int) := by
  rw [show (x : Int) * 4294967296 = ((x * 4294967296 : Nat) : Int) by simp]
  rw [u64_or_nat a (x * 4294967296) (by omega) (by omega)]
  congr 1
  have := Nat.two_pow_add_eq_or_of_lt (i := 32) (b := a) (by omega) x
  rw [show (2:Nat) ^ 32 = 4294967296 from rfl, Nat.mul_comm] at this
  rw [Nat.or_comm, ← this, Nat.add_comm]

theorem or_zero (x : Nat) (hx : x < 4294967296) : bits .or .u64 0 (x : Int) = (x : Int) := by
  have := u64_or_nat 0 x (by omega) (by omega)
  rw [Nat.zero_or] at this
  exact this

end Go.Proofs.YtlflaalefilplaaDoor
