/- How a slice reads as a list of limbs in the model's memory; what make and append leave. -/
import Derived.Test.YtkdeajocogdmgaaDoorProg
import Derived.Test.YtkdeajocogdmgaaDoorNt
import Derived.WalkKit
import Derived.WalkSpells
import Derived.Lib.Hide
import Derived.Deep.QuietTactic
import Derived.BigQuiet
import Derived.Deep.Draws
import Derived.Deep.OwnRows
import Derived.Deep.DeepCutAuto
import Derived.Laws.BitsAllLaws
import Derived.WalkLawsBesides
import Derived.Laws.AppendOwn
namespace Go.Proofs.YtkdeajocogdmgaaDoor
open Go.RowKit

/-- A limb as a value. -/
def u32 (z : Nat) : Value := .int .u32 (z : Int)

/-- The slice value reads as the list of limbs xs, and lies below block B. -/
structure RdB (w : World) (B : Nat) (A : Option Addr) (n c : Nat) (xs : List Nat) : Prop where
  len : xs.length = n
  cap : n ≤ c
  sm : Sm xs
  mem : n = 0 ∨ ∃ b o, A = some ⟨b, o, none⟩ ∧ b < B ∧ ∀ k, k < n → w.cell? ⟨b, o + k, none⟩ = some (.int .u32 ((xs.getD k 0 : Nat) : Int))
def Rd (w : World) (A : Option Addr) (n c : Nat) (xs : List Nat) : Prop := RdB w w.heap.size A n c xs

section
variable {w w' : World} {B B' : Nat} {A : Option Addr} {n c : Nat} {xs : List Nat}
theorem RdB.at_ (h : RdB w B A n c xs) {k : Nat} (hk : k < n) :
    ∃ b o x, A = some ⟨b, o, none⟩ ∧ b < B ∧ x < 4294967296 ∧ xs.getD k 0 = x ∧ w.cell? ⟨b, o + k, none⟩ = some (.int .u32 ((x : Nat) : Int)) := by
  obtain ⟨_, _, h4, h5⟩ := h
  rcases h5 with h5 | ⟨b, o, h5, h6, h7⟩
  · omega
  · exact ⟨b, o, xs.getD k 0, h5, h6, sm_get h4 k, rfl, h7 k hk⟩
theorem Rd.at_ (h : Rd w A n c xs) {k : Nat} (hk : k < n) :
    ∃ b o x, A = some ⟨b, o, none⟩ ∧ b < w.heap.size ∧ x < 4294967296 ∧ xs.getD k 0 = x ∧ w.cell? ⟨b, o + k, none⟩ = some (.int .u32 ((x : Nat) : Int)) := RdB.at_ h hk
theorem RdB.nil_ (w : World) (B c : Nat) (A : Option Addr) : RdB w B A 0 c [] := ⟨rfl, Nat.zero_le _, sm_nil, .inl rfl⟩
theorem Rd.nil_ (w : World) (c : Nat) (A : Option Addr) : Rd w A 0 c [] := ⟨rfl, Nat.zero_le _, sm_nil, .inl rfl⟩
theorem RdB.keep (h : RdB w B A n c xs) (hk : ∀ p : Addr, p.block < B → w'.cell? p = w.cell? p) : RdB w' B A n c xs := by
  refine ⟨h.len, h.cap, h.sm, ?_⟩
  rcases h.mem with h5 | ⟨b, o, h5, h6, h7⟩
  · exact .inl h5
  · exact .inr ⟨b, o, h5, by omega, fun k hk' => (hk _ h6).trans (h7 k hk')⟩
theorem RdB.more (h : RdB w B A n c xs) (hB : B ≤ B') : RdB w B' A n c xs := by
  refine ⟨h.len, h.cap, h.sm, ?_⟩
  rcases h.mem with h5 | ⟨b, o, h5, h6, h7⟩
  · exact .inl h5
  · exact .inr ⟨b, o, h5, by omega, h7⟩
theorem RdB.below (h : RdB w B A n c xs) (hb : Below B w w') : RdB w' B A n c xs := h.keep fun _ hp => hb.cell hp
/-- What could be read can be read behind a call. -/
theorem Rd.below (h : Rd w A n c xs) (hb : Below w.heap.size w w') : Rd w' A n c xs := (RdB.below h hb).more hb.size
theorem Rd.base (h : Rd w A n c xs) (hb : Below w.heap.size w w') : RdB w' w.heap.size A n c xs := RdB.below h hb
theorem Rd.alloc (h : Rd w A n c xs) (o : Obj) : Rd (w.alloc o) A n c xs := Rd.below h ((Below.refl _ _).alloc (Nat.le_refl _) o)
theorem Rd.drewN (h : Rd w A n c xs) (k : Nat) : Rd (w.drewN k) A n c xs := ⟨h.len, h.cap, h.sm, h.mem⟩
theorem RdB.grown (h : RdB w B A n c xs) {g : Nat} (hg : w.grownBy w' (some g)) (hB : B ≤ w.heap.size) (hr : B ≤ g) : RdB w' B A n c xs :=
  h.keep fun p hp => World.cell?_of_block (hg.block p.block (by omega) (fun e => by injection e; omega))
theorem RdB.take (h : RdB w B A n c xs) {k : Nat} (hk : k ≤ n) : RdB w B A k c (xs.take k) := by
  have hl := h.len
  have hc := h.cap
  refine ⟨by rw [List.length_take]; omega, by omega, sm_take h.sm _, ?_⟩
  rcases h.mem with h5 | ⟨b, o, h5, h6, h7⟩
  · exact .inl (by omega)
  · refine .inr ⟨b, o, h5, h6, fun j hj => ?_⟩
    rw [h7 j (by omega)]
    simp [hj]
theorem Rd.take (h : Rd w A n c xs) {k : Nat} (hk : k ≤ n) : Rd w A k c (xs.take k) := RdB.take h hk
end

/-- The slice value reads as the list of limbs xs, and does not lie in block g. -/
structure RdX (w : World) (g : Nat) (A : Option Addr) (n c : Nat) (xs : List Nat) : Prop where
  len : xs.length = n
  cap : n ≤ c
  sm : Sm xs
  mem : n = 0 ∨ ∃ b o, A = some ⟨b, o, none⟩ ∧ b ≠ g ∧ ∀ k, k < n → w.cell? ⟨b, o + k, none⟩ = some (.int .u32 ((xs.getD k 0 : Nat) : Int))

section
variable {w w' : World} {g : Nat} {A : Option Addr} {n c : Nat} {xs : List Nat}
theorem RdB.x {B : Nat} (h : RdB w B A n c xs) (hB : B ≤ g) : RdX w g A n c xs := by
  refine ⟨h.len, h.cap, h.sm, ?_⟩
  rcases h.mem with h5 | ⟨b, o, h5, h6, h7⟩
  · exact .inl h5
  · exact .inr ⟨b, o, h5, by omega, h7⟩
theorem RdX.at_ (h : RdX w g A n c xs) {k : Nat} (hk : k < n) :
    ∃ b o x, A = some ⟨b, o, none⟩ ∧ b ≠ g ∧ x < 4294967296 ∧ xs.getD k 0 = x ∧ w.cell? ⟨b, o + k, none⟩ = some (.int .u32 ((x : Nat) : Int)) := by
  obtain ⟨_, _, h4, h5⟩ := h
  rcases h5 with h5 | ⟨b, o, h5, h6, h7⟩
  · omega
  · exact ⟨b, o, xs.getD k 0, h5, h6, sm_get h4 k, rfl, h7 k hk⟩
theorem RdX.grown (h : RdX w g A n c xs) (hg : w.grownBy w' (some g)) : RdX w' g A n c xs := by
  refine ⟨h.len, h.cap, h.sm, ?_⟩
  rcases h.mem with h5 | ⟨b, o, h5, h6, h7⟩
  · exact .inl h5
  · exact .inr ⟨b, o, h5, h6, fun k hk => hg.cell (h7 k hk) (by intro e; injection e with e; exact h6 e)⟩
end

/-- A block of the call's own begins with the limbs zs. -/
structure Own (w : World) (g : Nat) (zs : List Nat) : Prop where
  heap : ∃ cs, w.heap[g]? = some (.cells cs 53 (0, 0)) ∧ cs.toList.take zs.length = zs.map u32
  sm : Sm zs

section
variable {w w' : World} {g : Nat} {zs : List Nat}
theorem Own.lt (h : Own w g zs) : g < w.heap.size := by
  obtain ⟨cs, h, _⟩ := h.heap
  rcases Nat.lt_or_ge g w.heap.size with hlt | hge
  · exact hlt
  · rw [Array.getElem?_eq_none hge] at h; cases h
theorem Own.cell (h : Own w g zs) {k : Nat} (hk : k < zs.length) : w.cell? ⟨g, k, none⟩ = some (.int .u32 ((zs.getD k 0 : Nat) : Int)) := by
  obtain ⟨cs, h, ht⟩ := h.heap
  rw [cell_of_row w g k _ 53 (0, 0) h]
  have : (cs.toList.take zs.length)[k]? = (zs.map u32)[k]? := by rw [ht]
  rw [List.getElem?_take_of_lt hk, Array.getElem?_toList] at this
  rw [this]
  simp [hk, u32]
theorem Own.frozen (h : Own w g zs) (i : Nat) : w.frozen? ⟨g, i, none⟩ = false := by
  obtain ⟨cs, h, _⟩ := h.heap
  simp [World.frozen?, h]
theorem Own.drew (h : Own w g zs) : Own w.drew g zs := ⟨h.heap, h.sm⟩
theorem Own.drewN (h : Own w g zs) (k : Nat) : Own (w.drewN k) g zs := ⟨h.heap, h.sm⟩
theorem Own.keep (h : Own w g zs) (hk : w'.heap[g]? = w.heap[g]?) : Own w' g zs := by
  obtain ⟨cs, hc, ht⟩ := h.heap
  exact ⟨⟨cs, hk.trans hc, ht⟩, h.sm⟩
theorem Own.alloc (h : Own w g zs) (o : Obj) : Own (w.alloc o) g zs := h.keep (Below.heap_alloc w o g h.lt)
theorem Own.set_ (h : Own w g zs) (i x : Nat) (hx : x < 4294967296) : Own (w.setCell ⟨g, i, none⟩ (.int .u32 (x : Int))) g (zs.set i x) := by
  obtain ⟨cs, hc, ht⟩ := h.heap
  refine ⟨⟨cs.setIfInBounds i (u32 x), ?_, ?_⟩, sm_set h.sm i x hx⟩
  · simp [World.setCell, Array.getElem?_modify, hc, u32]
  · rw [Array.toList_setIfInBounds, List.length_set, List.take_set, ht, List.map_set]
theorem Own.far (h : Own w g zs) {p : Addr} (hp : g ≠ p.block) (u : Value) : Own (w.setCell p u) g zs := h.keep (Below.heap_setCell w p u g hp)
theorem Own.below {B : Nat} (h : Own w g zs) (hb : Below B w w') (hg : g < B) : Own w' g zs := h.keep (hb.block g hg)
theorem Own.grown {r : Option Nat} (h : Own w g zs) (hb : w.grownBy w' r) (hg : some g ≠ r) : Own w' g zs := h.keep (hb.block g h.lt hg)
theorem Own.pre (h : Own w g zs) (k : Nat) : Own w g (zs.take k) := by
  obtain ⟨cs, hc, ht⟩ := h.heap
  refine ⟨⟨cs, hc, ?_⟩, sm_take h.sm k⟩
  rw [List.map_take, ← ht, List.take_take, List.length_take]
/-- A part of the block, as a slice. -/
theorem Own.rd (h : Own w g zs) (o n c : Nat) (hn : o + n ≤ zs.length) (hc : n ≤ c) : Rd w (some ⟨g, o, none⟩) n c ((zs.drop o).take n) := by
  refine ⟨by rw [List.length_take, List.length_drop]; omega, hc, sm_take (sm_drop h.sm _) _, .inr ⟨g, o, rfl, h.lt, fun k hk => ?_⟩⟩
  rw [h.cell (by omega)]
  simp [hk, List.getElem?_drop]
theorem Own.rdx (h : Own w g zs) {g' n c : Nat} (hg : g ≠ g') (hn : n ≤ zs.length) (hc : n ≤ c) : RdX w g' (some ⟨g, 0, none⟩) n c (zs.take n) := by
  refine ⟨by rw [List.length_take]; omega, hc, sm_take h.sm _, .inr ⟨g, 0, rfl, hg, fun k hk => ?_⟩⟩
  rw [Nat.zero_add, h.cell (by omega)]
  simp [hk]
theorem Own.rd0 (h : Own w g zs) (c : Nat) (hc : zs.length ≤ c) : Rd w (some ⟨g, 0, none⟩) zs.length c zs := by
  have := h.rd 0 zs.length c (by omega) hc
  simpa using this
theorem Own.rdn (h : Own w g zs) {n c : Nat} (hn : zs.length = n) (hc : n ≤ c) : Rd w (some ⟨g, 0, none⟩) n c zs := by subst hn; exact h.rd0 c hc
theorem Own.new (w : World) (n : Nat) : Own (w.alloc (.cells (madeCells #[.int .u32 0] n) 53)) w.heap.size (List.replicate n 0) := by
  refine ⟨⟨_, heap_alloc_new w _, ?_⟩, sm_replicate n⟩
  have e : madeCells #[Value.int .u32 0] n = ((List.replicate n 0).map u32).toArray := by
    apply Array.ext
    · simp [madeCells]
    · intro i h1 h2
      simp [madeCells, u32, Nat.mod_one]
  rw [e]; simp
theorem made_eq (n : Nat) : madeCells #[Value.int .u32 0] n = ((List.replicate n 0).map u32).toArray := by
  apply Array.ext
  · simp [madeCells]
  · intro i h1 h2
    simp [madeCells, u32, Nat.mod_one]
theorem Own.newset (w : World) (n i x : Nat) (hx : x < 4294967296) : Own (w.alloc (.cells ((madeCells #[.int .u32 0] n).setIfInBounds i (.int .u32 (x : Int))) 53)) w.heap.size ((List.replicate n 0).set i x) := by
  refine ⟨⟨_, heap_alloc_new w _, ?_⟩, sm_set (sm_replicate n) i x hx⟩
  rw [made_eq, Array.toList_setIfInBounds, List.map_set]
  show ((((List.replicate n 0).map u32).set i (u32 x)).take _) = _
  rw [List.take_of_length_le (by simp)]
theorem Own.lit (w : World) (zs : List Nat) (h : Sm zs) : Own (w.alloc (.cells (zs.map u32).toArray 53)) w.heap.size zs :=
  ⟨⟨_, heap_alloc_new w _, by show (zs.map u32).take zs.length = _; rw [List.take_of_length_le (by simp)]⟩, h⟩
end

/-- What a function that returns one number leaves. -/
def RetN (N : Nat) (w : World) (e : Ending) (w' : World) : Prop := ∃ A n c, e = .returned (.slice A n c) ∧ Rd w' A n c (limbs N) ∧ Below w.heap.size w w'

/-- .. in new memory. -/
def RetO (N : Nat) (w : World) (e : Ending) (w' : World) : Prop := ∃ g n c, e = .returned (.slice (some ⟨g, 0, none⟩) n c) ∧ w.heap.size ≤ g ∧ Own w' g (limbs N) ∧ (limbs N).length = n ∧ n ≤ c ∧ Below w.heap.size w w'
theorem RetO.n {N : Nat} {w : World} {e : Ending} {w' : World} : RetO N w e w' → RetN N w e w' := by
  rintro ⟨g, n, c, he, _, hO, hn, hc, hb⟩
  exact ⟨_, n, c, he, hO.rdn hn hc, hb⟩

theorem info41 : (Tryd.prog.info? 53).map (fun i => (i.zero, i.size, i.bytes)) = some (some (.int .u32 0), 1, 4) := by kernel_rfl

/-- make([]uint32, n). -/
theorem make_u32 (n : Nat) (hn : n ≤ 1000000) (k1 k2 : IntKind) (w : World) :
    (Instr.makeSlice 22 (.int k1 (n : Int)) (.int k2 (n : Int))).run Tryd.prog w = .ok (.slice (some ⟨w.heap.size, 0, none⟩) n n) (w.alloc (.cells (madeCells #[.int .u32 0] n) 53)) :=
  run_make_row' 22 53 (.int .u32 0) 4 Tryd.underlying22 info41 rfl k1 k2 n (by omega) (by omega) w

/-- A slice that grows by append: the call's own. -/
structure Gr (w : World) (base : Nat) (v : Value) (xs : List Nat) : Prop where
  own : w.ownsRow base 53 1 v xs.length (xs.map u32)
  sm : Sm xs

section
variable {w w' : World} {base : Nat} {v : Value} {xs : List Nat}
theorem Gr.nil_ (w : World) (base : Nat) : Gr w base (.slice none 0 0) [] := ⟨World.ownsRow_nil _ _ _ _, sm_nil⟩
theorem Gr.made (w : World) : Gr (w.alloc (.cells #[] 53)) w.heap.size (.slice (some ⟨w.heap.size, 0, none⟩) 0 0) [] :=
  ⟨World.ownsRow_made w #[] 0 (Nat.le_refl _) (by unfold maxLen; omega) rfl, sm_nil⟩
theorem Gr.zeros (w : World) (n : Nat) (hn : n ≤ 100000) : Gr (w.alloc (.cells (madeCells #[.int .u32 0] n) 53)) w.heap.size (.slice (some ⟨w.heap.size, 0, none⟩) n n) (List.replicate n 0) := by
  refine ⟨⟨by simp, .inr ⟨w.heap.size, n, madeCells #[.int .u32 0] n, by simp, Nat.le_refl _, heap_alloc_new w _, by simp, by unfold maxLen; omega, by rw [made_eq]; simp, ?_⟩⟩, sm_replicate n⟩
  rw [made_eq]
  simp
theorem Gr.alloc (h : Gr w base v xs) (o : Obj) : Gr (w.alloc o) base v xs := ⟨h.own.alloc o, h.sm⟩
theorem Gr.form (h : Gr w base v xs) : ∃ A c, v = .slice A xs.length c ∧ Rd w A xs.length c xs ∧ (xs.length = 0 ∨ ∃ g, A = some ⟨g, 0, none⟩ ∧ base ≤ g ∧ Own w g xs) := by
  rcases h.own.2 with ⟨hv, hn⟩ | ⟨g, cap, cur, hv, hb, hh, hn, hm, hs, ht⟩
  · have : xs = [] := List.eq_nil_of_length_eq_zero hn
    subst this
    exact ⟨none, 0, hv, Rd.nil_ _ _ _, .inl rfl⟩
  · have O : Own w g xs := ⟨⟨cur, hh, by simpa using ht⟩, h.sm⟩
    exact ⟨_, _, hv, O.rdn rfl hn, .inr ⟨g, rfl, hb, O⟩⟩
end

theorem one_u32 (xs : List Nat) : ∀ u ∈ xs.map u32, u.oneCell' = true := by
  intro u hu
  obtain ⟨z, _, rfl⟩ := List.mem_map.1 hu
  rfl

theorem cells_rd {w : World} {ad : Addr} {m c : Nat} {ys : List Nat} (h : Rd w (some ad) m c ys) : ∀ j u, (ys.map u32)[j]? = some u → w.cell? (ad.add j) = some u := by
  intro j u hu
  have hj : j < ys.length := by
    rcases Nat.lt_or_ge j ys.length with h | h
    · exact h
    · rw [List.getElem?_eq_none (by simpa using h)] at hu; cases hu
  have hl := h.len
  rcases h.mem with h5 | ⟨b, o, h5, h6, h7⟩
  · omega
  · injection h5 with h5
    subst h5
    have e : (⟨b, o, none⟩ : Addr).add j = ⟨b, o + j, none⟩ := by
      unfold Addr.add; split
      · rename_i h; subst h; rfl
      · rfl
    rw [e, h7 j (by omega)]
    rw [List.getElem?_map, List.getElem?_eq_getElem hj] at hu
    simp only [Option.map_some, Option.some.injEq] at hu
    rw [← hu, List.getD_eq_getElem?_getD, List.getElem?_eq_getElem hj]
    rfl

/-- out = append(out, ys...) -/
theorem wpList_append_u32 (w : World) {ops : Array Oper} {rest : List Oper} {o : Oper} {a : Act} {Q : Exit → Act → World → Prop} (hgd : o.guard = none) (s x : Operand)
    (ho : o.op = .call { callee := .builtin .append, args := #[s, x], argTypes := #[22, 22] })
    (base : Nat) (v : Value) (xs : List Nat) (hs : a.eval s = v) (hown : Gr w base v xs)
    (ad : Addr) (m c : Nat) (ys : List Nat) (hx : a.eval x = .slice (some ad) m c) (hR : Rd w (some ad) m c ys)
    (hl : xs.length + m ≤ 100000) (hbase : base ≤ w.heap.size)
    (h : ∀ v' w', Gr w' base v' (xs ++ ys) → w.grownBy w' v.ownBlock → wpList Tryd.prog ops Q rest (a.put o.dst v') w') : wpList Tryd.prog ops Q (o :: rest) a w := by
  obtain ⟨i0, hi, hzz⟩ := Option.map_eq_some_iff.1 info41
  simp only [Prod.mk.injEq] at hzz
  obtain ⟨hz0, hz1, hz2⟩ := hzz
  refine wpList_append_own w hgd s x 22 ho base 53 i0 (.int .u32 0) 1 4 Tryd.underlying22 hi hz0 hz1 hz2 rfl (by decide) v xs.length (xs.map u32) hs hown.own ad m c (ys.map u32) hx (by rw [List.length_map, hR.len]; omega) (cells_rd hR) (one_u32 _) (by unfold maxLen; omega) (by omega) hbase ?_
  intro v' w' h2 h3 _
  refine h v' w' ⟨?_, ?_⟩ h3
  · rw [List.length_append, hR.len, List.map_append]; exact h2
  · intro z hz
    rcases List.mem_append.1 hz with hz | hz
    · exact hown.sm z hz
    · exact hR.sm z hz

/-- Two parts of a number, joined by |. -/
theorem or_limb (a x : Nat) (ha : a < 4294967296) (hx : x < 4294967296) : bits .or .u64 ((a : Int) * 4294967296) (x : Int) = ((a * 4294967296 + x : Nat) : Int) := by
  rw [show (a : Int) * 4294967296 = ((a * 4294967296 : Nat) : Int) by simp]
  rw [u64_or_nat (a * 4294967296) x (by omega) (by omega)]
  congr 1
  have := Nat.two_pow_add_eq_or_of_lt (i := 32) (b := x) (by omega) a
  rw [show (2:Nat) ^ 32 = 4294967296 from rfl, Nat.mul_comm] at this
  exact this.symm

end Go.Proofs.YtkdeajocogdmgaaDoor
