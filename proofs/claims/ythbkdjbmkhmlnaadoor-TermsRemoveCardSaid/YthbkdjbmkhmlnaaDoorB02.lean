/- Slices of whatever elements: how they are read, how they lie in blocks of a call's own, how they grow. -/
import Derived.Test.YthbkdjbmkhmlnaaDoorB01
import Derived.Deep.Upon
namespace Go.Proofs.YthbkdjbmkhmlnaaDoor
open Go.RowKit
set_option linter.unusedVariables false

abbrev GBk := Nat × Array Value × Nat
abbrev GRd := Option Addr × Nat × Nat × List Nat
/-- How an element lies in memory: its cells; what else is asked of a world (At), or of what a call knows (In). -/
structure Cod (α : Type) where
  sz : Nat
  cs : α → List Value
  At : World → α → Prop
  In : World → List GBk → List GRd → α → Prop
  pos : 0 < sz
  len : ∀ a, (cs a).length = sz
  noL : ∀ a, NoLl (cs a)
  one : ∀ a, ∀ v ∈ cs a, v.oneCell' = true
  bel : ∀ {W W' : World} {a : α}, At W a → Below W.heap.size W W' → At W' a
  mono : ∀ {w : World} {bs bs' : List GBk} {rs rs' : List GRd} {a : α}, In w bs rs a → (∀ p ∈ bs, p ∈ bs') → (∀ p ∈ rs, p ∈ rs') → In w bs' rs' a
  at_ : ∀ {w W : World} {bs : List GBk} {rs : List GRd} {a : α}, St w W bs rs → In w bs rs a → At W a
  old : ∀ {w : World} {a : α} (bs : List GBk) (rs : List GRd), At w a → In w bs rs a
/-- The cells of a list. -/
def Cod.all {α : Type} (C : Cod α) (L : List α) : List Value := L.flatMap C.cs
section
variable {α β : Type} {C : Cod α} {w W W' : World} {A : Option Addr} {n c e g t : Nat} {L : List α} {bs bs' : List GBk} {rs rs' : List GRd}
theorem all_len (C : Cod α) (L : List α) : (C.all L).length = L.length * C.sz := by
  induction L with
  | nil => simp [Cod.all]
  | cons x l ih =>
    have : C.all (x :: l) = C.cs x ++ C.all l := rfl
    rw [this, List.length_append, C.len, ih, List.length_cons, Nat.add_mul, Nat.one_mul, Nat.add_comm]
theorem all_app (C : Cod α) (L M : List α) : C.all (L ++ M) = C.all L ++ C.all M := List.flatMap_append
theorem all_noL (C : Cod α) (L : List α) : NoLl (C.all L) := by
  intro v hv
  obtain ⟨x, _, hx⟩ := List.mem_flatMap.1 hv
  exact C.noL x v hx
theorem all_one (C : Cod α) (x : α) : C.all [x] = C.cs x := by show C.cs x ++ [] = _; rw [List.append_nil]
theorem all_get {x : α} (C : Cod α) : ∀ {L : List α} {i : Nat}, L[i]? = some x → ∀ k v, (C.cs x)[k]? = some v → (C.all L)[i * C.sz + k]? = some v
  | [], _, h, _, _, _ => by simp at h
  | y :: l, 0, h, k, v, hv => by
    have : y = x := by simpa using h
    subst this
    have hk := (List.getElem?_eq_some_iff.1 hv).1
    show (C.cs y ++ C.all l)[0 * C.sz + k]? = _
    rw [Nat.zero_mul, Nat.zero_add, List.getElem?_append_left hk]; exact hv
  | y :: l, i + 1, h, k, v, hv => by
    have h : l[i]? = some x := by simpa using h
    show (C.cs y ++ C.all l)[(i + 1) * C.sz + k]? = _
    rw [List.getElem?_append_right (by rw [C.len, Nat.add_mul, Nat.one_mul]; omega), C.len, show (i + 1) * C.sz + k - C.sz = i * C.sz + k by rw [Nat.add_mul, Nat.one_mul]; omega]
    exact all_get C h k v hv
/-- A slice that reads as a list. -/
structure LR (C : Cod α) (W : World) (A : Option Addr) (n : Nat) (L : List α) : Prop where
  len : L.length = n
  mem : n = 0 ∨ ∃ b o, A = some ⟨b, o, none⟩ ∧ b < W.heap.size ∧ ∀ (i : Nat) (x : α), L[i]? = some x → ∀ k v, (C.cs x)[k]? = some v → W.cell? ⟨b, o + i * C.sz + k, none⟩ = some v
  el : ∀ x ∈ L, C.At W x
theorem LR.bel (h : LR C W A n L) (hb : Below W.heap.size W W') : LR C W' A n L := by
  refine ⟨h.len, ?_, fun x hx => C.bel (h.el x hx) hb⟩
  rcases h.mem with h0 | ⟨b, o, hA, hlt, hc⟩
  · exact .inl h0
  · exact .inr ⟨b, o, hA, Nat.lt_of_lt_of_le hlt hb.size, fun i x hi k v hv => (World.cell?_of_block (hb.block b hlt)).trans (hc i x hi k v hv)⟩
theorem LR.get (h : LR C W A n L) {i : Nat} (hi : i < n) : ∃ b o x, A = some ⟨b, o, none⟩ ∧ L[i]? = some x ∧ x ∈ L ∧ C.At W x ∧ ∀ k v, (C.cs x)[k]? = some v → W.cell? ⟨b, o + i * C.sz + k, none⟩ = some v := by
  have hl := h.len
  rcases h.mem with h0 | ⟨b, o, hA, _, hc⟩
  · omega
  · have e : L[i]? = some L[i] := List.getElem?_eq_getElem (by omega)
    have hm : L[i] ∈ L := List.getElem_mem _
    exact ⟨b, o, L[i], hA, e, hm, h.el _ hm, hc i _ e⟩
theorem LR.nil_ (C : Cod α) (W : World) (A : Option Addr) : LR C W A 0 [] := ⟨rfl, .inl rfl, fun x hx => by cases hx⟩
/-- A part of such a slice. -/
theorem LR.sub {b o m : Nat} (h : LR C W (some ⟨b, o, none⟩) n L) (hm : m ≤ n) : LR C W (some ⟨b, o + m * C.sz, none⟩) (n - m) (L.drop m) := by
  refine ⟨by rw [List.length_drop, h.len], ?_, fun x hx => h.el x (List.mem_of_mem_drop hx)⟩
  rcases h.mem with h0 | ⟨b', o', hA, hlt, hc⟩
  · exact .inl (by omega)
  · injection hA with hA; injection hA with h1 h2; subst h1; subst h2
    refine .inr ⟨b, o + m * C.sz, rfl, hlt, fun i x hi k v hv => ?_⟩
    rw [List.getElem?_drop] at hi
    have := hc (m + i) x hi k v hv
    rwa [Nat.add_mul, ← Nat.add_assoc] at this
theorem LR.take_ {m : Nat} (h : LR C W A n L) (hm : m ≤ n) : LR C W A m (L.take m) := by
  refine ⟨by rw [List.length_take, h.len]; omega, ?_, fun x hx => h.el x (List.mem_of_mem_take hx)⟩
  rcases h.mem with h0 | ⟨b, o, hA, hlt, hc⟩
  · exact .inl (by omega)
  · refine .inr ⟨b, o, hA, hlt, fun i x hi k v hv => hc i x ?_ k v hv⟩
    rw [List.getElem?_take] at hi
    split at hi
    · exact hi
    · cases hi
/-- A slice that lies where a call knows of it. -/
structure LI (C : Cod α) (w : World) (bs : List GBk) (rs : List GRd) (A : Option Addr) (n : Nat) (L : List α) : Prop where
  len : L.length = n
  mem : n = 0 ∨ (∃ b o, A = some ⟨b, o, none⟩ ∧ b < w.heap.size ∧ ∀ (i : Nat) (x : α), L[i]? = some x → ∀ k v, (C.cs x)[k]? = some v → w.cell? ⟨b, o + i * C.sz + k, none⟩ = some v) ∨
    ∃ (g : Nat) (cur : Array Value) (t : Nat), A = some ⟨g, 0, none⟩ ∧ (g, cur, t) ∈ bs ∧ ∀ (j : Nat) v, (C.all L)[j]? = some v → cur[j]? = some v
  el : ∀ x ∈ L, C.In w bs rs x
theorem LI.mono (h : LI C w bs rs A n L) (hb : ∀ p ∈ bs, p ∈ bs') (hr : ∀ p ∈ rs, p ∈ rs') : LI C w bs' rs' A n L := by
  refine ⟨h.len, ?_, fun x hx => C.mono (h.el x hx) hb hr⟩
  rcases h.mem with h0 | h1 | ⟨g, cur, t, h1, h2, h3⟩
  · exact .inl h0
  · exact .inr (.inl h1)
  · exact .inr (.inr ⟨g, cur, t, h1, hb _ h2, h3⟩)
theorem LI.lr (h : LI C w bs rs A n L) (S : St w W bs rs) : LR C W A n L := by
  refine ⟨h.len, ?_, fun x hx => C.at_ S (h.el x hx)⟩
  rcases h.mem with h0 | ⟨b, o, hA, hlt, hc⟩ | ⟨g, cur, t, h1, h2, h3⟩
  · exact .inl h0
  · exact .inr ⟨b, o, hA, Nat.lt_of_lt_of_le hlt S.bel.size, fun i x hi k v hv => (World.cell?_of_block (S.bel.block b hlt)).trans (hc i x hi k v hv)⟩
  · have hb := (S.bk _ h2).1
    refine .inr ⟨g, 0, h1, hb.lt, fun i x hi k v hv => ?_⟩
    rw [Nat.zero_add]
    exact hb.cell (h3 _ _ (all_get (i := i) C hi k v hv))
theorem LI.old (bs : List GBk) (rs : List GRd) (h : LR C w A n L) : LI C w bs rs A n L := by
  refine ⟨h.len, ?_, fun x hx => C.old bs rs (h.el x hx)⟩
  rcases h.mem with h0 | h1
  · exact .inl h0
  · exact .inr (.inl h1)
theorem LI.nil_ (C : Cod α) (w : World) (bs : List GBk) (rs : List GRd) (A : Option Addr) : LI C w bs rs A 0 [] := ⟨rfl, .inl rfl, fun x hx => by cases hx⟩
theorem LI.blk (hb : (g, (C.all L).toArray, t) ∈ bs) (hr : ∀ x ∈ L, C.In w bs rs x) : LI C w bs rs (some ⟨g, 0, none⟩) L.length L :=
  ⟨rfl, .inr (.inr ⟨g, _, t, rfl, hb, fun j v hv => by rw [List.getElem?_toArray]; exact hv⟩), hr⟩
/-- A slice as an element. -/
structure Sl (α : Type) where
  A : Option Addr
  c : Nat
  L : List α
def Sl.v {α : Type} (s : Sl α) : Value := .slice s.A s.L.length s.c
def slC (C : Cod α) : Cod (Sl α) where
  sz := 1
  cs s := [s.v]
  At W s := LR C W s.A s.L.length s.L ∧ s.L.length ≤ s.c
  In w bs rs s := LI C w bs rs s.A s.L.length s.L ∧ s.L.length ≤ s.c
  pos := by decide
  len _ := rfl
  noL s := fun v hv z e => by rw [List.mem_singleton.1 hv] at e; cases e
  one s := fun v hv => by rw [List.mem_singleton.1 hv]; rfl
  bel h hb := ⟨h.1.bel hb, h.2⟩
  mono h hb hr := ⟨h.1.mono hb hr, h.2⟩
  at_ S h := ⟨h.1.lr S, h.2⟩
  old bs rs h := ⟨LI.old bs rs h.1, h.2⟩
/-- Elements of one cell, without more. -/
def cellC (f : α → Value) (h1 : ∀ a z, f a ≠ .int .u32 z) (h2 : ∀ a, (f a).oneCell' = true) : Cod α where
  sz := 1
  cs a := [f a]
  At _ _ := True
  In _ _ _ _ := True
  pos := by decide
  len _ := rfl
  noL a := fun v hv z e => by rw [List.mem_singleton.1 hv] at e; exact h1 a z e
  one a := fun v hv => by rw [List.mem_singleton.1 hv]; exact h2 a
  bel _ _ := trivial
  mono _ _ _ := trivial
  at_ _ _ := trivial
  old _ _ _ := trivial
def boolC : Cod Bool := cellC Value.bool (fun _ _ e => by cases e) (fun _ => rfl)
def intC : Cod Int := cellC (Value.int .i64) (fun _ _ e => by cases e) (fun _ => rfl)
def strC : Cod ByteArray := cellC Value.string (fun _ _ e => by cases e) (fun _ => rfl)
/-- A slice of limbs. -/
structure Nl where
  A : Option Addr
  n : Nat
  c : Nat
  x : List Nat
def limC : Cod Nl where
  sz := 1
  cs s := [.slice s.A s.n s.c]
  At W s := Rd W s.A s.n s.c s.x
  In w bs rs s := (s.A, s.n, s.c, s.x) ∈ rs ∨ Rd w s.A s.n s.c s.x
  pos := by decide
  len _ := rfl
  noL s := fun v hv z e => by rw [List.mem_singleton.1 hv] at e; cases e
  one s := fun v hv => by rw [List.mem_singleton.1 hv]; rfl
  bel h hb := h.below hb
  mono h _ hr := h.imp (hr _) id
  at_ S h := h.elim (fun h => S.rd _ h) (fun h => h.below S.bel)
  old _ _ h := .inr h
/-- One behind the other. -/
def proC (C : Cod α) (D : Cod β) : Cod (α × β) where
  sz := C.sz + D.sz
  cs a := C.cs a.1 ++ D.cs a.2
  At W a := C.At W a.1 ∧ D.At W a.2
  In w bs rs a := C.In w bs rs a.1 ∧ D.In w bs rs a.2
  pos := Nat.add_pos_left C.pos _
  len a := by rw [List.length_append, C.len, D.len]
  noL a := (C.noL a.1).app (D.noL a.2)
  one a := fun v hv => (List.mem_append.1 hv).elim (C.one a.1 v) (D.one a.2 v)
  bel h hb := ⟨C.bel h.1 hb, D.bel h.2 hb⟩
  mono h hb hr := ⟨C.mono h.1 hb hr, D.mono h.2 hb hr⟩
  at_ S h := ⟨C.at_ S h.1, D.at_ S h.2⟩
  old bs rs h := ⟨C.old bs rs h.1, D.old bs rs h.2⟩
/-- Seen through a map. -/
def Cod.via (C : Cod β) (f : α → β) : Cod α where
  sz := C.sz
  cs a := C.cs (f a)
  At W a := C.At W (f a)
  In w bs rs a := C.In w bs rs (f a)
  pos := C.pos
  len a := C.len (f a)
  noL a := C.noL (f a)
  one a := C.one (f a)
  bel h hb := C.bel h hb
  mono h hb hr := C.mono h hb hr
  at_ S h := C.at_ S h
  old bs rs h := C.old bs rs h
/-- A number with a sign; a fraction, as they lie in memory. -/
structure Iw where
  b : Bool
  x : Nl
def iwC : Cod Iw := (proC boolC limC).via fun a => (a.b, a.x)
structure Rw where
  b : Bool
  x : Nl
  y : Nl
def rwC : Cod Rw := (proC boolC (proC limC limC)).via fun a => (a.b, a.x, a.y)
def Rw.vs (r : Rw) : Array Value := #[.bool r.b, .slice r.x.A r.x.n r.x.c, .slice r.y.A r.y.n r.y.c]
theorem rw_cs (r : Rw) : rwC.cs r = [.bool r.b, .slice r.x.A r.x.n r.x.c, .slice r.y.A r.y.n r.y.c] := rfl
end
section
variable {α : Type} {C : Cod α} {w W W' : World} {A : Option Addr} {n c e g t : Nat} {L : List α} {bs bs' : List GBk} {rs rs' : List GRd} {v : Value}
/-- A slice of the call's own that reads as a list, and may grow. -/
def Gro (C : Cod α) (w W : World) (bs : List GBk) (rs : List GRd) (e : Nat) (v : Value) (L : List α) : Prop :=
  Apd w W bs rs e C.sz v L.length (C.all L) ∧ ∀ x ∈ L, C.In w bs rs x
theorem Gro.nil_ (C : Cod α) (S : St w W bs rs) (e : Nat) : Gro C w W bs rs e (.slice none 0 0) [] := ⟨Apd.nil_ S e _, fun x hx => by cases hx⟩
theorem Gro.st (h : Gro C w W bs rs e v L) : St w W bs rs := h.1.st
/-- What is known of it when it has been made: its block is one of those at hand. -/
theorem Gro.done (h : Gro C w W bs rs e v L) : ∃ A c bs', v = .slice A L.length c ∧ St w W bs' rs ∧ (∀ p ∈ bs, p ∈ bs') ∧ LI C w bs' rs A L.length L := by
  obtain ⟨⟨h1, h2, ⟨rfl, h3, S⟩ | ⟨g, cap, cur, rfl, h3, h4, h5, h6, S⟩⟩, hx⟩ := h
  · have : L = [] := List.length_eq_zero_iff.1 h3
    subst this
    exact ⟨none, 0, bs, rfl, S, fun _ h => h, LI.nil_ _ _ _ _ _⟩
  · refine ⟨_, _, _, rfl, S, fun _ h => List.mem_cons_of_mem _ h, rfl, .inr (.inr ⟨g, cur, e, rfl, List.mem_cons_self, fun j u hu => ?_⟩), fun x hxm => C.mono (hx x hxm) (fun _ h => List.mem_cons_of_mem _ h) (fun _ h => h)⟩
    rw [← h6, List.getElem?_take] at hu
    split at hu
    · simpa using hu
    · cases hu
theorem Gro.lr (h : Gro C w W bs rs e v L) : ∃ A c, v = .slice A L.length c ∧ LR C W A L.length L := by
  obtain ⟨A, c, bs', hv, S, _, hl⟩ := h.done
  exact ⟨A, c, hv, hl.lr S⟩
theorem Gro.call (h : Gro C w W bs rs e v L) (hb : Below W.heap.size W W') : Gro C w W' bs rs e v L := ⟨h.1.call hb, h.2⟩
theorem Gro.drew (h : Gro C w W bs rs e v L) : Gro C w W.drew bs rs e v L := ⟨h.1.drew, h.2⟩
theorem Gro.read {A : Option Addr} {n c : Nat} {ys : List Nat} (h : Gro C w W bs rs e v L) (R : Rd W A n c ys) : Gro C w W bs ((A, n, c, ys) :: rs) e v L := ⟨h.1.read R, fun x hx => C.mono (h.2 x hx) (fun _ h => h) (fun _ h => List.mem_cons_of_mem _ h)⟩
theorem Gro.alloc (h : Gro C w W bs rs e v L) (cs : Array Value) (t : Nat) (hn : NoL cs) : Gro C w (W.alloc (.cells cs t)) ((W.heap.size, cs, t) :: bs) rs e v L := ⟨h.1.alloc cs t hn, fun x hx => C.mono (h.2 x hx) (fun _ h => List.mem_cons_of_mem _ h) (fun _ h => h)⟩
theorem Gro.sub {p : GBk} (h : Gro C w W (p :: bs) rs e v L) (hx : ∀ x ∈ L, C.In w bs rs x) : Gro C w W bs rs e v L := ⟨h.1.sub, hx⟩
/-- v = append(v, x) where the walk stands: the element lies in a block of its own. -/
theorem Gro.wp {P : Program} {ops : Array Oper} {rest : List Oper} {o : Oper} {a : Act} {Q : Exit → Act → World → Prop} (hgd : o.guard = none) (s x : Operand) (ty : TypeId)
    (ho : o.op = .call { callee := .builtin .append, args := #[s, x], argTypes := #[ty, ty] })
    (z : Value) (bytes : Nat) (ht : P.underlying ty = some (.slice e)) (hi : (P.info? e).map (fun i => (i.zero, i.size, i.bytes)) = some (some z, C.sz, bytes))
    (hzs : z.cells.size = C.sz) (hzn : NoLl z.cells.toList) (hs : a.eval s = v) (h : Gro C w W bs rs e v L)
    (g : Nat) (y : α) {t : Nat} (hx : a.eval x = .slice (some ⟨g, 0, none⟩) 1 1) (hc : Cb W g (C.cs y).toArray t) (hy : C.In w bs rs y)
    (hn : (L.length + 1) * bytes ≤ 140737488355328) (h63 : L.length + 1 ≤ maxLen)
    (hk : ∀ v' W', Gro C w W' bs rs e v' (L ++ [y]) → wpList P ops Q rest (a.put o.dst v') W') : wpList P ops Q (o :: rest) a W := by
  obtain ⟨i0, hi0, hzz⟩ := Option.map_eq_some_iff.1 hi
  simp only [Prod.mk.injEq] at hzz
  obtain ⟨hz0, hz1, hz2⟩ := hzz
  refine Apd.wp hgd s x ty ho i0 z bytes ht hi0 hz0 hz1 hz2 hzs hzn hs h.1 ⟨g, 0, none⟩ 1 1 (C.cs y) hx (by rw [C.len, Nat.one_mul]) ?_ (C.one y) (C.noL y) (by decide) h63 hn fun v' W' hA => hk v' W' ⟨?_, fun x hx => ?_⟩
  · intro j u hu
    have hadd : (⟨g, 0, none⟩ : Addr).add j = ⟨g, j, none⟩ := by unfold Addr.add; split <;> simp_all
    rw [hadd]
    exact hc.cell (by rw [List.getElem?_toArray]; exact hu)
  · rw [all_app, all_one, List.length_append]; exact hA
  · rcases List.mem_append.1 hx with hx | hx
    · exact h.2 x hx
    · rw [List.mem_singleton.1 hx]; exact hy
/-- A block that holds a list: what is laid of its place i; its cells after a store of an element. -/
theorem St_gcl (h : St w W ((g, (C.all L).toArray, t) :: bs) rs) {i : Nat} {x : α} (hi : L[i]? = some x) : (∀ k v, (C.cs x)[k]? = some v → W.cell? ⟨g, i * C.sz + k, none⟩ = some v) ∧ ∀ j, W.frozen? ⟨g, j, none⟩ = false := by
  have hb := (h.bk _ List.mem_cons_self).1
  exact ⟨fun k v hv => hb.cell (by rw [List.getElem?_toArray]; exact all_get (i := i) C hi k v hv), fun j => hb.frozen j⟩
theorem all_inv (C : Cod α) : ∀ {L : List α} {j : Nat} {u : Value}, (C.all L)[j]? = some u → ∃ i x k, L[i]? = some x ∧ (C.cs x)[k]? = some u ∧ j = i * C.sz + k
  | [], j, u, h => by simp [Cod.all] at h
  | y :: l, j, u, h => by
    have h : (C.cs y ++ C.all l)[j]? = some u := h
    rcases Nat.lt_or_ge j C.sz with hj | hj
    · rw [List.getElem?_append_left (by rw [C.len]; exact hj)] at h
      exact ⟨0, y, j, rfl, h, by omega⟩
    · rw [List.getElem?_append_right (by rw [C.len]; exact hj), C.len] at h
      obtain ⟨i, x, k, h1, h2, h3⟩ := all_inv C h
      exact ⟨i + 1, x, k, by simpa using h1, h2, by rw [Nat.add_mul, Nat.one_mul]; omega⟩
/-- v = append(v, l..) where the walk stands: l reads as a list. -/
theorem Gro.wpm {P : Program} {ops : Array Oper} {rest : List Oper} {o : Oper} {a : Act} {Q : Exit → Act → World → Prop} (hgd : o.guard = none) (s x : Operand) (ty : TypeId)
    (ho : o.op = .call { callee := .builtin .append, args := #[s, x], argTypes := #[ty, ty] })
    (z : Value) (bytes : Nat) (ht : P.underlying ty = some (.slice e)) (hi : (P.info? e).map (fun i => (i.zero, i.size, i.bytes)) = some (some z, C.sz, bytes))
    (hzs : z.cells.size = C.sz) (hzn : NoLl z.cells.toList) (hs : a.eval s = v) (h : Gro C w W bs rs e v L)
    (M : List α) (B : Option Addr) (c' : Nat) (hx : a.eval x = .slice B M.length c') (hM : LR C W B M.length M) (hMi : ∀ y ∈ M, C.In w bs rs y)
    (hn : (L.length + M.length) * bytes ≤ 140737488355328) (h63 : L.length + M.length ≤ maxLen)
    (hk : ∀ v' W', Gro C w W' bs rs e v' (L ++ M) → wpList P ops Q rest (a.put o.dst v') W') : wpList P ops Q (o :: rest) a W := by
  obtain ⟨i0, hi0, hzz⟩ := Option.map_eq_some_iff.1 hi
  simp only [Prod.mk.injEq] at hzz
  obtain ⟨hz0, hz1, hz2⟩ := hzz
  rcases Nat.eq_zero_or_pos M.length with h0 | h0
  · have hM0 : M = [] := List.length_eq_zero_iff.1 h0
    subst hM0
    have hx : a.eval x = .slice B 0 c' := hx
    obtain ⟨A, n, cp, hv, hle⟩ : ∃ A n cp, v = .slice A n cp ∧ n ≤ cp := by
      obtain ⟨⟨_, _, ⟨hv, _, _⟩ | ⟨g, cap, cur, hv, hh, _⟩⟩, _⟩ := h
      · exact ⟨_, _, _, hv, Nat.le_refl _⟩
      · exact ⟨_, _, _, hv, hh⟩
    have hr : (Builtin.append_ #[ty, ty] o.type #[v, .slice B 0 c']).run P W = .ok v W := by
      rw [hv]
      refine run_append_nothing W ty ty o.type e i0 ht hi0 A n cp hle _ ⟨.inl ⟨e, ht⟩, fun w' => rfl, ?_, ?_, by simp, by simp⟩ <;> cases B <;> simp [Builtin.firstCells, loadCells, loadCellsFrom]
    refine wpList_plain hgd fun _ hK => ?_
    unfold Oper.wp
    simp [execOp, ho, resolve, invoke, builtin, hs, hx, hr, Result.andThen]
    exact hK _ _ (hk v W (by rw [List.append_nil]; exact h))
  · rcases hM.mem with hm | ⟨b, q, hB, hlt, hc⟩
    · omega
    · subst hB
      refine Apd.wp hgd s x ty ho i0 z bytes ht hi0 hz0 hz1 hz2 hzs hzn hs h.1 ⟨b, q, none⟩ M.length c' (C.all M) hx (all_len C M) ?_ ?_ (all_noL C M) h0 h63 hn fun v' W' hA => hk v' W' ⟨?_, fun y hy => ?_⟩
      · intro j u hu
        obtain ⟨i, y, k, h1, h2, h3⟩ := all_inv C hu
        have hadd : (⟨b, q, none⟩ : Addr).add j = ⟨b, q + i * C.sz + k, none⟩ := by unfold Addr.add; split <;> simp_all <;> omega
        rw [hadd]
        exact hc i y h1 k u h2
      · intro u hu
        obtain ⟨y, _, hy⟩ := List.mem_flatMap.1 hu
        exact C.one y u hy
      · rw [all_app, List.length_append]; exact hA
      · rcases List.mem_append.1 hy with hy | hy
        · exact h.2 y hy
        · exact hMi y hy
/-- Cells, one behind the other, in a row and in a world. -/
def rset (cs : Array Value) (o : Nat) : Nat → List Value → Array Value
  | _, [] => cs
  | k, v :: vs => rset (cs.setIfInBounds (o + k) v) o (k + 1) vs
def wset (W : World) (g o : Nat) : Nat → List Value → World
  | _, [] => W
  | k, v :: vs => wset (W.setCell ⟨g, o + k, none⟩ v) g o (k + 1) vs
theorem St_wset {cs : Array Value} (g o : Nat) : ∀ (vs : List Value) (k : Nat) {W : World} {cs : Array Value}, NoLl vs → St w W ((g, cs, t) :: bs) rs → St w (wset W g o k vs) ((g, rset cs o k vs, t) :: bs) rs
  | [], _, _, _, _, h => h
  | v :: vs, k, W, cs, hn, h => St_wset (cs := cs) g o vs (k + 1) (fun u hu => hn u (List.mem_cons_of_mem _ hu)) (h.set 0 (o + k) v rfl (hn v List.mem_cons_self))
theorem rset_list (o : Nat) : ∀ (vs : List Value) (k : Nat) (xs : List Value), o + k + vs.length ≤ xs.length → (rset xs.toArray o k vs) = (xs.take (o + k) ++ vs ++ xs.drop (o + k + vs.length)).toArray
  | [], k, xs, h => by simp [rset]
  | v :: vs, k, xs, h => by
    rw [List.length_cons] at h
    have e : (xs.toArray.setIfInBounds (o + k) v) = (xs.set (o + k) v).toArray := by simp
    rw [rset, e, rset_list o vs (k + 1) _ (by rw [List.length_set]; omega)]
    congr 1
    have hlt : o + k < xs.length := by omega
    rw [List.set_eq_take_append_cons_drop, if_pos hlt]
    have hl : (xs.take (o + k)).length = o + k := by rw [List.length_take]; omega
    have e2 : (xs.take (o + k) ++ v :: xs.drop (o + k + 1)).take (o + (k + 1)) = xs.take (o + k) ++ [v] := by
      rw [List.take_append, List.take_of_length_le (by omega), hl, show o + (k + 1) - (o + k) = 1 by omega]; rfl
    have e3 : (xs.take (o + k) ++ v :: xs.drop (o + k + 1)).drop (o + (k + 1) + vs.length) = xs.drop (o + k + (v :: vs).length) := by
      rw [List.drop_append, List.drop_eq_nil_of_le (by omega), List.nil_append, hl, show o + (k + 1) + vs.length - (o + k) = vs.length + 1 by omega, List.drop_succ_cons, List.drop_drop, List.length_cons]
      congr 1; omega
    rw [e2, e3]
    simp
theorem all_set (C : Cod α) : ∀ {L : List α} {i : Nat} (x : α), i < L.length → C.all (L.set i x) = (C.all L).take (i * C.sz) ++ C.cs x ++ (C.all L).drop (i * C.sz + C.sz)
  | [], _, _, h => by simp at h
  | y :: l, 0, x, _ => by
    show C.cs x ++ C.all l = (C.cs y ++ C.all l).take (0 * C.sz) ++ C.cs x ++ (C.cs y ++ C.all l).drop (0 * C.sz + C.sz)
    rw [Nat.zero_mul, Nat.zero_add, List.take_zero, List.nil_append, List.drop_append, List.drop_eq_nil_of_le (by rw [C.len]; exact Nat.le_refl _), C.len, Nat.sub_self]; rfl
  | y :: l, i + 1, x, h => by
    have ih := all_set C (L := l) (i := i) x (by simpa using h)
    show C.cs y ++ C.all (l.set i x) = (C.cs y ++ C.all l).take ((i + 1) * C.sz) ++ C.cs x ++ (C.cs y ++ C.all l).drop ((i + 1) * C.sz + C.sz)
    have e : (i + 1) * C.sz = C.sz + i * C.sz := by rw [Nat.add_mul, Nat.one_mul, Nat.add_comm]
    rw [ih, e, List.take_append, List.drop_append, C.len, List.take_of_length_le (l := C.cs y) (by rw [C.len]; omega), show (C.cs y).drop (C.sz + i * C.sz + C.sz) = [] from List.drop_eq_nil_of_le (by rw [C.len]; omega), List.nil_append]
    rw [show C.sz + i * C.sz - C.sz = i * C.sz by omega, show C.sz + i * C.sz + C.sz - C.sz = i * C.sz + C.sz by omega]
    simp
/-- An element is stored at place i of a block that holds a list. -/
theorem St_gset (h : St w W ((g, (C.all L).toArray, t) :: bs) rs) {i : Nat} (x : α) (hi : i < L.length) : St w (wset W g (i * C.sz) 0 (C.cs x)) ((g, (C.all (L.set i x)).toArray, t) :: bs) rs := by
  have h1 := St_wset (cs := (C.all L).toArray) g (i * C.sz) (C.cs x) 0 (C.noL x) h
  have hle : i * C.sz + C.sz ≤ L.length * C.sz := by
    have := Nat.mul_le_mul_right C.sz (show i + 1 ≤ L.length by omega)
    rwa [Nat.add_mul, Nat.one_mul] at this
  rw [rset_list (i * C.sz) (C.cs x) 0 (C.all L) (by rw [all_len, C.len]; omega)] at h1
  rw [all_set C x hi]
  rw [Nat.add_zero, C.len] at h1
  exact h1
/-- What make leaves, as a list of one element. -/
theorem all_rep (C : Cod α) (x : α) (n : Nat) : madeCells (C.cs x).toArray (n * C.sz) = (C.all (List.replicate n x)).toArray := by
  apply Array.ext'
  apply List.ext_getElem?
  intro j
  have hp := C.pos
  rcases Nat.lt_or_ge j (n * C.sz) with hj | hj
  · have h3 := Nat.div_add_mod j C.sz
    have hm := Nat.mod_lt j hp
    have hi : j / C.sz < n := (Nat.div_lt_iff_lt_mul hp).2 hj
    have hk : j % C.sz < (C.cs x).length := by rw [C.len]; exact hm
    have := all_get (L := List.replicate n x) (i := j / C.sz) C (by rw [List.getElem?_replicate, if_pos hi]) (j % C.sz) _ (List.getElem?_eq_getElem hk)
    rw [List.toList_toArray]
    rw [show j / C.sz * C.sz + j % C.sz = j by rw [Nat.mul_comm]; exact h3] at this
    rw [this]
    unfold madeCells
    simp only [Array.toList_map, Array.toList_range, List.getElem?_map, List.size_toArray, C.len]
    rw [List.getElem?_range hj]
    simp [List.getElem?_eq_getElem hk]
  · rw [List.getElem?_eq_none (by simpa [size_madeCells] using hj), List.getElem?_eq_none (by rw [List.toList_toArray, all_len, List.length_replicate]; exact hj)]
end
end Go.Proofs.YthbkdjbmkhmlnaaDoor
