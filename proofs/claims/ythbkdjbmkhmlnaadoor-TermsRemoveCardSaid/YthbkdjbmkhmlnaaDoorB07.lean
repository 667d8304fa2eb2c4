/- Appends that leave maps alone; lists of nodes and of numbers that grow. -/
import Derived.Test.YthbkdjbmkhmlnaaDoorB06
namespace Go.Proofs.YthbkdjbmkhmlnaaDoor
open Go.RowKit
set_option linter.unusedVariables false

/-- All that holds no cells (maps, loops' records) stays what it is. -/
def MK (W W' : World) : Prop := ∀ (m : Nat) (o : Obj), (∀ cs t f, o ≠ .cells cs t f) → W.heap[m]? = some o → W'.heap[m]? = some o
section
variable {W W' W'' : World}
theorem MK.refl (W : World) : MK W W := fun _ _ _ h => h
theorem MK.trans (h : MK W W') (h' : MK W' W'') : MK W W'' := fun m o c k => h' m o c (h m o c k)
theorem MK.bel (h : MK W W') (hb : Below W'.heap.size W' W'') : MK W W'' := fun m o c k => by
  have h1 := h m o c k
  rw [hb.block m (Array.getElem?_eq_some_iff.1 h1).1]; exact h1
theorem MK.drew (h : MK W W') : MK W W'.drew := h
theorem MK.alloc (h : MK W W') (o : Obj) : MK W (W'.alloc o) := h.bel ((Below.refl _ _).alloc (Nat.le_refl _) o)
theorem MK.set (h : MK W W') {g t : Nat} {cs : Array Value} (hb : Cb W' g cs t) (i : Nat) (v : Value) : MK W (W'.setCell ⟨g, i, none⟩ v) := fun m o c k => by
  have h1 := h m o c k
  by_cases e : m = g
  · subst e; rw [hb] at h1; cases h1; exact absurd rfl (c _ _ _)
  · rw [Below.heap_setCell _ _ _ _ e]; exact h1
theorem MK.row {g t : Nat} {cs : Array Value} (hb : Cb W g cs t) (cs' : Array Value) : MK W (W.setRow g cs') := fun m o c k => by
  by_cases e : m = g
  · subst e; rw [hb] at k; cases k; exact absurd rfl (c _ _ _)
  · rw [setRow_other W g m cs' e]; exact k
end
section
variable {P : Program} {w W : World} {bs : List (Nat × Array Value × Nat)} {rs : List (Option Addr × Nat × Nat × List Nat)} {e size : Nat} {v : Value} {n : Nat} {xs : List Value}
theorem Apd.run2 (t ty : TypeId) (i : TypeInfo) (z : Value) (bytes : Nat) (ht : P.underlying t = some (.slice e)) (hi : P.info? e = some i) (hz : i.zero = some z)
    (hsize : i.size = size) (hby : i.bytes = bytes) (hzs : z.cells.size = size) (hzn : NoLl z.cells.toList)
    (h : Apd w W bs rs e size v n xs) (a : Addr) (m c : Nat) (news : List Value) (hl : news.length = m * size) (hnews : ∀ j u, news[j]? = some u → W.cell? (a.add j) = some u) (h1 : ∀ u ∈ news, u.oneCell' = true) (hnn : NoLl news) (hm : 0 < m)
    (h63 : n + m ≤ maxLen) (hbytes : (n + m) * bytes ≤ 140737488355328) :
    ∃ v' W', (Builtin.append_ #[t, t] ty #[v, .slice (some a) m c]).run P W = .ok v' W' ∧ Apd w W' bs rs e size v' (n + m) (xs ++ news) ∧ MK W W' := by
  subst hsize
  subst hby
  have hsmall : n + m ≤ 9223372036854775807 := by simp only [maxLen] at h63; omega
  obtain ⟨hx, hxn, h⟩ := h
  have hlen : (xs ++ news).length = (n + m) * i.size := by rw [List.length_append, hx, hl, Nat.add_mul]
  have hall := hxn.app hnn
  have made : ∀ (old : Nat) (bs' : List (Nat × Array Value × Nat)), St w W bs' rs → ∀ bs, (∀ W' p, St w W' (p :: bs') rs → St w W' (p :: bs) rs) → old < n + m →
      Apd w (W.drew.alloc (.cells (xs.toArray ++ news.toArray ++ Builtin.zeroCells z.cells (grownCap W (n + m) old e - (n + m))) e)) bs rs e i.size (.slice (some ⟨W.heap.size, 0, none⟩) (n + m) (grownCap W (n + m) old e)) (n + m) (xs ++ news) := by
    intro old bs' S bs hbs ho
    have hge := grownCap_ge W (n + m) old e
    have hcm := grownCap_le_maxLen W (n + m) old e h63
    have hno : NoL (xs.toArray ++ news.toArray ++ Builtin.zeroCells z.cells (grownCap W (n + m) old e - (n + m))) := by
      have := (hall.app (NoLl.zeros hzn (grownCap W (n + m) old e - (n + m)))).arr
      rwa [show ((xs ++ news) ++ (Builtin.zeroCells z.cells (grownCap W (n + m) old e - (n + m))).toList).toArray = xs.toArray ++ news.toArray ++ Builtin.zeroCells z.cells (grownCap W (n + m) old e - (n + m)) from Array.ext' (by simp)] at this
    refine ⟨hlen, hall, .inr ⟨W.heap.size, _, _, rfl, hge, hcm, ?_, ?_, hbs _ _ (S.drew.alloc _ e hno)⟩⟩
    · simp only [Array.size_append, List.size_toArray, size_zeroCells, hzs, hx, hl, ← Nat.add_mul]
      congr 1
      omega
    · simp only [Array.toList_append, List.append_assoc]
      rw [← List.append_assoc, ← hlen]
      exact List.take_left
  rcases h with ⟨rfl, rfl, S⟩ | ⟨g, cap, cur, rfl, hnc, hcm, hcs, htake, S⟩
  · have hx0 : xs = [] := List.eq_nil_of_length_eq_zero (by simpa using hx)
    subst hx0
    have hr := run_append_nil (P := P) W t ty e i z ht hi hz a m c news hl hnews hm (by omega) (by have hb := hbytes; simp only [Nat.zero_add] at hb; omega)
    have hgr := made 0 bs S bs (fun _ _ h => h) (by omega)
    simp only [Nat.zero_add, List.nil_append, Array.empty_append] at hgr ⊢
    exact ⟨_, _, hr, hgr, (MK.refl W).drew.alloc _⟩
  · have hb := (S.bk _ List.mem_cons_self).1
    by_cases hroom : n + m ≤ cap
    · have hfit : n * i.size + news.length ≤ cur.size := by rw [hl, hcs, ← Nat.add_mul]; exact Nat.mul_le_mul_right _ hroom
      have hr := run_append_room (P := P) W t ty e i ht hi g n cap cur hb a m c news hl hnews h1 hroom hfit
      have hcn := (S.bk _ List.mem_cons_self).2.1
      refine ⟨_, _, hr, ⟨hlen, hall, .inr ⟨g, cap, _, rfl, hroom, hcm, ?_, ?_, S.setRow (((hcn.lst.take _).app hnn).app (hcn.lst.drop _)).arr⟩⟩, MK.row hb _⟩
      · simp only [List.size_toArray, List.length_append, List.length_take, List.length_drop, Array.length_toList]
        omega
      · rw [htake, ← hlen]
        exact List.take_left
    · have holds : ∀ j u, xs[j]? = some u → W.cell? ((⟨g, 0, none⟩ : Addr).add j) = some u := by
        intro j u hu
        have hadd : (⟨g, 0, none⟩ : Addr).add j = ⟨g, j, none⟩ := by unfold Addr.add; split <;> simp_all
        rw [hadd]
        refine hb.cell ?_
        rw [← htake, List.getElem?_take] at hu
        split at hu
        · simpa using hu
        · cases hu
      have hr := run_append_grow (P := P) W t ty e i z ht hi hz ⟨g, 0, none⟩ n cap xs hx holds a m c news hl hnews (by omega) (by omega) (growslice_fits (by omega) hbytes)
      exact ⟨_, _, hr, made cap _ S bs (fun W' p h => h.swap.sub) (by omega), (MK.refl W).drew.alloc _⟩

end
section
variable {α : Type} {C : Cod α} {w W W' : World} {e : Nat} {L : List α} {bs : List GBk} {rs : List GRd} {v : Value}
/-- v = append(v, x), as it runs: the element lies in a block of its own. -/
theorem Gro.run2 {P : Program} (ty rt : TypeId) (z : Value) (bytes : Nat) (ht : P.underlying ty = some (.slice e)) (hi : (P.info? e).map (fun i => (i.zero, i.size, i.bytes)) = some (some z, C.sz, bytes))
    (hzs : z.cells.size = C.sz) (hzn : NoLl z.cells.toList) (h : Gro C w W bs rs e v L)
    (g : Nat) (y : α) {t : Nat} (hc : Cb W g (C.cs y).toArray t) (hy : C.In w bs rs y) (hn : (L.length + 1) * bytes ≤ 140737488355328) (h63 : L.length + 1 ≤ maxLen) :
    ∃ v' W', (Builtin.append_ #[ty, ty] rt #[v, .slice (some ⟨g, 0, none⟩) 1 1]).run P W = .ok v' W' ∧ Gro C w W' bs rs e v' (L ++ [y]) ∧ MK W W' := by
  obtain ⟨i0, hi0, hzz⟩ := Option.map_eq_some_iff.1 hi
  simp only [Prod.mk.injEq] at hzz
  obtain ⟨hz0, hz1, hz2⟩ := hzz
  obtain ⟨v', W', hr, hA, hm⟩ := Apd.run2 (P := P) ty rt i0 z bytes ht hi0 hz0 hz1 hz2 hzs hzn h.1 ⟨g, 0, none⟩ 1 1 (C.cs y) (by rw [C.len, Nat.one_mul]) (by
    intro j u hu
    have hadd : (⟨g, 0, none⟩ : Addr).add j = ⟨g, j, none⟩ := by unfold Addr.add; split <;> simp_all
    rw [hadd]
    exact hc.cell (by rw [List.getElem?_toArray]; exact hu)) (C.one y) (C.noL y) (by decide) h63 hn
  refine ⟨v', W', hr, ⟨?_, fun x hx => ?_⟩, hm⟩
  · rw [all_app, all_one, List.length_append]; exact hA
  · rcases List.mem_append.1 hx with hx | hx
    · exact h.2 x hx
    · rw [List.mem_singleton.1 hx]; exact hy
/-- .. in a region whose order is open. -/
theorem Gro.op {P : Program} {o : Oper} {a : Act} {K' : Act → World → Prop} {Q : Exit → Act → World → Prop} (s x : Operand) (ty : TypeId)
    (ho : o.op = .call { callee := .builtin .append, args := #[s, x], argTypes := #[ty, ty] })
    (z : Value) (bytes : Nat) (ht : P.underlying ty = some (.slice e)) (hi : (P.info? e).map (fun i => (i.zero, i.size, i.bytes)) = some (some z, C.sz, bytes))
    (hzs : z.cells.size = C.sz) (hzn : NoLl z.cells.toList) (hs : a.eval s = v) (h : Gro C w W bs rs e v L)
    (g : Nat) (y : α) {t : Nat} (hx : a.eval x = .slice (some ⟨g, 0, none⟩) 1 1) (hc : Cb W g (C.cs y).toArray t) (hy : C.In w bs rs y) (hn : (L.length + 1) * bytes ≤ 140737488355328) (h63 : L.length + 1 ≤ maxLen)
    (hk : ∀ v' W', Gro C w W' bs rs e v' (L ++ [y]) → MK W W' → K' (a.put o.dst v') W') : Oper.wp P o a W K' Q := by
  obtain ⟨v', W', hr, h2, h3⟩ := Gro.run2 (P := P) ty o.type z bytes ht hi hzs hzn h g y hc hy hn h63
  unfold Oper.wp execOp
  simp only [ho, resolve, invoke, builtin, Sem.run_bind, Sem.run_pure, Result.andThen_ok, List.map_toArray, List.map_cons, List.map_nil, hs, hx, hr]
  exact hk v' W' h2 h3
/-- .. where the walk stands. -/
theorem Gro.wp2 {P : Program} {ops : Array Oper} {rest : List Oper} {o : Oper} {a : Act} {Q : Exit → Act → World → Prop} (hgd : o.guard = none) (s x : Operand) (ty : TypeId)
    (ho : o.op = .call { callee := .builtin .append, args := #[s, x], argTypes := #[ty, ty] })
    (z : Value) (bytes : Nat) (ht : P.underlying ty = some (.slice e)) (hi : (P.info? e).map (fun i => (i.zero, i.size, i.bytes)) = some (some z, C.sz, bytes))
    (hzs : z.cells.size = C.sz) (hzn : NoLl z.cells.toList) (hs : a.eval s = v) (h : Gro C w W bs rs e v L)
    (g : Nat) (y : α) {t : Nat} (hx : a.eval x = .slice (some ⟨g, 0, none⟩) 1 1) (hc : Cb W g (C.cs y).toArray t) (hy : C.In w bs rs y) (hn : (L.length + 1) * bytes ≤ 140737488355328) (h63 : L.length + 1 ≤ maxLen)
    (hk : ∀ v' W', Gro C w W' bs rs e v' (L ++ [y]) → MK W W' → wpList P ops Q rest (a.put o.dst v') W') : wpList P ops Q (o :: rest) a W :=
  wpList_plain hgd fun _ hK => Gro.op s x ty ho z bytes ht hi hzs hzn hs h g y hx hc hy hn h63 fun v' W' h1 h2 => hK _ _ (hk v' W' h1 h2)
theorem all_set1 (C : Cod α) : ∀ {L : List α} {i k : Nat} {x x' : α} {u : Value}, L[i]? = some x → k < C.sz → C.cs x' = (C.cs x).set k u → (C.all L).set (i * C.sz + k) u = C.all (L.set i x')
  | [], _, _, _, _, _, h, _, _ => by simp at h
  | y :: l, 0, k, x, x', u, h, hk, hu => by
    obtain rfl : y = x := by simpa using h
    show (C.cs y ++ C.all l).set (0 * C.sz + k) u = C.cs x' ++ C.all l
    rw [Nat.zero_mul, Nat.zero_add, hu, List.set_append_left _ _ (by rw [C.len]; exact hk)]
  | y :: l, i + 1, k, x, x', u, h, hk, hu => by
    have ih := all_set1 C (L := l) (i := i) (k := k) (x := x) (x' := x') (u := u) (by simpa using h) hk hu
    show (C.cs y ++ C.all l).set ((i + 1) * C.sz + k) u = C.cs y ++ C.all (l.set i x')
    have e : (i + 1) * C.sz + k = C.sz + (i * C.sz + k) := by rw [Nat.add_mul, Nat.one_mul]; omega
    rw [List.set_append_right _ _ (by rw [C.len, e]; omega), C.len, e, Nat.add_sub_cancel_left, ih]
/-- A part of an element is stored in a block that holds a list. -/
theorem St_gset1 {g t : Nat} (h : St w W ((g, (C.all L).toArray, t) :: bs) rs) {i k : Nat} {x x' : α} {u : Value} (hi : L[i]? = some x) (hk : k < C.sz) (hu : C.cs x' = (C.cs x).set k u) (hv : ∀ z, u ≠ .int .u32 z) :
    St w (W.setCell ⟨g, i * C.sz + k, none⟩ u) ((g, (C.all (L.set i x')).toArray, t) :: bs) rs := by
  have := h.set 0 (i * C.sz + k) u rfl hv
  have e : (C.all L).toArray.setIfInBounds (i * C.sz + k) u = (C.all (L.set i x')).toArray := by
    rw [← all_set1 C hi hk hu]; simp
  rw [← e]; exact this
end
section
variable {P : Program} {ops : Array Oper} {Q : Exit → Act → World → Prop} {S : World → Prop}
theorem Wk.two {i j : Nat} {oi oj : Oper} {L : Array Bool} {a : Act} {w : World} (hi : ops[i]? = some oi) (hj : ops[j]? = some oj) (hr : (((Region.ready .any ops L == [i, j]) && oi.guard.isNone) && oj.guard.isNone) = true)
    (h1 : ∀ K' : Act → World → Prop, Shut (∀ a w, S w → Wk P ops Q S (L.setIfInBounds i true) a w → K' a w) → Oper.wp P oi a w K' Q)
    (h2 : ∀ K' : Act → World → Prop, Shut (∀ a w, S w → Wk P ops Q S (L.setIfInBounds j true) a w → K' a w) → Oper.wp P oj a w K' Q) : Wk P ops Q S L a w := by
  simp only [Bool.and_eq_true, beq_iff_eq] at hr
  obtain ⟨⟨r, gi⟩, gj⟩ := hr
  refine Wk.all ⟨i, by rw [r]; simp⟩ fun k hk => ?_
  rw [r] at hk
  rcases List.mem_cons.1 hk with rfl | hk
  · exact wpOp_step hi (fun K' hK => by rw [if_pos (wanted_none gi)]; exact h1 K' (fun a w hS hW => hK a w ⟨hS, hW⟩))
  · have := List.mem_singleton.1 hk
    subst this
    exact wpOp_step hj (fun K' hK => by rw [if_pos (wanted_none gj)]; exact h2 K' (fun a w hS hW => hK a w ⟨hS, hW⟩))
end
theorem oper_call {P : Program} {o : Oper} {f : FuncId} {args : Array Value} {dst : Option Nat} {a : Act} {w : World} {K' : Act → World → Prop} {Q : Exit → Act → World → Prop} (hd : o.dst = dst) (hx : (execOp a.eval o).run P w = .ok (.enter f args) w) (h : Calls P f args w fun e w' => ∃ v, e = .returned v ∧ K' (a.put dst v) w') : Oper.wp P o a w K' Q := by
  subst hd
  unfold Oper.wp
  rw [hx]
  show Calls P f args w _
  refine h.mono ?_
  rintro e w' ⟨v, rfl, hk⟩
  exact hk


/-- What a call made of its own, beside what its caller knows. -/
theorem St.join {w W W' : World} {bs bs' : List GBk} {rs rs' : List GRd} (h : St w W bs rs) (h' : St W W' bs' rs') : St w W' (bs ++ bs') (rs ++ rs') := by
  refine ⟨h.bel.trans (h'.bel.mono h.bel.size), fun p hp => ?_, ?_, fun r hr => ?_⟩
  · rcases List.mem_append.1 hp with hp | hp
    · exact ⟨(h.bk p hp).1.bel h'.bel, (h.bk p hp).2⟩
    · exact ⟨(h'.bk p hp).1, (h'.bk p hp).2.1, Nat.le_trans h.bel.size (h'.bk p hp).2.2⟩
  · refine List.pairwise_append.2 ⟨h.nd, h'.nd, fun p hp q hq => ?_⟩
    have h1 := (h.bk p hp).1.lt
    have h2 := (h'.bk q hq).2.2
    omega
  · rcases List.mem_append.1 hr with hr | hr
    · exact (h.rd r hr).below h'.bel
    · exact h'.rd r hr
section
variable {α : Type} {C : Cod α} {w W : World} {bs : List GBk} {rs : List GRd} {e : Nat} {v : Value} {L : List α}
/-- v = append(v, l..) in a region whose order is open. -/
theorem Gro.opm {P : Program} {o : Oper} {a : Act} {K' : Act → World → Prop} {Q : Exit → Act → World → Prop} (s x : Operand) (ty : TypeId)
    (ho : o.op = .call { callee := .builtin .append, args := #[s, x], argTypes := #[ty, ty] })
    (z : Value) (bytes : Nat) (ht : P.underlying ty = some (.slice e)) (hi : (P.info? e).map (fun i => (i.zero, i.size, i.bytes)) = some (some z, C.sz, bytes))
    (hzs : z.cells.size = C.sz) (hzn : NoLl z.cells.toList) (hs : a.eval s = v) (h : Gro C w W bs rs e v L)
    (M : List α) (B : Option Addr) (c' : Nat) (hx : a.eval x = .slice B M.length c') (hM : LR C W B M.length M) (hMi : ∀ y ∈ M, C.In w bs rs y)
    (hn : (L.length + M.length) * bytes ≤ 140737488355328) (h63 : L.length + M.length ≤ maxLen)
    (hk : ∀ v' W', Gro C w W' bs rs e v' (L ++ M) → K' (a.put o.dst v') W') : Oper.wp P o a W K' Q := by
  obtain ⟨i0, hi0, hzz⟩ := Option.map_eq_some_iff.1 hi
  simp only [Prod.mk.injEq] at hzz
  obtain ⟨hz0, hz1, hz2⟩ := hzz
  rcases Nat.eq_zero_or_pos M.length with h0 | h0
  · have hM0 : M = [] := List.length_eq_zero_iff.1 h0
    subst hM0
    have hx : a.eval x = .slice B 0 c' := hx
    obtain ⟨A, n, cp, hv, hle⟩ : ∃ A n cp, v = .slice A n cp ∧ n ≤ cp := by
      obtain ⟨⟨_, _, ⟨hv, _, _⟩ | ⟨g, cap, cur, hv, hh, _⟩⟩, _⟩ := h
      · exact ⟨_, _, _, hv, Nat.le_refl _⟩
      · exact ⟨_, _, _, hv, hh⟩
    have hr : (Builtin.append_ #[ty, ty] o.type #[v, .slice B 0 c']).run P W = .ok v W := by
      rw [hv]
      refine run_append_nothing W ty ty o.type e i0 ht hi0 A n cp hle _ ⟨.inl ⟨e, ht⟩, fun w' => rfl, ?_, ?_, by simp, by simp⟩ <;> cases B <;> simp [Builtin.firstCells, loadCells, loadCellsFrom]
    unfold Oper.wp execOp
    simp only [ho, resolve, invoke, builtin, Sem.run_bind, Sem.run_pure, Result.andThen_ok, List.map_toArray, List.map_cons, List.map_nil, hs, hx, hr]
    exact hk v W (by rw [List.append_nil]; exact h)
  · rcases hM.mem with hm | ⟨b, q, hB, hlt, hc⟩
    · omega
    · subst hB
      obtain ⟨v', W', hr, h2, _⟩ := Apd.run2 (P := P) ty o.type i0 z bytes ht hi0 hz0 hz1 hz2 hzs hzn h.1 ⟨b, q, none⟩ M.length c' (C.all M) (all_len C M) (by
        intro j u hu
        obtain ⟨i, y, k, h1, h2, h3⟩ := all_inv C hu
        have hadd : (⟨b, q, none⟩ : Addr).add j = ⟨b, q + i * C.sz + k, none⟩ := by unfold Addr.add; split <;> simp_all <;> omega
        rw [hadd]
        exact hc i y h1 k u h2) (by
        intro u hu
        obtain ⟨y, _, hy⟩ := List.mem_flatMap.1 hu
        exact C.one y u hy) (all_noL C M) h0 h63 hn
      unfold Oper.wp execOp
      simp only [ho, resolve, invoke, builtin, Sem.run_bind, Sem.run_pure, Result.andThen_ok, List.map_toArray, List.map_cons, List.map_nil, hs, hx, hr]
      refine hk v' W' ⟨?_, fun y hy => ?_⟩
      · rw [all_app, List.length_append]; exact h2
      · rcases List.mem_append.1 hy with hy | hy
        · exact h.2 y hy
        · exact hMi y hy
end
theorem St.cast {w W : World} {bs bs' : List GBk} {rs : List GRd} (h : St w W bs rs) (e : bs = bs') : St w W bs' rs := e ▸ h

/-- Nodes that grow, numbers that grow, and the blocks in which they lie. -/
def OBn (ob : List GBk) (l : Sl Nd) : Prop := (ndC.all l.L).length = l.L.length * 3 ∧ NoLl (ndC.all l.L) ∧ OB ob 39 3 l.v l.L.length (ndC.all l.L)
def OBi (ob : List GBk) (l : Sl Int) : Prop := (intC.all l.L).length = l.L.length * 1 ∧ NoLl (intC.all l.L) ∧ OB ob 3 1 l.v l.L.length (intC.all l.L)
theorem nd_in {w : World} {bs : List GBk} {rs : List GRd} (x : Nd) : ndC.In w bs rs x := ⟨trivial, trivial, trivial⟩
section
variable {w W : World} {bs ob : List GBk} {rs : List GRd}
theorem OBi.gro {l : Sl Int} (h : OBi ob l) (S : St w W (bs ++ ob) rs) : Gro intC w W bs rs 3 l.v l.L := ⟨Apd.close h S, fun x _ => trivial⟩
theorem Gro.opi {v : Value} {L : List Int} (G : Gro intC w W bs rs 3 v L) : ∃ (l : Sl Int) (ob : List GBk), v = l.v ∧ l.L = L ∧ OBi ob l ∧ St w W (bs ++ ob) rs := by
  obtain ⟨A, c, hv, hl⟩ := G.lr
  obtain ⟨ob, h1, h2⟩ := G.1.open_
  exact ⟨⟨A, c, L⟩, ob, hv, rfl, by subst hv; exact h1, h2⟩
theorem OBn.gro {l : Sl Nd} (h : OBn ob l) (S : St w W (bs ++ ob) rs) : Gro ndC w W bs rs 39 l.v l.L := ⟨Apd.close h S, fun x _ => nd_in x⟩
theorem Gro.opn {v : Value} {L : List Nd} (G : Gro ndC w W bs rs 39 v L) : ∃ (l : Sl Nd) (ob : List GBk), v = l.v ∧ l.L = L ∧ OBn ob l ∧ St w W (bs ++ ob) rs := by
  obtain ⟨A, c, hv, hl⟩ := G.lr
  obtain ⟨ob, h1, h2⟩ := G.1.open_
  exact ⟨⟨A, c, L⟩, ob, hv, rfl, by subst hv; exact h1, h2⟩
end
end Go.Proofs.YthbkdjbmkhmlnaaDoor
