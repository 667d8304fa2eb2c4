/- A range over a function that counts; a region with an open order in a round. -/
import Derived.Test.YtjebpmjbdchdlaaDoorM11
import Derived.RangeFuncNested
import Derived.RangeFuncBound
import Derived.RangeFuncCalls
import Derived.RangeFuncLeaves
import Derived.Shelf.Abstract
import Derived.Shelf.RegionOpen
import Derived.WalkKit
import Derived.OwnWalkIn
import Derived.TacticsInMore
import Derived.LoopNIn
import Derived.LoopIn
import Derived.OrdersIn
namespace Go.Proofs.YtjebpmjbdchdlaaDoor
open Go.RowKit
set_option linter.unusedVariables false

section
variable {P : Program} {ops : Array Oper} {Q : Exit → Act → World → Prop} {l n : Nat}
/-- What an operation does, it does in a round. -/
theorem wp_round {o : Oper} {K K' : Act → World → Prop} {a : Act} {w : World} (hd : ∀ c, o.op ≠ .defer c) (hQ : ∀ a w, ¬ Q .outgrown a w) (hK : ∀ a w, K a w → K' a w) (h : o.wp P a w K Q ∨ (o.asks P a w ∧ LetsOut Q)) : o.wpIn (Fence.wide.inRound l) n P a w K' Q := by
  rcases h with h | ⟨_, a, w, h⟩
  · refine ⟨fun _ _ => trivial, ?_⟩
    show o.uponIn _ n P a K' Q ((o.semAt (some l) a.eval).run P w)
    rw [Oper.semAt_some l a.eval o hd]
    unfold Oper.wp at h
    generalize (execOp a.eval o).run P w = r at *
    cases r with
    | ok x w' =>
      cases x with
      | value v => exact hK _ _ h
      | skip => exact hK _ _ h
      | defer d => exact hK _ _ h
      | enter f args =>
        refine ⟨(fun e => by cases e), ?_⟩
        have h1 : Calls P f args w' fun
          | .returned v, w'' => K (a.put o.dst v) w''
          | .panicked chain, w'' => Q (.panic chain) a w''
          | .outgrown, _ => LetsOut Q := h
        have h2 := CallsIn.inRound l ((callsIn_wide (n := n - 1)).2 h1)
        exact h2.mono fun e w'' he => by cases e <;> first | exact hK _ _ he | exact he
      | row row args =>
        refine ⟨(fun e => by cases e), fun c cs _ => ?_⟩
        obtain ⟨v, w'', h1, h2⟩ := h c cs
        exact ⟨v, w'', hK _ _ h1, stepsIn_wide.2 h2⟩
      | _ => exact h.elim
    | halt x w' => cases x <;> exact h
  · exact (hQ a w h).elim
theorem wpAny_round (hd : ∀ o ∈ ops, ∀ c, o.op ≠ .defer c) (hQ : ∀ a w, ¬ Q .outgrown a w) : ∀ (fuel : Nat) (L : Array Bool) (a : Act) (w : World), wpAny P .any ops Q fuel L a w → wpAnyIn (Fence.wide.inRound l) n P .any ops Q fuel L a w
  | 0, _, _, _, h => h
  | fuel + 1, L, a, w, h => ⟨h.1, fun i hi => by
    have h1 := h.2 i hi
    unfold wpOp at h1
    unfold wpOpIn
    split
    · rename_i e
      rw [e] at h1
      exact wpAny_round hd hQ fuel _ _ _ h1
    · rename_i o e
      rw [e] at h1
      dsimp only at h1
      split
      · rename_i hw
        rw [if_pos hw] at h1
        exact wp_round (hd o (Array.mem_of_getElem? e)) hQ (fun a w h => wpAny_round hd hQ fuel _ a w h) h1
      · rename_i hw
        rw [if_neg hw] at h1
        exact ⟨fun _ _ => trivial, wpAny_round hd hQ fuel _ _ _ h1⟩⟩
/-- A region whose order is open, in a round. -/
theorem RW.round {id : Nat} {S : World → Prop} {w0 w : World} {a : Act} {Z : List Zv} {bs rs} (hm : P.follows .mixedOrders = true) (hd : ∀ o ∈ ops, ∀ c, o.op ≠ .defer c) (hQ : ∀ a w, ¬ Q .outgrown a w) (hz : ZOk P ops S w0 Z bs) (hst : St w0 w bs rs) (h : Hid (ZOk P ops S w0 Z bs) → RW P ops Q S w0 Z (Array.replicate ops.size false) a bs rs) : (Code.region id ops true).wpIn (Fence.wide.inRound l) n P Q a w := by
  have e : ∀ (Z : List Zv), (∀ L, mark Z (List.replicate Z.length none) L = L) ∧ (∀ a, fill Z (List.replicate Z.length none) a = a) ∧ blks Z (List.replicate Z.length none) = [] := by
    intro Z; induction Z with
    | nil => exact ⟨fun _ => rfl, fun _ => rfl, rfl⟩
    | cons z Z ih => exact ih
  have h1 := h (Lib.hid hz) (List.replicate Z.length none) w.drew (by simp) (hz.keep _ [] hst.drew.none) (by rw [(e Z).2.2]; exact hst.drew)
  rw [(e Z).1, (e Z).2.1] at h1
  unfold Wk at h1
  rw [show lft (Array.replicate ops.size false) = ops.size by simp [lft]] at h1
  exact wpIn_region_any hm (wpAny_round hd hQ _ _ _ _ (wpAny_of_held _ _ _ _ h1))
end
/-- A range over a function that counts: round i is handed encs i, and nothing leaves the loop. -/
theorem range_counts {P : Program} {n : Nat} {g : Operand} {ps : Array Tmp} {assign body : Code} {Q : Exit → Act → World → Prop} {a : Act} {w : World}
    {gf : Nat} {lb : Array Value} (hg : a.eval g = .func (.func gf) #[] lb) (eg : ∀ args w, (callFunc gf args).run P w = .ok (.enter gf args) w)
    {encs : Nat → Array Value} {N : Nat} (hps : ∀ i, (encs i).size = ps.size)
    (I : Nat → World → Prop) (Ax : Nat → Act → World → Prop) (R : World → Prop)
    (hIb : ∀ i W, I i W → R W)
    (hIa : ∀ i W o, (∀ cs t f, o ≠ .cells cs t f) → I i W → I i (W.alloc o))
    (hIp : ∀ i W k o o', w.heap.size ≤ k → W.heap[k]? = some o → (∀ cs t f, o ≠ .cells cs t f) → I i W → I i (W.putObj k o'))
    (hAp : ∀ i a' W k o o', w.heap.size ≤ k → W.heap[k]? = some o → (∀ cs t f, o ≠ .cells cs t f) → Ax i a' W → Ax i a' (W.putObj k o'))
    (h0 : I 0 w)
    (hseq : ∀ (l : Nat) (J : Nat → World → Prop) (W : World), (∀ i W1, J i W1 → R W1) → (∀ i W1, i < N → J i W1 → YieldAt Fence.wide (n - 1) P l (encs i) W1 fun e W' => e = .returned (.bool true) ∧ J (i + 1) W') → J 0 W → CallsIn Fence.wide n P gf (#[.func (.yield l) #[] #[]] ++ lb) W fun e W' => (∃ v, e = .returned v) ∧ J N W')
    (hassign : ∀ (l i : Nat) (W : World) (K : Act → World → Prop), i < N → I i W → (∀ a' W', MK W W' → Ax i a' W' → K a' W') → assign.wpIn (Fence.wide.inRound l) (n - 1) P (Exit.then K (fun _ _ _ => False)) { tmps := (ps.zip (encs i)).foldl (fun t (p, v) => t.setIfInBounds p v) a.tmps, defers := [] } W)
    (hbody : ∀ (l i : Nat) (a' : Act) (W : World), i < N → Ax i a' W → body.wpIn (Fence.wide.inRound l) (n - 1) P (fun e _ W' => e = .normal ∧ MK W W' ∧ I (i + 1) W') a' W)
    (hdone : ∀ (D : Nat) (W : World), w.heap.size ≤ D → I N W → W.heap[D]? = some (.deferred (some [])) → Q .normal { a with defers := { target := .collected D, args := #[] } :: a.defers } W) :
    (Code.rangeFunc g ps assign body).wpIn Fence.wide (n + 1) P Q a w := by
  refine wpIn_rangeFunc ?_
  intro fn hfn
  obtain ⟨rec, hrec⟩ : ∃ rec : LoopState → Loop, rec = fun st => { state := st, pending := none, fn, tmps := a.tmps, params := ps, assign, body, defers := w.heap.size } := ⟨_, rfl⟩
  have nl : ∀ r : Loop, ∀ cs t f, Obj.loop r ≠ .cells cs t f := fun _ _ _ _ h => by cases h
  have nd : ∀ r, ∀ cs t f, Obj.deferred r ≠ .cells cs t f := fun _ _ _ _ h => by cases h
  obtain ⟨W1, hW1⟩ : ∃ W1, W1 = (w.alloc (.deferred (some []))).alloc (.loop (rec .ready)) := ⟨_, rfl⟩
  have hL1 : W1.heap[w.heap.size + 1]? = some (.loop (rec .ready)) := by
    rw [hW1]
    have := World.alloc_heap_new (w.alloc (.deferred (some []))) (.loop (rec .ready))
    rwa [World.size_alloc] at this
  have hD1 : W1.heap[w.heap.size]? = some (.deferred (some [])) := by
    rw [hW1]
    exact (MK.refl (w.alloc (.deferred (some [])))).alloc _ _ _ (nd _) (World.alloc_heap_new w _)
  have hI1 : I 0 W1 := by rw [hW1]; exact hIa _ _ _ (nl _) (hIa _ _ _ (nd _) h0)
  refine ⟨w.heap.size + 1, [{ target := .collected w.heap.size, args := #[] }], W1, { target := .fn (.func gf) lb, args := #[.func (.yield (w.heap.size + 1)) #[] #[]] }, W1, gf, #[.func (.yield (w.heap.size + 1)) #[] #[]] ++ lb, W1, ?_, ?_, fun _ _ => trivial, ?_, (fun e => by cases e), ?_⟩
  · rw [hW1, hrec]; exact run_enterLoop_outer _ _ _ _ _
  · simp only [resolve, hg]
    simp [go_sem]
  · simp [invoke, go_sem, eg]
  · refine (hseq (w.heap.size + 1) (fun i W => I i W ∧ W.heap[w.heap.size + 1]? = some (.loop (rec .ready)) ∧ W.heap[w.heap.size]? = some (.deferred (some []))) W1 (fun i W1 h => hIb _ _ h.1) ?_ ⟨hI1, hL1, hD1⟩).mono ?_
    · rintro i W hi ⟨hI, hl, hd⟩
      have hy := run_yield (P := P) (args := encs i) hl (by rw [hrec]; exact hps i)
      rw [hrec] at hy
      refine ⟨fn, _, assign, body, hy, roundIn_of_wpIn hfn (hassign _ i W _ hi hI ?_)⟩
      intro a' Wa hmk hax
      have hl1 := hmk _ _ (nl _) hl
      have hd1 := hmk _ _ (nd _) hd
      have hlt := (Array.getElem?_eq_some_iff.1 hl1).1
      refine ⟨_, run_beginRound hl1 (by rw [hrec]), ?_⟩
      have hl2 : (Wa.putObj (w.heap.size + 1) (.loop { rec .ready with state := .busy })).heap[w.heap.size + 1]? = some (.loop { rec .ready with state := .busy }) := World.putObj_heap_same hlt
      have hd2 : (Wa.putObj (w.heap.size + 1) (.loop { rec .ready with state := .busy })).heap[w.heap.size]? = some (.deferred (some [])) := (World.putObj_heap_other (by omega)).trans hd1
      refine wpIn_mono (hbody _ i a' _ hi (hAp i a' Wa _ _ _ (by omega) hl1 (nl _) hax)) ?_
      rintro e a3 W3 ⟨rfl, hmk3, hI3⟩
      have hl3 := hmk3 _ _ (nl _) hl2
      have hd3 := hmk3 _ _ (nd _) hd2
      have hlt3 := (Array.getElem?_eq_some_iff.1 hl3).1
      have hr := run_endRound (P := P) none hl3
      have hrec2 : ({ rec .ready with state := .busy, pending := none } : Loop) = { rec .ready with state := .busy } := by rw [hrec]
      have e3 : ({ ({ rec .ready with state := .busy } : Loop) with state := if (none : Option Code).isNone then .ready else .done, pending := none } : Loop) = rec .ready := by rw [hrec]; rfl
      rw [e3] at hr
      exact ⟨_, _, hr, rfl, hIp _ _ _ _ _ (by omega) hl3 (nl _) hI3, World.putObj_heap_same hlt3, (World.putObj_heap_other (by omega)).trans hd3⟩
    · rintro e W2 ⟨⟨v, rfl⟩, hI, hl, hd⟩
      have hr := run_endLoop (P := P) hl (by rw [hrec]; simp)
      have hr2 : (Instr.endLoop (w.heap.size + 1)).run P W2 = .ok none (W2.putObj (w.heap.size + 1) (.loop { rec .ready with state := .exhausted })) := by
        rw [hr, hrec]
      exact ⟨none, _, hr2, hdone _ _ (Nat.le_refl _) (hIp _ _ _ _ _ (by omega) hl (nl _) hI) ((World.putObj_heap_other (by omega)).trans hd)⟩
end Go.Proofs.YtjebpmjbdchdlaaDoor
namespace Go.Proofs.YtjebpmjbdchdlaaDoor
open Go.RowKit Go.Shelf
attribute [local go_sem] Oper.semAt_some
set_option linter.unusedVariables false

/-- The node that the round behind i others is handed. -/
def bkN (L : List Nd) (i : Nat) : Nd := (L[L.length - 1 - i]?).getD ⟨0, ⟨#[]⟩, 0⟩
/-- What the round behind i others is handed. -/
def bkE (L : List Nd) (i : Nat) : Array Value := #[.int .i64 ((L.length - 1 - i : Nat) : Int), .agg #[.int .i64 (bkN L i).o, .string (bkN L i).s, .int .i64 (bkN L i).k]]

set_option maxRecDepth 100000 in
set_option maxHeartbeats 4000000 in
theorem bkw_any (A : Option Addr) (n c : Nat) (w : World) : Calls Tryd.prog 34 #[.slice A n c] w fun e w' => e = .returned (.func (.func 52) #[] #[.pointer (some ⟨w.heap.size, 0, none⟩)]) ∧ w' = w.alloc (.cells #[.slice A n c] 23) := by
  go_enter Tryd.func34, Tryd.ntmps34
  go_wp2
  go_ret
  exact ⟨rfl, rfl⟩

set_option maxRecDepth 100000 in
set_option maxHeartbeats 4000000 in
theorem back_any (L : List Nd) (A : Option Addr) (c m B : Nat) (hL : L.length ≤ 100000) (hcc : L.length ≤ c) (l : Nat) (J : Nat → World → Prop) (W : World)
    (hJ : ∀ i W1, J i W1 → W1.cell? ⟨B, 0, none⟩ = some (.slice A L.length c) ∧ B < W1.heap.size ∧ LR ndC W1 A L.length L)
    (hY : ∀ i W1, i < L.length → J i W1 → YieldAt Fence.wide (m - 1) Tryd.prog l (bkE L i) W1 fun e W' => e = .returned (.bool true) ∧ J (i + 1) W') (h0 : J 0 W) :
    CallsIn Fence.wide m Tryd.prog 52 #[.func (.yield l) #[] #[], .pointer (some ⟨B, 0, none⟩)] W fun e W' => (∃ v, e = .returned v) ∧ J L.length W' := by
  obtain ⟨n, hn⟩ : ∃ n, n = L.length := ⟨_, rfl⟩
  rw [← hn] at hJ hL hY ⊢
  replace hY := Lib.hid hY
  replace hJ := Lib.hid hJ
  replace hn := Lib.hid hn
  refine callsIn_of_wp Tryd.func52 rfl trivial ?_ rfl
  simp only [Tryd.ntmps52, List.size_toArray, List.length_cons, List.length_nil, Nat.reduceAdd, Nat.reduceSub, Array.replicate_succ, Array.replicate_zero, List.push_toArray, List.append_toArray, List.nil_append, List.cons_append]
  have c0 := (hJ.out _ _ h0).1
  have hz0 := (hJ.out _ _ h0).2.1
  gi_wp2
  clear c0 hz0
  gi_loopw [3] (fun p wr => ∃ k : Nat, k ≤ n ∧ p = .int .i64 ((k : Int) - 1) ∧ J (n - k) wr) (fun p _ => (intOf p + 1).toNat)
  case atStart => exact ⟨n, Nat.le_refl _, rfl, by rw [Nat.sub_self]; exact h0⟩
  case round =>
    obtain ⟨k, hk, rfl, hJk⟩ := hrel
    obtain ⟨c0, hz0, hlr⟩ := hJ.out _ _ hJk
    replace hlr := Lib.hid hlr
    rcases Nat.eq_zero_or_pos k with h1 | h1
    · subst h1
      gi_wp2
      go_end0
      exact ⟨⟨_, rfl⟩, by rwa [Nat.sub_zero] at hJk⟩
    · obtain ⟨q, rfl⟩ : ∃ q, k = q + 1 := ⟨k - 1, by omega⟩
      have e1 : ((q + 1 : Nat) : Int) - 1 = (q : Int) := by omega
      rw [e1]
      obtain ⟨b, o, x, hA, hx, _, a0, a1, a2⟩ := nd_get hlr.out (show q < n by omega)
      subst hA
      have hy0 := hY.out (n - (q + 1)) wr (by omega) hJk
      have e2 : L.length - 1 - (n - (q + 1)) = q := by have := hn.out; omega
      unfold bkE bkN at hy0
      rw [e2, hx] at hy0
      obtain ⟨fn, tmps, assign, body, hy, hR⟩ := hy0
      dsimp only [Option.getD_some] at hy
      have e3 : n - (q + 1) + 1 = n - q := by omega
      rw [e3] at hR
      have g1 : (q : Int) < (n : Int) := by omega
      have g2 : (0 : Int) ≤ (q : Int) := by omega
      replace hJk := Lib.hid hJk
      clear hx e1 e2 e3
      gi_wp2
      refine ⟨(fun e => by cases e), hR.mono ?_⟩
      rintro e W3 ⟨rfl, hJ3⟩
      gi_wp2
      go_roundw
      case rel => exact ⟨q, by omega, by go_num, hJ3⟩
      case measure => (first | (simp [intOf]; done) | (simp [intOf]; omega))
end Go.Proofs.YtjebpmjbdchdlaaDoor
namespace Go.Proofs.YtjebpmjbdchdlaaDoor
open Go.RowKit
set_option linter.unusedVariables false

/-- Each node finds its operands, from the last one on. -/
def okF : List F9.Nd → Prop
  | [] => True
  | x :: l => F9.ari x.op ≤ (l.foldr F9.ph1 []).length ∧ okF l
theorem okF_pre : ∀ (t : F9.Tr), t.wf → ∀ l, okF l → okF (t.pre ++ l)
  | .leaf x, h, l, hl => ⟨by rw [ari_lf h]; exact Nat.zero_le _, hl⟩
  | .hat k a, h, l, hl => by
    refine ⟨?_, okF_pre a h.2.2 l hl⟩
    show F9.ari 10 ≤ ((a.pre ++ l).foldr F9.ph1 []).length
    rw [List.foldr_append, F9.ph_pre a h.2.2, List.length_append]
    show 1 ≤ _
    simp
  | .bin op a b, h, l, hl => by
    refine ⟨?_, ?_⟩
    · show F9.ari op ≤ ((a.pre ++ b.pre ++ l).foldr F9.ph1 []).length
      have e : F9.ari op = 2 := by unfold F9.ari; rw [if_pos ⟨h.1, h.2.1⟩]
      rw [e, List.foldr_append, List.foldr_append, F9.ph_pre b h.2.2.2, F9.ph_pre a h.2.2.1, List.length_append, List.length_append]
      simp
    · show okF (a.pre ++ b.pre ++ l)
      rw [List.append_assoc]
      exact okF_pre a h.2.2.1 _ (okF_pre b h.2.2.2 _ hl)
theorem okF_drop : ∀ (k : Nat) (l : List F9.Nd), okF l → okF (l.drop k)
  | 0, _, h => h
  | _ + 1, [], _ => trivial
  | k + 1, _ :: l, h => okF_drop k l h.2
theorem pre_ok : ∀ (t : F9.Tr), t.wf → ∀ x ∈ t.pre, F9.okN x
  | .leaf x, h, y, hy => by
    obtain rfl := List.mem_singleton.1 hy
    exact .inl h
  | .hat k a, h, y, hy => by
    rcases List.mem_cons.1 hy with rfl | hy
    · exact .inr (.inl ⟨rfl, rfl, h.1, h.2.1⟩)
    · exact pre_ok a h.2.2 y hy
  | .bin op a b, h, y, hy => by
    rcases List.mem_cons.1 hy with rfl | hy
    · exact .inr (.inr ⟨h.1, h.2.1, rfl, rfl⟩)
    · rcases List.mem_append.1 hy with hy | hy
      · exact pre_ok a h.2.2.1 y hy
      · exact pre_ok b h.2.2.2 y hy
theorem okN_op {x : F9.Nd} (h : F9.okN x) : 1 ≤ x.op ∧ x.op ≤ 10 := by
  rcases h with h | h | h
  · have := lf_op h; omega
  · have := h.1; omega
  · have := h.1; have := h.2.1; omega
/-- The bytes of all phrases. -/
def totP (L : List (F9.Bs × Nat)) : Nat := (L.map fun p => p.1.length).sum
theorem totP_mem {L : List (F9.Bs × Nat)} {p : F9.Bs × Nat} (h : p ∈ L) : p.1.length ≤ totP L := by
  induction L with
  | nil => cases h
  | cons q L ih =>
    have e : totP (q :: L) = q.1.length + totP L := by simp [totP]
    rcases List.mem_cons.1 h with rfl | h
    · omega
    · have := ih h; omega
theorem totP_app (a b : List (F9.Bs × Nat)) : totP (a ++ b) = totP a + totP b := by simp [totP]
theorem encl_le (p : F9.Bs × Nat) (k : Nat) : (F9.encl p k).length ≤ p.1.length + 2 := by
  unfold F9.encl; split <;> simp
theorem lfW_le (x : F9.Nd) : (F9.lfW x).length ≤ x.nm.length + 20 := by
  unfold F9.lfW F9.dg
  split
  · omega
  · split
    · simp <;> omega
    · split <;> simp
theorem jnT_le (x : F9.Nd) (M : List (F9.Bs × Nat)) (h : M.length = F9.ari x.op) : (jnT x M).length ≤ totP M + x.nm.length + 20 := by
  unfold jnT
  unfold F9.ari at h
  split
  · rename_i h1
    rw [if_pos h1] at h
    match M, h with
    | [q, p], _ =>
      have h1 := encl_le p (F9.rul x.op)
      have h2 := encl_le q (F9.rul x.op + 1)
      have h3 : (F9.sgn x.op).length ≤ 3 := by unfold F9.sgn; split <;> simp
      have h4 : totP [q, p] = q.1.length + p.1.length := by simp [totP]
      rw [h4]
      show (F9.encl p (F9.rul x.op) ++ F9.sgn x.op ++ F9.encl q (F9.rul x.op + 1)).length ≤ _
      rw [List.length_append, List.length_append]
      omega
  · rename_i h1
    rw [if_neg h1] at h
    split
    · rename_i h2
      rw [if_pos h2] at h
      match M, h with
      | [p], _ =>
        have h1 := encl_le p 4
        have h4 : totP [p] = p.1.length := by simp [totP]
        rw [h4]
        show (F9.encl p 4 ++ [94] ++ F9.dg x.k).length ≤ _
        rw [List.length_append, List.length_append]
        simp [F9.dg]
        omega
    · have := lfW_le x
      omega
theorem totP_ph1 (x : F9.Nd) (L : List (F9.Bs × Nat)) (h : F9.ari x.op ≤ L.length) : totP (F9.ph1 x L) ≤ totP L + x.nm.length + 20 := by
  rw [ph1_eq, totP_app]
  have h1 := jnT_le x (L.drop (L.length - F9.ari x.op)) (by rw [List.length_drop]; omega)
  have h2 : totP L = totP (L.take (L.length - F9.ari x.op)) + totP (L.drop (L.length - F9.ari x.op)) := by rw [← totP_app, List.take_append_drop]
  have h3 : totP [(jnT x (L.drop (L.length - F9.ari x.op)), rlT x)] = (jnT x (L.drop (L.length - F9.ari x.op))).length := by simp [totP]
  omega
theorem totP_all : ∀ (l : List F9.Nd), okF l → (∀ x ∈ l, x.nm.length ≤ 1000) → totP (l.foldr F9.ph1 []) ≤ l.length * 1020
  | [], _, _ => by simp [totP]
  | x :: l, h, hn => by
    have h1 := totP_all l h.2 (fun y hy => hn y (List.mem_cons_of_mem _ hy))
    have h2 := totP_ph1 x (l.foldr F9.ph1 []) h.1
    have h3 := hn x List.mem_cons_self
    rw [List.foldr_cons, List.length_cons]
    omega
theorem len_all : ∀ (l : List F9.Nd), okF l → (l.foldr F9.ph1 []).length ≤ l.length
  | [], _ => by simp
  | x :: l, h => by
    have h1 := len_all l h.2
    rw [List.foldr_cons, ph1_eq, List.length_append, List.length_take, List.length_cons]
    simp
    omega

section
variable {α : Type} {C : Cod α} {w W W' : World} {bs : List GBk} {e : Nat} {v : Value} {L : List α}
/-- A block that holds no cells is turned. -/
theorem St.turn (h : St w W bs []) {k : Nat} {o o' : Obj} (hk : w.heap.size ≤ k) (ho : W.heap[k]? = some o) (hn : ∀ cs t f, o ≠ .cells cs t f) : St w (W.putObj k o') bs [] := by
  refine ⟨?_, fun p hp => ?_, h.nd, fun r hr => by cases hr⟩
  · exact h.bel.trans ((Below.refl w.heap.size W).grown (grownBy_putObj' W k o') (by have := (Array.getElem?_eq_some_iff.1 ho).1; have := h.bel.size; omega) (fun j e => by cases e; omega))
  · obtain ⟨h1, h2, h3⟩ := h.bk p hp
    refine ⟨?_, h2, h3⟩
    have hne : p.1 ≠ k := fun e => by
      rw [← e] at ho
      rw [show W.heap[p.1]? = _ from h1] at ho
      injection ho with ho
      exact hn _ _ _ ho.symm
    exact (World.putObj_heap_other hne).trans h1
theorem Gro.turn (h : Gro C w W bs [] e v L) {k : Nat} {o o' : Obj} (hk : w.heap.size ≤ k) (ho : W.heap[k]? = some o) (hn : ∀ cs t f, o ≠ .cells cs t f) : Gro C w (W.putObj k o') bs [] e v L := by
  obtain ⟨⟨h1, h2, h3⟩, h4⟩ := h
  refine ⟨⟨h1, h2, ?_⟩, h4⟩
  rcases h3 with ⟨a, b, S⟩ | ⟨g, cap, cur, a, b, c, d, f, S⟩
  · exact .inl ⟨a, b, S.turn hk ho hn⟩
  · exact .inr ⟨g, cap, cur, a, b, c, d, f, S.turn hk ho hn⟩
/-- A store into another block at hand. -/
theorem Gro.put (h : Gro C w W bs [] e v L) (i : Nat) {g t : Nat} {cs : Array Value} (hi : bs[i]? = some (g, cs, t)) (k : Nat) (u : Value) (hu : ∀ z, u ≠ .int .u32 z) (hin : ∀ x ∈ L, C.In w (bs.set i (g, cs.setIfInBounds k u, t)) [] x) : Gro C w (W.setCell ⟨g, k, none⟩ u) (bs.set i (g, cs.setIfInBounds k u, t)) [] e v L := by
  obtain ⟨⟨h1, h2, h3⟩, h4⟩ := h
  refine ⟨⟨h1, h2, ?_⟩, hin⟩
  rcases h3 with ⟨a, b, S⟩ | ⟨gg, cap, cur, a, b, c, d, f, S⟩
  · exact .inl ⟨a, b, S.set i k u hi hu⟩
  · exact .inr ⟨gg, cap, cur, a, b, c, d, f, S.set (i + 1) k u hi hu⟩
end
end Go.Proofs.YtjebpmjbdchdlaaDoor
