/- Two operations that may come next in either order. -/
import Derived.Test.YtidhloliahfknaaGreatQVdz
namespace Go.Proofs.YtidhloliahfknaaGreat
open Go.RowKit RQ
section
variable {P : Program} {ops : Array Oper} {Q : Exit → Act → World → Prop} {S : World → Prop} {w0 : World} {Z : List Zv} {L : Array Bool} {a : Act} {bs : List (Nat × Array Value × Nat)} {rs : List (Option Addr × Nat × Nat × List Nat)}
/-- One of the operations that may come next. -/
def One (P : Program) (ops : Array Oper) (Q : Exit → Act → World → Prop) (S : World → Prop) (w0 : World) (Z : List Zv) (L : Array Bool) (a : Act) (bs : List (Nat × Array Value × Nat)) (rs : List (Option Addr × Nat × Nat × List Nat)) (j : Nat) : Prop :=
  ∀ (σ : List (Option Nat)) (w : World), σ.length = Z.length → S w → St w0 w (blks Z σ ++ bs) rs → wpOp P ops Q j (fun a' w' => S w' ∧ Wk P ops Q S ((mark Z σ L).setIfInBounds j true) a' w') (fill Z σ a) w
/-- What the choice of an operation wants. -/
def oneOk (ops : Array Oper) (Z : List Zv) (i : Nat) (oi : Oper) : Bool := apartZ ops Z oi && Region.noSelect ops
def twoOk (ops : Array Oper) (Z : List Zv) (L : Array Bool) (i j : Nat) : Bool := (Region.ready .any ops (full Z L) == [i, j] && (Region.ready .any ops L).contains i) && !((Z.map (·.op)).contains i)
theorem RW.branch {i j : Nat} (hz : ZOk P ops S w0 Z bs) (hc : twoOk ops Z L i j = true) (h1 : One P ops Q S w0 Z L a bs rs i) (h2 : One P ops Q S w0 Z L a bs rs j) : RW P ops Q S w0 Z L a bs rs := by
  simp only [twoOk, Bool.and_eq_true, Bool.not_eq_true', beq_iff_eq] at hc
  obtain ⟨⟨c1, c2⟩, c3⟩ := hc
  have hcz : i ∉ Z.map (·.op) := by simpa using c3
  intro σ w hl hS hst
  generalize hn' : σ.count none = n
  induction n using Nat.strongRecOn generalizing σ w with
  | ind n ih =>
    have hcr : i ∈ Region.ready .any ops (mark Z σ L) := ready_mark (by simpa using c2) hcz
    refine Wk.all ⟨i, hcr⟩ fun k hk => ?_
    by_cases hkz : k ∈ Z.map (·.op)
    · refine RW.alloc hz hl hst (mem_ready.1 hk).1 hkz fun σ' w' hl' hc' hS' hst' => ?_
      exact ih _ (by omega) σ' w' hl' hS' hst' rfl
    · have := ready_full hk hkz
      rw [c1] at this
      rcases List.mem_cons.1 this with rfl | this
      · exact h1 σ w hl hS hst
      · have := List.mem_singleton.1 this
        subst this
        exact h2 σ w hl hS hst
theorem One.blk {i : Nat} {oi : Oper} {cs : Array Value} {t k : Nat} (dst : Option Nat) (hz : ZOk P ops S w0 Z bs) (hi : ops[i]? = some oi) (hd : oi.dst = dst) (hc : oneOk ops Z i oi = true) (hw : Region.wanted oi (yielded ops a.tmps) = true)
    (hx : ∀ w, (execOp a.eval oi).run P w = .ok (.value (.slice (some ⟨w.heap.size, 0, none⟩) k k)) (w.alloc (.cells cs t))) (hn : NoL cs)
    (h : ∀ g : Nat, Hid (ZOk P ops S w0 Z ((g, cs, t) :: bs)) → RW P ops Q S w0 Z (L.setIfInBounds i true) (a.put dst (.slice (some ⟨g, 0, none⟩) k k)) ((g, cs, t) :: bs) rs) : One P ops Q S w0 Z L a bs rs i := by
  have hzk : ∀ g, ZOk P ops S w0 Z ((g, cs, t) :: bs) := fun g => ⟨hz.ok, hz.is, hz.nd, hz.ndo, hz.nol, fun w B hB => hz.keep w (B ++ [(g, cs, t)]) (by rw [List.append_assoc]; exact hB)⟩
  simp only [oneOk, Bool.and_eq_true] at hc
  obtain ⟨c4, c5⟩ := hc
  subst hd
  intro σ w hl hS hst
  unfold wpOp
  rw [hi]
  simp only [wanted_fill (ops := ops) oi Z σ a c4, hw, if_true]
  refine .inl ?_
  unfold Oper.wp
  rw [exec_fill (ops := ops) oi (fun cs b => Region.noSelect_spec c5 i oi cs b hi) Z σ a c4, hx]
  show S _ ∧ Wk P ops Q S _ (Act.put _ oi.dst _) _
  have hst' : St w0 (w.alloc (.cells cs t)) (blks Z σ ++ (w.heap.size, cs, t) :: bs) rs := (hst.alloc cs t hn).perm (List.perm_middle.symm)
  have hS' : S (w.alloc (.cells cs t)) := (hzk w.heap.size).keep _ _ hst'.none
  refine ⟨hS', ?_⟩
  rw [← mark_set, ← fill_put Z σ a oi.dst _ (fun z hzm e => by
    have := List.all_eq_true.1 c4 z hzm
    simp only [Bool.and_eq_true, bne_iff_ne] at this
    exact this.2 e)]
  exact h _ (Lib.hid (hzk _)) σ _ hl hS' hst'
theorem One.call {c : Nat} {oc : Oper} {f : FuncId} {args : Array Value} (dst : Option Nat) (hz : ZOk P ops S w0 Z bs) (hi : ops[c]? = some oc) (hd : oc.dst = dst) (hc : oneOk ops Z c oc = true) (hw : Region.wanted oc (yielded ops a.tmps) = true)
    (hx : ∀ w, (execOp a.eval oc).run P w = .ok (.enter f args) w)
    (h : ∀ w, St w0 w bs rs → Calls P f args w fun e w' => Below w.heap.size w w' ∧ ∃ v rs', e = .returned v ∧ (∀ r ∈ rs', Rd w' r.1 r.2.1 r.2.2.1 r.2.2.2) ∧ RW P ops Q S w0 Z (L.setIfInBounds c true) (a.put dst v) bs (rs' ++ rs)) : One P ops Q S w0 Z L a bs rs c := by
  simp only [oneOk, Bool.and_eq_true] at hc
  obtain ⟨hap, c5⟩ := hc
  subst hd
  intro σ w hl hS hst
  unfold wpOp
  rw [hi]
  simp only [wanted_fill (ops := ops) oc Z σ a hap, hw, if_true]
  refine .inl ?_
  unfold Oper.wp
  rw [exec_fill (ops := ops) oc (fun cs b => Region.noSelect_spec c5 c oc cs b hi) Z σ a hap, hx]
  show Calls P f args w _
  refine (h w hst.drop).mono ?_
  rintro e w' ⟨bb, v, rs', rfl, hrd, hrw⟩
  show S w' ∧ Wk P ops Q S _ (Act.put _ oc.dst v) w'
  have hst' : St w0 w' (blks Z σ ++ bs) (rs' ++ rs) := (hst.call bb).reads hrd
  have hS' : S w' := hz.keep _ _ hst'.none
  refine ⟨hS', ?_⟩
  rw [← mark_set, ← fill_put Z σ a oc.dst v (fun z hzm e => by
    have := List.all_eq_true.1 hap z hzm
    simp only [Bool.and_eq_true, bne_iff_ne] at this
    exact this.2 e)]
  exact hrw σ w' hl hS' hst'
end
end Go.Proofs.YtidhloliahfknaaGreat
