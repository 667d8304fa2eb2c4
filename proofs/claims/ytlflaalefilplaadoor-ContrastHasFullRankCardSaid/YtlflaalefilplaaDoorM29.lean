/- The reference's reduced form: the steps, and what lies in memory at each. -/
import Derived.Test.YtlflaalefilplaaDoorM28
namespace Go.Proofs.YtlflaalefilplaaDoor
open Go.RowKit RQ
set_option linter.unusedVariables false

def el (M : List (List Rat)) (i j : Nat) : Rat := (M.getD i []).getD j 0
def sr (j : Nat) : List (List Rat) → Nat
  | [] => 0
  | r :: M => if (r.getD j 0).num = 0 then sr j M + 1 else 0
def swp (M : List (List Rat)) (a t : Nat) := (M.set a (M.getD t [])).set t (M.getD a [])
def nrm (M : List (List Rat)) (j t : Nat) := M.set t (timesQ (M.getD t []) (1 / el M t j))
def rw1 (M : List (List Rat)) (j t i : Nat) := if i = t then M else M.set i (plusQ (M.getD i []) (timesQ (M.getD t []) (-(el M i j))))
def rws (M : List (List Rat)) (j t : Nat) : Nat → List (List Rat)
  | 0 => M
  | i + 1 => rw1 (rws M j t i) j t i
def szB (q : Rat) : Bool := Nat.ble q.num.natAbs 1000000000000 && Nat.ble q.den 1000000000000
def okM (M : List (List Rat)) : Bool := M.all fun r => r.all szB
structure GS where
  M : List (List Rat)
  p : List Nat
  f : Rat
def gat (j : Nat) (s : GS) : Nat := s.p.length + sr j (s.M.drop s.p.length)
def gm1 (j : Nat) (s : GS) : List (List Rat) := if gat j s = s.p.length then s.M else swp s.M (gat j s) s.p.length
def gf1 (j : Nat) (s : GS) : Rat := if gat j s = s.p.length then s.f else -s.f
def gcol (j : Nat) (s : GS) : GS :=
  if gat j s = s.M.length then s else ⟨rws (nrm (gm1 j s) j s.p.length) j s.p.length s.M.length, s.p ++ [j], gf1 j s * el (gm1 j s) s.p.length j⟩
def okR (M : List (List Rat)) (j t : Nat) : Nat → Bool
  | 0 => okM M
  | i + 1 => okR M j t i && okM (rws M j t (i + 1)) && szB (-(el (rws M j t i) i j)) && (timesQ ((rws M j t i).getD t []) (-(el (rws M j t i) i j))).all szB
def colOk (j : Nat) (s : GS) : Bool :=
  if gat j s = s.M.length then true else
    szB (1 / el (gm1 j s) s.p.length j) && szB (gf1 j s * el (gm1 j s) s.p.length j) && okR (nrm (gm1 j s) j s.p.length) j s.p.length s.M.length
def grun : Nat → Nat → GS → GS
  | 0, _, s => s
  | c + 1, j, s => grun c (j + 1) (gcol j s)
def gok : Nat → Nat → GS → Bool
  | 0, _, _ => true
  | c + 1, j, s => colOk j s && gok c (j + 1) (gcol j s)
theorem szB_rs {q : Rat} (h : szB q = true) : Rs q 99 := by
  unfold szB at h
  rw [Bool.and_eq_true] at h
  have h1 := Nat.le_of_ble_eq_true h.1
  have h2 := Nat.le_of_ble_eq_true h.2
  have h3 : Rs q 2 := ⟨by omega, by omega⟩
  exact h3.mono (by omega)
theorem okM_rs {M : List (List Rat)} (h : okM M = true) {i : Nat} : ∀ q ∈ M.getD i [], Rs q 99 := by
  intro q hq
  rw [List.getD_eq_getElem?_getD] at hq
  cases hi : M[i]? with
  | none => rw [hi] at hq; cases hq
  | some r =>
    rw [hi] at hq
    exact szB_rs (List.all_eq_true.1 (List.all_eq_true.1 h r (List.mem_of_getElem? hi)) q hq)
theorem okR_le {M : List (List Rat)} {j t : Nat} : ∀ {n i : Nat}, okR M j t n = true → i ≤ n → okM (rws M j t i) = true
  | 0, i, h, hi => by obtain rfl : i = 0 := by omega
                      exact h
  | n + 1, i, h, hi => by
    unfold okR at h
    simp only [Bool.and_eq_true] at h
    rcases Nat.lt_or_ge i (n + 1) with hl | hl
    · exact okR_le h.1.1.1 (by omega)
    · obtain rfl : i = n + 1 := by omega
      exact h.1.1.2
theorem okR_at {M : List (List Rat)} {j t : Nat} : ∀ {n i : Nat}, okR M j t n = true → i < n → szB (-(el (rws M j t i) i j)) = true ∧ (timesQ ((rws M j t i).getD t []) (-(el (rws M j t i) i j))).all szB = true
  | 0, i, h, hi => by omega
  | n + 1, i, h, hi => by
    unfold okR at h
    simp only [Bool.and_eq_true] at h
    rcases Nat.lt_or_ge i n with hl | hl
    · exact okR_at h.1.1.1 hl
    · obtain rfl : i = n := by omega
      exact ⟨h.1.2, h.2⟩
/-- All rows have one length. -/
def rct (k : Nat) (M : List (List Rat)) : Prop := ∀ r ∈ M, r.length = k
theorem rct.getD {k : Nat} {M : List (List Rat)} (h : rct k M) {i : Nat} (hi : i < M.length) : (M.getD i []).length = k := by
  rw [List.getD_eq_getElem?_getD, List.getElem?_eq_getElem hi]
  exact h _ (List.getElem_mem hi)
theorem rct.set {k : Nat} {M : List (List Rat)} (h : rct k M) {i : Nat} {r : List Rat} (hr : r.length = k) : rct k (M.set i r) := by
  intro x hx
  rcases List.mem_or_eq_of_mem_set hx with hx | rfl
  · exact h x hx
  · exact hr
theorem timesQ_len {l : List Rat} {c : Rat} : (timesQ l c).length = l.length := by unfold timesQ; exact List.length_map _
theorem plusQ_len {a b : List Rat} (h : a.length = b.length) : (plusQ a b).length = a.length := by unfold plusQ; rw [List.length_zipWith, h, Nat.min_self]
theorem rws_len {M : List (List Rat)} {j t : Nat} : ∀ {n : Nat}, (rws M j t n).length = M.length
  | 0 => rfl
  | n + 1 => by
    show (rw1 (rws M j t n) j t n).length = _
    unfold rw1
    split
    · exact rws_len
    · rw [List.length_set]; exact rws_len
theorem rws_rect {M : List (List Rat)} {j t k : Nat} (h : rct k M) (ht : t < M.length) : ∀ {n : Nat}, n ≤ M.length → rct k (rws M j t n)
  | 0, _ => h
  | n + 1, hn => by
    have ih := rws_rect (j := j) h ht (n := n) (by omega)
    show rct k (rw1 (rws M j t n) j t n)
    unfold rw1
    split
    · exact ih
    · refine ih.set ?_
      have h1 := ih.getD (i := n) (by rw [rws_len]; omega)
      have h2 := ih.getD (i := t) (by rw [rws_len]; exact ht)
      rw [plusQ_len (by rw [timesQ_len, h1, h2])]
      exact h1
/-- The block of rows. -/
def Mx (cur : Array Value) (L : List (Sl Rw)) : Prop := ∀ (i : Nat) (s : Sl Rw), L[i]? = some s → cur[i]? = some s.v
theorem Mx.set {cur : Array Value} {L : List (Sl Rw)} (h : Mx cur L) {i : Nat} (x : Sl Rw) : Mx (cur.setIfInBounds i x.v) (L.set i x) := by
  intro k s hs
  by_cases hk : i = k
  · subst hk
    rcases Nat.lt_or_ge i L.length with hl | hl
    · rw [List.getElem?_set_self hl] at hs
      obtain rfl := Option.some.inj hs
      have h1 := h i _ (List.getElem?_eq_getElem hl)
      have : i < cur.size := (Array.getElem?_eq_some_iff.1 h1).1
      rw [Array.getElem?_setIfInBounds_self_of_lt this]
    · rw [List.getElem?_eq_none (by rw [List.length_set]; exact hl)] at hs
      cases hs
  · rw [List.getElem?_set_ne hk] at hs
    rw [Array.getElem?_setIfInBounds_ne hk]
    exact h k s hs
/-- What lies in memory: the rows, the factor, the result's place, the pivots. -/
def RSt (w wr : World) (g fb zb n k : Nat) (pv : Value) (s : GS) : Prop := ∃ (cur : Array Value) (bs : List GBk) (rs : List GRd) (L : List (Sl Rw)) (y z : Rw),
  Gro intC w wr ((g, cur, 33) :: (fb, y.vs, 44) :: (zb, z.vs, 44) :: bs) rs 3 pv (s.p.map Int.ofNat) ∧ L.length = n ∧ Mx cur L ∧ (∀ x ∈ L, RowI bs rs x) ∧ MatV L s.M ∧ rct k s.M ∧ rwI rs y ∧ rwV y = qV s.f
section
variable {w wr W' : World} {g fb zb n k : Nat} {pv : Value} {s : GS}
theorem RSt.call (h : RSt w wr g fb zb n k pv s) (hb : Below wr.heap.size wr W') : RSt w W' g fb zb n k pv s := by
  obtain ⟨cur, bs, rs, L, y, z, G, h⟩ := h
  exact ⟨cur, bs, rs, L, y, z, G.call hb, h⟩
theorem RSt.bel (h : RSt w wr g fb zb n k pv s) : Below w.heap.size w wr := by
  obtain ⟨cur, bs, rs, L, y, z, G, h⟩ := h
  exact G.st.bel
theorem RSt.len (h : RSt w wr g fb zb n k pv s) : s.M.length = n := by
  obtain ⟨cur, bs, rs, L, y, z, G, h1, h2, h3, h4, h5⟩ := h
  rw [← h4.len]; exact h1
theorem RSt.rect (h : RSt w wr g fb zb n k pv s) : rct k s.M := by
  obtain ⟨cur, bs, rs, L, y, z, G, h1, h2, h3, h4, h5, _⟩ := h
  exact h5
/-- A row, as it lies. -/
theorem RSt.row (h : RSt w wr g fb zb n k pv s) {i : Nat} (hi : i < n) : ∃ A c R, wr.cell? ⟨g, i, none⟩ = some (.slice A k c) ∧ LR rwC wr A k R ∧ R.map rwV = (s.M.getD i []).map qV ∧ (s.M.getD i []).length = k := by
  have hr := h.rect.getD (i := i) (by rw [h.len]; exact hi)
  obtain ⟨cur, bs, rs, L, y, z, G, h1, h2, h3, h4, h5⟩ := h
  have hx : L[i]? = some L[i] := List.getElem?_eq_getElem (by omega)
  obtain ⟨q, hq, hqm, hxq⟩ := map_at h4 hx
  have e : s.M.getD i [] = q := by rw [List.getD_eq_getElem?_getD, hq]; rfl
  have hl : L[i].L.length = k := by have := congrArg List.length hxq; rw [List.length_map, List.length_map, ← e, hr] at this; exact this
  have hc := (G.st.cb 0 rfl).cell (h2 i _ hx)
  refine ⟨L[i].A, L[i].c, L[i].L, ?_, ?_, ?_, hr⟩
  · rw [hc]; show some (Value.slice _ _ _) = _; rw [hl]
  · have := ((h3 L[i] (List.getElem_mem _)).mono (bs' := (g, cur, 33) :: (fb, y.vs, 44) :: (zb, z.vs, 44) :: bs) (rs' := rs) (fun p hp => List.mem_cons_of_mem _ (List.mem_cons_of_mem _ (List.mem_cons_of_mem _ hp))) (fun p hp => hp)).lr G.st
    rwa [hl] at this
  · rw [e]; exact hxq
/-- The factor, as it lies. -/
theorem RSt.fac (h : RSt w wr g fb zb n k pv s) : ∃ y : Rw, wr.cell? ⟨fb, 0, none⟩ = some (.bool y.b) ∧ wr.cell? ⟨fb, 1, none⟩ = some (.slice y.x.A y.x.n y.x.c) ∧ wr.cell? ⟨fb, 2, none⟩ = some (.slice y.y.A y.y.n y.y.c) ∧ rwV y = qV s.f ∧ Rd wr y.x.A y.x.n y.x.c y.x.x ∧ Rd wr y.y.A y.y.n y.y.c y.y.x := by
  obtain ⟨cur, bs, rs, L, y, z, G, h1, h2, h3, h4, h5, h6, h7⟩ := h
  exact ⟨y, (G.st.cb 1 rfl).cell rfl, (G.st.cb 1 rfl).cell rfl, (G.st.cb 1 rfl).cell rfl, h7, G.st.rd _ h6.1, G.st.rd _ h6.2⟩
theorem RSt.cells (h : RSt w wr g fb zb n k pv s) : (∀ i, wr.frozen? ⟨g, i, none⟩ = false) ∧ (∀ i, wr.frozen? ⟨fb, i, none⟩ = false) ∧ (∀ i, wr.frozen? ⟨zb, i, none⟩ = false) := by
  obtain ⟨cur, bs, rs, L, y, z, G, h⟩ := h
  exact ⟨fun i => G.st.f 0 i rfl, fun i => G.st.f 1 i rfl, fun i => G.st.f 2 i rfl⟩
theorem RSt.zcell (h : RSt w wr g fb zb n k pv s) : ∃ z : Rw, wr.cell? ⟨zb, 0, none⟩ = some (.bool z.b) ∧ wr.cell? ⟨zb, 1, none⟩ = some (.slice z.x.A z.x.n z.x.c) ∧ wr.cell? ⟨zb, 2, none⟩ = some (.slice z.y.A z.y.n z.y.c) := by
  obtain ⟨cur, bs, rs, L, y, z, G, h1, h2, h3, h4, h5, h6, h7⟩ := h
  exact ⟨z, (G.st.cb 2 rfl).cell rfl, (G.st.cb 2 rfl).cell rfl, (G.st.cb 2 rfl).cell rfl⟩
/-- A change of what lies in memory, the pivots left open. -/
theorem RSt.step {α : Type} {C : Cod α} {e : Nat} {bs bs' : List GBk} {rs rs' : List GRd} {v : Value} {L : List α} (G : Gro C w wr bs rs e v L) (hC : ∀ x w bs rs, C.In w bs rs x) (h : ∀ ob, St w wr (bs ++ ob) rs → St w W' (bs' ++ ob) rs') : Gro C w W' bs' rs' e v L := by
  obtain ⟨ob, h1, h2⟩ := G.1.open_
  exact ⟨Apd.close h1 (h ob h2), fun x _ => hC x _ _ _⟩
theorem intC_in : ∀ (x : Int) w bs rs, intC.In w bs rs x := fun _ _ _ _ => trivial
/-- A row is stored. -/
theorem RSt.put (h : RSt w wr g fb zb n k pv s) {bs' : List GBk} {rs' : List GRd} {A : Option Addr} {c i : Nat} {R : List Rw} {r : List Rat} (S : St wr W' bs' rs') (hI : RowI bs' rs' ⟨A, c, R⟩) (hR : R.map rwV = r.map qV) (hr : r.length = k) : RSt w (W'.setCell ⟨g, i, none⟩ (.slice A k c)) g fb zb n k pv ⟨s.M.set i r, s.p, s.f⟩ := by
  obtain ⟨cur, bs, rs, L, y, z, G, h1, h2, h3, h4, h5, h6, h7⟩ := h
  have hl : R.length = k := by have := congrArg List.length hR; rw [List.length_map, List.length_map, hr] at this; exact this
  have e : (⟨A, c, R⟩ : Sl Rw).v = .slice A k c := by show Value.slice _ _ _ = _; rw [hl]
  refine ⟨cur.setIfInBounds i (⟨A, c, R⟩ : Sl Rw).v, bs ++ bs', rs ++ rs', L.set i ⟨A, c, R⟩, y, z, RSt.step G intC_in fun ob h => ?_, by rw [List.length_set]; exact h1, h2.set _, fun x hx => ?_, ?_, h5.set hr, h6.mono (fun p hp => List.mem_append_left _ hp), h7⟩
  · have h8 := (h.join S).set 0 i (.slice A k c) rfl (fun _ e => by cases e)
    rw [e]
    refine h8.prm ?_
    simp only [List.cons_append, List.set_cons_zero, List.append_assoc]
    refine ((List.Perm.append_left bs List.perm_append_comm).cons _ |>.cons _ |>.cons _)
  · rcases List.mem_or_eq_of_mem_set hx with hx | rfl
    · exact (h3 x hx).mono (fun p hp => List.mem_append_left _ hp) (fun p hp => List.mem_append_left _ hp)
    · exact hI.mono (fun p hp => List.mem_append_right _ hp) (fun p hp => List.mem_append_right _ hp)
  · unfold MatV at *
    rw [List.map_set, List.map_set, h4, hR]
/-- Two rows change their places. -/
theorem RSt.swap (h : RSt w wr g fb zb n k pv s) {a t : Nat} {va vt : Value} (ha : a < n) (ht : t < n) (ca : wr.cell? ⟨g, a, none⟩ = some va) (ct : wr.cell? ⟨g, t, none⟩ = some vt) : RSt w ((wr.setCell ⟨g, a, none⟩ vt).setCell ⟨g, t, none⟩ va) g fb zb n k pv ⟨swp s.M a t, s.p, s.f⟩ := by
  obtain ⟨cur, bs, rs, L, y, z, G, h1, h2, h3, h4, h5, h6, h7⟩ := h
  have xa : L[a]? = some L[a] := List.getElem?_eq_getElem (by omega)
  have xt : L[t]? = some L[t] := List.getElem?_eq_getElem (by omega)
  have ka := (G.st.cb 0 rfl).cell (h2 a _ xa)
  have kt := (G.st.cb 0 rfl).cell (h2 t _ xt)
  rw [ca] at ka
  rw [ct] at kt
  obtain rfl := Option.some.inj ka
  obtain rfl := Option.some.inj kt
  obtain ⟨qa, hqa, _, hxa⟩ := map_at h4 xa
  obtain ⟨qt, hqt, _, hxt⟩ := map_at h4 xt
  have ea : s.M.getD a [] = qa := by rw [List.getD_eq_getElem?_getD, hqa]; rfl
  have et : s.M.getD t [] = qt := by rw [List.getD_eq_getElem?_getD, hqt]; rfl
  refine ⟨(cur.setIfInBounds a L[t].v).setIfInBounds t L[a].v, bs, rs, (L.set a L[t]).set t L[a], y, z, RSt.step G intC_in fun ob h => ?_, by rw [List.length_set, List.length_set]; exact h1, (h2.set _).set _, fun x hx => ?_, ?_, ?_, h6, h7⟩
  · exact (h.set 0 a L[t].v rfl (fun _ e => by cases e)).set 0 t L[a].v rfl (fun _ e => by cases e)
  · rcases List.mem_or_eq_of_mem_set hx with hx | rfl
    · rcases List.mem_or_eq_of_mem_set hx with hx | rfl
      · exact h3 x hx
      · exact h3 _ (List.getElem_mem _)
    · exact h3 _ (List.getElem_mem _)
  · unfold MatV at *
    show _ = ((s.M.set a (s.M.getD t [])).set t (s.M.getD a [])).map _
    rw [ea, et, List.map_set, List.map_set, List.map_set, List.map_set, h4, hxa, hxt]
  · show rct k ((s.M.set a (s.M.getD t [])).set t (s.M.getD a []))
    refine (h5.set ?_).set ?_
    · rw [et]; exact h5 _ (List.mem_of_getElem? hqt)
    · rw [ea]; exact h5 _ (List.mem_of_getElem? hqa)
/-- The factor is stored. -/
theorem RSt.putf (h : RSt w wr g fb zb n k pv s) {A : Option Addr} {m c : Nat} {D : Option Addr} {m' d : Nat} {q : Rat} (X : RR W' A m c D m' d q) (hb : Below wr.heap.size wr W') : RSt w (((W'.setCell ⟨fb, 0, none⟩ (.bool (ng q.num))).setCell ⟨fb, 1, none⟩ (.slice A m c)).setCell ⟨fb, 2, none⟩ (.slice D m' d)) g fb zb n k pv ⟨s.M, s.p, q⟩ := by
  obtain ⟨cur, bs, rs, L, y, z, G, h1, h2, h3, h4, h5, h6, h7⟩ := h
  refine ⟨cur, bs, (A, m, c, limbs q.num.natAbs) :: (D, m', d, dn q) :: rs, L, ⟨ng q.num, ⟨A, m, c, limbs q.num.natAbs⟩, ⟨D, m', d, dn q⟩⟩, z, RSt.step G intC_in fun ob h => ?_, h1, h2, fun x hx => (h3 x hx).mono (fun p hp => hp) (fun p hp => List.mem_cons_of_mem _ (List.mem_cons_of_mem _ hp)), h4, h5, ⟨List.mem_cons_self, List.mem_cons_of_mem _ List.mem_cons_self⟩, rfl⟩
  exact St_put3 (p := 1) (((h.call hb).read X.d).read X.n) rfl ⟨ng q.num, ⟨A, m, c, limbs q.num.natAbs⟩, ⟨D, m', d, dn q⟩⟩
/-- The result's place is stored to. -/
theorem RSt.putz (h : RSt w wr g fb zb n k pv s) (y : Rw) : RSt w (((wr.setCell ⟨zb, 0, none⟩ (.bool y.b)).setCell ⟨zb, 1, none⟩ (.slice y.x.A y.x.n y.x.c)).setCell ⟨zb, 2, none⟩ (.slice y.y.A y.y.n y.y.c)) g fb zb n k pv s := by
  obtain ⟨cur, bs, rs, L, y0, z, G, h1, h2, h3, h4, h5, h6, h7⟩ := h
  exact ⟨cur, bs, rs, L, y0, y, RSt.step G intC_in fun ob h => St_put3 (p := 2) h rfl y, h1, h2, h3, h4, h5, h6, h7⟩
end
/-- The rows' block of a matrix of the call's own. -/
theorem Gro.dmat {w W : World} {bs : List GBk} {rs : List GRd} {e : Nat} {v : Value} {L : List (Sl Rw)} (h : Gro (slC rwC) w W bs rs e v L) (h0 : 1 ≤ L.length) : ∃ g c cur, v = .slice (some ⟨g, 0, none⟩) L.length c ∧ St w W ((g, cur, e) :: bs) rs ∧ Mx cur L := by
  obtain ⟨⟨h1, h2, ⟨rfl, h3, S⟩ | ⟨g, cap, cur, rfl, h3, h4, h5, h6, S⟩⟩, _⟩ := h
  · omega
  · refine ⟨g, cap, cur, rfl, S, fun i s hs => ?_⟩
    have := all_get (C := slC rwC) hs 0 s.v rfl
    rw [show (slC rwC).sz = 1 from rfl, Nat.mul_one, Nat.add_zero, ← h6, List.getElem?_take] at this
    split at this
    · simpa using this
    · cases this
end Go.Proofs.YtlflaalefilplaaDoor
