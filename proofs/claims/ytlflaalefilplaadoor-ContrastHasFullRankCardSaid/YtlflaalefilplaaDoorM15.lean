/- Matrices of small numbers, as they lie in memory. -/
import Derived.Test.YtlflaalefilplaaDoorM14
namespace Go.Proofs.YtlflaalefilplaaDoor
open Go.RowKit
set_option linter.unusedVariables false

theorem noLof {xs : List Value} (h : xs.all (fun v => match v with | .int .u32 _ => false | _ => true) = true) : NoL xs.toArray := by
  refine NoLl.arr fun v hv z e => ?_
  have := List.all_eq_true.1 h v hv
  rw [e] at this
  cases this
/-- What is read of a fraction; what is read of a number. -/
def rwV (x : Rw) : Bool × List Nat × List Nat := (x.b, x.x.x, x.y.x)
def qV (q : Rat) : Bool × List Nat × List Nat := (ng q.num, limbs q.num.natAbs, dn q)
/-- The limbs are known. -/
def rwI (rs : List GRd) (x : Rw) : Prop := (x.x.A, x.x.n, x.x.c, x.x.x) ∈ rs ∧ (x.y.A, x.y.n, x.y.c, x.y.x) ∈ rs
theorem rwI.in_ {rs : List GRd} {x : Rw} (h : rwI rs x) (w : World) (bs : List GBk) : rwC.In w bs rs x := ⟨trivial, .inl h.1, .inl h.2⟩
theorem rwI.mono {rs rs' : List GRd} {x : Rw} (h : rwI rs x) (hr : ∀ p ∈ rs, p ∈ rs') : rwI rs' x := ⟨hr _ h.1, hr _ h.2⟩
/-- A row whose block and limbs are known. -/
structure RowI (bs : List GBk) (rs : List GRd) (s : Sl Rw) : Prop where
  cap : s.L.length ≤ s.c
  el : ∀ x ∈ s.L, rwI rs x
  mem : s.L = [] ∨ ∃ (g : Nat) (cur : Array Value) (t : Nat), s.A = some ⟨g, 0, none⟩ ∧ (g, cur, t) ∈ bs ∧ ∀ (j : Nat) v, (rwC.all s.L)[j]? = some v → cur[j]? = some v
section
variable {bs bs' : List GBk} {rs rs' : List GRd} {s : Sl Rw} {w W W' : World}
theorem RowI.mono (h : RowI bs rs s) (hb : ∀ p ∈ bs, p ∈ bs') (hr : ∀ p ∈ rs, p ∈ rs') : RowI bs' rs' s := by
  refine ⟨h.cap, fun x hx => (h.el x hx).mono hr, ?_⟩
  rcases h.mem with h0 | ⟨g, cur, t, h1, h2, h3⟩
  · exact .inl h0
  · exact .inr ⟨g, cur, t, h1, hb _ h2, h3⟩
theorem RowI.in_ (h : RowI bs rs s) (w : World) : (slC rwC).In w bs rs s := by
  refine ⟨⟨rfl, ?_, fun x hx => (h.el x hx).in_ w bs⟩, h.cap⟩
  rcases h.mem with h0 | ⟨g, cur, t, h1, h2, h3⟩
  · exact .inl (by rw [h0]; rfl)
  · exact .inr (.inr ⟨g, cur, t, h1, h2, h3⟩)
theorem RowI.nil_ (bs : List GBk) (rs : List GRd) : RowI bs rs ⟨none, 0, []⟩ := ⟨Nat.le_refl _, fun x hx => (by cases hx), Or.inl rfl⟩
theorem St.join {w W W' : World} {bs bs' : List GBk} {rs rs' : List GRd} (h : St w W bs rs) (h' : St W W' bs' rs') : St w W' (bs ++ bs') (rs ++ rs') := by
  refine ⟨h.bel.trans (h'.bel.mono h.bel.size), fun p hp => ?_, List.pairwise_append.2 ⟨h.nd, h'.nd, fun p hp q hq => ?_⟩, fun r hr => ?_⟩
  · rcases List.mem_append.1 hp with hp | hp
    · obtain ⟨q1, q2, q3⟩ := h.bk p hp
      exact ⟨q1.bel h'.bel, q2, q3⟩
    · obtain ⟨q1, q2, q3⟩ := h'.bk p hp
      exact ⟨q1, q2, Nat.le_trans h.bel.size q3⟩
  · have a := (h.bk p hp).1.lt
    have b := (h'.bk q hq).2.2
    omega
  · rcases List.mem_append.1 hr with hr | hr
    · exact (h.rd r hr).below h'.bel
    · exact h'.rd r hr
theorem Gro.joinr {α : Type} {C : Cod α} {e : Nat} {v : Value} {L : List α} (h : Gro C w W bs rs e v L) (S : St W W' bs' rs') : Gro C w W' (bs ++ bs') (rs ++ rs') e v L := by
  obtain ⟨ob, h1, h2⟩ := h.1.open_
  refine ⟨Apd.close h1 ?_, fun x hx => C.mono (h.2 x hx) (fun p hp => List.mem_append_left _ hp) (fun p hp => List.mem_append_left _ hp)⟩
  have h3 := h2.join S
  refine h3.prm ?_
  rw [List.append_assoc, List.append_assoc]
  exact List.Perm.append_left bs List.perm_append_comm
theorem Gro.drow {e : Nat} {v : Value} {L : List Rw} (h : Gro rwC w W bs rs e v L) (hx : ∀ x ∈ L, rwI rs x) : ∃ A c bs', v = .slice A L.length c ∧ St w W bs' rs ∧ (∀ p ∈ bs, p ∈ bs') ∧ RowI bs' rs ⟨A, c, L⟩ := by
  obtain ⟨⟨h1, h2, ⟨rfl, h3, S⟩ | ⟨g, cap, cur, rfl, h3, h4, h5, h6, S⟩⟩, _⟩ := h
  · have : L = [] := List.length_eq_zero_iff.1 h3
    subst this
    exact ⟨none, 0, bs, rfl, S, fun _ h => h, .nil_ _ _⟩
  · refine ⟨_, _, _, rfl, S, fun _ h => List.mem_cons_of_mem _ h, h3, hx, .inr ⟨g, cur, e, rfl, List.mem_cons_self, fun j u hu => ?_⟩⟩
    rw [← h6, List.getElem?_take] at hu
    split at hu
    · simpa using hu
    · cases hu
end
/-- Rows that read as a matrix. -/
def MatV (L : List (Sl Rw)) (M : List (List Rat)) : Prop := L.map (fun s => s.L.map rwV) = M.map (fun r => r.map qV)
theorem MatV.len {L : List (Sl Rw)} {M : List (List Rat)} (h : MatV L M) : L.length = M.length := by have := congrArg List.length h; simpa using this
theorem MatV.snoc {L : List (Sl Rw)} {M : List (List Rat)} {s : Sl Rw} {r : List Rat} (h : MatV L M) (hs : s.L.map rwV = r.map qV) : MatV (L ++ [s]) (M ++ [r]) := by
  unfold MatV at *
  rw [List.map_append, List.map_append, h]
  simp [hs]
/-- What a function gives back that returns a matrix. -/
def MatR (M : List (List Rat)) (w : World) (e : Ending) (w' : World) : Prop := ∃ A c L, e = .returned (.tuple #[.slice A L.length c, .int .i64 0]) ∧ LR (slC rwC) w' A L.length L ∧ L.length ≤ c ∧ MatV L M ∧ Below w.heap.size w w'
/-- A row of a coding's matrix, and the matrix. -/
def cols (k : Int) (n : Nat) : Nat := if k = 4 then n else n - 1
def rowM (k : Int) (n i : Nat) : List Rat := (List.range (cols k n)).map fun (j : Nat) => (((ent k n i j : Int)) : Rat)
def cM (k : Int) (n : Nat) : List (List Rat) := (List.range n).map (rowM k n)
theorem rowM_take {k : Int} {n i j : Nat} (h : j < cols k n) : (rowM k n i).take (j + 1) = (rowM k n i).take j ++ [((ent k n i j : Int) : Rat)] := by
  have hl : j < (rowM k n i).length := by simp [rowM, h]
  rw [List.take_add_one, List.getElem?_eq_getElem hl]
  simp [rowM]
theorem rowM_len {k : Int} {n i : Nat} : (rowM k n i).length = cols k n := by simp [rowM]
theorem cM_take {k : Int} {n i : Nat} (h : i < n) : (cM k n).take (i + 1) = (cM k n).take i ++ [rowM k n i] := by
  have hl : i < (cM k n).length := by simp [cM, h]
  rw [List.take_add_one, List.getElem?_eq_getElem hl]
  simp [cM]
theorem cM_len {k : Int} {n : Nat} : (cM k n).length = n := by simp [cM]
theorem ent_range {k n i j : Int} (i0 : 0 ≤ i) (i1 : i ≤ 1000) : -1 ≤ ent k n i j ∧ ent k n i j ≤ 1000 := by
  unfold ent
  rcases tru_range (i == j) with e | e <;> rcases tru_range (i == j + 1) with e2 | e2 <;> rw [e, e2] <;> (repeat' split) <;> omega
theorem rr_rw {w : World} {A : Option Addr} {n c : Nat} {D : Option Addr} {m d : Nat} {q : Rat} (h : RR w A n c D m d q) : rwV ⟨ng q.num, ⟨A, n, c, limbs q.num.natAbs⟩, ⟨D, m, d, dn q⟩⟩ = qV q := rfl
end Go.Proofs.YtlflaalefilplaaDoor
namespace Go.Proofs.YtlflaalefilplaaDoor
open Go.RowKit
set_option linter.unusedVariables false

set_option maxRecDepth 100000 in
set_option maxHeartbeats 4000000 in
theorem rmat_no (k n : Int) (w : World) (h : posB k n = false) : Calls Tryd.prog 8 #[.int .i64 k, .int .i64 n] w fun e w' => e = .returned (.tuple #[.slice none 0 0, .int .i64 1]) ∧ Below w.heap.size w w' := by
  have hP := possible_any k n w
  rw [h] at hP
  have hB := Lib.hid (Below.refl w.heap.size w)
  go_enter Tryd.func8, Tryd.ntmps8
  go_wp2_with fail
  refine hP.mono ?_
  rintro e w1 ⟨rfl, rfl⟩
  go_wp2
  go_ret2
  exact ⟨rfl, hB.out⟩

set_option maxRecDepth 100000 in
set_option maxHeartbeats 4000000 in
theorem rmat_yes (k : Int) (n : Nat) (w : World) (hk : 1 ≤ k) (hk4 : k ≤ 4) (n0 : 1 ≤ n) (n1 : n ≤ 32) : Calls Tryd.prog 8 #[.int .i64 k, .int .i64 n] w (MatR (cM k n) w) := by
  have hP := possible_any k n w
  rw [show posB k n = true by simp [posB]; omega] at hP
  have hC : Hid (∀ W, Calls Tryd.prog 25 #[.int .i64 k, .int .i64 n] W fun e w' => e = .returned (.int .i64 (cols k n : Nat)) ∧ w' = W) := Lib.hid fun W => by
    have := columns_any n W k (by omega) (by omega)
    rw [show (if k = 4 then (n : Int) else n - 1) = (cols k n : Nat) by unfold cols; split <;> omega] at this
    exact this
  have hE : Hid (∀ (i j : Nat) W, j ≤ 32 → Calls Tryd.prog 26 #[.int .i64 k, .int .i64 n, .int .i64 i, .int .i64 j] W fun e w' => e = .returned (.int .i64 (ent k n i j)) ∧ w' = W) := Lib.hid fun i j W hj => entry_any k n i j W hk hk4 (by omega) (by omega) (by omega) (by omega)
  have hc32 : Hid (cols k n ≤ 32) := Lib.hid (by unfold cols; split <;> omega)
  have S := Lib.hid (St.new w)
  have hn1 := Lib.hid n1
  clear hk hk4 n0 n1
  go_enter Tryd.func8, Tryd.ntmps8
  go_wp2_with fail
  refine hP.mono ?_
  rintro e w1 ⟨rfl, rfl⟩
  clear hP
  go_wp2
  go_loopw [6, 7] (fun av iv wr => ∃ (i : Nat) (bs : List GBk) (rs : List GRd) (L : List (Sl Rw)), i ≤ n ∧ iv = .int .i64 i ∧ Gro (slC rwC) w1 wr bs rs 33 av L ∧ (∀ s ∈ L, RowI bs rs s) ∧ MatV L ((cM k n).take i)) (fun _ iv _ => n - (intOf iv).toNat)
  case atStart => exact ⟨0, [], [], [], Nat.zero_le _, rfl, Gro.nil_ (slC rwC) S.out _, fun s hs => (by cases hs), rfl⟩
  case round =>
    clear S
    obtain ⟨i, bs, rs, L, hin, rfl, G, hL, hM⟩ := hrel
    by_cases hlt : i < n
    · have g1 : (i : Int) < (n : Int) := by omega
      have hih := Lib.hid hlt
      replace G := Lib.hid G
      replace hL := Lib.hid hL
      replace hM := Lib.hid hM
      clear hlt hin
      rename World => W0
      go_wp2
      go_loopw [8, 9] (fun rv jv wr => ∃ (j : Nat) (rs' : List GRd) (R : List Rw), j ≤ cols k n ∧ jv = .int .i64 j ∧ Gro rwC W0 wr [] rs' 44 rv R ∧ (∀ x ∈ R, rwI rs' x) ∧ R.map rwV = ((rowM k n i).take j).map qV) (fun _ jv _ => cols k n - (intOf jv).toNat)
      case atStart => exact ⟨0, [], [], Nat.zero_le _, rfl, Gro.nil_ rwC (St.new W0) _, fun s hs => (by cases hs), rfl⟩
      case round =>
        obtain ⟨j, rs', R, hjn, rfl, GR, hR, hV⟩ := hrel
        by_cases hlt : j < cols k n
        · have g2 : (j : Int) < ((cols k n : Nat) : Int) := by omega
          have hjh := Lib.hid hlt
          have hRl : Hid (R.length = j) := Lib.hid (by have := congrArg List.length hV; rw [List.length_map, List.length_map, List.length_take, rowM_len] at this; omega)
          replace GR := Lib.hid GR
          replace hR := Lib.hid hR
          replace hV := Lib.hid hV
          clear hlt hjn
          go_wp2_with fail
          refine (hC.out _).mono ?_
          rintro e w2 ⟨rfl, rfl⟩
          go_wp2_with fail
          refine (hE.out i j _ (by have := hjh.out; have := hc32.out; omega)).mono ?_
          rintro e w3 ⟨rfl, rfl⟩
          have hF := Lib.hid (FfromInt_any (ent k n i j) w3 (by have := ent_range (k := k) (n := n) (i := i) (j := j) (by omega) (by have := hih.out; have := hn1.out; omega); omega) (by have := ent_range (k := k) (n := n) (i := i) (j := j) (by omega) (by have := hih.out; have := hn1.out; omega); omega))
          go_wp2_with fail
          refine hF.out.mono ?_
          rintro e w4 ⟨A, m, c, D, m', d, rfl, X, bb⟩
          obtain ⟨q, hq⟩ : ∃ q : Rat, q = ((ent k n i j : Int) : Rat) := ⟨_, rfl⟩
          rw [← hq] at X ⊢
          obtain ⟨y, hy⟩ : ∃ y : Rw, y = ⟨ng q.num, ⟨A, m, c, limbs q.num.natAbs⟩, ⟨D, m', d, dn q⟩⟩ := ⟨_, rfl⟩
          have hyV : Hid (rwV y = qV q) := Lib.hid (by rw [hy]; rfl)
          have hcs : rwC.cs y = [.bool (ng q.num), .slice A m c, .slice D m' d] := by rw [hy]; rfl
          have hyI : Hid (rwI ((A, m, c, limbs q.num.natAbs) :: (D, m', d, dn q) :: rs') y) := Lib.hid (by rw [hy]; exact ⟨List.mem_cons_self, List.mem_cons_of_mem _ List.mem_cons_self⟩)
          have GA := Lib.hid ((((GR.out.call bb).read X.d).read X.n).alloc #[.bool (ng q.num), .slice A m c, .slice D m' d] 44 (noL3 _ _ _ _ _ _ _))
          clear GR X bb hy hF
          replace hq := Lib.hid hq
          go_wp2_with (at_builtin; refine Gro.wp rfl (.tmp 26) (.tmp 33) 33 rfl (.agg #[.bool false, .slice none 0 0, .slice none 0 0]) 56 Tryd.underlying33 (by kernel_rfl) rfl (fun v hv z e => by simp [Value.cells] at hv; subst e; simp at hv) rfl GA.out w4.heap.size y rfl (by rw [hcs]; exact (GA.out.st).cb 0 rfl) (hyI.out.in_ _ _) (by have := hRl.out; have := hjh.out; have := hc32.out; omega) (by have := hRl.out; have := hjh.out; have := hc32.out; unfold maxLen; omega) ?_)
          intro v' w5 G5
          have G6 := Lib.hid (Gro.sub G5 (fun x hx => by
            rcases List.mem_append.1 hx with hx | hx
            · exact (((hR.out x hx).mono (fun p hp => List.mem_cons_of_mem _ (List.mem_cons_of_mem _ hp))).in_ _ _)
            · rw [List.mem_singleton.1 hx]; exact hyI.out.in_ _ _))
          have hR6 : Hid (∀ x ∈ R ++ [y], rwI ((A, m, c, limbs q.num.natAbs) :: (D, m', d, dn q) :: rs') x) := Lib.hid fun x hx => by
            rcases List.mem_append.1 hx with hx | hx
            · exact (hR.out x hx).mono (fun p hp => List.mem_cons_of_mem _ (List.mem_cons_of_mem _ hp))
            · rw [List.mem_singleton.1 hx]; exact hyI.out
          have hV6 : Hid ((R ++ [y]).map rwV = ((rowM k n i).take (j + 1)).map qV) := Lib.hid (by
            rw [rowM_take hjh.out, List.map_append, List.map_append, hV.out, ← hq.out]
            simp only [List.map_cons, List.map_nil, hyV.out])
          have hjb : Hid (j ≤ 32) := Lib.hid (by have := hjh.out; have := hc32.out; omega)
          clear G5 GA hR hV hyI hyV hcs hRl hq
          have hlt := hjh.out
          have hj3 := hjb.out
          go_wp2
          go_roundw
          case rel => exact ⟨j + 1, _, _, by omega, by go_num, G6.out, hR6.out, hV6.out⟩
          case measure => simp [intOf]; omega
        · obtain rfl : j = cols k n := by omega
          rw [List.take_of_length_le (by rw [rowM_len]; exact Nat.le_refl _)] at hV
          obtain ⟨A, c, bs', hv, S2, _, hrow⟩ := GR.drow hR
          subst hv
          have hRl : R.length = cols k n := by have := congrArg List.length hV; rw [List.length_map, List.length_map, rowM_len] at this; exact this
          have G2 := G.out.joinr S2
          have hL2 : Hid (∀ s ∈ L, RowI (bs ++ bs') (rs ++ rs') s) := Lib.hid fun s hs => (hL.out s hs).mono (fun p hp => List.mem_append_left _ hp) (fun p hp => List.mem_append_left _ hp)
          have hrow2 : Hid (RowI (bs ++ bs') (rs ++ rs') ⟨A, c, R⟩) := Lib.hid (hrow.mono (fun p hp => List.mem_append_right _ hp) (fun p hp => List.mem_append_right _ hp))
          have hLl : Hid (L.length = i) := Lib.hid (by rw [hM.out.len, List.length_take, cM_len]; have := hih.out; omega)
          have GA := Lib.hid (G2.alloc #[.slice A R.length c] 33 (noLof rfl))
          have hM2 : Hid (MatV (L ++ [⟨A, c, R⟩]) ((cM k n).take (i + 1))) := Lib.hid (by rw [cM_take hih.out]; exact hM.out.snoc hV)
          clear G2 hrow S2 hV hR GR G hL hM hjn hlt hRl
          go_wp2_with fail
          refine (hC.out _).mono ?_
          rintro e w2 ⟨rfl, rfl⟩
          go_wp2_with (at_builtin; refine Gro.wp rfl (.tmp 35) (.tmp 37) 22 rfl (.slice none 0 0) 24 Tryd.underlying22 (by kernel_rfl) rfl (fun v hv z e => by simp [Value.cells] at hv; subst hv; cases e) rfl GA.out w2.heap.size ⟨A, c, R⟩ rfl ((GA.out.st).cb 0 rfl) ((hrow2.out.mono (fun p hp => List.mem_cons_of_mem _ hp) (fun p hp => hp)).in_ _) (by have := hLl.out; have := hih.out; have := hn1.out; omega) (by have := hLl.out; have := hih.out; have := hn1.out; unfold maxLen; omega) ?_)
          intro v' w5 G5
          have hL6 : Hid (∀ s ∈ L ++ [⟨A, c, R⟩], RowI (bs ++ bs') (rs ++ rs') s) := Lib.hid fun s hs => by
            rcases List.mem_append.1 hs with hs | hs
            · exact hL2.out s hs
            · rw [List.mem_singleton.1 hs]; exact hrow2.out
          have G6 := Lib.hid (Gro.sub G5 (fun x hx => (hL6.out x hx).in_ _))
          clear G5 GA hL2 hrow2 hLl
          have hlt := hih.out
          have hn3 := hn1.out
          go_wp2
          go_roundw
          case rel => exact ⟨i + 1, _, _, _, by omega, by go_num, G6.out, hL6.out, hM2.out⟩
          case measure => simp [intOf]; omega
    · obtain rfl : i = n := by omega
      rw [List.take_of_length_le (by rw [cM_len]; exact Nat.le_refl _)] at hM
      obtain ⟨A, c, bs2, hv, S2, _, hl⟩ := G.done
      have hcap : L.length ≤ c := by
        obtain ⟨⟨_, _, ⟨hv2, h0, _⟩ | ⟨g, cap, cur, hv2, hle, _⟩⟩, _⟩ := G
        · omega
        · rw [hv] at hv2; injection hv2 with _ _ h3; omega
      subst hv
      have hres := Lib.hid (show MatR (cM k i) w1 _ wr from ⟨A, c, L, rfl, hl.lr S2, hcap, hM, S2.bel⟩)
      clear G hL hM S2 hl hcap hin hlt
      go_wp2
      go_ret2
      exact hres.out
end Go.Proofs.YtlflaalefilplaaDoor
