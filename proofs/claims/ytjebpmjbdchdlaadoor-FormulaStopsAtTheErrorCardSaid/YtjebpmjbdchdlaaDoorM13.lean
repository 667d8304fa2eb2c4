/- The program's written. -/
import Derived.Test.YtjebpmjbdchdlaaDoorM12
import Derived.Sort.CutIn
namespace Go.Proofs.YtjebpmjbdchdlaaDoor
open Go.RowKit Go.Shelf
attribute [local go_sem] Oper.semAt_some
set_option linter.unusedVariables false

section
variable {P : Program} {ops : Array Oper} {Q : Exit → Act → World → Prop} {S : World → Prop}
/-- A step that only looks, where nothing is made any more. -/
theorem Wk.t {i : Nat} {oi : Oper} {v : Value} {L : Array Bool} {a : Act} {w : World} (dst : Option Nat) (hi : ops[i]? = some oi) (hd : oi.dst = dst := by rfl) (hc : (Region.noSelect ops && Region.free .any ops L i && (Region.ready .any ops L).contains i) = true := by kernel_rfl) (hw : Region.wanted oi (yielded ops a.tmps) = true := by kernel_rfl)
    (hQ : ∀ c a w, Q (.panic c) (Act.put a dst v) w → Q (.panic c) a w := by exact fun _ _ _ h => h) (hS : S w) (hy : ∀ w, S w → (execOp a.eval oi).run P w = .ok (.value v) w)
    (h : Wk P ops Q S (L.setIfInBounds i true) (a.put dst v) w) : Wk P ops Q S L a w := by
  simp only [Bool.and_eq_true] at hc
  subst hd
  exact Wk.take hi hc.1.1 hc.1.2 hc.2 hQ (.inl ⟨hw, hy⟩) hS h
end
theorem ph_in {w : World} {bs : List GBk} {rs : List GRd} (x : F9.Bs × Nat) : phC.In w bs rs x := ⟨trivial, trivial⟩
/-- The rule in the table. -/
def rlN (q : Nat) : Nat := if 5 ≤ q ∧ q ≤ 9 then F9.rul q else if q = 10 then 4 else 5
theorem rlT_eq (x : F9.Nd) : rlT x = rlN x.op := rfl
theorem og_all {W : World} (h : Og W) {q : Nat} (h1 : 1 ≤ q) (h2 : q ≤ 10) : ∃ (s : ByteArray) (b : Bool) (lo hi : Int), W.cell? ⟨0, q * 6, none⟩ = some (.string s) ∧ W.cell? ⟨0, q * 6 + 1, none⟩ = some (.int .i64 (rlN q : Nat)) ∧ W.cell? ⟨0, q * 6 + 2, none⟩ = some (.int .i64 (F9.ari q : Nat)) ∧ W.cell? ⟨0, q * 6 + 3, none⟩ = some (.bool b) ∧ W.cell? ⟨0, q * 6 + 4, none⟩ = some (.int .i64 lo) ∧ W.cell? ⟨0, q * 6 + 5, none⟩ = some (.int .i64 hi) := by
  have hc : q = 1 ∨ q = 2 ∨ q = 3 ∨ q = 4 ∨ q = 5 ∨ q = 6 ∨ q = 7 ∨ q = 8 ∨ q = 9 ∨ q = 10 := by omega
  rcases hc with rfl | rfl | rfl | rfl | rfl | rfl | rfl | rfl | rfl | rfl
  all_goals exact ⟨_, _, _, _, h.2 _ _ rfl, h.2 _ _ rfl, h.2 _ _ rfl, h.2 _ _ rfl, h.2 _ _ rfl, h.2 _ _ rfl⟩
/-- The stack behind i rounds. -/
def PH (N : List F9.Nd) (i : Nat) : List (F9.Bs × Nat) := (N.drop (N.length - i)).foldr F9.ph1 []
theorem PH_zero (N : List F9.Nd) : PH N 0 = [] := by unfold PH; rw [Nat.sub_zero, List.drop_length]; rfl
theorem PH_all (N : List F9.Nd) : PH N N.length = N.foldr F9.ph1 [] := by unfold PH; rw [Nat.sub_self, List.drop_zero]
theorem PH_succ {N : List F9.Nd} {i : Nat} {x : F9.Nd} (hi : i < N.length) (hx : N[N.length - 1 - i]? = some x) : PH N (i + 1) = F9.ph1 x (PH N i) := by
  unfold PH
  have e : N.length - (i + 1) = N.length - 1 - i := by omega
  have e2 : N.length - i = N.length - 1 - i + 1 := by omega
  rw [e, e2, drop_one hx]
  rfl
theorem PH_ok {N : List F9.Nd} (h : okF N) {i : Nat} {x : F9.Nd} (hi : i < N.length) (hx : N[N.length - 1 - i]? = some x) : F9.ari x.op ≤ (PH N i).length := by
  have h1 := okF_drop (N.length - 1 - i) N h
  have e2 : N.length - i = N.length - 1 - i + 1 := by omega
  rw [drop_one hx] at h1
  unfold PH
  rw [e2]
  exact h1.1
theorem PH_tot {N : List F9.Nd} (h : okF N) (hn : ∀ x ∈ N, x.nm.length ≤ 1000) (hl : N.length ≤ 90) (i : Nat) : (∀ p ∈ PH N i, p.1.length ≤ 99000) ∧ (PH N i).length ≤ 90 := by
  have h1 := okF_drop (N.length - i) N h
  have h2 := totP_all _ h1 (fun x hx => hn x (List.mem_of_mem_drop hx))
  have h3 := len_all _ h1
  rw [List.length_drop] at h2 h3
  refine ⟨fun p hp => ?_, ?_⟩
  · have h4 := totP_mem hp
    unfold PH at h4
    omega
  · unfold PH
    omega

set_option maxRecDepth 100000 in
set_option maxHeartbeats 8000000 in
theorem written_any (N : List F9.Nd) (rv : F9.Bs) (rk : Nat) (hres : N.foldr F9.ph1 [] = [(rv, rk)]) (hok : okF N) (hop : ∀ x ∈ N, F9.okN x) (hnm : ∀ x ∈ N, x.nm.length ≤ 1000) (hl90 : N.length ≤ 90) (A : Option Addr) (c : Nat) (w : World) (h : LR ndC w A N.length (N.map toNd)) (hcc : N.length ≤ c) (hO : Og w) : Calls Tryd.prog 17 #[.slice A N.length c] w fun e w' => e = .returned (.string (bsA rv)) ∧ Below w.heap.size w w' := by
  obtain ⟨n, hn⟩ : ∃ n, n = N.length := ⟨_, rfl⟩
  rw [← hn] at h hcc ⊢
  have hN := Lib.hid (And.intro hop hnm)
  have hNt := Lib.hid (fun i => PH_tot hok hnm hl90 i)
  have hNo := Lib.hid hok
  replace hn := Lib.hid hn
  replace hres := Lib.hid hres
  have hlr := Lib.hid h
  have hOg := Lib.hid hO
  have hz0 := hO.1
  have G0 : Hid (Gro phC w ((w.alloc (.cells #[.slice none 0 0] 62)).alloc (.cells #[.slice A n c] 23)) [(w.heap.size + 1, #[.slice A n c], 23), (w.heap.size, #[.slice none 0 0], 62)] [] 68 (.slice none 0 0) []) := Lib.hid (Gro.nil_ phC (((St.new w).allocAt w.heap.size #[.slice none 0 0] 62 (noLof rfl) rfl).allocAt (w.heap.size + 1) #[.slice A n c] 23 (noLof rfl) (by simp)) _)
  replace hl90 := Lib.hid hl90
  clear hop hnm hok h hO
  refine (callsIn_wide (n := 6)).1 ?_
  refine callsIn_of_wp_marks Tryd.func17 rfl trivial ?_ rfl
  simp only [Tryd.ntmps17, List.size_toArray, List.length_cons, List.length_nil, Nat.reduceAdd, Nat.reduceSub, Array.replicate_succ, Array.replicate_zero, List.push_toArray, List.append_toArray, List.nil_append, List.cons_append]
  gi_wp2
  refine ⟨trivial, (callsIn_wide.2 (bkw_any A n c _)).mono ?_⟩
  rintro e w' ⟨rfl, rfl⟩
  gi_wp2
  obtain ⟨W0, hW0⟩ : ∃ W0, W0 = (w.alloc (.cells #[.slice none 0 0] 62)).alloc (.cells #[.slice A n c] 23) := ⟨_, rfl⟩
  rw [← hW0] at G0 ⊢
  obtain ⟨M, hM⟩ : ∃ M, M = N.map toNd := ⟨_, rfl⟩
  rw [← hM] at hlr
  have hnL : n = M.length := by rw [hM, List.length_map]; exact hn.out
  have hn9 : n ≤ 90 := by rw [hn.out]; exact hl90.out
  replace hnL := Lib.hid hnL
  replace hM := Lib.hid hM
  clear hW0
  refine range_counts (n := 5) (gf := 52) (lb := #[.pointer (some ⟨w.heap.size + 1, 0, none⟩)]) rfl (enters_of Tryd.func52 (by kernel_rfl) rfl) (encs := bkE M) (N := n) (fun _ => rfl)
    (fun i W => ∃ v, Gro phC w W [(w.heap.size + 1, #[.slice A n c], 23), (w.heap.size, #[v], 62)] [] 68 v (PH N i))
    (fun i a' W => ∃ v Bx, Gro phC w W [(Bx, #[.int .i64 (bkN M i).o, .string (bkN M i).s, .int .i64 (bkN M i).k], 53), (w.heap.size + 1, #[.slice A n c], 23), (w.heap.size, #[v], 62)] [] 68 v (PH N i) ∧ a' = { tmps := #[.slice A n c, undef, .string { data := #[] }, .pointer (some ⟨w.heap.size, 0, none⟩), undef, .pointer (some ⟨Bx, 0, none⟩), undef, undef, .slice A n c, .func (.func 52) #[] #[.pointer (some ⟨w.heap.size + 1, 0, none⟩)], .int .i64 ((M.length - 1 - i : Nat) : Int), .agg #[.int .i64 (bkN M i).o, .string (bkN M i).s, .int .i64 (bkN M i).k], undef, undef, undef, undef, undef, undef, undef, undef, undef, undef, undef, undef, undef, undef, undef, undef, undef, undef, undef, undef, undef, undef, undef, undef, undef, undef], defers := [] })
    (fun W => W.cell? ⟨w.heap.size + 1, 0, none⟩ = some (.slice A n c) ∧ w.heap.size + 1 < W.heap.size ∧ LR ndC W A n M)
    ?hIb ?hIa ?hIp ?hAp ?h0 ?hseq ?hassign ?hbody ?hdone
  case hIb =>
    rintro i W ⟨v, G⟩
    exact ⟨G.st.cl 0 0 rfl rfl, G.st.lt 0 rfl, hlr.out.bel G.st.bel⟩
  case hIa =>
    rintro i W o ho ⟨v, G⟩
    exact ⟨v, G.call ((Below.refl _ _).alloc (Nat.le_refl _) o)⟩
  case hIp =>
    rintro i W k o o' hk ho hno ⟨v, G⟩
    exact ⟨v, G.turn (Nat.le_trans G0.out.st.bel.size hk) ho hno⟩
  case hAp =>
    rintro i a' W k o o' hk ho hno ⟨v, Bx, G, e⟩
    exact ⟨v, Bx, G.turn (Nat.le_trans G0.out.st.bel.size hk) ho hno, e⟩
  case h0 =>
    exact ⟨_, by rw [PH_zero]; exact G0.out⟩
  case hseq =>
    intro l J W hJ hY h0
    have hb := fun hL hc l J W => back_any M A c 5 (w.heap.size + 1) hL hc l J W
    rw [← hnL.out] at hb
    exact hb (by omega) hcc l J W hJ hY h0
  case hassign =>
    rintro l i W K hi ⟨v, G⟩ hK
    replace G := Lib.hid G
    unfold bkE
    gi_wp2
    exact hK _ _ ((MK.refl _).alloc _) ⟨v, W.heap.size, G.out.alloc _ _ (noLof rfl), rfl⟩
  case hbody =>
    rintro l i a' W hi ⟨v, Bx, G, rfl⟩
    dsimp only
    have hnn := hn.out
    obtain ⟨x, hx⟩ : ∃ x, N[N.length - 1 - i]? = some x := ⟨_, List.getElem?_eq_getElem (show N.length - 1 - i < N.length by omega)⟩
    have hxm := List.mem_of_getElem? hx
    have hxo := hN.out.1 x hxm
    have hxn := hN.out.2 x hxm
    have hy : bkN M i = toNd x := by
      rw [hM.out]
      unfold bkN
      rw [List.length_map, List.getElem?_map, hx]
      rfl
    have eo : (toNd x).o = (x.op : Int) := rfl
    have es : (toNd x).s = bsA x.nm := rfl
    have ek : (toNd x).k = (x.k : Int) := rfl
    rw [hy, eo, es, ek] at G ⊢
    have hari := PH_ok hNo.out (show i < N.length by omega) hx
    have hnext := PH_succ (show i < N.length by omega) hx
    have hbd := hNt.out i
    rw [ph1_eq] at hnext
    generalize PH N i = L at *
    have hq := okN_op hxo
    obtain ⟨A', c', hv, hLR⟩ := G.lr
    subst hv
    have hle : L.length ≤ c' := (G.lenc).2.1
    have hA' : (A' = none ∧ L.length = 0 ∧ c' = 0) ∨ ∃ b, A' = some ⟨b, 0, none⟩ := by
      obtain ⟨⟨_, _, ⟨hv, h0, _⟩ | ⟨g, cap, cur, hv, _⟩⟩, _⟩ := G
      · injection hv with a1 a2 a3; exact .inl ⟨a1, a2, a3⟩
      · injection hv with a1 _ _; exact .inr ⟨g, a1⟩
    obtain ⟨n', hn'⟩ : ∃ n', n' = L.length := ⟨_, rfl⟩
    obtain ⟨ar, har⟩ : ∃ ar, ar = F9.ari x.op := ⟨_, rfl⟩
    rw [← hn', ← har] at hnext
    rw [← hn', ← har] at hari
    rw [← hn'] at hbd hle hA' hLR G
    obtain ⟨f1, hf1⟩ : ∃ f1, f1 = n' - ar := ⟨_, rfl⟩
    rw [← hf1] at hnext
    have hf2 : (n' : Int) - (ar : Int) = (f1 : Int) := by omega
    have hf3 : f1 ≤ n' := by omega
    have hf4 : n' - f1 = ar := by omega
    obtain ⟨A2, hA2, hLR2⟩ : ∃ A2 : Option Addr, ((A' = none ∧ n' = 0 ∧ c' = 0 ∧ f1 = 0 ∧ A2 = none) ∨ (∃ b, A' = some ⟨b, 0, none⟩ ∧ c' = f1 ∧ n' = f1 ∧ A2 = some ⟨b, 0, none⟩) ∨ (∃ b, A' = some ⟨b, 0, none⟩ ∧ ¬ c' = f1 ∧ A2 = some ⟨b, f1 * 2, none⟩)) ∧ ∀ V, LR phC V A' n' L → LR phC V A2 (n' - f1) (L.drop f1) := by
      rcases hA' with ⟨a1, a2, a3⟩ | ⟨b, a1⟩
      · refine ⟨none, .inl ⟨a1, a2, a3, by omega, rfl⟩, fun V hV => ?_⟩
        have e1 : n' - f1 = 0 := by omega
        have e2 : L.drop f1 = [] := List.drop_eq_nil_of_le (by omega)
        rw [e1, e2]; exact LR.nil_ _ _ _
      · by_cases hcf : c' = f1
        · refine ⟨some ⟨b, 0, none⟩, .inr (.inl ⟨b, a1, hcf, by omega, rfl⟩), fun V hV => ?_⟩
          have e1 : n' - f1 = 0 := by omega
          have e2 : L.drop f1 = [] := List.drop_eq_nil_of_le (by omega)
          rw [e1, e2]; exact LR.nil_ _ _ _
        · refine ⟨some ⟨b, f1 * 2, none⟩, .inr (.inr ⟨b, a1, hcf, rfl⟩), fun V hV => ?_⟩
          rw [a1] at hV
          have := hV.sub (m := f1) hf3
          rwa [show 0 + f1 * phC.sz = f1 * 2 by show 0 + f1 * 2 = f1 * 2; omega] at this
    have hJn : Hid (∀ V, Og V → LR phC V A' n' L → Calls Tryd.prog 35 #[.agg #[.int .i64 (x.op : Nat), .string (bsA x.nm), .int .i64 (x.k : Nat)], .slice A2 (n' - f1) (c' - f1)] V fun e w' => e = .returned (.string (bsA (jnT x (L.drop f1)))) ∧ Below V.heap.size V w') := Lib.hid fun V hV hL => by
      have h1 := hLR2 V hL
      rw [hf4, har] at h1
      rw [hf4, har]
      exact join_any x hxo (by omega) (L.drop f1) (by rw [List.length_drop, ← hn', ← har]; exact hf4) (fun p hp => hbd.1 p (List.mem_of_mem_drop hp)) A2 (c' - f1) V h1 (by omega) hV
    have hOW := hOg.out.bel G.st.bel
    obtain ⟨sg, bl, lo, hi', e0, e1, e2, e3, e4, e5⟩ := og_all hOW hq.1 hq.2
    have hzW := hOW.1
    rw [← har] at e2
    obtain ⟨y, hyy⟩ : ∃ y : F9.Bs × Nat, y = (jnT x (L.drop f1), rlN x.op) := ⟨_, rfl⟩
    have hy1 : jnT x (L.drop f1) = y.1 := by rw [hyy]
    have hy2 : rlN x.op = y.2 := by rw [hyy]
    have hnext2 : PH N (i + 1) = L.take f1 ++ [y] := by rw [hnext, hyy]; rfl
    rw [hy1] at hJn
    rw [hy2] at e1
    have q1 : (x.op : Int) < 11 := by omega
    have q2 : (0 : Int) ≤ (x.op : Int) := by omega
    have hll := Lib.hid hbd.2
    have hln := Lib.hid hn'
    replace hnext2 := Lib.hid hnext2
    replace hLR := Lib.hid hLR
    replace hA2 := Lib.hid hA2
    clear hnext hyy hy1 hy2 hari hxo hxn hxm hx hy eo es ek hLR2 hA' hbd hq
    generalize bsA x.nm = s0 at *
    generalize x.op = xop at *
    generalize x.k = xk at *
    have b0 := G.st.cl 0 0 rfl rfl
    have b1 := G.st.cl 0 1 rfl rfl
    have b2 := G.st.cl 0 2 rfl rfl
    have v0 := G.st.cl 2 0 rfl rfl
    have vz := G.st.lt 2 rfl
    have bz := G.st.lt 0 rfl
    have G1 := Lib.hid (G.alloc #[.string sg, .int .i64 (y.2 : Nat), .int .i64 (ar : Nat), .bool bl, .int .i64 lo, .int .i64 hi'] 55 (noLof rfl))
    replace G := Lib.hid G
    replace hn' := Lib.hid hn'
    clear hOW hln
    have hf5 : f1 ≤ 100 := by have := hll.out; omega
    have hf6 : (f1 : Int) ≤ (c' : Int) := by omega
    have hf7 : (0 : Int) ≤ (f1 : Int) := by omega
    have hf8 : (f1 : Int) ≤ (n' : Int) := by omega
    have hn9' : n' ≤ 90 := by have := hll.out; omega
    have hle' : (n' : Int) ≤ (c' : Int) := by omega
    replace har := Lib.hid har
    replace hf1 := Lib.hid hf1
    replace hf4 := Lib.hid hf4
    gi_upto_region 6 with fail
    obtain ⟨W1, hW1⟩ : ∃ W1, W1 = W.alloc (.cells #[.string sg, .int .i64 (y.2 : Nat), .int .i64 (ar : Nat), .bool bl, .int .i64 lo, .int .i64 hi'] 55) := ⟨_, rfl⟩
    obtain ⟨bo, hbo⟩ : ∃ b, b = W.heap.size := ⟨_, rfl⟩
    rw [← hW1] at G1 ⊢
    rw [← hbo] at G1 ⊢
    have hM1 : Hid (MK W W1) := Lib.hid (by rw [hW1]; exact (MK.refl _).alloc _)
    have hOW1 := Lib.hid (hOg.out.bel G1.out.st.bel)
    clear hW1 hbo b0 b1 b2 v0 vz bz e0 e1 e2 e3 e4 e5 hzW hf2
    have hbase := Lib.hid (St.new W1)
    refine RW.round (Z := []) (S := (fun V => Cb V Bx #[.int .i64 (xop : Nat), .string s0, .int .i64 (xk : Nat)] 53 ∧ Cb V bo #[.string sg, .int .i64 (y.2 : Nat), .int .i64 (ar : Nat), .bool bl, .int .i64 lo, .int .i64 hi'] 55 ∧ Below w.heap.size w V)) (by kernel_rfl) ?_ ?_ ?_ hbase.out ?_
    · intro o ho c' he
      simp only [List.mem_toArray, List.mem_cons, List.not_mem_nil, or_false] at ho
      rcases ho with rfl | rfl | rfl | rfl | rfl | rfl | rfl | rfl | rfl | rfl | rfl | rfl | rfl | rfl <;> cases he
    · intro a w h
      have h1 : Exit.outgrown = Exit.normal := h.1
      cases h1
    · exact ⟨by kernel_rfl, zis_nil, by decide, by decide, nol_nil, (fun _ _ h => ⟨(G1.out.st.cb 1 rfl).bel h.bel, (G1.out.st.cb 0 rfl).bel h.bel, G1.out.st.bel.trans (h.bel.mono G1.out.st.bel.size)⟩)⟩
    intro hzk
    refine RW.t (i := 1) (v := .int .i64 (f1 : Nat)) (some 22) at1 (hy := fun _ _ => by kernel_rfl) (h := ?_)
    refine RW.t (i := 3) (v := .agg #[.int .i64 (xop : Nat), .string s0, .int .i64 (xk : Nat)]) (some 24) at3 (hy := fun V hS => by (have k0 := Cb.cell (i := 0) hS.1 rfl; have k1 := Cb.cell (i := 1) hS.1 rfl; have k2 := Cb.cell (i := 2) hS.1 rfl; clear hS; go_simp)) (h := ?_)
    refine RW.t (i := 5) (v := .int .i64 (f1 : Nat)) (some 26) at5 (hy := fun _ _ => by kernel_rfl) (h := ?_)
    refine RW.t (i := 8) (v := .pointer (some ⟨bo, 1, none⟩)) (some 29) at8 (hy := fun _ _ => by go_simp) (h := ?_)
    refine RW.t (i := 9) (v := .int .i64 (y.2 : Nat)) (some 30) at9 (hy := fun V hS => by (have k0 := Cb.cell (i := 1) hS.2.1 rfl; clear hS; go_simp)) (h := ?_)
    refine RW.tail hzk.out (by kernel_rfl) ?_
    intro gs' w5 hgs' hS Sb
    obtain rfl := len0 hgs'
    simp only [mark, fill, Act.put, List.setIfInBounds_toArray, List.set_cons_zero, List.set_cons_succ]
    have G := Lib.hid (G1.out.call Sb.bel)
    have hM5 := Lib.hid (hM1.out.bel Sb.bel)
    have hLR5 := Lib.hid (G.out.lenc.1)
    have hOW5 := Lib.hid (hOg.out.bel G.out.st.bel)
    replace hJn : Hid (∀ V, Below w5.heap.size w5 V → Calls Tryd.prog 35 #[.agg #[.int .i64 (xop : Nat), .string s0, .int .i64 (xk : Nat)], .slice A2 (n' - f1) (c' - f1)] V fun e w' => e = .returned (.string (bsA y.1)) ∧ Below V.heap.size V w') := Lib.hid fun V hV => hJn.out V (hOW5.out.bel (hV.mono (Nat.le_refl _))) (hLR5.out.bel hV)
    replace hn' := Lib.hid hn'.out
    clear hbase hzk Sb hS hgs' hLR hLR5 G1 hM1 hOW1 hOW5
    refine Wk.two (i := 0) (j := 4) at0 at4 (by kernel_rfl) (fun K' hK => ?_) (fun K' hK => ?_)
    · have c_p := G.out.st.cl 3 0 rfl rfl
      go_simp
      clear c_p
      refine hK.out _ _ ⟨G.out.st.cb 1 rfl, G.out.st.cb 0 rfl, G.out.st.bel⟩ ?_
      clear hK K'
      try simp only [Act.put, List.setIfInBounds_toArray, List.set_cons_zero, List.set_cons_succ]
      refine Wk.t (i := 2) (v := .slice A' f1 c') (some 23) at2 (hS := ⟨G.out.st.cb 1 rfl, G.out.st.cb 0 rfl, G.out.st.bel⟩) (hy := fun _ _ => by (rcases hA2.out with ⟨rfl, rfl, rfl, rfl, rfl⟩ | ⟨bb, rfl, rfl, rfl, rfl⟩ | ⟨bb, rfl, hcc, rfl⟩ <;> go_simp)) (h := ?_)
      try simp only [Act.put, List.setIfInBounds_toArray, List.set_cons_zero, List.set_cons_succ]
      refine Wk.o (i := 4) at4 (by kernel_rfl) fun K' hK => ?_
      have c_p := G.out.st.cl 3 0 rfl rfl
      go_simp
      clear c_p
      refine hK.out _ _ ⟨G.out.st.cb 1 rfl, G.out.st.cb 0 rfl, G.out.st.bel⟩ ?_
      clear hK K'
      try simp only [Act.put, List.setIfInBounds_toArray, List.set_cons_zero, List.set_cons_succ]
      refine Wk.t (i := 6) (v := .slice A2 (n' - f1) (c' - f1)) (some 27) at6 (hS := ⟨G.out.st.cb 1 rfl, G.out.st.cb 0 rfl, G.out.st.bel⟩) (hy := fun _ _ => by (rcases hA2.out with ⟨rfl, rfl, rfl, rfl, rfl⟩ | ⟨bb, rfl, rfl, rfl, rfl⟩ | ⟨bb, rfl, hcc, rfl⟩ <;> go_simp)) (h := ?_)
      try simp only [Act.put, List.setIfInBounds_toArray, List.set_cons_zero, List.set_cons_succ]
      refine Wk.o (i := 7) at7 (by kernel_rfl) fun K' hK => ?_
      refine oper_call (f := 35) (args := #[.agg #[.int .i64 (xop : Nat), .string s0, .int .i64 (xk : Nat)], .slice A2 (n' - f1) (c' - f1)]) rfl (by kernel_rfl) ((hJn.out _ (Below.refl _ _)).mono ?_)
      rintro e w6 ⟨rfl, hB⟩
      have G6 := Lib.hid (G.out.call hB)
      have hM6 := Lib.hid (hM5.out.bel hB)
      clear G hM5 hB hJn
      have G := G6
      have hM5 := hM6
      clear G6 hM6
      refine ⟨_, rfl, hK.out _ _ ⟨G.out.st.cb 1 rfl, G.out.st.cb 0 rfl, G.out.st.bel⟩ ?_⟩
      clear hK K'
      try simp only [Act.put, List.setIfInBounds_toArray, List.set_cons_zero, List.set_cons_succ]
      refine Wk.t (i := 10) (v := .agg #[.string (bsA y.1), .int .i64 (y.2 : Nat)]) (some 31) at10 (hS := ⟨G.out.st.cb 1 rfl, G.out.st.cb 0 rfl, G.out.st.bel⟩) (hy := fun _ _ => by kernel_rfl) (h := ?_)
      try simp only [Act.put, List.setIfInBounds_toArray, List.set_cons_zero, List.set_cons_succ]
      refine Wk.o (i := 11) at11 (by kernel_rfl) fun K' hK => ?_
      go_simp
      have G6 := Lib.hid (G.out.alloc #[.string (bsA y.1), .int .i64 (y.2 : Nat)] 68 (noLof rfl))
      have hM6 := Lib.hid (hM5.out.alloc (.cells #[.string (bsA y.1), .int .i64 (y.2 : Nat)] 68))
      clear G hM5
      have G := G6
      have hM5 := hM6
      clear G6 hM6
      refine hK.out _ _ ⟨G.out.st.cb 2 rfl, G.out.st.cb 1 rfl, G.out.st.bel⟩ ?_
      clear hK K'
      try simp only [Act.put, List.setIfInBounds_toArray, List.set_cons_zero, List.set_cons_succ]
      have GC := Lib.hid (G.out.cut hn'.out.symm hf3)
      clear G
      refine Wk.o (i := 12) at12 (by kernel_rfl) fun K' hK => ?_
      refine Gro.op (.tmp 23) (.tmp 32) 62 rfl (.agg #[.string ⟨#[]⟩, .int .i64 0]) 24 Tryd.underlying62 (by kernel_rfl) rfl (fun v hv z e => by simp [Value.cells] at hv; subst e; simp at hv) rfl GC.out w6.heap.size y rfl (GC.out.st.cb 0 rfl) (ph_in y) (by rw [List.length_take]; omega) (by rw [List.length_take]; unfold maxLen; omega) ?_
      intro av1 w8 G2 hmk
      have hM6 := Lib.hid (hM5.out.trans hmk)
      obtain ⟨A6, c6, hv6, _⟩ := G2.lr
      subst hv6
      generalize (L.take f1 ++ [y]).length = ln at *
      replace G2 := Lib.hid G2
      clear GC hM5 hmk
      refine hK.out _ _ ⟨G2.out.st.cb 2 rfl, G2.out.st.cb 1 rfl, G2.out.st.bel⟩ ?_
      clear hK K'
      try simp only [Act.put, List.setIfInBounds_toArray, List.set_cons_zero, List.set_cons_succ]
      refine Wk.o (i := 13) at13 (by kernel_rfl) fun K' hK => ?_
      have c_p := G2.out.st.cl 4 0 rfl rfl
      have f_p := G2.out.st.f 4 0 rfl
      have l_p := G2.out.st.lt 4 rfl
      have G3 := Lib.hid (G2.out.put 4 rfl 0 (.slice A6 ln c6) (fun _ => by simp) (fun _ _ => ph_in _))
      have hM7 := Lib.hid (hM6.out.set (G2.out.st.cb 4 rfl) 0 (.slice A6 ln c6))
      replace G2 := Lib.hid G2.out
      go_simp
      refine hK.out _ _ ⟨G3.out.st.cb 2 rfl, G3.out.st.cb 1 rfl, G3.out.st.bel⟩ ?_
      clear hK K' c_p f_p l_p
      try simp only [Act.put, List.setIfInBounds_toArray, List.set_cons_zero, List.set_cons_succ]
      refine Wk.done (by kernel_rfl) ?_
      refine ⟨rfl, hM7.out, .slice A6 ln c6, ?_⟩
      rw [hnext2.out]
      exact ((G3.out.sub (fun _ _ => ph_in _)).sub (fun _ _ => ph_in _)).sub (fun _ _ => ph_in _)
    · have c_p := G.out.st.cl 3 0 rfl rfl
      go_simp
      clear c_p
      refine hK.out _ _ ⟨G.out.st.cb 1 rfl, G.out.st.cb 0 rfl, G.out.st.bel⟩ ?_
      clear hK K'
      try simp only [Act.put, List.setIfInBounds_toArray, List.set_cons_zero, List.set_cons_succ]
      refine Wk.t (i := 6) (v := .slice A2 (n' - f1) (c' - f1)) (some 27) at6 (hS := ⟨G.out.st.cb 1 rfl, G.out.st.cb 0 rfl, G.out.st.bel⟩) (hy := fun _ _ => by (rcases hA2.out with ⟨rfl, rfl, rfl, rfl, rfl⟩ | ⟨bb, rfl, rfl, rfl, rfl⟩ | ⟨bb, rfl, hcc, rfl⟩ <;> go_simp)) (h := ?_)
      try simp only [Act.put, List.setIfInBounds_toArray, List.set_cons_zero, List.set_cons_succ]
      refine Wk.two (i := 0) (j := 7) at0 at7 (by kernel_rfl) (fun K' hK => ?_) (fun K' hK => ?_)
      · have c_p := G.out.st.cl 3 0 rfl rfl
        go_simp
        clear c_p
        refine hK.out _ _ ⟨G.out.st.cb 1 rfl, G.out.st.cb 0 rfl, G.out.st.bel⟩ ?_
        clear hK K'
        try simp only [Act.put, List.setIfInBounds_toArray, List.set_cons_zero, List.set_cons_succ]
        refine Wk.t (i := 2) (v := .slice A' f1 c') (some 23) at2 (hS := ⟨G.out.st.cb 1 rfl, G.out.st.cb 0 rfl, G.out.st.bel⟩) (hy := fun _ _ => by (rcases hA2.out with ⟨rfl, rfl, rfl, rfl, rfl⟩ | ⟨bb, rfl, rfl, rfl, rfl⟩ | ⟨bb, rfl, hcc, rfl⟩ <;> go_simp)) (h := ?_)
        try simp only [Act.put, List.setIfInBounds_toArray, List.set_cons_zero, List.set_cons_succ]
        refine Wk.o (i := 7) at7 (by kernel_rfl) fun K' hK => ?_
        refine oper_call (f := 35) (args := #[.agg #[.int .i64 (xop : Nat), .string s0, .int .i64 (xk : Nat)], .slice A2 (n' - f1) (c' - f1)]) rfl (by kernel_rfl) ((hJn.out _ (Below.refl _ _)).mono ?_)
        rintro e w6 ⟨rfl, hB⟩
        have G6 := Lib.hid (G.out.call hB)
        have hM6 := Lib.hid (hM5.out.bel hB)
        clear G hM5 hB hJn
        have G := G6
        have hM5 := hM6
        clear G6 hM6
        refine ⟨_, rfl, hK.out _ _ ⟨G.out.st.cb 1 rfl, G.out.st.cb 0 rfl, G.out.st.bel⟩ ?_⟩
        clear hK K'
        try simp only [Act.put, List.setIfInBounds_toArray, List.set_cons_zero, List.set_cons_succ]
        refine Wk.t (i := 10) (v := .agg #[.string (bsA y.1), .int .i64 (y.2 : Nat)]) (some 31) at10 (hS := ⟨G.out.st.cb 1 rfl, G.out.st.cb 0 rfl, G.out.st.bel⟩) (hy := fun _ _ => by kernel_rfl) (h := ?_)
        try simp only [Act.put, List.setIfInBounds_toArray, List.set_cons_zero, List.set_cons_succ]
        refine Wk.o (i := 11) at11 (by kernel_rfl) fun K' hK => ?_
        go_simp
        have G6 := Lib.hid (G.out.alloc #[.string (bsA y.1), .int .i64 (y.2 : Nat)] 68 (noLof rfl))
        have hM6 := Lib.hid (hM5.out.alloc (.cells #[.string (bsA y.1), .int .i64 (y.2 : Nat)] 68))
        clear G hM5
        have G := G6
        have hM5 := hM6
        clear G6 hM6
        refine hK.out _ _ ⟨G.out.st.cb 2 rfl, G.out.st.cb 1 rfl, G.out.st.bel⟩ ?_
        clear hK K'
        try simp only [Act.put, List.setIfInBounds_toArray, List.set_cons_zero, List.set_cons_succ]
        have GC := Lib.hid (G.out.cut hn'.out.symm hf3)
        clear G
        refine Wk.o (i := 12) at12 (by kernel_rfl) fun K' hK => ?_
        refine Gro.op (.tmp 23) (.tmp 32) 62 rfl (.agg #[.string ⟨#[]⟩, .int .i64 0]) 24 Tryd.underlying62 (by kernel_rfl) rfl (fun v hv z e => by simp [Value.cells] at hv; subst e; simp at hv) rfl GC.out w6.heap.size y rfl (GC.out.st.cb 0 rfl) (ph_in y) (by rw [List.length_take]; omega) (by rw [List.length_take]; unfold maxLen; omega) ?_
        intro av1 w8 G2 hmk
        have hM6 := Lib.hid (hM5.out.trans hmk)
        obtain ⟨A6, c6, hv6, _⟩ := G2.lr
        subst hv6
        generalize (L.take f1 ++ [y]).length = ln at *
        replace G2 := Lib.hid G2
        clear GC hM5 hmk
        refine hK.out _ _ ⟨G2.out.st.cb 2 rfl, G2.out.st.cb 1 rfl, G2.out.st.bel⟩ ?_
        clear hK K'
        try simp only [Act.put, List.setIfInBounds_toArray, List.set_cons_zero, List.set_cons_succ]
        refine Wk.o (i := 13) at13 (by kernel_rfl) fun K' hK => ?_
        have c_p := G2.out.st.cl 4 0 rfl rfl
        have f_p := G2.out.st.f 4 0 rfl
        have l_p := G2.out.st.lt 4 rfl
        have G3 := Lib.hid (G2.out.put 4 rfl 0 (.slice A6 ln c6) (fun _ => by simp) (fun _ _ => ph_in _))
        have hM7 := Lib.hid (hM6.out.set (G2.out.st.cb 4 rfl) 0 (.slice A6 ln c6))
        replace G2 := Lib.hid G2.out
        go_simp
        refine hK.out _ _ ⟨G3.out.st.cb 2 rfl, G3.out.st.cb 1 rfl, G3.out.st.bel⟩ ?_
        clear hK K' c_p f_p l_p
        try simp only [Act.put, List.setIfInBounds_toArray, List.set_cons_zero, List.set_cons_succ]
        refine Wk.done (by kernel_rfl) ?_
        refine ⟨rfl, hM7.out, .slice A6 ln c6, ?_⟩
        rw [hnext2.out]
        exact ((G3.out.sub (fun _ _ => ph_in _)).sub (fun _ _ => ph_in _)).sub (fun _ _ => ph_in _)
      · refine oper_call (f := 35) (args := #[.agg #[.int .i64 (xop : Nat), .string s0, .int .i64 (xk : Nat)], .slice A2 (n' - f1) (c' - f1)]) rfl (by kernel_rfl) ((hJn.out _ (Below.refl _ _)).mono ?_)
        rintro e w6 ⟨rfl, hB⟩
        have G6 := Lib.hid (G.out.call hB)
        have hM6 := Lib.hid (hM5.out.bel hB)
        clear G hM5 hB hJn
        have G := G6
        have hM5 := hM6
        clear G6 hM6
        refine ⟨_, rfl, hK.out _ _ ⟨G.out.st.cb 1 rfl, G.out.st.cb 0 rfl, G.out.st.bel⟩ ?_⟩
        clear hK K'
        try simp only [Act.put, List.setIfInBounds_toArray, List.set_cons_zero, List.set_cons_succ]
        refine Wk.t (i := 10) (v := .agg #[.string (bsA y.1), .int .i64 (y.2 : Nat)]) (some 31) at10 (hS := ⟨G.out.st.cb 1 rfl, G.out.st.cb 0 rfl, G.out.st.bel⟩) (hy := fun _ _ => by kernel_rfl) (h := ?_)
        try simp only [Act.put, List.setIfInBounds_toArray, List.set_cons_zero, List.set_cons_succ]
        refine Wk.two (i := 0) (j := 11) at0 at11 (by kernel_rfl) (fun K' hK => ?_) (fun K' hK => ?_)
        · have c_p := G.out.st.cl 3 0 rfl rfl
          go_simp
          clear c_p
          refine hK.out _ _ ⟨G.out.st.cb 1 rfl, G.out.st.cb 0 rfl, G.out.st.bel⟩ ?_
          clear hK K'
          try simp only [Act.put, List.setIfInBounds_toArray, List.set_cons_zero, List.set_cons_succ]
          refine Wk.t (i := 2) (v := .slice A' f1 c') (some 23) at2 (hS := ⟨G.out.st.cb 1 rfl, G.out.st.cb 0 rfl, G.out.st.bel⟩) (hy := fun _ _ => by (rcases hA2.out with ⟨rfl, rfl, rfl, rfl, rfl⟩ | ⟨bb, rfl, rfl, rfl, rfl⟩ | ⟨bb, rfl, hcc, rfl⟩ <;> go_simp)) (h := ?_)
          try simp only [Act.put, List.setIfInBounds_toArray, List.set_cons_zero, List.set_cons_succ]
          refine Wk.o (i := 11) at11 (by kernel_rfl) fun K' hK => ?_
          go_simp
          have G6 := Lib.hid (G.out.alloc #[.string (bsA y.1), .int .i64 (y.2 : Nat)] 68 (noLof rfl))
          have hM6 := Lib.hid (hM5.out.alloc (.cells #[.string (bsA y.1), .int .i64 (y.2 : Nat)] 68))
          clear G hM5
          have G := G6
          have hM5 := hM6
          clear G6 hM6
          refine hK.out _ _ ⟨G.out.st.cb 2 rfl, G.out.st.cb 1 rfl, G.out.st.bel⟩ ?_
          clear hK K'
          try simp only [Act.put, List.setIfInBounds_toArray, List.set_cons_zero, List.set_cons_succ]
          have GC := Lib.hid (G.out.cut hn'.out.symm hf3)
          clear G
          refine Wk.o (i := 12) at12 (by kernel_rfl) fun K' hK => ?_
          refine Gro.op (.tmp 23) (.tmp 32) 62 rfl (.agg #[.string ⟨#[]⟩, .int .i64 0]) 24 Tryd.underlying62 (by kernel_rfl) rfl (fun v hv z e => by simp [Value.cells] at hv; subst e; simp at hv) rfl GC.out w6.heap.size y rfl (GC.out.st.cb 0 rfl) (ph_in y) (by rw [List.length_take]; omega) (by rw [List.length_take]; unfold maxLen; omega) ?_
          intro av1 w8 G2 hmk
          have hM6 := Lib.hid (hM5.out.trans hmk)
          obtain ⟨A6, c6, hv6, _⟩ := G2.lr
          subst hv6
          generalize (L.take f1 ++ [y]).length = ln at *
          replace G2 := Lib.hid G2
          clear GC hM5 hmk
          refine hK.out _ _ ⟨G2.out.st.cb 2 rfl, G2.out.st.cb 1 rfl, G2.out.st.bel⟩ ?_
          clear hK K'
          try simp only [Act.put, List.setIfInBounds_toArray, List.set_cons_zero, List.set_cons_succ]
          refine Wk.o (i := 13) at13 (by kernel_rfl) fun K' hK => ?_
          have c_p := G2.out.st.cl 4 0 rfl rfl
          have f_p := G2.out.st.f 4 0 rfl
          have l_p := G2.out.st.lt 4 rfl
          have G3 := Lib.hid (G2.out.put 4 rfl 0 (.slice A6 ln c6) (fun _ => by simp) (fun _ _ => ph_in _))
          have hM7 := Lib.hid (hM6.out.set (G2.out.st.cb 4 rfl) 0 (.slice A6 ln c6))
          replace G2 := Lib.hid G2.out
          go_simp
          refine hK.out _ _ ⟨G3.out.st.cb 2 rfl, G3.out.st.cb 1 rfl, G3.out.st.bel⟩ ?_
          clear hK K' c_p f_p l_p
          try simp only [Act.put, List.setIfInBounds_toArray, List.set_cons_zero, List.set_cons_succ]
          refine Wk.done (by kernel_rfl) ?_
          refine ⟨rfl, hM7.out, .slice A6 ln c6, ?_⟩
          rw [hnext2.out]
          exact ((G3.out.sub (fun _ _ => ph_in _)).sub (fun _ _ => ph_in _)).sub (fun _ _ => ph_in _)
        · go_simp
          have G6 := Lib.hid (G.out.alloc #[.string (bsA y.1), .int .i64 (y.2 : Nat)] 68 (noLof rfl))
          have hM6 := Lib.hid (hM5.out.alloc (.cells #[.string (bsA y.1), .int .i64 (y.2 : Nat)] 68))
          clear G hM5
          have G := G6
          have hM5 := hM6
          clear G6 hM6
          refine hK.out _ _ ⟨G.out.st.cb 2 rfl, G.out.st.cb 1 rfl, G.out.st.bel⟩ ?_
          clear hK K'
          try simp only [Act.put, List.setIfInBounds_toArray, List.set_cons_zero, List.set_cons_succ]
          refine Wk.o (i := 0) at0 (by kernel_rfl) fun K' hK => ?_
          have c_p := G.out.st.cl 4 0 rfl rfl
          go_simp
          clear c_p
          refine hK.out _ _ ⟨G.out.st.cb 2 rfl, G.out.st.cb 1 rfl, G.out.st.bel⟩ ?_
          clear hK K'
          try simp only [Act.put, List.setIfInBounds_toArray, List.set_cons_zero, List.set_cons_succ]
          refine Wk.t (i := 2) (v := .slice A' f1 c') (some 23) at2 (hS := ⟨G.out.st.cb 2 rfl, G.out.st.cb 1 rfl, G.out.st.bel⟩) (hy := fun _ _ => by (rcases hA2.out with ⟨rfl, rfl, rfl, rfl, rfl⟩ | ⟨bb, rfl, rfl, rfl, rfl⟩ | ⟨bb, rfl, hcc, rfl⟩ <;> go_simp)) (h := ?_)
          try simp only [Act.put, List.setIfInBounds_toArray, List.set_cons_zero, List.set_cons_succ]
          have GC := Lib.hid (G.out.cut hn'.out.symm hf3)
          clear G
          refine Wk.o (i := 12) at12 (by kernel_rfl) fun K' hK => ?_
          refine Gro.op (.tmp 23) (.tmp 32) 62 rfl (.agg #[.string ⟨#[]⟩, .int .i64 0]) 24 Tryd.underlying62 (by kernel_rfl) rfl (fun v hv z e => by simp [Value.cells] at hv; subst e; simp at hv) rfl GC.out w6.heap.size y rfl (GC.out.st.cb 0 rfl) (ph_in y) (by rw [List.length_take]; omega) (by rw [List.length_take]; unfold maxLen; omega) ?_
          intro av1 w8 G2 hmk
          have hM6 := Lib.hid (hM5.out.trans hmk)
          obtain ⟨A6, c6, hv6, _⟩ := G2.lr
          subst hv6
          generalize (L.take f1 ++ [y]).length = ln at *
          replace G2 := Lib.hid G2
          clear GC hM5 hmk
          refine hK.out _ _ ⟨G2.out.st.cb 2 rfl, G2.out.st.cb 1 rfl, G2.out.st.bel⟩ ?_
          clear hK K'
          try simp only [Act.put, List.setIfInBounds_toArray, List.set_cons_zero, List.set_cons_succ]
          refine Wk.o (i := 13) at13 (by kernel_rfl) fun K' hK => ?_
          have c_p := G2.out.st.cl 4 0 rfl rfl
          have f_p := G2.out.st.f 4 0 rfl
          have l_p := G2.out.st.lt 4 rfl
          have G3 := Lib.hid (G2.out.put 4 rfl 0 (.slice A6 ln c6) (fun _ => by simp) (fun _ _ => ph_in _))
          have hM7 := Lib.hid (hM6.out.set (G2.out.st.cb 4 rfl) 0 (.slice A6 ln c6))
          replace G2 := Lib.hid G2.out
          go_simp
          refine hK.out _ _ ⟨G3.out.st.cb 2 rfl, G3.out.st.cb 1 rfl, G3.out.st.bel⟩ ?_
          clear hK K' c_p f_p l_p
          try simp only [Act.put, List.setIfInBounds_toArray, List.set_cons_zero, List.set_cons_succ]
          refine Wk.done (by kernel_rfl) ?_
          refine ⟨rfl, hM7.out, .slice A6 ln c6, ?_⟩
          rw [hnext2.out]
          exact ((G3.out.sub (fun _ _ => ph_in _)).sub (fun _ _ => ph_in _)).sub (fun _ _ => ph_in _)
  case hdone =>
    rintro D W hD ⟨v, G⟩ hK
    have hPH : PH N n = [(rv, rk)] := by rw [hn.out, PH_all]; exact hres.out
    rw [hPH] at G
    obtain ⟨A', c', hv, hLR⟩ := G.lr
    subst hv
    have hcc' := (G.lenc).2.1
    obtain ⟨b, o, p, hA, hp, _, a0, a1⟩ := ph_get hLR (i := 0) (show 0 < 1 by omega)
    obtain rfl : (rv, rk) = p := by simpa using hp
    subst hA
    have z0 : W.cell? ⟨b, o, none⟩ = some (.string (bsA rv)) := by have := a0; rwa [Nat.zero_mul, Nat.add_zero] at this
    have p0 := G.st.cl 1 0 rfl rfl
    have pz := G.st.lt 1 rfl
    have hB := Lib.hid ((G.turn (o' := .deferred none) (Nat.le_trans G0.out.st.bel.size hD) hK (fun _ _ _ h => by cases h)).st.bel)
    simp only [List.length_cons, List.length_nil, Nat.zero_add] at p0 hcc'
    clear hPH hp a0 a1 hLR G
    gi_wp2
    refine ⟨by simp, .inl ⟨_, _, rfl, run_takeDeferred hK, ?_⟩⟩
    exact ⟨_, results_tmp rfl _ _ _, rfl, hB.out⟩
end Go.Proofs.YtjebpmjbdchdlaaDoor
