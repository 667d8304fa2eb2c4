/- The reference's rank. -/
import Derived.Test.YtlflaalefilplaaDoorM30
namespace Go.Proofs.YtlflaalefilplaaDoor
open Go.RowKit RQ
set_option linter.unusedVariables false

def RedE (n k : Nat) (s : GS) (w : World) (e : Ending) (w' : World) : Prop := ∃ g fb zb cg pv, e = .returned (.tuple #[.slice (some ⟨g, 0, none⟩) n cg, pv, .int .i64 0]) ∧ RSt w w' g fb zb n k pv s
theorem formed_mat {M : List (List Rat)} {L : List (Sl Rw)} {k : Nat} (hM : MatV L M) (hrc : rct k M) : ∀ s ∈ L, s.L.length = k := by
  intro x hx
  obtain ⟨i, hi, hix⟩ := List.mem_iff_getElem.1 hx
  obtain ⟨q, hq, hqm, hxq⟩ := map_at hM (show L[i]? = some x by rw [List.getElem?_eq_getElem hi, hix])
  have := congrArg List.length hxq
  rw [List.length_map, List.length_map, hrc q hqm] at this
  exact this
set_option maxRecDepth 100000 in
set_option maxHeartbeats 4000000 in
theorem reduceE_any (M : List (List Rat)) (L : List (Sl Rw)) (A : Option Addr) (n c k : Nat) (w : World) (h : LR (slC rwC) w A n L) (hM : MatV L M) (hok : okM M = true) (hrc : rct k M) (n0 : 1 ≤ n) (n1 : n ≤ 96) (k0 : 1 ≤ k) (k1 : k ≤ 96) (hg : gok k 0 ⟨M, [], 1⟩ = true) : Calls Tryd.prog 30 #[.slice A n c] w (RedE n k (grun k 0 ⟨M, [], 1⟩) w) := by
  have hF := Lib.hid (formed_yes L A n c k w h (formed_mat hM hrc) n0 n1 k0 k1)
  have hR : Hid (∀ W, Below w.heap.size w W → Calls Tryd.prog 54 #[.slice A n c] W (RedO n k (grun k 0 ⟨M, [], 1⟩) W)) := Lib.hid fun W hW => reduce_any M L A n c k W (h.bel hW) hM hok hrc n0 n1 k1 hg
  generalize grun k 0 ⟨M, [], 1⟩ = s at hR ⊢
  clear h hM hok hrc n0 n1 k0 k1 hg
  go_enter Tryd.func30, Tryd.ntmps30
  go_wp2_with fail
  refine hF.out.mono ?_
  rintro e w1 ⟨rfl, b1⟩
  have hR1 := Lib.hid (hR.out w1 b1)
  replace b1 := Lib.hid b1
  clear hF hR
  go_wp2_with fail
  refine hR1.out.mono ?_
  rintro e w2 ⟨g, fb, zb, cg, pv, y, rfl, T⟩
  clear hR1
  have T1 : Hid (∀ W, Below w2.heap.size w2 W → RSt w W g fb zb n k pv s) := Lib.hid fun W hW => by
    obtain ⟨cur, bs, rs, L, y, z, G, h⟩ := T.call hW
    refine ⟨cur, bs, rs, L, y, z, ?_, h⟩
    obtain ⟨⟨q1, q2, q3⟩, q4⟩ := G
    refine ⟨⟨q1, q2, ?_⟩, fun _ _ => trivial⟩
    rcases q3 with ⟨a1, a2, S⟩ | ⟨g, cap, cur, a1, a2, a3, a4, a5, S⟩
    · exact .inl ⟨a1, a2, S.rebase b1.out⟩
    · exact .inr ⟨g, cap, cur, a1, a2, a3, a4, a5, S.rebase b1.out⟩
  have bx : Below w2.heap.size w2 (w2.alloc (.cells y.vs 44)) := (Below.refl _ _).alloc (Nat.le_refl _) _
  have T2 := Lib.hid (T1.out _ bx)
  clear T T1 bx b1
  go_wp2
  go_ret3
  exact ⟨g, fb, zb, cg, pv, rfl, T2.out⟩
set_option maxRecDepth 100000 in
set_option maxHeartbeats 4000000 in
theorem rank_any (M : List (List Rat)) (L : List (Sl Rw)) (A : Option Addr) (n c k : Nat) (w : World) (h : LR (slC rwC) w A n L) (hM : MatV L M) (hok : okM M = true) (hrc : rct k M) (n0 : 1 ≤ n) (n1 : n ≤ 96) (k0 : 1 ≤ k) (k1 : k ≤ 96) (hg : gok k 0 ⟨M, [], 1⟩ = true) : Calls Tryd.prog 15 #[.slice A n c] w fun e w' => e = .returned (.tuple #[.int .i64 ((grun k 0 ⟨M, [], 1⟩).p.length : Nat), .int .i64 0]) ∧ Below w.heap.size w w' := by
  have hR := Lib.hid (reduceE_any M L A n c k w h hM hok hrc n0 n1 k0 k1 hg)
  generalize grun k 0 ⟨M, [], 1⟩ = s at hR ⊢
  clear h hM hok hrc n0 n1 k0 k1 hg
  go_enter Tryd.func15, Tryd.ntmps15
  go_wp2_with fail
  refine hR.out.mono ?_
  rintro e w2 ⟨g, fb, zb, cg, pv, rfl, T⟩
  obtain ⟨pA, pc, rfl⟩ := T.pv_
  have B := Lib.hid T.bel
  obtain ⟨tp, htp⟩ : ∃ t, t = s.p.length := ⟨_, rfl⟩
  rw [← htp]
  replace htp := Lib.hid htp
  clear hR T
  go_wp2
  go_ret2
  exact ⟨by rw [← htp.out]; rfl, B.out⟩
end Go.Proofs.YtlflaalefilplaaDoor
namespace Go.Proofs.YtlflaalefilplaaDoor
open Go.RowKit RQ
set_option linter.unusedVariables false

section
variable {α : Type} {C : Cod α} {w W : World} {bs : List GBk} {rs : List GRd} {e : Nat} {v : Value} {L : List α}
/-- v = append(v, l..) in a region whose order is open. -/
theorem Gro.opm {P : Program} {o : Oper} {a : Act} {K' : Act → World → Prop} {Q : Exit → Act → World → Prop} (s x : Operand) (ty : TypeId)
    (ho : o.op = .call { callee := .builtin .append, args := #[s, x], argTypes := #[ty, ty] })
    (z : Value) (bytes : Nat) (ht : P.underlying ty = some (.slice e)) (hi : (P.info? e).map (fun i => (i.zero, i.size, i.bytes)) = some (some z, C.sz, bytes))
    (hzs : z.cells.size = C.sz) (hzn : NoLl z.cells.toList) (hs : a.eval s = v) (h : Gro C w W bs rs e v L)
    (M : List α) (B : Option Addr) (c' : Nat) (hx : a.eval x = .slice B M.length c') (hM : LR C W B M.length M) (hMi : ∀ y ∈ M, C.In w bs rs y)
    (hn : (L.length + M.length) * bytes ≤ 140737488355328) (h63 : L.length + M.length ≤ maxLen)
    (hk : ∀ v' W', Gro C w W' bs rs e v' (L ++ M) → K' (a.put o.dst v') W') : Oper.wp P o a W K' Q := by
  obtain ⟨i0, hi0, hzz⟩ := Option.map_eq_some_iff.1 hi
  simp only [Prod.mk.injEq] at hzz
  obtain ⟨hz0, hz1, hz2⟩ := hzz
  rcases Nat.eq_zero_or_pos M.length with h0 | h0
  · have hM0 : M = [] := List.length_eq_zero_iff.1 h0
    subst hM0
    have hx : a.eval x = .slice B 0 c' := hx
    obtain ⟨A, n, cp, hv, hle⟩ : ∃ A n cp, v = .slice A n cp ∧ n ≤ cp := by
      obtain ⟨⟨_, _, ⟨hv, _, _⟩ | ⟨g, cap, cur, hv, hh, _⟩⟩, _⟩ := h
      · exact ⟨_, _, _, hv, Nat.le_refl _⟩
      · exact ⟨_, _, _, hv, hh⟩
    have hr : (Builtin.append_ #[ty, ty] o.type #[v, .slice B 0 c']).run P W = .ok v W := by
      rw [hv]
      refine run_append_nothing W ty ty o.type e i0 ht hi0 A n cp hle _ ⟨.inl ⟨e, ht⟩, fun w' => rfl, ?_, ?_, by simp, by simp⟩ <;> cases B <;> simp [Builtin.firstCells, loadCells, loadCellsFrom]
    unfold Oper.wp
    simp [execOp, ho, resolve, invoke, builtin, hs, hx, hr, Result.andThen]
    exact hk v W (by rw [List.append_nil]; exact h)
  · rcases hM.mem with hm | ⟨b, q, hB, hlt, hc⟩
    · omega
    · subst hB
      obtain ⟨v', W', hr, hA⟩ := Apd.run (P := P) ty o.type i0 z bytes ht hi0 hz0 hz1 hz2 hzs hzn h.1 ⟨b, q, none⟩ M.length c' (C.all M) (all_len C M) (fun j u hu => by
        obtain ⟨i, y, k, h1, h2, h3⟩ := all_inv C hu
        have hadd : (⟨b, q, none⟩ : Addr).add j = ⟨b, q + i * C.sz + k, none⟩ := by unfold Addr.add; split <;> simp_all <;> omega
        rw [hadd]
        exact hc i y h1 k u h2) (fun u hu => by
        obtain ⟨y, _, hy⟩ := List.mem_flatMap.1 hu
        exact C.one y u hy) (all_noL C M) h0 h63 hn
      unfold Oper.wp execOp
      simp only [ho, resolve, invoke, builtin, Sem.run_bind, Sem.run_pure, Result.andThen_ok, List.map_toArray, List.map_cons, List.map_nil, hs, hx, hr]
      refine hk v' W' ⟨?_, fun y hy => ?_⟩
      · rw [all_app, List.length_append]; exact hA
      · rcases List.mem_append.1 hy with hy | hy
        · exact h.2 y hy
        · exact hMi y hy
end
/-- What the numbers of a row say of the limbs. -/
def rowRds (L : List Rw) : List GRd := L.flatMap fun x => [(x.x.A, x.x.n, x.x.c, x.x.x), (x.y.A, x.y.n, x.y.c, x.y.x)]
theorem rowRds_rd {W : World} {L : List Rw} {A : Option Addr} {n : Nat} (h : LR rwC W A n L) : ∀ r ∈ rowRds L, Rd W r.1 r.2.1 r.2.2.1 r.2.2.2 := by
  intro r hr
  obtain ⟨x, hx, hr⟩ := List.mem_flatMap.1 hr
  have hat := h.el x hx
  rcases List.mem_cons.1 hr with rfl | hr
  · exact hat.2.1
  · rw [List.mem_singleton.1 hr]; exact hat.2.2
theorem rowRds_in {L : List Rw} {x : Rw} (hx : x ∈ L) : rwI (rowRds L) x :=
  ⟨List.mem_flatMap.2 ⟨x, hx, List.mem_cons_self⟩, List.mem_flatMap.2 ⟨x, hx, List.mem_cons_of_mem _ List.mem_cons_self⟩⟩
theorem Gro.one_ {w W : World} {bs : List GBk} {rs : List GRd} {r e : Nat} {y : Rw} (S : St w W ((r, y.vs, e) :: bs) rs) (hy : rwI rs y) : Gro rwC w W bs rs e (.slice (some ⟨r, 0, none⟩) 1 1) [y] := by
  refine ⟨⟨rfl, ?_, .inr ⟨r, 1, y.vs, rfl, Nat.le_refl _, by decide, rfl, rfl, S⟩⟩, fun x hx => by rw [List.mem_singleton.1 hx]; exact hy.in_ _ _⟩
  exact all_noL rwC [y]
def onesM (M : List (List Rat)) : List (List Rat) := M.map ((1 : Rat) :: ·)
set_option maxRecDepth 100000 in
set_option maxHeartbeats 4000000 in
theorem with_any (M : List (List Rat)) (L : List (Sl Rw)) (A : Option Addr) (n c : Nat) (w : World) (h : LR (slC rwC) w A n L) (hM : MatV L M) (hs : ∀ r ∈ M, r.length ≤ 1000) (hn : n ≤ 1000) : Calls Tryd.prog 14 #[.slice A n c] w (RowsO (onesM M) w) := by
  have hML : (onesM M).length = n := by unfold onesM; rw [List.length_map]; have := hM.len; rw [h.len] at this; omega
  have hb := Lib.hid hn
  replace h := Lib.hid h
  replace hM := Lib.hid hM
  replace hs := Lib.hid hs
  have S := Lib.hid (St.new w)
  replace hML := Lib.hid hML
  obtain ⟨q1, hq1⟩ : ∃ q : Rat, q = 1 := ⟨_, rfl⟩
  have hF : Hid (∀ W, Calls Tryd.prog 19 #[.int .i64 1] W (RetR q1 W)) := Lib.hid fun W => by rw [hq1]; exact FfromInt_any 1 W (by omega) (by omega)
  replace hq1 := Lib.hid hq1
  clear hn
  go_enter Tryd.func14, Tryd.ntmps14
  go_wp2
  go_loopw [3, 4] (fun rv iv wr => ∃ (i : Nat) (bs : List GBk) (rs : List GRd) (R : List (Sl Rw)) (av : Value), av = rv ∧ i ≤ n ∧ iv = .int .i64 i ∧ Gro (slC rwC) w wr bs rs 33 av R ∧ (∀ s ∈ R, RowI bs rs s) ∧ MatV R ((onesM M).take i)) (fun _ iv _ => n - (intOf iv).toNat)
  case atStart => exact ⟨0, [], [], [], _, rfl, Nat.zero_le _, rfl, Gro.nil_ (slC rwC) S.out _, fun s hs => (by cases hs), rfl⟩
  case round =>
    clear S
    obtain ⟨i, bs, rs, R, av, hav, hin, rfl, GR, hR, hV⟩ := hrel
    subst hav
    rename World => W2
    by_cases hlt : i < n
    · have g1 : (i : Int) < (n : Int) := by omega
      have g2 : (0 : Int) ≤ (i : Int) := by omega
      have hih := Lib.hid hlt
      obtain ⟨b, o, x, rfl, hx, _, c0, hrow⟩ := mat_get (h.out.bel GR.st.bel) hlt
      obtain ⟨q, hq, hqm, hxq⟩ := map_at hM.out hx
      have hRl : Hid (R.length = i) := Lib.hid (by have := hV.len; rw [List.length_take] at this; have := hML.out; omega)
      obtain ⟨m, hm⟩ : ∃ m, m = x.L.length := ⟨_, rfl⟩
      have hm1 : Hid (m ≤ 1000) := Lib.hid (by have := congrArg List.length hxq; rw [List.length_map, List.length_map] at this; have := hs.out q hqm; omega)
      have hV2 : Hid (∀ (s : Sl Rw) (y : Rw), s.L = y :: x.L → rwV y = qV q1 → MatV (R ++ [s]) ((onesM M).take (i + 1))) := Lib.hid fun s y hs hy => by
        rw [List.take_add_one, show (onesM M)[i]? = some ((1 : Rat) :: q) by unfold onesM; rw [List.getElem?_map, hq]; rfl]
        refine hV.snoc ?_
        rw [hs, List.map_cons, List.map_cons, hy, hxq, hq1.out]
      rw [← hm] at c0
      have hrd := Lib.hid (rowRds_rd hrow)
      replace hrow := Lib.hid hrow
      replace GR := Lib.hid GR
      replace hR := Lib.hid hR
      replace c0 := Lib.hid c0
      replace hm := Lib.hid hm
      clear hlt hin hx hq hqm hxq hV
      go_upto_region 5 with fail
      refine Wl.start (fun W => Below W2.heap.size W2 W) [9] rfl ?_
      have hS : Below W2.heap.size W2 W2.drew := (Below.refl _ _).drew
      refine Wl.t (i := 0) (v := av) (some 11) at0 (hy := fun _ _ => by kernel_rfl) (hS := hS) (h := ?_)
      refine Wl.t (i := 3) (v := .slice (some ⟨b, o, none⟩) n c) (some 14) at3 (hy := fun _ _ => by kernel_rfl) (hS := hS) (h := ?_)
      refine Wl.t (i := 4) (v := .int .i64 i) (some 15) at4 (hy := fun _ _ => by kernel_rfl) (hS := hS) (h := ?_)
      refine Wl.t (i := 5) (v := .pointer (some ⟨b, o + i, none⟩)) (some 16) at5 (hy := fun _ _ => by go_simp) (hS := hS) (h := ?_)
      refine Wl.t (i := 6) (v := .slice x.A m x.c) (some 17) at6 (hy := fun W hS => by (have k0 := bel_cell hS c0.out; clear hS; go_simp)) (hS := hS) (h := ?_)
      try simp only [Act.put, List.setIfInBounds_toArray, List.set_cons_zero, List.set_cons_succ]
      refine Wl.g (i := 1) at1 (by kernel_rfl) (by kernel_rfl) fun K' hK => ?_
      refine oper_call (f := 19) (args := #[.int .i64 1]) rfl (by kernel_rfl) ((hF.out _).mono ?_)
      rintro e w5 ⟨A5, m5, c5, D5, m6, c6, rfl, X5, bb5⟩
      have hS5 : Below W2.heap.size W2 w5 := hS.trans (bb5.mono hS.size)
      have S5 := Lib.hid (((((St.new W2).call hS5).reads (rs' := rowRds x.L) (fun r hr => (hrd.out r hr).below hS5)).read X5.d).read X5.n)
      refine ⟨_, rfl, hK.out _ _ hS5 ?_⟩
      clear hK K' hS bb5 X5
      try simp only [Act.put, List.setIfInBounds_toArray, List.set_cons_zero, List.set_cons_succ]
      refine Wl.g (i := 2) at2 (by kernel_rfl) (by kernel_rfl) fun K' hK => ?_
      obtain ⟨y, hy⟩ : ∃ y : Rw, y = ⟨ng q1.num, ⟨A5, m5, c5, limbs q1.num.natAbs⟩, ⟨D5, m6, c6, dn q1⟩⟩ := ⟨_, rfl⟩
      have S6 := S5.out.alloc y.vs 44 (noL3 _ _ _ _ _ _ _)
      have hyV : Hid (rwV y = qV q1) := Lib.hid (by rw [hy]; rfl)
      have hyI : rwI ((A5, m5, c5, limbs q1.num.natAbs) :: (D5, m6, c6, dn q1) :: (rowRds x.L ++ [])) y := by rw [hy]; exact ⟨List.mem_cons_self, List.mem_cons_of_mem _ List.mem_cons_self⟩
      have G6 := Lib.hid (Gro.one_ S6 hyI)
      have hvs : y.vs = #[.bool (ng q1.num), .slice A5 m5 c5, .slice D5 m6 c6] := by rw [hy]; rfl
      rw [hvs] at G6
      have hS6 : Below W2.heap.size W2 (w5.alloc (.cells #[.bool (ng q1.num), .slice A5 m5 c5, .slice D5 m6 c6] 44)) := hS5.alloc hS5.size _
      replace hyI := Lib.hid hyI
      clear S5 S6 hy hvs
      go_simp
      refine hK.out _ _ hS6 ?_
      clear hK K' hS5
      try simp only [Act.put, List.setIfInBounds_toArray, List.set_cons_zero, List.set_cons_succ]
      refine Wl.g (i := 7) at7 (by kernel_rfl) (by kernel_rfl) fun K' hK => ?_
      refine Gro.opm (.tmp 13) (.tmp 17) 33 rfl (.agg #[.bool false, .slice none 0 0, .slice none 0 0]) 56 Tryd.underlying33 (by kernel_rfl) rfl (fun v hv z e => by simp [Value.cells] at hv; subst e; simp at hv) rfl G6.out x.L x.A x.c (by rw [← hm.out]; rfl) (hrow.out.bel hS6) (fun z hz => ((rowRds_in hz).mono (fun p hp => List.mem_cons_of_mem _ (List.mem_cons_of_mem _ (List.mem_append_left _ hp)))).in_ _ _) (by rw [← hm.out]; have := hm1.out; simp; omega) (by rw [← hm.out]; have := hm1.out; unfold maxLen; simp; omega) ?_
      intro v7 w7 G7
      have hb7 : Below W2.heap.size W2 w7 := G7.st.bel
      obtain ⟨A7, c7, bs7, rfl, S7, _, I7⟩ := G7.drow (fun z hz => by
        rcases List.mem_append.1 hz with hz | hz
        · rw [List.mem_singleton.1 hz]; exact hyI.out
        · exact (rowRds_in hz).mono (fun p hp => List.mem_cons_of_mem _ (List.mem_cons_of_mem _ (List.mem_append_left _ hp))))
      have hl7 : ([y] ++ x.L).length = m + 1 := by rw [hm.out]; simp
      have GJ := GR.out.joinr S7
      have hR2 : Hid (∀ s ∈ R, RowI (bs ++ bs7) (rs ++ _) s) := Lib.hid fun s hs => (hR.out s hs).mono (rs' := rs ++ ((A5, m5, c5, limbs q1.num.natAbs) :: (D5, m6, c6, dn q1) :: (rowRds x.L ++ []))) (fun p hp => List.mem_append_left _ hp) (fun p hp => List.mem_append_left _ hp)
      have hI8 : Hid (RowI (bs ++ bs7) (rs ++ ((A5, m5, c5, limbs q1.num.natAbs) :: (D5, m6, c6, dn q1) :: (rowRds x.L ++ []))) ⟨A7, c7, [y] ++ x.L⟩) := Lib.hid (I7.mono (fun p hp => List.mem_append_right _ hp) (fun p hp => List.mem_append_right _ hp))
      have hyM := Lib.hid (hV2.out ⟨A7, c7, [y] ++ x.L⟩ y rfl hyV.out)
      have GA := Lib.hid (GJ.alloc #[.slice A7 (m + 1) c7] 33 (noLof rfl))
      have hS8 := hb7
      rw [hl7]
      refine hK.out _ _ hS8 ?_
      clear hK K' hS6 G7 G6 S7 I7 GJ GR hR hb7 hyI hyV hV2
      try simp only [Act.put, List.setIfInBounds_toArray, List.set_cons_zero, List.set_cons_succ]
      refine Wl.g (i := 8) at8 (by kernel_rfl) (by kernel_rfl) fun K' hK => ?_
      have hS9 : Below W2.heap.size W2 (w7.alloc (.cells #[.slice A7 (m + 1) c7] 33)) := hS8.alloc hS8.size _
      go_simp
      refine hK.out _ _ hS9 ?_
      clear hK K'
      try simp only [Act.put, List.setIfInBounds_toArray, List.set_cons_zero, List.set_cons_succ]
      refine Wl.s (i := 9) at9 (by kernel_rfl) (by kernel_rfl) (by kernel_rfl) fun K' hK => ?_
      refine Gro.op (.tmp 11) (.tmp 19) 22 rfl (.slice none 0 0) 24 Tryd.underlying22 (by kernel_rfl) rfl (fun v hv z e => by simp [Value.cells] at hv; subst hv; cases e) rfl GA.out w7.heap.size ⟨A7, c7, [y] ++ x.L⟩ rfl (by
        rw [show ((slC rwC).cs ⟨A7, c7, [y] ++ x.L⟩).toArray = #[.slice A7 (m + 1) c7] by
          show #[Value.slice A7 ([y] ++ x.L).length c7] = _
          rw [hl7]]
        exact (GA.out.st).cb 0 rfl) ((hI8.out.mono (fun p hp => List.mem_cons_of_mem _ hp) (fun p hp => hp)).in_ _) (by have := hRl.out; have := hih.out; have := hb.out; omega) (by have := hRl.out; have := hih.out; have := hb.out; unfold maxLen; omega) ?_
      intro v' w9 G9
      have hL9 : Hid (∀ s ∈ R ++ [⟨A7, c7, [y] ++ x.L⟩], RowI (bs ++ bs7) (rs ++ ((A5, m5, c5, limbs q1.num.natAbs) :: (D5, m6, c6, dn q1) :: (rowRds x.L ++ []))) s) := Lib.hid fun s hs => by
        rcases List.mem_append.1 hs with hs | hs
        · exact hR2.out s hs
        · rw [List.mem_singleton.1 hs]; exact hI8.out
      have G10 := Lib.hid (Gro.sub G9 (fun x hx => (hL9.out x hx).in_ _))
      refine hK.out _ _ ?_
      clear hK K' G9 GA hR2 hI8 hRl hS8 hS9 hl7
      try simp only [Act.put, List.setIfInBounds_toArray, List.set_cons_zero, List.set_cons_succ]
      refine Wl.s (i := 10) at10 (by kernel_rfl) (by kernel_rfl) (by kernel_rfl) fun K' hK => ?_
      go_simp
      refine hK.out _ _ ?_
      clear hK K'
      refine Wl.done (by kernel_rfl) ?_
      have hlt := hih.out
      have hbb := hb.out
      go_simp
      go_wp2
      go_roundw
      case rel => exact ⟨i + 1, _, _, _, _, rfl, by omega, by go_num, G10.out, hL9.out, hyM.out⟩
      case measure => simp [intOf]; omega
    · obtain rfl : n = i := by omega
      rw [List.take_of_length_le (by rw [hML.out]; exact Nat.le_refl _)] at hV
      have hres := Lib.hid (show RowsO (onesM M) w (.returned _) W2 from ⟨_, bs, rs, R, rfl, GR, hR, hV⟩)
      clear GR hR hV hin hlt
      go_wp2
      go_ret
      exact hres.out
end Go.Proofs.YtlflaalefilplaaDoor
