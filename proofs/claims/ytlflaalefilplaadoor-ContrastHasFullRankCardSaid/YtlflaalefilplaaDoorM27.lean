/- The reference's rows: taken, multiplied, added. -/
import Derived.Test.YtlflaalefilplaaDoorM26
namespace Go.Proofs.YtlflaalefilplaaDoor
open Go.RowKit RQ
set_option linter.unusedVariables false

theorem St.rebase {w w1 W : World} {bs : List GBk} {rs : List GRd} (h : Below w.heap.size w w1) (S : St w1 W bs rs) : St w W bs rs :=
  ⟨h.trans (S.bel.mono h.size), fun p hp => ⟨(S.bk p hp).1, (S.bk p hp).2.1, Nat.le_trans h.size (S.bk p hp).2.2⟩, S.nd, S.rd⟩
section
variable {α : Type} {C : Cod α} {w W : World} {bs : List GBk} {rs : List GRd} {e : Nat} {v : Value} {L : List α}
/-- v = append(v, x) in a region whose order is open. -/
theorem Gro.op {P : Program} {o : Oper} {a : Act} {K' : Act → World → Prop} {Q : Exit → Act → World → Prop} (s x : Operand) (ty : TypeId)
    (ho : o.op = .call { callee := .builtin .append, args := #[s, x], argTypes := #[ty, ty] })
    (z : Value) (bytes : Nat) (ht : P.underlying ty = some (.slice e)) (hi : (P.info? e).map (fun i => (i.zero, i.size, i.bytes)) = some (some z, C.sz, bytes))
    (hzs : z.cells.size = C.sz) (hzn : NoLl z.cells.toList) (hs : a.eval s = v) (h : Gro C w W bs rs e v L)
    (g : Nat) (y : α) {t : Nat} (hx : a.eval x = .slice (some ⟨g, 0, none⟩) 1 1) (hc : Cb W g (C.cs y).toArray t) (hy : C.In w bs rs y) (hn : (L.length + 1) * bytes ≤ 140737488355328) (h63 : L.length + 1 ≤ maxLen)
    (hk : ∀ v' W', Gro C w W' bs rs e v' (L ++ [y]) → K' (a.put o.dst v') W') : Oper.wp P o a W K' Q := by
  obtain ⟨i0, hi0, hzz⟩ := Option.map_eq_some_iff.1 hi
  simp only [Prod.mk.injEq] at hzz
  obtain ⟨hz0, hz1, hz2⟩ := hzz
  obtain ⟨v', W', hr, hA⟩ := Apd.run (P := P) ty o.type i0 z bytes ht hi0 hz0 hz1 hz2 hzs hzn h.1 ⟨g, 0, none⟩ 1 1 (C.cs y) (by rw [C.len, Nat.one_mul]) (fun j u hu => by
    have hadd : (⟨g, 0, none⟩ : Addr).add j = ⟨g, j, none⟩ := by unfold Addr.add; split <;> simp_all
    rw [hadd]
    exact hc.cell (by rw [List.getElem?_toArray]; exact hu)) (C.one y) (C.noL y) (by decide) h63 hn
  unfold Oper.wp execOp
  simp only [ho, resolve, invoke, builtin, Sem.run_bind, Sem.run_pure, Result.andThen_ok, List.map_toArray, List.map_cons, List.map_nil, hs, hx, hr]
  refine hk v' W' ⟨?_, fun x hx => ?_⟩
  · rw [all_app, all_one, List.length_append]; exact hA
  · rcases List.mem_append.1 hx with hx | hx
    · exact h.2 x hx
    · rw [List.mem_singleton.1 hx]; exact hy
theorem Gro.unop (h : Gro C w W bs rs e v L) : ∃ ob, ((C.all L).length = L.length * C.sz ∧ NoLl (C.all L) ∧ OB ob e C.sz v L.length (C.all L)) ∧ St w W (bs ++ ob) rs := h.1.open_
end
/-- A row of the call's own comes back. -/
def RowO (M : List Rat) (w : World) (e : Ending) (w' : World) : Prop := ∃ A c L bs rs, e = .returned (.slice A L.length c) ∧ St w w' bs rs ∧ RowI bs rs ⟨A, c, L⟩ ∧ L.map rwV = M.map qV
theorem RowI.lr {w W : World} {bs : List GBk} {rs : List GRd} {s : Sl Rw} (h : RowI bs rs s) (S : St w W bs rs) : LR rwC W s.A s.L.length s.L := (h.in_ w).1.lr S
def timesQ (l : List Rat) (c : Rat) : List Rat := l.map (· * c)
def plusQ (a b : List Rat) : List Rat := List.zipWith (· + ·) a b
theorem take_at {M : List Rat} {i : Nat} {q : Rat} (h : M[i]? = some q) : M.take (i + 1) = M.take i ++ [q] := by
  rw [List.take_add_one, h]; rfl
set_option maxRecDepth 100000 in
set_option maxHeartbeats 4000000 in
theorem takeL_any (M : List Rat) (L : List Rw) (A : Option Addr) (n c : Nat) (w : World) (h : LR rwC w A n L) (hM : L.map rwV = M.map qV) (hs : ∀ q ∈ M, Rs q 99) (hn : n ≤ 1000) : Calls Tryd.prog 83 #[.slice A n c] w (RowO M w) := by
  have hML : M.length = n := by have := congrArg List.length hM; rw [List.length_map, List.length_map, h.len] at this; omega
  have hb := Lib.hid hn
  replace h := Lib.hid h
  replace hM := Lib.hid hM
  replace hs := Lib.hid hs
  have S := Lib.hid (St.new w)
  replace hML := Lib.hid hML
  clear hn
  go_enter Tryd.func83, Tryd.ntmps83
  go_wp2
  go_loopw [3, 4] (fun rv iv wr => ∃ (i : Nat) (rs : List GRd) (R : List Rw), i ≤ n ∧ iv = .int .i64 i ∧ Gro rwC w wr [] rs 44 rv R ∧ (∀ x ∈ R, rwI rs x) ∧ R.map rwV = (M.take i).map qV) (fun _ iv _ => n - (intOf iv).toNat)
  case atStart => exact ⟨0, [], [], Nat.zero_le _, rfl, Gro.nil_ rwC S.out _, fun s hs => (by cases hs), rfl⟩
  case round =>
    clear S
    obtain ⟨i, rs, R, hin, rfl, GR, hR, hV⟩ := hrel
    by_cases hlt : i < n
    · have g1 : (i : Int) < (n : Int) := by omega
      have g2 : (0 : Int) ≤ (i : Int) := by omega
      have hih := Lib.hid hlt
      obtain ⟨b, o, x, rfl, hx, _, e0, e1, e2, R1, R2⟩ := row_get (h.out.bel GR.st.bel) hlt
      obtain ⟨q, hq, hqm, hxq⟩ := map_at hM.out hx
      obtain ⟨xb, X⟩ := rw_rr hxq R1 R2
      have hRl : Hid (R.length = i) := Lib.hid (by have := congrArg List.length hV; rw [List.length_map, List.length_map, List.length_take] at this; have := hML.out; omega)
      have hT : Hid (Calls Tryd.prog 31 #[.agg #[.bool x.b, .slice x.x.A x.x.n x.x.c, .slice x.y.A x.y.n x.y.c]] wr (RetR q wr)) := Lib.hid (by rw [xb]; exact rtakeQ q x.x.A x.x.n x.x.c x.y.A x.y.n x.y.c wr X ((hs.out q hqm).mono (by omega)))
      have hV2 : Hid (∀ y : Rw, rwV y = qV q → (R ++ [y]).map rwV = (M.take (i + 1)).map qV) := Lib.hid fun y hy => by
        rw [take_at hq, List.map_append, List.map_append, hV]
        simp only [List.map_cons, List.map_nil, hy]
      replace GR := Lib.hid GR
      replace hR := Lib.hid hR
      clear hlt hin hx hq hqm hxq R1 R2 xb X hV
      go_wp2_with fail
      refine hT.out.mono ?_
      rintro e w4 ⟨A3, m3, c3, D3, m4, c4, rfl, X, bb⟩
      obtain ⟨y, hy⟩ : ∃ y : Rw, y = ⟨ng q.num, ⟨A3, m3, c3, limbs q.num.natAbs⟩, ⟨D3, m4, c4, dn q⟩⟩ := ⟨_, rfl⟩
      have hcs : rwC.cs y = [.bool (ng q.num), .slice A3 m3 c3, .slice D3 m4 c4] := by rw [hy]; rfl
      have hyI : Hid (rwI ((A3, m3, c3, limbs q.num.natAbs) :: (D3, m4, c4, dn q) :: rs) y) := Lib.hid (by rw [hy]; exact ⟨List.mem_cons_self, List.mem_cons_of_mem _ List.mem_cons_self⟩)
      have hyV := Lib.hid (hV2.out y (by rw [hy]; rfl))
      have GA := Lib.hid ((((GR.out.call bb).read X.d).read X.n).alloc #[.bool (ng q.num), .slice A3 m3 c3, .slice D3 m4 c4] 44 (noL3 _ _ _ _ _ _ _))
      clear GR X bb hy hT hV2 e0 e1 e2
      go_wp2_with (at_builtin; refine Gro.wp rfl (.tmp 11) (.tmp 17) 33 rfl (.agg #[.bool false, .slice none 0 0, .slice none 0 0]) 56 Tryd.underlying33 (by kernel_rfl) rfl (fun v hv z e => by simp [Value.cells] at hv; subst e; simp at hv) rfl GA.out w4.heap.size y rfl (by rw [hcs]; exact (GA.out.st).cb 0 rfl) (hyI.out.in_ _ _) (by have := hRl.out; have := hih.out; have := hb.out; omega) (by have := hRl.out; have := hih.out; have := hb.out; unfold maxLen; omega) ?_)
      intro v' w5 G5
      have hR6 : Hid (∀ x ∈ R ++ [y], rwI ((A3, m3, c3, limbs q.num.natAbs) :: (D3, m4, c4, dn q) :: rs) x) := Lib.hid fun x hx => by
        rcases List.mem_append.1 hx with hx | hx
        · exact (hR.out x hx).mono (fun p hp => List.mem_cons_of_mem _ (List.mem_cons_of_mem _ hp))
        · rw [List.mem_singleton.1 hx]; exact hyI.out
      have G6 := Lib.hid (Gro.sub G5 (fun x hx => (hR6.out x hx).in_ _ _))
      clear G5 GA hR hyI hcs hRl
      have hlt := hih.out
      have hbb := hb.out
      go_wp2
      go_roundw
      case rel => exact ⟨i + 1, _, _, by omega, by go_num, G6.out, hR6.out, hyV.out⟩
      case measure => simp [intOf]; omega
    · obtain rfl : n = i := by omega
      rw [List.take_of_length_le (by rw [hML.out]; exact Nat.le_refl _)] at hV
      obtain ⟨A9, c9, bs9, hv, S9, _, hrow⟩ := GR.drow hR
      subst hv
      have hres := Lib.hid (show RowO _ w (.returned (.slice A9 R.length c9)) wr from ⟨A9, c9, R, bs9, rs, rfl, S9, hrow, hV⟩)
      clear GR hR hV S9 hrow hin hlt
      go_wp2
      go_ret
      exact hres.out
end Go.Proofs.YtlflaalefilplaaDoor
namespace Go.Proofs.YtlflaalefilplaaDoor
open Go.RowKit RQ
set_option linter.unusedVariables false

theorem plusQ_at {a b : List Rat} {i : Nat} {p q : Rat} (ha : a[i]? = some p) (hb : b[i]? = some q) : (plusQ a b)[i]? = some (p + q) := by
  unfold plusQ
  rw [List.getElem?_zipWith, ha, hb]
theorem timesQ_at {a : List Rat} {c : Rat} {i : Nat} {p : Rat} (ha : a[i]? = some p) : (timesQ a c)[i]? = some (p * c) := by
  unfold timesQ
  rw [List.getElem?_map, ha]; rfl
set_option maxRecDepth 100000 in
set_option maxHeartbeats 4000000 in
theorem timesR_any (M : List Rat) (c0 : Rat) (L : List Rw) (A : Option Addr) (n c : Nat) (y0 : Rw) (w : World) (h : LR rwC w A n L) (hM : L.map rwV = M.map qV) (hs : ∀ q ∈ M, Rs q 99) (hn : n ≤ 1000) (hy : rwV y0 = qV c0) (R1 : Rd w y0.x.A y0.x.n y0.x.c y0.x.x) (R2 : Rd w y0.y.A y0.y.n y0.y.c y0.y.x) (hc : Rs c0 99) : Calls Tryd.prog 74 #[.slice A n c, .agg #[.bool y0.b, .slice y0.x.A y0.x.n y0.x.c, .slice y0.y.A y0.y.n y0.y.c]] w (RowO (timesQ M c0) w) := by
  have hML : M.length = n := by have := congrArg List.length hM; rw [List.length_map, List.length_map, h.len] at this; omega
  have hTL : Hid ((timesQ M c0).length = n) := Lib.hid (by unfold timesQ; rw [List.length_map]; exact hML)
  obtain ⟨yb, Y⟩ := rw_rr hy R1 R2
  have bx : Below w.heap.size w (w.alloc (.cells #[.bool y0.b, .slice y0.x.A y0.x.n y0.x.c, .slice y0.y.A y0.y.n y0.y.c] 44)) := (Below.refl _ _).alloc (Nat.le_refl _) _
  have hB := Lib.hid bx
  have cb := Cb.new w #[.bool y0.b, .slice y0.x.A y0.x.n y0.x.c, .slice y0.y.A y0.y.n y0.y.c] 44
  have k0 := Lib.hid (cb.cell (i := 0) rfl)
  have k1 := Lib.hid (cb.cell (i := 1) rfl)
  have k2 := Lib.hid (cb.cell (i := 2) rfl)
  have h1 := Lib.hid (h.bel bx)
  have Y1 := Lib.hid (Y.below bx)
  have hb := Lib.hid hn
  replace hM := Lib.hid hM
  replace hs := Lib.hid hs
  replace hML := Lib.hid hML
  replace yb := Lib.hid yb
  replace hc := Lib.hid hc
  clear hn bx cb hy R1 R2 Y h
  go_enter Tryd.func74, Tryd.ntmps74
  go_wp2
  obtain ⟨w1, hw1⟩ : ∃ W, W = w.alloc (.cells #[.bool y0.b, .slice y0.x.A y0.x.n y0.x.c, .slice y0.y.A y0.y.n y0.y.c] 44) := ⟨_, rfl⟩
  obtain ⟨g, hg⟩ : ∃ g, g = w.heap.size := ⟨_, rfl⟩
  rw [← hw1] at hB k0 k1 k2 h1 Y1 ⊢
  rw [← hg] at k0 k1 k2 ⊢
  clear hw1 hg
  have S := Lib.hid (St.new w1)
  go_loopw [5, 6] (fun rv iv wr => ∃ (i : Nat) (rs : List GRd) (R : List Rw) (av : Value), av = rv ∧ i ≤ n ∧ iv = .int .i64 i ∧ Gro rwC w1 wr [] rs 44 av R ∧ (∀ x ∈ R, rwI rs x) ∧ R.map rwV = ((timesQ M c0).take i).map qV) (fun _ iv _ => n - (intOf iv).toNat)
  case atStart => exact ⟨0, [], [], _, rfl, Nat.zero_le _, rfl, Gro.nil_ rwC S.out _, fun s hs => (by cases hs), rfl⟩
  case round =>
    clear S
    obtain ⟨i, rs, R, av, hav, hin, rfl, GR, hR, hV⟩ := hrel
    subst hav
    by_cases hlt : i < n
    · have g1 : (i : Int) < (n : Int) := by omega
      have g2 : (0 : Int) ≤ (i : Int) := by omega
      have hih := Lib.hid hlt
      obtain ⟨b, o, x, rfl, hx, _, e0, e1, e2, R1, R2⟩ := row_get h1.out hlt
      obtain ⟨p, hp, hpm, hxq⟩ := map_at hM.out hx
      obtain ⟨xb, X⟩ := rw_rr hxq R1 R2
      obtain ⟨q, hq⟩ : ∃ q, q = p * c0 := ⟨_, rfl⟩
      have hRl : Hid (R.length = i) := Lib.hid (by have := congrArg List.length hV; rw [List.length_map, List.length_map, List.length_take] at this; have := hTL.out; omega)
      have hT : Hid (∀ W, Below w1.heap.size w1 W → Calls Tryd.prog 20 #[.agg #[.bool x.b, .slice x.x.A x.x.n x.x.c, .slice x.y.A x.y.n x.y.c], .agg #[.bool y0.b, .slice y0.x.A y0.x.n y0.x.c, .slice y0.y.A y0.y.n y0.y.c]] W (RetR q W)) := Lib.hid fun W hW => by
        have := fmulQ _ _ x.x.A x.x.n x.x.c x.y.A x.y.n x.y.c y0.x.A y0.x.n y0.x.c y0.y.A y0.y.n y0.y.c W (X.below hW) (Y1.out.below hW) (hs.out p hpm) hc.out
        rw [← xb, ← yb.out, ← hq] at this
        exact this
      have hV2 : Hid (∀ y : Rw, rwV y = qV q → (R ++ [y]).map rwV = ((timesQ M c0).take (i + 1)).map qV) := Lib.hid fun y hy => by
        rw [take_at (timesQ_at hp), ← hq, List.map_append, List.map_append, hV]
        simp only [List.map_cons, List.map_nil, hy]
      replace GR := Lib.hid GR
      replace hR := Lib.hid hR
      replace e0 := Lib.hid e0
      replace e1 := Lib.hid e1
      replace e2 := Lib.hid e2
      clear hlt hin hx hp hpm hxq R1 R2 xb X hV hq
      go_upto_region 5 with fail
      obtain ⟨ob, hOb, So⟩ := GR.out.unop
      have hIn := Lib.hid GR.out.2
      replace hOb := Lib.hid hOb
      replace So := Lib.hid So
      clear GR
      have hbase := Lib.hid So.out
      refine RW.begin (Z := []) (S := (fun W => Below w1.heap.size w1 W)) (by kernel_rfl) ?_ hbase.out ?_
      · exact ⟨by kernel_rfl, zis_nil, by decide, by decide, nol_nil, (fun _ _ h => h.bel)⟩
      intro hzk
      refine RW.t (i := 0) (v := av) (some 13) at0 (hy := fun _ _ => by kernel_rfl) (h := ?_)
      refine RW.t (i := 1) (v := .slice (some ⟨b, o, none⟩) n c) (some 14) at1 (hy := fun _ _ => by kernel_rfl) (h := ?_)
      refine RW.t (i := 2) (v := .int .i64 i) (some 15) at2 (hy := fun _ _ => by kernel_rfl) (h := ?_)
      refine RW.t (i := 3) (v := .pointer (some ⟨b, o + i * 3, none⟩)) (some 16) at3 (hy := fun _ _ => by go_simp) (h := ?_)
      refine RW.t (i := 4) (v := .agg #[.bool x.b, .slice x.x.A x.x.n x.x.c, .slice x.y.A x.y.n x.y.c]) (some 17) at4 (hy := fun W hS => by (have k0 := bel_cell hS e0.out; have k1 := bel_cell hS e1.out; have k2 := bel_cell hS e2.out; clear hS; go_simp)) (h := ?_)
      refine RW.t (i := 5) (v := .agg #[.bool y0.b, .slice y0.x.A y0.x.n y0.x.c, .slice y0.y.A y0.y.n y0.y.c]) (some 18) at5 (hy := fun W hS => by (have k0 := bel_cell hS k0.out; have k1 := bel_cell hS k1.out; have k2 := bel_cell hS k2.out; clear hS; go_simp)) (h := ?_)
      refine RW.tail hzk.out (by kernel_rfl) ?_
      intro gs' w5 hgs' hS Sb
      obtain rfl := len0 hgs'
      simp only [mark, fill, Act.put, List.setIfInBounds_toArray, List.set_cons_zero, List.set_cons_succ]
      have G5 : Gro rwC w1 w5 [] rs 44 av R := ⟨Apd.close hOb.out Sb, hIn.out⟩
      refine Wk.g (i := 6) at6 (by kernel_rfl) (by kernel_rfl) fun K' hK => ?_
      refine oper_call (f := 20) (args := #[.agg #[.bool x.b, .slice x.x.A x.x.n x.x.c, .slice x.y.A x.y.n x.y.c], .agg #[.bool y0.b, .slice y0.x.A y0.x.n y0.x.c, .slice y0.y.A y0.y.n y0.y.c]]) rfl (by kernel_rfl) ((hT.out _ hS).mono ?_)
      rintro e w6 ⟨A3, m3, c3, D3, m4, c4, rfl, X, bb3⟩
      obtain ⟨y, hy⟩ : ∃ y : Rw, y = ⟨ng q.num, ⟨A3, m3, c3, limbs q.num.natAbs⟩, ⟨D3, m4, c4, dn q⟩⟩ := ⟨_, rfl⟩
      have hcs : rwC.cs y = [.bool (ng q.num), .slice A3 m3 c3, .slice D3 m4 c4] := by rw [hy]; rfl
      have hyI : Hid (rwI ((A3, m3, c3, limbs q.num.natAbs) :: (D3, m4, c4, dn q) :: rs) y) := Lib.hid (by rw [hy]; exact ⟨List.mem_cons_self, List.mem_cons_of_mem _ List.mem_cons_self⟩)
      have hyV := Lib.hid (hV2.out y (by rw [hy]; rfl))
      have G6 := Lib.hid (((G5.call bb3).read X.d).read X.n)
      have hS6 := G6.out.st.bel
      clear G5 X bb3 hy hT hV2 hOb hIn hS Sb
      refine ⟨_, rfl, hK.out _ _ hS6 ?_⟩
      clear hK K'
      try simp only [Act.put, List.setIfInBounds_toArray, List.set_cons_zero, List.set_cons_succ]
      refine Wk.g (i := 7) at7 (by kernel_rfl) (by kernel_rfl) fun K' hK => ?_
      have GA := Lib.hid (G6.out.alloc #[.bool (ng q.num), .slice A3 m3 c3, .slice D3 m4 c4] 44 (noL3 _ _ _ _ _ _ _))
      go_simp
      have hSA := GA.out.st.bel
      refine hK.out _ _ hSA ?_
      clear hK K' G6 hS6
      try simp only [Act.put, List.setIfInBounds_toArray, List.set_cons_zero, List.set_cons_succ]
      refine Wk.g (i := 8) at8 (by kernel_rfl) (by kernel_rfl) fun K' hK => ?_
      refine Gro.op (.tmp 13) (.tmp 20) 33 rfl (.agg #[.bool false, .slice none 0 0, .slice none 0 0]) 56 Tryd.underlying33 (by kernel_rfl) rfl (fun v hv z e => by simp [Value.cells] at hv; subst e; simp at hv) rfl GA.out w6.heap.size y rfl (by rw [hcs]; exact (GA.out.st).cb 0 rfl) (hyI.out.in_ _ _) (by have := hRl.out; have := hih.out; have := hb.out; omega) (by have := hRl.out; have := hih.out; have := hb.out; unfold maxLen; omega) ?_
      intro v' w7 G7
      have hR7 : Hid (∀ x ∈ R ++ [y], rwI ((A3, m3, c3, limbs q.num.natAbs) :: (D3, m4, c4, dn q) :: rs) x) := Lib.hid fun x hx => by
        rcases List.mem_append.1 hx with hx | hx
        · exact (hR.out x hx).mono (fun p hp => List.mem_cons_of_mem _ (List.mem_cons_of_mem _ hp))
        · rw [List.mem_singleton.1 hx]; exact hyI.out
      have G8 := Lib.hid (Gro.sub G7 (fun x hx => (hR7.out x hx).in_ _ _))
      have hS8 := G8.out.st.bel
      refine hK.out _ _ hS8 ?_
      clear hK K' G7 GA hSA hR hyI hcs hRl
      try simp only [Act.put, List.setIfInBounds_toArray, List.set_cons_zero, List.set_cons_succ]
      refine Wk.g (i := 9) at9 (by kernel_rfl) (by kernel_rfl) fun K' hK => ?_
      go_simp
      refine hK.out _ _ hS8 ?_
      clear hK K'
      refine Wk.done (by kernel_rfl) ?_
      clear hS8 hzk hbase
      have hlt := hih.out
      have hbb := hb.out
      go_simp
      go_wp2
      go_roundw
      case rel => exact ⟨i + 1, _, _, _, rfl, by omega, by go_num, G8.out, hR7.out, hyV.out⟩
      case measure => simp [intOf]; omega
    · obtain rfl : n = i := by omega
      rw [List.take_of_length_le (by rw [hTL.out]; exact Nat.le_refl _)] at hV
      obtain ⟨A9, c9, bs9, hv, S9, _, hrow⟩ := GR.drow hR
      subst hv
      have hres := Lib.hid (show RowO _ w (.returned (.slice A9 R.length c9)) wr from ⟨A9, c9, R, bs9, rs, rfl, S9.rebase hB.out, hrow, hV⟩)
      clear GR hR hV S9 hrow hin hlt
      go_wp2
      go_ret
      exact hres.out
set_option maxRecDepth 100000 in
set_option maxHeartbeats 4000000 in
theorem plusR_any (M N : List Rat) (L K : List Rw) (A : Option Addr) (n c : Nat) (A' : Option Addr) (c' : Nat) (w1 : World) (h : LR rwC w1 A n L) (h' : LR rwC w1 A' n K) (hM : L.map rwV = M.map qV) (hN : K.map rwV = N.map qV) (hs : ∀ q ∈ M, Rs q 99) (hs' : ∀ q ∈ N, Rs q 99) (hn : n ≤ 1000) : Calls Tryd.prog 76 #[.slice A n c, .slice A' n c'] w1 (RowO (plusQ M N) w1) := by
  have hML : M.length = n := by have := congrArg List.length hM; rw [List.length_map, List.length_map, h.len] at this; omega
  have hNL : N.length = n := by have := congrArg List.length hN; rw [List.length_map, List.length_map, h'.len] at this; omega
  have hTL : Hid ((plusQ M N).length = n) := Lib.hid (by unfold plusQ; rw [List.length_zipWith, hML, hNL, Nat.min_self])
  have hb := Lib.hid hn
  have h1 := Lib.hid h
  have h2 := Lib.hid h'
  replace hM := Lib.hid hM
  replace hN := Lib.hid hN
  replace hs := Lib.hid hs
  replace hs' := Lib.hid hs'
  have S := Lib.hid (St.new w1)
  clear hn h h' hML hNL
  go_enter Tryd.func76, Tryd.ntmps76
  go_wp2
  go_loopw [5, 6] (fun rv iv wr => ∃ (i : Nat) (rs : List GRd) (R : List Rw) (av : Value), av = rv ∧ i ≤ n ∧ iv = .int .i64 i ∧ Gro rwC w1 wr [] rs 44 av R ∧ (∀ x ∈ R, rwI rs x) ∧ R.map rwV = ((plusQ M N).take i).map qV) (fun _ iv _ => n - (intOf iv).toNat)
  case atStart => exact ⟨0, [], [], _, rfl, Nat.zero_le _, rfl, Gro.nil_ rwC S.out _, fun s hs => (by cases hs), rfl⟩
  case round =>
    clear S
    obtain ⟨i, rs, R, av, hav, hin, rfl, GR, hR, hV⟩ := hrel
    subst hav
    by_cases hlt : i < n
    · have g1 : (i : Int) < (n : Int) := by omega
      have g2 : (0 : Int) ≤ (i : Int) := by omega
      have hih := Lib.hid hlt
      obtain ⟨b, o, x, rfl, hx, _, e0, e1, e2, R1, R2⟩ := row_get h1.out hlt
      obtain ⟨b2, o2, z, rfl, hz, _, z0, z1, z2, R3, R4⟩ := row_get h2.out hlt
      obtain ⟨p, hp, hpm, hxq⟩ := map_at hM.out hx
      obtain ⟨p2, hp2, hpm2, hzq⟩ := map_at hN.out hz
      obtain ⟨xb, X⟩ := rw_rr hxq R1 R2
      obtain ⟨zb, Z⟩ := rw_rr hzq R3 R4
      obtain ⟨q, hq⟩ : ∃ q, q = p + p2 := ⟨_, rfl⟩
      have hRl : Hid (R.length = i) := Lib.hid (by have := congrArg List.length hV; rw [List.length_map, List.length_map, List.length_take] at this; have := hTL.out; omega)
      have hT : Hid (∀ W, Below w1.heap.size w1 W → Calls Tryd.prog 17 #[.agg #[.bool x.b, .slice x.x.A x.x.n x.x.c, .slice x.y.A x.y.n x.y.c], .agg #[.bool z.b, .slice z.x.A z.x.n z.x.c, .slice z.y.A z.y.n z.y.c]] W (RetR q W)) := Lib.hid fun W hW => by
        have := faddQ _ _ x.x.A x.x.n x.x.c x.y.A x.y.n x.y.c z.x.A z.x.n z.x.c z.y.A z.y.n z.y.c W (X.below hW) (Z.below hW) (hs.out p hpm) (hs'.out p2 hpm2)
        rw [← xb, ← zb, ← hq] at this
        exact this
      have hV2 : Hid (∀ y : Rw, rwV y = qV q → (R ++ [y]).map rwV = ((plusQ M N).take (i + 1)).map qV) := Lib.hid fun y hy => by
        rw [take_at (plusQ_at hp hp2), ← hq, List.map_append, List.map_append, hV]
        simp only [List.map_cons, List.map_nil, hy]
      replace GR := Lib.hid GR
      replace hR := Lib.hid hR
      replace e0 := Lib.hid e0
      replace e1 := Lib.hid e1
      replace e2 := Lib.hid e2
      replace z0 := Lib.hid z0
      replace z1 := Lib.hid z1
      replace z2 := Lib.hid z2
      clear hlt hin hx hp hpm hxq R1 R2 xb X hV hq hz hp2 hpm2 hzq R3 R4 zb Z
      go_upto_region 5 with fail
      obtain ⟨ob, hOb, So⟩ := GR.out.unop
      have hIn := Lib.hid GR.out.2
      replace hOb := Lib.hid hOb
      replace So := Lib.hid So
      clear GR
      have hbase := Lib.hid So.out
      refine RW.begin (Z := []) (S := (fun W => Below w1.heap.size w1 W)) (by kernel_rfl) ?_ hbase.out ?_
      · exact ⟨by kernel_rfl, zis_nil, by decide, by decide, nol_nil, (fun _ _ h => h.bel)⟩
      intro hzk
      refine RW.t (i := 0) (v := av) (some 13) at0 (hy := fun _ _ => by kernel_rfl) (h := ?_)
      refine RW.t (i := 1) (v := .slice (some ⟨b, o, none⟩) n c) (some 14) at1 (hy := fun _ _ => by kernel_rfl) (h := ?_)
      refine RW.t (i := 2) (v := .int .i64 i) (some 15) at2 (hy := fun _ _ => by kernel_rfl) (h := ?_)
      refine RW.t (i := 3) (v := .pointer (some ⟨b, o + i * 3, none⟩)) (some 16) at3 (hy := fun _ _ => by go_simp) (h := ?_)
      refine RW.t (i := 4) (v := .agg #[.bool x.b, .slice x.x.A x.x.n x.x.c, .slice x.y.A x.y.n x.y.c]) (some 17) at4 (hy := fun W hS => by (have k0 := bel_cell hS e0.out; have k1 := bel_cell hS e1.out; have k2 := bel_cell hS e2.out; clear hS; go_simp)) (h := ?_)
      refine RW.t (i := 5) (v := .slice (some ⟨b2, o2, none⟩) n c') (some 18) at5 (hy := fun _ _ => by kernel_rfl) (h := ?_)
      refine RW.t (i := 6) (v := .int .i64 i) (some 19) at6 (hy := fun _ _ => by kernel_rfl) (h := ?_)
      refine RW.t (i := 7) (v := .pointer (some ⟨b2, o2 + i * 3, none⟩)) (some 20) at7 (hy := fun _ _ => by go_simp) (h := ?_)
      refine RW.t (i := 8) (v := .agg #[.bool z.b, .slice z.x.A z.x.n z.x.c, .slice z.y.A z.y.n z.y.c]) (some 21) at8 (hy := fun W hS => by (have k0 := bel_cell hS z0.out; have k1 := bel_cell hS z1.out; have k2 := bel_cell hS z2.out; clear hS; go_simp)) (h := ?_)
      refine RW.tail hzk.out (by kernel_rfl) ?_
      intro gs' w5 hgs' hS Sb
      obtain rfl := len0 hgs'
      simp only [mark, fill, Act.put, List.setIfInBounds_toArray, List.set_cons_zero, List.set_cons_succ]
      have G5 : Gro rwC w1 w5 [] rs 44 av R := ⟨Apd.close hOb.out Sb, hIn.out⟩
      refine Wk.g (i := 9) at9 (by kernel_rfl) (by kernel_rfl) fun K' hK => ?_
      refine oper_call (f := 17) (args := #[.agg #[.bool x.b, .slice x.x.A x.x.n x.x.c, .slice x.y.A x.y.n x.y.c], .agg #[.bool z.b, .slice z.x.A z.x.n z.x.c, .slice z.y.A z.y.n z.y.c]]) rfl (by kernel_rfl) ((hT.out _ hS).mono ?_)
      rintro e w6 ⟨A3, m3, c3, D3, m4, c4, rfl, X, bb3⟩
      obtain ⟨y, hy⟩ : ∃ y : Rw, y = ⟨ng q.num, ⟨A3, m3, c3, limbs q.num.natAbs⟩, ⟨D3, m4, c4, dn q⟩⟩ := ⟨_, rfl⟩
      have hcs : rwC.cs y = [.bool (ng q.num), .slice A3 m3 c3, .slice D3 m4 c4] := by rw [hy]; rfl
      have hyI : Hid (rwI ((A3, m3, c3, limbs q.num.natAbs) :: (D3, m4, c4, dn q) :: rs) y) := Lib.hid (by rw [hy]; exact ⟨List.mem_cons_self, List.mem_cons_of_mem _ List.mem_cons_self⟩)
      have hyV := Lib.hid (hV2.out y (by rw [hy]; rfl))
      have G6 := Lib.hid (((G5.call bb3).read X.d).read X.n)
      have hS6 := G6.out.st.bel
      clear G5 X bb3 hy hT hV2 hOb hIn hS Sb
      refine ⟨_, rfl, hK.out _ _ hS6 ?_⟩
      clear hK K'
      try simp only [Act.put, List.setIfInBounds_toArray, List.set_cons_zero, List.set_cons_succ]
      refine Wk.g (i := 10) at10 (by kernel_rfl) (by kernel_rfl) fun K' hK => ?_
      have GA := Lib.hid (G6.out.alloc #[.bool (ng q.num), .slice A3 m3 c3, .slice D3 m4 c4] 44 (noL3 _ _ _ _ _ _ _))
      go_simp
      have hSA := GA.out.st.bel
      refine hK.out _ _ hSA ?_
      clear hK K' G6 hS6
      try simp only [Act.put, List.setIfInBounds_toArray, List.set_cons_zero, List.set_cons_succ]
      refine Wk.g (i := 11) at11 (by kernel_rfl) (by kernel_rfl) fun K' hK => ?_
      refine Gro.op (.tmp 13) (.tmp 23) 33 rfl (.agg #[.bool false, .slice none 0 0, .slice none 0 0]) 56 Tryd.underlying33 (by kernel_rfl) rfl (fun v hv z e => by simp [Value.cells] at hv; subst e; simp at hv) rfl GA.out w6.heap.size y rfl (by rw [hcs]; exact (GA.out.st).cb 0 rfl) (hyI.out.in_ _ _) (by have := hRl.out; have := hih.out; have := hb.out; omega) (by have := hRl.out; have := hih.out; have := hb.out; unfold maxLen; omega) ?_
      intro v' w7 G7
      have hR7 : Hid (∀ x ∈ R ++ [y], rwI ((A3, m3, c3, limbs q.num.natAbs) :: (D3, m4, c4, dn q) :: rs) x) := Lib.hid fun x hx => by
        rcases List.mem_append.1 hx with hx | hx
        · exact (hR.out x hx).mono (fun p hp => List.mem_cons_of_mem _ (List.mem_cons_of_mem _ hp))
        · rw [List.mem_singleton.1 hx]; exact hyI.out
      have G8 := Lib.hid (Gro.sub G7 (fun x hx => (hR7.out x hx).in_ _ _))
      have hS8 := G8.out.st.bel
      refine hK.out _ _ hS8 ?_
      clear hK K' G7 GA hSA hR hyI hcs hRl
      try simp only [Act.put, List.setIfInBounds_toArray, List.set_cons_zero, List.set_cons_succ]
      refine Wk.g (i := 12) at12 (by kernel_rfl) (by kernel_rfl) fun K' hK => ?_
      go_simp
      refine hK.out _ _ hS8 ?_
      clear hK K'
      refine Wk.done (by kernel_rfl) ?_
      clear hS8 hzk hbase
      have hlt := hih.out
      have hbb := hb.out
      go_simp
      go_wp2
      go_roundw
      case rel => exact ⟨i + 1, _, _, _, rfl, by omega, by go_num, G8.out, hR7.out, hyV.out⟩
      case measure => simp [intOf]; omega
    · obtain rfl : n = i := by omega
      rw [List.take_of_length_le (by rw [hTL.out]; exact Nat.le_refl _)] at hV
      obtain ⟨A9, c9, bs9, hv, S9, _, hrow⟩ := GR.drow hR
      subst hv
      have hres := Lib.hid (show RowO _ w1 (.returned (.slice A9 R.length c9)) wr from ⟨A9, c9, R, bs9, rs, rfl, S9, hrow, hV⟩)
      clear GR hR hV S9 hrow hin hlt
      go_wp2
      go_ret
      exact hres.out
end Go.Proofs.YtlflaalefilplaaDoor
