/- The law's example. -/
import Derived.Test.YtlflaalefilplaaDoorM20
namespace Go.Proofs.YtlflaalefilplaaDoor
open Go.RowKit RQ
set_option linter.unusedVariables false

section
variable {P : Program} {ops : Array Oper} {Q : Exit → Act → World → Prop} {S : World → Prop}
/-- A step that only looks, behind the variables. -/
theorem Wk.t {L : Array Bool} {a : Act} {w : World} {i : Nat} {oi : Oper} {v : Value} (dst : Option Nat) (hi : ops[i]? = some oi) (hd : oi.dst = dst := by rfl) (hc : takeOk ops [] L i oi = true := by kernel_rfl) (hw : Region.wanted oi (yielded ops a.tmps) = true := by kernel_rfl)
    (hQ : ∀ c a w, Q (.panic c) (Act.put a dst v) w → Q (.panic c) a w := by exact fun _ _ _ h => h) (hy : ∀ w, S w → (execOp a.eval oi).run P w = .ok (.value v) w) (hS : S w)
    (h : Wk P ops Q S (L.setIfInBounds i true) (a.put dst v) w) : Wk P ops Q S L a w := by
  simp only [takeOk, Bool.and_eq_true, Bool.not_eq_true'] at hc
  obtain ⟨⟨⟨⟨c1, c2⟩, c3⟩, _⟩, _⟩ := hc
  subst hd
  exact Wk.take hi c1 c2 (by simpa using c3) hQ (.inl ⟨hw, hy⟩) hS h
theorem Wk.g {i : Nat} {o : Oper} {L : Array Bool} {a : Act} {w : World} (ho : ops[i]? = some o) (hr : (Region.ready .any ops L == [i]) = true) (hw : Region.wanted o (yielded ops a.tmps) = true)
    (h : ∀ K' : Act → World → Prop, Shut (∀ a w, S w → Wk P ops Q S (L.setIfInBounds i true) a w → K' a w) → Oper.wp P o a w K' Q) : Wk P ops Q S L a w :=
  Wk.one (by simpa using hr) ho hw fun K' hK => h K' (fun a w hS hW => hK.out a w hS fun _ => hW)
theorem oper_call {P : Program} {o : Oper} {f : FuncId} {args : Array Value} {dst : Option Nat} {a : Act} {w : World} {K' : Act → World → Prop} {Q : Exit → Act → World → Prop} (hd : o.dst = dst) (hx : (execOp a.eval o).run P w = .ok (.enter f args) w) (h : Calls P f args w fun e w' => ∃ v, e = .returned v ∧ K' (a.put dst v) w') : Oper.wp P o a w K' Q := by
  unfold Oper.wp
  rw [hx]
  refine Calls.mono h ?_
  rintro e w' ⟨v, rfl, hk⟩
  subst hd
  exact hk
end
set_option maxRecDepth 100000 in
set_option maxHeartbeats 4000000 in
theorem sameStr_yes (L : List ByteArray) (A : Option Addr) (n c : Nat) (A' : Option Addr) (c' : Nat) (w : World) (h : LR strC w A n L) (h' : LR strC w A' n L) (hn : n ≤ 100000) : Calls Tryd.prog 13 #[.slice A n c, .slice A' n c'] w fun e w' => e = .returned (.bool true) ∧ Below w.heap.size w w' := by
  have hb := Lib.hid hn
  replace h := Lib.hid h
  replace h' := Lib.hid h'
  clear hn
  go_enter Tryd.func13, Tryd.ntmps13
  go_wp2
  go_loopw [5] (fun iv wr => ∃ i : Nat, i ≤ n ∧ iv = .int .i64 i ∧ Below w.heap.size w wr) (fun iv _ => n - (intOf iv).toNat)
  case atStart => exact ⟨0, Nat.zero_le _, rfl, Below.refl _ _⟩
  case round =>
    obtain ⟨i, hin, rfl, B⟩ := hrel
    by_cases hlt : i < n
    · obtain ⟨b, o, x, rfl, hx, _, e0⟩ := str_get (h.out.bel B) hlt
      obtain ⟨b2, o2, y, rfl, hy, _, y0⟩ := str_get (h'.out.bel B) hlt
      obtain rfl : y = x := by rw [hx] at hy; exact (Option.some.inj hy).symm
      have hih := Lib.hid hlt
      have g1 : (i : Int) < (n : Int) := by omega
      have g2 : (0 : Int) ≤ (i : Int) := by omega
      replace B := Lib.hid B
      replace e0 := Lib.hid e0
      replace y0 := Lib.hid y0
      clear hlt hin hx hy
      go_upto_region 6 with fail
      have hbase := Lib.hid (St.new wr)
      refine RW.begin (Z := []) (S := (fun W => Below wr.heap.size wr W)) (by kernel_rfl) ?_ hbase.out ?_
      · exact ⟨by kernel_rfl, zis_nil, by decide, by decide, nol_nil, (fun _ _ h => h.bel)⟩
      intro hzk
      refine RW.t (i := 0) (v := .slice (some ⟨b, o, none⟩) n c) (some 17) at0 (hy := fun _ _ => by kernel_rfl) (h := ?_)
      refine RW.t (i := 1) (v := .int .i64 i) (some 18) at1 (hy := fun _ _ => by kernel_rfl) (h := ?_)
      refine RW.t (i := 2) (v := .pointer (some ⟨b, o + i, none⟩)) (some 19) at2 (hy := fun _ _ => by go_simp) (h := ?_)
      refine RW.t (i := 3) (v := .string y) (some 20) at3 (hy := fun W hS => by (have k0 := bel_cell hS e0.out; clear hS; go_simp)) (h := ?_)
      refine RW.t (i := 4) (v := .slice (some ⟨b2, o2, none⟩) n c') (some 21) at4 (hy := fun _ _ => by kernel_rfl) (h := ?_)
      refine RW.t (i := 5) (v := .int .i64 i) (some 22) at5 (hy := fun _ _ => by kernel_rfl) (h := ?_)
      refine RW.t (i := 6) (v := .pointer (some ⟨b2, o2 + i, none⟩)) (some 23) at6 (hy := fun _ _ => by go_simp) (h := ?_)
      refine RW.t (i := 7) (v := .string y) (some 24) at7 (hy := fun W hS => by (have k0 := bel_cell hS y0.out; clear hS; go_simp)) (h := ?_)
      refine RW.t (i := 8) (v := .bool false) (some 25) at8 (hy := fun _ _ => by go_simp) (h := ?_)
      refine RW.tail hzk.out (by kernel_rfl) ?_
      intro gs' w5 hgs' hS Sb
      obtain rfl := len0 hgs'
      simp only [mark, fill, Act.put, List.setIfInBounds_toArray, List.set_cons_zero, List.set_cons_succ]
      refine Wk.done (by kernel_rfl) ?_
      have T := Lib.hid (B.out.trans (hS.mono B.out.size))
      clear Sb hgs' hzk hbase hS B
      try go_simp
      have hlt := hih.out
      have hbb := hb.out
      go_wp2
      go_roundw
      case rel => exact ⟨i + 1, by omega, by go_num, T.out⟩
      case measure => simp [intOf]; omega
    · obtain rfl : n = i := by omega
      replace B := Lib.hid B
      clear hin hlt
      go_wp2
      go_ret
      exact ⟨rfl, B.out⟩
set_option maxRecDepth 100000 in
set_option maxHeartbeats 4000000 in
theorem awake_any (w : World) : Calls Tryd.prog 9 #[] w fun e w' => e = .returned (.bool true) ∧ Below w.heap.size w w' := by
  have hB0 := Lib.hid (Below.refl w.heap.size w)
  have hMt := Lib.hid (mat_3 3 w (by omega) (by omega))
  go_enter Tryd.func9, Tryd.ntmps9
  go_wp2_with fail
  refine hMt.out.mono ?_
  rintro e w1 ⟨A, c, L, rfl, hLR, hcap, hM, bb⟩
  have hl : L.length = 3 := by rw [hM.len]; rfl
  rw [hl] at hLR hcap ⊢
  have B1 := Lib.hid (hB0.out.trans bb)
  clear bb hcap hMt
  have T1 := Lib.hid ((St.new w1).allocC strC [⟨#[97]⟩, ⟨#[98]⟩] w1.heap.size 9 rfl)
  have hNm := Lib.hid (names_1 [⟨#[97]⟩, ⟨#[98]⟩] (some ⟨w1.heap.size, 0, none⟩) 2 2 _ (St_glr T1.out 2 rfl (fun _ _ => trivial)) (by omega) (by omega) (fun s hs => by
    rcases List.mem_cons.1 hs with rfl | hs
    · decide
    · rw [List.mem_singleton.1 hs]; decide))
  go_wp2_with fail
  refine hNm.out.mono ?_
  rintro e w4 ⟨A2, c2, rfl, hN, hcap2, bb⟩
  have hn1 : (nmL 1 [⟨#[97]⟩, ⟨#[98]⟩]) = [⟨#[61, 98]⟩] := by rfl
  rw [hn1] at hN ⊢
  have hbel := T1.out.bel.trans (bb.mono T1.out.bel.size)
  have hLR4 := hLR.bel hbel
  obtain ⟨b, o, s, hA, hs2, hsm, e0, hrow⟩ := mat_get hLR4 (show 2 < 3 by omega)
  subst hA
  obtain ⟨q, hq, hqm, hsq⟩ := map_at hM hs2
  obtain rfl : q = [((0 : Int) : Rat), ((2 : Int) : Rat)] := by
    have : (cM 3 3)[2]? = some [((0 : Int) : Rat), ((2 : Int) : Rat)] := by rfl
    rw [hq] at this; exact Option.some.inj this
  have hsl : s.L.length = 2 := by have := congrArg List.length hsq; simpa using this
  rw [hsl] at e0 hrow
  have B4 := Lib.hid (B1.out.trans (hbel.mono B1.out.size))
  replace e0 := Lib.hid e0
  replace hrow := Lib.hid hrow
  replace hN := Lib.hid hN
  clear hNm T1 hLR hLR4 hbel bb hcap2 hn1 hs2 hsm hq hqm hsl B1 hB0 hM hl
  obtain ⟨q2, hq2⟩ : ∃ q : Rat, q = ((2 : Int) : Rat) := ⟨_, rfl⟩
  have hF : Hid (∀ W, Calls Tryd.prog 19 #[.int .i64 2] W (RetR q2 W)) := Lib.hid (fun W => by rw [hq2]; exact FfromInt_any 2 W (by omega) (by omega))
  rw [← hq2] at hsq
  have hs2 : Hid (Rs q2 200) := Lib.hid (by rw [hq2]; exact Rs.int (by decide) (by decide))
  replace hsq := Lib.hid hsq
  clear hq2
  go_upto_region 3 with fail
  have hbase := Lib.hid (St.new w4)
  refine RW.begin (Z := []) (S := (fun W => Below w4.heap.size w4 W)) (by kernel_rfl) ?_ hbase.out ?_
  · exact ⟨by kernel_rfl, zis_nil, by decide, by decide, nol_nil, (fun _ _ h => h.bel)⟩
  intro hzk
  refine RW.t (i := 0) (v := .int .i64 0) (some 14) at0 (hy := fun _ _ => by kernel_rfl) (h := ?_)
  refine RW.t (i := 1) (v := .bool true) (some 15) at1 (hy := fun _ _ => by go_simp) (h := ?_)
  refine RW.t (i := 2) (v := .bool true) (some 16) at2 (hy := fun _ _ => by kernel_rfl) (h := ?_)
  refine RW.t (i := 3) (v := .int .i64 0) (some 17) at3 (hy := fun _ _ => by kernel_rfl) (h := ?_)
  refine RW.t (i := 4) (v := .bool true) (some 18) at4 (hy := fun _ _ => by go_simp) (h := ?_)
  refine RW.t (i := 5) (v := .bool true) (some 19) at5 (hy := fun _ _ => by go_simp) (h := ?_)
  refine RW.t (i := 6) (v := .bool true) (some 20) at6 (hy := fun _ _ => by kernel_rfl) (h := ?_)
  refine RW.t (i := 7) (v := .slice (some ⟨b, o, none⟩) 3 c) (some 21) at7 (hy := fun _ _ => by kernel_rfl) (h := ?_)
  refine RW.t (i := 8) (v := .int .i64 3) (some 22) at8 (hy := fun _ _ => by go_simp) (h := ?_)
  refine RW.t (i := 9) (v := .bool true) (some 23) at9 (hy := fun _ _ => by go_simp) (h := ?_)
  refine RW.t (i := 10) (v := .bool true) (some 24) at10 (hy := fun _ _ => by go_simp) (h := ?_)
  refine RW.t (i := 11) (v := .bool true) (some 25) at11 (hy := fun _ _ => by kernel_rfl) (h := ?_)
  refine RW.t (i := 12) (v := .slice (some ⟨b, o, none⟩) 3 c) (some 26) at12 (hy := fun _ _ => by kernel_rfl) (h := ?_)
  refine RW.t (i := 13) (v := .pointer (some ⟨b, o + 2, none⟩)) (some 27) at13 (hy := fun _ _ => by go_simp) (h := ?_)
  refine RW.t (i := 14) (v := .slice s.A 2 s.c) (some 28) at14 (hy := fun W hS => by (have k0 := bel_cell hS e0.out; clear hS; go_simp)) (h := ?_)
  refine RW.t (i := 15) (v := .agg #[.bool false, .slice none 0 0, .slice none 0 0]) (some 29) at15 (hy := fun _ _ => by go_simp) (h := ?_)
  refine RW.c (i := 16) (args := #[.int .i64 2]) (some 30) hzk.out at16 (hx := fun _ => by kernel_rfl) (h := fun W S => (hF.out W).mono ?_)
  rintro e w7 ⟨A3, m3, c3, D3, m4, c4, rfl, X, bb⟩
  refine ⟨bb, _, [(A3, m3, c3, limbs q2.num.natAbs), (D3, m4, c4, dn q2)], rfl, rd_cons X.n (rd_cons X.d rd_nil), ?_⟩
  refine RW.tail hzk.out (by kernel_rfl) ?_
  intro gs' w5 hgs' hS Sb
  obtain rfl := len0 hgs'
  simp only [mark, fill, Act.put, List.setIfInBounds_toArray, List.set_cons_zero, List.set_cons_succ]
  refine Wk.g (i := 17) at17 (by kernel_rfl) (by kernel_rfl) fun K' hK => ?_
  go_simp
  have T6 := Lib.hid (Sb.allocC rwC [Rw0, ⟨ng q2.num, ⟨A3, m3, c3, limbs q2.num.natAbs⟩, ⟨D3, m4, c4, dn q2⟩⟩] w5.heap.size 44 rfl)
  have hL6 := Lib.hid (St_glr T6.out 2 rfl (fun x hx => rwC.at_ T6.out (by
    rcases List.mem_cons.1 hx with rfl | hx
    · exact ⟨trivial, .inr (Rd.nil_ _ _ _), .inr (Rd.nil_ _ _ _)⟩
    · rw [List.mem_singleton.1 hx]
      exact rwI.in_ ⟨List.mem_cons_self, List.mem_cons_of_mem _ List.mem_cons_self⟩ _ _)))
  have hV6 : Hid ([Rw0, (⟨ng q2.num, ⟨A3, m3, c3, limbs q2.num.natAbs⟩, ⟨D3, m4, c4, dn q2⟩⟩ : Rw)].map rwV = [((0 : Int) : Rat), q2].map qV) := Lib.hid (by
    have : rwV Rw0 = qV ((0 : Int) : Rat) := by
      unfold rwV qV Rw0 Nl0
      rw [show (((0 : Int) : Rat)).num.natAbs = 0 from rfl, limbs_zero]
      rfl
    show [rwV Rw0, _] = [qV _, qV q2]
    rw [this]; rfl)
  have hB6 := Lib.hid T6.out.bel
  obtain ⟨w6, hW⟩ : ∃ W, W = w5.alloc (.cells (rwC.all [Rw0, ⟨ng q2.num, ⟨A3, m3, c3, limbs q2.num.natAbs⟩, ⟨D3, m4, c4, dn q2⟩⟩]).toArray 44) := ⟨_, rfl⟩
  rw [← hW] at hL6 hB6
  rw [show w5.alloc (.cells #[.bool false, .slice none 0 0, .slice none 0 0, .bool (ng q2.num), .slice A3 m3 c3, .slice D3 m4 c4] 44) = w6 from hW.symm]
  clear hW T6 hS Sb
  refine hK.out _ _ hB6.out ?_
  clear hK K'
  try simp only [Act.put, List.setIfInBounds_toArray, List.set_cons_zero, List.set_cons_succ]
  refine Wk.g (i := 18) at18 (by kernel_rfl) (by kernel_rfl) fun K' hK => ?_
  refine oper_call (f := 27) (args := #[.slice s.A 2 s.c, .slice (some ⟨w5.heap.size, 0, none⟩) 2 2]) rfl (by kernel_rfl) ((sameRow_yes [((0 : Int) : Rat), q2] s.L _ s.A 2 s.c _ 2 w6 (hrow.out.bel hB6.out) hL6.out hsq.out hV6.out (fun r hr => by
    rcases List.mem_cons.1 hr with rfl | hr
    · exact Rs.int (by decide) (by decide)
    · rw [List.mem_singleton.1 hr]; exact hs2.out) (by omega)).mono ?_)
  rintro e w7 ⟨rfl, bb⟩
  have hB7 := Lib.hid (hB6.out.trans (bb.mono hB6.out.size))
  clear bb hL6 hV6
  refine ⟨_, rfl, hK.out _ _ hB7.out ?_⟩
  clear hK K'
  try simp only [Act.put, List.setIfInBounds_toArray, List.set_cons_zero, List.set_cons_succ]
  refine Wk.t (i := 19) (v := .bool true) (some 33) at19 (hy := fun _ _ => by go_simp) (hS := hB7.out) (h := ?_)
  refine Wk.t (i := 20) (v := .bool true) (some 34) at20 (hy := fun _ _ => by kernel_rfl) (hS := hB7.out) (h := ?_)
  refine Wk.t (i := 21) (v := .slice A2 1 c2) (some 35) at21 (hy := fun _ _ => by kernel_rfl) (hS := hB7.out) (h := ?_)
  try simp only [Act.put, List.setIfInBounds_toArray, List.set_cons_zero, List.set_cons_succ]
  refine Wk.g (i := 22) at22 (by kernel_rfl) (by kernel_rfl) fun K' hK => ?_
  go_simp
  have T8 := Lib.hid ((St.new w7).allocC strC [⟨#[61, 98]⟩] w7.heap.size 9 rfl)
  have hL8 := Lib.hid (St_glr T8.out 1 rfl (fun _ _ => trivial))
  have hB8 := Lib.hid (hB7.out.trans (T8.out.bel.mono hB7.out.size))
  obtain ⟨w8, hW⟩ : ∃ W, W = w7.alloc (.cells (strC.all [⟨#[61, 98]⟩]).toArray 9) := ⟨_, rfl⟩
  rw [← hW] at hL8 hB8
  rw [show w7.alloc (.cells #[.string ⟨#[61, 98]⟩] 9) = w8 from hW.symm]
  clear hW T8
  refine hK.out _ _ hB8.out ?_
  clear hK K'
  try simp only [Act.put, List.setIfInBounds_toArray, List.set_cons_zero, List.set_cons_succ]
  refine Wk.g (i := 23) at23 (by kernel_rfl) (by kernel_rfl) fun K' hK => ?_
  refine oper_call (f := 13) (args := #[.slice A2 1 c2, .slice (some ⟨w7.heap.size, 0, none⟩) 1 1]) rfl (by kernel_rfl) ((sameStr_yes [⟨#[61, 98]⟩] A2 1 c2 _ 1 w8 (hN.out.bel hB8.out) hL8.out (by omega)).mono ?_)
  rintro e w9 ⟨rfl, bb⟩
  have hB9 := Lib.hid (hB8.out.trans (bb.mono hB8.out.size))
  clear bb hL8
  refine ⟨_, rfl, hK.out _ _ hB9.out ?_⟩
  clear hK K'
  try simp only [Act.put, List.setIfInBounds_toArray, List.set_cons_zero, List.set_cons_succ]
  refine Wk.t (i := 24) (v := .bool true) (some 38) at24 (hy := fun _ _ => by go_simp) (hS := hB9.out) (h := ?_)
  try simp only [Act.put, List.setIfInBounds_toArray, List.set_cons_zero, List.set_cons_succ]
  refine Wk.g (i := 25) at25 (by kernel_rfl) (by kernel_rfl) fun K' hK => ?_
  go_simp
  refine hK.out _ _ hB9.out ?_
  clear hK K'
  refine Wk.done (by kernel_rfl) ?_
  have hB10 := Lib.hid (B4.out.trans (hB9.out.mono B4.out.size))
  clear hB9 hB8 hB7 hB6 hzk hbase hF e0 hrow hN hsq hs2
  try go_simp
  go_wp2
  go_ret
  exact ⟨rfl, hB10.out⟩
end Go.Proofs.YtlflaalefilplaaDoor
