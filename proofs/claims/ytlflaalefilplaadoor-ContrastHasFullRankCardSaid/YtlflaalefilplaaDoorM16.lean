/- The program's matrix of a coding. -/
import Derived.Test.YtlflaalefilplaaDoorM15
namespace Go.Proofs.YtlflaalefilplaaDoor
open Go.RowKit
set_option linter.unusedVariables false

theorem make_of {α : Type} {P : Program} (C : Cod α) (x : α) (ty e : TypeId) (z : Value) (bytes : Nat) (hu : P.underlying ty = some (.slice e)) (hi : (P.info? e).map (fun i => (i.zero, i.size, i.bytes)) = some (some z, C.sz, bytes)) (hz : z.cells = (C.cs x).toArray) (hb : bytes ≤ 1000) (n : Nat) (hn : n ≤ 1000000) (w : World) :
    (Instr.makeSlice ty (.int .i64 (n : Int)) (.int .i64 (n : Int))).run P w = .ok (.slice (some ⟨w.heap.size, 0, none⟩) n n) (w.alloc (.cells (C.all (List.replicate n x)).toArray e)) := by
  obtain ⟨i0, hi, hzz⟩ := Option.map_eq_some_iff.1 hi
  simp only [Prod.mk.injEq] at hzz
  obtain ⟨hz0, hz1, hz2⟩ := hzz
  have hm : bytes * n ≤ 1000000000 := by have h9 := Nat.mul_le_mul hb hn; omega
  have hm2 : (bytes : Int) * (n : Int) ≤ 1000000000 := by have := Int.ofNat_le.2 hm; rw [Int.natCast_mul] at this; omega
  have hr := run_make (P := P) w ty e i0 _ hu hi hz0 .i64 .i64 n n (by omega) (Int.le_refl _) (by rw [hz2]; omega) (by omega)
  simp only [Int.toNat_natCast, hz1] at hr
  rw [hr, hz, all_rep]
def Nl0 : Nl := ⟨none, 0, 0, []⟩
def Rw0 : Rw := ⟨false, Nl0, Nl0⟩
def Sr0 : Sl Rw := ⟨none, 0, []⟩
theorem make_row (n : Nat) (hn : n ≤ 1000000) (w : World) : (Instr.makeSlice 33 (.int .i64 (n : Int)) (.int .i64 (n : Int))).run Tryd.prog w = .ok (.slice (some ⟨w.heap.size, 0, none⟩) n n) (w.alloc (.cells (rwC.all (List.replicate n Rw0)).toArray 44)) :=
  make_of rwC Rw0 33 44 (.agg #[.bool false, .slice none 0 0, .slice none 0 0]) 56 Tryd.underlying33 (by kernel_rfl) rfl (by decide) n hn w
theorem make_rows (n : Nat) (hn : n ≤ 1000000) (w : World) : (Instr.makeSlice 22 (.int .i64 (n : Int)) (.int .i64 (n : Int))).run Tryd.prog w = .ok (.slice (some ⟨w.heap.size, 0, none⟩) n n) (w.alloc (.cells ((slC rwC).all (List.replicate n Sr0)).toArray 33)) :=
  make_of (slC rwC) Sr0 22 33 (.slice none 0 0) 24 Tryd.underlying22 (by kernel_rfl) rfl (by decide) n hn w
section
variable {α : Type} {C : Cod α} {w W W' : World} {g t : Nat} {L : List α} {bs : List GBk} {rs : List GRd}
theorem St_glr (h : St w W ((g, (C.all L).toArray, t) :: bs) rs) (n : Nat) (hn : L.length = n) (hx : ∀ x ∈ L, C.At W x) : LR C W (some ⟨g, 0, none⟩) n L := by
  have hb := (h.bk _ List.mem_cons_self).1
  refine ⟨hn, .inr ⟨g, 0, rfl, hb.lt, fun i x hi k v hv => ?_⟩, hx⟩
  rw [Nat.zero_add]
  exact hb.cell (by rw [List.getElem?_toArray]; exact all_get (i := i) C hi k v hv)
theorem St.allocC (h : St w W bs rs) (C : Cod α) (L : List α) (g t : Nat) (hg : W.heap.size = g) : St w (W.alloc (.cells (C.all L).toArray t)) ((g, (C.all L).toArray, t) :: bs) rs := h.allocAt g _ t (all_noL C L).arr hg
theorem take_snoc {L : List α} {i : Nat} {x : α} (h : L[i]? = some x) : L.take (i + 1) = L.take i ++ [x] := by
  rw [List.take_add_one, h]; rfl
theorem take_set_snoc {i : Nat} {x : α} {K : List α} (hl : i < K.length) : (K.set i x).take (i + 1) = K.take i ++ [x] := by
  rw [List.take_add_one, List.getElem?_set_self hl, List.take_set_of_le (Nat.le_refl i)]; rfl
end
/-- The contents of a row do not show in the slice. -/
theorem slc_all {L : List (Sl Rw)} {i : Nat} {A : Option Addr} {c : Nat} {R R' : List Rw} (h : R.length = R'.length) : (slC rwC).all (L.set i ⟨A, c, R⟩) = (slC rwC).all (L.set i ⟨A, c, R'⟩) := by
  have e : (slC rwC).cs ⟨A, c, R⟩ = (slC rwC).cs ⟨A, c, R'⟩ := by show [Value.slice A R.length c] = [Value.slice A R'.length c]; rw [h]
  rcases Nat.lt_or_ge i L.length with hl | hl
  · rw [all_set (slC rwC) _ hl, all_set (slC rwC) _ hl, e]
  · rw [List.set_eq_of_length_le hl, List.set_eq_of_length_le hl]
theorem slc_get {L : List (Sl Rw)} {i : Nat} {s : Sl Rw} (h : L[i]? = some s) : ((slC rwC).all L).toArray[i]? = some s.v := by
  rw [List.getElem?_toArray]
  have := all_get (C := slC rwC) h 0 s.v rfl
  rwa [show (slC rwC).sz = 1 from rfl, Nat.mul_one] at this
/-- The block of rows after a store, and after the row is filled. -/
theorem St.perm3 {w W : World} {a b c : GBk} {bs : List GBk} {rs : List GRd} (h : St w W (a :: b :: c :: bs) rs) : St w W (b :: c :: a :: bs) rs :=
  h.prm ((List.Perm.swap b a (c :: bs)).trans ((List.Perm.swap c a bs).cons b))
theorem St.perm3' {w W : World} {a b c : GBk} {bs : List GBk} {rs : List GRd} (h : St w W (b :: c :: a :: bs) rs) : St w W (a :: b :: c :: bs) rs :=
  h.prm ((List.Perm.swap b a (c :: bs)).trans ((List.Perm.swap c a bs).cons b)).symm
set_option maxRecDepth 100000 in
set_option maxHeartbeats 4000000 in
theorem mat_4 (n : Nat) (w : World) (n0 : 1 ≤ n) (n1 : n ≤ 32) : Calls Tryd.prog 7 #[.int .i64 4, .int .i64 n] w (MatR (cM 4 n) w) := by
  have hQ := Lib.hid (rule_4 n w (by omega) (by omega))
  have hN : Hid (∀ (i j : Nat) W, j ≤ 32 → Calls Tryd.prog 40 #[.int .i64 i, .int .i64 j, .int .i64 n] W fun e w' => e = .returned (.int .i64 (ent 4 n i j)) ∧ w' = W) := Lib.hid fun i j W hj => indicator_any i j n W
  have hc : cols 4 n = n := by rfl
  have hcI : Hid (((n : Nat) : Int) = (n : Int) - 0) := Lib.hid (by omega)
  have hm1 := make_rows n (by omega)
  have hm2 : ∀ W, (Instr.makeSlice 33 (.int .i64 (n : Int)) (.int .i64 (n : Int))).run Tryd.prog W = .ok (.slice (some ⟨W.heap.size, 0, none⟩) n n) (W.alloc (.cells (rwC.all (List.replicate n Rw0)).toArray 44)) := fun W => make_row n (by omega) W
  have S0 := Lib.hid (St.new w)
  have hn1 := Lib.hid n1
  have hn0 := Lib.hid n0
  replace hc := Lib.hid hc
  clear n0 n1
  go_enter Tryd.func7, Tryd.ntmps7
  go_wp2_with fail
  refine hQ.out.mono ?_
  rintro e w1 ⟨rfl, bb⟩
  obtain ⟨rb, hrb⟩ : ∃ g, g = w1.heap.size := ⟨_, rfl⟩
  obtain ⟨g, hg⟩ : ∃ g, g = rb + 1 := ⟨_, rfl⟩
  have S1 := Lib.hid ((((S0.out.call bb).read (Rd.nil_ _ 0 none)).allocAt rb #[.int .i64 0, .func (.func 40) #[] #[], .func (.func 41) #[] #[]] 53 (noLof rfl) hrb.symm).allocC (slC rwC) (List.replicate n Sr0) g 33 (by rw [hg, hrb]; simp))
  clear bb S0 hQ
  go_wp2
  replace hm1 := Lib.hid hm1
  clear hm1
  rw [← hrb, ← hg]

  clear hrb hg
  go_loopw [23] (fun iv wr => ∃ (i : Nat) (bs : List GBk) (rs : List GRd) (L : List (Sl Rw)), i ≤ n ∧ iv = .int .i64 i ∧ L.length = n ∧ St w wr ((g, ((slC rwC).all L).toArray, 33) :: (rb, #[.int .i64 0, .func (.func 40) #[] #[], .func (.func 41) #[] #[]], 53) :: bs) rs ∧ (none, 0, 0, []) ∈ rs ∧ (∀ s ∈ L, RowI bs rs s) ∧ MatV (L.take i) ((cM 4 n).take i)) (fun iv _ => n - (intOf iv).toNat)
  case atStart => exact ⟨0, [], _, List.replicate n Sr0, Nat.zero_le _, rfl, List.length_replicate, S1.out, List.mem_cons_self, fun s hs => by rw [List.eq_of_mem_replicate hs]; exact .nil_ _ _, rfl⟩
  case round =>
    clear S1
    obtain ⟨i, bs, rs, L, hin, rfl, hL, S, hz, hR, hM⟩ := hrel
    by_cases hlt : i < n
    · have g1 : (i : Int) < (n : Int) := by omega
      have g2 : (0 : Int) ≤ (i : Int) := by omega
      have hih := Lib.hid hlt
      replace hL := Lib.hid hL
      replace hz := Lib.hid hz
      replace hR := Lib.hid hR
      replace hM := Lib.hid hM
      rename World => W0
      obtain ⟨r, hr⟩ : ∃ g, g = W0.heap.size := ⟨_, rfl⟩
      obtain ⟨s0, hLi⟩ : ∃ s, L[i]? = some s := ⟨_, List.getElem?_eq_getElem (l := L) (i := i) (by rw [hL.out]; exact hlt)⟩
      have cr := S.cl 1 0 rfl rfl
      have zr := S.lt 1 rfl
      have zg := S.lt 0 rfl
      have T0 := (S.allocC rwC (List.replicate n Rw0) r 44 hr.symm).perm3
      obtain ⟨hcl, hfr⟩ := St_gcl (C := slC rwC) T0 hLi
      have hc0 := hcl 0 _ rfl
      rw [show (slC rwC).sz = 1 from rfl, Nat.mul_one, Nat.add_zero] at hc0
      have hf0 := hfr i
      have T1 : Hid (St w _ ((r, (rwC.all (List.replicate n Rw0)).toArray, 44) :: (g, ((slC rwC).all (L.set i ⟨some ⟨r, 0, none⟩, n, List.replicate n Rw0⟩)).toArray, 33) :: (rb, #[.int .i64 0, .func (.func 40) #[] #[], .func (.func 41) #[] #[]], 53) :: bs) rs) := Lib.hid (by
        have h := St_gset T0 (⟨some ⟨r, 0, none⟩, n, List.replicate n Rw0⟩ : Sl Rw) (i := i) (by rw [hL.out]; exact hlt)
        rw [show (slC rwC).sz = 1 from rfl, Nat.mul_one] at h
        have e : (slC rwC).cs (⟨some ⟨r, 0, none⟩, n, List.replicate n Rw0⟩ : Sl Rw) = [.slice (some ⟨r, 0, none⟩) n n] := by show [Value.slice _ (List.replicate n Rw0).length _] = _; rw [List.length_replicate]
        rw [e] at h
        exact h.perm3')
      have g3 : W0.heap.size = r := hr.symm
      replace hr := Lib.hid hr
      clear S T0 hcl hfr hLi hlt hin
      have b1 : (n : Int) ≤ 32 := by have := hn1.out; omega
      have b0 : (1 : Int) ≤ (n : Int) := by have := hn0.out; omega
      go_wp2
      clear b0 b1
      go_loopw [39] (fun jv wr => ∃ (j : Nat) (rs' : List GRd) (R : List Rw), j ≤ n ∧ jv = .int .i64 j ∧ R.length = n ∧ St w wr ((r, (rwC.all R).toArray, 44) :: (g, ((slC rwC).all (L.set i ⟨some ⟨r, 0, none⟩, n, R⟩)).toArray, 33) :: (rb, #[.int .i64 0, .func (.func 40) #[] #[], .func (.func 41) #[] #[]], 53) :: bs) rs' ∧ (∀ p ∈ rs, p ∈ rs') ∧ (∀ x ∈ R, rwI rs' x) ∧ (R.take j).map rwV = ((rowM 4 n i).take j).map qV) (fun jv _ => n - (intOf jv).toNat)
      case atStart => exact ⟨0, rs, List.replicate n Rw0, Nat.zero_le _, rfl, List.length_replicate, T1.out, fun _ h => h, fun x hx => by rw [List.eq_of_mem_replicate hx]; exact ⟨hz.out, hz.out⟩, rfl⟩
      case round =>
        clear T1
        obtain ⟨j, rs', R, hjn, rfl, hRl, T, hrr, hX, hV⟩ := hrel
        replace hRl := Lib.hid hRl
        replace hrr := Lib.hid hrr
        replace hX := Lib.hid hX
        replace hV := Lib.hid hV
        by_cases hlt : j < n
        · have g4 : (j : Int) < ((n : Nat) : Int) := by omega
          have g5 : (0 : Int) ≤ (j : Int) := by omega
          have hjh := Lib.hid hlt
          have hF : Hid (∀ W, Calls Tryd.prog 23 #[.int .i64 (ent 4 n i j)] W (RetR ((ent 4 n i j : Int) : Rat) W)) := Lib.hid fun W => fromIntR_any _ W (by have := ent_range (k := 4) (n := n) (i := i) (j := j) (by omega) (by have := hih.out; have := hn1.out; omega); omega) (by have := ent_range (k := 4) (n := n) (i := i) (j := j) (by omega) (by have := hih.out; have := hn1.out; omega); omega)
          obtain ⟨y0, hy0⟩ : ∃ y, R[j]? = some y := ⟨_, List.getElem?_eq_getElem (by rw [hRl.out]; exact hlt)⟩
          replace hy0 := Lib.hid hy0
          replace T := Lib.hid T
          clear hlt hjn
          go_upto_region 12 with fail
          have hSg : ((slC rwC).all (L.set i ⟨some ⟨r, 0, none⟩, n, R⟩)).toArray[i]? = some (.slice (some ⟨r, 0, none⟩) n n) := by
            have := slc_get (L := L.set i ⟨some ⟨r, 0, none⟩, n, R⟩) (i := i) (List.getElem?_set_self (by rw [hL.out]; exact hih.out))
            rw [this]
            show some (Value.slice _ R.length _) = _
            rw [hRl.out]
          replace hSg := Lib.hid hSg
          have hbase := Lib.hid T.out
          refine RW.begin (Z := []) (S := (fun W => W.cell? ⟨g, i, none⟩ = some (.slice (some ⟨r, 0, none⟩) n n) ∧ W.cell? ⟨rb, 1, none⟩ = some (.func (.func 40) #[] #[]))) (by kernel_rfl) ?_ hbase.out ?_
          · exact ⟨by kernel_rfl, zis_nil, by decide, by decide, nol_nil, (fun _ _ h => ⟨(h.kb 1 rfl).cell hSg.out, (h.kb 2 rfl).cell rfl⟩)⟩
          intro hzk
          refine RW.t (i := 0) (v := .slice (some ⟨g, 0, none⟩) n n) (some 42) at0 (hy := fun _ _ => by kernel_rfl) (h := ?_)
          refine RW.t (i := 1) (v := .int .i64 i) (some 43) at1 (hy := fun _ _ => by kernel_rfl) (h := ?_)
          refine RW.t (i := 2) (v := .pointer (some ⟨g, i, none⟩)) (some 44) at2 (hy := fun _ _ => by go_simp) (h := ?_)
          refine RW.t (i := 3) (v := .slice (some ⟨r, 0, none⟩) n n) (some 45) at3 (hy := fun W hS => by (have k0 := hS.1; clear hS; go_simp)) (h := ?_)
          refine RW.t (i := 4) (v := .int .i64 j) (some 46) at4 (hy := fun _ _ => by kernel_rfl) (h := ?_)
          refine RW.t (i := 5) (v := .pointer (some ⟨rb, 1, none⟩)) (some 47) at5 (hy := fun _ _ => by go_simp) (h := ?_)
          refine RW.t (i := 6) (v := .func (.func 40) #[] #[]) (some 48) at6 (hy := fun W hS => by (have k0 := hS.2; clear hS; go_simp)) (h := ?_)
          refine RW.t (i := 7) (v := .int .i64 i) (some 49) at7 (hy := fun _ _ => by kernel_rfl) (h := ?_)
          refine RW.t (i := 8) (v := .int .i64 j) (some 50) at8 (hy := fun _ _ => by kernel_rfl) (h := ?_)
          refine RW.t (i := 9) (v := .int .i64 n) (some 51) at9 (hy := fun _ _ => by kernel_rfl) (h := ?_)
          refine RW.c (i := 10) (args := #[.int .i64 i, .int .i64 j, .int .i64 n]) (some 52) hzk.out at10 (hx := fun _ => by kernel_rfl) (h := fun W S => (hN.out i j W (by have := hjh.out; have := hn1.out; omega)).mono ?_)
          rintro e w7 ⟨rfl, rfl⟩
          refine ⟨Below.refl _ _, _, [], rfl, rd_nil, ?_⟩
          refine RW.c (i := 11) (args := #[.int .i64 (ent 4 n i j)]) (some 53) hzk.out at11 (hx := fun _ => by kernel_rfl) (h := fun W S => (hF.out W).mono ?_)
          rintro e w7 ⟨A, m, c, D, m', d, rfl, X, bb⟩
          refine ⟨bb, _, [(A, m, c, limbs ((ent 4 n i j : Int) : Rat).num.natAbs), (D, m', d, dn ((ent 4 n i j : Int) : Rat))], rfl, rd_cons X.n (rd_cons X.d rd_nil), ?_⟩
          refine RW.tail hzk.out (by kernel_rfl) ?_
          intro gs' w5 hgs' hS Sb
          obtain rfl := len0 hgs'
          simp only [mark, fill, Act.put, List.setIfInBounds_toArray, List.set_cons_zero, List.set_cons_succ]
          refine Wk.o (i := 12) at12 (by kernel_rfl) fun K' hK => ?_
          go_simp
          refine hK.out _ _ hS ?_
          clear hK K'
          try simp only [Act.put, List.setIfInBounds_toArray, List.set_cons_zero, List.set_cons_succ]
          refine Wk.o (i := 13) at13 (by kernel_rfl) fun K' hK => ?_
          obtain ⟨y, hy⟩ : ∃ y : Rw, y = ⟨ng ((ent 4 n i j : Int) : Rat).num, ⟨A, m, c, limbs ((ent 4 n i j : Int) : Rat).num.natAbs⟩, ⟨D, m', d, dn ((ent 4 n i j : Int) : Rat)⟩⟩ := ⟨_, rfl⟩
          obtain ⟨hcl, hfr⟩ := St_gcl (C := rwC) (bs := (g, ((slC rwC).all (L.set i ⟨some ⟨r, 0, none⟩, n, R⟩)).toArray, 33) :: (rb, #[.int .i64 0, .func (.func 40) #[] #[], .func (.func 41) #[] #[]], 53) :: bs) Sb hy0.out
          have q0 := hcl 0 _ rfl
          have q1 := hcl 1 _ rfl
          have q2 := hcl 2 _ rfl
          have f0 := hfr (j * 3)
          have f1 := hfr (j * 3 + 1)
          have f2 := hfr (j * 3 + 2)
          simp only [show rwC.sz = 3 from rfl, Nat.add_zero] at q0 q1 q2
          go_simp
          have T2 : Hid (St w (World.setCell (World.setCell (World.setCell w5 ⟨r, j * 3, none⟩ (.bool (ng ((ent 4 n i j : Int) : Rat).num))) ⟨r, j * 3 + 1, none⟩ (.slice A m c)) ⟨r, j * 3 + 2, none⟩ (.slice D m' d)) ((r, (rwC.all (R.set j y)).toArray, 44) :: (g, ((slC rwC).all (L.set i ⟨some ⟨r, 0, none⟩, n, R⟩)).toArray, 33) :: (rb, #[.int .i64 0, .func (.func 40) #[] #[], .func (.func 41) #[] #[]], 53) :: bs) ((A, m, c, limbs ((ent 4 n i j : Int) : Rat).num.natAbs) :: (D, m', d, dn ((ent 4 n i j : Int) : Rat)) :: rs')) := Lib.hid (by
            have h := St_gset (C := rwC) (bs := (g, ((slC rwC).all (L.set i ⟨some ⟨r, 0, none⟩, n, R⟩)).toArray, 33) :: (rb, #[.int .i64 0, .func (.func 40) #[] #[], .func (.func 41) #[] #[]], 53) :: bs) Sb y (i := j) (by rw [hRl.out]; exact hjh.out)
            rw [hy] at h ⊢
            exact h)
          have hyV : Hid (rwV y = qV ((ent 4 n i j : Int) : Rat)) := Lib.hid (by rw [hy]; rfl)
          have hyI : Hid (rwI ((A, m, c, limbs ((ent 4 n i j : Int) : Rat).num.natAbs) :: (D, m', d, dn ((ent 4 n i j : Int) : Rat)) :: rs') y) := Lib.hid (by rw [hy]; exact ⟨List.mem_cons_self, List.mem_cons_of_mem _ List.mem_cons_self⟩)
          clear hy hcl hfr q0 q1 q2 f0 f1 f2 hS Sb hbase T
          refine hK.out _ _ ⟨(T2.out.cb 1 rfl).cell hSg.out, (T2.out.cb 2 rfl).cell rfl⟩ ?_
          clear hK K'
          refine Wk.done (by kernel_rfl) ?_
          have hX2 : Hid (∀ x ∈ R.set j y, rwI ((A, m, c, limbs ((ent 4 n i j : Int) : Rat).num.natAbs) :: (D, m', d, dn ((ent 4 n i j : Int) : Rat)) :: rs') x) := Lib.hid fun x hx => by
            rcases List.mem_or_eq_of_mem_set hx with hx | rfl
            · exact (hX.out x hx).mono (fun p hp => List.mem_cons_of_mem _ (List.mem_cons_of_mem _ hp))
            · exact hyI.out
          have hV2 : Hid (((R.set j y).take (j + 1)).map rwV = ((rowM 4 n i).take (j + 1)).map qV) := Lib.hid (by
            rw [take_set_snoc (by rw [hRl.out]; exact hjh.out), rowM_take (by rw [hc.out]; exact hjh.out), List.map_append, List.map_append, hV.out]
            simp only [List.map_cons, List.map_nil, hyV.out])
          have hr2 : Hid (∀ p ∈ rs, p ∈ ((A, m, c, limbs ((ent 4 n i j : Int) : Rat).num.natAbs) :: (D, m', d, dn ((ent 4 n i j : Int) : Rat)) :: rs')) := Lib.hid fun p hp => List.mem_cons_of_mem _ (List.mem_cons_of_mem _ (hrr.out p hp))
          have hRl2 : Hid ((R.set j y).length = n) := Lib.hid (by rw [List.length_set]; exact hRl.out)
          have T3 := Lib.hid (show St w _ _ _ from by
            have h := T2.out
            rw [slc_all (L := L) (i := i) (A := some ⟨r, 0, none⟩) (c := n) (R := R) (R' := R.set j y) (by rw [List.length_set])] at h
            exact h)
          clear T2 hX hV hrr hyI hyV hSg hRl hy0 hzk hF
          have b1 : (n : Int) ≤ 32 := by have := hn1.out; omega
          have b2 := hjh.out
          have b3 : j ≤ 32 := by omega
          go_simp
          go_wp2
          go_roundw
          case rel => exact ⟨j + 1, _, _, by omega, by go_num, hRl2.out, T3.out, hr2.out, hX2.out, hV2.out⟩
          case measure => simp [intOf]; omega
        · obtain rfl : n = j := by omega
          have hRow : RowI ((r, (rwC.all R).toArray, 44) :: bs) rs' ⟨some ⟨r, 0, none⟩, n, R⟩ := ⟨by rw [hRl.out]; exact Nat.le_refl _, hX.out, .inr ⟨r, _, _, rfl, List.mem_cons_self, fun k v hv => by rw [List.getElem?_toArray]; exact hv⟩⟩
          have hVf : R.map rwV = (rowM 4 n i).map qV := by
            have h := hV.out
            rw [List.take_of_length_le (by rw [hRl.out]; exact Nat.le_refl _), List.take_of_length_le (by rw [rowM_len, hc.out]; exact Nat.le_refl _)] at h
            exact h
          have hS5 := Lib.hid T.perm3
          have hz5 := Lib.hid (hrr.out _ hz.out)
          have hL5 : Hid ((L.set i ⟨some ⟨r, 0, none⟩, n, R⟩).length = n) := Lib.hid (by rw [List.length_set]; exact hL.out)
          have hR5 : Hid (∀ s ∈ L.set i ⟨some ⟨r, 0, none⟩, n, R⟩, RowI ((r, (rwC.all R).toArray, 44) :: bs) rs' s) := Lib.hid fun s hs => by
            rcases List.mem_or_eq_of_mem_set hs with hs | rfl
            · exact (hR.out s hs).mono (fun p hp => List.mem_cons_of_mem _ hp) hrr.out
            · exact hRow
          have hM5 : Hid (MatV ((L.set i ⟨some ⟨r, 0, none⟩, n, R⟩).take (i + 1)) ((cM 4 n).take (i + 1))) := Lib.hid (by
            rw [take_set_snoc (by rw [hL.out]; exact hih.out), cM_take hih.out]
            exact hM.out.snoc hVf)
          clear T hRow hVf hX hV hrr hRl hL hz hR hM hlt hjn
          have b1 : (n : Int) ≤ 32 := by have := hn1.out; omega
          have b2 := hih.out
          go_wp2
          go_roundw
          case rel => exact ⟨i + 1, _, _, _, by omega, by go_num, hL5.out, hS5.out, hz5.out, hR5.out, hM5.out⟩
          case measure => simp [intOf]; omega
    · obtain rfl : n = i := by omega
      rw [List.take_of_length_le (by rw [hL]; exact Nat.le_refl _), List.take_of_length_le (by rw [cM_len]; exact Nat.le_refl _)] at hM
      have hlr := St_glr S n hL (fun x hx => (slC rwC).at_ S (((hR x hx).mono (fun p hp => List.mem_cons_of_mem _ (List.mem_cons_of_mem _ hp)) (fun p hp => hp)).in_ w))
      have hres : Hid (MatR (cM 4 n) w (.returned (.tuple #[.slice (some ⟨g, 0, none⟩) n n, .int .i64 0])) wr) := Lib.hid (by
        refine ⟨some ⟨g, 0, none⟩, n, L, ?_, ?_, ?_, hM, S.bel⟩
        · rw [hL]
        · rw [hL]; exact hlr
        · rw [hL]; exact Nat.le_refl _)
      clear S hL hR hM hlr hz hin hlt
      go_wp2
      go_ret2
      exact hres.out
set_option maxRecDepth 100000 in
set_option maxHeartbeats 4000000 in
theorem mat_1 (n : Nat) (w : World) (n0 : 1 ≤ n) (n1 : n ≤ 32) : Calls Tryd.prog 7 #[.int .i64 1, .int .i64 n] w (MatR (cM 1 n) w) := by
  have hQ := Lib.hid (rule_1 n w (by omega) (by omega))
  have hN : Hid (∀ (i j : Nat) W, j ≤ 32 → Calls Tryd.prog 42 #[.int .i64 i, .int .i64 j, .int .i64 n] W fun e w' => e = .returned (.int .i64 (ent 1 n i j)) ∧ w' = W) := Lib.hid fun i j W hj => treatment_any i j n W (by omega) (by omega)
  have hc : cols 1 n = (n - 1) := by rfl
  have hcI : Hid ((((n - 1) : Nat) : Int) = (n : Int) - 1) := Lib.hid (by omega)
  have hm1 := make_rows n (by omega)
  have hm2 : ∀ W, (Instr.makeSlice 33 (.int .i64 ((n : Int) - 1)) (.int .i64 ((n : Int) - 1))).run Tryd.prog W = .ok (.slice (some ⟨W.heap.size, 0, none⟩) (n - 1) (n - 1)) (W.alloc (.cells (rwC.all (List.replicate (n - 1) Rw0)).toArray 44)) := fun W => by have h := make_row (n - 1) (by omega) W; rw [show (((n - 1 : Nat)) : Int) = (n : Int) - 1 by omega] at h; exact h
  have S0 := Lib.hid (St.new w)
  have hn1 := Lib.hid n1
  have hn0 := Lib.hid n0
  replace hc := Lib.hid hc
  clear n0 n1
  go_enter Tryd.func7, Tryd.ntmps7
  go_wp2_with fail
  refine hQ.out.mono ?_
  rintro e w1 ⟨rfl, bb⟩
  obtain ⟨rb, hrb⟩ : ∃ g, g = w1.heap.size := ⟨_, rfl⟩
  obtain ⟨g, hg⟩ : ∃ g, g = rb + 1 := ⟨_, rfl⟩
  have S1 := Lib.hid ((((S0.out.call bb).read (Rd.nil_ _ 0 none)).allocAt rb #[.int .i64 1, .func (.func 42) #[] #[], .func (.func 43) #[] #[]] 53 (noLof rfl) hrb.symm).allocC (slC rwC) (List.replicate n Sr0) g 33 (by rw [hg, hrb]; simp))
  clear bb S0 hQ
  go_wp2
  replace hm1 := Lib.hid hm1
  clear hm1
  rw [← hrb, ← hg]

  clear hrb hg
  go_loopw [23] (fun iv wr => ∃ (i : Nat) (bs : List GBk) (rs : List GRd) (L : List (Sl Rw)), i ≤ n ∧ iv = .int .i64 i ∧ L.length = n ∧ St w wr ((g, ((slC rwC).all L).toArray, 33) :: (rb, #[.int .i64 1, .func (.func 42) #[] #[], .func (.func 43) #[] #[]], 53) :: bs) rs ∧ (none, 0, 0, []) ∈ rs ∧ (∀ s ∈ L, RowI bs rs s) ∧ MatV (L.take i) ((cM 1 n).take i)) (fun iv _ => n - (intOf iv).toNat)
  case atStart => exact ⟨0, [], _, List.replicate n Sr0, Nat.zero_le _, rfl, List.length_replicate, S1.out, List.mem_cons_self, fun s hs => by rw [List.eq_of_mem_replicate hs]; exact .nil_ _ _, rfl⟩
  case round =>
    clear S1
    obtain ⟨i, bs, rs, L, hin, rfl, hL, S, hz, hR, hM⟩ := hrel
    by_cases hlt : i < n
    · have g1 : (i : Int) < (n : Int) := by omega
      have g2 : (0 : Int) ≤ (i : Int) := by omega
      have hih := Lib.hid hlt
      replace hL := Lib.hid hL
      replace hz := Lib.hid hz
      replace hR := Lib.hid hR
      replace hM := Lib.hid hM
      rename World => W0
      obtain ⟨r, hr⟩ : ∃ g, g = W0.heap.size := ⟨_, rfl⟩
      obtain ⟨s0, hLi⟩ : ∃ s, L[i]? = some s := ⟨_, List.getElem?_eq_getElem (l := L) (i := i) (by rw [hL.out]; exact hlt)⟩
      have cr := S.cl 1 0 rfl rfl
      have zr := S.lt 1 rfl
      have zg := S.lt 0 rfl
      have T0 := (S.allocC rwC (List.replicate (n - 1) Rw0) r 44 hr.symm).perm3
      obtain ⟨hcl, hfr⟩ := St_gcl (C := slC rwC) T0 hLi
      have hc0 := hcl 0 _ rfl
      rw [show (slC rwC).sz = 1 from rfl, Nat.mul_one, Nat.add_zero] at hc0
      have hf0 := hfr i
      have T1 : Hid (St w _ ((r, (rwC.all (List.replicate (n - 1) Rw0)).toArray, 44) :: (g, ((slC rwC).all (L.set i ⟨some ⟨r, 0, none⟩, (n - 1), List.replicate (n - 1) Rw0⟩)).toArray, 33) :: (rb, #[.int .i64 1, .func (.func 42) #[] #[], .func (.func 43) #[] #[]], 53) :: bs) rs) := Lib.hid (by
        have h := St_gset T0 (⟨some ⟨r, 0, none⟩, (n - 1), List.replicate (n - 1) Rw0⟩ : Sl Rw) (i := i) (by rw [hL.out]; exact hlt)
        rw [show (slC rwC).sz = 1 from rfl, Nat.mul_one] at h
        have e : (slC rwC).cs (⟨some ⟨r, 0, none⟩, (n - 1), List.replicate (n - 1) Rw0⟩ : Sl Rw) = [.slice (some ⟨r, 0, none⟩) (n - 1) (n - 1)] := by show [Value.slice _ (List.replicate (n - 1) Rw0).length _] = _; rw [List.length_replicate]
        rw [e] at h
        exact h.perm3')
      have g3 : W0.heap.size = r := hr.symm
      replace hr := Lib.hid hr
      clear S T0 hcl hfr hLi hlt hin
      have b1 : (n : Int) ≤ 32 := by have := hn1.out; omega
      have b0 : (1 : Int) ≤ (n : Int) := by have := hn0.out; omega
      go_wp2
      clear b0 b1
      go_loopw [39] (fun jv wr => ∃ (j : Nat) (rs' : List GRd) (R : List Rw), j ≤ (n - 1) ∧ jv = .int .i64 j ∧ R.length = (n - 1) ∧ St w wr ((r, (rwC.all R).toArray, 44) :: (g, ((slC rwC).all (L.set i ⟨some ⟨r, 0, none⟩, (n - 1), R⟩)).toArray, 33) :: (rb, #[.int .i64 1, .func (.func 42) #[] #[], .func (.func 43) #[] #[]], 53) :: bs) rs' ∧ (∀ p ∈ rs, p ∈ rs') ∧ (∀ x ∈ R, rwI rs' x) ∧ (R.take j).map rwV = ((rowM 1 n i).take j).map qV) (fun jv _ => (n - 1) - (intOf jv).toNat)
      case atStart => exact ⟨0, rs, List.replicate (n - 1) Rw0, Nat.zero_le _, rfl, List.length_replicate, T1.out, fun _ h => h, fun x hx => by rw [List.eq_of_mem_replicate hx]; exact ⟨hz.out, hz.out⟩, rfl⟩
      case round =>
        clear T1
        obtain ⟨j, rs', R, hjn, rfl, hRl, T, hrr, hX, hV⟩ := hrel
        replace hRl := Lib.hid hRl
        replace hrr := Lib.hid hrr
        replace hX := Lib.hid hX
        replace hV := Lib.hid hV
        by_cases hlt : j < (n - 1)
        · have g4 : (j : Int) < (((n - 1) : Nat) : Int) := by omega
          have g5 : (0 : Int) ≤ (j : Int) := by omega
          have hjh := Lib.hid hlt
          have hF : Hid (∀ W, Calls Tryd.prog 23 #[.int .i64 (ent 1 n i j)] W (RetR ((ent 1 n i j : Int) : Rat) W)) := Lib.hid fun W => fromIntR_any _ W (by have := ent_range (k := 1) (n := n) (i := i) (j := j) (by omega) (by have := hih.out; have := hn1.out; omega); omega) (by have := ent_range (k := 1) (n := n) (i := i) (j := j) (by omega) (by have := hih.out; have := hn1.out; omega); omega)
          obtain ⟨y0, hy0⟩ : ∃ y, R[j]? = some y := ⟨_, List.getElem?_eq_getElem (by rw [hRl.out]; exact hlt)⟩
          replace hy0 := Lib.hid hy0
          replace T := Lib.hid T
          clear hlt hjn
          go_upto_region 12 with fail
          have hSg : ((slC rwC).all (L.set i ⟨some ⟨r, 0, none⟩, (n - 1), R⟩)).toArray[i]? = some (.slice (some ⟨r, 0, none⟩) (n - 1) (n - 1)) := by
            have := slc_get (L := L.set i ⟨some ⟨r, 0, none⟩, (n - 1), R⟩) (i := i) (List.getElem?_set_self (by rw [hL.out]; exact hih.out))
            rw [this]
            show some (Value.slice _ R.length _) = _
            rw [hRl.out]
          replace hSg := Lib.hid hSg
          have hbase := Lib.hid T.out
          refine RW.begin (Z := []) (S := (fun W => W.cell? ⟨g, i, none⟩ = some (.slice (some ⟨r, 0, none⟩) (n - 1) (n - 1)) ∧ W.cell? ⟨rb, 1, none⟩ = some (.func (.func 42) #[] #[]))) (by kernel_rfl) ?_ hbase.out ?_
          · exact ⟨by kernel_rfl, zis_nil, by decide, by decide, nol_nil, (fun _ _ h => ⟨(h.kb 1 rfl).cell hSg.out, (h.kb 2 rfl).cell rfl⟩)⟩
          intro hzk
          refine RW.t (i := 0) (v := .slice (some ⟨g, 0, none⟩) n n) (some 42) at0 (hy := fun _ _ => by kernel_rfl) (h := ?_)
          refine RW.t (i := 1) (v := .int .i64 i) (some 43) at1 (hy := fun _ _ => by kernel_rfl) (h := ?_)
          refine RW.t (i := 2) (v := .pointer (some ⟨g, i, none⟩)) (some 44) at2 (hy := fun _ _ => by go_simp) (h := ?_)
          refine RW.t (i := 3) (v := .slice (some ⟨r, 0, none⟩) (n - 1) (n - 1)) (some 45) at3 (hy := fun W hS => by (have k0 := hS.1; clear hS; go_simp)) (h := ?_)
          refine RW.t (i := 4) (v := .int .i64 j) (some 46) at4 (hy := fun _ _ => by kernel_rfl) (h := ?_)
          refine RW.t (i := 5) (v := .pointer (some ⟨rb, 1, none⟩)) (some 47) at5 (hy := fun _ _ => by go_simp) (h := ?_)
          refine RW.t (i := 6) (v := .func (.func 42) #[] #[]) (some 48) at6 (hy := fun W hS => by (have k0 := hS.2; clear hS; go_simp)) (h := ?_)
          refine RW.t (i := 7) (v := .int .i64 i) (some 49) at7 (hy := fun _ _ => by kernel_rfl) (h := ?_)
          refine RW.t (i := 8) (v := .int .i64 j) (some 50) at8 (hy := fun _ _ => by kernel_rfl) (h := ?_)
          refine RW.t (i := 9) (v := .int .i64 n) (some 51) at9 (hy := fun _ _ => by kernel_rfl) (h := ?_)
          refine RW.c (i := 10) (args := #[.int .i64 i, .int .i64 j, .int .i64 n]) (some 52) hzk.out at10 (hx := fun _ => by kernel_rfl) (h := fun W S => (hN.out i j W (by have := hjh.out; have := hn1.out; omega)).mono ?_)
          rintro e w7 ⟨rfl, rfl⟩
          refine ⟨Below.refl _ _, _, [], rfl, rd_nil, ?_⟩
          refine RW.c (i := 11) (args := #[.int .i64 (ent 1 n i j)]) (some 53) hzk.out at11 (hx := fun _ => by kernel_rfl) (h := fun W S => (hF.out W).mono ?_)
          rintro e w7 ⟨A, m, c, D, m', d, rfl, X, bb⟩
          refine ⟨bb, _, [(A, m, c, limbs ((ent 1 n i j : Int) : Rat).num.natAbs), (D, m', d, dn ((ent 1 n i j : Int) : Rat))], rfl, rd_cons X.n (rd_cons X.d rd_nil), ?_⟩
          refine RW.tail hzk.out (by kernel_rfl) ?_
          intro gs' w5 hgs' hS Sb
          obtain rfl := len0 hgs'
          simp only [mark, fill, Act.put, List.setIfInBounds_toArray, List.set_cons_zero, List.set_cons_succ]
          refine Wk.o (i := 12) at12 (by kernel_rfl) fun K' hK => ?_
          go_simp
          refine hK.out _ _ hS ?_
          clear hK K'
          try simp only [Act.put, List.setIfInBounds_toArray, List.set_cons_zero, List.set_cons_succ]
          refine Wk.o (i := 13) at13 (by kernel_rfl) fun K' hK => ?_
          obtain ⟨y, hy⟩ : ∃ y : Rw, y = ⟨ng ((ent 1 n i j : Int) : Rat).num, ⟨A, m, c, limbs ((ent 1 n i j : Int) : Rat).num.natAbs⟩, ⟨D, m', d, dn ((ent 1 n i j : Int) : Rat)⟩⟩ := ⟨_, rfl⟩
          obtain ⟨hcl, hfr⟩ := St_gcl (C := rwC) (bs := (g, ((slC rwC).all (L.set i ⟨some ⟨r, 0, none⟩, (n - 1), R⟩)).toArray, 33) :: (rb, #[.int .i64 1, .func (.func 42) #[] #[], .func (.func 43) #[] #[]], 53) :: bs) Sb hy0.out
          have q0 := hcl 0 _ rfl
          have q1 := hcl 1 _ rfl
          have q2 := hcl 2 _ rfl
          have f0 := hfr (j * 3)
          have f1 := hfr (j * 3 + 1)
          have f2 := hfr (j * 3 + 2)
          simp only [show rwC.sz = 3 from rfl, Nat.add_zero] at q0 q1 q2
          go_simp
          have T2 : Hid (St w (World.setCell (World.setCell (World.setCell w5 ⟨r, j * 3, none⟩ (.bool (ng ((ent 1 n i j : Int) : Rat).num))) ⟨r, j * 3 + 1, none⟩ (.slice A m c)) ⟨r, j * 3 + 2, none⟩ (.slice D m' d)) ((r, (rwC.all (R.set j y)).toArray, 44) :: (g, ((slC rwC).all (L.set i ⟨some ⟨r, 0, none⟩, (n - 1), R⟩)).toArray, 33) :: (rb, #[.int .i64 1, .func (.func 42) #[] #[], .func (.func 43) #[] #[]], 53) :: bs) ((A, m, c, limbs ((ent 1 n i j : Int) : Rat).num.natAbs) :: (D, m', d, dn ((ent 1 n i j : Int) : Rat)) :: rs')) := Lib.hid (by
            have h := St_gset (C := rwC) (bs := (g, ((slC rwC).all (L.set i ⟨some ⟨r, 0, none⟩, (n - 1), R⟩)).toArray, 33) :: (rb, #[.int .i64 1, .func (.func 42) #[] #[], .func (.func 43) #[] #[]], 53) :: bs) Sb y (i := j) (by rw [hRl.out]; exact hjh.out)
            rw [hy] at h ⊢
            exact h)
          have hyV : Hid (rwV y = qV ((ent 1 n i j : Int) : Rat)) := Lib.hid (by rw [hy]; rfl)
          have hyI : Hid (rwI ((A, m, c, limbs ((ent 1 n i j : Int) : Rat).num.natAbs) :: (D, m', d, dn ((ent 1 n i j : Int) : Rat)) :: rs') y) := Lib.hid (by rw [hy]; exact ⟨List.mem_cons_self, List.mem_cons_of_mem _ List.mem_cons_self⟩)
          clear hy hcl hfr q0 q1 q2 f0 f1 f2 hS Sb hbase T
          refine hK.out _ _ ⟨(T2.out.cb 1 rfl).cell hSg.out, (T2.out.cb 2 rfl).cell rfl⟩ ?_
          clear hK K'
          refine Wk.done (by kernel_rfl) ?_
          have hX2 : Hid (∀ x ∈ R.set j y, rwI ((A, m, c, limbs ((ent 1 n i j : Int) : Rat).num.natAbs) :: (D, m', d, dn ((ent 1 n i j : Int) : Rat)) :: rs') x) := Lib.hid fun x hx => by
            rcases List.mem_or_eq_of_mem_set hx with hx | rfl
            · exact (hX.out x hx).mono (fun p hp => List.mem_cons_of_mem _ (List.mem_cons_of_mem _ hp))
            · exact hyI.out
          have hV2 : Hid (((R.set j y).take (j + 1)).map rwV = ((rowM 1 n i).take (j + 1)).map qV) := Lib.hid (by
            rw [take_set_snoc (by rw [hRl.out]; exact hjh.out), rowM_take (by rw [hc.out]; exact hjh.out), List.map_append, List.map_append, hV.out]
            simp only [List.map_cons, List.map_nil, hyV.out])
          have hr2 : Hid (∀ p ∈ rs, p ∈ ((A, m, c, limbs ((ent 1 n i j : Int) : Rat).num.natAbs) :: (D, m', d, dn ((ent 1 n i j : Int) : Rat)) :: rs')) := Lib.hid fun p hp => List.mem_cons_of_mem _ (List.mem_cons_of_mem _ (hrr.out p hp))
          have hRl2 : Hid ((R.set j y).length = (n - 1)) := Lib.hid (by rw [List.length_set]; exact hRl.out)
          have T3 := Lib.hid (show St w _ _ _ from by
            have h := T2.out
            rw [slc_all (L := L) (i := i) (A := some ⟨r, 0, none⟩) (c := (n - 1)) (R := R) (R' := R.set j y) (by rw [List.length_set])] at h
            exact h)
          clear T2 hX hV hrr hyI hyV hSg hRl hy0 hzk hF
          have b1 : (n : Int) ≤ 32 := by have := hn1.out; omega
          have b2 := hjh.out
          have b3 : j ≤ 32 := by omega
          go_simp
          go_wp2
          go_roundw
          case rel => exact ⟨j + 1, _, _, by omega, by go_num, hRl2.out, T3.out, hr2.out, hX2.out, hV2.out⟩
          case measure => simp [intOf]; omega
        · obtain rfl : j = n - 1 := by omega
          have hRow : RowI ((r, (rwC.all R).toArray, 44) :: bs) rs' ⟨some ⟨r, 0, none⟩, (n - 1), R⟩ := ⟨by rw [hRl.out]; exact Nat.le_refl _, hX.out, .inr ⟨r, _, _, rfl, List.mem_cons_self, fun k v hv => by rw [List.getElem?_toArray]; exact hv⟩⟩
          have hVf : R.map rwV = (rowM 1 n i).map qV := by
            have h := hV.out
            rw [List.take_of_length_le (by rw [hRl.out]; exact Nat.le_refl _), List.take_of_length_le (by rw [rowM_len, hc.out]; exact Nat.le_refl _)] at h
            exact h
          have hS5 := Lib.hid T.perm3
          have hz5 := Lib.hid (hrr.out _ hz.out)
          have hL5 : Hid ((L.set i ⟨some ⟨r, 0, none⟩, (n - 1), R⟩).length = n) := Lib.hid (by rw [List.length_set]; exact hL.out)
          have hR5 : Hid (∀ s ∈ L.set i ⟨some ⟨r, 0, none⟩, (n - 1), R⟩, RowI ((r, (rwC.all R).toArray, 44) :: bs) rs' s) := Lib.hid fun s hs => by
            rcases List.mem_or_eq_of_mem_set hs with hs | rfl
            · exact (hR.out s hs).mono (fun p hp => List.mem_cons_of_mem _ hp) hrr.out
            · exact hRow
          have hM5 : Hid (MatV ((L.set i ⟨some ⟨r, 0, none⟩, (n - 1), R⟩).take (i + 1)) ((cM 1 n).take (i + 1))) := Lib.hid (by
            rw [take_set_snoc (by rw [hL.out]; exact hih.out), cM_take hih.out]
            exact hM.out.snoc hVf)
          clear T hRow hVf hX hV hrr hRl hL hz hR hM hlt hjn
          have b1 : (n : Int) ≤ 32 := by have := hn1.out; omega
          have b2 := hih.out
          go_wp2
          go_roundw
          case rel => exact ⟨i + 1, _, _, _, by omega, by go_num, hL5.out, hS5.out, hz5.out, hR5.out, hM5.out⟩
          case measure => simp [intOf]; omega
    · obtain rfl : n = i := by omega
      rw [List.take_of_length_le (by rw [hL]; exact Nat.le_refl _), List.take_of_length_le (by rw [cM_len]; exact Nat.le_refl _)] at hM
      have hlr := St_glr S n hL (fun x hx => (slC rwC).at_ S (((hR x hx).mono (fun p hp => List.mem_cons_of_mem _ (List.mem_cons_of_mem _ hp)) (fun p hp => hp)).in_ w))
      have hres : Hid (MatR (cM 1 n) w (.returned (.tuple #[.slice (some ⟨g, 0, none⟩) n n, .int .i64 0])) wr) := Lib.hid (by
        refine ⟨some ⟨g, 0, none⟩, n, L, ?_, ?_, ?_, hM, S.bel⟩
        · rw [hL]
        · rw [hL]; exact hlr
        · rw [hL]; exact Nat.le_refl _)
      clear S hL hR hM hlr hz hin hlt
      go_wp2
      go_ret2
      exact hres.out
set_option maxRecDepth 100000 in
set_option maxHeartbeats 4000000 in
theorem mat_2 (n : Nat) (w : World) (n0 : 1 ≤ n) (n1 : n ≤ 32) : Calls Tryd.prog 7 #[.int .i64 2, .int .i64 n] w (MatR (cM 2 n) w) := by
  have hQ := Lib.hid (rule_2 n w (by omega) (by omega))
  have hN : Hid (∀ (i j : Nat) W, j ≤ 32 → Calls Tryd.prog 44 #[.int .i64 i, .int .i64 j, .int .i64 n] W fun e w' => e = .returned (.int .i64 (ent 2 n i j)) ∧ w' = W) := Lib.hid fun i j W hj => sum_any i j n W (by omega) (by omega)
  have hc : cols 2 n = (n - 1) := by rfl
  have hcI : Hid ((((n - 1) : Nat) : Int) = (n : Int) - 1) := Lib.hid (by omega)
  have hm1 := make_rows n (by omega)
  have hm2 : ∀ W, (Instr.makeSlice 33 (.int .i64 ((n : Int) - 1)) (.int .i64 ((n : Int) - 1))).run Tryd.prog W = .ok (.slice (some ⟨W.heap.size, 0, none⟩) (n - 1) (n - 1)) (W.alloc (.cells (rwC.all (List.replicate (n - 1) Rw0)).toArray 44)) := fun W => by have h := make_row (n - 1) (by omega) W; rw [show (((n - 1 : Nat)) : Int) = (n : Int) - 1 by omega] at h; exact h
  have S0 := Lib.hid (St.new w)
  have hn1 := Lib.hid n1
  have hn0 := Lib.hid n0
  replace hc := Lib.hid hc
  clear n0 n1
  go_enter Tryd.func7, Tryd.ntmps7
  go_wp2_with fail
  refine hQ.out.mono ?_
  rintro e w1 ⟨rfl, bb⟩
  obtain ⟨rb, hrb⟩ : ∃ g, g = w1.heap.size := ⟨_, rfl⟩
  obtain ⟨g, hg⟩ : ∃ g, g = rb + 1 := ⟨_, rfl⟩
  have S1 := Lib.hid ((((S0.out.call bb).read (Rd.nil_ _ 0 none)).allocAt rb #[.int .i64 1, .func (.func 44) #[] #[], .func (.func 45) #[] #[]] 53 (noLof rfl) hrb.symm).allocC (slC rwC) (List.replicate n Sr0) g 33 (by rw [hg, hrb]; simp))
  clear bb S0 hQ
  go_wp2
  replace hm1 := Lib.hid hm1
  clear hm1
  rw [← hrb, ← hg]

  clear hrb hg
  go_loopw [23] (fun iv wr => ∃ (i : Nat) (bs : List GBk) (rs : List GRd) (L : List (Sl Rw)), i ≤ n ∧ iv = .int .i64 i ∧ L.length = n ∧ St w wr ((g, ((slC rwC).all L).toArray, 33) :: (rb, #[.int .i64 1, .func (.func 44) #[] #[], .func (.func 45) #[] #[]], 53) :: bs) rs ∧ (none, 0, 0, []) ∈ rs ∧ (∀ s ∈ L, RowI bs rs s) ∧ MatV (L.take i) ((cM 2 n).take i)) (fun iv _ => n - (intOf iv).toNat)
  case atStart => exact ⟨0, [], _, List.replicate n Sr0, Nat.zero_le _, rfl, List.length_replicate, S1.out, List.mem_cons_self, fun s hs => by rw [List.eq_of_mem_replicate hs]; exact .nil_ _ _, rfl⟩
  case round =>
    clear S1
    obtain ⟨i, bs, rs, L, hin, rfl, hL, S, hz, hR, hM⟩ := hrel
    by_cases hlt : i < n
    · have g1 : (i : Int) < (n : Int) := by omega
      have g2 : (0 : Int) ≤ (i : Int) := by omega
      have hih := Lib.hid hlt
      replace hL := Lib.hid hL
      replace hz := Lib.hid hz
      replace hR := Lib.hid hR
      replace hM := Lib.hid hM
      rename World => W0
      obtain ⟨r, hr⟩ : ∃ g, g = W0.heap.size := ⟨_, rfl⟩
      obtain ⟨s0, hLi⟩ : ∃ s, L[i]? = some s := ⟨_, List.getElem?_eq_getElem (l := L) (i := i) (by rw [hL.out]; exact hlt)⟩
      have cr := S.cl 1 0 rfl rfl
      have zr := S.lt 1 rfl
      have zg := S.lt 0 rfl
      have T0 := (S.allocC rwC (List.replicate (n - 1) Rw0) r 44 hr.symm).perm3
      obtain ⟨hcl, hfr⟩ := St_gcl (C := slC rwC) T0 hLi
      have hc0 := hcl 0 _ rfl
      rw [show (slC rwC).sz = 1 from rfl, Nat.mul_one, Nat.add_zero] at hc0
      have hf0 := hfr i
      have T1 : Hid (St w _ ((r, (rwC.all (List.replicate (n - 1) Rw0)).toArray, 44) :: (g, ((slC rwC).all (L.set i ⟨some ⟨r, 0, none⟩, (n - 1), List.replicate (n - 1) Rw0⟩)).toArray, 33) :: (rb, #[.int .i64 1, .func (.func 44) #[] #[], .func (.func 45) #[] #[]], 53) :: bs) rs) := Lib.hid (by
        have h := St_gset T0 (⟨some ⟨r, 0, none⟩, (n - 1), List.replicate (n - 1) Rw0⟩ : Sl Rw) (i := i) (by rw [hL.out]; exact hlt)
        rw [show (slC rwC).sz = 1 from rfl, Nat.mul_one] at h
        have e : (slC rwC).cs (⟨some ⟨r, 0, none⟩, (n - 1), List.replicate (n - 1) Rw0⟩ : Sl Rw) = [.slice (some ⟨r, 0, none⟩) (n - 1) (n - 1)] := by show [Value.slice _ (List.replicate (n - 1) Rw0).length _] = _; rw [List.length_replicate]
        rw [e] at h
        exact h.perm3')
      have g3 : W0.heap.size = r := hr.symm
      replace hr := Lib.hid hr
      clear S T0 hcl hfr hLi hlt hin
      have b1 : (n : Int) ≤ 32 := by have := hn1.out; omega
      have b0 : (1 : Int) ≤ (n : Int) := by have := hn0.out; omega
      go_wp2
      clear b0 b1
      go_loopw [39] (fun jv wr => ∃ (j : Nat) (rs' : List GRd) (R : List Rw), j ≤ (n - 1) ∧ jv = .int .i64 j ∧ R.length = (n - 1) ∧ St w wr ((r, (rwC.all R).toArray, 44) :: (g, ((slC rwC).all (L.set i ⟨some ⟨r, 0, none⟩, (n - 1), R⟩)).toArray, 33) :: (rb, #[.int .i64 1, .func (.func 44) #[] #[], .func (.func 45) #[] #[]], 53) :: bs) rs' ∧ (∀ p ∈ rs, p ∈ rs') ∧ (∀ x ∈ R, rwI rs' x) ∧ (R.take j).map rwV = ((rowM 2 n i).take j).map qV) (fun jv _ => (n - 1) - (intOf jv).toNat)
      case atStart => exact ⟨0, rs, List.replicate (n - 1) Rw0, Nat.zero_le _, rfl, List.length_replicate, T1.out, fun _ h => h, fun x hx => by rw [List.eq_of_mem_replicate hx]; exact ⟨hz.out, hz.out⟩, rfl⟩
      case round =>
        clear T1
        obtain ⟨j, rs', R, hjn, rfl, hRl, T, hrr, hX, hV⟩ := hrel
        replace hRl := Lib.hid hRl
        replace hrr := Lib.hid hrr
        replace hX := Lib.hid hX
        replace hV := Lib.hid hV
        by_cases hlt : j < (n - 1)
        · have g4 : (j : Int) < (((n - 1) : Nat) : Int) := by omega
          have g5 : (0 : Int) ≤ (j : Int) := by omega
          have hjh := Lib.hid hlt
          have hF : Hid (∀ W, Calls Tryd.prog 23 #[.int .i64 (ent 2 n i j)] W (RetR ((ent 2 n i j : Int) : Rat) W)) := Lib.hid fun W => fromIntR_any _ W (by have := ent_range (k := 2) (n := n) (i := i) (j := j) (by omega) (by have := hih.out; have := hn1.out; omega); omega) (by have := ent_range (k := 2) (n := n) (i := i) (j := j) (by omega) (by have := hih.out; have := hn1.out; omega); omega)
          obtain ⟨y0, hy0⟩ : ∃ y, R[j]? = some y := ⟨_, List.getElem?_eq_getElem (by rw [hRl.out]; exact hlt)⟩
          replace hy0 := Lib.hid hy0
          replace T := Lib.hid T
          clear hlt hjn
          go_upto_region 12 with fail
          have hSg : ((slC rwC).all (L.set i ⟨some ⟨r, 0, none⟩, (n - 1), R⟩)).toArray[i]? = some (.slice (some ⟨r, 0, none⟩) (n - 1) (n - 1)) := by
            have := slc_get (L := L.set i ⟨some ⟨r, 0, none⟩, (n - 1), R⟩) (i := i) (List.getElem?_set_self (by rw [hL.out]; exact hih.out))
            rw [this]
            show some (Value.slice _ R.length _) = _
            rw [hRl.out]
          replace hSg := Lib.hid hSg
          have hbase := Lib.hid T.out
          refine RW.begin (Z := []) (S := (fun W => W.cell? ⟨g, i, none⟩ = some (.slice (some ⟨r, 0, none⟩) (n - 1) (n - 1)) ∧ W.cell? ⟨rb, 1, none⟩ = some (.func (.func 44) #[] #[]))) (by kernel_rfl) ?_ hbase.out ?_
          · exact ⟨by kernel_rfl, zis_nil, by decide, by decide, nol_nil, (fun _ _ h => ⟨(h.kb 1 rfl).cell hSg.out, (h.kb 2 rfl).cell rfl⟩)⟩
          intro hzk
          refine RW.t (i := 0) (v := .slice (some ⟨g, 0, none⟩) n n) (some 42) at0 (hy := fun _ _ => by kernel_rfl) (h := ?_)
          refine RW.t (i := 1) (v := .int .i64 i) (some 43) at1 (hy := fun _ _ => by kernel_rfl) (h := ?_)
          refine RW.t (i := 2) (v := .pointer (some ⟨g, i, none⟩)) (some 44) at2 (hy := fun _ _ => by go_simp) (h := ?_)
          refine RW.t (i := 3) (v := .slice (some ⟨r, 0, none⟩) (n - 1) (n - 1)) (some 45) at3 (hy := fun W hS => by (have k0 := hS.1; clear hS; go_simp)) (h := ?_)
          refine RW.t (i := 4) (v := .int .i64 j) (some 46) at4 (hy := fun _ _ => by kernel_rfl) (h := ?_)
          refine RW.t (i := 5) (v := .pointer (some ⟨rb, 1, none⟩)) (some 47) at5 (hy := fun _ _ => by go_simp) (h := ?_)
          refine RW.t (i := 6) (v := .func (.func 44) #[] #[]) (some 48) at6 (hy := fun W hS => by (have k0 := hS.2; clear hS; go_simp)) (h := ?_)
          refine RW.t (i := 7) (v := .int .i64 i) (some 49) at7 (hy := fun _ _ => by kernel_rfl) (h := ?_)
          refine RW.t (i := 8) (v := .int .i64 j) (some 50) at8 (hy := fun _ _ => by kernel_rfl) (h := ?_)
          refine RW.t (i := 9) (v := .int .i64 n) (some 51) at9 (hy := fun _ _ => by kernel_rfl) (h := ?_)
          refine RW.c (i := 10) (args := #[.int .i64 i, .int .i64 j, .int .i64 n]) (some 52) hzk.out at10 (hx := fun _ => by kernel_rfl) (h := fun W S => (hN.out i j W (by have := hjh.out; have := hn1.out; omega)).mono ?_)
          rintro e w7 ⟨rfl, rfl⟩
          refine ⟨Below.refl _ _, _, [], rfl, rd_nil, ?_⟩
          refine RW.c (i := 11) (args := #[.int .i64 (ent 2 n i j)]) (some 53) hzk.out at11 (hx := fun _ => by kernel_rfl) (h := fun W S => (hF.out W).mono ?_)
          rintro e w7 ⟨A, m, c, D, m', d, rfl, X, bb⟩
          refine ⟨bb, _, [(A, m, c, limbs ((ent 2 n i j : Int) : Rat).num.natAbs), (D, m', d, dn ((ent 2 n i j : Int) : Rat))], rfl, rd_cons X.n (rd_cons X.d rd_nil), ?_⟩
          refine RW.tail hzk.out (by kernel_rfl) ?_
          intro gs' w5 hgs' hS Sb
          obtain rfl := len0 hgs'
          simp only [mark, fill, Act.put, List.setIfInBounds_toArray, List.set_cons_zero, List.set_cons_succ]
          refine Wk.o (i := 12) at12 (by kernel_rfl) fun K' hK => ?_
          go_simp
          refine hK.out _ _ hS ?_
          clear hK K'
          try simp only [Act.put, List.setIfInBounds_toArray, List.set_cons_zero, List.set_cons_succ]
          refine Wk.o (i := 13) at13 (by kernel_rfl) fun K' hK => ?_
          obtain ⟨y, hy⟩ : ∃ y : Rw, y = ⟨ng ((ent 2 n i j : Int) : Rat).num, ⟨A, m, c, limbs ((ent 2 n i j : Int) : Rat).num.natAbs⟩, ⟨D, m', d, dn ((ent 2 n i j : Int) : Rat)⟩⟩ := ⟨_, rfl⟩
          obtain ⟨hcl, hfr⟩ := St_gcl (C := rwC) (bs := (g, ((slC rwC).all (L.set i ⟨some ⟨r, 0, none⟩, (n - 1), R⟩)).toArray, 33) :: (rb, #[.int .i64 1, .func (.func 44) #[] #[], .func (.func 45) #[] #[]], 53) :: bs) Sb hy0.out
          have q0 := hcl 0 _ rfl
          have q1 := hcl 1 _ rfl
          have q2 := hcl 2 _ rfl
          have f0 := hfr (j * 3)
          have f1 := hfr (j * 3 + 1)
          have f2 := hfr (j * 3 + 2)
          simp only [show rwC.sz = 3 from rfl, Nat.add_zero] at q0 q1 q2
          go_simp
          have T2 : Hid (St w (World.setCell (World.setCell (World.setCell w5 ⟨r, j * 3, none⟩ (.bool (ng ((ent 2 n i j : Int) : Rat).num))) ⟨r, j * 3 + 1, none⟩ (.slice A m c)) ⟨r, j * 3 + 2, none⟩ (.slice D m' d)) ((r, (rwC.all (R.set j y)).toArray, 44) :: (g, ((slC rwC).all (L.set i ⟨some ⟨r, 0, none⟩, (n - 1), R⟩)).toArray, 33) :: (rb, #[.int .i64 1, .func (.func 44) #[] #[], .func (.func 45) #[] #[]], 53) :: bs) ((A, m, c, limbs ((ent 2 n i j : Int) : Rat).num.natAbs) :: (D, m', d, dn ((ent 2 n i j : Int) : Rat)) :: rs')) := Lib.hid (by
            have h := St_gset (C := rwC) (bs := (g, ((slC rwC).all (L.set i ⟨some ⟨r, 0, none⟩, (n - 1), R⟩)).toArray, 33) :: (rb, #[.int .i64 1, .func (.func 44) #[] #[], .func (.func 45) #[] #[]], 53) :: bs) Sb y (i := j) (by rw [hRl.out]; exact hjh.out)
            rw [hy] at h ⊢
            exact h)
          have hyV : Hid (rwV y = qV ((ent 2 n i j : Int) : Rat)) := Lib.hid (by rw [hy]; rfl)
          have hyI : Hid (rwI ((A, m, c, limbs ((ent 2 n i j : Int) : Rat).num.natAbs) :: (D, m', d, dn ((ent 2 n i j : Int) : Rat)) :: rs') y) := Lib.hid (by rw [hy]; exact ⟨List.mem_cons_self, List.mem_cons_of_mem _ List.mem_cons_self⟩)
          clear hy hcl hfr q0 q1 q2 f0 f1 f2 hS Sb hbase T
          refine hK.out _ _ ⟨(T2.out.cb 1 rfl).cell hSg.out, (T2.out.cb 2 rfl).cell rfl⟩ ?_
          clear hK K'
          refine Wk.done (by kernel_rfl) ?_
          have hX2 : Hid (∀ x ∈ R.set j y, rwI ((A, m, c, limbs ((ent 2 n i j : Int) : Rat).num.natAbs) :: (D, m', d, dn ((ent 2 n i j : Int) : Rat)) :: rs') x) := Lib.hid fun x hx => by
            rcases List.mem_or_eq_of_mem_set hx with hx | rfl
            · exact (hX.out x hx).mono (fun p hp => List.mem_cons_of_mem _ (List.mem_cons_of_mem _ hp))
            · exact hyI.out
          have hV2 : Hid (((R.set j y).take (j + 1)).map rwV = ((rowM 2 n i).take (j + 1)).map qV) := Lib.hid (by
            rw [take_set_snoc (by rw [hRl.out]; exact hjh.out), rowM_take (by rw [hc.out]; exact hjh.out), List.map_append, List.map_append, hV.out]
            simp only [List.map_cons, List.map_nil, hyV.out])
          have hr2 : Hid (∀ p ∈ rs, p ∈ ((A, m, c, limbs ((ent 2 n i j : Int) : Rat).num.natAbs) :: (D, m', d, dn ((ent 2 n i j : Int) : Rat)) :: rs')) := Lib.hid fun p hp => List.mem_cons_of_mem _ (List.mem_cons_of_mem _ (hrr.out p hp))
          have hRl2 : Hid ((R.set j y).length = (n - 1)) := Lib.hid (by rw [List.length_set]; exact hRl.out)
          have T3 := Lib.hid (show St w _ _ _ from by
            have h := T2.out
            rw [slc_all (L := L) (i := i) (A := some ⟨r, 0, none⟩) (c := (n - 1)) (R := R) (R' := R.set j y) (by rw [List.length_set])] at h
            exact h)
          clear T2 hX hV hrr hyI hyV hSg hRl hy0 hzk hF
          have b1 : (n : Int) ≤ 32 := by have := hn1.out; omega
          have b2 := hjh.out
          have b3 : j ≤ 32 := by omega
          go_simp
          go_wp2
          go_roundw
          case rel => exact ⟨j + 1, _, _, by omega, by go_num, hRl2.out, T3.out, hr2.out, hX2.out, hV2.out⟩
          case measure => simp [intOf]; omega
        · obtain rfl : j = n - 1 := by omega
          have hRow : RowI ((r, (rwC.all R).toArray, 44) :: bs) rs' ⟨some ⟨r, 0, none⟩, (n - 1), R⟩ := ⟨by rw [hRl.out]; exact Nat.le_refl _, hX.out, .inr ⟨r, _, _, rfl, List.mem_cons_self, fun k v hv => by rw [List.getElem?_toArray]; exact hv⟩⟩
          have hVf : R.map rwV = (rowM 2 n i).map qV := by
            have h := hV.out
            rw [List.take_of_length_le (by rw [hRl.out]; exact Nat.le_refl _), List.take_of_length_le (by rw [rowM_len, hc.out]; exact Nat.le_refl _)] at h
            exact h
          have hS5 := Lib.hid T.perm3
          have hz5 := Lib.hid (hrr.out _ hz.out)
          have hL5 : Hid ((L.set i ⟨some ⟨r, 0, none⟩, (n - 1), R⟩).length = n) := Lib.hid (by rw [List.length_set]; exact hL.out)
          have hR5 : Hid (∀ s ∈ L.set i ⟨some ⟨r, 0, none⟩, (n - 1), R⟩, RowI ((r, (rwC.all R).toArray, 44) :: bs) rs' s) := Lib.hid fun s hs => by
            rcases List.mem_or_eq_of_mem_set hs with hs | rfl
            · exact (hR.out s hs).mono (fun p hp => List.mem_cons_of_mem _ hp) hrr.out
            · exact hRow
          have hM5 : Hid (MatV ((L.set i ⟨some ⟨r, 0, none⟩, (n - 1), R⟩).take (i + 1)) ((cM 2 n).take (i + 1))) := Lib.hid (by
            rw [take_set_snoc (by rw [hL.out]; exact hih.out), cM_take hih.out]
            exact hM.out.snoc hVf)
          clear T hRow hVf hX hV hrr hRl hL hz hR hM hlt hjn
          have b1 : (n : Int) ≤ 32 := by have := hn1.out; omega
          have b2 := hih.out
          go_wp2
          go_roundw
          case rel => exact ⟨i + 1, _, _, _, by omega, by go_num, hL5.out, hS5.out, hz5.out, hR5.out, hM5.out⟩
          case measure => simp [intOf]; omega
    · obtain rfl : n = i := by omega
      rw [List.take_of_length_le (by rw [hL]; exact Nat.le_refl _), List.take_of_length_le (by rw [cM_len]; exact Nat.le_refl _)] at hM
      have hlr := St_glr S n hL (fun x hx => (slC rwC).at_ S (((hR x hx).mono (fun p hp => List.mem_cons_of_mem _ (List.mem_cons_of_mem _ hp)) (fun p hp => hp)).in_ w))
      have hres : Hid (MatR (cM 2 n) w (.returned (.tuple #[.slice (some ⟨g, 0, none⟩) n n, .int .i64 0])) wr) := Lib.hid (by
        refine ⟨some ⟨g, 0, none⟩, n, L, ?_, ?_, ?_, hM, S.bel⟩
        · rw [hL]
        · rw [hL]; exact hlr
        · rw [hL]; exact Nat.le_refl _)
      clear S hL hR hM hlr hz hin hlt
      go_wp2
      go_ret2
      exact hres.out
set_option maxRecDepth 100000 in
set_option maxHeartbeats 4000000 in
theorem mat_3 (n : Nat) (w : World) (n0 : 1 ≤ n) (n1 : n ≤ 32) : Calls Tryd.prog 7 #[.int .i64 3, .int .i64 n] w (MatR (cM 3 n) w) := by
  have hQ := Lib.hid (rule_3 n w (by omega) (by omega))
  have hN : Hid (∀ (i j : Nat) W, j ≤ 32 → Calls Tryd.prog 46 #[.int .i64 i, .int .i64 j, .int .i64 n] W fun e w' => e = .returned (.int .i64 (ent 3 n i j)) ∧ w' = W) := Lib.hid fun i j W hj => helmert_any i j n W (by omega) (by omega)
  have hc : cols 3 n = (n - 1) := by rfl
  have hcI : Hid ((((n - 1) : Nat) : Int) = (n : Int) - 1) := Lib.hid (by omega)
  have hm1 := make_rows n (by omega)
  have hm2 : ∀ W, (Instr.makeSlice 33 (.int .i64 ((n : Int) - 1)) (.int .i64 ((n : Int) - 1))).run Tryd.prog W = .ok (.slice (some ⟨W.heap.size, 0, none⟩) (n - 1) (n - 1)) (W.alloc (.cells (rwC.all (List.replicate (n - 1) Rw0)).toArray 44)) := fun W => by have h := make_row (n - 1) (by omega) W; rw [show (((n - 1 : Nat)) : Int) = (n : Int) - 1 by omega] at h; exact h
  have S0 := Lib.hid (St.new w)
  have hn1 := Lib.hid n1
  have hn0 := Lib.hid n0
  replace hc := Lib.hid hc
  clear n0 n1
  go_enter Tryd.func7, Tryd.ntmps7
  go_wp2_with fail
  refine hQ.out.mono ?_
  rintro e w1 ⟨rfl, bb⟩
  obtain ⟨rb, hrb⟩ : ∃ g, g = w1.heap.size := ⟨_, rfl⟩
  obtain ⟨g, hg⟩ : ∃ g, g = rb + 1 := ⟨_, rfl⟩
  have S1 := Lib.hid ((((S0.out.call bb).read (Rd.nil_ _ 0 none)).allocAt rb #[.int .i64 1, .func (.func 46) #[] #[], .func (.func 45) #[] #[]] 53 (noLof rfl) hrb.symm).allocC (slC rwC) (List.replicate n Sr0) g 33 (by rw [hg, hrb]; simp))
  clear bb S0 hQ
  go_wp2
  replace hm1 := Lib.hid hm1
  clear hm1
  rw [← hrb, ← hg]

  clear hrb hg
  go_loopw [23] (fun iv wr => ∃ (i : Nat) (bs : List GBk) (rs : List GRd) (L : List (Sl Rw)), i ≤ n ∧ iv = .int .i64 i ∧ L.length = n ∧ St w wr ((g, ((slC rwC).all L).toArray, 33) :: (rb, #[.int .i64 1, .func (.func 46) #[] #[], .func (.func 45) #[] #[]], 53) :: bs) rs ∧ (none, 0, 0, []) ∈ rs ∧ (∀ s ∈ L, RowI bs rs s) ∧ MatV (L.take i) ((cM 3 n).take i)) (fun iv _ => n - (intOf iv).toNat)
  case atStart => exact ⟨0, [], _, List.replicate n Sr0, Nat.zero_le _, rfl, List.length_replicate, S1.out, List.mem_cons_self, fun s hs => by rw [List.eq_of_mem_replicate hs]; exact .nil_ _ _, rfl⟩
  case round =>
    clear S1
    obtain ⟨i, bs, rs, L, hin, rfl, hL, S, hz, hR, hM⟩ := hrel
    by_cases hlt : i < n
    · have g1 : (i : Int) < (n : Int) := by omega
      have g2 : (0 : Int) ≤ (i : Int) := by omega
      have hih := Lib.hid hlt
      replace hL := Lib.hid hL
      replace hz := Lib.hid hz
      replace hR := Lib.hid hR
      replace hM := Lib.hid hM
      rename World => W0
      obtain ⟨r, hr⟩ : ∃ g, g = W0.heap.size := ⟨_, rfl⟩
      obtain ⟨s0, hLi⟩ : ∃ s, L[i]? = some s := ⟨_, List.getElem?_eq_getElem (l := L) (i := i) (by rw [hL.out]; exact hlt)⟩
      have cr := S.cl 1 0 rfl rfl
      have zr := S.lt 1 rfl
      have zg := S.lt 0 rfl
      have T0 := (S.allocC rwC (List.replicate (n - 1) Rw0) r 44 hr.symm).perm3
      obtain ⟨hcl, hfr⟩ := St_gcl (C := slC rwC) T0 hLi
      have hc0 := hcl 0 _ rfl
      rw [show (slC rwC).sz = 1 from rfl, Nat.mul_one, Nat.add_zero] at hc0
      have hf0 := hfr i
      have T1 : Hid (St w _ ((r, (rwC.all (List.replicate (n - 1) Rw0)).toArray, 44) :: (g, ((slC rwC).all (L.set i ⟨some ⟨r, 0, none⟩, (n - 1), List.replicate (n - 1) Rw0⟩)).toArray, 33) :: (rb, #[.int .i64 1, .func (.func 46) #[] #[], .func (.func 45) #[] #[]], 53) :: bs) rs) := Lib.hid (by
        have h := St_gset T0 (⟨some ⟨r, 0, none⟩, (n - 1), List.replicate (n - 1) Rw0⟩ : Sl Rw) (i := i) (by rw [hL.out]; exact hlt)
        rw [show (slC rwC).sz = 1 from rfl, Nat.mul_one] at h
        have e : (slC rwC).cs (⟨some ⟨r, 0, none⟩, (n - 1), List.replicate (n - 1) Rw0⟩ : Sl Rw) = [.slice (some ⟨r, 0, none⟩) (n - 1) (n - 1)] := by show [Value.slice _ (List.replicate (n - 1) Rw0).length _] = _; rw [List.length_replicate]
        rw [e] at h
        exact h.perm3')
      have g3 : W0.heap.size = r := hr.symm
      replace hr := Lib.hid hr
      clear S T0 hcl hfr hLi hlt hin
      have b1 : (n : Int) ≤ 32 := by have := hn1.out; omega
      have b0 : (1 : Int) ≤ (n : Int) := by have := hn0.out; omega
      go_wp2
      clear b0 b1
      go_loopw [39] (fun jv wr => ∃ (j : Nat) (rs' : List GRd) (R : List Rw), j ≤ (n - 1) ∧ jv = .int .i64 j ∧ R.length = (n - 1) ∧ St w wr ((r, (rwC.all R).toArray, 44) :: (g, ((slC rwC).all (L.set i ⟨some ⟨r, 0, none⟩, (n - 1), R⟩)).toArray, 33) :: (rb, #[.int .i64 1, .func (.func 46) #[] #[], .func (.func 45) #[] #[]], 53) :: bs) rs' ∧ (∀ p ∈ rs, p ∈ rs') ∧ (∀ x ∈ R, rwI rs' x) ∧ (R.take j).map rwV = ((rowM 3 n i).take j).map qV) (fun jv _ => (n - 1) - (intOf jv).toNat)
      case atStart => exact ⟨0, rs, List.replicate (n - 1) Rw0, Nat.zero_le _, rfl, List.length_replicate, T1.out, fun _ h => h, fun x hx => by rw [List.eq_of_mem_replicate hx]; exact ⟨hz.out, hz.out⟩, rfl⟩
      case round =>
        clear T1
        obtain ⟨j, rs', R, hjn, rfl, hRl, T, hrr, hX, hV⟩ := hrel
        replace hRl := Lib.hid hRl
        replace hrr := Lib.hid hrr
        replace hX := Lib.hid hX
        replace hV := Lib.hid hV
        by_cases hlt : j < (n - 1)
        · have g4 : (j : Int) < (((n - 1) : Nat) : Int) := by omega
          have g5 : (0 : Int) ≤ (j : Int) := by omega
          have hjh := Lib.hid hlt
          have hF : Hid (∀ W, Calls Tryd.prog 23 #[.int .i64 (ent 3 n i j)] W (RetR ((ent 3 n i j : Int) : Rat) W)) := Lib.hid fun W => fromIntR_any _ W (by have := ent_range (k := 3) (n := n) (i := i) (j := j) (by omega) (by have := hih.out; have := hn1.out; omega); omega) (by have := ent_range (k := 3) (n := n) (i := i) (j := j) (by omega) (by have := hih.out; have := hn1.out; omega); omega)
          obtain ⟨y0, hy0⟩ : ∃ y, R[j]? = some y := ⟨_, List.getElem?_eq_getElem (by rw [hRl.out]; exact hlt)⟩
          replace hy0 := Lib.hid hy0
          replace T := Lib.hid T
          clear hlt hjn
          go_upto_region 12 with fail
          have hSg : ((slC rwC).all (L.set i ⟨some ⟨r, 0, none⟩, (n - 1), R⟩)).toArray[i]? = some (.slice (some ⟨r, 0, none⟩) (n - 1) (n - 1)) := by
            have := slc_get (L := L.set i ⟨some ⟨r, 0, none⟩, (n - 1), R⟩) (i := i) (List.getElem?_set_self (by rw [hL.out]; exact hih.out))
            rw [this]
            show some (Value.slice _ R.length _) = _
            rw [hRl.out]
          replace hSg := Lib.hid hSg
          have hbase := Lib.hid T.out
          refine RW.begin (Z := []) (S := (fun W => W.cell? ⟨g, i, none⟩ = some (.slice (some ⟨r, 0, none⟩) (n - 1) (n - 1)) ∧ W.cell? ⟨rb, 1, none⟩ = some (.func (.func 46) #[] #[]))) (by kernel_rfl) ?_ hbase.out ?_
          · exact ⟨by kernel_rfl, zis_nil, by decide, by decide, nol_nil, (fun _ _ h => ⟨(h.kb 1 rfl).cell hSg.out, (h.kb 2 rfl).cell rfl⟩)⟩
          intro hzk
          refine RW.t (i := 0) (v := .slice (some ⟨g, 0, none⟩) n n) (some 42) at0 (hy := fun _ _ => by kernel_rfl) (h := ?_)
          refine RW.t (i := 1) (v := .int .i64 i) (some 43) at1 (hy := fun _ _ => by kernel_rfl) (h := ?_)
          refine RW.t (i := 2) (v := .pointer (some ⟨g, i, none⟩)) (some 44) at2 (hy := fun _ _ => by go_simp) (h := ?_)
          refine RW.t (i := 3) (v := .slice (some ⟨r, 0, none⟩) (n - 1) (n - 1)) (some 45) at3 (hy := fun W hS => by (have k0 := hS.1; clear hS; go_simp)) (h := ?_)
          refine RW.t (i := 4) (v := .int .i64 j) (some 46) at4 (hy := fun _ _ => by kernel_rfl) (h := ?_)
          refine RW.t (i := 5) (v := .pointer (some ⟨rb, 1, none⟩)) (some 47) at5 (hy := fun _ _ => by go_simp) (h := ?_)
          refine RW.t (i := 6) (v := .func (.func 46) #[] #[]) (some 48) at6 (hy := fun W hS => by (have k0 := hS.2; clear hS; go_simp)) (h := ?_)
          refine RW.t (i := 7) (v := .int .i64 i) (some 49) at7 (hy := fun _ _ => by kernel_rfl) (h := ?_)
          refine RW.t (i := 8) (v := .int .i64 j) (some 50) at8 (hy := fun _ _ => by kernel_rfl) (h := ?_)
          refine RW.t (i := 9) (v := .int .i64 n) (some 51) at9 (hy := fun _ _ => by kernel_rfl) (h := ?_)
          refine RW.c (i := 10) (args := #[.int .i64 i, .int .i64 j, .int .i64 n]) (some 52) hzk.out at10 (hx := fun _ => by kernel_rfl) (h := fun W S => (hN.out i j W (by have := hjh.out; have := hn1.out; omega)).mono ?_)
          rintro e w7 ⟨rfl, rfl⟩
          refine ⟨Below.refl _ _, _, [], rfl, rd_nil, ?_⟩
          refine RW.c (i := 11) (args := #[.int .i64 (ent 3 n i j)]) (some 53) hzk.out at11 (hx := fun _ => by kernel_rfl) (h := fun W S => (hF.out W).mono ?_)
          rintro e w7 ⟨A, m, c, D, m', d, rfl, X, bb⟩
          refine ⟨bb, _, [(A, m, c, limbs ((ent 3 n i j : Int) : Rat).num.natAbs), (D, m', d, dn ((ent 3 n i j : Int) : Rat))], rfl, rd_cons X.n (rd_cons X.d rd_nil), ?_⟩
          refine RW.tail hzk.out (by kernel_rfl) ?_
          intro gs' w5 hgs' hS Sb
          obtain rfl := len0 hgs'
          simp only [mark, fill, Act.put, List.setIfInBounds_toArray, List.set_cons_zero, List.set_cons_succ]
          refine Wk.o (i := 12) at12 (by kernel_rfl) fun K' hK => ?_
          go_simp
          refine hK.out _ _ hS ?_
          clear hK K'
          try simp only [Act.put, List.setIfInBounds_toArray, List.set_cons_zero, List.set_cons_succ]
          refine Wk.o (i := 13) at13 (by kernel_rfl) fun K' hK => ?_
          obtain ⟨y, hy⟩ : ∃ y : Rw, y = ⟨ng ((ent 3 n i j : Int) : Rat).num, ⟨A, m, c, limbs ((ent 3 n i j : Int) : Rat).num.natAbs⟩, ⟨D, m', d, dn ((ent 3 n i j : Int) : Rat)⟩⟩ := ⟨_, rfl⟩
          obtain ⟨hcl, hfr⟩ := St_gcl (C := rwC) (bs := (g, ((slC rwC).all (L.set i ⟨some ⟨r, 0, none⟩, (n - 1), R⟩)).toArray, 33) :: (rb, #[.int .i64 1, .func (.func 46) #[] #[], .func (.func 45) #[] #[]], 53) :: bs) Sb hy0.out
          have q0 := hcl 0 _ rfl
          have q1 := hcl 1 _ rfl
          have q2 := hcl 2 _ rfl
          have f0 := hfr (j * 3)
          have f1 := hfr (j * 3 + 1)
          have f2 := hfr (j * 3 + 2)
          simp only [show rwC.sz = 3 from rfl, Nat.add_zero] at q0 q1 q2
          go_simp
          have T2 : Hid (St w (World.setCell (World.setCell (World.setCell w5 ⟨r, j * 3, none⟩ (.bool (ng ((ent 3 n i j : Int) : Rat).num))) ⟨r, j * 3 + 1, none⟩ (.slice A m c)) ⟨r, j * 3 + 2, none⟩ (.slice D m' d)) ((r, (rwC.all (R.set j y)).toArray, 44) :: (g, ((slC rwC).all (L.set i ⟨some ⟨r, 0, none⟩, (n - 1), R⟩)).toArray, 33) :: (rb, #[.int .i64 1, .func (.func 46) #[] #[], .func (.func 45) #[] #[]], 53) :: bs) ((A, m, c, limbs ((ent 3 n i j : Int) : Rat).num.natAbs) :: (D, m', d, dn ((ent 3 n i j : Int) : Rat)) :: rs')) := Lib.hid (by
            have h := St_gset (C := rwC) (bs := (g, ((slC rwC).all (L.set i ⟨some ⟨r, 0, none⟩, (n - 1), R⟩)).toArray, 33) :: (rb, #[.int .i64 1, .func (.func 46) #[] #[], .func (.func 45) #[] #[]], 53) :: bs) Sb y (i := j) (by rw [hRl.out]; exact hjh.out)
            rw [hy] at h ⊢
            exact h)
          have hyV : Hid (rwV y = qV ((ent 3 n i j : Int) : Rat)) := Lib.hid (by rw [hy]; rfl)
          have hyI : Hid (rwI ((A, m, c, limbs ((ent 3 n i j : Int) : Rat).num.natAbs) :: (D, m', d, dn ((ent 3 n i j : Int) : Rat)) :: rs') y) := Lib.hid (by rw [hy]; exact ⟨List.mem_cons_self, List.mem_cons_of_mem _ List.mem_cons_self⟩)
          clear hy hcl hfr q0 q1 q2 f0 f1 f2 hS Sb hbase T
          refine hK.out _ _ ⟨(T2.out.cb 1 rfl).cell hSg.out, (T2.out.cb 2 rfl).cell rfl⟩ ?_
          clear hK K'
          refine Wk.done (by kernel_rfl) ?_
          have hX2 : Hid (∀ x ∈ R.set j y, rwI ((A, m, c, limbs ((ent 3 n i j : Int) : Rat).num.natAbs) :: (D, m', d, dn ((ent 3 n i j : Int) : Rat)) :: rs') x) := Lib.hid fun x hx => by
            rcases List.mem_or_eq_of_mem_set hx with hx | rfl
            · exact (hX.out x hx).mono (fun p hp => List.mem_cons_of_mem _ (List.mem_cons_of_mem _ hp))
            · exact hyI.out
          have hV2 : Hid (((R.set j y).take (j + 1)).map rwV = ((rowM 3 n i).take (j + 1)).map qV) := Lib.hid (by
            rw [take_set_snoc (by rw [hRl.out]; exact hjh.out), rowM_take (by rw [hc.out]; exact hjh.out), List.map_append, List.map_append, hV.out]
            simp only [List.map_cons, List.map_nil, hyV.out])
          have hr2 : Hid (∀ p ∈ rs, p ∈ ((A, m, c, limbs ((ent 3 n i j : Int) : Rat).num.natAbs) :: (D, m', d, dn ((ent 3 n i j : Int) : Rat)) :: rs')) := Lib.hid fun p hp => List.mem_cons_of_mem _ (List.mem_cons_of_mem _ (hrr.out p hp))
          have hRl2 : Hid ((R.set j y).length = (n - 1)) := Lib.hid (by rw [List.length_set]; exact hRl.out)
          have T3 := Lib.hid (show St w _ _ _ from by
            have h := T2.out
            rw [slc_all (L := L) (i := i) (A := some ⟨r, 0, none⟩) (c := (n - 1)) (R := R) (R' := R.set j y) (by rw [List.length_set])] at h
            exact h)
          clear T2 hX hV hrr hyI hyV hSg hRl hy0 hzk hF
          have b1 : (n : Int) ≤ 32 := by have := hn1.out; omega
          have b2 := hjh.out
          have b3 : j ≤ 32 := by omega
          go_simp
          go_wp2
          go_roundw
          case rel => exact ⟨j + 1, _, _, by omega, by go_num, hRl2.out, T3.out, hr2.out, hX2.out, hV2.out⟩
          case measure => simp [intOf]; omega
        · obtain rfl : j = n - 1 := by omega
          have hRow : RowI ((r, (rwC.all R).toArray, 44) :: bs) rs' ⟨some ⟨r, 0, none⟩, (n - 1), R⟩ := ⟨by rw [hRl.out]; exact Nat.le_refl _, hX.out, .inr ⟨r, _, _, rfl, List.mem_cons_self, fun k v hv => by rw [List.getElem?_toArray]; exact hv⟩⟩
          have hVf : R.map rwV = (rowM 3 n i).map qV := by
            have h := hV.out
            rw [List.take_of_length_le (by rw [hRl.out]; exact Nat.le_refl _), List.take_of_length_le (by rw [rowM_len, hc.out]; exact Nat.le_refl _)] at h
            exact h
          have hS5 := Lib.hid T.perm3
          have hz5 := Lib.hid (hrr.out _ hz.out)
          have hL5 : Hid ((L.set i ⟨some ⟨r, 0, none⟩, (n - 1), R⟩).length = n) := Lib.hid (by rw [List.length_set]; exact hL.out)
          have hR5 : Hid (∀ s ∈ L.set i ⟨some ⟨r, 0, none⟩, (n - 1), R⟩, RowI ((r, (rwC.all R).toArray, 44) :: bs) rs' s) := Lib.hid fun s hs => by
            rcases List.mem_or_eq_of_mem_set hs with hs | rfl
            · exact (hR.out s hs).mono (fun p hp => List.mem_cons_of_mem _ hp) hrr.out
            · exact hRow
          have hM5 : Hid (MatV ((L.set i ⟨some ⟨r, 0, none⟩, (n - 1), R⟩).take (i + 1)) ((cM 3 n).take (i + 1))) := Lib.hid (by
            rw [take_set_snoc (by rw [hL.out]; exact hih.out), cM_take hih.out]
            exact hM.out.snoc hVf)
          clear T hRow hVf hX hV hrr hRl hL hz hR hM hlt hjn
          have b1 : (n : Int) ≤ 32 := by have := hn1.out; omega
          have b2 := hih.out
          go_wp2
          go_roundw
          case rel => exact ⟨i + 1, _, _, _, by omega, by go_num, hL5.out, hS5.out, hz5.out, hR5.out, hM5.out⟩
          case measure => simp [intOf]; omega
    · obtain rfl : n = i := by omega
      rw [List.take_of_length_le (by rw [hL]; exact Nat.le_refl _), List.take_of_length_le (by rw [cM_len]; exact Nat.le_refl _)] at hM
      have hlr := St_glr S n hL (fun x hx => (slC rwC).at_ S (((hR x hx).mono (fun p hp => List.mem_cons_of_mem _ (List.mem_cons_of_mem _ hp)) (fun p hp => hp)).in_ w))
      have hres : Hid (MatR (cM 3 n) w (.returned (.tuple #[.slice (some ⟨g, 0, none⟩) n n, .int .i64 0])) wr) := Lib.hid (by
        refine ⟨some ⟨g, 0, none⟩, n, L, ?_, ?_, ?_, hM, S.bel⟩
        · rw [hL]
        · rw [hL]; exact hlr
        · rw [hL]; exact Nat.le_refl _)
      clear S hL hR hM hlr hz hin hlt
      go_wp2
      go_ret2
      exact hres.out
end Go.Proofs.YtlflaalefilplaaDoor
