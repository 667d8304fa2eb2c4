/- The law ContrastHasSums. -/
import Derived.Test.YtlflaalefilplaaDoorM25
namespace Go.Proofs.YtlflaalefilplaaDoor
open Go.RowKit RQ
set_option linter.unusedVariables false

theorem mmod_eq (k n : Int) (h0 : 0 < n) : k % n = if k.tmod n < 0 then k.tmod n + n else k.tmod n := by
  have e1 := Int.tmod_add_mul_tdiv k n
  have l1 : k.tmod n < n := Int.tmod_lt_of_pos k h0
  have l2 : -n < k.tmod n := Int.lt_tmod_of_pos k h0
  split
  · rename_i h
    have : k = (k.tmod n + n) + n * (k.tdiv n - 1) := by rw [Int.mul_sub]; omega
    conv => lhs; rw [this]
    rw [Int.add_mul_emod_self_left]
    exact Int.emod_eq_of_lt (by omega) (by omega)
  · rename_i h
    conv => lhs; rw [← e1]
    rw [Int.add_mul_emod_self_left]
    exact Int.emod_eq_of_lt (by omega) l1
set_option maxRecDepth 100000 in
set_option maxHeartbeats 4000000 in
theorem mmod_any (k n : Int) (w : World) (h0 : 0 < n) (h1 : n ≤ 100000) : Calls Tryd.prog 16 #[.int .i64 k, .int .i64 n] w fun e w' => e = .returned (.int .i64 (k % n)) ∧ w' = w := by
  rw [mmod_eq k n h0]
  have l1 : k.tmod n < n := Int.tmod_lt_of_pos k h0
  have l2 : -n < k.tmod n := Int.lt_tmod_of_pos k h0
  have g0 : ¬ n = 0 := by omega
  have w1 : ∀ m : Int, -n < m → m < 0 → wrap64 (m + n) = m + n := fun m h2 h3 => by unfold wrap64; omega
  by_cases hm : k.tmod n < 0
  · rw [if_pos hm, ← w1 _ l2 hm]
    clear w1 l1 l2
    go_enter Tryd.func16, Tryd.ntmps16
    go_wp2
    go_ret
    exact ⟨rfl, rfl⟩
  · rw [if_neg hm]
    clear w1 l1 l2
    go_enter Tryd.func16, Tryd.ntmps16
    go_wp2
    go_ret
    exact ⟨rfl, rfl⟩

section
variable {P : Program} {ops : Array Oper} {Q : Exit → Act → World → Prop} {S : World → Prop}
theorem Wk.two {i j : Nat} {oi oj : Oper} {L : Array Bool} {a : Act} {w : World} (hi : ops[i]? = some oi) (hj : ops[j]? = some oj) (hr : (((Region.ready .any ops L == [i, j]) && oi.guard.isNone) && oj.guard.isNone) = true)
    (h1 : ∀ K' : Act → World → Prop, Shut (∀ a w, S w → Wk P ops Q S (L.setIfInBounds i true) a w → K' a w) → Oper.wp P oi a w K' Q)
    (h2 : ∀ K' : Act → World → Prop, Shut (∀ a w, S w → Wk P ops Q S (L.setIfInBounds j true) a w → K' a w) → Oper.wp P oj a w K' Q) : Wk P ops Q S L a w := by
  simp only [Bool.and_eq_true, beq_iff_eq] at hr
  obtain ⟨⟨r, gi⟩, gj⟩ := hr
  refine Wk.all ⟨i, by rw [r]; simp⟩ fun k hk => ?_
  rw [r] at hk
  rcases List.mem_cons.1 hk with rfl | hk
  · exact wpOp_step hi (fun K' hK => by rw [if_pos (wanted_none gi)]; exact h1 K' (fun a w hS hW => hK a w ⟨hS, hW⟩))
  · have := List.mem_singleton.1 hk
    subst this
    exact wpOp_step hj (fun K' hK => by rw [if_pos (wanted_none gj)]; exact h2 K' (fun a w hS hW => hK a w ⟨hS, hW⟩))
end
/-- A number is stored in a block. -/
theorem St_put3 {w W : World} {bs : List GBk} {rs : List GRd} {p g t : Nat} {y0 : Rw} (h : St w W bs rs) (hk : bs[p]? = some (g, y0.vs, t)) (y : Rw) : St w (((W.setCell ⟨g, 0, none⟩ (.bool y.b)).setCell ⟨g, 1, none⟩ (.slice y.x.A y.x.n y.x.c)).setCell ⟨g, 2, none⟩ (.slice y.y.A y.y.n y.y.c)) (bs.set p (g, y.vs, t)) rs := by
  have hp : p < bs.length := (List.getElem?_eq_some_iff.1 hk).1
  have h1 := h.set p 0 (.bool y.b) hk (fun _ e => by cases e)
  have h2 := h1.set p 1 (.slice y.x.A y.x.n y.x.c) (List.getElem?_set_self hp) (fun _ e => by cases e)
  have h3 := h2.set p 2 (.slice y.y.A y.y.n y.y.c) (List.getElem?_set_self (by rw [List.length_set]; exact hp)) (fun _ e => by cases e)
  rw [List.set_set, List.set_set] at h3
  exact h3
theorem rwI.rr {w W : World} {bs : List GBk} {rs : List GRd} {y : Rw} {q : Rat} (h : rwI rs y) (S : St w W bs rs) (hv : rwV y = qV q) : y.b = ng q.num ∧ RR W y.x.A y.x.n y.x.c y.y.A y.y.n y.y.c q := rw_rr hv (S.rd _ h.1) (S.rd _ h.2)
/-- The sums so far. -/
def sA (n j i : Nat) : Int := if 1 < n then psum (fun i => ent 2 n i j) i else 0
def sB (n j i : Nat) : Int := if 1 < n then psum (fun i => ent 3 n i j) i else 0
theorem ent_bd (k : Int) (n i j : Nat) (hi : i ≤ 40) : (ent k n i j).natAbs ≤ 1000 := by
  have := ent_range (k := k) (n := n) (i := i) (j := j) (by omega) (by omega)
  omega
theorem psum_le {f : Nat → Int} {B : Nat} : ∀ m, (∀ i, i < m → (f i).natAbs ≤ B) → (psum f m).natAbs ≤ m * B
  | 0, _ => Nat.zero_le _
  | m + 1, hf => by
    have h1 := psum_le m (fun i hi => hf i (by omega))
    have h2 := hf m (by omega)
    rw [psum, Nat.add_mul, Nat.one_mul]
    omega
theorem sum_sm (k : Int) (n j m : Nat) (hm : m ≤ 40) : (psum (fun i => ent k n i j) m).natAbs ≤ 40000 := by
  have h := psum_le (f := fun i => ent k n i j) (B := 1000) m (fun i hi => ent_bd k n i j (by omega))
  have := Nat.mul_le_mul_right 1000 hm
  omega
theorem sum_sm4 (n i m : Nat) (hi : i ≤ 40) (hm : m ≤ 40) : (psum (fun k => ent 4 n i k) m).natAbs ≤ 40000 := by
  have h := psum_le (f := fun k => ent 4 n i k) (B := 1000) m (fun k _ => ent_bd 4 n i k hi)
  have := Nat.mul_le_mul_right 1000 hm
  omega
theorem sum_sm2 (n j k m : Nat) (hk : k < j) (hm : m ≤ 40) : (psum (fun i => ent 3 n i j * ent 3 n i k) m).natAbs ≤ 40000 := by
  rw [psum_two n j k hk]
  split <;> omega
theorem q_add (z y : Int) : ((z : Rat)) + ((y : Rat)) = ((z + y : Int) : Rat) := by rw [Rat.intCast_add]
theorem q_mul (z y : Int) : ((z : Rat)) * ((y : Rat)) = ((z * y : Int) : Rat) := by rw [Rat.intCast_mul]
set_option maxRecDepth 100000 in
set_option maxHeartbeats 4000000 in
theorem law_sums (u : UInt8) (wh : Int) (w : World) : Calls Tryd.prog 6 #[.int .u8 u.toNat, .int .i64 wh] w fun e w' => e = .returned (.bool true) ∧ Below w.heap.size w w' := by
  obtain ⟨c0, hc0⟩ : ∃ c : Nat, c = u.toNat := ⟨_, rfl⟩
  have hu : c0 < 256 := by rw [hc0]; exact u.toNat_lt
  rw [← hc0]
  clear hc0
  obtain ⟨r, hr⟩ : ∃ r : Nat, r = c0 % 32 := ⟨_, rfl⟩
  obtain ⟨n, hn⟩ : ∃ n : Nat, n = 1 + r := ⟨_, rfl⟩
  have n0 : 1 ≤ n := by omega
  have n1 : n ≤ 32 := by omega
  have hrem : (c0 : Int) % 32 = (r : Int) := by omega
  have hr31 : (r : Int) ≤ 31 := by omega
  have hu2 : (c0 : Int) ≤ 255 := by omega
  have hw1 : Hid ((1 : Int) + (r : Int) = (n : Int)) := Lib.hid (by omega)
  clear hu hr hn
  have hS := Lib.hid (mat_2 n w n0 n1)
  have hH := Lib.hid (fun W => mat_3 n W n0 n1)
  have hX := Lib.hid (fun W => mat_4 n W n0 n1)
  have hB0 := Lib.hid (Below.refl w.heap.size w)
  replace n0 := Lib.hid n0
  replace n1 := Lib.hid n1
  go_enter Tryd.func6, Tryd.ntmps6
  go_wp2_with fail
  rw [hw1.out]
  clear hw1 hrem hr31 hu2
  generalize (c0 : Int) % 32 = z1
  refine hS.out.mono ?_
  rintro e w1 ⟨AS, cS, LS, rfl, lS, _, mS, b1⟩
  have B1 := Lib.hid (hB0.out.trans b1)
  have eS : LS.length = n := by rw [mS.len, cM_len]
  rw [eS] at lS ⊢
  clear hS eS
  go_wp2_with fail
  refine (hH.out _).mono ?_
  rintro e w2 ⟨AH, cH, LH, rfl, lH, _, mH, b2⟩
  have B2 := Lib.hid (B1.out.trans (b2.mono B1.out.size))
  have eH : LH.length = n := by rw [mH.len, cM_len]
  rw [eH] at lH ⊢
  replace lS := lS.bel b2
  clear hH eH b2 B1
  go_wp2_with fail
  refine (hX.out _).mono ?_
  rintro e w3 ⟨AX, cX, LX, rfl, lX, _, mX, b3⟩
  have B3 := Lib.hid (B2.out.trans (b3.mono B2.out.size))
  have eX : LX.length = n := by rw [mX.len, cM_len]
  rw [eX] at lX ⊢
  replace lS := Lib.hid (lS.bel b3)
  replace lH := Lib.hid (lH.bel b3)
  replace lX := Lib.hid lX
  replace mS := Lib.hid mS
  replace mH := Lib.hid mH
  replace mX := Lib.hid mX
  clear hX eX b3 B2 b1 hB0
  have n0 := n0.out
  have n1 := n1.out
  obtain ⟨mx, hmx⟩ : ∃ m : Nat, m = max (n - 1) 1 := ⟨_, rfl⟩
  have hM := Lib.hid (mmod_any wh (mx : Int) w3 (by omega) (by omega))
  obtain ⟨j, hj⟩ : ∃ j : Nat, wh % (mx : Int) = (j : Int) := ⟨(wh % (mx : Int)).toNat, by have := Int.emod_nonneg wh (show (mx : Int) ≠ 0 by omega); omega⟩
  have hjm : j < mx := by have := Int.emod_lt_of_pos wh (show (0 : Int) < mx by omega); omega
  rw [hj] at hM
  replace hjm := Lib.hid hjm
  have hmxI : max ((n : Int) - 1) 1 = (mx : Int) := by omega
  clear hj
  have b1 : (n : Int) ≤ 32 := by omega
  have b0 : (1 : Int) ≤ (n : Int) := by omega
  replace hmx := Lib.hid hmx
  replace n0 := Lib.hid n0
  replace n1 := Lib.hid n1
  go_wp2_with fail
  refine hM.out.mono ?_
  rintro e w4 ⟨rfl, rfl⟩
  clear hM hmxI b1 b0
  obtain ⟨ab, hab⟩ : ∃ g, g = w4.heap.size := ⟨_, rfl⟩
  obtain ⟨bb, hbb⟩ : ∃ g, g = ab + 1 := ⟨_, rfl⟩
  obtain ⟨cb, hcb⟩ : ∃ g, g = bb + 1 := ⟨_, rfl⟩
  have S8 := Lib.hid (((((St.new w4).read (Rd.nil_ _ 0 none)).allocAt ab #[.bool false, .slice none 0 0, .slice none 0 0] 44 (noL3 _ _ _ _ _ _ _) hab.symm).allocAt bb #[.bool false, .slice none 0 0, .slice none 0 0] 44 (noL3 _ _ _ _ _ _ _) (by rw [hbb, hab]; simp)).allocAt cb #[.bool false, .slice none 0 0, .slice none 0 0] 44 (noL3 _ _ _ _ _ _ _) (by rw [hcb, hbb, hab]; simp))
  go_wp2
  rw [← hab, ← hbb, ← hcb]
  clear hab hbb hcb
  go_loopw [16] (fun iv wr => ∃ (i : Nat) (ya yb yc : Rw) (rs : List GRd), i ≤ n ∧ iv = .int .i64 i ∧ St w4 wr [(cb, yc.vs, 44), (bb, yb.vs, 44), (ab, ya.vs, 44)] rs ∧ (none, 0, 0, []) ∈ rs ∧ (rwI rs ya ∧ rwI rs yb ∧ rwI rs yc) ∧ rwV ya = qV ((sA n j i : Int) : Rat) ∧ rwV yb = qV ((sB n j i : Int) : Rat)) (fun iv _ => n - (intOf iv).toNat)
  case atStart =>
    have hz : rwV Rw0 = qV ((0 : Int) : Rat) := by
      unfold rwV qV Rw0 Nl0
      rw [show (((0 : Int) : Rat)).num.natAbs = 0 from rfl, limbs_zero]
      rfl
    have e1 : sA n j 0 = 0 := by unfold sA; split <;> rfl
    have e2 : sB n j 0 = 0 := by unfold sB; split <;> rfl
    exact ⟨0, Rw0, Rw0, Rw0, [(none, 0, 0, [])], Nat.zero_le _, rfl, S8.out, List.mem_cons_self, ⟨⟨List.mem_cons_self, List.mem_cons_self⟩, ⟨List.mem_cons_self, List.mem_cons_self⟩, ⟨List.mem_cons_self, List.mem_cons_self⟩⟩, by rw [e1]; exact hz, by rw [e2]; exact hz⟩
  case round =>
    clear S8
    obtain ⟨i, ya, yb, yc, rs, hin, rfl, S, hz, ⟨ha, hb, hc⟩, va, vb⟩ := hrel
    by_cases hlt : i < n
    · have g1 : (i : Int) < (n : Int) := by omega
      have g2 : (0 : Int) ≤ (i : Int) := by omega
      have hih := Lib.hid hlt
      obtain ⟨bS, oS, sS, rfl, eS⟩ := row_len (lS.out.bel S.bel) mS.out hlt
      obtain ⟨bH, oH, sH, rfl, eH⟩ := row_len (lH.out.bel S.bel) mH.out hlt
      obtain ⟨bX, oX, sX, rfl, eX⟩ := row_len (lX.out.bel S.bel) mX.out hlt
      rw [show cols 4 n = n from rfl] at eX
      rw [show cols 2 n = n - 1 from rfl] at eS
      rw [show cols 3 n = n - 1 from rfl] at eH
      have hcI : (((n - 1 : Nat)) : Int) = (n : Int) - 1 := by have := n0.out; omega
      have b1 : (n : Int) ≤ 32 := by have := n1.out; omega
      have b0 : (1 : Int) ≤ (n : Int) := by have := n0.out; omega
      have c0 := S.cl 0 0 rfl rfl
      have c1 := S.cl 0 1 rfl rfl
      have c2 := S.cl 0 2 rfl rfl
      have f0 := S.f 0 0 rfl
      have f1 := S.f 0 1 rfl
      have f2 := S.f 0 2 rfl
      have S9 := Lib.hid (St_put3 (p := 0) S rfl Rw0)
      replace hz := Lib.hid hz
      replace ha := Lib.hid ha
      replace hb := Lib.hid hb
      replace va := Lib.hid va
      replace vb := Lib.hid vb
      clear S hlt hin hc
      go_wp2
      go_loopw [17] (fun kv wr => ∃ (k : Nat) (yd : Rw) (rt : List GRd), k ≤ n ∧ kv = .int .i64 k ∧ St w4 wr [(cb, yd.vs, 44), (bb, yb.vs, 44), (ab, ya.vs, 44)] rt ∧ (∀ p ∈ rs, p ∈ rt) ∧ rwI rt yd ∧ rwV yd = qV ((psum (fun k => ent 4 n i k) k : Int) : Rat)) (fun kv _ => n - (intOf kv).toNat)
      case atStart =>
        have hz0 : rwV Rw0 = qV ((0 : Int) : Rat) := by
          unfold rwV qV Rw0 Nl0
          rw [show (((0 : Int) : Rat)).num.natAbs = 0 from rfl, limbs_zero]
          rfl
        exact ⟨0, Rw0, rs, Nat.zero_le _, rfl, S9.out, fun _ h => h, ⟨hz.out, hz.out⟩, hz0⟩
      case round =>
        clear S9 c0 c1 c2 f0 f1 f2 eS eH eX
        obtain ⟨k, yd, rt, hkn, rfl, S, hrt, hd, vd⟩ := hrel
        replace hrt := Lib.hid hrt
        by_cases hlk : k < n
        · have g3 : (k : Int) < (n : Int) := by omega
          have g4 : (0 : Int) ≤ (k : Int) := by omega
          have hkh := Lib.hid hlk
          obtain ⟨bX', oX', sX', b2, o2, y, hA, e0, y0, y1, y2, R1, R2, vy⟩ := el_get lX.out mX.out hih.out (show k < cols 4 n from hlk)
          rw [show cols 4 n = n from rfl] at e0
          obtain ⟨rfl, rfl⟩ : bX' = bX ∧ oX' = oX := by injection hA with hA; injection hA with h1 h2; exact ⟨h1.symm, h2.symm⟩
          obtain ⟨yb1, Y⟩ := rw_rr vy R1 R2
          have hAdd : Hid (∀ W, St w4 W [(cb, yd.vs, 44), (bb, yb.vs, 44), (ab, ya.vs, 44)] rt → Calls Tryd.prog 17 #[.agg #[.bool yd.b, .slice yd.x.A yd.x.n yd.x.c, .slice yd.y.A yd.y.n yd.y.c], .agg #[.bool y.b, .slice y.x.A y.x.n y.x.c, .slice y.y.A y.y.n y.y.c]] W (RetR ((psum (fun k => ent 4 n i k) (k + 1) : Int) : Rat) W)) := Lib.hid fun W hW => by
            obtain ⟨db1, D⟩ := hd.rr hW vd
            have := faddQ _ _ yd.x.A yd.x.n yd.x.c yd.y.A yd.y.n yd.y.c y.x.A y.x.n y.x.c y.y.A y.y.n y.y.c W D (Y.below (hW.bel)) (rs_int (by have := sum_sm4 n i k (by have := hih.out; have := n1.out; omega) (by have := hkh.out; have := n1.out; omega); omega) 99 (by omega)) (rs_int (by have := ent_bd 4 n i k (by have := hih.out; have := n1.out; omega); omega) 99 (by omega))
            rw [q_add, ← yb1, ← db1] at this
            exact this
          replace e0 := Lib.hid e0
          replace y0 := Lib.hid y0
          replace y1 := Lib.hid y1
          replace y2 := Lib.hid y2
          replace S := Lib.hid S
          replace hd := Lib.hid hd
          clear hA R1 R2 vy yb1 Y vd hlk hkn
          go_upto_region 18 with fail
          have hbase := Lib.hid S.out
          refine RW.begin (Z := []) (S := (fun W => Below w4.heap.size w4 W)) (by kernel_rfl) ?_ hbase.out ?_
          · exact ⟨by kernel_rfl, zis_nil, by decide, by decide, nol_nil, (fun _ _ h => h.bel)⟩
          intro hzk
          refine RW.t (i := 1) (v := .slice (some ⟨bX', oX', none⟩) n cX) (some 115) at1 (hy := fun _ _ => by kernel_rfl) (h := ?_)
          refine RW.t (i := 2) (v := .int .i64 i) (some 116) at2 (hy := fun _ _ => by kernel_rfl) (h := ?_)
          refine RW.t (i := 3) (v := .pointer (some ⟨bX', oX' + i, none⟩)) (some 117) at3 (hy := fun _ _ => by go_simp) (h := ?_)
          refine RW.t (i := 4) (v := .slice (some ⟨b2, o2, none⟩) n sX'.c) (some 118) at4 (hy := fun W hS => by (have k0 := bel_cell hS e0.out; clear hS; go_simp)) (h := ?_)
          refine RW.t (i := 5) (v := .int .i64 k) (some 119) at5 (hy := fun _ _ => by kernel_rfl) (h := ?_)
          refine RW.t (i := 6) (v := .pointer (some ⟨b2, o2 + k * 3, none⟩)) (some 120) at6 (hy := fun _ _ => by go_simp) (h := ?_)
          refine RW.t (i := 7) (v := .agg #[.bool y.b, .slice y.x.A y.x.n y.x.c, .slice y.y.A y.y.n y.y.c]) (some 121) at7 (hy := fun W hS => by (have k0 := bel_cell hS y0.out; have k1 := bel_cell hS y1.out; have k2 := bel_cell hS y2.out; clear hS; go_simp)) (h := ?_)
          refine RW.tail hzk.out (by kernel_rfl) ?_
          intro gs' w5 hgs' hS Sb
          obtain rfl := len0 hgs'
          simp only [mark, fill, Act.put, List.setIfInBounds_toArray, List.set_cons_zero, List.set_cons_succ]
          have c0 := Sb.cl 0 0 rfl rfl
          have c1 := Sb.cl 0 1 rfl rfl
          have c2 := Sb.cl 0 2 rfl rfl
          refine Wk.g (i := 0) at0 (by kernel_rfl) (by kernel_rfl) fun K' hK => ?_
          go_simp
          refine hK.out _ _ hS ?_
          clear hK K' c0 c1 c2
          try simp only [Act.put, List.setIfInBounds_toArray, List.set_cons_zero, List.set_cons_succ]
          refine Wk.g (i := 8) at8 (by kernel_rfl) (by kernel_rfl) fun K' hK => ?_
          refine oper_call (f := 17) (args := #[.agg #[.bool yd.b, .slice yd.x.A yd.x.n yd.x.c, .slice yd.y.A yd.y.n yd.y.c], .agg #[.bool y.b, .slice y.x.A y.x.n y.x.c, .slice y.y.A y.y.n y.y.c]]) rfl (by kernel_rfl) ((hAdd.out _ Sb).mono ?_)
          rintro e w6 ⟨A3, m3, c3, D3, m4, c4, rfl, X, bb3⟩
          obtain ⟨q3, hq3⟩ : ∃ q : Rat, q = ((psum (fun k => ent 4 n i k) (k + 1) : Int) : Rat) := ⟨_, rfl⟩
          rw [← hq3] at X ⊢
          obtain ⟨y3, hy3⟩ : ∃ y : Rw, y = ⟨ng q3.num, ⟨A3, m3, c3, limbs q3.num.natAbs⟩, ⟨D3, m4, c4, dn q3⟩⟩ := ⟨_, rfl⟩
          have T6 := ((Sb.call bb3).read X.d).read X.n
          have v3 : Hid (rwV y3 = qV ((psum (fun k => ent 4 n i k) (k + 1) : Int) : Rat)) := Lib.hid (by rw [hy3, ← hq3]; rfl)
          have i3 : Hid (rwI ((A3, m3, c3, limbs q3.num.natAbs) :: (D3, m4, c4, dn q3) :: rt) y3) := Lib.hid (by rw [hy3]; exact ⟨List.mem_cons_self, List.mem_cons_of_mem _ List.mem_cons_self⟩)
          have T7 : Hid (St w4 (((w6.setCell ⟨cb, 0, none⟩ (.bool (ng q3.num))).setCell ⟨cb, 1, none⟩ (.slice A3 m3 c3)).setCell ⟨cb, 2, none⟩ (.slice D3 m4 c4)) [(cb, y3.vs, 44), (bb, yb.vs, 44), (ab, ya.vs, 44)] ((A3, m3, c3, limbs q3.num.natAbs) :: (D3, m4, c4, dn q3) :: rt)) := Lib.hid (by
            have h := St_put3 (p := 0) (y0 := yd) T6 rfl y3
            rw [hy3] at h ⊢
            exact h)
          have hS6 := Lib.hid T6.bel
          have c0 := T6.cl 0 0 rfl rfl
          have c1 := T6.cl 0 1 rfl rfl
          have c2 := T6.cl 0 2 rfl rfl
          have f0 := T6.f 0 0 rfl
          have f1 := T6.f 0 1 rfl
          have f2 := T6.f 0 2 rfl
          clear T6 Sb bb3 X hy3 hS
          replace hq3 := Lib.hid hq3
          refine ⟨_, rfl, hK.out _ _ hS6.out ?_⟩
          clear hK K'
          try simp only [Act.put, List.setIfInBounds_toArray, List.set_cons_zero, List.set_cons_succ]
          refine Wk.g (i := 9) at9 (by kernel_rfl) (by kernel_rfl) fun K' hK => ?_
          go_simp
          refine hK.out _ _ T7.out.bel ?_
          clear hK K' c0 c1 c2 f0 f1 f2 hS6
          refine Wk.done (by kernel_rfl) ?_
          have hrt2 : Hid (∀ p ∈ rs, p ∈ ((A3, m3, c3, limbs q3.num.natAbs) :: (D3, m4, c4, dn q3) :: rt)) := Lib.hid fun p hp => List.mem_cons_of_mem _ (List.mem_cons_of_mem _ (hrt.out p hp))
          clear hrt hzk hbase S hAdd e0 y0 y1 y2 hd hq3
          have b1 : (n : Int) ≤ 32 := by have := n1.out; omega
          have b2 := hkh.out
          go_simp
          go_wp2
          go_roundw
          case rel => exact ⟨k + 1, y3, _, by omega, by go_num, T7.out, hrt2.out, i3.out, v3.out⟩
          case measure => simp [intOf]; omega
        · obtain rfl : n = k := by omega
          rw [psum_ind n i n, if_pos hih.out] at vd
          obtain ⟨q1, hq1⟩ : ∃ q : Rat, q = ((1 : Int) : Rat) := ⟨_, rfl⟩
          rw [← hq1] at vd
          have hF1 : Hid (∀ W, Calls Tryd.prog 19 #[.int .i64 1] W (RetR q1 W)) := Lib.hid fun W => by rw [hq1]; exact FfromInt_any 1 W (by omega) (by omega)
          have hsm : Hid (Rs q1 200) := Lib.hid (by rw [hq1]; exact rs_int (by decide) 200 (by omega))
          have hSm : Hid (∀ (A3 : Option Addr) (m3 c3 : Nat) (D3 : Option Addr) (m4 c4 : Nat) W, RR W A3 m3 c3 D3 m4 c4 q1 → St w4 W [(cb, yd.vs, 44), (bb, yb.vs, 44), (ab, ya.vs, 44)] rt → Calls Tryd.prog 18 #[.agg #[.bool yd.b, .slice yd.x.A yd.x.n yd.x.c, .slice yd.y.A yd.y.n yd.y.c], .agg #[.bool (ng q1.num), .slice A3 m3 c3, .slice D3 m4 c4]] W fun e w' => e = .returned (.bool true) ∧ Below W.heap.size W w') := Lib.hid fun A3 m3 c3 D3 m4 c4 W X SW => by
            obtain ⟨db1, D⟩ := hd.rr SW vd
            have := sameQ q1 q1 yd.x.A yd.x.n yd.x.c yd.y.A yd.y.n yd.y.c A3 m3 c3 D3 m4 c4 W D X hsm.out hsm.out
            rw [← db1] at this
            rw [← db1]
            simpa using this
          replace S := Lib.hid S
          have hd5 := Lib.hid hd
          clear hq1 vd hd hlk hkn
          go_upto_region 19 with fail
          have hbase := Lib.hid S.out
          refine RW.begin (Z := []) (S := (fun W => Cb W cb yd.vs 44)) (by kernel_rfl) ?_ hbase.out ?_
          · exact ⟨by kernel_rfl, zis_nil, by decide, by decide, nol_nil, (fun _ _ h => h.kb 0 rfl)⟩
          intro hzk
          refine RW.t (i := 0) (v := .agg #[.bool yd.b, .slice yd.x.A yd.x.n yd.x.c, .slice yd.y.A yd.y.n yd.y.c]) (some 123) at0 (hy := fun W hS => by (have k0 : W.cell? ⟨cb, 0, none⟩ = some (.bool yd.b) := hS.cell rfl; have k1 : W.cell? ⟨cb, 1, none⟩ = some (.slice yd.x.A yd.x.n yd.x.c) := hS.cell rfl; have k2 : W.cell? ⟨cb, 2, none⟩ = some (.slice yd.y.A yd.y.n yd.y.c) := hS.cell rfl; clear hS; go_simp)) (h := ?_)
          refine RW.c (i := 1) (args := #[.int .i64 1]) (some 124) hzk.out at1 (hx := fun _ => by kernel_rfl) (h := fun W SW => (hF1.out W).mono ?_)
          rintro e w6 ⟨A3, m3, c3, D3, m4, c4, rfl, X, bb3⟩
          refine ⟨bb3, _, [(A3, m3, c3, limbs q1.num.natAbs), (D3, m4, c4, dn q1)], rfl, rd_cons X.n (rd_cons X.d rd_nil), ?_⟩
          refine RW.c (i := 2) (args := #[.agg #[.bool yd.b, .slice yd.x.A yd.x.n yd.x.c, .slice yd.y.A yd.y.n yd.y.c], .agg #[.bool (ng q1.num), .slice A3 m3 c3, .slice D3 m4 c4]]) (some 125) hzk.out at2 (hx := fun _ => by kernel_rfl) (h := fun W SW => (hSm.out A3 m3 c3 D3 m4 c4 W ⟨SW.rd _ List.mem_cons_self, SW.rd _ (List.mem_cons_of_mem _ List.mem_cons_self)⟩ ⟨SW.bel, SW.bk, SW.nd, fun r hr => SW.rd r (List.mem_cons_of_mem _ (List.mem_cons_of_mem _ hr))⟩).mono ?_)
          rintro e w7 ⟨rfl, bb3⟩
          refine ⟨bb3, _, [], rfl, rd_nil, ?_⟩
          refine RW.t (i := 3) (v := .bool false) (some 126) at3 (hy := fun _ _ => by go_simp) (h := ?_)
          refine RW.tail hzk.out (by kernel_rfl) ?_
          intro gs' w5 hgs' hS Sb
          obtain rfl := len0 hgs'
          simp only [mark, fill, Act.put, List.setIfInBounds_toArray, List.set_cons_zero, List.set_cons_succ]
          refine Wk.done (by kernel_rfl) ?_
          have S5 : Hid (St w4 w5 [(cb, yd.vs, 44), (bb, yb.vs, 44), (ab, ya.vs, 44)] rt) := Lib.hid ⟨Sb.bel, Sb.bk, Sb.nd, fun r hr => Sb.rd r (List.mem_cons_of_mem _ (List.mem_cons_of_mem _ hr))⟩
          clear Sb hS hzk hbase S hF1 hSm hsm X
          go_simp
          by_cases h1 : 1 < n
          · have g5 : (1 : Int) < (n : Int) := by omega
            have hjn : j < n - 1 := by have := hjm.out; have := hmx.out; omega
            obtain ⟨bS', oS', sS', b2, o2, yS, hA, e0, y0, y1, y2, R1, R2, vy⟩ := el_get lS.out mS.out hih.out (show j < cols 2 n from hjn)
            obtain ⟨rfl, rfl⟩ : bS' = bS ∧ oS' = oS := by injection hA with hA; injection hA with h1 h2; exact ⟨h1.symm, h2.symm⟩
            rw [show cols 2 n = n - 1 from rfl] at e0
            obtain ⟨bH', oH', sH', b3, o3, yH, hA2, e3, x0, x1, x2, R3, R4, vx⟩ := el_get lH.out mH.out hih.out (show j < cols 3 n from hjn)
            obtain ⟨rfl, rfl⟩ : bH' = bH ∧ oH' = oH := by injection hA2 with hA2; injection hA2 with h1 h2; exact ⟨h1.symm, h2.symm⟩
            rw [show cols 3 n = n - 1 from rfl] at e3
            obtain ⟨ybS, YS⟩ := rw_rr vy R1 R2
            obtain ⟨ybH, YH⟩ := rw_rr vx R3 R4
            have hi40 : i ≤ 40 := by have := hih.out; have := n1.out; omega
            obtain ⟨qa, hqa⟩ : ∃ q : Rat, q = ((sA n j (i + 1) : Int) : Rat) := ⟨_, rfl⟩
            obtain ⟨qb, hqb⟩ : ∃ q : Rat, q = ((sB n j (i + 1) : Int) : Rat) := ⟨_, rfl⟩
            have eA : sA n j (i + 1) = sA n j i + ent 2 n i j := by unfold sA; rw [if_pos h1, if_pos h1]; rfl
            have eB : sB n j (i + 1) = sB n j i + ent 3 n i j := by unfold sB; rw [if_pos h1, if_pos h1]; rfl
            have sa : (sA n j i).natAbs ≤ 40000 := by unfold sA; rw [if_pos h1]; exact sum_sm 2 n j i hi40
            have sb : (sB n j i).natAbs ≤ 40000 := by unfold sB; rw [if_pos h1]; exact sum_sm 3 n j i hi40
            have hAddA : Hid (∀ W, (∃ rs', St w4 W [(cb, yd.vs, 44), (bb, yb.vs, 44), (ab, ya.vs, 44)] rs' ∧ ∀ p ∈ rt, p ∈ rs') → Calls Tryd.prog 17 #[.agg #[.bool ya.b, .slice ya.x.A ya.x.n ya.x.c, .slice ya.y.A ya.y.n ya.y.c], .agg #[.bool yS.b, .slice yS.x.A yS.x.n yS.x.c, .slice yS.y.A yS.y.n yS.y.c]] W (RetR qa W)) := Lib.hid fun W ⟨rs', hW, hsub⟩ => by
              obtain ⟨db1, D⟩ := (ha.out.mono (fun p hp => hsub p (hrt.out p hp))).rr hW va.out
              have := faddQ _ _ ya.x.A ya.x.n ya.x.c ya.y.A ya.y.n ya.y.c yS.x.A yS.x.n yS.x.c yS.y.A yS.y.n yS.y.c W D (YS.below hW.bel) (rs_int (by omega) 99 (by omega)) (rs_int (by have := ent_bd 2 n i j hi40; omega) 99 (by omega))
              rw [q_add, ← eA, ← ybS, ← db1, ← hqa] at this
              exact this
            have hAddB : Hid (∀ W, (∃ rs', St w4 W [(cb, yd.vs, 44), (bb, yb.vs, 44), (ab, ya.vs, 44)] rs' ∧ ∀ p ∈ rt, p ∈ rs') → Calls Tryd.prog 17 #[.agg #[.bool yb.b, .slice yb.x.A yb.x.n yb.x.c, .slice yb.y.A yb.y.n yb.y.c], .agg #[.bool yH.b, .slice yH.x.A yH.x.n yH.x.c, .slice yH.y.A yH.y.n yH.y.c]] W (RetR qb W)) := Lib.hid fun W ⟨rs', hW, hsub⟩ => by
              obtain ⟨db1, D⟩ := (hb.out.mono (fun p hp => hsub p (hrt.out p hp))).rr hW vb.out
              have := faddQ _ _ yb.x.A yb.x.n yb.x.c yb.y.A yb.y.n yb.y.c yH.x.A yH.x.n yH.x.c yH.y.A yH.y.n yH.y.c W D (YH.below hW.bel) (rs_int (by omega) 99 (by omega)) (rs_int (by have := ent_bd 3 n i j hi40; omega) 99 (by omega))
              rw [q_add, ← eB, ← ybH, ← db1, ← hqb] at this
              exact this
            have va2 : Hid (qV qa = qV ((sA n j (i + 1) : Int) : Rat)) := Lib.hid (by rw [hqa])
            have vb2 : Hid (qV qb = qV ((sB n j (i + 1) : Int) : Rat)) := Lib.hid (by rw [hqb])
            replace e0 := Lib.hid e0
            replace y0 := Lib.hid y0
            replace y1 := Lib.hid y1
            replace y2 := Lib.hid y2
            replace e3 := Lib.hid e3
            replace x0 := Lib.hid x0
            replace x1 := Lib.hid x1
            replace x2 := Lib.hid x2
            have hjh : Hid (j < n - 1) := Lib.hid hjn
            have g6 : (0 : Int) ≤ (j : Int) := by omega
            have g7 : (j : Int) < (((n - 1 : Nat)) : Int) := by omega
            have g8 : (j : Int) < (n : Int) - 1 := by omega
            clear hA hA2 R1 R2 R3 R4 vy vx ybS ybH YS YH hi40 hqa hqb eA eB sa sb hjn h1
            go_upto_region 22 with fail
            have hbase := Lib.hid S5.out
            refine RW.begin (Z := []) (S := (fun W => Below w4.heap.size w4 W)) (by kernel_rfl) ?_ hbase.out ?_
            · exact ⟨by kernel_rfl, zis_nil, by decide, by decide, nol_nil, (fun _ _ h => h.bel)⟩
            intro hzk
            refine RW.t (i := 1) (v := .slice (some ⟨bS', oS', none⟩) n cS) (some 130) at1 (hy := fun _ _ => by kernel_rfl) (h := ?_)
            refine RW.t (i := 2) (v := .int .i64 i) (some 131) at2 (hy := fun _ _ => by kernel_rfl) (h := ?_)
            refine RW.t (i := 3) (v := .pointer (some ⟨bS', oS' + i, none⟩)) (some 132) at3 (hy := fun _ _ => by go_simp) (h := ?_)
            refine RW.t (i := 4) (v := .slice (some ⟨b2, o2, none⟩) (n - 1) sS'.c) (some 133) at4 (hy := fun W hS => by (have k0 := bel_cell hS e0.out; clear hS; go_simp)) (h := ?_)
            refine RW.t (i := 5) (v := .int .i64 j) (some 134) at5 (hy := fun _ _ => by kernel_rfl) (h := ?_)
            refine RW.t (i := 6) (v := .pointer (some ⟨b2, o2 + j * 3, none⟩)) (some 135) at6 (hy := fun _ _ => by go_simp) (h := ?_)
            refine RW.t (i := 7) (v := .agg #[.bool yS.b, .slice yS.x.A yS.x.n yS.x.c, .slice yS.y.A yS.y.n yS.y.c]) (some 136) at7 (hy := fun W hS => by (have k0 := bel_cell hS y0.out; have k1 := bel_cell hS y1.out; have k2 := bel_cell hS y2.out; clear hS; go_simp)) (h := ?_)
            refine RW.t (i := 10) (v := .slice (some ⟨bH', oH', none⟩) n cH) (some 139) at10 (hy := fun _ _ => by kernel_rfl) (h := ?_)
            refine RW.t (i := 11) (v := .int .i64 i) (some 140) at11 (hy := fun _ _ => by kernel_rfl) (h := ?_)
            refine RW.t (i := 12) (v := .pointer (some ⟨bH', oH' + i, none⟩)) (some 141) at12 (hy := fun _ _ => by go_simp) (h := ?_)
            refine RW.t (i := 13) (v := .slice (some ⟨b3, o3, none⟩) (n - 1) sH'.c) (some 142) at13 (hy := fun W hS => by (have k0 := bel_cell hS e3.out; clear hS; go_simp)) (h := ?_)
            refine RW.t (i := 14) (v := .int .i64 j) (some 143) at14 (hy := fun _ _ => by kernel_rfl) (h := ?_)
            refine RW.t (i := 15) (v := .pointer (some ⟨b3, o3 + j * 3, none⟩)) (some 144) at15 (hy := fun _ _ => by go_simp) (h := ?_)
            refine RW.t (i := 16) (v := .agg #[.bool yH.b, .slice yH.x.A yH.x.n yH.x.c, .slice yH.y.A yH.y.n yH.y.c]) (some 145) at16 (hy := fun W hS => by (have k0 := bel_cell hS x0.out; have k1 := bel_cell hS x1.out; have k2 := bel_cell hS x2.out; clear hS; go_simp)) (h := ?_)
            refine RW.tail hzk.out (by kernel_rfl) ?_
            intro gs' w5 hgs' hS Sb
            obtain rfl := len0 hgs'
            simp only [mark, fill, Act.put, List.setIfInBounds_toArray, List.set_cons_zero, List.set_cons_succ]
            replace Sb := Lib.hid Sb
            refine Wk.two (i := 0) (j := 9) at0 at9 (by kernel_rfl) (fun K' hK => ?_) (fun K' hK => ?_)
            · 
              have l0 := Sb.out.cl 2 0 rfl rfl
              have l1 := Sb.out.cl 2 1 rfl rfl
              have l2 := Sb.out.cl 2 2 rfl rfl
              go_simp
              refine hK.out _ _ hS ?_
              clear hK K' l0 l1 l2
              try simp only [Act.put, List.setIfInBounds_toArray, List.set_cons_zero, List.set_cons_succ]
              refine Wk.two (i := 8) (j := 9) at8 at9 (by kernel_rfl) (fun K' hK => ?_) (fun K' hK => ?_)
              · 
                refine oper_call (f := 17) (args := #[.agg #[.bool ya.b, .slice ya.x.A ya.x.n ya.x.c, .slice ya.y.A ya.y.n ya.y.c], .agg #[.bool yS.b, .slice yS.x.A yS.x.n yS.x.c, .slice yS.y.A yS.y.n yS.y.c]]) rfl (by kernel_rfl) ((hAddA.out _ ⟨_, Sb.out, fun _ h => h⟩).mono ?_)
                rintro e w6 ⟨A3, m3, c3, D3, m4, c4, rfl, X3, bb3⟩
                have S6 := Lib.hid (((Sb.out.call bb3).read X3.d).read X3.n)
                have hS6 := S6.out.bel
                clear bb3 X3
                refine ⟨_, rfl, hK.out _ _ hS6 ?_⟩
                clear hK K'
                try simp only [Act.put, List.setIfInBounds_toArray, List.set_cons_zero, List.set_cons_succ]
                refine Wk.g (i := 9) at9 (by kernel_rfl) (by kernel_rfl) fun K' hK => ?_
                have l0 := S6.out.cl 1 0 rfl rfl
                have l1 := S6.out.cl 1 1 rfl rfl
                have l2 := S6.out.cl 1 2 rfl rfl
                go_simp
                refine hK.out _ _ hS6 ?_
                clear hK K' l0 l1 l2
                try simp only [Act.put, List.setIfInBounds_toArray, List.set_cons_zero, List.set_cons_succ]
                refine Wk.g (i := 17) at17 (by kernel_rfl) (by kernel_rfl) fun K' hK => ?_
                refine oper_call (f := 17) (args := #[.agg #[.bool yb.b, .slice yb.x.A yb.x.n yb.x.c, .slice yb.y.A yb.y.n yb.y.c], .agg #[.bool yH.b, .slice yH.x.A yH.x.n yH.x.c, .slice yH.y.A yH.y.n yH.y.c]]) rfl (by kernel_rfl) ((hAddB.out _ ⟨_, S6.out, fun p hp => List.mem_cons_of_mem _ (List.mem_cons_of_mem _ hp)⟩).mono ?_)
                rintro e w7 ⟨A5, m5, c5, D5, m6, c6, rfl, X5, bb5⟩
                have S7 := Lib.hid (((S6.out.call bb5).read X5.d).read X5.n)
                have hS7 := S7.out.bel
                clear bb5 X5 S6 hS6
                refine ⟨_, rfl, hK.out _ _ hS7 ?_⟩
                clear hK K'
                try simp only [Act.put, List.setIfInBounds_toArray, List.set_cons_zero, List.set_cons_succ]
                refine Wk.g (i := 18) at18 (by kernel_rfl) (by kernel_rfl) fun K' hK => ?_
                have l0 := S7.out.cl 2 0 rfl rfl
                have l1 := S7.out.cl 2 1 rfl rfl
                have l2 := S7.out.cl 2 2 rfl rfl
                have f0 := S7.out.f 2 0 rfl
                have f1 := S7.out.f 2 1 rfl
                have f2 := S7.out.f 2 2 rfl
                go_simp
                have S8 : Hid (St w4 (((w7.setCell ⟨ab, 0, none⟩ (.bool (ng qa.num))).setCell ⟨ab, 1, none⟩ (.slice A3 m3 c3)).setCell ⟨ab, 2, none⟩ (.slice D3 m4 c4)) [(cb, yd.vs, 44), (bb, yb.vs, 44), (ab, (⟨ng qa.num, ⟨A3, m3, c3, limbs qa.num.natAbs⟩, ⟨D3, m4, c4, dn qa⟩⟩ : Rw).vs, 44)] ((A5, m5, c5, limbs qb.num.natAbs) :: (D5, m6, c6, dn qb) :: (A3, m3, c3, limbs qa.num.natAbs) :: (D3, m4, c4, dn qa) :: rt)) := Lib.hid (St_put3 (p := 2) (y0 := ya) S7.out rfl (⟨ng qa.num, ⟨A3, m3, c3, limbs qa.num.natAbs⟩, ⟨D3, m4, c4, dn qa⟩⟩ : Rw))
                generalize hW8 : (((w7.setCell ⟨ab, 0, none⟩ (.bool (ng qa.num))).setCell ⟨ab, 1, none⟩ (.slice A3 m3 c3)).setCell ⟨ab, 2, none⟩ (.slice D3 m4 c4)) = w8 at S8 ⊢
                clear hW8 l0 l1 l2 f0 f1 f2 S7 hS7
                have hS8 := S8.out.bel
                refine hK.out _ _ hS8 ?_
                clear hK K'
                try simp only [Act.put, List.setIfInBounds_toArray, List.set_cons_zero, List.set_cons_succ]
                refine Wk.g (i := 19) at19 (by kernel_rfl) (by kernel_rfl) fun K' hK => ?_
                have l0 := S8.out.cl 1 0 rfl rfl
                have l1 := S8.out.cl 1 1 rfl rfl
                have l2 := S8.out.cl 1 2 rfl rfl
                have f0 := S8.out.f 1 0 rfl
                have f1 := S8.out.f 1 1 rfl
                have f2 := S8.out.f 1 2 rfl
                go_simp
                have S9 : Hid (St w4 (((w8.setCell ⟨bb, 0, none⟩ (.bool (ng qb.num))).setCell ⟨bb, 1, none⟩ (.slice A5 m5 c5)).setCell ⟨bb, 2, none⟩ (.slice D5 m6 c6)) [(cb, yd.vs, 44), (bb, (⟨ng qb.num, ⟨A5, m5, c5, limbs qb.num.natAbs⟩, ⟨D5, m6, c6, dn qb⟩⟩ : Rw).vs, 44), (ab, (⟨ng qa.num, ⟨A3, m3, c3, limbs qa.num.natAbs⟩, ⟨D3, m4, c4, dn qa⟩⟩ : Rw).vs, 44)] ((A5, m5, c5, limbs qb.num.natAbs) :: (D5, m6, c6, dn qb) :: (A3, m3, c3, limbs qa.num.natAbs) :: (D3, m4, c4, dn qa) :: rt)) := Lib.hid (St_put3 (p := 1) (y0 := yb) S8.out rfl (⟨ng qb.num, ⟨A5, m5, c5, limbs qb.num.natAbs⟩, ⟨D5, m6, c6, dn qb⟩⟩ : Rw))
                have hS9 := S9.out.bel
                refine hK.out _ _ hS9 ?_
                clear hK K' l0 l1 l2 f0 f1 f2 S8 hS8 hS9
                refine Wk.done (by kernel_rfl) ?_
                have hz5 : Hid ((none, 0, 0, []) ∈ ((A5, m5, c5, limbs qb.num.natAbs) :: (D5, m6, c6, dn qb) :: (A3, m3, c3, limbs qa.num.natAbs) :: (D3, m4, c4, dn qa) :: rt)) := Lib.hid (List.mem_cons_of_mem _ (List.mem_cons_of_mem _ (List.mem_cons_of_mem _ (List.mem_cons_of_mem _ (hrt.out _ hz.out)))))
                have hi5 : Hid (rwI ((A5, m5, c5, limbs qb.num.natAbs) :: (D5, m6, c6, dn qb) :: (A3, m3, c3, limbs qa.num.natAbs) :: (D3, m4, c4, dn qa) :: rt) (⟨ng qa.num, ⟨A3, m3, c3, limbs qa.num.natAbs⟩, ⟨D3, m4, c4, dn qa⟩⟩ : Rw) ∧ rwI ((A5, m5, c5, limbs qb.num.natAbs) :: (D5, m6, c6, dn qb) :: (A3, m3, c3, limbs qa.num.natAbs) :: (D3, m4, c4, dn qa) :: rt) (⟨ng qb.num, ⟨A5, m5, c5, limbs qb.num.natAbs⟩, ⟨D5, m6, c6, dn qb⟩⟩ : Rw) ∧ rwI ((A5, m5, c5, limbs qb.num.natAbs) :: (D5, m6, c6, dn qb) :: (A3, m3, c3, limbs qa.num.natAbs) :: (D3, m4, c4, dn qa) :: rt) yd) := Lib.hid ⟨⟨List.mem_cons_of_mem _ (List.mem_cons_of_mem _ List.mem_cons_self), List.mem_cons_of_mem _ (List.mem_cons_of_mem _ (List.mem_cons_of_mem _ List.mem_cons_self))⟩, ⟨List.mem_cons_self, List.mem_cons_of_mem _ List.mem_cons_self⟩, hd5.out.mono (fun p hp => List.mem_cons_of_mem _ (List.mem_cons_of_mem _ (List.mem_cons_of_mem _ (List.mem_cons_of_mem _ hp))))⟩
                clear hrt hz hzk hbase S5 hAddA hAddB e0 e3 y0 y1 y2 x0 x1 x2 Sb ha hb va vb hd5
                have b1 : (n : Int) ≤ 32 := by have := n1.out; omega
                have b2 := hih.out
                go_simp
                go_wp2
                go_roundw
                case rel => exact ⟨i + 1, _, _, _, _, by omega, by go_num, S9.out, hz5.out, hi5.out, va2.out, vb2.out⟩
                case measure => simp [intOf]; omega
              · 
                have l0 := Sb.out.cl 1 0 rfl rfl
                have l1 := Sb.out.cl 1 1 rfl rfl
                have l2 := Sb.out.cl 1 2 rfl rfl
                go_simp
                refine hK.out _ _ hS ?_
                clear hK K' l0 l1 l2
                try simp only [Act.put, List.setIfInBounds_toArray, List.set_cons_zero, List.set_cons_succ]
                refine Wk.g (i := 8) at8 (by kernel_rfl) (by kernel_rfl) fun K' hK => ?_
                refine oper_call (f := 17) (args := #[.agg #[.bool ya.b, .slice ya.x.A ya.x.n ya.x.c, .slice ya.y.A ya.y.n ya.y.c], .agg #[.bool yS.b, .slice yS.x.A yS.x.n yS.x.c, .slice yS.y.A yS.y.n yS.y.c]]) rfl (by kernel_rfl) ((hAddA.out _ ⟨_, Sb.out, fun _ h => h⟩).mono ?_)
                rintro e w6 ⟨A3, m3, c3, D3, m4, c4, rfl, X3, bb3⟩
                have S6 := Lib.hid (((Sb.out.call bb3).read X3.d).read X3.n)
                have hS6 := S6.out.bel
                clear bb3 X3
                refine ⟨_, rfl, hK.out _ _ hS6 ?_⟩
                clear hK K'
                try simp only [Act.put, List.setIfInBounds_toArray, List.set_cons_zero, List.set_cons_succ]
                refine Wk.g (i := 17) at17 (by kernel_rfl) (by kernel_rfl) fun K' hK => ?_
                refine oper_call (f := 17) (args := #[.agg #[.bool yb.b, .slice yb.x.A yb.x.n yb.x.c, .slice yb.y.A yb.y.n yb.y.c], .agg #[.bool yH.b, .slice yH.x.A yH.x.n yH.x.c, .slice yH.y.A yH.y.n yH.y.c]]) rfl (by kernel_rfl) ((hAddB.out _ ⟨_, S6.out, fun p hp => List.mem_cons_of_mem _ (List.mem_cons_of_mem _ hp)⟩).mono ?_)
                rintro e w7 ⟨A5, m5, c5, D5, m6, c6, rfl, X5, bb5⟩
                have S7 := Lib.hid (((S6.out.call bb5).read X5.d).read X5.n)
                have hS7 := S7.out.bel
                clear bb5 X5 S6 hS6
                refine ⟨_, rfl, hK.out _ _ hS7 ?_⟩
                clear hK K'
                try simp only [Act.put, List.setIfInBounds_toArray, List.set_cons_zero, List.set_cons_succ]
                refine Wk.g (i := 18) at18 (by kernel_rfl) (by kernel_rfl) fun K' hK => ?_
                have l0 := S7.out.cl 2 0 rfl rfl
                have l1 := S7.out.cl 2 1 rfl rfl
                have l2 := S7.out.cl 2 2 rfl rfl
                have f0 := S7.out.f 2 0 rfl
                have f1 := S7.out.f 2 1 rfl
                have f2 := S7.out.f 2 2 rfl
                go_simp
                have S8 : Hid (St w4 (((w7.setCell ⟨ab, 0, none⟩ (.bool (ng qa.num))).setCell ⟨ab, 1, none⟩ (.slice A3 m3 c3)).setCell ⟨ab, 2, none⟩ (.slice D3 m4 c4)) [(cb, yd.vs, 44), (bb, yb.vs, 44), (ab, (⟨ng qa.num, ⟨A3, m3, c3, limbs qa.num.natAbs⟩, ⟨D3, m4, c4, dn qa⟩⟩ : Rw).vs, 44)] ((A5, m5, c5, limbs qb.num.natAbs) :: (D5, m6, c6, dn qb) :: (A3, m3, c3, limbs qa.num.natAbs) :: (D3, m4, c4, dn qa) :: rt)) := Lib.hid (St_put3 (p := 2) (y0 := ya) S7.out rfl (⟨ng qa.num, ⟨A3, m3, c3, limbs qa.num.natAbs⟩, ⟨D3, m4, c4, dn qa⟩⟩ : Rw))
                generalize hW8 : (((w7.setCell ⟨ab, 0, none⟩ (.bool (ng qa.num))).setCell ⟨ab, 1, none⟩ (.slice A3 m3 c3)).setCell ⟨ab, 2, none⟩ (.slice D3 m4 c4)) = w8 at S8 ⊢
                clear hW8 l0 l1 l2 f0 f1 f2 S7 hS7
                have hS8 := S8.out.bel
                refine hK.out _ _ hS8 ?_
                clear hK K'
                try simp only [Act.put, List.setIfInBounds_toArray, List.set_cons_zero, List.set_cons_succ]
                refine Wk.g (i := 19) at19 (by kernel_rfl) (by kernel_rfl) fun K' hK => ?_
                have l0 := S8.out.cl 1 0 rfl rfl
                have l1 := S8.out.cl 1 1 rfl rfl
                have l2 := S8.out.cl 1 2 rfl rfl
                have f0 := S8.out.f 1 0 rfl
                have f1 := S8.out.f 1 1 rfl
                have f2 := S8.out.f 1 2 rfl
                go_simp
                have S9 : Hid (St w4 (((w8.setCell ⟨bb, 0, none⟩ (.bool (ng qb.num))).setCell ⟨bb, 1, none⟩ (.slice A5 m5 c5)).setCell ⟨bb, 2, none⟩ (.slice D5 m6 c6)) [(cb, yd.vs, 44), (bb, (⟨ng qb.num, ⟨A5, m5, c5, limbs qb.num.natAbs⟩, ⟨D5, m6, c6, dn qb⟩⟩ : Rw).vs, 44), (ab, (⟨ng qa.num, ⟨A3, m3, c3, limbs qa.num.natAbs⟩, ⟨D3, m4, c4, dn qa⟩⟩ : Rw).vs, 44)] ((A5, m5, c5, limbs qb.num.natAbs) :: (D5, m6, c6, dn qb) :: (A3, m3, c3, limbs qa.num.natAbs) :: (D3, m4, c4, dn qa) :: rt)) := Lib.hid (St_put3 (p := 1) (y0 := yb) S8.out rfl (⟨ng qb.num, ⟨A5, m5, c5, limbs qb.num.natAbs⟩, ⟨D5, m6, c6, dn qb⟩⟩ : Rw))
                have hS9 := S9.out.bel
                refine hK.out _ _ hS9 ?_
                clear hK K' l0 l1 l2 f0 f1 f2 S8 hS8 hS9
                refine Wk.done (by kernel_rfl) ?_
                have hz5 : Hid ((none, 0, 0, []) ∈ ((A5, m5, c5, limbs qb.num.natAbs) :: (D5, m6, c6, dn qb) :: (A3, m3, c3, limbs qa.num.natAbs) :: (D3, m4, c4, dn qa) :: rt)) := Lib.hid (List.mem_cons_of_mem _ (List.mem_cons_of_mem _ (List.mem_cons_of_mem _ (List.mem_cons_of_mem _ (hrt.out _ hz.out)))))
                have hi5 : Hid (rwI ((A5, m5, c5, limbs qb.num.natAbs) :: (D5, m6, c6, dn qb) :: (A3, m3, c3, limbs qa.num.natAbs) :: (D3, m4, c4, dn qa) :: rt) (⟨ng qa.num, ⟨A3, m3, c3, limbs qa.num.natAbs⟩, ⟨D3, m4, c4, dn qa⟩⟩ : Rw) ∧ rwI ((A5, m5, c5, limbs qb.num.natAbs) :: (D5, m6, c6, dn qb) :: (A3, m3, c3, limbs qa.num.natAbs) :: (D3, m4, c4, dn qa) :: rt) (⟨ng qb.num, ⟨A5, m5, c5, limbs qb.num.natAbs⟩, ⟨D5, m6, c6, dn qb⟩⟩ : Rw) ∧ rwI ((A5, m5, c5, limbs qb.num.natAbs) :: (D5, m6, c6, dn qb) :: (A3, m3, c3, limbs qa.num.natAbs) :: (D3, m4, c4, dn qa) :: rt) yd) := Lib.hid ⟨⟨List.mem_cons_of_mem _ (List.mem_cons_of_mem _ List.mem_cons_self), List.mem_cons_of_mem _ (List.mem_cons_of_mem _ (List.mem_cons_of_mem _ List.mem_cons_self))⟩, ⟨List.mem_cons_self, List.mem_cons_of_mem _ List.mem_cons_self⟩, hd5.out.mono (fun p hp => List.mem_cons_of_mem _ (List.mem_cons_of_mem _ (List.mem_cons_of_mem _ (List.mem_cons_of_mem _ hp))))⟩
                clear hrt hz hzk hbase S5 hAddA hAddB e0 e3 y0 y1 y2 x0 x1 x2 Sb ha hb va vb hd5
                have b1 : (n : Int) ≤ 32 := by have := n1.out; omega
                have b2 := hih.out
                go_simp
                go_wp2
                go_roundw
                case rel => exact ⟨i + 1, _, _, _, _, by omega, by go_num, S9.out, hz5.out, hi5.out, va2.out, vb2.out⟩
                case measure => simp [intOf]; omega
            · 
              have l0 := Sb.out.cl 1 0 rfl rfl
              have l1 := Sb.out.cl 1 1 rfl rfl
              have l2 := Sb.out.cl 1 2 rfl rfl
              go_simp
              refine hK.out _ _ hS ?_
              clear hK K' l0 l1 l2
              try simp only [Act.put, List.setIfInBounds_toArray, List.set_cons_zero, List.set_cons_succ]
              refine Wk.g (i := 0) at0 (by kernel_rfl) (by kernel_rfl) fun K' hK => ?_
              have l0 := Sb.out.cl 2 0 rfl rfl
              have l1 := Sb.out.cl 2 1 rfl rfl
              have l2 := Sb.out.cl 2 2 rfl rfl
              go_simp
              refine hK.out _ _ hS ?_
              clear hK K' l0 l1 l2
              try simp only [Act.put, List.setIfInBounds_toArray, List.set_cons_zero, List.set_cons_succ]
              refine Wk.g (i := 8) at8 (by kernel_rfl) (by kernel_rfl) fun K' hK => ?_
              refine oper_call (f := 17) (args := #[.agg #[.bool ya.b, .slice ya.x.A ya.x.n ya.x.c, .slice ya.y.A ya.y.n ya.y.c], .agg #[.bool yS.b, .slice yS.x.A yS.x.n yS.x.c, .slice yS.y.A yS.y.n yS.y.c]]) rfl (by kernel_rfl) ((hAddA.out _ ⟨_, Sb.out, fun _ h => h⟩).mono ?_)
              rintro e w6 ⟨A3, m3, c3, D3, m4, c4, rfl, X3, bb3⟩
              have S6 := Lib.hid (((Sb.out.call bb3).read X3.d).read X3.n)
              have hS6 := S6.out.bel
              clear bb3 X3
              refine ⟨_, rfl, hK.out _ _ hS6 ?_⟩
              clear hK K'
              try simp only [Act.put, List.setIfInBounds_toArray, List.set_cons_zero, List.set_cons_succ]
              refine Wk.g (i := 17) at17 (by kernel_rfl) (by kernel_rfl) fun K' hK => ?_
              refine oper_call (f := 17) (args := #[.agg #[.bool yb.b, .slice yb.x.A yb.x.n yb.x.c, .slice yb.y.A yb.y.n yb.y.c], .agg #[.bool yH.b, .slice yH.x.A yH.x.n yH.x.c, .slice yH.y.A yH.y.n yH.y.c]]) rfl (by kernel_rfl) ((hAddB.out _ ⟨_, S6.out, fun p hp => List.mem_cons_of_mem _ (List.mem_cons_of_mem _ hp)⟩).mono ?_)
              rintro e w7 ⟨A5, m5, c5, D5, m6, c6, rfl, X5, bb5⟩
              have S7 := Lib.hid (((S6.out.call bb5).read X5.d).read X5.n)
              have hS7 := S7.out.bel
              clear bb5 X5 S6 hS6
              refine ⟨_, rfl, hK.out _ _ hS7 ?_⟩
              clear hK K'
              try simp only [Act.put, List.setIfInBounds_toArray, List.set_cons_zero, List.set_cons_succ]
              refine Wk.g (i := 18) at18 (by kernel_rfl) (by kernel_rfl) fun K' hK => ?_
              have l0 := S7.out.cl 2 0 rfl rfl
              have l1 := S7.out.cl 2 1 rfl rfl
              have l2 := S7.out.cl 2 2 rfl rfl
              have f0 := S7.out.f 2 0 rfl
              have f1 := S7.out.f 2 1 rfl
              have f2 := S7.out.f 2 2 rfl
              go_simp
              have S8 : Hid (St w4 (((w7.setCell ⟨ab, 0, none⟩ (.bool (ng qa.num))).setCell ⟨ab, 1, none⟩ (.slice A3 m3 c3)).setCell ⟨ab, 2, none⟩ (.slice D3 m4 c4)) [(cb, yd.vs, 44), (bb, yb.vs, 44), (ab, (⟨ng qa.num, ⟨A3, m3, c3, limbs qa.num.natAbs⟩, ⟨D3, m4, c4, dn qa⟩⟩ : Rw).vs, 44)] ((A5, m5, c5, limbs qb.num.natAbs) :: (D5, m6, c6, dn qb) :: (A3, m3, c3, limbs qa.num.natAbs) :: (D3, m4, c4, dn qa) :: rt)) := Lib.hid (St_put3 (p := 2) (y0 := ya) S7.out rfl (⟨ng qa.num, ⟨A3, m3, c3, limbs qa.num.natAbs⟩, ⟨D3, m4, c4, dn qa⟩⟩ : Rw))
              generalize hW8 : (((w7.setCell ⟨ab, 0, none⟩ (.bool (ng qa.num))).setCell ⟨ab, 1, none⟩ (.slice A3 m3 c3)).setCell ⟨ab, 2, none⟩ (.slice D3 m4 c4)) = w8 at S8 ⊢
              clear hW8 l0 l1 l2 f0 f1 f2 S7 hS7
              have hS8 := S8.out.bel
              refine hK.out _ _ hS8 ?_
              clear hK K'
              try simp only [Act.put, List.setIfInBounds_toArray, List.set_cons_zero, List.set_cons_succ]
              refine Wk.g (i := 19) at19 (by kernel_rfl) (by kernel_rfl) fun K' hK => ?_
              have l0 := S8.out.cl 1 0 rfl rfl
              have l1 := S8.out.cl 1 1 rfl rfl
              have l2 := S8.out.cl 1 2 rfl rfl
              have f0 := S8.out.f 1 0 rfl
              have f1 := S8.out.f 1 1 rfl
              have f2 := S8.out.f 1 2 rfl
              go_simp
              have S9 : Hid (St w4 (((w8.setCell ⟨bb, 0, none⟩ (.bool (ng qb.num))).setCell ⟨bb, 1, none⟩ (.slice A5 m5 c5)).setCell ⟨bb, 2, none⟩ (.slice D5 m6 c6)) [(cb, yd.vs, 44), (bb, (⟨ng qb.num, ⟨A5, m5, c5, limbs qb.num.natAbs⟩, ⟨D5, m6, c6, dn qb⟩⟩ : Rw).vs, 44), (ab, (⟨ng qa.num, ⟨A3, m3, c3, limbs qa.num.natAbs⟩, ⟨D3, m4, c4, dn qa⟩⟩ : Rw).vs, 44)] ((A5, m5, c5, limbs qb.num.natAbs) :: (D5, m6, c6, dn qb) :: (A3, m3, c3, limbs qa.num.natAbs) :: (D3, m4, c4, dn qa) :: rt)) := Lib.hid (St_put3 (p := 1) (y0 := yb) S8.out rfl (⟨ng qb.num, ⟨A5, m5, c5, limbs qb.num.natAbs⟩, ⟨D5, m6, c6, dn qb⟩⟩ : Rw))
              have hS9 := S9.out.bel
              refine hK.out _ _ hS9 ?_
              clear hK K' l0 l1 l2 f0 f1 f2 S8 hS8 hS9
              refine Wk.done (by kernel_rfl) ?_
              have hz5 : Hid ((none, 0, 0, []) ∈ ((A5, m5, c5, limbs qb.num.natAbs) :: (D5, m6, c6, dn qb) :: (A3, m3, c3, limbs qa.num.natAbs) :: (D3, m4, c4, dn qa) :: rt)) := Lib.hid (List.mem_cons_of_mem _ (List.mem_cons_of_mem _ (List.mem_cons_of_mem _ (List.mem_cons_of_mem _ (hrt.out _ hz.out)))))
              have hi5 : Hid (rwI ((A5, m5, c5, limbs qb.num.natAbs) :: (D5, m6, c6, dn qb) :: (A3, m3, c3, limbs qa.num.natAbs) :: (D3, m4, c4, dn qa) :: rt) (⟨ng qa.num, ⟨A3, m3, c3, limbs qa.num.natAbs⟩, ⟨D3, m4, c4, dn qa⟩⟩ : Rw) ∧ rwI ((A5, m5, c5, limbs qb.num.natAbs) :: (D5, m6, c6, dn qb) :: (A3, m3, c3, limbs qa.num.natAbs) :: (D3, m4, c4, dn qa) :: rt) (⟨ng qb.num, ⟨A5, m5, c5, limbs qb.num.natAbs⟩, ⟨D5, m6, c6, dn qb⟩⟩ : Rw) ∧ rwI ((A5, m5, c5, limbs qb.num.natAbs) :: (D5, m6, c6, dn qb) :: (A3, m3, c3, limbs qa.num.natAbs) :: (D3, m4, c4, dn qa) :: rt) yd) := Lib.hid ⟨⟨List.mem_cons_of_mem _ (List.mem_cons_of_mem _ List.mem_cons_self), List.mem_cons_of_mem _ (List.mem_cons_of_mem _ (List.mem_cons_of_mem _ List.mem_cons_self))⟩, ⟨List.mem_cons_self, List.mem_cons_of_mem _ List.mem_cons_self⟩, hd5.out.mono (fun p hp => List.mem_cons_of_mem _ (List.mem_cons_of_mem _ (List.mem_cons_of_mem _ (List.mem_cons_of_mem _ hp))))⟩
              clear hrt hz hzk hbase S5 hAddA hAddB e0 e3 y0 y1 y2 x0 x1 x2 Sb ha hb va vb hd5
              have b1 : (n : Int) ≤ 32 := by have := n1.out; omega
              have b2 := hih.out
              go_simp
              go_wp2
              go_roundw
              case rel => exact ⟨i + 1, _, _, _, _, by omega, by go_num, S9.out, hz5.out, hi5.out, va2.out, vb2.out⟩
              case measure => simp [intOf]; omega
          · have g5 : ¬ (1 : Int) < (n : Int) := by omega
            have eA : sA n j (i + 1) = sA n j i := by unfold sA; rw [if_neg h1, if_neg h1]
            have eB : sB n j (i + 1) = sB n j i := by unfold sB; rw [if_neg h1, if_neg h1]
            have va2 : Hid (rwV ya = qV ((sA n j (i + 1) : Int) : Rat)) := Lib.hid (by rw [eA]; exact va.out)
            have vb2 : Hid (rwV yb = qV ((sB n j (i + 1) : Int) : Rat)) := Lib.hid (by rw [eB]; exact vb.out)
            clear h1 eA eB
            have b1 : (n : Int) ≤ 32 := by have := n1.out; omega
            have b2 := hih.out
            go_wp2
            go_roundw
            case rel => exact ⟨i + 1, ya, yb, yd, rt, by omega, by go_num, S5.out, hrt.out _ hz.out, ⟨ha.out.mono hrt.out, hb.out.mono hrt.out, hd5.out⟩, va2.out, vb2.out⟩
            case measure => simp [intOf]; omega
    · obtain rfl : n = i := by omega
      have zA : sA n j n = 0 := by
        unfold sA
        split
        · have hjn : j < n - 1 := by have := hjm.out; have := hmx.out; omega
          rw [psum_sum n j (by omega) n (Nat.le_refl _), if_pos (by omega), if_pos rfl]; rfl
        · rfl
      have zB : sB n j n = 0 := by
        unfold sB
        split
        · have hjn : j < n - 1 := by have := hjm.out; have := hmx.out; omega
          rw [psum_hel, if_neg (by omega)]
        · rfl
      rw [zA] at va
      rw [zB] at vb
      have h00 : (((0 : Int) : Rat)).num.sign = 0 := rfl
      have hSg : Hid (∀ (y : Rw) W (bs : List GBk) (rt : List GRd), rwV y = qV ((0 : Int) : Rat) → rwI rt y → St w4 W bs rt → Calls Tryd.prog 21 #[.agg #[.bool y.b, .slice y.x.A y.x.n y.x.c, .slice y.y.A y.y.n y.y.c]] W fun e w' => e = .returned (.int .i64 0) ∧ Below W.heap.size W w') := Lib.hid fun y W bs rt hv hi hW => by
        obtain ⟨db1, D⟩ := hi.rr hW hv
        have := rsignQ2 ((0 : Int) : Rat) y.x.A y.x.n y.x.c y.y.A y.y.n y.y.c W D (rs_int (by decide) 199 (by omega))
        rw [← db1, h00] at this
        exact this
      have hj2 : Hid (j = 0 ∨ j < n - 1) := Lib.hid (by have := hjm.out; have := hmx.out; omega)
      have hj40 : Hid (j ≤ 40) := Lib.hid (by have := hjm.out; have := hmx.out; have := n1.out; omega)
      replace S := Lib.hid S
      replace ha := Lib.hid ha
      replace hb := Lib.hid hb
      replace va := Lib.hid va
      replace vb := Lib.hid vb
      replace hz := Lib.hid hz
      clear zA zB h00 hc hlt hin
      go_wp2
      go_loopw [18] (fun kv wr => ∃ (k : Nat), k ≤ j ∧ kv = .int .i64 k ∧ St w4 wr [(cb, yc.vs, 44), (bb, yb.vs, 44), (ab, ya.vs, 44)] rs) (fun kv _ => j - (intOf kv).toNat)
      case atStart => exact ⟨0, Nat.zero_le _, rfl, S.out⟩
      case round =>
        clear S
        obtain ⟨k, hkj, rfl, S⟩ := hrel
        by_cases hlk : k < j
        · have g3 : (k : Int) < (j : Int) := by omega
          have g4 : (0 : Int) ≤ (k : Int) := by omega
          have hkh := Lib.hid hlk
          have hjn : j < n - 1 := by have := hj2.out; omega
          obtain ⟨db, hdb⟩ : ∃ g, g = wr.heap.size := ⟨_, rfl⟩
          have SD := Lib.hid (S.allocAt db #[.bool false, .slice none 0 0, .slice none 0 0] 44 (noL3 _ _ _ _ _ _ _) hdb.symm)
          have hjh := Lib.hid hjn
          clear S hlk hkj hjn
          go_wp2
          rw [← hdb]
          clear hdb
          go_loopw [20] (fun iv wr => ∃ (i : Nat) (yd : Rw) (rt : List GRd), i ≤ n ∧ iv = .int .i64 i ∧ St w4 wr [(db, yd.vs, 44), (cb, yc.vs, 44), (bb, yb.vs, 44), (ab, ya.vs, 44)] rt ∧ (∀ p ∈ rs, p ∈ rt) ∧ rwI rt yd ∧ rwV yd = qV ((psum (fun i => ent 3 n i j * ent 3 n i k) i : Int) : Rat)) (fun iv _ => n - (intOf iv).toNat)
          case atStart =>
            have hz0 : rwV Rw0 = qV ((0 : Int) : Rat) := by
              unfold rwV qV Rw0 Nl0
              rw [show (((0 : Int) : Rat)).num.natAbs = 0 from rfl, limbs_zero]
              rfl
            exact ⟨0, Rw0, rs, Nat.zero_le _, rfl, SD.out, fun _ h => h, ⟨hz.out, hz.out⟩, hz0⟩
          case round =>
            clear SD
            obtain ⟨i, yd, rt, hin, rfl, S, hrt, hd, vd⟩ := hrel
            replace hrt := Lib.hid hrt
            by_cases hlt : i < n
            · have g1 : (i : Int) < (n : Int) := by omega
              have g2 : (0 : Int) ≤ (i : Int) := by omega
              have hih := Lib.hid hlt
              obtain ⟨bH, oH, sH, b2, o2, yS, rfl, e0, y0, y1, y2, R1, R2, vy⟩ := el_get lH.out mH.out hlt (show j < cols 3 n from hjh.out)
              rw [show cols 3 n = n - 1 from rfl] at e0
              obtain ⟨bH', oH', sH', b3, o3, yH, hA2, e3, x0, x1, x2, R3, R4, vx⟩ := el_get lH.out mH.out hlt (show k < cols 3 n from Nat.lt_trans hkh.out hjh.out)
              obtain ⟨rfl, rfl⟩ : bH' = bH ∧ oH' = oH := by injection hA2 with hA2; injection hA2 with h1 h2; exact ⟨h1.symm, h2.symm⟩
              rw [show cols 3 n = n - 1 from rfl] at e3
              obtain ⟨ybS, YS⟩ := rw_rr vy R1 R2
              obtain ⟨ybH, YH⟩ := rw_rr vx R3 R4
              have hi40 : i ≤ 40 := by have := n1.out; omega
              have s1 := ent_bd 3 n i j hi40
              have s2 := ent_bd 3 n i k hi40
              obtain ⟨qm, hqm⟩ : ∃ q : Rat, q = ((ent 3 n i j * ent 3 n i k : Int) : Rat) := ⟨_, rfl⟩
              obtain ⟨qs, hqs⟩ : ∃ q : Rat, q = ((psum (fun i => ent 3 n i j * ent 3 n i k) (i + 1) : Int) : Rat) := ⟨_, rfl⟩
              have hMul : Hid (∀ W, Below w4.heap.size w4 W → Calls Tryd.prog 20 #[.agg #[.bool yS.b, .slice yS.x.A yS.x.n yS.x.c, .slice yS.y.A yS.y.n yS.y.c], .agg #[.bool yH.b, .slice yH.x.A yH.x.n yH.x.c, .slice yH.y.A yH.y.n yH.y.c]] W (RetR qm W)) := Lib.hid fun W hW => by
                have := fmulQ _ _ yS.x.A yS.x.n yS.x.c yS.y.A yS.y.n yS.y.c yH.x.A yH.x.n yH.x.c yH.y.A yH.y.n yH.y.c W (YS.below hW) (YH.below hW) (rs_int (by omega) 99 (by omega)) (rs_int (by omega) 99 (by omega))
                rw [q_mul, ← ybS, ← ybH, ← hqm] at this
                exact this
              have hpm : (ent 3 n i j * ent 3 n i k).natAbs ≤ 1000000 := by
                rw [Int.natAbs_mul]
                exact Nat.le_trans (Nat.mul_le_mul s1 s2) (by decide)
              have hps := sum_sm2 n j k i hkh.out hi40
              have hAdd : Hid (∀ (A3 : Option Addr) (m3 c3 : Nat) (D3 : Option Addr) (m4 c4 : Nat) W, RR W A3 m3 c3 D3 m4 c4 qm → (∃ rs', St w4 W [(db, yd.vs, 44), (cb, yc.vs, 44), (bb, yb.vs, 44), (ab, ya.vs, 44)] rs' ∧ ∀ p ∈ rt, p ∈ rs') → Calls Tryd.prog 17 #[.agg #[.bool yd.b, .slice yd.x.A yd.x.n yd.x.c, .slice yd.y.A yd.y.n yd.y.c], .agg #[.bool (ng qm.num), .slice A3 m3 c3, .slice D3 m4 c4]] W (RetR qs W)) := Lib.hid fun A3 m3 c3 D3 m4 c4 W X ⟨rs', hW, hsub⟩ => by
                obtain ⟨db1, D⟩ := (hd.mono (fun p hp => hsub p hp)).rr hW vd
                rw [hqm] at X
                have := faddQ _ _ yd.x.A yd.x.n yd.x.c yd.y.A yd.y.n yd.y.c A3 m3 c3 D3 m4 c4 W D X (rs_int (by omega) 99 (by omega)) (rs_int hpm 99 (by omega))
                rw [q_add, ← db1, ← hqm] at this
                rw [hqs]
                exact this
              have vs2 : Hid (qV qs = qV ((psum (fun i => ent 3 n i j * ent 3 n i k) (i + 1) : Int) : Rat)) := Lib.hid (by rw [hqs])
              replace e0 := Lib.hid e0
              replace y0 := Lib.hid y0
              replace y1 := Lib.hid y1
              replace y2 := Lib.hid y2
              replace e3 := Lib.hid e3
              replace x0 := Lib.hid x0
              replace x1 := Lib.hid x1
              replace x2 := Lib.hid x2
              have g6 : (0 : Int) ≤ (j : Int) := by omega
              have g7 : (j : Int) < (((n - 1 : Nat)) : Int) := by have := hjh.out; omega
              have g8 : (k : Int) < (((n - 1 : Nat)) : Int) := by have := hjh.out; omega
              have g9 : (j : Int) < (n : Int) - 1 := by have := hjh.out; omega
              have g10 : (k : Int) < (n : Int) - 1 := by have := hjh.out; omega
              replace S := Lib.hid S
              clear hA2 R1 R2 R3 R4 vy vx ybS ybH YS YH hi40 hqm hqs s1 s2 hpm hps hd vd hlt hin
              go_upto_region 30 with fail
              have hbase := Lib.hid S.out
              refine RW.begin (Z := []) (S := (fun W => Below w4.heap.size w4 W)) (by kernel_rfl) ?_ hbase.out ?_
              · exact ⟨by kernel_rfl, zis_nil, by decide, by decide, nol_nil, (fun _ _ h => h.bel)⟩
              intro hzk
              refine RW.t (i := 1) (v := .slice (some ⟨bH', oH', none⟩) n cH) (some 159) at1 (hy := fun _ _ => by kernel_rfl) (h := ?_)
              refine RW.t (i := 2) (v := .int .i64 i) (some 160) at2 (hy := fun _ _ => by kernel_rfl) (h := ?_)
              refine RW.t (i := 3) (v := .pointer (some ⟨bH', oH' + i, none⟩)) (some 161) at3 (hy := fun _ _ => by go_simp) (h := ?_)
              refine RW.t (i := 4) (v := .slice (some ⟨b2, o2, none⟩) (n - 1) sH.c) (some 162) at4 (hy := fun W hS => by (have k0 := bel_cell hS e0.out; clear hS; go_simp)) (h := ?_)
              refine RW.t (i := 5) (v := .int .i64 j) (some 163) at5 (hy := fun _ _ => by kernel_rfl) (h := ?_)
              refine RW.t (i := 6) (v := .pointer (some ⟨b2, o2 + j * 3, none⟩)) (some 164) at6 (hy := fun _ _ => by go_simp) (h := ?_)
              refine RW.t (i := 7) (v := .agg #[.bool yS.b, .slice yS.x.A yS.x.n yS.x.c, .slice yS.y.A yS.y.n yS.y.c]) (some 165) at7 (hy := fun W hS => by (have k0 := bel_cell hS y0.out; have k1 := bel_cell hS y1.out; have k2 := bel_cell hS y2.out; clear hS; go_simp)) (h := ?_)
              refine RW.t (i := 8) (v := .slice (some ⟨bH', oH', none⟩) n cH) (some 166) at8 (hy := fun _ _ => by kernel_rfl) (h := ?_)
              refine RW.t (i := 9) (v := .int .i64 i) (some 167) at9 (hy := fun _ _ => by kernel_rfl) (h := ?_)
              refine RW.t (i := 10) (v := .pointer (some ⟨bH', oH' + i, none⟩)) (some 168) at10 (hy := fun _ _ => by go_simp) (h := ?_)
              refine RW.t (i := 11) (v := .slice (some ⟨b3, o3, none⟩) (n - 1) sH'.c) (some 169) at11 (hy := fun W hS => by (have k0 := bel_cell hS e3.out; clear hS; go_simp)) (h := ?_)
              refine RW.t (i := 12) (v := .int .i64 k) (some 170) at12 (hy := fun _ _ => by kernel_rfl) (h := ?_)
              refine RW.t (i := 13) (v := .pointer (some ⟨b3, o3 + k * 3, none⟩)) (some 171) at13 (hy := fun _ _ => by go_simp) (h := ?_)
              refine RW.t (i := 14) (v := .agg #[.bool yH.b, .slice yH.x.A yH.x.n yH.x.c, .slice yH.y.A yH.y.n yH.y.c]) (some 172) at14 (hy := fun W hS => by (have k0 := bel_cell hS x0.out; have k1 := bel_cell hS x1.out; have k2 := bel_cell hS x2.out; clear hS; go_simp)) (h := ?_)
              refine RW.tail hzk.out (by kernel_rfl) ?_
              intro gs' w5 hgs' hS Sb
              obtain rfl := len0 hgs'
              simp only [mark, fill, Act.put, List.setIfInBounds_toArray, List.set_cons_zero, List.set_cons_succ]
              replace Sb := Lib.hid Sb
              refine Wk.two (i := 0) (j := 15) at0 at15 (by kernel_rfl) (fun K' hK => ?_) (fun K' hK => ?_)
              · 
                have l0 := Sb.out.cl 0 0 rfl rfl
                have l1 := Sb.out.cl 0 1 rfl rfl
                have l2 := Sb.out.cl 0 2 rfl rfl
                go_simp
                refine hK.out _ _ hS ?_
                clear hK K' l0 l1 l2
                try simp only [Act.put, List.setIfInBounds_toArray, List.set_cons_zero, List.set_cons_succ]
                refine Wk.g (i := 15) at15 (by kernel_rfl) (by kernel_rfl) fun K' hK => ?_
                refine oper_call (f := 20) (args := #[.agg #[.bool yS.b, .slice yS.x.A yS.x.n yS.x.c, .slice yS.y.A yS.y.n yS.y.c], .agg #[.bool yH.b, .slice yH.x.A yH.x.n yH.x.c, .slice yH.y.A yH.y.n yH.y.c]]) rfl (by kernel_rfl) ((hMul.out _ hS).mono ?_)
                rintro e w6 ⟨A3, m3, c3, D3, m4, c4, rfl, X3, bb3⟩
                have S6 := Lib.hid (((Sb.out.call bb3).read X3.d).read X3.n)
                have hS6 := S6.out.bel
                clear bb3 X3
                refine ⟨_, rfl, hK.out _ _ hS6 ?_⟩
                clear hK K'
                try simp only [Act.put, List.setIfInBounds_toArray, List.set_cons_zero, List.set_cons_succ]
                refine Wk.g (i := 16) at16 (by kernel_rfl) (by kernel_rfl) fun K' hK => ?_
                refine oper_call (f := 17) (args := #[.agg #[.bool yd.b, .slice yd.x.A yd.x.n yd.x.c, .slice yd.y.A yd.y.n yd.y.c], .agg #[.bool (ng qm.num), .slice A3 m3 c3, .slice D3 m4 c4]]) rfl (by kernel_rfl) ((hAdd.out A3 m3 c3 D3 m4 c4 _ ⟨S6.out.rd _ List.mem_cons_self, S6.out.rd _ (List.mem_cons_of_mem _ List.mem_cons_self)⟩ ⟨_, S6.out, fun p hp => List.mem_cons_of_mem _ (List.mem_cons_of_mem _ hp)⟩).mono ?_)
                rintro e w7 ⟨A5, m5, c5, D5, m6, c6, rfl, X5, bb5⟩
                have S7 := Lib.hid (((S6.out.call bb5).read X5.d).read X5.n)
                have hS7 := S7.out.bel
                clear bb5 X5 S6 hS6
                refine ⟨_, rfl, hK.out _ _ hS7 ?_⟩
                clear hK K'
                try simp only [Act.put, List.setIfInBounds_toArray, List.set_cons_zero, List.set_cons_succ]
                refine Wk.g (i := 17) at17 (by kernel_rfl) (by kernel_rfl) fun K' hK => ?_
                have l0 := S7.out.cl 0 0 rfl rfl
                have l1 := S7.out.cl 0 1 rfl rfl
                have l2 := S7.out.cl 0 2 rfl rfl
                have f0 := S7.out.f 0 0 rfl
                have f1 := S7.out.f 0 1 rfl
                have f2 := S7.out.f 0 2 rfl
                go_simp
                have S8 : Hid (St w4 (((w7.setCell ⟨db, 0, none⟩ (.bool (ng qs.num))).setCell ⟨db, 1, none⟩ (.slice A5 m5 c5)).setCell ⟨db, 2, none⟩ (.slice D5 m6 c6)) [(db, (⟨ng qs.num, ⟨A5, m5, c5, limbs qs.num.natAbs⟩, ⟨D5, m6, c6, dn qs⟩⟩ : Rw).vs, 44), (cb, yc.vs, 44), (bb, yb.vs, 44), (ab, ya.vs, 44)] ((A5, m5, c5, limbs qs.num.natAbs) :: (D5, m6, c6, dn qs) :: (A3, m3, c3, limbs qm.num.natAbs) :: (D3, m4, c4, dn qm) :: rt)) := Lib.hid (St_put3 (p := 0) (y0 := yd) S7.out rfl (⟨ng qs.num, ⟨A5, m5, c5, limbs qs.num.natAbs⟩, ⟨D5, m6, c6, dn qs⟩⟩ : Rw))
                have hS8 := S8.out.bel
                refine hK.out _ _ hS8 ?_
                clear hK K' l0 l1 l2 f0 f1 f2 S7 hS7 hS8
                refine Wk.done (by kernel_rfl) ?_
                have hrt5 : Hid (∀ p ∈ rs, p ∈ ((A5, m5, c5, limbs qs.num.natAbs) :: (D5, m6, c6, dn qs) :: (A3, m3, c3, limbs qm.num.natAbs) :: (D3, m4, c4, dn qm) :: rt)) := Lib.hid fun p hp => List.mem_cons_of_mem _ (List.mem_cons_of_mem _ (List.mem_cons_of_mem _ (List.mem_cons_of_mem _ (hrt.out p hp))))
                have hi5 : Hid (rwI ((A5, m5, c5, limbs qs.num.natAbs) :: (D5, m6, c6, dn qs) :: (A3, m3, c3, limbs qm.num.natAbs) :: (D3, m4, c4, dn qm) :: rt) (⟨ng qs.num, ⟨A5, m5, c5, limbs qs.num.natAbs⟩, ⟨D5, m6, c6, dn qs⟩⟩ : Rw)) := Lib.hid ⟨List.mem_cons_self, List.mem_cons_of_mem _ List.mem_cons_self⟩
                clear hrt hzk hbase S hAdd hMul e0 e3 y0 y1 y2 x0 x1 x2 Sb
                have b1 : (n : Int) ≤ 32 := by have := n1.out; omega
                have b2 := hih.out
                go_simp
                go_wp2
                go_roundw
                case rel => exact ⟨i + 1, _, _, by omega, by go_num, S8.out, hrt5.out, hi5.out, vs2.out⟩
                case measure => simp [intOf]; omega
              · 
                refine oper_call (f := 20) (args := #[.agg #[.bool yS.b, .slice yS.x.A yS.x.n yS.x.c, .slice yS.y.A yS.y.n yS.y.c], .agg #[.bool yH.b, .slice yH.x.A yH.x.n yH.x.c, .slice yH.y.A yH.y.n yH.y.c]]) rfl (by kernel_rfl) ((hMul.out _ hS).mono ?_)
                rintro e w6 ⟨A3, m3, c3, D3, m4, c4, rfl, X3, bb3⟩
                have S6 := Lib.hid (((Sb.out.call bb3).read X3.d).read X3.n)
                have hS6 := S6.out.bel
                clear bb3 X3
                refine ⟨_, rfl, hK.out _ _ hS6 ?_⟩
                clear hK K'
                try simp only [Act.put, List.setIfInBounds_toArray, List.set_cons_zero, List.set_cons_succ]
                refine Wk.g (i := 0) at0 (by kernel_rfl) (by kernel_rfl) fun K' hK => ?_
                have l0 := S6.out.cl 0 0 rfl rfl
                have l1 := S6.out.cl 0 1 rfl rfl
                have l2 := S6.out.cl 0 2 rfl rfl
                go_simp
                refine hK.out _ _ hS6 ?_
                clear hK K' l0 l1 l2
                try simp only [Act.put, List.setIfInBounds_toArray, List.set_cons_zero, List.set_cons_succ]
                refine Wk.g (i := 16) at16 (by kernel_rfl) (by kernel_rfl) fun K' hK => ?_
                refine oper_call (f := 17) (args := #[.agg #[.bool yd.b, .slice yd.x.A yd.x.n yd.x.c, .slice yd.y.A yd.y.n yd.y.c], .agg #[.bool (ng qm.num), .slice A3 m3 c3, .slice D3 m4 c4]]) rfl (by kernel_rfl) ((hAdd.out A3 m3 c3 D3 m4 c4 _ ⟨S6.out.rd _ List.mem_cons_self, S6.out.rd _ (List.mem_cons_of_mem _ List.mem_cons_self)⟩ ⟨_, S6.out, fun p hp => List.mem_cons_of_mem _ (List.mem_cons_of_mem _ hp)⟩).mono ?_)
                rintro e w7 ⟨A5, m5, c5, D5, m6, c6, rfl, X5, bb5⟩
                have S7 := Lib.hid (((S6.out.call bb5).read X5.d).read X5.n)
                have hS7 := S7.out.bel
                clear bb5 X5 S6 hS6
                refine ⟨_, rfl, hK.out _ _ hS7 ?_⟩
                clear hK K'
                try simp only [Act.put, List.setIfInBounds_toArray, List.set_cons_zero, List.set_cons_succ]
                refine Wk.g (i := 17) at17 (by kernel_rfl) (by kernel_rfl) fun K' hK => ?_
                have l0 := S7.out.cl 0 0 rfl rfl
                have l1 := S7.out.cl 0 1 rfl rfl
                have l2 := S7.out.cl 0 2 rfl rfl
                have f0 := S7.out.f 0 0 rfl
                have f1 := S7.out.f 0 1 rfl
                have f2 := S7.out.f 0 2 rfl
                go_simp
                have S8 : Hid (St w4 (((w7.setCell ⟨db, 0, none⟩ (.bool (ng qs.num))).setCell ⟨db, 1, none⟩ (.slice A5 m5 c5)).setCell ⟨db, 2, none⟩ (.slice D5 m6 c6)) [(db, (⟨ng qs.num, ⟨A5, m5, c5, limbs qs.num.natAbs⟩, ⟨D5, m6, c6, dn qs⟩⟩ : Rw).vs, 44), (cb, yc.vs, 44), (bb, yb.vs, 44), (ab, ya.vs, 44)] ((A5, m5, c5, limbs qs.num.natAbs) :: (D5, m6, c6, dn qs) :: (A3, m3, c3, limbs qm.num.natAbs) :: (D3, m4, c4, dn qm) :: rt)) := Lib.hid (St_put3 (p := 0) (y0 := yd) S7.out rfl (⟨ng qs.num, ⟨A5, m5, c5, limbs qs.num.natAbs⟩, ⟨D5, m6, c6, dn qs⟩⟩ : Rw))
                have hS8 := S8.out.bel
                refine hK.out _ _ hS8 ?_
                clear hK K' l0 l1 l2 f0 f1 f2 S7 hS7 hS8
                refine Wk.done (by kernel_rfl) ?_
                have hrt5 : Hid (∀ p ∈ rs, p ∈ ((A5, m5, c5, limbs qs.num.natAbs) :: (D5, m6, c6, dn qs) :: (A3, m3, c3, limbs qm.num.natAbs) :: (D3, m4, c4, dn qm) :: rt)) := Lib.hid fun p hp => List.mem_cons_of_mem _ (List.mem_cons_of_mem _ (List.mem_cons_of_mem _ (List.mem_cons_of_mem _ (hrt.out p hp))))
                have hi5 : Hid (rwI ((A5, m5, c5, limbs qs.num.natAbs) :: (D5, m6, c6, dn qs) :: (A3, m3, c3, limbs qm.num.natAbs) :: (D3, m4, c4, dn qm) :: rt) (⟨ng qs.num, ⟨A5, m5, c5, limbs qs.num.natAbs⟩, ⟨D5, m6, c6, dn qs⟩⟩ : Rw)) := Lib.hid ⟨List.mem_cons_self, List.mem_cons_of_mem _ List.mem_cons_self⟩
                clear hrt hzk hbase S hAdd hMul e0 e3 y0 y1 y2 x0 x1 x2 Sb
                have b1 : (n : Int) ≤ 32 := by have := n1.out; omega
                have b2 := hih.out
                go_simp
                go_wp2
                go_roundw
                case rel => exact ⟨i + 1, _, _, by omega, by go_num, S8.out, hrt5.out, hi5.out, vs2.out⟩
                case measure => simp [intOf]; omega
            · obtain rfl : n = i := by omega
              rw [psum_two n j k hkh.out n, if_neg (by have := hkh.out; have := hjh.out; omega)] at vd
              have l0 : wr.cell? ⟨db, 0, none⟩ = some (.bool yd.b) := S.cl 0 0 rfl rfl
              have l1 : wr.cell? ⟨db, 1, none⟩ = some (.slice yd.x.A yd.x.n yd.x.c) := S.cl 0 1 rfl rfl
              have l2 : wr.cell? ⟨db, 2, none⟩ = some (.slice yd.y.A yd.y.n yd.y.c) := S.cl 0 2 rfl rfl
              have hs := Lib.hid (hSg.out yd wr _ rt vd hd S)
              have S5 : Hid (St w4 wr [(cb, yc.vs, 44), (bb, yb.vs, 44), (ab, ya.vs, 44)] rs) := Lib.hid ⟨S.bel, fun p hp => S.bk p (List.mem_cons_of_mem _ hp), (List.pairwise_cons.1 S.nd).2, fun r hr => S.rd r (hrt.out r hr)⟩
              have b1 : (n : Int) ≤ 32 := by have := n1.out; omega
              have b3 := hj40.out
              have b2 := hkh.out
              clear S hrt hd vd hlt hin
              go_wp2_with fail
              refine hs.out.mono ?_
              rintro e w6 ⟨rfl, bb6⟩
              have S6 := Lib.hid (S5.out.call bb6)
              clear S5 bb6 hs l0 l1 l2
              go_wp2
              go_roundw
              case rel => exact ⟨k + 1, by omega, by go_num, S6.out⟩
              case measure => simp [intOf]; omega
        · obtain rfl : j = k := by omega
          clear hlk hkj
          go_wp2_with fail
          refine (awake_any _).mono ?_
          rintro e w6 ⟨rfl, bb6⟩
          have S6 := S.call bb6
          have a0 : w6.cell? ⟨ab, 0, none⟩ = some (.bool ya.b) := S6.cl 2 0 rfl rfl
          have a1 : w6.cell? ⟨ab, 1, none⟩ = some (.slice ya.x.A ya.x.n ya.x.c) := S6.cl 2 1 rfl rfl
          have a2 : w6.cell? ⟨ab, 2, none⟩ = some (.slice ya.y.A ya.y.n ya.y.c) := S6.cl 2 2 rfl rfl
          have hs := Lib.hid (hSg.out ya w6 _ rs va.out ha.out S6)
          replace S6 := Lib.hid S6
          clear S bb6
          go_wp2_with fail
          refine hs.out.mono ?_
          rintro e w7 ⟨rfl, bb7⟩
          have S7 := S6.out.call bb7
          clear a0 a1 a2 hs S6
          have a0 : w7.cell? ⟨bb, 0, none⟩ = some (.bool yb.b) := S7.cl 1 0 rfl rfl
          have a1 : w7.cell? ⟨bb, 1, none⟩ = some (.slice yb.x.A yb.x.n yb.x.c) := S7.cl 1 1 rfl rfl
          have a2 : w7.cell? ⟨bb, 2, none⟩ = some (.slice yb.y.A yb.y.n yb.y.c) := S7.cl 1 2 rfl rfl
          have hs := Lib.hid (hSg.out yb w7 _ rs vb.out hb.out S7)
          replace S7 := Lib.hid S7
          clear bb7
          go_wp2_with fail
          refine hs.out.mono ?_
          rintro e w8 ⟨rfl, bb8⟩
          have S8 := Lib.hid (B3.out.trans ((S7.out.call bb8).bel.mono B3.out.size))
          clear a0 a1 a2 hs S7 bb8
          go_wp2
          go_ret
          exact ⟨rfl, S8.out⟩
end Go.Proofs.YtlflaalefilplaaDoor
