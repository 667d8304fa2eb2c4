/- The contract of divideStep: one digit of Knuth's division. -/
import Derived.Test.YtkdeajocogdmgaaDoorWn
import Derived.Deep.RegionHeld3
namespace Go.Proofs.YtkdeajocogdmgaaDoor
open Go.RowKit

theorem quiet_add {P : Program} {f : FuncId} {args : Array Value} {w : World} {a n : Nat} {v : Value}
    (h : Calls P f args (w.drewN (a + n)) fun e w' => e = .returned v ∧ ∃ m, w' = (w.drewN (a + n)).drewN m) :
    Calls P f args (w.drewN (a + n)) fun e w'' => e = .returned v ∧ ∃ m, w'' = w.drewN (a + m) :=
  h.mono fun _ _ ⟨he, m, hm⟩ => ⟨he, n + m, by rw [hm, World.drewN_drewN, Nat.add_assoc]⟩

theorem guess_q (a2 a1 a0 b1 b0 : Nat) (w : World) (h2 : a2 < 4294967296) (h1 : a1 < 4294967296) (h0 : a0 < 4294967296) (hb1 : 2147483648 ≤ b1) (hb1' : b1 < 4294967296) (hb0 : b0 < 4294967296)
    (hT : a2 * 4294967296 + a1 ≤ b1 * 4294967296 + b0) :
    Calls Tryd.prog 117 #[.int .u32 a2, .int .u32 a1, .int .u32 a0, .int .u32 b1, .int .u32 b0] w fun e w' => e = .returned (.int .u32 (gq (a2 * 4294967296 + a1) a0 b1 b0 : Nat)) ∧ ∃ m, w' = w.drewN m := by
  refine (guess_any a2 a1 a0 b1 b0 w h2 h1 h0 hb1 hb1' hb0 hT).mono ?_
  rintro e w' ⟨g, ⟨he, hg⟩, hm⟩
  rw [← gq_of (by omega) hg]
  exact ⟨he, hm⟩

theorem keep_cell {w : World} {g i a : Nat} {zs zs' : List Nat} (O1 : Own w g zs') (l1 : zs'.length = zs.length) (d1 : zs'.drop i = zs.drop i) (h2 : zs.getD i 0 = a) (hi : i < zs.length) :
    w.cell? ⟨g, i, none⟩ = some (.int .u32 (a : Int)) := by
  rw [O1.cell (by omega)]
  have e1 := drop_get (X := zs') (j := i) (by omega)
  have e2 := drop_get (X := zs) (j := i) hi
  rw [d1, e2] at e1
  injection e1 with e1 _
  rw [← e1, h2]

theorem grown_trans2 {a b c : World} {g : Nat} (h : a.grownBy b (some g)) (k : b.grownBy c (some g)) : a.grownBy c (some g) :=
  ⟨k.os.trans h.os, k.tape.trans h.tape, k.output.trans h.output, Nat.le_trans h.size k.size, fun i hi hne => (k.block i (Nat.lt_of_lt_of_le hi h.size) hne).trans (h.block i hi hne)⟩

/-- What a step of the division leaves. -/
def RetStep (g o m D : Nat) (zs : List Nat) (w : World) (e : Ending) (w' : World) : Prop :=
  ∃ zs', e = .returned (.int .u32 (win zs o (m + 1) / D : Nat)) ∧ Own w' g zs' ∧ zs'.length = zs.length ∧ zs'.take o = zs.take o ∧ win zs' o m = win zs o (m + 1) % D ∧ w.grownBy w' (some g)

set_option maxRecDepth 100000 in
set_option maxHeartbeats 4000000 in
theorem divStep_any (g o p cs : Nat) (zs : List Nat) (A : Option Addr) (cb : Nat) (ys : List Nat) (w : World)
    (hO : Own w g zs) (hom : o + (p + 2) + 1 ≤ zs.length) (hcs : p + 2 ≤ cs) (hR : RdX w g A (p + 2) cb ys) (hn : 2147483648 ≤ ys.getD (p + 1) 0) (hp : p ≤ 10000)
    (hvy : vldB ys = true) (hW : win zs o (p + 2 + 1) < val ys * 4294967296) :
    Calls Tryd.prog 103 #[.slice (some ⟨g, o, none⟩) (p + 2 + 1) cs, .slice A (p + 2) cb] w (RetStep g o (p + 2) (val ys) zs w) := by
  obtain ⟨bb, ob, b1, rfl, hbb, hb1, hb1e, hcb1⟩ := hR.at_ (k := p + 1) (by omega)
  obtain ⟨bb', ob', b0, hbe, hbb', hb0, hb0e, hcb0⟩ := hR.at_ (k := p) (by omega)
  injection hbe with hbe
  injection hbe with hbe1 hbe2
  subst hbe1
  subst hbe2
  rw [hb1e] at hn
  have c2 := hO.cell (k := o + (p + 2)) (by omega)
  have c1 := hO.cell (k := o + (p + 1)) (by omega)
  have c0 := hO.cell (k := o + p) (by omega)
  obtain ⟨a2, h2⟩ : ∃ a2, zs.getD (o + (p + 2)) 0 = a2 := ⟨_, rfl⟩
  obtain ⟨a1, h1⟩ : ∃ a1, zs.getD (o + (p + 1)) 0 = a1 := ⟨_, rfl⟩
  obtain ⟨a0, h0⟩ : ∃ a0, zs.getD (o + p) 0 = a0 := ⟨_, rfl⟩
  have ha2 : a2 < 4294967296 := by rw [← h2]; exact sm_get hO.sm _
  have ha1 : a1 < 4294967296 := by rw [← h1]; exact sm_get hO.sm _
  have ha0 : a0 < 4294967296 := by rw [← h0]; exact sm_get hO.sm _
  obtain ⟨hT, hgq⟩ := window_guess hO.sm hR.sm hom hR.len h2 h1 h0 hb1e hb0e hn hW
  have hguess := fun W => guess_q a2 a1 a0 b1 b0 W ha2 ha1 ha0 hn hb1 hb0 hT
  have hg1 := (gq_ok (a2 * 4294967296 + a1) a0 b1 b0 (by omega)).1
  generalize gq (a2 * 4294967296 + a1) a0 b1 b0 = gu at hguess hgq hg1
  rw [h2] at c2
  rw [h1] at c1
  rw [h0] at c0
  replace hguess := Lib.hid hguess
  replace hgq := Lib.hid hgq
  replace h2 := Lib.hid h2
  clear h1 h0 hb1e hb0e hT hW
  replace hO := Lib.hid hO
  replace hR := Lib.hid hR
  have g0 : (0 : Int) ≤ (p : Int) := by omega
  go_enter Tryd.func103, Tryd.ntmps103
  go_wp2
  go_quiet ((go_at_call 117; exact Calls.quiet_of (hguess.out _)))
  have hguB : gu < 4294967296 := by omega
  have hsub := fun W (hW : Own W g zs) (hR' : RdX W g (some ⟨bb, ob, none⟩) (p + 2) cb ys) => subProduct_any g o (p + 2) cs zs (some ⟨bb, ob, none⟩) cb ys gu W hW (by omega) hR' hguB (by omega)
  replace hsub := Lib.hid hsub
  have g3 : (p : Int) + 2 < (p : Int) + 2 + 1 := by omega
  go_upto_region 3 with fail
  go_cut [45] (fun b wx => ∃ (cy : Nat) (zs' : List Nat), b = .bool (decide ((cy : Int) ≤ (a2 : Int))) ∧ cy < 4294967296 ∧ Own wx g zs' ∧ zs'.length = zs.length ∧ zs'.take o = zs.take o ∧ zs'.drop (o + (p + 2)) = zs.drop (o + (p + 2)) ∧
    val zs' + 4294967296 ^ o * (gu * val ys) = val zs + 4294967296 ^ (o + (p + 2)) * cy ∧ w.grownBy wx (some g))
  case first =>
    have q2 : (0 : Int) ≤ (p : Int) + 2 := by omega
    have q4 : (p : Int) + 2 ≤ (cs : Int) := by omega
    have hoi : o + (p + 2) < zs.length := by omega
    have q1 : ((p : Int) + 2).toNat = p + 2 := by omega
    go_region_held3 (fun w' => w'.cell? ⟨g, o + (p + 2), none⟩ = some (.int .u32 (a2 : Int))) (first | exact c2 | exact keep_cell O1 l1 d1 h2.out hoi)
      (first | (go_at_call 118; refine (hsub.out _ (by exact ⟨hO.out.heap, hO.out.sm⟩) (by exact ⟨hR.out.len, hR.out.cap, hR.out.sm, hR.out.mem⟩)).mono ?_; rintro e w' ⟨cy, zs', rfl, hcy, O1, l1, t1, d1, v1, gr1⟩))
    go_wp2_with fail
    go_meet
    case rel => exact ⟨cy, zs', by rw [IntKind.wrap_u64, Int.emod_eq_of_lt (by omega) (by omega)], hcy, O1, l1, t1, d1, v1, ⟨gr1.os, gr1.tape, gr1.output, gr1.size, gr1.block⟩⟩
  case rest =>
    obtain ⟨cy, zs', rfl, hcy, O1, l1, t1, d1, v1, gr1⟩ := hcut
    have hwin := win_eq (by omega) l1 t1 d1 v1
    have hWe : win zs o (p + 2 + 1) = win zs o (p + 2) + 4294967296 ^ (p + 2) * a2 := by rw [win_succ, h2.out]
    have hD0 : 0 < val ys := by
      have := val_ge (xs := ys) hvy (by rw [hR.out.len]; omega)
      have := Nat.pow_pos (n := ys.length - 1) (show 0 < 4294967296 by omega)
      omega
    have hDl : val ys ≤ 4294967296 ^ (p + 2) := by have := val_lt hR.out.sm; rw [hR.out.len] at this; omega
    have hM := win_lt (zs := zs') o (p + 2) O1.sm (by omega)
    rcases hgq.out with hq | hq
    · rw [hq] at hwin
      obtain ⟨hc, hr⟩ := step_right hWe hD0 hDl hM hwin
      have ht : cy ≤ a2 := by omega
      replace hr := Lib.hid hr
      replace hq := Lib.hid hq
      replace hc := Lib.hid hc
      replace O1 := Lib.hid O1
      replace gr1 := Lib.hid gr1
      replace t1 := Lib.hid t1
      replace l1 := Lib.hid l1
      clear hwin hWe hM d1 v1
      go_wp2
      go_ret
      exact ⟨zs', ret_u32 (by rw [hq.out]), O1.out, l1.out, t1.out, hr.out, gr1.out⟩
    · rw [hq] at hwin
      obtain ⟨hc, hr⟩ := step_over (M2 := 0) (cy2 := 0) hWe hD0 hDl hM (Nat.pow_pos (by omega)) hwin
      have ht : decide (cy ≤ a2) = false := by simp; omega
      have hgu1 : (1 : Int) ≤ (gu : Int) := by have h : 1 ≤ gu := by { rw [hq]; exact Nat.succ_le_succ (Nat.zero_le _) }; clear hq hWe hwin hM hD0 hDl hr; omega
      have hadd : Calls Tryd.prog 98 #[.slice (some ⟨g, o, none⟩) (p + 2) cs, .slice (some ⟨bb, ob, none⟩) (p + 2) cb, .int .u32 1] wc (RetAddP g o (p + 2) 1 zs' ys wc) :=
        addProduct_any g o (p + 2) cs zs' (some ⟨bb, ob, none⟩) cb ys 1 wc O1 (by omega) (hR.out.grown gr1) (by omega) (by omega)
      have hfin : ∀ zs2 : List Nat, ∀ cy2 : Nat, Sm zs2 → zs2.length = zs'.length → zs2.take o = zs'.take o → zs2.drop (o + (p + 2)) = zs'.drop (o + (p + 2)) → val zs2 + 4294967296 ^ (o + (p + 2)) * cy2 = val zs' + 4294967296 ^ o * (1 * val ys) → win zs2 o (p + 2) = win zs o (p + 2 + 1) % val ys := by
        intro zs2 cy2 s2 l2 t2 d2 v2
        have hw2 := win_eq (zs := zs2) (zs' := zs') (o := o) (m := p + 2) (a := 1 * val ys) (c := cy2) (by omega) l2.symm t2.symm d2.symm v2.symm
        have hM2 := win_lt (zs := zs2) o (p + 2) s2 (by omega)
        exact (step_over hWe hD0 hDl hM hM2 hwin).2 hw2.symm
      replace hfin := Lib.hid hfin
      replace hadd := Lib.hid hadd
      replace hq := Lib.hid hq
      replace O1 := Lib.hid O1
      replace gr1 := Lib.hid gr1
      replace t1 := Lib.hid t1
      replace l1 := Lib.hid l1
      clear hwin hWe hM d1 v1 hr
      go_wp2_with fail
      refine (hadd.out).mono ?_
      rintro e w2 ⟨cy2, zs2, rfl, hcy2, O2, l2, t2, d2, v2, gr2⟩
      have hr := Lib.hid (hfin.out zs2 cy2 O2.sm l2 t2 d2 v2)
      replace O2 := Lib.hid O2
      replace gr2 := Lib.hid gr2
      replace t2 := Lib.hid t2
      replace l2 := Lib.hid l2
      clear d2 v2
      go_wp2
      go_ret
      exact ⟨zs2, ret_u32 (by rw [hq.out, Int.natCast_add]; exact Int.add_sub_cancel _ _), O2.out, l2.out.trans l1.out, t2.out.trans t1.out, hr.out, grown_trans2 gr1.out gr2.out⟩

end Go.Proofs.YtkdeajocogdmgaaDoor
