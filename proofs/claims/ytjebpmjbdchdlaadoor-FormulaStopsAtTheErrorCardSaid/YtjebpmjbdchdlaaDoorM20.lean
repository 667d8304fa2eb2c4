/- The reference's Parse. -/
import Derived.Test.YtjebpmjbdchdlaaDoorM19
import Derived.Test.YtjebpmjbdchdlaaDoorM10
namespace Go.Proofs.YtjebpmjbdchdlaaDoor
open Go.RowKit
set_option linter.unusedVariables false

theorem res_rp (W : World) (tmps : Array Value) (g : Nat) {v0 v1 a b : Value} (h2 : tmps.getD 2 undef = .pointer (some ⟨g, 0, none⟩)) (h3 : tmps.getD 3 undef = a) (h4 : tmps.getD 4 undef = b) (h : Cb W g #[v0, v1] 25) :
    (results Tryd.f6 tmps).run Tryd.prog W = .ok (.tuple #[.agg #[v0, v1], a, b]) W := by
  have c0 : W.cell? ⟨g, 0, none⟩ = some v0 := h.cell rfl
  have c1 : W.cell? ⟨g, 1, none⟩ = some v1 := h.cell rfl
  have h2' : tmps[2]?.getD undef = .pointer (some ⟨g, 0, none⟩) := by rw [← h2]; simp [Array.getD_eq_getD_getElem?]
  have h3' : tmps[3]?.getD undef = a := by rw [← h3]; simp [Array.getD_eq_getD_getElem?]
  have h4' : tmps[4]?.getD undef = b := by rw [← h4]; simp [Array.getD_eq_getD_getElem?]
  simp [results, Tryd.results6, go_sem, h2', h3', h4', c0, c1]
theorem parE {l : F9.Bs} (h : ¬ 65536 < l.length) {x : F9.Er} (hx : rdT l = .error x) : parV l = ((x.1 : Int), l.length - x.2.length, ⟨#[]⟩, []) := by
  unfold parV; rw [if_neg h, hx]
theorem parO {l : F9.Bs} (h : ¬ 65536 < l.length) {n : F9.Bs} {tr : F9.Tr} (hx : rdT l = .ok (n, tr)) (h64 : ¬ 64 < tr.pre.length) : parV l = (0, 0, ⟨n.toArray⟩, tr.pre.map toNd) := by
  unfold parV; rw [if_neg h, hx]; simp only; rw [if_neg h64]
theorem parO2 {l : F9.Bs} (h : ¬ 65536 < l.length) {n : F9.Bs} {tr : F9.Tr} (hx : rdT l = .ok (n, tr)) (h64 : 64 < tr.pre.length) : parV l = (2, 0, ⟨#[]⟩, []) := by
  unfold parV; rw [if_neg h, hx]; simp only; rw [if_pos h64]
section
variable {w0 W W' : World} {rb : Nat} {t : ByteArray} {r : F9.Bs} {bs ob ob2 : List GBk} {er : Int} {pl k : Nat}
theorem RA.setb {g ty : Nat} {cs : Array Value} (h : RA w0 W rb t r ((g, cs, ty) :: bs)) (i : Nat) (v : Value) (hv : ∀ z, v ≠ .int .u32 z) : RA w0 (W.setCell ⟨g, i, none⟩ v) rb t r ((g, cs.setIfInBounds i v, ty) :: bs) := by
  obtain ⟨p, h1, h2, S⟩ := h
  exact ⟨p, h1, h2, S.set 1 i v rfl hv⟩
theorem RD.setb {g ty : Nat} {cs : Array Value} (h : RD w0 W rb t er pl k ((g, cs, ty) :: bs)) (i : Nat) (v : Value) (hv : ∀ z, v ≠ .int .u32 z) : RD w0 (W.setCell ⟨g, i, none⟩ v) rb t er pl k ((g, cs.setIfInBounds i v, ty) :: bs) := by
  obtain ⟨he, p, h1, S⟩ := h
  exact ⟨he, p, h1, S.set 1 i v rfl hv⟩
theorem RA.cb {g ty : Nat} {cs : Array Value} (h : RA w0 W rb t r ((g, cs, ty) :: bs)) : Cb W g cs ty := by
  obtain ⟨p, h1, h2, S⟩ := h
  exact S.cb 1 rfl
theorem RD.cb {g ty : Nat} {cs : Array Value} (h : RD w0 W rb t er pl k ((g, cs, ty) :: bs)) : Cb W g cs ty := by
  obtain ⟨he, p, h1, S⟩ := h
  exact S.cb 1 rfl
theorem RP.fail {p : Nat} (h : RP w0 W rb t r p bs) : Calls Tryd.prog 15 #[.pointer (some ⟨rb, 0, none⟩), .int .i64 3] W fun e w' => e = .returned (.tuple #[]) ∧ RD w0 w' rb t 3 (t.size - r.length) 0 bs := by
  obtain ⟨h1, h2, h3, S⟩ := h
  have hl := (drop_len2 h2 h1).1
  refine (fail_any t p 0 0 rb bs [] w0 W S 3).mono ?_
  rintro e w' ⟨rfl, S'⟩
  rw [if_pos rfl, if_pos rfl] at S'
  exact ⟨rfl, by decide, p, by omega, hl ▸ S'⟩
theorem RP.setb {p g ty : Nat} {cs : Array Value} (h : RP w0 W rb t r p ((g, cs, ty) :: bs)) (i : Nat) (v : Value) (hv : ∀ z, v ≠ .int .u32 z) : RP w0 (W.setCell ⟨g, i, none⟩ v) rb t r p ((g, cs.setIfInBounds i v, ty) :: bs) := ⟨h.1, h.2.1, h.2.2.1, h.2.2.2.set 1 i v rfl hv⟩
theorem RA.more (h : RA w0 W rb t r bs) (cs : Array Value) (ty : Nat) (hn : NoL cs) : RA w0 (W.alloc (.cells cs ty)) rb t r ((W.heap.size, cs, ty) :: bs) := by
  obtain ⟨p, h1, h2, S⟩ := h
  exact ⟨p, h1, h2, (S.alloc cs ty hn).swap⟩
theorem RD.more (h : RD w0 W rb t er pl k bs) (cs : Array Value) (ty : Nat) (hn : NoL cs) : RD w0 (W.alloc (.cells cs ty)) rb t er pl k ((W.heap.size, cs, ty) :: bs) := by
  obtain ⟨he, p, h1, S⟩ := h
  exact ⟨he, p, h1, (S.alloc cs ty hn).swap⟩
end
set_option maxRecDepth 100000 in
set_option maxHeartbeats 4000000 in
theorem rparse_any (t : ByteArray) (w : World) (ht : t.size ≤ 1000000) : Calls Tryd.prog 6 #[.string t] w fun e w' => ParR t w e w' := by
  have hlen : t.data.toList.length = t.size := toList_len t
  by_cases hb : 65536 < t.size
  · have g1 : (65536 : Int) < (t.size : Int) := by omega
    have hp : Hid (parV t.data.toList = (2, 0, ⟨#[]⟩, [])) := Lib.hid (by unfold parV; rw [hlen, if_pos hb])
    have S0 := Lib.hid ((St.new w).alloc #[.string ⟨#[]⟩, .slice none 0 0] 25 (noLof rfl))
    clear hlen hb
    go_enter Tryd.func6, Tryd.ntmps6
    go_wp2
    exact bodyPost_ret (res_rp _ _ w.heap.size (v0 := .string ⟨#[]⟩) (v1 := .slice none 0 0) (a := .int .i64 0) (b := .int .i64 2) rfl rfl rfl (S0.out.cb 0 rfl)) rfl ⟨⟨#[]⟩, ⟨none, 0, []⟩, 0, 2, rfl, hp.out, Nat.le_refl _, LR.nil_ _ _ _, S0.out.bel⟩
  · have g1 : ¬ (65536 : Int) < (t.size : Int) := by omega
    have hspec := Lib.hid (show ¬ 65536 < t.data.toList.length by rw [hlen]; exact hb)
    have ht2 : t.size ≤ 100000 := by omega
    clear ht
    have ht := Lib.hid ht2
    clear ht2
    have S1 := ((St.new w).alloc #[.string ⟨#[]⟩, .slice none 0 0] 25 (noLof rfl))
    have S2 := S1.allocAt (w.heap.size + 1) (r9C t 0 0 0) 40 (noLof rfl) (by simp)
    obtain ⟨fb, hfb⟩ : ∃ b, b = w.heap.size := ⟨_, rfl⟩
    obtain ⟨rb, hrb⟩ : ∃ b, b = w.heap.size + 1 := ⟨_, rfl⟩
    rw [← hrb, ← hfb] at S2
    have R0 : Hid (RA w _ rb t (F9.trm t.data.toList) [(fb, #[.string ⟨#[]⟩, .slice none 0 0], 25)]) := Lib.hid ⟨0, Nat.zero_le _, by rw [List.drop_zero], S2⟩
    clear S1 S2 hb
    obtain ⟨r0, hr0⟩ : ∃ r0, r0 = F9.trm t.data.toList := ⟨_, rfl⟩
    rw [← hr0] at R0
    cases h1 : nameL (F9.fw r0) with
    | false =>
      have hsp : Hid (parV t.data.toList = (3, t.size - r0.length, ⟨#[]⟩, [])) := Lib.hid (by
        rw [parE hspec.out (show rdT t.data.toList = .error (3, r0) by unfold rdT; rw [← hr0, if_neg (by rw [h1]; simp)]), hlen]
        rfl)
      obtain ⟨pl, hpl0⟩ : ∃ pl, pl = t.size - r0.length := ⟨_, rfl⟩
      rw [← hpl0] at hsp
      replace h1 := Lib.hid h1
      clear hspec hlen hr0
      replace hpl0 := Lib.hid hpl0
      go_enter Tryd.func6, Tryd.ntmps6
      go_upto_region 4 with fail
      rw [← hrb, ← hfb]
      clear hrb hfb
      go_wp2_with fail
      refine (R0.out.nameN ht.out h1.out).mono ?_
      rw [← hpl0.out]
      rintro e w3 ⟨rfl, R3⟩
      have R4 := Lib.hid (R3.more #[.string ⟨#[]⟩, .slice none 0 0] 25 (noLof rfl))
      clear R0 h1 R3
      obtain ⟨ec, hec⟩ : ∃ ec : Int, ec = 3 := ⟨_, rfl⟩
      rw [← hec] at hsp R4
      clear hec
      go_wp2_with fail
      refine (R4.out.want (c := 126) (by omega) ht.out ⟨rfl, rfl, by decide⟩).mono ?_
      rintro e w5 ⟨rfl, R5⟩
      replace R5 := Lib.hid R5
      clear R4
      have hB0 := Lib.hid (RD.binary ht.out (j := 1) (by decide) (by decide) (R5.out.mono (Nat.zero_le 1)))
      clear R5
      go_wp2_with fail
      refine hB0.out.mono ?_
      rintro e w6 ⟨l, ob, rfl, hl, hO, R6⟩
      have hv : l.v = .slice l.A l.L.length l.c := rfl
      rw [hv]
      have fb1 := R6.cb.frozen 1
      have cb1 := R6.cb.cell (i := 1) rfl
      have lb1 := R6.cb.lt
      have RS1 := Lib.hid (R6.setb 1 (.slice l.A l.L.length l.c) (fun _ => by simp))
      clear hv hl hO R6 hB0
      go_wp2_with fail
      refine (RS1.out.sign (by omega) ht.out).mono ?_
      rintro e w7 ⟨rfl, R7⟩
      obtain ⟨he, p, hp, S⟩ := R7
      have c_1 := S.cl 0 1 rfl rfl
      have lrb := S.lt 0 rfl
      have R7 := Lib.hid (show RD w w7 rb t ec pl 1 _ from ⟨he, p, hp, S⟩)
      clear fb1 cb1 lb1 RS1 S he
      by_cases hpl : p < t.size
      · have g1 : (p : Int) < (t.size : Int) := by omega
        clear hpl hp
        go_wp2_with fail
        refine (R7.out.fail (by omega) ht.out 3).mono ?_
        rintro e w8 ⟨rfl, R8⟩
        clear R7 c_1 lrb
        have RR := Lib.hid R8
        clear R8
        obtain ⟨he, p2, hp2, S⟩ := RR.out
        have c_2 := S.cl 0 2 rfl rfl
        have c_3 := S.cl 0 3 rfl rfl
        have lrb := S.lt 0 rfl
        have f_0 := S.f 2 0 rfl
        have f_1 := S.f 2 1 rfl
        have b_0 := S.cl 2 0 rfl rfl
        have b_1 := S.cl 2 1 rfl rfl
        have bl := S.lt 2 rfl
        have S4 := Lib.hid ((S.set 2 0 (.string ⟨#[]⟩) rfl (fun _ => by simp)).set 2 1 (.slice none 0 0) rfl (fun _ => by simp))
        have he1 : (ec == 0) = false := by rw [beq_eq_false_iff_ne]; exact he
        clear S RR hp2 he
        go_upto_region 10 with fail
        go_region
        go_wp2
        exact bodyPost_ret (res_rp _ _ fb (v0 := .string ⟨#[]⟩) (v1 := .slice none 0 0) (a := .int .i64 pl) (b := .int .i64 ec) rfl rfl rfl (S4.out.drew.cb 2 rfl)) rfl ⟨⟨#[]⟩, ⟨none, 0, []⟩, pl, ec, rfl, hsp.out, Nat.le_refl _, LR.nil_ _ _ _, S4.out.bel.drew⟩
      · have g1 : ¬ (p : Int) < (t.size : Int) := by omega
        have RR := Lib.hid R7.out
        clear hpl hp R7 lrb
        obtain ⟨he, p2, hp2, S⟩ := RR.out
        have c_2 := S.cl 0 2 rfl rfl
        have c_3 := S.cl 0 3 rfl rfl
        have lrb := S.lt 0 rfl
        have f_0 := S.f 2 0 rfl
        have f_1 := S.f 2 1 rfl
        have b_0 := S.cl 2 0 rfl rfl
        have b_1 := S.cl 2 1 rfl rfl
        have bl := S.lt 2 rfl
        have S4 := Lib.hid ((S.set 2 0 (.string ⟨#[]⟩) rfl (fun _ => by simp)).set 2 1 (.slice none 0 0) rfl (fun _ => by simp))
        have he1 : (ec == 0) = false := by rw [beq_eq_false_iff_ne]; exact he
        clear S RR hp2 he
        go_upto_region 10 with fail
        go_region
        go_wp2
        exact bodyPost_ret (res_rp _ _ fb (v0 := .string ⟨#[]⟩) (v1 := .slice none 0 0) (a := .int .i64 pl) (b := .int .i64 ec) rfl rfl rfl (S4.out.drew.cb 2 rfl)) rfl ⟨⟨#[]⟩, ⟨none, 0, []⟩, pl, ec, rfl, hsp.out, Nat.le_refl _, LR.nil_ _ _ _, S4.out.bel.drew⟩
    | true =>
      obtain ⟨ns, hns⟩ : ∃ s : ByteArray, s = ⟨(F9.fw r0).toArray⟩ := ⟨_, rfl⟩
      by_cases h2 : F9.fw (F9.nx r0) = [126]
      · obtain ⟨r2, hr2⟩ : ∃ r2, r2 = F9.nx (F9.nx r0) := ⟨_, rfl⟩
        have hB := Lib.hid (fun bs V (hV : RA w V rb t r2 bs) => bin_all w rb t ht.out (6 * r2.length + 5) 1 r2 bs V (by decide) (by decide) (Nat.le_refl _) hV)
        have hrd : ∀ Y, F9.rdR (6 * r2.length + 5) r2 = Y → rdT t.data.toList = match Y with | .error x => .error x | .ok tr => .ok (F9.fw r0, tr) := fun Y hY => by
          unfold rdT
          rw [← hr0, if_pos h1, if_pos h2, ← hr2, hY]
          cases Y <;> rfl
        have hru : ∀ Y, F9.run (6 * r2.length + 5) (.bin 1) r2 = Y → F9.rdR (6 * r2.length + 5) r2 = match Y with | .error x => .error x | .ok (tr, r1) => if F9.fw r1 = [] then .ok tr else .error (3, r1) := fun Y hY => by
          unfold F9.rdR
          rw [hY]
          cases Y <;> rfl
        cases hq : F9.run (6 * r2.length + 5) (.bin 1) r2 with
        | error x =>
          have hx := hrd _ (hru _ hq)
          have hsp := Lib.hid (parE hspec.out hx)
          rw [hlen] at hsp
          rw [hq] at hB
          obtain ⟨pl, hpl0⟩ : ∃ pl, pl = t.size - x.2.length := ⟨_, rfl⟩
          obtain ⟨ec, hec⟩ : ∃ ec : Int, ec = (x.1 : Int) := ⟨_, rfl⟩
          rw [← hpl0, ← hec] at hsp
          have hBe : Hid (∀ bs V, RA w V rb t r2 bs → Calls Tryd.prog 13 #[.pointer (some ⟨rb, 0, none⟩), .int .i64 1] V fun e w' => RBad w w' rb t e bs (r2.length + 1) ec pl) := Lib.hid fun bs V hV => by rw [hec, hpl0]; exact hB.out bs V hV
          replace h1 := Lib.hid h1
          replace h2 := Lib.hid h2
          replace hr2 := Lib.hid hr2
          replace hns := Lib.hid hns
          clear hspec hlen hr0 hrd hru hq hx hB hpl0 hec
          go_enter Tryd.func6, Tryd.ntmps6
          go_upto_region 4 with fail
          rw [← hrb, ← hfb]
          clear hrb hfb
          go_wp2_with fail
          refine (R0.out.nameY ht.out h1.out).mono ?_
          rw [← hns.out]
          rintro e w3 ⟨rfl, R3⟩
          have R4 := Lib.hid (R3.more #[.string ns, .slice none 0 0] 25 (noLof rfl))
          clear R0 h1 R3
          go_wp2_with fail
          refine (R4.out.wantY ht.out (c := 126) ⟨rfl, rfl, by decide⟩ h2.out).mono ?_
          rw [← hr2.out]
          rintro e w5 ⟨rfl, R5⟩
          replace R5 := Lib.hid R5
          clear R4 h2
          have hB0 := Lib.hid (hBe.out _ _ R5.out)
          clear R5 hBe
          go_wp2_with fail
          refine hB0.out.mono ?_
          rintro e w6 ⟨l, ob, rfl, hl, hO, R6⟩
          have hv : l.v = .slice l.A l.L.length l.c := rfl
          rw [hv]
          have fb1 := R6.cb.frozen 1
          have cb1 := R6.cb.cell (i := 1) rfl
          have lb1 := R6.cb.lt
          have RS1 := Lib.hid (R6.setb 1 (.slice l.A l.L.length l.c) (fun _ => by simp))
          clear hv hl hO R6 hB0
          go_wp2_with fail
          refine (RS1.out.sign (by omega) ht.out).mono ?_
          rintro e w7 ⟨rfl, R7⟩
          obtain ⟨he, p, hp, S⟩ := R7
          have c_1 := S.cl 0 1 rfl rfl
          have lrb := S.lt 0 rfl
          have R7 := Lib.hid (show RD w w7 rb t ec pl 1 _ from ⟨he, p, hp, S⟩)
          clear fb1 cb1 lb1 RS1 S he
          by_cases hpl : p < t.size
          · have g1 : (p : Int) < (t.size : Int) := by omega
            clear hpl hp
            go_wp2_with fail
            refine (R7.out.fail (by omega) ht.out 3).mono ?_
            rintro e w8 ⟨rfl, R8⟩
            clear R7 c_1 lrb
            have RR := Lib.hid R8
            clear R8
            obtain ⟨he, p2, hp2, S⟩ := RR.out
            have c_2 := S.cl 0 2 rfl rfl
            have c_3 := S.cl 0 3 rfl rfl
            have lrb := S.lt 0 rfl
            have f_0 := S.f 2 0 rfl
            have f_1 := S.f 2 1 rfl
            have b_0 := S.cl 2 0 rfl rfl
            have b_1 := S.cl 2 1 rfl rfl
            have bl := S.lt 2 rfl
            have S4 := Lib.hid ((S.set 2 0 (.string ⟨#[]⟩) rfl (fun _ => by simp)).set 2 1 (.slice none 0 0) rfl (fun _ => by simp))
            have he1 : (ec == 0) = false := by rw [beq_eq_false_iff_ne]; exact he
            clear S RR hp2 he
            go_upto_region 10 with fail
            go_region
            go_wp2
            exact bodyPost_ret (res_rp _ _ fb (v0 := .string ⟨#[]⟩) (v1 := .slice none 0 0) (a := .int .i64 pl) (b := .int .i64 ec) rfl rfl rfl (S4.out.drew.cb 2 rfl)) rfl ⟨⟨#[]⟩, ⟨none, 0, []⟩, pl, ec, rfl, hsp.out, Nat.le_refl _, LR.nil_ _ _ _, S4.out.bel.drew⟩
          · have g1 : ¬ (p : Int) < (t.size : Int) := by omega
            have RR := Lib.hid R7.out
            clear hpl hp R7 lrb
            obtain ⟨he, p2, hp2, S⟩ := RR.out
            have c_2 := S.cl 0 2 rfl rfl
            have c_3 := S.cl 0 3 rfl rfl
            have lrb := S.lt 0 rfl
            have f_0 := S.f 2 0 rfl
            have f_1 := S.f 2 1 rfl
            have b_0 := S.cl 2 0 rfl rfl
            have b_1 := S.cl 2 1 rfl rfl
            have bl := S.lt 2 rfl
            have S4 := Lib.hid ((S.set 2 0 (.string ⟨#[]⟩) rfl (fun _ => by simp)).set 2 1 (.slice none 0 0) rfl (fun _ => by simp))
            have he1 : (ec == 0) = false := by rw [beq_eq_false_iff_ne]; exact he
            clear S RR hp2 he
            go_upto_region 10 with fail
            go_region
            go_wp2
            exact bodyPost_ret (res_rp _ _ fb (v0 := .string ⟨#[]⟩) (v1 := .slice none 0 0) (a := .int .i64 pl) (b := .int .i64 ec) rfl rfl rfl (S4.out.drew.cb 2 rfl)) rfl ⟨⟨#[]⟩, ⟨none, 0, []⟩, pl, ec, rfl, hsp.out, Nat.le_refl _, LR.nil_ _ _ _, S4.out.bel.drew⟩
        | ok y =>
          obtain ⟨tr, r1⟩ := y
          have hx := hrd _ (hru _ hq)
          rw [hq] at hB
          replace h1 := Lib.hid h1
          replace h2 := Lib.hid h2
          replace hr2 := Lib.hid hr2
          replace hns := Lib.hid hns
          by_cases h3 : F9.fw r1 = []
          · simp only [if_pos h3] at hx
            have hr1 : r1 = [] := by
              cases r1 with
              | nil => rfl
              | cons c s => exact absurd (F9.fw_pos (r := c :: s) (by simp)) (by rw [h3]; simp)
            subst hr1
            have hxx := Lib.hid hx
            clear hr0 hrd hru hq hx h3 hlen
            go_enter Tryd.func6, Tryd.ntmps6
            go_upto_region 4 with fail
            rw [← hrb, ← hfb]
            clear hrb hfb
            go_wp2_with fail
            refine (R0.out.nameY ht.out h1.out).mono ?_
            rw [← hns.out]
            rintro e w3 ⟨rfl, R3⟩
            have R4 := Lib.hid (R3.more #[.string ns, .slice none 0 0] 25 (noLof rfl))
            clear R0 h1 R3
            go_wp2_with fail
            refine (R4.out.wantY ht.out (c := 126) ⟨rfl, rfl, by decide⟩ h2.out).mono ?_
            rw [← hr2.out]
            rintro e w5 ⟨rfl, R5⟩
            replace R5 := Lib.hid R5
            clear R4 h2
            have hB0 := Lib.hid (hB.out _ _ R5.out)
            clear R5 hB
            go_wp2_with fail
            refine hB0.out.mono ?_
            rintro e w6 ⟨⟨l, ob, rfl, hLL, hO, R6⟩, hbd⟩
            have hv : l.v = .slice l.A l.L.length l.c := rfl
            rw [hv]
            replace hLL := Lib.hid hLL
            have fb1 := R6.cb.frozen 1
            have cb1 := R6.cb.cell (i := 1) rfl
            have lb1 := R6.cb.lt
            have RS1 := Lib.hid (R6.setb 1 (.slice l.A l.L.length l.c) (fun _ => by simp))
            clear hv R6 hB0 hbd
            go_wp2_with fail
            refine (RS1.out.signP ht.out).mono ?_
            rintro e w7 ⟨rfl, p, R7⟩
            have c_1 := R7.2.2.2.cl 0 1 rfl rfl
            have lrb := R7.2.2.2.lt 0 rfl
            have hps := (drop_len2 R7.2.1 R7.1).2
            clear fb1 cb1 lb1 RS1
            have hz0 : hdN ([] : F9.Bs) = 0 := rfl
            rw [hz0]
            have hp2 : p = t.size := by simpa using hps
            have g2 : ¬ (p : Int) < (t.size : Int) := by omega
            have c_2 := R7.2.2.2.cl 0 2 rfl rfl
            have d_0 := R7.2.2.2.cl 1 0 rfl rfl
            have d_1 := R7.2.2.2.cl 1 1 rfl rfl
            have ld := R7.2.2.2.lt 1 rfl
            have f_0 := R7.2.2.2.f 2 0 rfl
            have f_1 := R7.2.2.2.f 2 1 rfl
            have b_0 := R7.2.2.2.cl 2 0 rfl rfl
            have b_1 := R7.2.2.2.cl 2 1 rfl rfl
            have bl := R7.2.2.2.lt 2 rfl
            have hlr := RA.lr (bs := [(w3.heap.size, #[.string ns, .slice l.A l.L.length l.c], 25), (fb, #[.string ⟨#[]⟩, .slice none 0 0], 25)]) (ob := ob) (by exact R7.ra) hO
            have hle : l.L.length = tr.pre.length := by rw [hLL.out, List.length_map]
            by_cases h64 : 64 < tr.pre.length
            · have hsp := Lib.hid (parO2 hspec.out hxx.out h64)
              have g3 : (64 : Int) < (l.L.length : Int) := by omega
              have S4 := Lib.hid ((R7.2.2.2.set 2 0 (.string ⟨#[]⟩) rfl (fun _ => by simp)).set 2 1 (.slice none 0 0) rfl (fun _ => by simp))
              clear hps hp2 R7 hLL hO hlr hle h64 hspec hz0 hxx
              go_wp2
              exact bodyPost_ret (res_rp _ _ fb (v0 := .string ⟨#[]⟩) (v1 := .slice none 0 0) (a := .int .i64 0) (b := .int .i64 2) rfl rfl rfl (S4.out.cb 2 rfl)) rfl ⟨⟨#[]⟩, ⟨none, 0, []⟩, 0, 2, rfl, hsp.out, Nat.le_refl _, LR.nil_ _ _ _, S4.out.bel⟩
            · have hsp := Lib.hid (parO hspec.out hxx.out h64)
              have g3 : ¬ (64 : Int) < (l.L.length : Int) := by omega
              have S4 := ((R7.2.2.2.set 2 0 (.string ns) rfl (fun _ => by simp)).set 2 1 (.slice l.A l.L.length l.c) rfl (fun _ => by simp))
              have hlr8 := Lib.hid (LR_far (LR_far hlr.1 (R7.2.2.2.cb 2 rfl) (Nat.le_refl _) 0 (.string ns)) ((R7.2.2.2.set 2 0 (.string ns) rfl (fun _ => by simp)).cb 2 rfl) (by simp) 1 (.slice l.A l.L.length l.c))
              have hcap := Lib.hid hlr.2
              replace S4 := Lib.hid S4
              clear hps hp2 R7 hO hlr hle h64 hspec hz0 hxx
              go_wp2
              exact bodyPost_ret (res_rp _ _ fb (v0 := .string ns) (v1 := .slice l.A l.L.length l.c) (a := .int .i64 0) (b := .int .i64 0) rfl rfl rfl (S4.out.cb 2 rfl)) rfl ⟨ns, l, 0, 0, rfl, by rw [hLL.out, hns.out]; exact hsp.out, hcap.out, hlr8.out, S4.out.bel⟩
          · simp only [if_neg h3] at hx
            have hne : 0 < r1.length := by
              cases r1 with
              | nil => exact absurd rfl h3
              | cons c s => simp
            have hsp := Lib.hid (parE hspec.out hx)
            rw [hlen] at hsp
            obtain ⟨pl, hpl0⟩ : ∃ pl, pl = t.size - r1.length := ⟨_, rfl⟩
            obtain ⟨ec, hec⟩ : ∃ ec : Int, ec = 3 := ⟨_, rfl⟩
            have hsp2 : Hid (parV t.data.toList = (ec, pl, ⟨#[]⟩, [])) := Lib.hid (by rw [hec, hpl0]; exact hsp.out)
            clear hsp
            have hsp := hsp2
            clear hsp2
            replace hec := Lib.hid hec
            replace hpl0 := Lib.hid hpl0
            clear hspec hr0 hrd hru hq hx h3 hlen
            go_enter Tryd.func6, Tryd.ntmps6
            go_upto_region 4 with fail
            rw [← hrb, ← hfb]
            clear hrb hfb
            go_wp2_with fail
            refine (R0.out.nameY ht.out h1.out).mono ?_
            rw [← hns.out]
            rintro e w3 ⟨rfl, R3⟩
            have R4 := Lib.hid (R3.more #[.string ns, .slice none 0 0] 25 (noLof rfl))
            clear R0 h1 R3
            go_wp2_with fail
            refine (R4.out.wantY ht.out (c := 126) ⟨rfl, rfl, by decide⟩ h2.out).mono ?_
            rw [← hr2.out]
            rintro e w5 ⟨rfl, R5⟩
            replace R5 := Lib.hid R5
            clear R4 h2
            have hB0 := Lib.hid (hB.out _ _ R5.out)
            clear R5 hB
            go_wp2_with fail
            refine hB0.out.mono ?_
            rintro e w6 ⟨⟨l, ob, rfl, hLL, hO, R6⟩, hbd⟩
            have hv : l.v = .slice l.A l.L.length l.c := rfl
            rw [hv]
            replace hLL := Lib.hid hLL
            have fb1 := R6.cb.frozen 1
            have cb1 := R6.cb.cell (i := 1) rfl
            have lb1 := R6.cb.lt
            have RS1 := Lib.hid (R6.setb 1 (.slice l.A l.L.length l.c) (fun _ => by simp))
            clear hv R6 hB0 hbd
            go_wp2_with fail
            refine (RS1.out.signP ht.out).mono ?_
            rintro e w7 ⟨rfl, p, R7⟩
            have c_1 := R7.2.2.2.cl 0 1 rfl rfl
            have lrb := R7.2.2.2.lt 0 rfl
            have hps := (drop_len2 R7.2.1 R7.1).2
            clear fb1 cb1 lb1 RS1
            have g2 : (p : Int) < (t.size : Int) := by omega
            have hF := R7.fail
            have hF2 : Hid (Calls Tryd.prog 15 #[.pointer (some ⟨rb, 0, none⟩), .int .i64 3] w7 fun e w' => e = .returned (.tuple #[]) ∧ RD w w' rb t ec pl 0 ((w3.heap.size, #[.string ns, .slice l.A l.L.length l.c], 25) :: (fb, #[.string ⟨#[]⟩, .slice none 0 0], 25) :: ob)) := Lib.hid (hF.mono (by rintro e w' ⟨rfl, R⟩; rw [hec.out, hpl0.out]; exact ⟨rfl, R⟩))
            generalize hdN r1 = bb at *
            clear hps hne R7 hLL hO hF
            by_cases hbb : bb = 0
            · subst hbb
              go_wp2_with fail
              refine (hF2.out).mono ?_
              rintro e w8 ⟨rfl, R8⟩
              have RR := Lib.hid R8
              clear R8 hF2 c_1 lrb
              obtain ⟨he, p2, hp2, S⟩ := RR.out
              have c_2 := S.cl 0 2 rfl rfl
              have c_3 := S.cl 0 3 rfl rfl
              have lrb := S.lt 0 rfl
              have f_0 := S.f 2 0 rfl
              have f_1 := S.f 2 1 rfl
              have b_0 := S.cl 2 0 rfl rfl
              have b_1 := S.cl 2 1 rfl rfl
              have bl := S.lt 2 rfl
              have S4 := Lib.hid ((S.set 2 0 (.string ⟨#[]⟩) rfl (fun _ => by simp)).set 2 1 (.slice none 0 0) rfl (fun _ => by simp))
              have he1 : (ec == 0) = false := by rw [beq_eq_false_iff_ne]; exact he
              clear S RR hp2 he
              go_upto_region 10 with fail
              go_region
              go_wp2
              exact bodyPost_ret (res_rp _ _ fb (v0 := .string ⟨#[]⟩) (v1 := .slice none 0 0) (a := .int .i64 pl) (b := .int .i64 ec) rfl rfl rfl (S4.out.drew.cb 2 rfl)) rfl ⟨⟨#[]⟩, ⟨none, 0, []⟩, pl, ec, rfl, hsp.out, Nat.le_refl _, LR.nil_ _ _ _, S4.out.bel.drew⟩
            · have g4 : ((bb : Int) == 0) = false := by rw [beq_eq_false_iff_ne]; omega
              have g5 : ¬ (bb : Int) = 0 := by omega
              clear hbb
              go_wp2_with fail
              refine (hF2.out).mono ?_
              rintro e w8 ⟨rfl, R8⟩
              have RR := Lib.hid R8
              clear R8 hF2 c_1 lrb
              obtain ⟨he, p2, hp2, S⟩ := RR.out
              have c_2 := S.cl 0 2 rfl rfl
              have c_3 := S.cl 0 3 rfl rfl
              have lrb := S.lt 0 rfl
              have f_0 := S.f 2 0 rfl
              have f_1 := S.f 2 1 rfl
              have b_0 := S.cl 2 0 rfl rfl
              have b_1 := S.cl 2 1 rfl rfl
              have bl := S.lt 2 rfl
              have S4 := Lib.hid ((S.set 2 0 (.string ⟨#[]⟩) rfl (fun _ => by simp)).set 2 1 (.slice none 0 0) rfl (fun _ => by simp))
              have he1 : (ec == 0) = false := by rw [beq_eq_false_iff_ne]; exact he
              clear S RR hp2 he
              go_upto_region 10 with fail
              go_region
              go_wp2
              exact bodyPost_ret (res_rp _ _ fb (v0 := .string ⟨#[]⟩) (v1 := .slice none 0 0) (a := .int .i64 pl) (b := .int .i64 ec) rfl rfl rfl (S4.out.drew.cb 2 rfl)) rfl ⟨⟨#[]⟩, ⟨none, 0, []⟩, pl, ec, rfl, hsp.out, Nat.le_refl _, LR.nil_ _ _ _, S4.out.bel.drew⟩
      · have hsp : Hid (parV t.data.toList = (3, t.size - (F9.nx r0).length, ⟨#[]⟩, [])) := Lib.hid (by
          rw [parE hspec.out (show rdT t.data.toList = .error (3, F9.nx r0) by unfold rdT; rw [← hr0, if_pos h1, if_neg h2]), hlen]
          rfl)
        obtain ⟨pl, hpl0⟩ : ∃ pl, pl = t.size - (F9.nx r0).length := ⟨_, rfl⟩
        rw [← hpl0] at hsp
        obtain ⟨ec, hec⟩ : ∃ ec : Int, ec = 3 := ⟨_, rfl⟩
        rw [← hec] at hsp
        replace h1 := Lib.hid h1
        replace h2 := Lib.hid h2
        clear hspec hlen hr0
        replace hpl0 := Lib.hid hpl0
        replace hec := Lib.hid hec
        replace hns := Lib.hid hns
        go_enter Tryd.func6, Tryd.ntmps6
        go_upto_region 4 with fail
        rw [← hrb, ← hfb]
        clear hrb hfb
        go_wp2_with fail
        refine (R0.out.nameY ht.out h1.out).mono ?_
        rw [← hns.out]
        rintro e w3 ⟨rfl, R3⟩
        have R4 := Lib.hid (R3.more #[.string ns, .slice none 0 0] 25 (noLof rfl))
        clear R0 h1 R3
        go_wp2_with fail
        refine (R4.out.wantN ht.out (c := 126) ⟨rfl, rfl, by decide⟩ h2.out).mono ?_
        rw [← hpl0.out, ← hec.out]
        rintro e w5 ⟨rfl, R5⟩
        replace R5 := Lib.hid R5
        clear R4 h2
        have hB0 := Lib.hid (RD.binary ht.out (j := 1) (by decide) (by decide) (R5.out.mono (Nat.zero_le 1)))
        clear R5
        go_wp2_with fail
        refine hB0.out.mono ?_
        rintro e w6 ⟨l, ob, rfl, hl, hO, R6⟩
        have hv : l.v = .slice l.A l.L.length l.c := rfl
        rw [hv]
        have fb1 := R6.cb.frozen 1
        have cb1 := R6.cb.cell (i := 1) rfl
        have lb1 := R6.cb.lt
        have RS1 := Lib.hid (R6.setb 1 (.slice l.A l.L.length l.c) (fun _ => by simp))
        clear hv hl hO R6 hB0
        go_wp2_with fail
        refine (RS1.out.sign (by omega) ht.out).mono ?_
        rintro e w7 ⟨rfl, R7⟩
        obtain ⟨he, p, hp, S⟩ := R7
        have c_1 := S.cl 0 1 rfl rfl
        have lrb := S.lt 0 rfl
        have R7 := Lib.hid (show RD w w7 rb t ec pl 1 _ from ⟨he, p, hp, S⟩)
        clear fb1 cb1 lb1 RS1 S he
        by_cases hpl : p < t.size
        · have g1 : (p : Int) < (t.size : Int) := by omega
          clear hpl hp
          go_wp2_with fail
          refine (R7.out.fail (by omega) ht.out 3).mono ?_
          rintro e w8 ⟨rfl, R8⟩
          clear R7 c_1 lrb
          have RR := Lib.hid R8
          clear R8
          obtain ⟨he, p2, hp2, S⟩ := RR.out
          have c_2 := S.cl 0 2 rfl rfl
          have c_3 := S.cl 0 3 rfl rfl
          have lrb := S.lt 0 rfl
          have f_0 := S.f 2 0 rfl
          have f_1 := S.f 2 1 rfl
          have b_0 := S.cl 2 0 rfl rfl
          have b_1 := S.cl 2 1 rfl rfl
          have bl := S.lt 2 rfl
          have S4 := Lib.hid ((S.set 2 0 (.string ⟨#[]⟩) rfl (fun _ => by simp)).set 2 1 (.slice none 0 0) rfl (fun _ => by simp))
          have he1 : (ec == 0) = false := by rw [beq_eq_false_iff_ne]; exact he
          clear S RR hp2 he
          go_upto_region 10 with fail
          go_region
          go_wp2
          exact bodyPost_ret (res_rp _ _ fb (v0 := .string ⟨#[]⟩) (v1 := .slice none 0 0) (a := .int .i64 pl) (b := .int .i64 ec) rfl rfl rfl (S4.out.drew.cb 2 rfl)) rfl ⟨⟨#[]⟩, ⟨none, 0, []⟩, pl, ec, rfl, hsp.out, Nat.le_refl _, LR.nil_ _ _ _, S4.out.bel.drew⟩
        · have g1 : ¬ (p : Int) < (t.size : Int) := by omega
          have RR := Lib.hid R7.out
          clear hpl hp R7 lrb
          obtain ⟨he, p2, hp2, S⟩ := RR.out
          have c_2 := S.cl 0 2 rfl rfl
          have c_3 := S.cl 0 3 rfl rfl
          have lrb := S.lt 0 rfl
          have f_0 := S.f 2 0 rfl
          have f_1 := S.f 2 1 rfl
          have b_0 := S.cl 2 0 rfl rfl
          have b_1 := S.cl 2 1 rfl rfl
          have bl := S.lt 2 rfl
          have S4 := Lib.hid ((S.set 2 0 (.string ⟨#[]⟩) rfl (fun _ => by simp)).set 2 1 (.slice none 0 0) rfl (fun _ => by simp))
          have he1 : (ec == 0) = false := by rw [beq_eq_false_iff_ne]; exact he
          clear S RR hp2 he
          go_upto_region 10 with fail
          go_region
          go_wp2
          exact bodyPost_ret (res_rp _ _ fb (v0 := .string ⟨#[]⟩) (v1 := .slice none 0 0) (a := .int .i64 pl) (b := .int .i64 ec) rfl rfl rfl (S4.out.drew.cb 2 rfl)) rfl ⟨⟨#[]⟩, ⟨none, 0, []⟩, pl, ec, rfl, hsp.out, Nat.le_refl _, LR.nil_ _ _ _, S4.out.bel.drew⟩

end Go.Proofs.YtjebpmjbdchdlaaDoor
