/- The law ReadsBack. -/
import Derived.Test.YtanipgjojacbfaaDoorD7
namespace Go.Proofs.YtanipgjojacbfaaDoor
open Go.RowKit Go.Lib
set_option linter.unusedVariables false

set_option maxRecDepth 100000 in
set_option maxHeartbeats 4000000 in
theorem law_reads (R : List Row) (A : Option Addr) (c : Nat) (d : UInt8) (w : World) (h : MR w A R.length R) (hR : R.length ≤ 9223372036854775807) (hRf : ∀ r ∈ R, r.fs.length ≤ 9223372036854775807 ∧ ∀ f ∈ r.fs, f.length ≤ 9223372036854775807) (hm : Mx w) :
    Calls Tryd.prog 6 #[.slice A R.length c, .int .u8 d.toNat] w fun e w' => e = .returned (.bool true) ∧ Below w.heap.size w w' := by
  have hL := Lib.hid (light_any R A c w h hR hRf)
  have hA := Lib.hid (fun W h => awake_any W h)
  have hmh := Lib.hid hm
  cases hl : ltB R with
  | false =>
    rw [hl] at hL
    generalize R.length = n at *
    clear h hR hRf hm hl
    go_enter Tryd.func6, Tryd.ntmps6
    go_wp2_with fail
    refine hL.out.mono ?_
    rintro e w1 ⟨rfl, hw⟩
    subst hw
    have hA1 := Lib.hid (hA.out _ hmh.out)
    go_wp2_with fail
    refine hA1.out.mono ?_
    rintro e w2 ⟨rfl, hb⟩
    replace hb := Lib.hid hb
    go_wp2
    go_ret
    exact ⟨rfl, hb.out⟩
  | true =>
    rw [hl] at hL
    have hlt := ltB_true hl
    have hF := Lib.hid (fun W hW => format_any R A c (pick d) W (h.bel hW) hR (fun r hr f hf => by have := (hlt.2 r hr).2 f hf; omega) (hm.bel hW))
    have hG := Lib.hid (fun W hW => rformat_any R A c (pick d) W (h.bel hW) hR (fun r hr => (hRf r hr).1) (fun r hr f hf => by have := (hlt.2 r hr).2 f hf; omega))
    have hmr := Lib.hid h
    have hRh := Lib.hid (show R.length ≤ 9223372036854775807 ∧ ∀ r ∈ R, r.fs.length ≤ 9223372036854775807 from ⟨hR, fun r hr => (hRf r hr).1⟩)
    have hpo : Hid ((fo (pick d) (R.map Row.fs)).2 = 0 → ∀ W, Mx W → Calls Tryd.prog 11 #[.string (bA (fo (pick d) (R.map Row.fs)).1), .int .u8 (pick d).toNat] W (ParR (R.map Row.fs) 0 0 W)) := Lib.hid fun h0 W hW => by
      have := parse_any (bA (fo (pick d) (R.map Row.fs)).1) (pick d) W hW
      unfold PoR at this
      rw [bA_list, po_fo h0] at this
      exact this
    have hbad := Lib.hid (fun h => fo_bad (d := pick d) (l := R.map Row.fs) h)
    have hpc := Lib.hid (pick_cell d)
    generalize (fo (pick d) (R.map Row.fs)).1 = T at *
    generalize (fo (pick d) (R.map Row.fs)).2 = E at *
    generalize pick d = p at *
    have hd256 : (d.toNat : Int) < 256 := by have := d.toNat_lt; omega
    obtain ⟨n, hn⟩ : ∃ n, n = R.length := ⟨_, rfl⟩
    rw [← hn] at hL hF hG ⊢
    replace hn := Lib.hid hn
    generalize d.toNat = k at *
    clear h hR hRf hm hl hlt
    go_enter Tryd.func6, Tryd.ntmps6
    go_wp2_with fail
    refine hL.out.mono ?_
    rintro e w1 ⟨rfl, hw⟩
    subst hw
    have hpc1 := hpc.out w1
    have hF1 := Lib.hid (hF.out (w1.alloc (.cells #[.int .u8 44, .int .u8 59, .int .u8 9, .int .u8 124] 5)) ((Below.refl _ _).alloc (Nat.le_refl _) _))
    go_wp2_with fail
    refine hF1.out.mono ?_
    rintro e w2 ⟨rfl, hb0⟩
    have hb : Hid (Below w1.heap.size w1 w2) := Lib.hid (((Below.refl _ _).alloc (Nat.le_refl _) _).trans (hb0.mono ((Below.refl _ w1).alloc (Nat.le_refl _) _).size))
    clear hb0 hF1 hF hpc1 hpc
    by_cases hE : E = 0
    · subst hE
      have hP1 := Lib.hid (hpo.out rfl w2 (hmh.out.bel hb.out))
      clear hpo hbad hG
      go_wp2_with fail
      refine hP1.out.mono ?_
      rintro e w3 ⟨R2, A2, c2, rfl, hl2, hR2, hb2⟩
      have hb3 := Lib.hid (hb.out.trans (hb2.mono hb.out.size))
      have hA1 := Lib.hid (hA.out w3 (hmh.out.bel hb3.out))
      have hmr1 := Lib.hid (hmr.out.bel hb3.out)
      have hmr2 := Lib.hid hl2.mr
      have hSm : Hid (∀ W, Below w3.heap.size w3 W → Calls Tryd.prog 13 #[.slice A n c, .slice A2 R2.length c2] W fun e w' => e = .returned (.bool true) ∧ ∃ q, w' = W.drewN q) := Lib.hid fun W hW => by
        rw [hn.out]
        have hl : R2.length = R.length := by rw [← List.length_map (f := Row.fs), hR2, List.length_map]
        have := same_any R R2 A A2 R.length c R2.length c2 W (hmr1.out.bel hW) (hmr2.out.bel hW) hRh.out.1 (by rw [hl]; exact hRh.out.1) hRh.out.2 (lst_rows hl2)
        rw [decide_eq_true hR2.symm] at this
        exact this
      clear hb2 hl2 hR2 hb hmr1 hmr2 hmr hRh hP1
      go_wp2_with fail
      refine hA1.out.mono ?_
      rintro e w4 ⟨rfl, hb4⟩
      have hb5 := Lib.hid (hb3.out.trans (hb4.mono hb3.out.size))
      have hSm1 := Lib.hid (hSm.out w4 hb4)
      clear hb4 hb3 hSm hA1
      go_wp2_with fail
      refine hSm1.out.mono ?_
      rintro e w5 ⟨rfl, q, hw⟩
      have hb6 : Hid (Below w1.heap.size w1 w5) := Lib.hid (by rw [hw]; exact below_drewN hb5.out q)
      clear hw hb5 hSm1
      go_wp2
      go_ret
      exact ⟨rfl, hb6.out⟩
    · have hT := hbad.out hE
      subst hT
      have hG1 := Lib.hid (hG.out _ hb.out)
      clear hpo hbad hG
      go_wp2_with fail
      refine hG1.out.mono ?_
      rintro e w3 ⟨rfl, hb2⟩
      have hb3 := Lib.hid (hb.out.trans (hb2.mono hb.out.size))
      have hA1 := Lib.hid (hA.out _ (hmh.out.bel hb3.out))
      clear hb2 hb hG1
      go_wp2_with fail
      refine hA1.out.mono ?_
      rintro e w4 ⟨rfl, hb4⟩
      have hb5 := Lib.hid (hb3.out.trans (hb4.mono hb3.out.size))
      clear hb4 hb3
      go_wp2
      go_ret
      exact ⟨by show Ending.returned (.bool (bA []).toList.isEmpty) = _; rw [bA_toList]; rfl, hb5.out⟩
end Go.Proofs.YtanipgjojacbfaaDoor
