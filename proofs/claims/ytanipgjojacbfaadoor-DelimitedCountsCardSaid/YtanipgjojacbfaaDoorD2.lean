/- What is too large; a field as it is written. -/
import Derived.Test.YtanipgjojacbfaaDoorD1
namespace Go.Proofs.YtanipgjojacbfaaDoor
open Go.RowKit Go.Lib
set_option linter.unusedVariables false

theorem fmt1_any (A : Option Addr) (n c : Nat) (w : World) : Calls Tryd.prog 25 #[.slice A n c] w fun e w' => e = .returned (.bool (decide (n = 0))) ∧ w' = w := by
  by_cases h : n = 0
  · subst h
    go_enter Tryd.func25, Tryd.ntmps25
    go_wp2
    go_ret
    exact ⟨rfl, rfl⟩
  · have g1 : ((n : Int) == 0) = false := by rw [beq_eq_false_iff_ne]; omega
    have hf := Lib.hid (decide_eq_false h)
    clear h
    go_enter Tryd.func25, Tryd.ntmps25
    go_wp2
    go_ret
    exact ⟨by rw [hf.out]; rfl, rfl⟩
theorem big1_any (A : Option Addr) (n c : Nat) (w : World) : Calls Tryd.prog 38 #[.slice A n c] w fun e w' => e = .returned (.bool (decide (32 < n))) ∧ w' = w := by
  by_cases h : 32 < n
  · have g1 : (32 : Int) < (n : Int) := by omega
    have hf := Lib.hid (decide_eq_true h)
    clear h
    go_enter Tryd.func38, Tryd.ntmps38
    go_wp2
    go_ret
    exact ⟨by rw [hf.out]; rfl, rfl⟩
  · have g1 : ¬ (32 : Int) < (n : Int) := by omega
    have hf := Lib.hid (decide_eq_false h)
    clear h
    go_enter Tryd.func38, Tryd.ntmps38
    go_wp2
    go_ret
    exact ⟨by rw [hf.out]; rfl, rfl⟩
instance : Inhabited Row := ⟨⟨none, 0, []⟩⟩
/-- slices.ContainsFunc over a list of records. -/
theorem contains_rows (R : List Row) (A : Option Addr) (c : Nat) (w : World) (h : MR w A R.length R) (hR : R.length ≤ 9223372036854775807) (g : Nat) (p : Nat → Bool) (eg : ∀ args w, (callFunc g args).run Tryd.prog w = .ok (.enter g args) w)
    (hp : ∀ A n c W, Calls Tryd.prog g #[.slice A n c] W fun e w' => e = .returned (.bool (p n)) ∧ w' = W) :
    Calls Tryd.prog 24 #[.slice A R.length c, .func (.func g) #[] #[]] w fun e w' => e = .returned (.bool (R.any fun r => p r.fs.length)) ∧ ∃ q, w' = w.drewN q := by
  rcases h.mem with h0 | ⟨b, o, rfl, _, hc⟩
  · rw [h0]
    obtain rfl : R = [] := List.eq_nil_of_length_eq_zero h0
    exact (Tryd.slices_ContainsFunc_empty (α := Row) A c _ w).mono fun e w' ⟨h1, h2⟩ => ⟨h1, 0, h2⟩
  · have := Tryd.slices_ContainsFunc (α := Row) Row.val (fun r => p r.fs.length) g #[] eg b o R.length c R w (fun W x _ => (hp x.A x.fs.length x.c W).mono fun e w' ⟨h1, h2⟩ => ⟨h1, 0, h2⟩) (Nat.le_refl _) hR (fun j hj => by
      rw [getElem!_pos R j hj]
      exact hc j _ (List.getElem?_eq_getElem hj))
    rw [List.take_length] at this
    exact this
/-- A text that is too large. -/
def bigS (d : UInt8) (l : List (List Bs)) : Bool := decide (1024 < l.length) || l.any (fun r => decide (32 < r.length)) || decide (65536 < szL d l)

set_option maxRecDepth 100000 in
set_option maxHeartbeats 4000000 in
theorem tooLarge_any (R : List Row) (A : Option Addr) (c : Nat) (d : UInt8) (w : World) (h : MR w A R.length R) (hd : isD d = true) (hR : R.length ≤ 9223372036854775807) (hF : ∀ r ∈ R, ∀ f ∈ r.fs, f.length ≤ 1000) :
    Calls Tryd.prog 26 #[.slice A R.length c, .int .u8 d.toNat] w fun e w' => e = .returned (.bool (bigS d (R.map Row.fs))) ∧ Below w.heap.size w w' := by
  have hC := Lib.hid (contains_rows R A c w h hR 38 (fun n => decide (32 < n)) (enters_of Tryd.func38 (by kernel_rfl) rfl) (fun A n c W => big1_any A n c W))
  have e0 : (R.map Row.fs).any (fun r => decide (32 < r.length)) = R.any (fun r => decide (32 < r.fs.length)) := by rw [List.any_map]; rfl
  have hbig : bigS d (R.map Row.fs) = (decide (1024 < R.length) || R.any (fun r => decide (32 < r.fs.length)) || decide (65536 < szL d (R.map Row.fs))) := by
    unfold bigS; rw [e0, List.length_map]
  by_cases h1 : 1024 < R.length
  · have g1 : (1024 : Int) < (R.length : Int) := by omega
    have hb := Lib.hid (show bigS d (R.map Row.fs) = true by rw [hbig, decide_eq_true h1]; rfl)
    generalize R.length = n at *
    clear h1 hbig e0 hF h hC
    go_enter Tryd.func26, Tryd.ntmps26
    go_wp2
    go_ret
    exact ⟨by rw [hb.out]; rfl, Below.refl _ _⟩
  · have g1 : ¬ (1024 : Int) < (R.length : Int) := by omega
    cases h2 : R.any (fun r => decide (32 < r.fs.length)) with
    | true =>
      rw [h2] at hC
      have hb := Lib.hid (show bigS d (R.map Row.fs) = true by rw [hbig, h2]; simp)
      clear h1 hbig e0 hF h h2
      go_enter Tryd.func26, Tryd.ntmps26
      go_wp2_with fail
      refine hC.out.mono ?_
      rintro e w1 ⟨rfl, q, hw⟩
      have hbl : Hid (Below w.heap.size w w1) := Lib.hid (by rw [hw]; exact below_drewN (Below.refl _ _) q)
      replace hw := Lib.hid hw
      go_wp2
      go_ret
      exact ⟨by rw [hb.out]; rfl, hbl.out⟩
    | false =>
      rw [h2] at hC
      have hSm : Sm (R.map Row.fs) := ⟨by rw [List.length_map]; omega, fun r hr => by
        obtain ⟨q, hq, rfl⟩ := List.mem_map.1 hr
        refine ⟨?_, hF q hq⟩
        have := List.any_eq_false.1 h2 q hq
        simpa using this⟩
      have hZ := Lib.hid (fun W hW => size_any R A c d W (h.bel hW) hd hSm)
      have hb := Lib.hid (show bigS d (R.map Row.fs) = decide (65536 < szL d (R.map Row.fs)) by rw [hbig, h2, decide_eq_false h1]; simp)
      have hz := hSm.take (d := d) R.length
      rw [List.take_of_length_le (by rw [List.length_map]; exact Nat.le_refl _)] at hz
      generalize szL d (R.map Row.fs) = Z at *
      have hzz : (Z : Int) ≤ 65634304 := by omega
      clear h1 hbig e0 hF h h2 hSm
      by_cases h3 : 65536 < Z
      · have g3 : (65536 : Int) < (Z : Int) := by omega
        rw [decide_eq_true h3] at hb
        clear h3
        go_enter Tryd.func26, Tryd.ntmps26
        go_wp2_with fail
        refine hC.out.mono ?_
        rintro e w1 ⟨rfl, q, hw⟩
        have hbl : Below w.heap.size w w1 := by rw [hw]; exact below_drewN (Below.refl _ _) q
        have hZ1 := Lib.hid (hZ.out w1 hbl)
        replace hbl := Lib.hid hbl
        replace hw := Lib.hid hw
        go_wp2_with fail
        refine hZ1.out.mono ?_
        rintro e w2 ⟨rfl, hb2⟩
        have hb3 := Lib.hid (hbl.out.trans (hb2.mono hbl.out.size))
        clear hb2
        go_wp2
        go_ret
        exact ⟨by rw [hb.out]; rfl, hb3.out⟩
      · have g3 : ¬ (65536 : Int) < (Z : Int) := by omega
        have g4 : decide ((65536 : Int) < (Z : Int)) = false := decide_eq_false g3
        replace g4 := Lib.hid g4
        rw [decide_eq_false h3] at hb
        clear h3
        go_enter Tryd.func26, Tryd.ntmps26
        go_wp2_with fail
        refine hC.out.mono ?_
        rintro e w1 ⟨rfl, q, hw⟩
        have hbl : Below w.heap.size w w1 := by rw [hw]; exact below_drewN (Below.refl _ _) q
        have hZ1 := Lib.hid (hZ.out w1 hbl)
        replace hbl := Lib.hid hbl
        replace hw := Lib.hid hw
        go_wp2_with fail
        refine hZ1.out.mono ?_
        rintro e w2 ⟨rfl, hb2⟩
        have hb3 := Lib.hid (hbl.out.trans (hb2.mono hbl.out.size))
        clear hb2
        go_wp2
        go_ret
        exact ⟨by rw [hb.out, ← g4.out]; rfl, hb3.out⟩

set_option maxRecDepth 100000 in
set_option maxHeartbeats 4000000 in
theorem written_any (f : Bs) (d : UInt8) (w : World) (hd : isD d = true) (hf : f.length ≤ 1000) (hm : Mx w) :
    Calls Tryd.prog 29 #[.string (bA f), .int .u8 d.toNat] w fun e w' => e = .returned (.string (bA (wrF d f))) ∧ Below w.heap.size w w' := by
  have hN := Lib.hid (needsQuotes_any (bA f) d w hd (by rw [bA_size]; omega))
  rw [bA_list] at hN
  have hR := Lib.hid (fun W hm => replace_dbl f W hm (by omega))
  have hmh := Lib.hid hm
  have hdl : (dqS f).length ≤ 2000 := by
    have := dqS_len f
    have : f.count 34 ≤ f.length := List.count_le_length
    omega
  cases hq : nqS d f with
  | false =>
    have hw : Hid (wrF d f = f) := Lib.hid (by unfold wrF; rw [hq]; rfl)
    rw [hq] at hN
    clear hq hm hd hf hdl
    go_enter Tryd.func29, Tryd.ntmps29
    go_wp2_with fail
    refine hN.out.mono ?_
    rintro e w1 ⟨rfl, hb⟩
    replace hb := Lib.hid hb
    go_wp2
    go_ret
    exact ⟨by rw [hw.out]; rfl, hb.out⟩
  | true =>
    have hw : Hid (wrF d f = [34] ++ dqS f ++ [34]) := Lib.hid (by unfold wrF; rw [hq]; rfl)
    rw [hq] at hN
    have h1 : (⟨#[34]⟩ : ByteArray) ++ bA (dqS f) = bA ([34] ++ dqS f) := bA_app [34] (dqS f)
    have h2 : bA ([34] ++ dqS f) ++ (⟨#[34]⟩ : ByteArray) = bA ([34] ++ dqS f ++ [34]) := bA_app ([34] ++ dqS f) [34]
    have s1 : ¬ 9223372036854775807 < (⟨#[34]⟩ : ByteArray).size + (bA (dqS f)).size := by rw [bA_size]; show ¬ _ < 1 + (dqS f).length; omega
    have s2 : ¬ 9223372036854775807 < (bA ([34] ++ dqS f)).size + (⟨#[34]⟩ : ByteArray).size := by rw [bA_size, List.length_append]; show ¬ _ < 1 + (dqS f).length + 1; omega
    have s3 : ¬ 9223372036854775807 < 1 + (bA (dqS f)).size := s1
    have s4 : ¬ 9223372036854775807 < (bA ([34] ++ dqS f)).size + 1 := s2
    generalize hv1 : [34] ++ dqS f = v1 at *
    replace hv1 := Lib.hid hv1
    clear hq hm hd hf hdl
    go_enter Tryd.func29, Tryd.ntmps29
    go_wp2_with fail
    refine hN.out.mono ?_
    rintro e w1 ⟨rfl, hb⟩
    have hm1 := Lib.hid (hmh.out.bel hb)
    replace hb := Lib.hid hb
    go_wp2_with fail
    refine (hR.out _ hm1.out).mono ?_
    rintro e w2 ⟨rfl, hb2⟩
    have hb3 := Lib.hid (hb.out.trans (hb2.mono hb.out.size))
    clear hb2
    go_wp2
    go_ret
    exact ⟨by rw [hw.out]; rfl, hb3.out⟩
end Go.Proofs.YtanipgjojacbfaaDoor
