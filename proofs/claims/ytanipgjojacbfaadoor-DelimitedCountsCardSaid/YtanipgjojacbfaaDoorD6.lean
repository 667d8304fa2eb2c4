/- Light lists; the law that Format answers as the reference does. -/
import Derived.Test.YtanipgjojacbfaaDoorD5
import Derived.Test.YtanipgjojacbfaaDoorC8
namespace Go.Proofs.YtanipgjojacbfaaDoor
open Go.RowKit Go.Lib
set_option linter.unusedVariables false

def ltR (fs : List Bs) : Bool := decide (fs.length ≤ 40) && fs.all (fun f => decide (f.length ≤ 100))
def ltB (R : List Row) : Bool := decide (R.length ≤ 40) && R.all (fun r => ltR r.fs)
theorem ltB_true {R : List Row} (h : ltB R = true) : R.length ≤ 40 ∧ ∀ r ∈ R, r.fs.length ≤ 40 ∧ ∀ f ∈ r.fs, f.length ≤ 100 := by
  unfold ltB at h
  rw [Bool.and_eq_true] at h
  refine ⟨of_decide_eq_true h.1, fun r hr => ?_⟩
  have := List.all_eq_true.1 h.2 r hr
  unfold ltR at this
  rw [Bool.and_eq_true] at this
  exact ⟨of_decide_eq_true this.1, fun f hf => of_decide_eq_true (List.all_eq_true.1 this.2 f hf)⟩

set_option maxRecDepth 100000 in
set_option maxHeartbeats 4000000 in
theorem light_any (R : List Row) (A : Option Addr) (c : Nat) (w : World) (h : MR w A R.length R) (hR : R.length ≤ 9223372036854775807) (hRf : ∀ r ∈ R, r.fs.length ≤ 9223372036854775807 ∧ ∀ f ∈ r.fs, f.length ≤ 9223372036854775807) :
    Calls Tryd.prog 14 #[.slice A R.length c] w fun e w' => e = .returned (.bool (ltB R)) ∧ w' = w := by
  by_cases h40 : 40 < R.length
  · have g1 : (40 : Int) < (R.length : Int) := by omega
    have hl : Hid (ltB R = false) := Lib.hid (by unfold ltB; rw [decide_eq_false (by omega)]; rfl)
    generalize R.length = n at *
    clear h40 h hR hRf
    go_enter Tryd.func14, Tryd.ntmps14
    go_wp2
    go_ret
    exact ⟨by rw [hl.out]; rfl, rfl⟩
  · have g1 : ¬ (40 : Int) < (R.length : Int) := by omega
    have hno : Hid (∀ r ∈ R, ltR r.fs = false → ltB R = false) := Lib.hid fun r hr h0 => by
      unfold ltB
      rw [show R.all (fun r => ltR r.fs) = false from List.all_eq_false.2 ⟨r, hr, by rw [h0]; decide⟩, Bool.and_false]
    have hyes : Hid ((∀ r ∈ R, ltR r.fs = true) → ltB R = true) := Lib.hid fun hh => by
      unfold ltB
      rw [show R.all (fun r => ltR r.fs) = true from List.all_eq_true.2 hh, decide_eq_true (by omega)]; rfl
    have hRl := Lib.hid h40
    have hRfh := Lib.hid hRf
    obtain ⟨n, hn⟩ : ∃ n, n = R.length := ⟨_, rfl⟩
    rw [← hn] at h g1 ⊢
    have hnz : (n : Int) ≤ 40 := by omega
    replace hn := Lib.hid hn
    replace h := Lib.hid h
    clear h40 hR hRf
    go_enter Tryd.func14, Tryd.ntmps14
    go_wp2
    go_loopw [3, 4] (fun iv _ wr => ∃ i : Nat, i ≤ n ∧ iv = .int .i64 i ∧ w = wr ∧ ∀ j r, j < i → R[j]? = some r → ltR r.fs = true) (fun iv _ _ => n - (intOf iv).toNat)
    case atStart => exact ⟨0, Nat.zero_le _, rfl, rfl, fun j r h0 => absurd h0 (Nat.not_lt_zero _)⟩
    case round =>
      obtain ⟨i, hin, rfl, hw, hall⟩ := hrel
      obtain rfl := hw
      by_cases hlt : i < n
      · obtain ⟨b1, o1, r, rfl, hx, hrR, e1⟩ := h.out.get hlt
        have hrow := Lib.hid (h.out.row r hrR)
        have g2 : (i : Int) < (n : Int) := by omega
        have g3 : (0 : Int) ≤ (i : Int) := by omega
        have g4 : (i : Int) ≤ 40 := by omega
        have hlh := Lib.hid hlt
        have hrl : (r.fs.length : Int) ≤ 9223372036854775807 := by have := (hRfh.out r hrR).1; omega
        have hfl := Lib.hid (hRfh.out r hrR).2
        by_cases hr40 : 40 < r.fs.length
        · have k0 : (40 : Int) < (r.fs.length : Int) := by omega
          have hl := Lib.hid (hno.out r hrR (by unfold ltR; rw [decide_eq_false (by omega)]; rfl))
          generalize r.fs.length = m at *
          clear hin hlt hx hrR hr40 hall hrow hfl
          go_wp2
          go_ret
          exact ⟨by rw [hl.out]; rfl, rfl⟩
        · have k0 : ¬ (40 : Int) < (r.fs.length : Int) := by omega
          have k0' : (r.fs.length : Int) ≤ 40 := by omega
          have hnoF : Hid (∀ f ∈ r.fs, ¬ f.length ≤ 100 → ltB R = false) := Lib.hid fun f hf h0 => hno.out r hrR (by
            unfold ltR
            rw [show r.fs.all (fun f => decide (f.length ≤ 100)) = false from List.all_eq_false.2 ⟨f, hf, by simpa using h0⟩, Bool.and_false])
          have hall2 : Hid ((∀ f ∈ r.fs, f.length ≤ 100) → ∀ j t, j < i + 1 → R[j]? = some t → ltR t.fs = true) := Lib.hid fun hh j t hj ht => by
            rcases Nat.lt_or_ge j i with h1 | h1
            · exact hall j t h1 ht
            · obtain rfl : j = i := by omega
              rw [hx] at ht
              cases ht
              unfold ltR
              rw [decide_eq_true (by omega), show r.fs.all (fun f => decide (f.length ≤ 100)) = true from List.all_eq_true.2 fun f hf => decide_eq_true (hh f hf)]; rfl
          obtain ⟨m, hm⟩ : ∃ m, m = r.fs.length := ⟨_, rfl⟩
          rw [← hm] at hrow k0 k0' hrl e1
          replace hm := Lib.hid hm
          clear hin hlt hx hrR hr40 hall hrl
          go_wp2
          go_loopw [4] (fun jv wx => ∃ j : Nat, j ≤ m ∧ jv = .int .i64 j ∧ w = wx ∧ ∀ k f, k < j → r.fs[k]? = some f → f.length ≤ 100) (fun jv _ => m - (intOf jv).toNat)
          case atStart => exact ⟨0, Nat.zero_le _, rfl, rfl, fun j r h0 => absurd h0 (Nat.not_lt_zero _)⟩
          case round =>
            obtain ⟨j, hjn, rfl, hw, hallf⟩ := hrel
            obtain rfl := hw
            by_cases hjlt : j < m
            · obtain ⟨b2, o2, f, rA, hy, e2⟩ := hrow.out.get hjlt
              have hfm := List.mem_of_getElem? hy
              have hsz : ((bA f).size : Int) = (f.length : Int) := by rw [bA_size]
              have hfz : (f.length : Int) ≤ 9223372036854775807 := by have := hfl.out f hfm; omega
              have k2 : (j : Int) < (m : Int) := by omega
              have k3 : (0 : Int) ≤ (j : Int) := by omega
              have k4 : (j : Int) ≤ 40 := by omega
              have hjh := Lib.hid hjlt
              rw [rA] at e1
              by_cases h100 : f.length ≤ 100
              · have k5 : ¬ (100 : Int) < (f.length : Int) := by omega
                have hallf2 : Hid (∀ k t, k < j + 1 → r.fs[k]? = some t → t.length ≤ 100) := Lib.hid fun k t hk ht => by
                  rcases Nat.lt_or_ge k j with h1 | h1
                  · exact hallf k t h1 ht
                  · obtain rfl : k = j := by omega
                    rw [hy] at ht
                    cases ht
                    exact h100
                clear hjn hjlt hy hfm h100 hallf rA
                go_wp2
                go_roundw
                case rel => exact ⟨j + 1, by have := hjh.out; omega, by go_num, by first | rfl | trivial, hallf2.out⟩
                case measure => simp [intOf]; have := hjh.out; omega
              · have k5 : (100 : Int) < (f.length : Int) := by omega
                have hl := Lib.hid (hnoF.out f hfm h100)
                clear hjn hjlt hy hfm h100 hallf rA
                go_wp2
                go_ret
                exact ⟨by rw [hl.out]; rfl, rfl⟩
            · obtain rfl : j = m := by omega
              have hA2 := Lib.hid (hall2.out (fun f hf => by
                obtain ⟨k, hk⟩ := List.getElem?_of_mem hf
                exact hallf k f (by rw [hm.out]; exact (List.getElem?_eq_some_iff.1 hk).1) hk))
              clear hallf hjn hjlt
              go_wp2
              go_roundw
              case rel => exact ⟨i + 1, by have := hlh.out; omega, by go_num, by first | rfl | trivial, hA2.out⟩
              case measure => simp [intOf]; have := hlh.out; omega
      · obtain rfl : i = n := by omega
        have hl := Lib.hid (hyes.out fun r hr => by
          obtain ⟨k, hk⟩ := List.getElem?_of_mem hr
          exact hall k r (by rw [hn.out]; exact (List.getElem?_eq_some_iff.1 hk).1) hk)
        clear hall hin hlt
        go_wp2
        go_ret
        exact ⟨by rw [hl.out]; rfl, rfl⟩
end Go.Proofs.YtanipgjojacbfaaDoor
