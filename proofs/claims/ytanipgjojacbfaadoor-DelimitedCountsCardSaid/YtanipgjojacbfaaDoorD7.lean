/- The laws Formats and ReadsBack. -/
import Derived.Test.YtanipgjojacbfaaDoorD6
namespace Go.Proofs.YtanipgjojacbfaaDoor
open Go.RowKit Go.Lib
set_option linter.unusedVariables false

set_option maxRecDepth 100000 in
set_option maxHeartbeats 4000000 in
theorem law_formats (R : List Row) (A : Option Addr) (c : Nat) (d : UInt8) (w : World) (h : MR w A R.length R) (hR : R.length ≤ 9223372036854775807) (hRf : ∀ r ∈ R, r.fs.length ≤ 9223372036854775807 ∧ ∀ f ∈ r.fs, f.length ≤ 9223372036854775807) (hm : Mx w) :
    Calls Tryd.prog 4 #[.slice A R.length c, .int .u8 d.toNat] w fun e w' => e = .returned (.bool true) ∧ Below w.heap.size w w' := by
  have hL := Lib.hid (light_any R A c w h hR hRf)
  have hA := Lib.hid (fun W h => awake_any W h)
  have hmh := Lib.hid hm
  cases hl : ltB R with
  | false =>
    rw [hl] at hL
    generalize R.length = n at *
    clear h hR hRf hm hl
    go_enter Tryd.func4, Tryd.ntmps4
    go_wp2_with fail
    refine hL.out.mono ?_
    rintro e w1 ⟨rfl, hw⟩
    subst hw
    have hA1 := Lib.hid (hA.out _ hmh.out)
    go_wp2_with fail
    refine hA1.out.mono ?_
    rintro e w2 ⟨rfl, hb⟩
    replace hb := Lib.hid hb
    go_wp2
    go_ret
    exact ⟨rfl, hb.out⟩
  | true =>
    rw [hl] at hL
    have hlt := ltB_true hl
    have hF := Lib.hid (format_any R A c d w h hR (fun r hr f hf => by have := (hlt.2 r hr).2 f hf; omega) hm)
    have hG := Lib.hid (fun W hW => rformat_any R A c d W (h.bel hW) hR (fun r hr => (hRf r hr).1) (fun r hr f hf => by have := (hlt.2 r hr).2 f hf; omega))
    generalize (fo d (R.map Row.fs)).1 = T at *
    generalize (fo d (R.map Row.fs)).2 = E at *
    generalize R.length = n at *
    clear h hR hRf hm hl hlt
    go_enter Tryd.func4, Tryd.ntmps4
    go_wp2_with fail
    refine hL.out.mono ?_
    rintro e w1 ⟨rfl, hw⟩
    subst hw
    go_wp2_with fail
    refine hF.out.mono ?_
    rintro e w1 ⟨rfl, hb⟩
    have hG1 := Lib.hid (hG.out _ hb)
    replace hb := Lib.hid hb
    go_wp2_with fail
    refine hG1.out.mono ?_
    rintro e w2 ⟨rfl, hb2⟩
    have hb3 := Lib.hid (hb.out.trans (hb2.mono hb.out.size))
    have hA1 := Lib.hid (hA.out _ (hmh.out.bel hb3.out))
    clear hb2 hb
    have heq := str_eq (x := T) rfl
    go_wp2_with fail
    refine hA1.out.mono ?_
    rintro e w3 ⟨rfl, hb4⟩
    have hb5 := Lib.hid (hb3.out.trans (hb4.mono hb3.out.size))
    clear hb4 hb3
    go_wp2
    go_ret
    exact ⟨rfl, hb5.out⟩

/-- The delimiter of a number. -/
def pick (u : UInt8) : UInt8 := if u.toNat % 4 = 0 then 44 else if u.toNat % 4 = 1 then 59 else if u.toNat % 4 = 2 then 9 else 124
theorem pick_isD (u : UInt8) : isD (pick u) = true := by
  unfold pick
  split
  · rfl
  · split
    · rfl
    · split <;> rfl
/-- The cell of the list of delimiters that is taken. -/
theorem pick_cell (u : UInt8) (W : World) : (W.alloc (.cells #[.int .u8 44, .int .u8 59, .int .u8 9, .int .u8 124] 5)).cell? ⟨W.heap.size, u.toNat % 4, none⟩ = some (.int .u8 ((pick u).toNat : Int)) := by
  rw [cell_of_row _ W.heap.size _ #[.int .u8 44, .int .u8 59, .int .u8 9, .int .u8 124] 5 (0, 0) (heap_alloc_new W _)]
  unfold pick
  have h : u.toNat % 4 < 4 := Nat.mod_lt _ (by decide)
  generalize u.toNat % 4 = k at *
  match k, h with
  | 0, _ => rfl
  | 1, _ => rfl
  | 2, _ => rfl
  | 3, _ => rfl
theorem fo_ok {d : UInt8} {l : List (List Bs)} (h : (fo d l).2 = 0) : isD d = true ∧ (fo d l).1 = wrL d l ∧ (∀ r ∈ l, r ≠ []) ∧ bigS d l = false := by
  unfold fo at *
  split at h
  · cases h
  · rename_i h1
    split at h
    · cases h
    · rename_i h2
      split at h
      · cases h
      · rename_i h3
        rw [if_neg h1, if_neg h2, if_neg h3]
        refine ⟨by cases hx : isD d with
          | true => rfl
          | false => exact absurd hx h1, rfl, fun r hr e => ?_, by cases hx : bigS d l with
          | false => rfl
          | true => exact absurd hx h3⟩
        have h4 : l.any (fun r => decide (r.length = 0)) = false := by cases hx : l.any (fun r => decide (r.length = 0)) with
          | false => rfl
          | true => exact absurd hx h2
        have := List.any_eq_false.1 h4 r hr
        rw [e] at this
        simp at this
theorem fo_bad {d : UInt8} {l : List (List Bs)} (h : ¬ (fo d l).2 = 0) : (fo d l).1 = [] := by
  unfold fo at *
  split at h
  · rename_i h1; rw [if_pos h1]
  · rename_i h1
    split at h
    · rename_i h2; rw [if_neg h1, if_pos h2]
    · rename_i h2
      split at h
      · rename_i h3; rw [if_neg h1, if_neg h2, if_pos h3]
      · exact absurd rfl h
theorem fo_small {d : UInt8} {l : List (List Bs)} (h : bigS d l = false) : l.length ≤ 1024 ∧ (∀ r ∈ l, r.length ≤ 32) ∧ szL d l ≤ 65536 := by
  unfold bigS at h
  simp only [Bool.or_eq_false_iff, decide_eq_false_iff_not] at h
  refine ⟨by omega, fun r hr => ?_, by omega⟩
  have := List.any_eq_false.1 h.1.2 r hr
  simpa using this
/-- What has been written is read back. -/
theorem po_fo {d : UInt8} {l : List (List Bs)} (h : (fo d l).2 = 0) : po (fo d l).1 d = (l, 0, 0) := by
  obtain ⟨h1, h2, h3, h4⟩ := fo_ok h
  obtain ⟨k1, k2, k3⟩ := fo_small h4
  rw [h2, po_yes h1 (by rw [wrL_len d h3]; omega), parse_wr (dOk_of h1) (fun r hr => ⟨h3 r hr, k2 r hr⟩) k1]
theorem po_len (t : Bs) (d : UInt8) : (po t d).1.length ≤ 1024 := by
  unfold po
  split
  · exact Nat.zero_le _
  · split
    · exact Nat.zero_le _
    · cases hp : parseS d t with
      | ok l => have := recs_len _ _ _ _ hp; simp at this; show l.length ≤ _; omega
      | bad x k => exact Nat.zero_le _
theorem lst_rows {W : World} {b : Nat} {A : Option Addr} {c : Nat} {R : List Row} (h : LstM W b A c R) : ∀ r ∈ R, r.fs.length ≤ 9223372036854775807 := fun r hr => by
  rcases (h.2 r hr).1.2 with ⟨_, h2⟩ | ⟨g, cap, cur, _, _, _, h5, h6, _⟩
  · omega
  · unfold maxLen at h6; omega
end Go.Proofs.YtanipgjojacbfaaDoor
