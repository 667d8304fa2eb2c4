/- Contracts of slices.Clone at limbs and of natural.Sub. -/
import Derived.Test.YtkdeajocogdmgaaDoorWc
namespace Go.Proofs.YtkdeajocogdmgaaDoor
open Go.RowKit

/-- What a function that copies a slice leaves: the limbs xs, in new memory. -/
def RetClone (n : Nat) (xs : List Nat) (w : World) (e : Ending) (w' : World) : Prop :=
  ∃ A c, e = .returned (.slice A n c) ∧ Rd w' A n c xs ∧ (n = 0 ∨ ∃ g, A = some ⟨g, 0, none⟩ ∧ w.heap.size ≤ g ∧ Own w' g xs) ∧ Below w.heap.size w w'

set_option maxHeartbeats 1000000 in
theorem clone_any (A : Option Addr) (n c : Nat) (xs : List Nat) (w : World) (h : Rd w A n c xs) (hn : n ≤ 10000) :
    Calls Tryd.prog 58 #[.slice A n c] w (RetClone n xs w) := by
  rcases A with _ | ad
  · have hq : ∀ W : World, (binOp .eql 22 (.slice none n c) (.slice none 0 0)).run Tryd.prog W = .ok (.bool true) W := fun W => by
      simpa using Lib.run_eql_slice_nil (P := Tryd.prog) W 22 53 none n c 0 0 Tryd.underlying22
    have hx : xs = [] := by
      rcases h.mem with h0 | ⟨b, o, h0, _⟩
      · exact List.eq_nil_of_length_eq_zero (by have := h.len; omega)
      · cases h0
    subst hx
    have hn0 := Lib.hid h.len
    clear h
    go_enter Tryd.func58, Tryd.ntmps58
    go_wp2
    go_ret
    obtain rfl : n = 0 := by have := hn0.out; simpa using this.symm
    exact ⟨none, 0, rfl, Rd.nil_ _ _ _, .inl rfl, Below.refl _ _⟩
  · have hq : ∀ W : World, (binOp .eql 22 (.slice (some ad) n c) (.slice none 0 0)).run Tryd.prog W = .ok (.bool false) W := fun W => by
      simpa using Lib.run_eql_slice_nil (P := Tryd.prog) W 22 53 (some ad) n c 0 0 Tryd.underlying22
    replace h := Lib.hid h
    go_enter Tryd.func58, Tryd.ntmps58
    go_wp2_with (at_builtin; refine wpList_append_u32 _ rfl (.tmp 5) (.tmp 6) rfl w.heap.size _ [] rfl (Gr.made w) ad n c xs rfl (Rd.alloc h.out _) ?c1 ?c2 ?_)
    case c1 => show 0 + n ≤ 100000; omega
    case c2 => show w.heap.size ≤ (w.alloc _).heap.size; simp
    intro v' w' hG hg
    obtain ⟨A', c', hv, hR, hO⟩ := hG.form
    subst hv
    replace hR := Lib.hid hR
    replace hO := Lib.hid hO
    replace hg := Lib.hid (Below.grown ((Below.refl w.heap.size w).alloc (Nat.le_refl _) (.cells #[] 53)) hg (by simp) (by intro k hk; simp [Value.ownBlock] at hk; omega))
    clear hG
    have hl := h.out.len
    subst hl
    go_wp2
    go_ret
    exact ⟨_, _, rfl, hR.out, hO.out, hg.out⟩

set_option maxHeartbeats 1000000 in
theorem sub_lt (A : Option Addr) (n c : Nat) (xs : List Nat) (A' : Option Addr) (n' c' : Nat) (ys : List Nat) (w : World)
    (h1 : Rd w A n c xs) (h2 : Rd w A' n' c' ys) (hn : n ≤ 10000) (hn' : n' ≤ 10000) (hlt : num xs < num ys) :
    Calls Tryd.prog 78 #[.slice A n c, .slice A' n' c'] w fun e w' => e = .returned (.tuple #[.slice none 0 0, .bool false]) ∧ Below w.heap.size w w' := by
  replace h1 := Lib.hid h1
  replace h2 := Lib.hid h2
  have hlt' := Lib.hid hlt
  clear hlt
  go_enter Tryd.func78, Tryd.ntmps78
  go_wp2_with fail
  refine (known_any _ _ _ xs _ h1.out (by omega)).mono ?_
  rintro e w' ⟨B1, n1, c1, rfl, rfl, R1, l1⟩
  replace R1 := Lib.hid R1
  go_wp2_with fail
  refine (known_any _ _ _ ys _ h2.out (by omega)).mono ?_
  rintro e w' ⟨B2, n2, c2, rfl, rfl, R2, l2⟩
  replace R2 := Lib.hid R2
  clear h1 h2
  go_wp2_with fail
  have hc := compare_any _ _ _ _ _ _ _ _ _ R1.out R2.out (by omega) (by omega)
  rw [num_limbs, num_limbs, cmpi_lt (by have := hlt'.out; omega)] at hc
  refine hc.mono ?_
  clear hc
  rintro e w' ⟨rfl, m, rfl⟩
  go_wp2
  go_ret2
  exact ⟨rfl, drewN_below _ _⟩

set_option maxHeartbeats 1000000 in
theorem sub_ge (A : Option Addr) (n c : Nat) (xs : List Nat) (A' : Option Addr) (n' c' : Nat) (ys : List Nat) (w : World)
    (h1 : Rd w A n c xs) (h2 : Rd w A' n' c' ys) (hn : n ≤ 10000) (hn' : n' ≤ 10000) (hge : num ys ≤ num xs) :
    Calls Tryd.prog 78 #[.slice A n c, .slice A' n' c'] w fun e w' => ∃ A n c, e = .returned (.tuple #[.slice A n c, .bool true]) ∧ Rd w' A n c (limbs (num xs - num ys)) ∧ Below w.heap.size w w' := by
  replace h1 := Lib.hid h1
  replace h2 := Lib.hid h2
  have hge' := Lib.hid hge
  clear hge
  go_enter Tryd.func78, Tryd.ntmps78
  go_wp2_with fail
  refine (known_any _ _ _ xs _ h1.out (by omega)).mono ?_
  rintro e w' ⟨B1, n1, c1, rfl, rfl, R1, l1⟩
  replace R1 := Lib.hid R1
  go_wp2_with fail
  refine (known_any _ _ _ ys _ h2.out (by omega)).mono ?_
  rintro e w' ⟨B2, n2, c2, rfl, rfl, R2, l2⟩
  replace R2 := Lib.hid R2
  clear h1 h2
  go_wp2_with fail
  have hc := compare_any _ _ _ _ _ _ _ _ _ R1.out R2.out (by omega) (by omega)
  rw [num_limbs, num_limbs] at hc
  obtain ⟨q, hq, hq0⟩ : ∃ q, cmpi (num xs) (num ys) = q ∧ 0 ≤ q := ⟨_, rfl, by unfold cmpi; have := hge'.out; split; omega; split <;> omega⟩
  rw [hq] at hc
  clear hq
  refine hc.mono ?_
  clear hc
  rintro e w' ⟨rfl, m, rfl⟩
  go_wp2_with fail
  refine (clone_any _ _ _ _ _ (R1.out.drewN m) (by omega)).mono ?_
  rintro e w' ⟨B3, c3, rfl, R3, O3, b3⟩
  replace R3 := Lib.hid R3
  replace b3 : Hid (Below w.heap.size w w') := Lib.hid ((drewN_below w m).trans b3)
  have hq1 : decide (q < 0) = false := by simp; omega
  go_wp2
  go_loopw [6, 21] (fun bv iv wr => ∃ (k br : Nat) (zs : List Nat), k ≤ n1 ∧ iv = .int .i64 k ∧ bv = .int .u64 br ∧ br ≤ 1 ∧ zs.length = n1 ∧ Sm zs ∧ (n1 = 0 ∨ ∃ g, B3 = some ⟨g, 0, none⟩ ∧ w.heap.size ≤ g ∧ Own wr g zs) ∧ Below w.heap.size w wr ∧
      val (zs.take k) + val ((limbs (num ys)).take k) = val ((limbs (num xs)).take k) + 4294967296 ^ k * br ∧ zs.drop k = (limbs (num xs)).drop k)
      (fun _ iv _ => n1 - (intOf iv).toNat)
  case atStart => exact ⟨0, 0, limbs (num xs), Nat.zero_le _, rfl, rfl, by omega, R3.out.len, sm_limbs _, O3, b3.out, by simp [val], rfl⟩
  case round =>
    clear O3
    obtain ⟨k, br, zs, hk, rfl, rfl, hbr, hzl, hzs, hO, hB, hval, hdr⟩ := hrel
    replace hval := Lib.hid hval
    replace hzl := Lib.hid hzl
    replace hO := Lib.hid hO
    replace hB := Lib.hid hB
    replace hdr := Lib.hid hdr
    replace hzs := Lib.hid hzs
    by_cases hlt : k < n1
    · rcases hO.out with h0 | ⟨g, rfl, hg, O⟩
      · omega
      replace O := Lib.hid O
      obtain ⟨hzx, hdr1⟩ := drop_step hdr.out (by rw [hzl.out]; exact hlt) (by rw [R1.out.len]; exact hlt)
      replace hdr1 := Lib.hid hdr1
      obtain ⟨x1, hx1e⟩ : ∃ x1, zs.getD k 0 = x1 := ⟨_, rfl⟩
      have hx1 : x1 < 4294967296 := by rw [← hx1e]; exact sm_get O.out.sm k
      have hcell := O.out.cell (k := k) (by rw [hzl.out]; omega)
      rw [hx1e] at hcell
      have hxe := Lib.hid (hzx.symm.trans hx1e)
      clear hzx hx1e
      have hfz := O.out.frozen k
      by_cases hlt2 : k < n2
      · obtain ⟨b2, o2, y1, rfl, hb2, hy1, hye, hcy2⟩ := (R2.out.base hB.out).at_ hlt2
        replace hye := Lib.hid hye
        obtain ⟨d, b', hd, hb', hdd, he1, he2⟩ := sub_limb x1 br y1 hx1 hbr hy1
        replace hdd := Lib.hid hdd
        replace he1 := Lib.hid he1
        replace he2 := Lib.hid he2
        go_wp2
        go_roundw
        case rel =>
          have O' := O.out.set_ k d hd
          simp only [IntKind.wrap_u64]
          rw [he1.out, he2.out]
          exact ⟨k + 1, b', _, by omega, by go_num, rfl, hb', by rw [List.length_set]; exact hzl.out, O'.sm, .inr ⟨g, rfl, hg, O'⟩, hB.out.setCell hg _, sub_step (by rw [hzl.out]; omega) hval.out hxe.out hye.out hdd.out, by rw [drop_set_succ]; exact hdr1.out⟩
        case measure => simp [intOf]; omega
      · have hye := Lib.hid (getD_none (X := limbs (num ys)) (k := k) (by rw [R2.out.len]; omega))
        obtain ⟨d, b', hd, hb', hdd, he1, he2⟩ := sub_limb x1 br 0 hx1 hbr (by omega)
        replace hdd := Lib.hid hdd
        replace he1 := Lib.hid he1
        replace he2 := Lib.hid he2
        go_wp2
        go_roundw
        case rel =>
          have O' := O.out.set_ k d hd
          simp only [IntKind.wrap_u64]
          have e1 := he1.out
          have e2 := he2.out
          simp only [Int.natCast_zero, Int.sub_zero, Int.emod_emod] at e1 e2
          rw [e1, e2]
          exact ⟨k + 1, b', _, by omega, by go_num, rfl, hb', by rw [List.length_set]; exact hzl.out, O'.sm, .inr ⟨g, rfl, hg, O'⟩, hB.out.setCell hg _, sub_step (by rw [hzl.out]; omega) hval.out hxe.out hye.out hdd.out, by rw [drop_set_succ]; exact hdr1.out⟩
        case measure => simp [intOf]; omega
    · obtain rfl : k = n1 := by omega
      have R : Rd wr B3 k c3 zs := by
        rcases hO.out with h0 | ⟨g, rfl, hg, O⟩
        · subst h0
          rw [List.eq_nil_of_length_eq_zero hzl.out]
          exact Rd.nil_ _ _ _
        · exact O.rdn hzl.out R3.out.cap
      replace R := Lib.hid R
      go_wp2_with fail
      refine (trim_any _ _ _ zs _ R.out (by omega)).mono ?_
      rintro e w' ⟨n', rfl, rfl, R4⟩
      replace R4 := Lib.hid R4
      go_wp2
      go_ret2
      exact ⟨_, _, _, rfl, by have := R4.out; rw [sub_last hzl.out hzs.out hval.out R1.out.len hge'.out] at this; exact this, hB.out⟩

end Go.Proofs.YtkdeajocogdmgaaDoor
