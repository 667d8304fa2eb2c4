/- Contracts of the reference's Take, trim, FromUint, compare and Compare. -/
import Derived.Test.YtkdeajocogdmgaaDoorWp
namespace Go.Proofs.YtkdeajocogdmgaaDoor
open Go.RowKit

set_option maxHeartbeats 400000 in
theorem rtrim_any (A : Option Addr) (n c : Nat) (xs : List Nat) (w : World) (h : Rd w A n c xs) (hn : n ≤ 100000) :
    Calls Tryd.prog 90 #[.slice A n c] w fun e w' => ∃ n', e = .returned (.slice A n' c) ∧ w = w' ∧ Rd w A n' c (limbs (val xs)) := by
  have hcap := h.cap
  have hl := h.len
  have R : Rd w A (tl xs n) c (limbs (val xs)) := by
    have := h.take (tl_le xs n)
    rw [tl_limbs h.sm n (by omega), ← hl, List.take_length, hl] at this
    exact this
  have R := Lib.hid R
  have HH := Lib.hid h
  clear h hl
  go_enter Tryd.func90, Tryd.ntmps90
  go_wp2
  go_loop [0] (fun s => ∃ k : Nat, k ≤ n ∧ s = .slice A k c ∧ tl xs k = tl xs n) (fun s => match s with | .slice _ k _ => k | _ => 0)
  case atStart => exact ⟨n, Nat.le_refl _, rfl, rfl⟩
  case round =>
    obtain ⟨k, hk, rfl, ht⟩ := hrel
    have ht := Lib.hid ht
    by_cases h0 : k = 0
    · subst h0
      have hg : ((0:Int) > 0) = False := by simp
      go_wp2
      go_ret
      exact ⟨0, rfl, rfl, by have := R.out; rw [← ht.out] at this; exact this⟩
    · obtain ⟨m, rfl⟩ : ∃ m, k = m + 1 := ⟨k - 1, by omega⟩
      obtain ⟨b, o, x, rfl, hb, hx, hxs, hc⟩ := HH.out.at_ (k := m) (by omega)
      have hxs := Lib.hid hxs
      clear h0
      have hg : (0:Int) < (m : Int) + 1 := by omega
      have hg2 : decide ((0:Int) < (m : Int) + 1) = true := decide_eq_true hg
      by_cases hx0 : x = 0
      · have hx1 : ((x : Int) == 0) = true := by simp; omega
        have e : tl xs (m + 1) = tl xs m := by rw [tl, if_pos (by rw [hxs.out]; exact hx0)]
        have e := Lib.hid e
        clear hx0
        go_wp2
        go_round
        case rel => exact ⟨m, by omega, rfl, by rw [← e.out]; exact ht.out⟩
        case measure => simp
      · have hx1 : ((x : Int) == 0) = false := by simp; omega
        have e : tl xs (m + 1) = m + 1 := by rw [tl, if_neg]; rw [hxs.out]; exact hx0
        have e := Lib.hid e
        clear hx0
        go_wp2
        go_ret
        exact ⟨m + 1, rfl, rfl, by have := R.out; rw [← ht.out, e.out] at this; exact this⟩

set_option maxHeartbeats 1000000 in
theorem rfromUint_any (v : Nat) (w : World) (hv : v < 18446744073709551616) :
    Calls Tryd.prog 57 #[.int .u64 v] w (RetN v w) := by
  have O := Own.lit w [v % 4294967296, v / 4294967296] (by intro x hx; simp at hx; omega)
  have hval : val [v % 4294967296, v / 4294967296] = v := by simp [val]; omega
  have h1 : (v : Int) / 4294967296 < 4294967296 := by omega
  have h0 : (0 : Int) ≤ v := by omega
  replace hval := Lib.hid hval
  replace hv := Lib.hid hv
  replace O := Lib.hid O
  go_enter Tryd.func57, Tryd.ntmps57
  go_wp2_with fail
  have R := O.out.rd0 2 (by simp)
  simp only [List.map, u32, Int.natCast_emod, Int.natCast_ediv, List.length] at R
  refine (rtrim_any _ _ _ _ _ R (by omega)).mono ?_
  rintro e w' ⟨n', rfl, rfl, R2⟩
  replace R2 := Lib.hid R2
  go_wp2
  go_ret
  exact ⟨_, _, _, rfl, by have := R2.out; rw [hval.out] at this; exact this, (Below.refl _ _).alloc (Nat.le_refl _) _⟩


set_option maxHeartbeats 1000000 in
theorem take_any (A : Option Addr) (n c : Nat) (xs : List Nat) (w : World) (h : Rd w A n c xs) (hn : n ≤ 10000) :
    Calls Tryd.prog 64 #[.slice A n c] w fun e w' => ∃ A' n' c', e = .returned (.slice A' n' c') ∧ Rd w' A' n' c' (limbs (num xs)) ∧ Below w.heap.size w w' ∧ n' ≤ n := by
  have hv := rvalid_any A n c xs w h (by omega)
  have hk := kn_limbs h.sm
  cases hb : vldB xs
  · rw [hb] at hv
    have R : Rd w none 0 0 (limbs (num xs)) := by rw [← hk]; unfold kn; rw [hb]; exact Rd.nil_ w 0 none
    replace R := Lib.hid R
    replace hv := Lib.hid hv
    clear hk hb h
    go_enter Tryd.func64, Tryd.ntmps64
    go_wp2_with fail
    refine (hv.out).mono ?_
    rintro e w' ⟨rfl, hw⟩
    have hw := hw.symm
    subst hw
    go_wp2
    go_ret
    exact ⟨none, 0, 0, rfl, R.out, Below.refl _ _, Nat.zero_le _⟩
  · rw [hb] at hv
    have e : limbs (num xs) = xs := by rw [← hk]; unfold kn; rw [hb]; rfl
    rw [e]
    replace hv := Lib.hid hv
    have hl := h.len
    clear hk hb e
    rcases A with _ | ad
    · have hx : xs = [] := by
        rcases h.mem with h0 | ⟨b, o, h0, _⟩
        · exact List.eq_nil_of_length_eq_zero (by omega)
        · cases h0
      subst hx
      obtain rfl : n = 0 := by simpa using hl.symm
      clear h hl
      go_enter Tryd.func64, Tryd.ntmps64
      go_wp2_with fail
      refine (hv.out).mono ?_
      rintro e w' ⟨rfl, hw⟩
      have hw := hw.symm
      subst hw
      go_wp2
      go_ret
      exact ⟨none, 0, 0, rfl, Rd.nil_ _ _ _, Below.refl _ _, Nat.zero_le _⟩
    · replace h := Lib.hid h
      replace hl := Lib.hid hl
      go_enter Tryd.func64, Tryd.ntmps64
      go_wp2_with fail
      refine (hv.out).mono ?_
      rintro e w' ⟨rfl, hw⟩
      have hw := hw.symm
      subst hw
      go_wp2_with (at_builtin; refine wpList_append_u32 _ rfl (.const (.slice none 0 0)) (.tmp 6) rfl w.heap.size _ [] rfl (Gr.nil_ w _) ad n c xs rfl h.out ?c1 ?c2 ?_)
      case c1 => show 0 + n ≤ 100000; omega
      case c2 => exact Nat.le_refl _
      intro v' w' hG hg
      obtain ⟨A', c', hv', hR, _⟩ := hG.form
      subst hv'
      have hl2 := hl.out
      subst hl2
      replace hR := Lib.hid hR
      replace hg := Lib.hid (Below.grown (Below.refl w.heap.size w) hg (Nat.le_refl _) (by intro k hk; simp [Value.ownBlock] at hk))
      clear hG
      go_wp2
      go_ret
      exact ⟨_, _, _, rfl, hR.out, hg.out, Nat.le_refl _⟩

set_option maxHeartbeats 1000000 in
theorem rcmp_any (A : Option Addr) (n c : Nat) (x : Nat) (A' : Option Addr) (n' c' : Nat) (y : Nat) (w : World)
    (R1 : Rd w A n c (limbs x)) (R2 : Rd w A' n' c' (limbs y)) (hn : n ≤ 10000) (hn' : n' ≤ 10000) :
    Calls Tryd.prog 97 #[.slice A n c, .slice A' n' c'] w fun e w' => e = .returned (.int .i64 (cmpi x y)) ∧ ∃ m, w' = w.drewN m := by
  replace R1 := Lib.hid R1
  replace R2 := Lib.hid R2
  by_cases hne : n = n'
  · subst hne
    have hne0 : ((n : Int) != (n : Int)) = false := by simp
    go_enter Tryd.func97, Tryd.ntmps97
    go_wp2
    go_loopw [5] (fun iv wr => ∃ (i : Int) (k m : Nat), k ≤ n ∧ i + 1 = k ∧ iv = .int .i64 i ∧ wr = w.drewN m ∧ (limbs x).drop k = (limbs y).drop k) (fun iv _ => (intOf iv + 1).toNat)
    case atStart => exact ⟨_, n, 0, Nat.le_refl _, by omega, rfl, rfl, by rw [List.drop_of_length_le (by rw [R1.out.len]; omega), List.drop_of_length_le (by rw [R2.out.len]; omega)]⟩
    case round =>
      obtain ⟨i, k, m, hk, hik, rfl, rfl, hd⟩ := hrel
      replace hd := Lib.hid hd
      by_cases h0 : k = 0
      · subst h0
        have hxy : x = y := limbs_inj (by simpa using hd.out)
        have hcmp := Lib.hid (cmpi_eq (a := x) (b := y) (by omega))
        obtain rfl : i = -1 := by omega
        clear hik hd hxy
        go_wp2
        go_ret
        rw [hcmp.out]; exact ⟨rfl, _, rfl⟩
      · obtain ⟨j, rfl⟩ : ∃ j, k = j + 1 := ⟨k - 1, by omega⟩
        obtain rfl : i = j := by omega
        obtain ⟨b1, o1, x1, rfl, hb1, hx1, hxe, hcx⟩ := R1.out.at_ (k := j) (by omega)
        obtain ⟨b2, o2, y1, rfl, hb2, hy1, hye, hcy⟩ := R2.out.at_ (k := j) (by omega)
        replace hxe := Lib.hid hxe
        replace hye := Lib.hid hye
        clear hik h0
        have g1 : (0 : Int) ≤ (j : Int) := by omega
        have g2 : (j : Int) < (n : Int) := by omega
        by_cases hlt : x1 < y1
        · have hcm : cmpi x y = -1 := by
            rw [cmp_at (by rw [R1.out.len]; omega) (by rw [R2.out.len]; omega) hd.out hxe.out hye.out (by omega) (sm_limbs _) (sm_limbs _)]
            exact cmpi_lt (by omega)
          replace hcm := Lib.hid hcm
          go_wp2
          go_quiet (fail)
          go_wp2
          go_ret
          rw [hcm.out]; exact ⟨rfl, _, by rw [World.drewN_drewN]⟩
        · by_cases hgt : y1 < x1
          · have hcm : cmpi x y = 1 := by
              rw [cmp_at (by rw [R1.out.len]; omega) (by rw [R2.out.len]; omega) hd.out hxe.out hye.out (by omega) (sm_limbs _) (sm_limbs _)]
              exact cmpi_gt (by omega)
            replace hcm := Lib.hid hcm
            go_wp2
            go_quiet (fail)
            go_wp2
            go_quiet (fail)
            go_wp2
            go_ret
            rw [hcm.out]; exact ⟨rfl, _, by rw [World.drewN_drewN, World.drewN_drewN]⟩
          · have hd2 := Lib.hid (drop_same (by rw [R1.out.len]; omega) (by rw [R2.out.len]; omega) hd.out (hxe.out.trans ((show x1 = y1 by omega).trans hye.out.symm)))
            go_wp2
            go_quiet (fail)
            go_wp2
            go_quiet (fail)
            go_wp2
            go_roundw
            case rel => exact ⟨_, j, _, by omega, by omega, rfl, rfl, hd2.out⟩
            case measure => simp [intOf]
  · have hc : cmpi x y = cmpi n n' := cmp_len R1.out.len R2.out.len hne
    have ht : ((n : Int) != (n' : Int)) = true := by simp; omega
    by_cases hlt : n < n'
    · rw [hc, cmpi_lt (by omega)]
      clear hne hc
      go_enter Tryd.func97, Tryd.ntmps97
      go_wp2
      go_ret
      exact ⟨rfl, 0, rfl⟩
    · rw [hc, cmpi_gt (by omega)]
      clear hc
      go_enter Tryd.func97, Tryd.ntmps97
      go_wp2
      go_ret
      exact ⟨rfl, 0, rfl⟩

theorem rcmp_b (A : Option Addr) (n c : Nat) (x : Nat) (A' : Option Addr) (n' c' : Nat) (y : Nat) (w : World)
    (h1 : Rd w A n c (limbs x)) (h2 : Rd w A' n' c' (limbs y)) (hn : n ≤ 10000) (hn' : n' ≤ 10000) (q : Int) (hq : cmpi x y = q) :
    Calls Tryd.prog 97 #[.slice A n c, .slice A' n' c'] w fun e w' => e = .returned (.int .i64 q) ∧ Below w.heap.size w w' := by
  have := rcmp_any A n c x A' n' c' y w h1 h2 hn hn'
  rw [hq] at this
  refine this.mono ?_
  rintro e w' ⟨he, m, rfl⟩
  exact ⟨he, drewN_below w m⟩

end Go.Proofs.YtkdeajocogdmgaaDoor
