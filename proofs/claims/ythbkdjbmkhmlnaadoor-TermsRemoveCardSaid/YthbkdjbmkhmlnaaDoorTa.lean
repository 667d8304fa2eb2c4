/- The reference's * and /. -/
import Derived.Test.YthbkdjbmkhmlnaaDoorB27
namespace Go.Proofs.YthbkdjbmkhmlnaaDoor
open Go.RowKit
set_option linter.unusedVariables false

theorem SlU.old {w W : World} {v : Value} {L : List Nat} (h : SlU w W v L) : Below w.heap.size w W := by
  obtain ⟨A, c, _, _, _, h3⟩ := h
  exact h3
set_option maxRecDepth 100000 in
set_option maxHeartbeats 4000000 in
theorem rstar_any (a b : List Nat) (A : Option Addr) (n c : Nat) (B : Option Addr) (m d : Nat) (w : World) (h : LR uC w A n a) (hB : LR uC w B m b) (hn : n ≤ 100) (hm : m ≤ 100) (ha : U64 a) (hb : U64 b) : Calls Tryd.prog 65 #[.slice A n c, .slice B m d] w fun e w' => ∃ v, e = .returned v ∧ SlU w w' v (F10.str a b) := by
  have hP := Lib.hid (rplus_u a b A n c B m d w h hB (by omega) (by omega))
  have hC := Lib.hid (fun W (hW : Below w.heap.size w W) => rcross_any a b A n c B m d W (h.bel hW) (hB.bel hW) hn hm ha hb)
  have l1 : (F10.pls a b).length ≤ 200 := by have := pls_len b a; have := h.len; have := hB.len; omega
  have l2 : (F10.crs a b).length ≤ 10000 := by
    refine Nat.le_trans (crs_len a b) ?_
    rw [h.len, hB.len]
    exact Nat.le_trans (Nat.mul_le_mul hn hm) (by decide)
  unfold F10.str
  generalize F10.pls a b = p at *
  generalize F10.crs a b = q at *
  replace l1 := Lib.hid l1
  replace l2 := Lib.hid l2
  clear h hB hn hm ha hb
  go_enter Tryd.func65, Tryd.ntmps65
  go_wp2_with fail
  refine hP.out.mono ?_
  rintro e w1 ⟨v1, rfl, A1, c1, rfl, hc1, hl1, B1⟩
  obtain ⟨k1, hk1⟩ : ∃ k, k = p.length := ⟨_, rfl⟩
  rw [← hk1] at hl1 hc1 l1
  rw [← hk1]
  replace hl1 := Lib.hid hl1
  replace B1 := Lib.hid B1
  clear hP hc1 hk1
  go_wp2_with fail
  refine (hC.out w1 B1.out).mono ?_
  rintro e w2 ⟨v2, rfl, A2, c2, rfl, hc2, hl2, B2⟩
  obtain ⟨k2, hk2⟩ : ∃ k, k = q.length := ⟨_, rfl⟩
  rw [← hk2] at hl2 hc2 l2
  rw [← hk2]
  have hQ := Lib.hid (rplus_u p q A1 k1 c1 A2 k2 c2 w2 (hl1.out.bel B2) hl2 (by have := l1.out; omega) (by have := l2.out; omega))
  have BB := Lib.hid (B1.out.trans (B2.mono B1.out.size))
  clear hC hc2 hk2 hl2 B2 hl1 B1
  go_wp2_with fail
  refine hQ.out.mono ?_
  rintro e w3 ⟨v3, rfl, hU⟩
  have hU2 := Lib.hid (hU.rebase BB.out)
  clear hU hQ
  go_wp2
  go_ret
  exact ⟨_, rfl, hU2.out⟩
set_option maxRecDepth 100000 in
set_option maxHeartbeats 4000000 in
theorem rnest_any (a b : List Nat) (A : Option Addr) (n c : Nat) (B : Option Addr) (m d : Nat) (w : World) (h : LR uC w A n a) (hB : LR uC w B m b) (hn : n ≤ 100) (hm : m ≤ 100) (ha : U64 a) (hb : U64 b) : Calls Tryd.prog 67 #[.slice A n c, .slice B m d] w fun e w' => ∃ v, e = .returned v ∧ SlU w w' v (F10.nst a b) := by
  have hC := Lib.hid (fun W B' d' (hW : Below w.heap.size w W) (hO : LR uC W B' 1 [F10.whl a]) => rcross_any [F10.whl a] b B' 1 d' B m d W hO (hB.bel hW) (by decide) hm (fun t ht => by rw [List.mem_singleton.1 ht]; exact u64_whl ha) hb)
  have l2 : (F10.crs [F10.whl a] b).length ≤ 100 := by
    refine Nat.le_trans (crs_len _ b) ?_
    rw [hB.len]; simp; omega
  have hlen := Lib.hid h.len
  have hnn := Lib.hid hn
  replace l2 := Lib.hid l2
  replace h := Lib.hid h
  replace ha := Lib.hid ha
  clear hB hn hm hb
  go_enter Tryd.func67, Tryd.ntmps67
  go_wp2
  go_loopw [5, 6] (fun tv iv wr => ∃ (i : Nat) (t : Nat), i ≤ n ∧ iv = .int .i64 i ∧ tv = .int .u64 (t : Int) ∧ wr = w ∧ t < 18446744073709551616 ∧ F10.whl a = (a.drop i).foldl (· ||| ·) t) (fun _ iv _ => n - (intOf iv).toNat)
  case atStart => exact ⟨0, 0, Nat.zero_le _, rfl, rfl, rfl, by decide, rfl⟩
  case round =>
    obtain ⟨i, t, hin, rfl, rfl, rfl, ht, hall⟩ := hrel
    by_cases hlt : i < n
    · obtain ⟨b0, o, x, rfl, hx, hxm, e0⟩ := u_get h.out hlt
      have hor := u64_or_nat t x ht (ha.out x hxm)
      have hlt2 : Hid (t ||| x < 18446744073709551616) := Lib.hid (Nat.or_lt_two_pow (n := 64) ht (ha.out x hxm))
      have hal : Hid (F10.whl a = (a.drop (i + 1)).foldl (· ||| ·) (t ||| x)) := Lib.hid (by
        rw [hall, drop_cons_of hx]; rfl)
      have hih := Lib.hid hlt
      have g1 : (i : Int) < (n : Int) := by omega
      have g2 : (0 : Int) ≤ (i : Int) := by omega
      clear hlt hin hx hxm ht hall
      have hbb := hnn.out
      have hlt := hih.out
      go_wp2
      go_roundw
      case rel => exact ⟨i + 1, t ||| x, by omega, by go_num, rfl, (by first | rfl | trivial), hlt2.out, hal.out⟩
      case measure => simp [intOf]; omega
    · obtain rfl : i = n := by omega
      have hfin : F10.whl a = t := by rw [hall, List.drop_eq_nil_of_le (by rw [hlen.out]; exact Nat.le_refl _)]; rfl
      have hnst : Hid (F10.nst a b = F10.pls a (F10.crs [t] b)) := Lib.hid (by unfold F10.nst; rw [hfin])
      rw [hfin] at hC l2
      have SA := Lib.hid ((St.new wr).alloc #[.int .u64 (t : Int)] 64 (noLof rfl))
      have hone := Lib.hid (St_glr (C := uC) (L := [t]) SA.out 1 rfl (fun _ _ => trivial))
      have hCC := Lib.hid (hC.out _ (some ⟨wr.heap.size, 0, none⟩) 1 SA.out.bel hone.out)
      have hB1 := Lib.hid SA.out.bel
      clear hin hlt ht hall hfin hC hone SA
      generalize F10.crs [t] b = q at *
      go_wp2_with fail
      refine hCC.out.mono ?_
      rintro e w2 ⟨v2, rfl, A2, c2, rfl, hc2, hl2, B2⟩
      obtain ⟨k2, hk2⟩ : ∃ k, k = q.length := ⟨_, rfl⟩
      rw [← hk2] at hl2 hc2 l2
      rw [← hk2]
      have BB := Lib.hid (hB1.out.trans (B2.mono hB1.out.size))
      have hQ := Lib.hid (rplus_u a q A i c A2 k2 c2 w2 (h.out.bel BB.out) hl2 (by have := hnn.out; omega) (by have := l2.out; omega))
      clear hCC hc2 hk2 hl2 B2
      go_wp2_with fail
      refine hQ.out.mono ?_
      rintro e w3 ⟨v3, rfl, hU⟩
      have hU2 := Lib.hid (hU.rebase BB.out)
      clear hU hQ
      go_wp2
      go_ret
      exact ⟨_, rfl, by rw [hnst.out]; exact hU2.out⟩
end Go.Proofs.YthbkdjbmkhmlnaaDoor
