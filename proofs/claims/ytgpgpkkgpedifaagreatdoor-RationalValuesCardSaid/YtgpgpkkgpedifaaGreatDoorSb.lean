/- The reference's Den; the law RationalIsInLowestTerms. -/
import Derived.Test.YtgpgpkkgpedifaaGreatDoorQSaz
namespace Go.Proofs.YtgpgpkkgpedifaaGreatDoor
open Go.RowKit RQ
theorem res_rden (W : World) (tmps : Array Value) (g t : Nat) {v0 v1 : Value} (ht : tmps.getD 2 undef = .pointer (some ⟨g, 0, none⟩)) (h : Cb W g #[v0, v1] t) :
    (results Tryz.f74 tmps).run Tryz.prog W = .ok (.agg #[v0, v1]) W := by
  have c0 : W.cell? ⟨g, 0, none⟩ = some v0 := h.cell rfl
  have c1 : W.cell? ⟨g, 1, none⟩ = some v1 := h.cell rfl
  have ht' : tmps[2]?.getD undef = .pointer (some ⟨g, 0, none⟩) := by rw [← ht]; simp [Array.getD_eq_getD_getElem?]
  simp [results, Tryz.results74, go_sem, ht', c0, c1]

set_option maxHeartbeats 2000000 in
theorem rden_any (q : Rat) (A : Option Addr) (n c : Nat) (D : Option Addr) (m d : Nat) (w : World) (R : RR w A n c D m d q) (hm : m ≤ 10000) :
    Calls Tryz.prog 74 #[.agg #[.bool (ng q.num), .slice A n c, .slice D m d]] w (RetU q.den w) := by
  obtain ⟨h0, h1⟩ := dn_len0 R.d.len
  have R2 := R.d
  by_cases hm0 : m = 0
  · have e1 : q.den = 1 := by have := h0 hm0; omega
    have h2 : ((m : Int) == 0) = true := by rw [beq_iff_eq]; omega
    have e2 : limbs q.den = [1] := by rw [e1, limbs_is1]
    have S0 : St w _ _ _ := (St.new w).allocAt (w.heap.size) #[.bool (ng q.num), .slice A n c, .slice D m d] 26 (noL3 _ _ _ _ _ _ _) rfl
    have S1 := S0.allocAt (w.heap.size + 1) #[.bool false, .slice (some ⟨w.heap.size + 1 + 1, 0, none⟩) 1 1] 24 (noL2 _ _ _ _) (by simp)
    have hb : ((w.alloc (.cells #[.bool (ng q.num), .slice A n c, .slice D m d] 26)).alloc (.cells #[.bool false, .slice (some ⟨w.heap.size + 1 + 1, 0, none⟩) 1 1] 24)).heap.size = w.heap.size + 1 + 1 := by simp
    have O := (Own.lit ((w.alloc (.cells #[.bool (ng q.num), .slice A n c, .slice D m d] 26)).alloc (.cells #[.bool false, .slice (some ⟨w.heap.size + 1 + 1, 0, none⟩) 1 1] 24)) [1] (by intro x hx; simp at hx; omega)).rd0 1 (Nat.le_refl 1)
    rw [hb] at O
    have B2 := (Below.refl ((w.alloc (.cells #[.bool (ng q.num), .slice A n c, .slice D m d] 26)).alloc (.cells #[.bool false, .slice (some ⟨w.heap.size + 1 + 1, 0, none⟩) 1 1] 24)).heap.size _).alloc (Nat.le_refl _) (.cells #[.int .u32 1] 49)
    have S2 := Lib.hid ((S1.call B2).read O)
    replace e2 := Lib.hid e2
    clear R R2 h0 h1 hm0 e1 S0 S1 O B2 hb hm
    go_enter Tryz.func74, Tryz.ntmps74
    go_wp2
    refine bodyPost_ret (res_rden _ _ (w.heap.size + 1) 24 rfl (S2.out.bk _ (List.mem_of_getElem? (i := 0) rfl)).1) rfl ?_
    exact ⟨_, _, _, rfl, by rw [e2.out]; exact S2.out.r 0 rfl, S2.out.bel⟩
  · have e1 := h1 hm0
    rw [e1] at R2
    have h2 : ((m : Int) == 0) = false := by rw [beq_eq_false_iff_ne]; omega
    have hT := fun W h => take_any D m d (limbs q.den) W h hm
    rw [num_limbs] at hT
    replace hT := Lib.hid hT
    clear h0 h1 hm0 R e1 hm
    have S : St w _ [(w.heap.size + 1, #[.bool false, .slice none 0 0], 24), (w.heap.size, #[.bool (ng q.num), .slice A n c, .slice D m d], 26)] [(D, m, d, limbs q.den)] := ((((St.new w).read R2).allocAt (w.heap.size) #[.bool (ng q.num), .slice A n c, .slice D m d] 26 (noL3 _ _ _ _ _ _ _) (by simp)).allocAt (w.heap.size + 1) #[.bool false, .slice none 0 0] 24 (noL2 _ _ _ _) (by simp))
    replace S := Lib.hid S
    clear R2
    go_enter Tryz.func74, Tryz.ntmps74
    go_wp2_with fail
    refine (hT.out _ (S.out.r 0 rfl)).mono ?_
    rintro e w1 ⟨A1, n1, c1, rfl, Q, bb, _⟩
    have T := ((S.out.call bb).read Q)
    clear bb S
    have S := T
    clear T
    have c_r0 := S.cl 0 0 rfl rfl
    have f_r0 := S.f 0 0 rfl
    have c_r1 := S.cl 0 1 rfl rfl
    have f_r1 := S.f 0 1 rfl
    have c_x0 := S.cl 1 0 rfl rfl
    have f_x0 := S.f 1 0 rfl
    have c_x1 := S.cl 1 1 rfl rfl
    have f_x1 := S.f 1 1 rfl
    have c_x2 := S.cl 1 2 rfl rfl
    have f_x2 := S.f 1 2 rfl
    have hz : w.heap.size + 1 < w1.heap.size := S.lt 0 rfl
    replace S := Lib.hid S
    clear Q
    have S : St w _ [(w.heap.size + 1, #[.bool false, .slice A1 n1 c1], 24), (w.heap.size, #[.bool (ng q.num), .slice A n c, .slice D m d], 26)] [(A1, n1, c1, limbs q.den), (D, m, d, limbs q.den)] := ((S.out.set 0 0 (.bool false) rfl (by nofun)).set 0 1 (.slice A1 n1 c1) rfl (by nofun))
    replace S := Lib.hid S
    go_wp2
    refine bodyPost_ret (res_rden _ _ (w.heap.size + 1) 24 rfl (S.out.bk _ (List.mem_of_getElem? (i := 0) rfl)).1) rfl ?_
    exact ⟨_, _, _, rfl, S.out.r 0 rfl, S.out.bel⟩

end Go.Proofs.YtgpgpkkgpedifaaGreatDoor
