/- The reference's Floor, Abs, FromInt of rational. -/
import Derived.Test.YtlflaalefilplaaDoorM11
namespace Go.Proofs.YtlflaalefilplaaDoor
open Go.RowKit RQ
theorem res_rfromIntR (W : World) (tmps : Array Value) (g t : Nat) {v0 v1 v2 : Value} (ht : tmps.getD 2 undef = .pointer (some ⟨g, 0, none⟩)) (h : Cb W g #[v0, v1, v2] t) :
    (results Tryd.f19 tmps).run Tryd.prog W = .ok (.agg #[v0, v1, v2]) W := by
  have c0 : W.cell? ⟨g, 0, none⟩ = some v0 := h.cell rfl
  have c1 : W.cell? ⟨g, 1, none⟩ = some v1 := h.cell rfl
  have c2 : W.cell? ⟨g, 2, none⟩ = some v2 := h.cell rfl
  have ht' : tmps[2]?.getD undef = .pointer (some ⟨g, 0, none⟩) := by rw [← ht]; simp [Array.getD_eq_getD_getElem?]
  simp [results, Tryd.results19, go_sem, ht', c0, c1, c2]
set_option maxHeartbeats 4000000 in
theorem FfromInt_any (v : Int) (w : World) (h0 : -9223372036854775808 ≤ v) (h1 : v ≤ 9223372036854775807) :
    Calls Tryd.prog 19 #[.int .i64 v] w (RetR (v : Rat) w) := by
  have hF := Lib.hid (fun W => rfromInt_any v W h0 h1)
  have S : St w _ [(w.heap.size, #[.bool false, .slice none 0 0, .slice none 0 0], 44)] [] := ((St.new w).allocAt (w.heap.size) #[.bool false, .slice none 0 0, .slice none 0 0] 44 (noL3 _ _ _ _ _ _ _) (by simp))
  replace S := Lib.hid S
  clear h0 h1
  go_enter Tryd.func19, Tryd.ntmps19
  go_wp2_with fail
  refine (hF.out _).mono ?_
  rintro e w1 ⟨A1, n1, c1, rfl, Q1, bb⟩
  have T := ((S.out.call bb).read Q1)
  clear bb S
  have S := T
  clear T
  have c_r0 := S.cl 0 0 rfl rfl
  have f_r0 := S.f 0 0 rfl
  have c_r1 := S.cl 0 1 rfl rfl
  have f_r1 := S.f 0 1 rfl
  have c_r2 := S.cl 0 2 rfl rfl
  have f_r2 := S.f 0 2 rfl
  have hz : w.heap.size < w1.heap.size := S.lt 0 rfl
  replace S := Lib.hid S
  clear Q1 hF
  have S : St w _ [(w.heap.size, #[.bool (ng v), .slice A1 n1 c1, .slice none 0 0], 44)] [(A1, n1, c1, limbs v.natAbs)] := (((S.out.set 0 0 (.bool (ng v)) rfl (by nofun)).set 0 1 (.slice A1 n1 c1) rfl (by nofun)).set 0 2 (.slice none 0 0) rfl (by nofun))
  replace S := Lib.hid S
  go_wp2
  refine bodyPost_ret (res_rfromIntR _ _ (w.heap.size) 44 rfl (S.out.bk _ (List.mem_of_getElem? (i := 0) rfl)).1) rfl ?_
  exact ⟨_, _, _, _, _, _, rfl, int_RR (S.out.r 0 rfl), S.out.bel⟩
end Go.Proofs.YtlflaalefilplaaDoor
