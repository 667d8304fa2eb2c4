/- The reference's Den; the law RationalIsInLowestTerms. -/
import Derived.Test.YtgaigebdbmohcaaGreatDoorSa
namespace Go.Proofs.YtgaigebdbmohcaaGreatDoor
open Go.RowKit RQ
theorem res_rden (W : World) (tmps : Array Value) (g t : Nat) {v0 v1 : Value} (ht : tmps.getD 2 undef = .pointer (some ⟨g, 0, none⟩)) (h : Cb W g #[v0, v1] t) :
    (results Tryz.f51 tmps).run Tryz.prog W = .ok (.agg #[v0, v1]) W := by
  have c0 : W.cell? ⟨g, 0, none⟩ = some v0 := h.cell rfl
  have c1 : W.cell? ⟨g, 1, none⟩ = some v1 := h.cell rfl
  have ht' : tmps[2]?.getD undef = .pointer (some ⟨g, 0, none⟩) := by rw [← ht]; simp [Array.getD_eq_getD_getElem?]
  simp [results, Tryz.results51, go_sem, ht', c0, c1]

set_option maxHeartbeats 2000000 in
theorem rden_any (q : Rat) (A : Option Addr) (n c : Nat) (D : Option Addr) (m d : Nat) (w : World) (R : RR w A n c D m d q) (hm : m ≤ 10000) :
    Calls Tryz.prog 51 #[.agg #[.bool (ng q.num), .slice A n c, .slice D m d]] w (RetU q.den w) := by
  obtain ⟨h0, h1⟩ := dn_len0 R.d.len
  have R2 := R.d
  by_cases hm0 : m = 0
  · have e1 : q.den = 1 := by have := h0 hm0; omega
    have h2 : ((m : Int) == 0) = true := by rw [beq_iff_eq]; omega
    have e2 : limbs q.den = [1] := by rw [e1, limbs_is1]
    have S0 : St w _ _ _ := (St.new w).allocAt (w.heap.size) #[.bool (ng q.num), .slice A n c, .slice D m d] 26 (noL3 _ _ _ _ _ _ _) rfl
    have S1 := S0.allocAt (w.heap.size + 1) #[.bool false, .slice (some ⟨w.heap.size + 1 + 1, 0, none⟩) 1 1] 24 (noL2 _ _ _ _) (by simp)
    have hb : ((w.alloc (.cells #[.bool (ng q.num), .slice A n c, .slice D m d] 26)).alloc (.cells #[.bool false, .slice (some ⟨w.heap.size + 1 + 1, 0, none⟩) 1 1] 24)).heap.size = w.heap.size + 1 + 1 := by simp
    have O := (Own.lit ((w.alloc (.cells #[.bool (ng q.num), .slice A n c, .slice D m d] 26)).alloc (.cells #[.bool false, .slice (some ⟨w.heap.size + 1 + 1, 0, none⟩) 1 1] 24)) [1] (by intro x hx; simp at hx; omega)).rd0 1 (Nat.le_refl 1)
    rw [hb] at O
    have B2 := (Below.refl ((w.alloc (.cells #[.bool (ng q.num), .slice A n c, .slice D m d] 26)).alloc (.cells #[.bool false, .slice (some ⟨w.heap.size + 1 + 1, 0, none⟩) 1 1] 24)).heap.size _).alloc (Nat.le_refl _) (.cells #[.int .u32 1] 54)
    have S2 := Lib.hid ((S1.call B2).read O)
    replace e2 := Lib.hid e2
    clear R R2 h0 h1 hm0 e1 S0 S1 O B2 hb hm
    go_enter Tryz.func51, Tryz.ntmps51
    go_wp2
    refine bodyPost_ret (res_rden _ _ (w.heap.size + 1) 24 rfl (S2.out.bk _ (List.mem_of_getElem? (i := 0) rfl)).1) rfl ?_
    exact ⟨_, _, _, rfl, by rw [e2.out]; exact S2.out.r 0 rfl, S2.out.bel⟩
  · have e1 := h1 hm0
    rw [e1] at R2
    have h2 : ((m : Int) == 0) = false := by rw [beq_eq_false_iff_ne]; omega
    have hT := fun W h => take_any D m d (limbs q.den) W h hm
    rw [num_limbs] at hT
    replace hT := Lib.hid hT
    clear h0 h1 hm0 R e1 hm
    have S : St w _ [(w.heap.size + 1, #[.bool (false), .slice (none) (0) (0)], 24), (w.heap.size, #[.bool (ng q.num), .slice (A) (n) (c), .slice (D) (m) (d)], 26)] [(D, m, d, limbs q.den)] := ((((St.new w).read R2).allocAt (w.heap.size) #[.bool (ng q.num), .slice (A) (n) (c), .slice (D) (m) (d)] 26 (noL3 _ _ _ _ _ _ _) (by simp)).allocAt (w.heap.size + 1) #[.bool (false), .slice (none) (0) (0)] 24 (noL2 _ _ _ _) (by simp))
    replace S := Lib.hid S
    clear R2
    go_enter Tryz.func51, Tryz.ntmps51
    go_wp2_with fail
    refine (hT.out _ (S.out.r 0 rfl)).mono ?_
    rintro e w1 ⟨A1, n1, c1, rfl, Q, bb, _⟩
    have T : St w w1 [(w.heap.size + 1, #[.bool (false), .slice (none) (0) (0)], 24), (w.heap.size, #[.bool (ng q.num), .slice (A) (n) (c), .slice (D) (m) (d)], 26)] [(A1, n1, c1, limbs q.den), (D, m, d, limbs q.den)] := ((S.out.call bb).read Q)
    clear bb S
    have S := T
    clear T
    have c_r0 : World.cell? w1 ⟨w.heap.size + 1, 0, none⟩ = some (.bool (false)) := S.cl 0 0 rfl rfl
    have f_r0 : World.frozen? w1 ⟨w.heap.size + 1, 0, none⟩ = false := S.f 0 0 rfl
    have c_r1 : World.cell? w1 ⟨w.heap.size + 1, 1, none⟩ = some (.slice (none) (0) (0)) := S.cl 0 1 rfl rfl
    have f_r1 : World.frozen? w1 ⟨w.heap.size + 1, 1, none⟩ = false := S.f 0 1 rfl
    have c_x0 : World.cell? w1 ⟨w.heap.size, 0, none⟩ = some (.bool (ng q.num)) := S.cl 1 0 rfl rfl
    have f_x0 : World.frozen? w1 ⟨w.heap.size, 0, none⟩ = false := S.f 1 0 rfl
    have c_x1 : World.cell? w1 ⟨w.heap.size, 1, none⟩ = some (.slice (A) (n) (c)) := S.cl 1 1 rfl rfl
    have f_x1 : World.frozen? w1 ⟨w.heap.size, 1, none⟩ = false := S.f 1 1 rfl
    have c_x2 : World.cell? w1 ⟨w.heap.size, 2, none⟩ = some (.slice (D) (m) (d)) := S.cl 1 2 rfl rfl
    have f_x2 : World.frozen? w1 ⟨w.heap.size, 2, none⟩ = false := S.f 1 2 rfl
    have hz : w.heap.size + 1 < w1.heap.size := S.lt 0 rfl
    replace S := Lib.hid S
    clear Q
    have S : St w _ [(w.heap.size + 1, #[.bool (false), .slice (A1) (n1) (c1)], 24), (w.heap.size, #[.bool (ng q.num), .slice (A) (n) (c), .slice (D) (m) (d)], 26)] [(A1, n1, c1, limbs q.den), (D, m, d, limbs q.den)] := ((S.out.set 0 0 (.bool (false)) rfl (by nofun)).set 0 1 (.slice (A1) (n1) (c1)) rfl (by nofun))
    replace S := Lib.hid S
    go_wp2
    refine bodyPost_ret (res_rden _ _ (w.heap.size + 1) 24 rfl (S.out.bk _ (List.mem_of_getElem? (i := 0) rfl)).1) rfl ?_
    exact ⟨_, _, _, rfl, S.out.r 0 rfl, S.out.bel⟩

theorem divInt_cross (u v : Int) (hv : v ≠ 0) : (Rat.divInt u v).num * v = (Rat.divInt u v).den * u := by
  have h := Rat.num_divInt_den (Rat.divInt u v)
  have h2 := (Rat.divInt_eq_divInt_iff (by have := (Rat.divInt u v).den_pos; omega) hv).1 h
  rw [h2, Int.mul_comm]
theorem mulI_len {u v : Int} {p k : Nat} (h1 : (limbs u.natAbs).length ≤ p) (h2 : (limbs v.natAbs).length ≤ k) : (limbs (u * v).natAbs).length ≤ p + k := by
  refine limbs_len_le.2 ?_
  rw [Int.natAbs_mul, Nat.pow_add]
  exact mul_lt (limbs_len_le.1 h1) (limbs_len_le.1 h2)
set_option maxHeartbeats 16000000 in
theorem law_lowest (b : Bool) (A : Option Addr) (n c : Nat) (xs : List Nat) (b' : Bool) (A' : Option Addr) (n' c' : Nat) (ys : List Nat) (b'' : Bool) (A'' : Option Addr) (n'' c'' : Nat) (zs : List Nat) (w : World) (R1 : Rd w A n c xs) (m1 : n ≤ 9223372036854775807) (R2 : Rd w A' n' c' ys) (m2 : n' ≤ 9223372036854775807) (R3 : Rd w A'' n'' c'' zs) (m3 : n'' ≤ 9223372036854775807) (htab : Tab w) :
    Calls Tryz.prog 9 #[.agg #[.bool b, .slice A n c], .agg #[.bool b', .slice A' n' c'], .agg #[.bool b'', .slice A'' n'' c'']] w fun e w' => e = .returned (.bool true) ∧ Below w.heap.size w w' := by
  have hA := Lib.hid (fun W t => awakeR_any W t)
  replace htab := Lib.hid htab
  have M1 : (n : Int) ≤ 9223372036854775807 := by omega
  have M2 : (n' : Int) ≤ 9223372036854775807 := by omega
  have M3 : (n'' : Int) ≤ 9223372036854775807 := by omega
  have l1 := R1.len
  have l2 := R2.len
  have l3 := R3.len
  have s1 := R1.sm
  have s2 := R2.sm
  have s3 := R3.sm
  have S : St w _ [(w.heap.size + 1 + 1, #[.bool (b''), .slice (A'') (n'') (c'')], 24), (w.heap.size + 1, #[.bool (b'), .slice (A') (n') (c')], 24), (w.heap.size, #[.bool (b), .slice (A) (n) (c)], 24)] [(A'', n'', c'', zs), (A', n', c', ys), (A, n, c, xs)] := (((((((St.new w).read R1).read R2).read R3).allocAt (w.heap.size) #[.bool (b), .slice (A) (n) (c)] 24 (noL2 _ _ _ _) (by simp)).allocAt (w.heap.size + 1) #[.bool (b'), .slice (A') (n') (c')] 24 (noL2 _ _ _ _) (by simp)).allocAt (w.heap.size + 1 + 1) #[.bool (b''), .slice (A'') (n'') (c'')] 24 (noL2 _ _ _ _) (by simp))
  replace S := Lib.hid S
  clear R1 R2 R3
  by_cases h1 : 6 < n
  · have g1 : (6 : Int) < (n : Int) := by omega
    clear h1 l1 l2 l3 s1 s2 s3 m1 m2 m3
    go_enter Tryz.func9, Tryz.ntmps9
    go_wp2_with fail
    refine (hA.out _ (tab_below htab.out S.out.bel)).mono ?_
    rintro e w1 ⟨rfl, bb⟩
    have T : St w w1 [(w.heap.size + 1 + 1, #[.bool (b''), .slice (A'') (n'') (c'')], 24), (w.heap.size + 1, #[.bool (b'), .slice (A') (n') (c')], 24), (w.heap.size, #[.bool (b), .slice (A) (n) (c)], 24)] [(A'', n'', c'', zs), (A', n', c', ys), (A, n, c, xs)] := (S.out.call bb)
    clear bb S
    have S := T
    clear T
    have c_z0 : World.cell? w1 ⟨w.heap.size + 1 + 1, 0, none⟩ = some (.bool (b'')) := S.cl 0 0 rfl rfl
    have f_z0 : World.frozen? w1 ⟨w.heap.size + 1 + 1, 0, none⟩ = false := S.f 0 0 rfl
    have c_z1 : World.cell? w1 ⟨w.heap.size + 1 + 1, 1, none⟩ = some (.slice (A'') (n'') (c'')) := S.cl 0 1 rfl rfl
    have f_z1 : World.frozen? w1 ⟨w.heap.size + 1 + 1, 1, none⟩ = false := S.f 0 1 rfl
    have c_y0 : World.cell? w1 ⟨w.heap.size + 1, 0, none⟩ = some (.bool (b')) := S.cl 1 0 rfl rfl
    have f_y0 : World.frozen? w1 ⟨w.heap.size + 1, 0, none⟩ = false := S.f 1 0 rfl
    have c_y1 : World.cell? w1 ⟨w.heap.size + 1, 1, none⟩ = some (.slice (A') (n') (c')) := S.cl 1 1 rfl rfl
    have f_y1 : World.frozen? w1 ⟨w.heap.size + 1, 1, none⟩ = false := S.f 1 1 rfl
    have c_x0 : World.cell? w1 ⟨w.heap.size, 0, none⟩ = some (.bool (b)) := S.cl 2 0 rfl rfl
    have f_x0 : World.frozen? w1 ⟨w.heap.size, 0, none⟩ = false := S.f 2 0 rfl
    have c_x1 : World.cell? w1 ⟨w.heap.size, 1, none⟩ = some (.slice (A) (n) (c)) := S.cl 2 1 rfl rfl
    have f_x1 : World.frozen? w1 ⟨w.heap.size, 1, none⟩ = false := S.f 2 1 rfl
    have hz : w.heap.size + 1 + 1 < w1.heap.size := S.lt 0 rfl
    replace S := Lib.hid S
    have S : St w _ [(w.heap.size + 1 + 1, #[.bool (b''), .slice (A'') (n'') (c'')], 24), (w.heap.size + 1, #[.bool (b'), .slice (A') (n') (c')], 24), (w.heap.size, #[.bool (b), .slice (A) (n) (c)], 24)] [(A'', n'', c'', zs), (A', n', c', ys), (A, n, c, xs)] := S.out
    replace S := Lib.hid S
    go_wp2
    go_ret
    exact ⟨rfl, S.out.bel⟩
  by_cases h2 : 6 < n'
  · have g1 : (n : Int) ≤ 6 := by omega
    have g2 : (6 : Int) < (n' : Int) := by omega
    clear h1 l1 l2 l3 s1 s2 s3 m1 m2 m3 h2
    go_enter Tryz.func9, Tryz.ntmps9
    go_wp2_with fail
    refine (hA.out _ (tab_below htab.out S.out.bel)).mono ?_
    rintro e w1 ⟨rfl, bb⟩
    have T : St w w1 [(w.heap.size + 1 + 1, #[.bool (b''), .slice (A'') (n'') (c'')], 24), (w.heap.size + 1, #[.bool (b'), .slice (A') (n') (c')], 24), (w.heap.size, #[.bool (b), .slice (A) (n) (c)], 24)] [(A'', n'', c'', zs), (A', n', c', ys), (A, n, c, xs)] := (S.out.call bb)
    clear bb S
    have S := T
    clear T
    have c_z0 : World.cell? w1 ⟨w.heap.size + 1 + 1, 0, none⟩ = some (.bool (b'')) := S.cl 0 0 rfl rfl
    have f_z0 : World.frozen? w1 ⟨w.heap.size + 1 + 1, 0, none⟩ = false := S.f 0 0 rfl
    have c_z1 : World.cell? w1 ⟨w.heap.size + 1 + 1, 1, none⟩ = some (.slice (A'') (n'') (c'')) := S.cl 0 1 rfl rfl
    have f_z1 : World.frozen? w1 ⟨w.heap.size + 1 + 1, 1, none⟩ = false := S.f 0 1 rfl
    have c_y0 : World.cell? w1 ⟨w.heap.size + 1, 0, none⟩ = some (.bool (b')) := S.cl 1 0 rfl rfl
    have f_y0 : World.frozen? w1 ⟨w.heap.size + 1, 0, none⟩ = false := S.f 1 0 rfl
    have c_y1 : World.cell? w1 ⟨w.heap.size + 1, 1, none⟩ = some (.slice (A') (n') (c')) := S.cl 1 1 rfl rfl
    have f_y1 : World.frozen? w1 ⟨w.heap.size + 1, 1, none⟩ = false := S.f 1 1 rfl
    have c_x0 : World.cell? w1 ⟨w.heap.size, 0, none⟩ = some (.bool (b)) := S.cl 2 0 rfl rfl
    have f_x0 : World.frozen? w1 ⟨w.heap.size, 0, none⟩ = false := S.f 2 0 rfl
    have c_x1 : World.cell? w1 ⟨w.heap.size, 1, none⟩ = some (.slice (A) (n) (c)) := S.cl 2 1 rfl rfl
    have f_x1 : World.frozen? w1 ⟨w.heap.size, 1, none⟩ = false := S.f 2 1 rfl
    have hz : w.heap.size + 1 + 1 < w1.heap.size := S.lt 0 rfl
    replace S := Lib.hid S
    have S : St w _ [(w.heap.size + 1 + 1, #[.bool (b''), .slice (A'') (n'') (c'')], 24), (w.heap.size + 1, #[.bool (b'), .slice (A') (n') (c')], 24), (w.heap.size, #[.bool (b), .slice (A) (n) (c)], 24)] [(A'', n'', c'', zs), (A', n', c', ys), (A, n, c, xs)] := S.out
    replace S := Lib.hid S
    go_wp2
    go_ret
    exact ⟨rfl, S.out.bel⟩
  by_cases h3 : 3 < n''
  · have g1 : (n : Int) ≤ 6 := by omega
    have g2 : (n' : Int) ≤ 6 := by omega
    have g3 : (3 : Int) < (n'' : Int) := by omega
    clear h1 l1 l2 l3 s1 s2 s3 m1 m2 m3 h2 h3
    go_enter Tryz.func9, Tryz.ntmps9
    go_wp2_with fail
    refine (hA.out _ (tab_below htab.out S.out.bel)).mono ?_
    rintro e w1 ⟨rfl, bb⟩
    have T : St w w1 [(w.heap.size + 1 + 1, #[.bool (b''), .slice (A'') (n'') (c'')], 24), (w.heap.size + 1, #[.bool (b'), .slice (A') (n') (c')], 24), (w.heap.size, #[.bool (b), .slice (A) (n) (c)], 24)] [(A'', n'', c'', zs), (A', n', c', ys), (A, n, c, xs)] := (S.out.call bb)
    clear bb S
    have S := T
    clear T
    have c_z0 : World.cell? w1 ⟨w.heap.size + 1 + 1, 0, none⟩ = some (.bool (b'')) := S.cl 0 0 rfl rfl
    have f_z0 : World.frozen? w1 ⟨w.heap.size + 1 + 1, 0, none⟩ = false := S.f 0 0 rfl
    have c_z1 : World.cell? w1 ⟨w.heap.size + 1 + 1, 1, none⟩ = some (.slice (A'') (n'') (c'')) := S.cl 0 1 rfl rfl
    have f_z1 : World.frozen? w1 ⟨w.heap.size + 1 + 1, 1, none⟩ = false := S.f 0 1 rfl
    have c_y0 : World.cell? w1 ⟨w.heap.size + 1, 0, none⟩ = some (.bool (b')) := S.cl 1 0 rfl rfl
    have f_y0 : World.frozen? w1 ⟨w.heap.size + 1, 0, none⟩ = false := S.f 1 0 rfl
    have c_y1 : World.cell? w1 ⟨w.heap.size + 1, 1, none⟩ = some (.slice (A') (n') (c')) := S.cl 1 1 rfl rfl
    have f_y1 : World.frozen? w1 ⟨w.heap.size + 1, 1, none⟩ = false := S.f 1 1 rfl
    have c_x0 : World.cell? w1 ⟨w.heap.size, 0, none⟩ = some (.bool (b)) := S.cl 2 0 rfl rfl
    have f_x0 : World.frozen? w1 ⟨w.heap.size, 0, none⟩ = false := S.f 2 0 rfl
    have c_x1 : World.cell? w1 ⟨w.heap.size, 1, none⟩ = some (.slice (A) (n) (c)) := S.cl 2 1 rfl rfl
    have f_x1 : World.frozen? w1 ⟨w.heap.size, 1, none⟩ = false := S.f 2 1 rfl
    have hz : w.heap.size + 1 + 1 < w1.heap.size := S.lt 0 rfl
    replace S := Lib.hid S
    have S : St w _ [(w.heap.size + 1 + 1, #[.bool (b''), .slice (A'') (n'') (c'')], 24), (w.heap.size + 1, #[.bool (b'), .slice (A') (n') (c')], 24), (w.heap.size, #[.bool (b), .slice (A) (n) (c)], 24)] [(A'', n'', c'', zs), (A', n', c', ys), (A, n, c, xs)] := S.out
    replace S := Lib.hid S
    go_wp2
    go_ret
    exact ⟨rfl, S.out.bel⟩
  have g1 : (n : Int) ≤ 6 := by omega
  have g2 : (n' : Int) ≤ 6 := by omega
  have g3 : (n'' : Int) ≤ 3 := by omega
  have hG2 := fun W q => rsignI_any b' A' n' c' ys W q (by omega)
  have hG3 := fun W q => rsignI_any b'' A'' n'' c'' zs W q (by omega)
  have hM1 := fun W q1 q2 => make_any b A n c xs b' A' n' c' ys W q1 q2 (by omega) (by omega)
  have hX := fun W q1 q2 => rmulI_any b A n c xs b'' A'' n'' c'' zs W q1 q2 (by omega) (by omega)
  have hY := fun W q1 q2 => rmulI_any b' A' n' c' ys b'' A'' n'' c'' zs W q1 q2 (by omega) (by omega)
  have hT1 := fun W q => takeI_any b A n c xs W q (by omega)
  have hT2 := fun W q => takeI_any b' A' n' c' ys W q (by omega)
  have lu := iv_abs (b := b) s1 (Nat.le_trans (Nat.le_of_eq l1) (show n ≤ 6 by omega))
  have lv := iv_abs (b := b') s2 (Nat.le_trans (Nat.le_of_eq l2) (show n' ≤ 6 by omega))
  have lt := iv_abs (b := b'') s3 (Nat.le_trans (Nat.le_of_eq l3) (show n'' ≤ 3 by omega))
  generalize iv b xs = u at *
  generalize iv b' ys = v at *
  generalize iv b'' zs = t at *
  clear h1 h2 h3 l1 l2 l3 s1 s2 s3 m1 m2 m3
  by_cases hv : v = 0
  · subst hv
    replace hG2 := Lib.hid hG2
    clear hG3 hM1 hX hY hT1 hT2 lu lv lt
    go_enter Tryz.func9, Tryz.ntmps9
    go_wp2_with fail
    refine (hG2.out _ (S.out.r 1 rfl)).mono ?_
    rintro e w1 ⟨rfl, bb⟩
    have T : St w w1 [(w.heap.size + 1 + 1, #[.bool (b''), .slice (A'') (n'') (c'')], 24), (w.heap.size + 1, #[.bool (b'), .slice (A') (n') (c')], 24), (w.heap.size, #[.bool (b), .slice (A) (n) (c)], 24)] [(A'', n'', c'', zs), (A', n', c', ys), (A, n, c, xs)] := (S.out.call bb)
    clear bb S
    have S := T
    clear T
    have c_z0 : World.cell? w1 ⟨w.heap.size + 1 + 1, 0, none⟩ = some (.bool (b'')) := S.cl 0 0 rfl rfl
    have f_z0 : World.frozen? w1 ⟨w.heap.size + 1 + 1, 0, none⟩ = false := S.f 0 0 rfl
    have c_z1 : World.cell? w1 ⟨w.heap.size + 1 + 1, 1, none⟩ = some (.slice (A'') (n'') (c'')) := S.cl 0 1 rfl rfl
    have f_z1 : World.frozen? w1 ⟨w.heap.size + 1 + 1, 1, none⟩ = false := S.f 0 1 rfl
    have c_y0 : World.cell? w1 ⟨w.heap.size + 1, 0, none⟩ = some (.bool (b')) := S.cl 1 0 rfl rfl
    have f_y0 : World.frozen? w1 ⟨w.heap.size + 1, 0, none⟩ = false := S.f 1 0 rfl
    have c_y1 : World.cell? w1 ⟨w.heap.size + 1, 1, none⟩ = some (.slice (A') (n') (c')) := S.cl 1 1 rfl rfl
    have f_y1 : World.frozen? w1 ⟨w.heap.size + 1, 1, none⟩ = false := S.f 1 1 rfl
    have c_x0 : World.cell? w1 ⟨w.heap.size, 0, none⟩ = some (.bool (b)) := S.cl 2 0 rfl rfl
    have f_x0 : World.frozen? w1 ⟨w.heap.size, 0, none⟩ = false := S.f 2 0 rfl
    have c_x1 : World.cell? w1 ⟨w.heap.size, 1, none⟩ = some (.slice (A) (n) (c)) := S.cl 2 1 rfl rfl
    have f_x1 : World.frozen? w1 ⟨w.heap.size, 1, none⟩ = false := S.f 2 1 rfl
    have hz : w.heap.size + 1 + 1 < w1.heap.size := S.lt 0 rfl
    replace S := Lib.hid S
    go_wp2_with fail
    refine (hA.out _ (tab_below htab.out S.out.bel)).mono ?_
    rintro e w2 ⟨rfl, bb⟩
    have T : St w w2 [(w.heap.size + 1 + 1, #[.bool (b''), .slice (A'') (n'') (c'')], 24), (w.heap.size + 1, #[.bool (b'), .slice (A') (n') (c')], 24), (w.heap.size, #[.bool (b), .slice (A) (n) (c)], 24)] [(A'', n'', c'', zs), (A', n', c', ys), (A, n, c, xs)] := (S.out.call bb)
    clear bb S c_z0 f_z0 c_z1 f_z1 c_y0 f_y0 c_y1 f_y1 c_x0 f_x0 c_x1 f_x1 hz
    have S := T
    clear T
    have c_z0 : World.cell? w2 ⟨w.heap.size + 1 + 1, 0, none⟩ = some (.bool (b'')) := S.cl 0 0 rfl rfl
    have f_z0 : World.frozen? w2 ⟨w.heap.size + 1 + 1, 0, none⟩ = false := S.f 0 0 rfl
    have c_z1 : World.cell? w2 ⟨w.heap.size + 1 + 1, 1, none⟩ = some (.slice (A'') (n'') (c'')) := S.cl 0 1 rfl rfl
    have f_z1 : World.frozen? w2 ⟨w.heap.size + 1 + 1, 1, none⟩ = false := S.f 0 1 rfl
    have c_y0 : World.cell? w2 ⟨w.heap.size + 1, 0, none⟩ = some (.bool (b')) := S.cl 1 0 rfl rfl
    have f_y0 : World.frozen? w2 ⟨w.heap.size + 1, 0, none⟩ = false := S.f 1 0 rfl
    have c_y1 : World.cell? w2 ⟨w.heap.size + 1, 1, none⟩ = some (.slice (A') (n') (c')) := S.cl 1 1 rfl rfl
    have f_y1 : World.frozen? w2 ⟨w.heap.size + 1, 1, none⟩ = false := S.f 1 1 rfl
    have c_x0 : World.cell? w2 ⟨w.heap.size, 0, none⟩ = some (.bool (b)) := S.cl 2 0 rfl rfl
    have f_x0 : World.frozen? w2 ⟨w.heap.size, 0, none⟩ = false := S.f 2 0 rfl
    have c_x1 : World.cell? w2 ⟨w.heap.size, 1, none⟩ = some (.slice (A) (n) (c)) := S.cl 2 1 rfl rfl
    have f_x1 : World.frozen? w2 ⟨w.heap.size, 1, none⟩ = false := S.f 2 1 rfl
    have hz : w.heap.size + 1 + 1 < w2.heap.size := S.lt 0 rfl
    replace S := Lib.hid S
    have S : St w _ [(w.heap.size + 1 + 1, #[.bool (b''), .slice (A'') (n'') (c'')], 24), (w.heap.size + 1, #[.bool (b'), .slice (A') (n') (c')], 24), (w.heap.size, #[.bool (b), .slice (A) (n) (c)], 24)] [(A'', n'', c'', zs), (A', n', c', ys), (A, n, c, xs)] := S.out
    replace S := Lib.hid S
    go_wp2
    go_ret
    exact ⟨rfl, S.out.bel⟩
  have hv1 : (v.sign == 0) = false := by rw [beq_eq_false_iff_ne]; intro e; exact hv (Int.sign_eq_zero_iff_zero.1 e)
  generalize hsv : v.sign = sv at hG2 hv1
  clear hsv
  by_cases ht : t = 0
  · subst ht
    replace hG2 := Lib.hid hG2
    replace hG3 := Lib.hid hG3
    clear hM1 hX hY hT1 hT2 lu lv lt hv
    go_enter Tryz.func9, Tryz.ntmps9
    go_wp2_with fail
    refine (hG2.out _ (S.out.r 1 rfl)).mono ?_
    rintro e w1 ⟨rfl, bb⟩
    have T : St w w1 [(w.heap.size + 1 + 1, #[.bool (b''), .slice (A'') (n'') (c'')], 24), (w.heap.size + 1, #[.bool (b'), .slice (A') (n') (c')], 24), (w.heap.size, #[.bool (b), .slice (A) (n) (c)], 24)] [(A'', n'', c'', zs), (A', n', c', ys), (A, n, c, xs)] := (S.out.call bb)
    clear bb S
    have S := T
    clear T
    have c_z0 : World.cell? w1 ⟨w.heap.size + 1 + 1, 0, none⟩ = some (.bool (b'')) := S.cl 0 0 rfl rfl
    have f_z0 : World.frozen? w1 ⟨w.heap.size + 1 + 1, 0, none⟩ = false := S.f 0 0 rfl
    have c_z1 : World.cell? w1 ⟨w.heap.size + 1 + 1, 1, none⟩ = some (.slice (A'') (n'') (c'')) := S.cl 0 1 rfl rfl
    have f_z1 : World.frozen? w1 ⟨w.heap.size + 1 + 1, 1, none⟩ = false := S.f 0 1 rfl
    have c_y0 : World.cell? w1 ⟨w.heap.size + 1, 0, none⟩ = some (.bool (b')) := S.cl 1 0 rfl rfl
    have f_y0 : World.frozen? w1 ⟨w.heap.size + 1, 0, none⟩ = false := S.f 1 0 rfl
    have c_y1 : World.cell? w1 ⟨w.heap.size + 1, 1, none⟩ = some (.slice (A') (n') (c')) := S.cl 1 1 rfl rfl
    have f_y1 : World.frozen? w1 ⟨w.heap.size + 1, 1, none⟩ = false := S.f 1 1 rfl
    have c_x0 : World.cell? w1 ⟨w.heap.size, 0, none⟩ = some (.bool (b)) := S.cl 2 0 rfl rfl
    have f_x0 : World.frozen? w1 ⟨w.heap.size, 0, none⟩ = false := S.f 2 0 rfl
    have c_x1 : World.cell? w1 ⟨w.heap.size, 1, none⟩ = some (.slice (A) (n) (c)) := S.cl 2 1 rfl rfl
    have f_x1 : World.frozen? w1 ⟨w.heap.size, 1, none⟩ = false := S.f 2 1 rfl
    have hz : w.heap.size + 1 + 1 < w1.heap.size := S.lt 0 rfl
    replace S := Lib.hid S
    go_wp2_with fail
    refine (hG3.out _ (S.out.r 0 rfl)).mono ?_
    rintro e w2 ⟨rfl, bb⟩
    have T : St w w2 [(w.heap.size + 1 + 1, #[.bool (b''), .slice (A'') (n'') (c'')], 24), (w.heap.size + 1, #[.bool (b'), .slice (A') (n') (c')], 24), (w.heap.size, #[.bool (b), .slice (A) (n) (c)], 24)] [(A'', n'', c'', zs), (A', n', c', ys), (A, n, c, xs)] := (S.out.call bb)
    clear bb S c_z0 f_z0 c_z1 f_z1 c_y0 f_y0 c_y1 f_y1 c_x0 f_x0 c_x1 f_x1 hz
    have S := T
    clear T
    have c_z0 : World.cell? w2 ⟨w.heap.size + 1 + 1, 0, none⟩ = some (.bool (b'')) := S.cl 0 0 rfl rfl
    have f_z0 : World.frozen? w2 ⟨w.heap.size + 1 + 1, 0, none⟩ = false := S.f 0 0 rfl
    have c_z1 : World.cell? w2 ⟨w.heap.size + 1 + 1, 1, none⟩ = some (.slice (A'') (n'') (c'')) := S.cl 0 1 rfl rfl
    have f_z1 : World.frozen? w2 ⟨w.heap.size + 1 + 1, 1, none⟩ = false := S.f 0 1 rfl
    have c_y0 : World.cell? w2 ⟨w.heap.size + 1, 0, none⟩ = some (.bool (b')) := S.cl 1 0 rfl rfl
    have f_y0 : World.frozen? w2 ⟨w.heap.size + 1, 0, none⟩ = false := S.f 1 0 rfl
    have c_y1 : World.cell? w2 ⟨w.heap.size + 1, 1, none⟩ = some (.slice (A') (n') (c')) := S.cl 1 1 rfl rfl
    have f_y1 : World.frozen? w2 ⟨w.heap.size + 1, 1, none⟩ = false := S.f 1 1 rfl
    have c_x0 : World.cell? w2 ⟨w.heap.size, 0, none⟩ = some (.bool (b)) := S.cl 2 0 rfl rfl
    have f_x0 : World.frozen? w2 ⟨w.heap.size, 0, none⟩ = false := S.f 2 0 rfl
    have c_x1 : World.cell? w2 ⟨w.heap.size, 1, none⟩ = some (.slice (A) (n) (c)) := S.cl 2 1 rfl rfl
    have f_x1 : World.frozen? w2 ⟨w.heap.size, 1, none⟩ = false := S.f 2 1 rfl
    have hz : w.heap.size + 1 + 1 < w2.heap.size := S.lt 0 rfl
    replace S := Lib.hid S
    go_wp2_with fail
    refine (hA.out _ (tab_below htab.out S.out.bel)).mono ?_
    rintro e w3 ⟨rfl, bb⟩
    have T : St w w3 [(w.heap.size + 1 + 1, #[.bool (b''), .slice (A'') (n'') (c'')], 24), (w.heap.size + 1, #[.bool (b'), .slice (A') (n') (c')], 24), (w.heap.size, #[.bool (b), .slice (A) (n) (c)], 24)] [(A'', n'', c'', zs), (A', n', c', ys), (A, n, c, xs)] := (S.out.call bb)
    clear bb S c_z0 f_z0 c_z1 f_z1 c_y0 f_y0 c_y1 f_y1 c_x0 f_x0 c_x1 f_x1 hz
    have S := T
    clear T
    have c_z0 : World.cell? w3 ⟨w.heap.size + 1 + 1, 0, none⟩ = some (.bool (b'')) := S.cl 0 0 rfl rfl
    have f_z0 : World.frozen? w3 ⟨w.heap.size + 1 + 1, 0, none⟩ = false := S.f 0 0 rfl
    have c_z1 : World.cell? w3 ⟨w.heap.size + 1 + 1, 1, none⟩ = some (.slice (A'') (n'') (c'')) := S.cl 0 1 rfl rfl
    have f_z1 : World.frozen? w3 ⟨w.heap.size + 1 + 1, 1, none⟩ = false := S.f 0 1 rfl
    have c_y0 : World.cell? w3 ⟨w.heap.size + 1, 0, none⟩ = some (.bool (b')) := S.cl 1 0 rfl rfl
    have f_y0 : World.frozen? w3 ⟨w.heap.size + 1, 0, none⟩ = false := S.f 1 0 rfl
    have c_y1 : World.cell? w3 ⟨w.heap.size + 1, 1, none⟩ = some (.slice (A') (n') (c')) := S.cl 1 1 rfl rfl
    have f_y1 : World.frozen? w3 ⟨w.heap.size + 1, 1, none⟩ = false := S.f 1 1 rfl
    have c_x0 : World.cell? w3 ⟨w.heap.size, 0, none⟩ = some (.bool (b)) := S.cl 2 0 rfl rfl
    have f_x0 : World.frozen? w3 ⟨w.heap.size, 0, none⟩ = false := S.f 2 0 rfl
    have c_x1 : World.cell? w3 ⟨w.heap.size, 1, none⟩ = some (.slice (A) (n) (c)) := S.cl 2 1 rfl rfl
    have f_x1 : World.frozen? w3 ⟨w.heap.size, 1, none⟩ = false := S.f 2 1 rfl
    have hz : w.heap.size + 1 + 1 < w3.heap.size := S.lt 0 rfl
    replace S := Lib.hid S
    have S : St w _ [(w.heap.size + 1 + 1, #[.bool (b''), .slice (A'') (n'') (c'')], 24), (w.heap.size + 1, #[.bool (b'), .slice (A') (n') (c')], 24), (w.heap.size, #[.bool (b), .slice (A) (n) (c)], 24)] [(A'', n'', c'', zs), (A', n', c', ys), (A, n, c, xs)] := S.out
    replace S := Lib.hid S
    go_wp2
    go_ret
    exact ⟨rfl, S.out.bel⟩
  have ht1 : (t.sign == 0) = false := by rw [beq_eq_false_iff_ne]; intro e; exact ht (Int.sign_eq_zero_iff_zero.1 e)
  generalize hst : t.sign = st at hG3 ht1
  clear hst
  have hm2 : Rat.divInt (u * t) (v * t) = Rat.divInt u v := Rat.divInt_mul_right ht
  have hvt : v * t ≠ 0 := Int.mul_ne_zero hv ht
  have e1 : mkE v = 0 := by unfold mkE; rw [if_neg hv]
  have e2 : mkE (v * t) = 0 := by unfold mkE; rw [if_neg hvt]
  have hcr := divInt_cross u v hv
  have hsz : Rs (Rat.divInt u v) 8 := by
    have lu' := limbs_len_le.1 lu
    have lv' := limbs_len_le.1 lv
    refine Rs.mono (p := 6) ?_ (by decide)
    rcases Int.lt_trichotomy v 0 with h | h | h
    · rw [← Rat.neg_divInt_neg]
      exact Rs.divInt (by omega) (by rw [Int.natAbs_neg]; exact lu') (by rw [Int.natAbs_neg]; exact lv')
    · exact absurd h hv
    · exact Rs.divInt h lu' lv'
  have lut := mulI_len lu lt
  have lvt := mulI_len lv lt
  rw [e1] at hM1
  have hM2 : Hid (∀ W A n c A' n' c', Rd W A n c (limbs (u * t).natAbs) → Rd W A' n' c' (limbs (v * t).natAbs) → Calls Tryz.prog 31 #[.agg #[.bool (ng (u * t)), .slice A n c], .agg #[.bool (ng (v * t)), .slice A' n' c']] W (RetRE (Rat.divInt u v) (.int .i64 0) W)) := Lib.hid fun W A n c A' n' c' q1 q2 => by
    have := make_any (ng (u * t)) A n c _ (ng (v * t)) A' n' c' _ W q1 q2 (by rw [← q1.len]; omega) (by rw [← q2.len]; omega)
    rwa [iv_z, iv_z, hm2, e2] at this
  have hq1 : (limbs (Rat.divInt u v).num.natAbs).length ≤ 8 := limbs_len_le.2 hsz.n
  have hq2 : (limbs ((Rat.divInt u v).den : Int).natAbs).length ≤ 8 := limbs_len_le.2 hsz.d
  have hP1 : Hid (∀ W A n c A' n' c', Rd W A n c (limbs (Rat.divInt u v).num.natAbs) → Rd W A' n' c' (limbs v.natAbs) → Calls Tryz.prog 49 #[.agg #[.bool (ng (Rat.divInt u v).num), .slice A n c], .agg #[.bool (ng v), .slice A' n' c']] W (RetI ((Rat.divInt u v).num * v) W)) := Lib.hid fun W A n c A' n' c' q1 q2 => by
    have := rmulI_any (ng (Rat.divInt u v).num) A n c _ (ng v) A' n' c' _ W q1 q2 (by rw [← q1.len]; omega) (by rw [← q2.len]; omega)
    rwa [iv_z, iv_z] at this
  have hP2 : Hid (∀ W A n c A' n' c', Rd W A n c (limbs (Rat.divInt u v).den) → Rd W A' n' c' (limbs u.natAbs) → Calls Tryz.prog 49 #[.agg #[.bool false, .slice A n c], .agg #[.bool (ng u), .slice A' n' c']] W (RetI ((Rat.divInt u v).num * v) W)) := Lib.hid fun W A n c A' n' c' q1 q2 => by
    have := rmulI_any false A n c _ (ng u) A' n' c' _ W q1 q2 (by rw [← q1.len]; rw [Int.natAbs_natCast] at hq2; omega) (by rw [← q2.len]; omega)
    rwa [iv_pos, iv_z, ← hcr] at this
  have lP : (limbs ((Rat.divInt u v).num * v).natAbs).length ≤ 14 := mulI_len hq1 lv
  have hZ : Hid (∀ W A n c A' n' c', Rd W A n c (limbs ((Rat.divInt u v).num * v).natAbs) → Rd W A' n' c' (limbs ((Rat.divInt u v).num * v).natAbs) → Calls Tryz.prog 28 #[.agg #[.bool (ng ((Rat.divInt u v).num * v)), .slice A n c], .agg #[.bool (ng ((Rat.divInt u v).num * v)), .slice A' n' c']] W fun e w' => e = .returned (.bool true) ∧ Below W.heap.size W w') := Lib.hid fun W A n c A' n' c' q1 q2 => sameI_true _ A n c A' n' c' W q1 q2 (by rw [← q1.len]; omega)
  generalize (Rat.divInt u v).num * v = pr at hP1 hP2 hZ
  generalize Rat.divInt u v = q at *
  have hV : Hid (∀ W A n c D m d, RR W A n c D m d q → Calls Tryz.prog 15 #[.agg #[.bool (ng q.num), .slice A n c, .slice D m d]] W fun e w' => e = .returned (.bool true) ∧ Below W.heap.size W w') := Lib.hid fun W A n c D m d h => by
    have hl := h.lens hsz
    have := validR_any (ng q.num) A n c _ D m d _ W h.n h.d (by omega) (by omega)
    rwa [vldR_z] at this
  have hS : Hid (∀ W A n c D m d A' n' c' D' m' d', RR W A n c D m d q → RR W A' n' c' D' m' d' q → Calls Tryz.prog 17 #[.agg #[.bool (ng q.num), .slice A n c, .slice D m d], .agg #[.bool (ng q.num), .slice A' n' c', .slice D' m' d']] W fun e w' => e = .returned (.bool true) ∧ Below W.heap.size W w') := Lib.hid fun W A n c D m d A' n' c' D' m' d' p1 p2 => by
    have hl := p1.lens hsz
    exact rsameR_true q A n c D m d A' n' c' D' m' d' W p1 p2 (by omega) (by omega)
  have hD : Hid (∀ W A n c D m d, RR W A n c D m d q → Calls Tryz.prog 51 #[.agg #[.bool (ng q.num), .slice A n c, .slice D m d]] W (RetU q.den W)) := Lib.hid fun W A n c D m d h => by
    have hl := h.lens hsz
    exact rden_any q A n c D m d W h (by omega)
  generalize u * t = ut at *
  generalize v * t = vt at *
  replace hG2 := Lib.hid hG2
  replace hG3 := Lib.hid hG3
  replace hM1 := Lib.hid hM1
  replace hX := Lib.hid hX
  replace hY := Lib.hid hY
  replace hT1 := Lib.hid hT1
  replace hT2 := Lib.hid hT2
  clear lu lv lt hv ht hm2 hvt e1 e2 hcr hsz lut lvt hq1 hq2 lP
  go_enter Tryz.func9, Tryz.ntmps9
  go_wp2_with fail
  refine (hG2.out _ (S.out.r 1 rfl)).mono ?_
  rintro e w1 ⟨rfl, bb⟩
  have T : St w w1 [(w.heap.size + 1 + 1, #[.bool (b''), .slice (A'') (n'') (c'')], 24), (w.heap.size + 1, #[.bool (b'), .slice (A') (n') (c')], 24), (w.heap.size, #[.bool (b), .slice (A) (n) (c)], 24)] [(A'', n'', c'', zs), (A', n', c', ys), (A, n, c, xs)] := (S.out.call bb)
  clear bb S
  have S := T
  clear T
  have c_z0 : World.cell? w1 ⟨w.heap.size + 1 + 1, 0, none⟩ = some (.bool (b'')) := S.cl 0 0 rfl rfl
  have f_z0 : World.frozen? w1 ⟨w.heap.size + 1 + 1, 0, none⟩ = false := S.f 0 0 rfl
  have c_z1 : World.cell? w1 ⟨w.heap.size + 1 + 1, 1, none⟩ = some (.slice (A'') (n'') (c'')) := S.cl 0 1 rfl rfl
  have f_z1 : World.frozen? w1 ⟨w.heap.size + 1 + 1, 1, none⟩ = false := S.f 0 1 rfl
  have c_y0 : World.cell? w1 ⟨w.heap.size + 1, 0, none⟩ = some (.bool (b')) := S.cl 1 0 rfl rfl
  have f_y0 : World.frozen? w1 ⟨w.heap.size + 1, 0, none⟩ = false := S.f 1 0 rfl
  have c_y1 : World.cell? w1 ⟨w.heap.size + 1, 1, none⟩ = some (.slice (A') (n') (c')) := S.cl 1 1 rfl rfl
  have f_y1 : World.frozen? w1 ⟨w.heap.size + 1, 1, none⟩ = false := S.f 1 1 rfl
  have c_x0 : World.cell? w1 ⟨w.heap.size, 0, none⟩ = some (.bool (b)) := S.cl 2 0 rfl rfl
  have f_x0 : World.frozen? w1 ⟨w.heap.size, 0, none⟩ = false := S.f 2 0 rfl
  have c_x1 : World.cell? w1 ⟨w.heap.size, 1, none⟩ = some (.slice (A) (n) (c)) := S.cl 2 1 rfl rfl
  have f_x1 : World.frozen? w1 ⟨w.heap.size, 1, none⟩ = false := S.f 2 1 rfl
  have hz : w.heap.size + 1 + 1 < w1.heap.size := S.lt 0 rfl
  replace S := Lib.hid S
  go_wp2_with fail
  refine (hG3.out _ (S.out.r 0 rfl)).mono ?_
  rintro e w2 ⟨rfl, bb⟩
  have T : St w w2 [(w.heap.size + 1 + 1, #[.bool (b''), .slice (A'') (n'') (c'')], 24), (w.heap.size + 1, #[.bool (b'), .slice (A') (n') (c')], 24), (w.heap.size, #[.bool (b), .slice (A) (n) (c)], 24)] [(A'', n'', c'', zs), (A', n', c', ys), (A, n, c, xs)] := (S.out.call bb)
  clear bb S c_z0 f_z0 c_z1 f_z1 c_y0 f_y0 c_y1 f_y1 c_x0 f_x0 c_x1 f_x1 hz
  have S := T
  clear T
  have c_z0 : World.cell? w2 ⟨w.heap.size + 1 + 1, 0, none⟩ = some (.bool (b'')) := S.cl 0 0 rfl rfl
  have f_z0 : World.frozen? w2 ⟨w.heap.size + 1 + 1, 0, none⟩ = false := S.f 0 0 rfl
  have c_z1 : World.cell? w2 ⟨w.heap.size + 1 + 1, 1, none⟩ = some (.slice (A'') (n'') (c'')) := S.cl 0 1 rfl rfl
  have f_z1 : World.frozen? w2 ⟨w.heap.size + 1 + 1, 1, none⟩ = false := S.f 0 1 rfl
  have c_y0 : World.cell? w2 ⟨w.heap.size + 1, 0, none⟩ = some (.bool (b')) := S.cl 1 0 rfl rfl
  have f_y0 : World.frozen? w2 ⟨w.heap.size + 1, 0, none⟩ = false := S.f 1 0 rfl
  have c_y1 : World.cell? w2 ⟨w.heap.size + 1, 1, none⟩ = some (.slice (A') (n') (c')) := S.cl 1 1 rfl rfl
  have f_y1 : World.frozen? w2 ⟨w.heap.size + 1, 1, none⟩ = false := S.f 1 1 rfl
  have c_x0 : World.cell? w2 ⟨w.heap.size, 0, none⟩ = some (.bool (b)) := S.cl 2 0 rfl rfl
  have f_x0 : World.frozen? w2 ⟨w.heap.size, 0, none⟩ = false := S.f 2 0 rfl
  have c_x1 : World.cell? w2 ⟨w.heap.size, 1, none⟩ = some (.slice (A) (n) (c)) := S.cl 2 1 rfl rfl
  have f_x1 : World.frozen? w2 ⟨w.heap.size, 1, none⟩ = false := S.f 2 1 rfl
  have hz : w.heap.size + 1 + 1 < w2.heap.size := S.lt 0 rfl
  replace S := Lib.hid S
  clear hG2 hG3
  go_wp2_with fail
  refine (hM1.out _ (S.out.r 2 rfl) (S.out.r 1 rfl)).mono ?_
  rintro e w3 ⟨A1, n1, c1, D1, m1, d1, rfl, Q, bb⟩
  have T : St w w3 [(w.heap.size + 1 + 1, #[.bool (b''), .slice (A'') (n'') (c'')], 24), (w.heap.size + 1, #[.bool (b'), .slice (A') (n') (c')], 24), (w.heap.size, #[.bool (b), .slice (A) (n) (c)], 24)] [(D1, m1, d1, dn q), (A1, n1, c1, limbs q.num.natAbs), (A'', n'', c'', zs), (A', n', c', ys), (A, n, c, xs)] := (((S.out.call bb).read Q.n).read Q.d)
  clear bb S c_z0 f_z0 c_z1 f_z1 c_y0 f_y0 c_y1 f_y1 c_x0 f_x0 c_x1 f_x1 hz
  have S := T
  clear T
  have c_z0 : World.cell? w3 ⟨w.heap.size + 1 + 1, 0, none⟩ = some (.bool (b'')) := S.cl 0 0 rfl rfl
  have f_z0 : World.frozen? w3 ⟨w.heap.size + 1 + 1, 0, none⟩ = false := S.f 0 0 rfl
  have c_z1 : World.cell? w3 ⟨w.heap.size + 1 + 1, 1, none⟩ = some (.slice (A'') (n'') (c'')) := S.cl 0 1 rfl rfl
  have f_z1 : World.frozen? w3 ⟨w.heap.size + 1 + 1, 1, none⟩ = false := S.f 0 1 rfl
  have c_y0 : World.cell? w3 ⟨w.heap.size + 1, 0, none⟩ = some (.bool (b')) := S.cl 1 0 rfl rfl
  have f_y0 : World.frozen? w3 ⟨w.heap.size + 1, 0, none⟩ = false := S.f 1 0 rfl
  have c_y1 : World.cell? w3 ⟨w.heap.size + 1, 1, none⟩ = some (.slice (A') (n') (c')) := S.cl 1 1 rfl rfl
  have f_y1 : World.frozen? w3 ⟨w.heap.size + 1, 1, none⟩ = false := S.f 1 1 rfl
  have c_x0 : World.cell? w3 ⟨w.heap.size, 0, none⟩ = some (.bool (b)) := S.cl 2 0 rfl rfl
  have f_x0 : World.frozen? w3 ⟨w.heap.size, 0, none⟩ = false := S.f 2 0 rfl
  have c_x1 : World.cell? w3 ⟨w.heap.size, 1, none⟩ = some (.slice (A) (n) (c)) := S.cl 2 1 rfl rfl
  have f_x1 : World.frozen? w3 ⟨w.heap.size, 1, none⟩ = false := S.f 2 1 rfl
  have hz : w.heap.size + 1 + 1 < w3.heap.size := S.lt 0 rfl
  replace S := Lib.hid S
  clear Q hM1
  go_upto_region 4 with fail
  clear c_z0 f_z0 c_z1 f_z1 c_y0 f_y0 c_y1 f_y1 c_x0 f_x0 c_x1 f_x1 hz
  have S : St w _ [(w3.heap.size, #[.bool (ng q.num), .slice (A1) (n1) (c1), .slice (D1) (m1) (d1)], 26), (w.heap.size + 1 + 1, #[.bool (b''), .slice (A'') (n'') (c'')], 24), (w.heap.size + 1, #[.bool (b'), .slice (A') (n') (c')], 24), (w.heap.size, #[.bool (b), .slice (A) (n) (c)], 24)] [(D1, m1, d1, dn q), (A1, n1, c1, limbs q.num.natAbs), (A'', n'', c'', zs), (A', n', c', ys), (A, n, c, xs)] := (S.out.allocAt (w3.heap.size) #[.bool (ng q.num), .slice (A1) (n1) (c1), .slice (D1) (m1) (d1)] 26 (noL3 _ _ _ _ _ _ _) (by simp))
  generalize hW4 : (World.alloc w3 (.cells #[.bool (ng q.num), .slice (A1) (n1) (c1), .slice (D1) (m1) (d1)] 26)) = w4 at S ⊢
  clear hW4
  replace S := Lib.hid S
  go_cut [9, 10] (fun sv9 sv10 wx => ∃ (g_r : Nat) (A4 : Option Addr) (n4 : Nat) (c4 : Nat) (D4 : Option Addr) (m4 : Nat) (d4 : Nat), sv9 = .pointer (some ⟨g_r, 0, none⟩) ∧ sv10 = .int .i64 0 ∧ St w wx [(g_r, #[.bool (ng q.num), .slice (A4) (n4) (c4), .slice (D4) (m4) (d4)], 26), (w3.heap.size, #[.bool (ng q.num), .slice (A1) (n1) (c1), .slice (D1) (m1) (d1)], 26), (w.heap.size + 1 + 1, #[.bool (b''), .slice (A'') (n'') (c'')], 24), (w.heap.size + 1, #[.bool (b'), .slice (A') (n') (c')], 24), (w.heap.size, #[.bool (b), .slice (A) (n) (c)], 24)] [(D4, m4, d4, dn q), (A4, n4, c4, limbs q.num.natAbs), (D1, m1, d1, dn q), (A1, n1, c1, limbs q.num.natAbs), (A'', n'', c'', zs), (A', n', c', ys), (A, n, c, xs)])
  case first =>
    have SD : Hid (St w (World.drew w4) _ _) := Lib.hid (S.out.drew)
    have y1_x0 : World.cell? (World.drew w4) ⟨w.heap.size, 0, none⟩ = some (.bool (b)) := St.cl (SD.out) 3 0 rfl rfl
    have y1_x1 : World.cell? (World.drew w4) ⟨w.heap.size, 1, none⟩ = some (.slice (A) (n) (c)) := St.cl (SD.out) 3 1 rfl rfl
    have y1_y0 : World.cell? (World.drew w4) ⟨w.heap.size + 1, 0, none⟩ = some (.bool (b')) := St.cl (SD.out) 2 0 rfl rfl
    have y1_y1 : World.cell? (World.drew w4) ⟨w.heap.size + 1, 1, none⟩ = some (.slice (A') (n') (c')) := St.cl (SD.out) 2 1 rfl rfl
    have y1_z0 : World.cell? (World.drew w4) ⟨w.heap.size + 1 + 1, 0, none⟩ = some (.bool (b'')) := St.cl (SD.out) 1 0 rfl rfl
    have y1_z1 : World.cell? (World.drew w4) ⟨w.heap.size + 1 + 1, 1, none⟩ = some (.slice (A'') (n'') (c'')) := St.cl (SD.out) 1 1 rfl rfl
    have y2_x0 : World.cell? (World.alloc (World.drew w4) (.cells #[.bool (false), .slice (none) (0) (0), .slice (none) (0) (0)] 26)) ⟨w.heap.size, 0, none⟩ = some (.bool (b)) := St.cl ((SD.out.allocAt (w4.heap.size) #[.bool (false), .slice (none) (0) (0), .slice (none) (0) (0)] 26 (noL3 _ _ _ _ _ _ _) (by simp))) 4 0 rfl rfl
    have y2_x1 : World.cell? (World.alloc (World.drew w4) (.cells #[.bool (false), .slice (none) (0) (0), .slice (none) (0) (0)] 26)) ⟨w.heap.size, 1, none⟩ = some (.slice (A) (n) (c)) := St.cl ((SD.out.allocAt (w4.heap.size) #[.bool (false), .slice (none) (0) (0), .slice (none) (0) (0)] 26 (noL3 _ _ _ _ _ _ _) (by simp))) 4 1 rfl rfl
    have y2_y0 : World.cell? (World.alloc (World.drew w4) (.cells #[.bool (false), .slice (none) (0) (0), .slice (none) (0) (0)] 26)) ⟨w.heap.size + 1, 0, none⟩ = some (.bool (b')) := St.cl ((SD.out.allocAt (w4.heap.size) #[.bool (false), .slice (none) (0) (0), .slice (none) (0) (0)] 26 (noL3 _ _ _ _ _ _ _) (by simp))) 3 0 rfl rfl
    have y2_y1 : World.cell? (World.alloc (World.drew w4) (.cells #[.bool (false), .slice (none) (0) (0), .slice (none) (0) (0)] 26)) ⟨w.heap.size + 1, 1, none⟩ = some (.slice (A') (n') (c')) := St.cl ((SD.out.allocAt (w4.heap.size) #[.bool (false), .slice (none) (0) (0), .slice (none) (0) (0)] 26 (noL3 _ _ _ _ _ _ _) (by simp))) 3 1 rfl rfl
    have y2_z0 : World.cell? (World.alloc (World.drew w4) (.cells #[.bool (false), .slice (none) (0) (0), .slice (none) (0) (0)] 26)) ⟨w.heap.size + 1 + 1, 0, none⟩ = some (.bool (b'')) := St.cl ((SD.out.allocAt (w4.heap.size) #[.bool (false), .slice (none) (0) (0), .slice (none) (0) (0)] 26 (noL3 _ _ _ _ _ _ _) (by simp))) 2 0 rfl rfl
    have y2_z1 : World.cell? (World.alloc (World.drew w4) (.cells #[.bool (false), .slice (none) (0) (0), .slice (none) (0) (0)] 26)) ⟨w.heap.size + 1 + 1, 1, none⟩ = some (.slice (A'') (n'') (c'')) := St.cl ((SD.out.allocAt (w4.heap.size) #[.bool (false), .slice (none) (0) (0), .slice (none) (0) (0)] 26 (noL3 _ _ _ _ _ _ _) (by simp))) 2 1 rfl rfl
    go_region_held3 (fun w' => World.cell? w' ⟨w.heap.size, 0, none⟩ = some (.bool (b)) ∧ World.cell? w' ⟨w.heap.size, 1, none⟩ = some (.slice (A) (n) (c)) ∧ World.cell? w' ⟨w.heap.size + 1, 0, none⟩ = some (.bool (b')) ∧ World.cell? w' ⟨w.heap.size + 1, 1, none⟩ = some (.slice (A') (n') (c')) ∧ World.cell? w' ⟨w.heap.size + 1 + 1, 0, none⟩ = some (.bool (b'')) ∧ World.cell? w' ⟨w.heap.size + 1 + 1, 1, none⟩ = some (.slice (A'') (n'') (c'')))
      (first | exact ⟨y1_x0, y1_x1, y1_y0, y1_y1, y1_z0, y1_z1⟩ | exact ⟨y2_x0, y2_x1, y2_y0, y2_y1, y2_z0, y2_z1⟩ | exact ⟨y3_x0, y3_x1, y3_y0, y3_y1, y3_z0, y3_z1⟩ | exact ⟨y4_x0, y4_x1, y4_y0, y4_y1, y4_z0, y4_z1⟩ | exact ⟨y5_x0, y5_x1, y5_y0, y5_y1, y5_z0, y5_z1⟩ | exact ⟨y6_x0, y6_x1, y6_y0, y6_y1, y6_z0, y6_z1⟩ | exact ⟨y7_x0, y7_x1, y7_y0, y7_y1, y7_z0, y7_z1⟩ | exact ⟨y8_x0, y8_x1, y8_y0, y8_y1, y8_z0, y8_z1⟩ | exact ⟨y9_x0, y9_x1, y9_y0, y9_y1, y9_z0, y9_z1⟩ | exact ⟨y10_x0, y10_x1, y10_y0, y10_y1, y10_z0, y10_z1⟩ | exact ⟨y11_x0, y11_x1, y11_y0, y11_y1, y11_z0, y11_z1⟩ | exact ⟨y12_x0, y12_x1, y12_y0, y12_y1, y12_z0, y12_z1⟩ | exact ⟨y13_x0, y13_x1, y13_y0, y13_y1, y13_z0, y13_z1⟩ | exact ⟨y14_x0, y14_x1, y14_y0, y14_y1, y14_z0, y14_z1⟩ | exact ⟨y15_x0, y15_x1, y15_y0, y15_y1, y15_z0, y15_z1⟩ | exact ⟨y16_x0, y16_x1, y16_y0, y16_y1, y16_z0, y16_z1⟩ | exact ⟨y17_x0, y17_x1, y17_y0, y17_y1, y17_z0, y17_z1⟩ | exact ⟨y18_x0, y18_x1, y18_y0, y18_y1, y18_z0, y18_z1⟩ | exact ⟨y19_x0, y19_x1, y19_y0, y19_y1, y19_z0, y19_z1⟩ | exact ⟨y20_x0, y20_x1, y20_y0, y20_y1, y20_z0, y20_z1⟩ | exact ⟨y21_x0, y21_x1, y21_y0, y21_y1, y21_z0, y21_z1⟩)
      (first
        | (go_at_call_of 49 (Value.agg #[.bool b, .slice A n c]); first
            | (refine (hX.out _ (SD.out.r 4 rfl) (SD.out.r 2 rfl)).mono ?_; rintro e w5 ⟨A2, n2, c2, rfl, Q2, bb0⟩; have S_0 : St w w5 [(w3.heap.size, #[.bool (ng q.num), .slice (A1) (n1) (c1), .slice (D1) (m1) (d1)], 26), (w.heap.size + 1 + 1, #[.bool (b''), .slice (A'') (n'') (c'')], 24), (w.heap.size + 1, #[.bool (b'), .slice (A') (n') (c')], 24), (w.heap.size, #[.bool (b), .slice (A) (n) (c)], 24)] [(A2, n2, c2, limbs ut.natAbs), (D1, m1, d1, dn q), (A1, n1, c1, limbs q.num.natAbs), (A'', n'', c'', zs), (A', n', c', ys), (A, n, c, xs)] := ((SD.out.call bb0).read Q2); have y3_x0 : World.cell? w5 ⟨w.heap.size, 0, none⟩ = some (.bool (b)) := St.cl (S_0) 3 0 rfl rfl; have y3_x1 : World.cell? w5 ⟨w.heap.size, 1, none⟩ = some (.slice (A) (n) (c)) := St.cl (S_0) 3 1 rfl rfl; have y3_y0 : World.cell? w5 ⟨w.heap.size + 1, 0, none⟩ = some (.bool (b')) := St.cl (S_0) 2 0 rfl rfl; have y3_y1 : World.cell? w5 ⟨w.heap.size + 1, 1, none⟩ = some (.slice (A') (n') (c')) := St.cl (S_0) 2 1 rfl rfl; have y3_z0 : World.cell? w5 ⟨w.heap.size + 1 + 1, 0, none⟩ = some (.bool (b'')) := St.cl (S_0) 1 0 rfl rfl; have y3_z1 : World.cell? w5 ⟨w.heap.size + 1 + 1, 1, none⟩ = some (.slice (A'') (n'') (c'')) := St.cl (S_0) 1 1 rfl rfl; have y4_x0 : World.cell? (World.alloc w5 (.cells #[.bool (false), .slice (none) (0) (0), .slice (none) (0) (0)] 26)) ⟨w.heap.size, 0, none⟩ = some (.bool (b)) := St.cl ((S_0.allocAt (w5.heap.size) #[.bool (false), .slice (none) (0) (0), .slice (none) (0) (0)] 26 (noL3 _ _ _ _ _ _ _) (by simp))) 4 0 rfl rfl; have y4_x1 : World.cell? (World.alloc w5 (.cells #[.bool (false), .slice (none) (0) (0), .slice (none) (0) (0)] 26)) ⟨w.heap.size, 1, none⟩ = some (.slice (A) (n) (c)) := St.cl ((S_0.allocAt (w5.heap.size) #[.bool (false), .slice (none) (0) (0), .slice (none) (0) (0)] 26 (noL3 _ _ _ _ _ _ _) (by simp))) 4 1 rfl rfl; have y4_y0 : World.cell? (World.alloc w5 (.cells #[.bool (false), .slice (none) (0) (0), .slice (none) (0) (0)] 26)) ⟨w.heap.size + 1, 0, none⟩ = some (.bool (b')) := St.cl ((S_0.allocAt (w5.heap.size) #[.bool (false), .slice (none) (0) (0), .slice (none) (0) (0)] 26 (noL3 _ _ _ _ _ _ _) (by simp))) 3 0 rfl rfl; have y4_y1 : World.cell? (World.alloc w5 (.cells #[.bool (false), .slice (none) (0) (0), .slice (none) (0) (0)] 26)) ⟨w.heap.size + 1, 1, none⟩ = some (.slice (A') (n') (c')) := St.cl ((S_0.allocAt (w5.heap.size) #[.bool (false), .slice (none) (0) (0), .slice (none) (0) (0)] 26 (noL3 _ _ _ _ _ _ _) (by simp))) 3 1 rfl rfl; have y4_z0 : World.cell? (World.alloc w5 (.cells #[.bool (false), .slice (none) (0) (0), .slice (none) (0) (0)] 26)) ⟨w.heap.size + 1 + 1, 0, none⟩ = some (.bool (b'')) := St.cl ((S_0.allocAt (w5.heap.size) #[.bool (false), .slice (none) (0) (0), .slice (none) (0) (0)] 26 (noL3 _ _ _ _ _ _ _) (by simp))) 2 0 rfl rfl; have y4_z1 : World.cell? (World.alloc w5 (.cells #[.bool (false), .slice (none) (0) (0), .slice (none) (0) (0)] 26)) ⟨w.heap.size + 1 + 1, 1, none⟩ = some (.slice (A'') (n'') (c'')) := St.cl ((S_0.allocAt (w5.heap.size) #[.bool (false), .slice (none) (0) (0), .slice (none) (0) (0)] 26 (noL3 _ _ _ _ _ _ _) (by simp))) 2 1 rfl rfl)
            | (refine (hX.out _ ((SD.out.allocAt (w4.heap.size) #[.bool (false), .slice (none) (0) (0), .slice (none) (0) (0)] 26 (noL3 _ _ _ _ _ _ _) (by simp)).r 4 rfl) ((SD.out.allocAt (w4.heap.size) #[.bool (false), .slice (none) (0) (0), .slice (none) (0) (0)] 26 (noL3 _ _ _ _ _ _ _) (by simp)).r 2 rfl)).mono ?_; rintro e w5 ⟨A2, n2, c2, rfl, Q2, bb0⟩; have S_r0 : St w w5 [(w4.heap.size, #[.bool (false), .slice (none) (0) (0), .slice (none) (0) (0)], 26), (w3.heap.size, #[.bool (ng q.num), .slice (A1) (n1) (c1), .slice (D1) (m1) (d1)], 26), (w.heap.size + 1 + 1, #[.bool (b''), .slice (A'') (n'') (c'')], 24), (w.heap.size + 1, #[.bool (b'), .slice (A') (n') (c')], 24), (w.heap.size, #[.bool (b), .slice (A) (n) (c)], 24)] [(A2, n2, c2, limbs ut.natAbs), (D1, m1, d1, dn q), (A1, n1, c1, limbs q.num.natAbs), (A'', n'', c'', zs), (A', n', c', ys), (A, n, c, xs)] := (((SD.out.allocAt (w4.heap.size) #[.bool (false), .slice (none) (0) (0), .slice (none) (0) (0)] 26 (noL3 _ _ _ _ _ _ _) (by simp)).call bb0).read Q2); have y6_x0 : World.cell? w5 ⟨w.heap.size, 0, none⟩ = some (.bool (b)) := St.cl (S_r0) 4 0 rfl rfl; have y6_x1 : World.cell? w5 ⟨w.heap.size, 1, none⟩ = some (.slice (A) (n) (c)) := St.cl (S_r0) 4 1 rfl rfl; have y6_y0 : World.cell? w5 ⟨w.heap.size + 1, 0, none⟩ = some (.bool (b')) := St.cl (S_r0) 3 0 rfl rfl; have y6_y1 : World.cell? w5 ⟨w.heap.size + 1, 1, none⟩ = some (.slice (A') (n') (c')) := St.cl (S_r0) 3 1 rfl rfl; have y6_z0 : World.cell? w5 ⟨w.heap.size + 1 + 1, 0, none⟩ = some (.bool (b'')) := St.cl (S_r0) 2 0 rfl rfl; have y6_z1 : World.cell? w5 ⟨w.heap.size + 1 + 1, 1, none⟩ = some (.slice (A'') (n'') (c'')) := St.cl (S_r0) 2 1 rfl rfl; have y6v_r0 : World.cell? w5 ⟨w4.heap.size, 0, none⟩ = some (.bool (false)) := St.cl (S_r0) 0 0 rfl rfl; have y6v_r1 : World.cell? w5 ⟨w4.heap.size, 1, none⟩ = some (.slice (none) (0) (0)) := St.cl (S_r0) 0 1 rfl rfl; have y6v_r2 : World.cell? w5 ⟨w4.heap.size, 2, none⟩ = some (.slice (none) (0) (0)) := St.cl (S_r0) 0 2 rfl rfl; have y6vz_r0 : World.frozen? w5 ⟨w4.heap.size, 0, none⟩ = false := St.f (S_r0) 0 0 rfl; have y6vz_r1 : World.frozen? w5 ⟨w4.heap.size, 1, none⟩ = false := St.f (S_r0) 0 1 rfl; have y6vz_r2 : World.frozen? w5 ⟨w4.heap.size, 2, none⟩ = false := St.f (S_r0) 0 2 rfl))
        | (go_at_call_of 49 (Value.agg #[.bool b', .slice A' n' c']); first
            | (refine (hY.out _ (S_0.r 4 rfl) (S_0.r 3 rfl)).mono ?_; rintro e w6 ⟨A3, n3, c3, rfl, Q3, bb1⟩; have S_01 : St w w6 [(w3.heap.size, #[.bool (ng q.num), .slice (A1) (n1) (c1), .slice (D1) (m1) (d1)], 26), (w.heap.size + 1 + 1, #[.bool (b''), .slice (A'') (n'') (c'')], 24), (w.heap.size + 1, #[.bool (b'), .slice (A') (n') (c')], 24), (w.heap.size, #[.bool (b), .slice (A) (n) (c)], 24)] [(A3, n3, c3, limbs vt.natAbs), (A2, n2, c2, limbs ut.natAbs), (D1, m1, d1, dn q), (A1, n1, c1, limbs q.num.natAbs), (A'', n'', c'', zs), (A', n', c', ys), (A, n, c, xs)] := ((S_0.call bb1).read Q3); have y7_x0 : World.cell? w6 ⟨w.heap.size, 0, none⟩ = some (.bool (b)) := St.cl (S_01) 3 0 rfl rfl; have y7_x1 : World.cell? w6 ⟨w.heap.size, 1, none⟩ = some (.slice (A) (n) (c)) := St.cl (S_01) 3 1 rfl rfl; have y7_y0 : World.cell? w6 ⟨w.heap.size + 1, 0, none⟩ = some (.bool (b')) := St.cl (S_01) 2 0 rfl rfl; have y7_y1 : World.cell? w6 ⟨w.heap.size + 1, 1, none⟩ = some (.slice (A') (n') (c')) := St.cl (S_01) 2 1 rfl rfl; have y7_z0 : World.cell? w6 ⟨w.heap.size + 1 + 1, 0, none⟩ = some (.bool (b'')) := St.cl (S_01) 1 0 rfl rfl; have y7_z1 : World.cell? w6 ⟨w.heap.size + 1 + 1, 1, none⟩ = some (.slice (A'') (n'') (c'')) := St.cl (S_01) 1 1 rfl rfl; have y8_x0 : World.cell? (World.alloc w6 (.cells #[.bool (false), .slice (none) (0) (0), .slice (none) (0) (0)] 26)) ⟨w.heap.size, 0, none⟩ = some (.bool (b)) := St.cl ((S_01.allocAt (w6.heap.size) #[.bool (false), .slice (none) (0) (0), .slice (none) (0) (0)] 26 (noL3 _ _ _ _ _ _ _) (by simp))) 4 0 rfl rfl; have y8_x1 : World.cell? (World.alloc w6 (.cells #[.bool (false), .slice (none) (0) (0), .slice (none) (0) (0)] 26)) ⟨w.heap.size, 1, none⟩ = some (.slice (A) (n) (c)) := St.cl ((S_01.allocAt (w6.heap.size) #[.bool (false), .slice (none) (0) (0), .slice (none) (0) (0)] 26 (noL3 _ _ _ _ _ _ _) (by simp))) 4 1 rfl rfl; have y8_y0 : World.cell? (World.alloc w6 (.cells #[.bool (false), .slice (none) (0) (0), .slice (none) (0) (0)] 26)) ⟨w.heap.size + 1, 0, none⟩ = some (.bool (b')) := St.cl ((S_01.allocAt (w6.heap.size) #[.bool (false), .slice (none) (0) (0), .slice (none) (0) (0)] 26 (noL3 _ _ _ _ _ _ _) (by simp))) 3 0 rfl rfl; have y8_y1 : World.cell? (World.alloc w6 (.cells #[.bool (false), .slice (none) (0) (0), .slice (none) (0) (0)] 26)) ⟨w.heap.size + 1, 1, none⟩ = some (.slice (A') (n') (c')) := St.cl ((S_01.allocAt (w6.heap.size) #[.bool (false), .slice (none) (0) (0), .slice (none) (0) (0)] 26 (noL3 _ _ _ _ _ _ _) (by simp))) 3 1 rfl rfl; have y8_z0 : World.cell? (World.alloc w6 (.cells #[.bool (false), .slice (none) (0) (0), .slice (none) (0) (0)] 26)) ⟨w.heap.size + 1 + 1, 0, none⟩ = some (.bool (b'')) := St.cl ((S_01.allocAt (w6.heap.size) #[.bool (false), .slice (none) (0) (0), .slice (none) (0) (0)] 26 (noL3 _ _ _ _ _ _ _) (by simp))) 2 0 rfl rfl; have y8_z1 : World.cell? (World.alloc w6 (.cells #[.bool (false), .slice (none) (0) (0), .slice (none) (0) (0)] 26)) ⟨w.heap.size + 1 + 1, 1, none⟩ = some (.slice (A'') (n'') (c'')) := St.cl ((S_01.allocAt (w6.heap.size) #[.bool (false), .slice (none) (0) (0), .slice (none) (0) (0)] 26 (noL3 _ _ _ _ _ _ _) (by simp))) 2 1 rfl rfl)
            | (refine (hY.out _ ((S_0.allocAt (w5.heap.size) #[.bool (false), .slice (none) (0) (0), .slice (none) (0) (0)] 26 (noL3 _ _ _ _ _ _ _) (by simp)).r 4 rfl) ((S_0.allocAt (w5.heap.size) #[.bool (false), .slice (none) (0) (0), .slice (none) (0) (0)] 26 (noL3 _ _ _ _ _ _ _) (by simp)).r 3 rfl)).mono ?_; rintro e w6 ⟨A3, n3, c3, rfl, Q3, bb1⟩; have S_0r1 : St w w6 [(w5.heap.size, #[.bool (false), .slice (none) (0) (0), .slice (none) (0) (0)], 26), (w3.heap.size, #[.bool (ng q.num), .slice (A1) (n1) (c1), .slice (D1) (m1) (d1)], 26), (w.heap.size + 1 + 1, #[.bool (b''), .slice (A'') (n'') (c'')], 24), (w.heap.size + 1, #[.bool (b'), .slice (A') (n') (c')], 24), (w.heap.size, #[.bool (b), .slice (A) (n) (c)], 24)] [(A3, n3, c3, limbs vt.natAbs), (A2, n2, c2, limbs ut.natAbs), (D1, m1, d1, dn q), (A1, n1, c1, limbs q.num.natAbs), (A'', n'', c'', zs), (A', n', c', ys), (A, n, c, xs)] := (((S_0.allocAt (w5.heap.size) #[.bool (false), .slice (none) (0) (0), .slice (none) (0) (0)] 26 (noL3 _ _ _ _ _ _ _) (by simp)).call bb1).read Q3); have y10_x0 : World.cell? w6 ⟨w.heap.size, 0, none⟩ = some (.bool (b)) := St.cl (S_0r1) 4 0 rfl rfl; have y10_x1 : World.cell? w6 ⟨w.heap.size, 1, none⟩ = some (.slice (A) (n) (c)) := St.cl (S_0r1) 4 1 rfl rfl; have y10_y0 : World.cell? w6 ⟨w.heap.size + 1, 0, none⟩ = some (.bool (b')) := St.cl (S_0r1) 3 0 rfl rfl; have y10_y1 : World.cell? w6 ⟨w.heap.size + 1, 1, none⟩ = some (.slice (A') (n') (c')) := St.cl (S_0r1) 3 1 rfl rfl; have y10_z0 : World.cell? w6 ⟨w.heap.size + 1 + 1, 0, none⟩ = some (.bool (b'')) := St.cl (S_0r1) 2 0 rfl rfl; have y10_z1 : World.cell? w6 ⟨w.heap.size + 1 + 1, 1, none⟩ = some (.slice (A'') (n'') (c'')) := St.cl (S_0r1) 2 1 rfl rfl; have y10v_r0 : World.cell? w6 ⟨w5.heap.size, 0, none⟩ = some (.bool (false)) := St.cl (S_0r1) 0 0 rfl rfl; have y10v_r1 : World.cell? w6 ⟨w5.heap.size, 1, none⟩ = some (.slice (none) (0) (0)) := St.cl (S_0r1) 0 1 rfl rfl; have y10v_r2 : World.cell? w6 ⟨w5.heap.size, 2, none⟩ = some (.slice (none) (0) (0)) := St.cl (S_0r1) 0 2 rfl rfl; have y10vz_r0 : World.frozen? w6 ⟨w5.heap.size, 0, none⟩ = false := St.f (S_0r1) 0 0 rfl; have y10vz_r1 : World.frozen? w6 ⟨w5.heap.size, 1, none⟩ = false := St.f (S_0r1) 0 1 rfl; have y10vz_r2 : World.frozen? w6 ⟨w5.heap.size, 2, none⟩ = false := St.f (S_0r1) 0 2 rfl)
            | (refine (hY.out _ (S_r0.r 4 rfl) (S_r0.r 3 rfl)).mono ?_; rintro e w6 ⟨A3, n3, c3, rfl, Q3, bb1⟩; have S_r01 : St w w6 [(w4.heap.size, #[.bool (false), .slice (none) (0) (0), .slice (none) (0) (0)], 26), (w3.heap.size, #[.bool (ng q.num), .slice (A1) (n1) (c1), .slice (D1) (m1) (d1)], 26), (w.heap.size + 1 + 1, #[.bool (b''), .slice (A'') (n'') (c'')], 24), (w.heap.size + 1, #[.bool (b'), .slice (A') (n') (c')], 24), (w.heap.size, #[.bool (b), .slice (A) (n) (c)], 24)] [(A3, n3, c3, limbs vt.natAbs), (A2, n2, c2, limbs ut.natAbs), (D1, m1, d1, dn q), (A1, n1, c1, limbs q.num.natAbs), (A'', n'', c'', zs), (A', n', c', ys), (A, n, c, xs)] := ((S_r0.call bb1).read Q3); have y11_x0 : World.cell? w6 ⟨w.heap.size, 0, none⟩ = some (.bool (b)) := St.cl (S_r01) 4 0 rfl rfl; have y11_x1 : World.cell? w6 ⟨w.heap.size, 1, none⟩ = some (.slice (A) (n) (c)) := St.cl (S_r01) 4 1 rfl rfl; have y11_y0 : World.cell? w6 ⟨w.heap.size + 1, 0, none⟩ = some (.bool (b')) := St.cl (S_r01) 3 0 rfl rfl; have y11_y1 : World.cell? w6 ⟨w.heap.size + 1, 1, none⟩ = some (.slice (A') (n') (c')) := St.cl (S_r01) 3 1 rfl rfl; have y11_z0 : World.cell? w6 ⟨w.heap.size + 1 + 1, 0, none⟩ = some (.bool (b'')) := St.cl (S_r01) 2 0 rfl rfl; have y11_z1 : World.cell? w6 ⟨w.heap.size + 1 + 1, 1, none⟩ = some (.slice (A'') (n'') (c'')) := St.cl (S_r01) 2 1 rfl rfl; have y11v_r0 : World.cell? w6 ⟨w4.heap.size, 0, none⟩ = some (.bool (false)) := St.cl (S_r01) 0 0 rfl rfl; have y11v_r1 : World.cell? w6 ⟨w4.heap.size, 1, none⟩ = some (.slice (none) (0) (0)) := St.cl (S_r01) 0 1 rfl rfl; have y11v_r2 : World.cell? w6 ⟨w4.heap.size, 2, none⟩ = some (.slice (none) (0) (0)) := St.cl (S_r01) 0 2 rfl rfl; have y11vz_r0 : World.frozen? w6 ⟨w4.heap.size, 0, none⟩ = false := St.f (S_r01) 0 0 rfl; have y11vz_r1 : World.frozen? w6 ⟨w4.heap.size, 1, none⟩ = false := St.f (S_r01) 0 1 rfl; have y11vz_r2 : World.frozen? w6 ⟨w4.heap.size, 2, none⟩ = false := St.f (S_r01) 0 2 rfl))
        | (go_at_call 31; first
            | (refine (hM2.out _ _ _ _ _ _ _ (S_01.r 1 rfl) (S_01.r 0 rfl)).mono ?_; rintro e w7 ⟨A4, n4, c4, D4, m4, d4, rfl, Q4, bb2⟩; have S_012 : St w w7 [(w3.heap.size, #[.bool (ng q.num), .slice (A1) (n1) (c1), .slice (D1) (m1) (d1)], 26), (w.heap.size + 1 + 1, #[.bool (b''), .slice (A'') (n'') (c'')], 24), (w.heap.size + 1, #[.bool (b'), .slice (A') (n') (c')], 24), (w.heap.size, #[.bool (b), .slice (A) (n) (c)], 24)] [(D4, m4, d4, dn q), (A4, n4, c4, limbs q.num.natAbs), (A3, n3, c3, limbs vt.natAbs), (A2, n2, c2, limbs ut.natAbs), (D1, m1, d1, dn q), (A1, n1, c1, limbs q.num.natAbs), (A'', n'', c'', zs), (A', n', c', ys), (A, n, c, xs)] := (((S_01.call bb2).read Q4.n).read Q4.d); have y12_x0 : World.cell? w7 ⟨w.heap.size, 0, none⟩ = some (.bool (b)) := St.cl (S_012) 3 0 rfl rfl; have y12_x1 : World.cell? w7 ⟨w.heap.size, 1, none⟩ = some (.slice (A) (n) (c)) := St.cl (S_012) 3 1 rfl rfl; have y12_y0 : World.cell? w7 ⟨w.heap.size + 1, 0, none⟩ = some (.bool (b')) := St.cl (S_012) 2 0 rfl rfl; have y12_y1 : World.cell? w7 ⟨w.heap.size + 1, 1, none⟩ = some (.slice (A') (n') (c')) := St.cl (S_012) 2 1 rfl rfl; have y12_z0 : World.cell? w7 ⟨w.heap.size + 1 + 1, 0, none⟩ = some (.bool (b'')) := St.cl (S_012) 1 0 rfl rfl; have y12_z1 : World.cell? w7 ⟨w.heap.size + 1 + 1, 1, none⟩ = some (.slice (A'') (n'') (c'')) := St.cl (S_012) 1 1 rfl rfl; have y13_x0 : World.cell? (World.alloc w7 (.cells #[.bool (false), .slice (none) (0) (0), .slice (none) (0) (0)] 26)) ⟨w.heap.size, 0, none⟩ = some (.bool (b)) := St.cl ((S_012.allocAt (w7.heap.size) #[.bool (false), .slice (none) (0) (0), .slice (none) (0) (0)] 26 (noL3 _ _ _ _ _ _ _) (by simp))) 4 0 rfl rfl; have y13_x1 : World.cell? (World.alloc w7 (.cells #[.bool (false), .slice (none) (0) (0), .slice (none) (0) (0)] 26)) ⟨w.heap.size, 1, none⟩ = some (.slice (A) (n) (c)) := St.cl ((S_012.allocAt (w7.heap.size) #[.bool (false), .slice (none) (0) (0), .slice (none) (0) (0)] 26 (noL3 _ _ _ _ _ _ _) (by simp))) 4 1 rfl rfl; have y13_y0 : World.cell? (World.alloc w7 (.cells #[.bool (false), .slice (none) (0) (0), .slice (none) (0) (0)] 26)) ⟨w.heap.size + 1, 0, none⟩ = some (.bool (b')) := St.cl ((S_012.allocAt (w7.heap.size) #[.bool (false), .slice (none) (0) (0), .slice (none) (0) (0)] 26 (noL3 _ _ _ _ _ _ _) (by simp))) 3 0 rfl rfl; have y13_y1 : World.cell? (World.alloc w7 (.cells #[.bool (false), .slice (none) (0) (0), .slice (none) (0) (0)] 26)) ⟨w.heap.size + 1, 1, none⟩ = some (.slice (A') (n') (c')) := St.cl ((S_012.allocAt (w7.heap.size) #[.bool (false), .slice (none) (0) (0), .slice (none) (0) (0)] 26 (noL3 _ _ _ _ _ _ _) (by simp))) 3 1 rfl rfl; have y13_z0 : World.cell? (World.alloc w7 (.cells #[.bool (false), .slice (none) (0) (0), .slice (none) (0) (0)] 26)) ⟨w.heap.size + 1 + 1, 0, none⟩ = some (.bool (b'')) := St.cl ((S_012.allocAt (w7.heap.size) #[.bool (false), .slice (none) (0) (0), .slice (none) (0) (0)] 26 (noL3 _ _ _ _ _ _ _) (by simp))) 2 0 rfl rfl; have y13_z1 : World.cell? (World.alloc w7 (.cells #[.bool (false), .slice (none) (0) (0), .slice (none) (0) (0)] 26)) ⟨w.heap.size + 1 + 1, 1, none⟩ = some (.slice (A'') (n'') (c'')) := St.cl ((S_012.allocAt (w7.heap.size) #[.bool (false), .slice (none) (0) (0), .slice (none) (0) (0)] 26 (noL3 _ _ _ _ _ _ _) (by simp))) 2 1 rfl rfl; have y14_x0 : World.cell? (World.alloc w7 (.cells #[.bool (ng q.num), .slice (A4) (n4) (c4), .slice (D4) (m4) (d4)] 26)) ⟨w.heap.size, 0, none⟩ = some (.bool (b)) := St.cl ((S_012.allocAt (w7.heap.size) #[.bool (ng q.num), .slice (A4) (n4) (c4), .slice (D4) (m4) (d4)] 26 (noL3 _ _ _ _ _ _ _) (by simp))) 4 0 rfl rfl; have y14_x1 : World.cell? (World.alloc w7 (.cells #[.bool (ng q.num), .slice (A4) (n4) (c4), .slice (D4) (m4) (d4)] 26)) ⟨w.heap.size, 1, none⟩ = some (.slice (A) (n) (c)) := St.cl ((S_012.allocAt (w7.heap.size) #[.bool (ng q.num), .slice (A4) (n4) (c4), .slice (D4) (m4) (d4)] 26 (noL3 _ _ _ _ _ _ _) (by simp))) 4 1 rfl rfl; have y14_y0 : World.cell? (World.alloc w7 (.cells #[.bool (ng q.num), .slice (A4) (n4) (c4), .slice (D4) (m4) (d4)] 26)) ⟨w.heap.size + 1, 0, none⟩ = some (.bool (b')) := St.cl ((S_012.allocAt (w7.heap.size) #[.bool (ng q.num), .slice (A4) (n4) (c4), .slice (D4) (m4) (d4)] 26 (noL3 _ _ _ _ _ _ _) (by simp))) 3 0 rfl rfl; have y14_y1 : World.cell? (World.alloc w7 (.cells #[.bool (ng q.num), .slice (A4) (n4) (c4), .slice (D4) (m4) (d4)] 26)) ⟨w.heap.size + 1, 1, none⟩ = some (.slice (A') (n') (c')) := St.cl ((S_012.allocAt (w7.heap.size) #[.bool (ng q.num), .slice (A4) (n4) (c4), .slice (D4) (m4) (d4)] 26 (noL3 _ _ _ _ _ _ _) (by simp))) 3 1 rfl rfl; have y14_z0 : World.cell? (World.alloc w7 (.cells #[.bool (ng q.num), .slice (A4) (n4) (c4), .slice (D4) (m4) (d4)] 26)) ⟨w.heap.size + 1 + 1, 0, none⟩ = some (.bool (b'')) := St.cl ((S_012.allocAt (w7.heap.size) #[.bool (ng q.num), .slice (A4) (n4) (c4), .slice (D4) (m4) (d4)] 26 (noL3 _ _ _ _ _ _ _) (by simp))) 2 0 rfl rfl; have y14_z1 : World.cell? (World.alloc w7 (.cells #[.bool (ng q.num), .slice (A4) (n4) (c4), .slice (D4) (m4) (d4)] 26)) ⟨w.heap.size + 1 + 1, 1, none⟩ = some (.slice (A'') (n'') (c'')) := St.cl ((S_012.allocAt (w7.heap.size) #[.bool (ng q.num), .slice (A4) (n4) (c4), .slice (D4) (m4) (d4)] 26 (noL3 _ _ _ _ _ _ _) (by simp))) 2 1 rfl rfl)
            | (refine (hM2.out _ _ _ _ _ _ _ ((S_01.allocAt (w6.heap.size) #[.bool (false), .slice (none) (0) (0), .slice (none) (0) (0)] 26 (noL3 _ _ _ _ _ _ _) (by simp)).r 1 rfl) ((S_01.allocAt (w6.heap.size) #[.bool (false), .slice (none) (0) (0), .slice (none) (0) (0)] 26 (noL3 _ _ _ _ _ _ _) (by simp)).r 0 rfl)).mono ?_; rintro e w7 ⟨A4, n4, c4, D4, m4, d4, rfl, Q4, bb2⟩; have S_01r2 : St w w7 [(w6.heap.size, #[.bool (false), .slice (none) (0) (0), .slice (none) (0) (0)], 26), (w3.heap.size, #[.bool (ng q.num), .slice (A1) (n1) (c1), .slice (D1) (m1) (d1)], 26), (w.heap.size + 1 + 1, #[.bool (b''), .slice (A'') (n'') (c'')], 24), (w.heap.size + 1, #[.bool (b'), .slice (A') (n') (c')], 24), (w.heap.size, #[.bool (b), .slice (A) (n) (c)], 24)] [(D4, m4, d4, dn q), (A4, n4, c4, limbs q.num.natAbs), (A3, n3, c3, limbs vt.natAbs), (A2, n2, c2, limbs ut.natAbs), (D1, m1, d1, dn q), (A1, n1, c1, limbs q.num.natAbs), (A'', n'', c'', zs), (A', n', c', ys), (A, n, c, xs)] := ((((S_01.allocAt (w6.heap.size) #[.bool (false), .slice (none) (0) (0), .slice (none) (0) (0)] 26 (noL3 _ _ _ _ _ _ _) (by simp)).call bb2).read Q4.n).read Q4.d); have y16_x0 : World.cell? w7 ⟨w.heap.size, 0, none⟩ = some (.bool (b)) := St.cl (S_01r2) 4 0 rfl rfl; have y16_x1 : World.cell? w7 ⟨w.heap.size, 1, none⟩ = some (.slice (A) (n) (c)) := St.cl (S_01r2) 4 1 rfl rfl; have y16_y0 : World.cell? w7 ⟨w.heap.size + 1, 0, none⟩ = some (.bool (b')) := St.cl (S_01r2) 3 0 rfl rfl; have y16_y1 : World.cell? w7 ⟨w.heap.size + 1, 1, none⟩ = some (.slice (A') (n') (c')) := St.cl (S_01r2) 3 1 rfl rfl; have y16_z0 : World.cell? w7 ⟨w.heap.size + 1 + 1, 0, none⟩ = some (.bool (b'')) := St.cl (S_01r2) 2 0 rfl rfl; have y16_z1 : World.cell? w7 ⟨w.heap.size + 1 + 1, 1, none⟩ = some (.slice (A'') (n'') (c'')) := St.cl (S_01r2) 2 1 rfl rfl; have y16v_r0 : World.cell? w7 ⟨w6.heap.size, 0, none⟩ = some (.bool (false)) := St.cl (S_01r2) 0 0 rfl rfl; have y16v_r1 : World.cell? w7 ⟨w6.heap.size, 1, none⟩ = some (.slice (none) (0) (0)) := St.cl (S_01r2) 0 1 rfl rfl; have y16v_r2 : World.cell? w7 ⟨w6.heap.size, 2, none⟩ = some (.slice (none) (0) (0)) := St.cl (S_01r2) 0 2 rfl rfl; have y16vz_r0 : World.frozen? w7 ⟨w6.heap.size, 0, none⟩ = false := St.f (S_01r2) 0 0 rfl; have y16vz_r1 : World.frozen? w7 ⟨w6.heap.size, 1, none⟩ = false := St.f (S_01r2) 0 1 rfl; have y16vz_r2 : World.frozen? w7 ⟨w6.heap.size, 2, none⟩ = false := St.f (S_01r2) 0 2 rfl; have y17_x0 : World.cell? (World.setCell (World.setCell (World.setCell w7 ⟨w6.heap.size, 0, none⟩ (.bool (ng q.num))) ⟨w6.heap.size, 1, none⟩ (.slice (A4) (n4) (c4))) ⟨w6.heap.size, 2, none⟩ (.slice (D4) (m4) (d4))) ⟨w.heap.size, 0, none⟩ = some (.bool (b)) := St.cl ((((S_01r2.set 0 0 (.bool (ng q.num)) rfl (by nofun)).set 0 1 (.slice (A4) (n4) (c4)) rfl (by nofun)).set 0 2 (.slice (D4) (m4) (d4)) rfl (by nofun))) 4 0 rfl rfl; have y17_x1 : World.cell? (World.setCell (World.setCell (World.setCell w7 ⟨w6.heap.size, 0, none⟩ (.bool (ng q.num))) ⟨w6.heap.size, 1, none⟩ (.slice (A4) (n4) (c4))) ⟨w6.heap.size, 2, none⟩ (.slice (D4) (m4) (d4))) ⟨w.heap.size, 1, none⟩ = some (.slice (A) (n) (c)) := St.cl ((((S_01r2.set 0 0 (.bool (ng q.num)) rfl (by nofun)).set 0 1 (.slice (A4) (n4) (c4)) rfl (by nofun)).set 0 2 (.slice (D4) (m4) (d4)) rfl (by nofun))) 4 1 rfl rfl; have y17_y0 : World.cell? (World.setCell (World.setCell (World.setCell w7 ⟨w6.heap.size, 0, none⟩ (.bool (ng q.num))) ⟨w6.heap.size, 1, none⟩ (.slice (A4) (n4) (c4))) ⟨w6.heap.size, 2, none⟩ (.slice (D4) (m4) (d4))) ⟨w.heap.size + 1, 0, none⟩ = some (.bool (b')) := St.cl ((((S_01r2.set 0 0 (.bool (ng q.num)) rfl (by nofun)).set 0 1 (.slice (A4) (n4) (c4)) rfl (by nofun)).set 0 2 (.slice (D4) (m4) (d4)) rfl (by nofun))) 3 0 rfl rfl; have y17_y1 : World.cell? (World.setCell (World.setCell (World.setCell w7 ⟨w6.heap.size, 0, none⟩ (.bool (ng q.num))) ⟨w6.heap.size, 1, none⟩ (.slice (A4) (n4) (c4))) ⟨w6.heap.size, 2, none⟩ (.slice (D4) (m4) (d4))) ⟨w.heap.size + 1, 1, none⟩ = some (.slice (A') (n') (c')) := St.cl ((((S_01r2.set 0 0 (.bool (ng q.num)) rfl (by nofun)).set 0 1 (.slice (A4) (n4) (c4)) rfl (by nofun)).set 0 2 (.slice (D4) (m4) (d4)) rfl (by nofun))) 3 1 rfl rfl; have y17_z0 : World.cell? (World.setCell (World.setCell (World.setCell w7 ⟨w6.heap.size, 0, none⟩ (.bool (ng q.num))) ⟨w6.heap.size, 1, none⟩ (.slice (A4) (n4) (c4))) ⟨w6.heap.size, 2, none⟩ (.slice (D4) (m4) (d4))) ⟨w.heap.size + 1 + 1, 0, none⟩ = some (.bool (b'')) := St.cl ((((S_01r2.set 0 0 (.bool (ng q.num)) rfl (by nofun)).set 0 1 (.slice (A4) (n4) (c4)) rfl (by nofun)).set 0 2 (.slice (D4) (m4) (d4)) rfl (by nofun))) 2 0 rfl rfl; have y17_z1 : World.cell? (World.setCell (World.setCell (World.setCell w7 ⟨w6.heap.size, 0, none⟩ (.bool (ng q.num))) ⟨w6.heap.size, 1, none⟩ (.slice (A4) (n4) (c4))) ⟨w6.heap.size, 2, none⟩ (.slice (D4) (m4) (d4))) ⟨w.heap.size + 1 + 1, 1, none⟩ = some (.slice (A'') (n'') (c'')) := St.cl ((((S_01r2.set 0 0 (.bool (ng q.num)) rfl (by nofun)).set 0 1 (.slice (A4) (n4) (c4)) rfl (by nofun)).set 0 2 (.slice (D4) (m4) (d4)) rfl (by nofun))) 2 1 rfl rfl)
            | (refine (hM2.out _ _ _ _ _ _ _ (S_0r1.r 1 rfl) (S_0r1.r 0 rfl)).mono ?_; rintro e w7 ⟨A4, n4, c4, D4, m4, d4, rfl, Q4, bb2⟩; have S_0r12 : St w w7 [(w5.heap.size, #[.bool (false), .slice (none) (0) (0), .slice (none) (0) (0)], 26), (w3.heap.size, #[.bool (ng q.num), .slice (A1) (n1) (c1), .slice (D1) (m1) (d1)], 26), (w.heap.size + 1 + 1, #[.bool (b''), .slice (A'') (n'') (c'')], 24), (w.heap.size + 1, #[.bool (b'), .slice (A') (n') (c')], 24), (w.heap.size, #[.bool (b), .slice (A) (n) (c)], 24)] [(D4, m4, d4, dn q), (A4, n4, c4, limbs q.num.natAbs), (A3, n3, c3, limbs vt.natAbs), (A2, n2, c2, limbs ut.natAbs), (D1, m1, d1, dn q), (A1, n1, c1, limbs q.num.natAbs), (A'', n'', c'', zs), (A', n', c', ys), (A, n, c, xs)] := (((S_0r1.call bb2).read Q4.n).read Q4.d); have y18_x0 : World.cell? w7 ⟨w.heap.size, 0, none⟩ = some (.bool (b)) := St.cl (S_0r12) 4 0 rfl rfl; have y18_x1 : World.cell? w7 ⟨w.heap.size, 1, none⟩ = some (.slice (A) (n) (c)) := St.cl (S_0r12) 4 1 rfl rfl; have y18_y0 : World.cell? w7 ⟨w.heap.size + 1, 0, none⟩ = some (.bool (b')) := St.cl (S_0r12) 3 0 rfl rfl; have y18_y1 : World.cell? w7 ⟨w.heap.size + 1, 1, none⟩ = some (.slice (A') (n') (c')) := St.cl (S_0r12) 3 1 rfl rfl; have y18_z0 : World.cell? w7 ⟨w.heap.size + 1 + 1, 0, none⟩ = some (.bool (b'')) := St.cl (S_0r12) 2 0 rfl rfl; have y18_z1 : World.cell? w7 ⟨w.heap.size + 1 + 1, 1, none⟩ = some (.slice (A'') (n'') (c'')) := St.cl (S_0r12) 2 1 rfl rfl; have y18v_r0 : World.cell? w7 ⟨w5.heap.size, 0, none⟩ = some (.bool (false)) := St.cl (S_0r12) 0 0 rfl rfl; have y18v_r1 : World.cell? w7 ⟨w5.heap.size, 1, none⟩ = some (.slice (none) (0) (0)) := St.cl (S_0r12) 0 1 rfl rfl; have y18v_r2 : World.cell? w7 ⟨w5.heap.size, 2, none⟩ = some (.slice (none) (0) (0)) := St.cl (S_0r12) 0 2 rfl rfl; have y18vz_r0 : World.frozen? w7 ⟨w5.heap.size, 0, none⟩ = false := St.f (S_0r12) 0 0 rfl; have y18vz_r1 : World.frozen? w7 ⟨w5.heap.size, 1, none⟩ = false := St.f (S_0r12) 0 1 rfl; have y18vz_r2 : World.frozen? w7 ⟨w5.heap.size, 2, none⟩ = false := St.f (S_0r12) 0 2 rfl; have y19_x0 : World.cell? (World.setCell (World.setCell (World.setCell w7 ⟨w5.heap.size, 0, none⟩ (.bool (ng q.num))) ⟨w5.heap.size, 1, none⟩ (.slice (A4) (n4) (c4))) ⟨w5.heap.size, 2, none⟩ (.slice (D4) (m4) (d4))) ⟨w.heap.size, 0, none⟩ = some (.bool (b)) := St.cl ((((S_0r12.set 0 0 (.bool (ng q.num)) rfl (by nofun)).set 0 1 (.slice (A4) (n4) (c4)) rfl (by nofun)).set 0 2 (.slice (D4) (m4) (d4)) rfl (by nofun))) 4 0 rfl rfl; have y19_x1 : World.cell? (World.setCell (World.setCell (World.setCell w7 ⟨w5.heap.size, 0, none⟩ (.bool (ng q.num))) ⟨w5.heap.size, 1, none⟩ (.slice (A4) (n4) (c4))) ⟨w5.heap.size, 2, none⟩ (.slice (D4) (m4) (d4))) ⟨w.heap.size, 1, none⟩ = some (.slice (A) (n) (c)) := St.cl ((((S_0r12.set 0 0 (.bool (ng q.num)) rfl (by nofun)).set 0 1 (.slice (A4) (n4) (c4)) rfl (by nofun)).set 0 2 (.slice (D4) (m4) (d4)) rfl (by nofun))) 4 1 rfl rfl; have y19_y0 : World.cell? (World.setCell (World.setCell (World.setCell w7 ⟨w5.heap.size, 0, none⟩ (.bool (ng q.num))) ⟨w5.heap.size, 1, none⟩ (.slice (A4) (n4) (c4))) ⟨w5.heap.size, 2, none⟩ (.slice (D4) (m4) (d4))) ⟨w.heap.size + 1, 0, none⟩ = some (.bool (b')) := St.cl ((((S_0r12.set 0 0 (.bool (ng q.num)) rfl (by nofun)).set 0 1 (.slice (A4) (n4) (c4)) rfl (by nofun)).set 0 2 (.slice (D4) (m4) (d4)) rfl (by nofun))) 3 0 rfl rfl; have y19_y1 : World.cell? (World.setCell (World.setCell (World.setCell w7 ⟨w5.heap.size, 0, none⟩ (.bool (ng q.num))) ⟨w5.heap.size, 1, none⟩ (.slice (A4) (n4) (c4))) ⟨w5.heap.size, 2, none⟩ (.slice (D4) (m4) (d4))) ⟨w.heap.size + 1, 1, none⟩ = some (.slice (A') (n') (c')) := St.cl ((((S_0r12.set 0 0 (.bool (ng q.num)) rfl (by nofun)).set 0 1 (.slice (A4) (n4) (c4)) rfl (by nofun)).set 0 2 (.slice (D4) (m4) (d4)) rfl (by nofun))) 3 1 rfl rfl; have y19_z0 : World.cell? (World.setCell (World.setCell (World.setCell w7 ⟨w5.heap.size, 0, none⟩ (.bool (ng q.num))) ⟨w5.heap.size, 1, none⟩ (.slice (A4) (n4) (c4))) ⟨w5.heap.size, 2, none⟩ (.slice (D4) (m4) (d4))) ⟨w.heap.size + 1 + 1, 0, none⟩ = some (.bool (b'')) := St.cl ((((S_0r12.set 0 0 (.bool (ng q.num)) rfl (by nofun)).set 0 1 (.slice (A4) (n4) (c4)) rfl (by nofun)).set 0 2 (.slice (D4) (m4) (d4)) rfl (by nofun))) 2 0 rfl rfl; have y19_z1 : World.cell? (World.setCell (World.setCell (World.setCell w7 ⟨w5.heap.size, 0, none⟩ (.bool (ng q.num))) ⟨w5.heap.size, 1, none⟩ (.slice (A4) (n4) (c4))) ⟨w5.heap.size, 2, none⟩ (.slice (D4) (m4) (d4))) ⟨w.heap.size + 1 + 1, 1, none⟩ = some (.slice (A'') (n'') (c'')) := St.cl ((((S_0r12.set 0 0 (.bool (ng q.num)) rfl (by nofun)).set 0 1 (.slice (A4) (n4) (c4)) rfl (by nofun)).set 0 2 (.slice (D4) (m4) (d4)) rfl (by nofun))) 2 1 rfl rfl)
            | (refine (hM2.out _ _ _ _ _ _ _ (S_r01.r 1 rfl) (S_r01.r 0 rfl)).mono ?_; rintro e w7 ⟨A4, n4, c4, D4, m4, d4, rfl, Q4, bb2⟩; have S_r012 : St w w7 [(w4.heap.size, #[.bool (false), .slice (none) (0) (0), .slice (none) (0) (0)], 26), (w3.heap.size, #[.bool (ng q.num), .slice (A1) (n1) (c1), .slice (D1) (m1) (d1)], 26), (w.heap.size + 1 + 1, #[.bool (b''), .slice (A'') (n'') (c'')], 24), (w.heap.size + 1, #[.bool (b'), .slice (A') (n') (c')], 24), (w.heap.size, #[.bool (b), .slice (A) (n) (c)], 24)] [(D4, m4, d4, dn q), (A4, n4, c4, limbs q.num.natAbs), (A3, n3, c3, limbs vt.natAbs), (A2, n2, c2, limbs ut.natAbs), (D1, m1, d1, dn q), (A1, n1, c1, limbs q.num.natAbs), (A'', n'', c'', zs), (A', n', c', ys), (A, n, c, xs)] := (((S_r01.call bb2).read Q4.n).read Q4.d); have y20_x0 : World.cell? w7 ⟨w.heap.size, 0, none⟩ = some (.bool (b)) := St.cl (S_r012) 4 0 rfl rfl; have y20_x1 : World.cell? w7 ⟨w.heap.size, 1, none⟩ = some (.slice (A) (n) (c)) := St.cl (S_r012) 4 1 rfl rfl; have y20_y0 : World.cell? w7 ⟨w.heap.size + 1, 0, none⟩ = some (.bool (b')) := St.cl (S_r012) 3 0 rfl rfl; have y20_y1 : World.cell? w7 ⟨w.heap.size + 1, 1, none⟩ = some (.slice (A') (n') (c')) := St.cl (S_r012) 3 1 rfl rfl; have y20_z0 : World.cell? w7 ⟨w.heap.size + 1 + 1, 0, none⟩ = some (.bool (b'')) := St.cl (S_r012) 2 0 rfl rfl; have y20_z1 : World.cell? w7 ⟨w.heap.size + 1 + 1, 1, none⟩ = some (.slice (A'') (n'') (c'')) := St.cl (S_r012) 2 1 rfl rfl; have y20v_r0 : World.cell? w7 ⟨w4.heap.size, 0, none⟩ = some (.bool (false)) := St.cl (S_r012) 0 0 rfl rfl; have y20v_r1 : World.cell? w7 ⟨w4.heap.size, 1, none⟩ = some (.slice (none) (0) (0)) := St.cl (S_r012) 0 1 rfl rfl; have y20v_r2 : World.cell? w7 ⟨w4.heap.size, 2, none⟩ = some (.slice (none) (0) (0)) := St.cl (S_r012) 0 2 rfl rfl; have y20vz_r0 : World.frozen? w7 ⟨w4.heap.size, 0, none⟩ = false := St.f (S_r012) 0 0 rfl; have y20vz_r1 : World.frozen? w7 ⟨w4.heap.size, 1, none⟩ = false := St.f (S_r012) 0 1 rfl; have y20vz_r2 : World.frozen? w7 ⟨w4.heap.size, 2, none⟩ = false := St.f (S_r012) 0 2 rfl; have y21_x0 : World.cell? (World.setCell (World.setCell (World.setCell w7 ⟨w4.heap.size, 0, none⟩ (.bool (ng q.num))) ⟨w4.heap.size, 1, none⟩ (.slice (A4) (n4) (c4))) ⟨w4.heap.size, 2, none⟩ (.slice (D4) (m4) (d4))) ⟨w.heap.size, 0, none⟩ = some (.bool (b)) := St.cl ((((S_r012.set 0 0 (.bool (ng q.num)) rfl (by nofun)).set 0 1 (.slice (A4) (n4) (c4)) rfl (by nofun)).set 0 2 (.slice (D4) (m4) (d4)) rfl (by nofun))) 4 0 rfl rfl; have y21_x1 : World.cell? (World.setCell (World.setCell (World.setCell w7 ⟨w4.heap.size, 0, none⟩ (.bool (ng q.num))) ⟨w4.heap.size, 1, none⟩ (.slice (A4) (n4) (c4))) ⟨w4.heap.size, 2, none⟩ (.slice (D4) (m4) (d4))) ⟨w.heap.size, 1, none⟩ = some (.slice (A) (n) (c)) := St.cl ((((S_r012.set 0 0 (.bool (ng q.num)) rfl (by nofun)).set 0 1 (.slice (A4) (n4) (c4)) rfl (by nofun)).set 0 2 (.slice (D4) (m4) (d4)) rfl (by nofun))) 4 1 rfl rfl; have y21_y0 : World.cell? (World.setCell (World.setCell (World.setCell w7 ⟨w4.heap.size, 0, none⟩ (.bool (ng q.num))) ⟨w4.heap.size, 1, none⟩ (.slice (A4) (n4) (c4))) ⟨w4.heap.size, 2, none⟩ (.slice (D4) (m4) (d4))) ⟨w.heap.size + 1, 0, none⟩ = some (.bool (b')) := St.cl ((((S_r012.set 0 0 (.bool (ng q.num)) rfl (by nofun)).set 0 1 (.slice (A4) (n4) (c4)) rfl (by nofun)).set 0 2 (.slice (D4) (m4) (d4)) rfl (by nofun))) 3 0 rfl rfl; have y21_y1 : World.cell? (World.setCell (World.setCell (World.setCell w7 ⟨w4.heap.size, 0, none⟩ (.bool (ng q.num))) ⟨w4.heap.size, 1, none⟩ (.slice (A4) (n4) (c4))) ⟨w4.heap.size, 2, none⟩ (.slice (D4) (m4) (d4))) ⟨w.heap.size + 1, 1, none⟩ = some (.slice (A') (n') (c')) := St.cl ((((S_r012.set 0 0 (.bool (ng q.num)) rfl (by nofun)).set 0 1 (.slice (A4) (n4) (c4)) rfl (by nofun)).set 0 2 (.slice (D4) (m4) (d4)) rfl (by nofun))) 3 1 rfl rfl; have y21_z0 : World.cell? (World.setCell (World.setCell (World.setCell w7 ⟨w4.heap.size, 0, none⟩ (.bool (ng q.num))) ⟨w4.heap.size, 1, none⟩ (.slice (A4) (n4) (c4))) ⟨w4.heap.size, 2, none⟩ (.slice (D4) (m4) (d4))) ⟨w.heap.size + 1 + 1, 0, none⟩ = some (.bool (b'')) := St.cl ((((S_r012.set 0 0 (.bool (ng q.num)) rfl (by nofun)).set 0 1 (.slice (A4) (n4) (c4)) rfl (by nofun)).set 0 2 (.slice (D4) (m4) (d4)) rfl (by nofun))) 2 0 rfl rfl; have y21_z1 : World.cell? (World.setCell (World.setCell (World.setCell w7 ⟨w4.heap.size, 0, none⟩ (.bool (ng q.num))) ⟨w4.heap.size, 1, none⟩ (.slice (A4) (n4) (c4))) ⟨w4.heap.size, 2, none⟩ (.slice (D4) (m4) (d4))) ⟨w.heap.size + 1 + 1, 1, none⟩ = some (.slice (A'') (n'') (c'')) := St.cl ((((S_r012.set 0 0 (.bool (ng q.num)) rfl (by nofun)).set 0 1 (.slice (A4) (n4) (c4)) rfl (by nofun)).set 0 2 (.slice (D4) (m4) (d4)) rfl (by nofun))) 2 1 rfl rfl)))
    all_goals
      go_wp2_with fail
      go_meet
      first
        | (have T := (S_012.allocAt (w7.heap.size) #[.bool (ng q.num), .slice (A4) (n4) (c4), .slice (D4) (m4) (d4)] 26 (noL3 _ _ _ _ _ _ _) (by simp)); exact ⟨_, _, _, _, _, _, _, rfl, rfl, T.pick [0, 1, 2, 3, 4] [0, 1, 4, 5, 6, 7, 8] rfl (by decide) rfl⟩)
        | (have T := (((S_01r2.set 0 0 (.bool (ng q.num)) rfl (by nofun)).set 0 1 (.slice (A4) (n4) (c4)) rfl (by nofun)).set 0 2 (.slice (D4) (m4) (d4)) rfl (by nofun)); exact ⟨_, _, _, _, _, _, _, rfl, rfl, T.pick [0, 1, 2, 3, 4] [0, 1, 4, 5, 6, 7, 8] rfl (by decide) rfl⟩)
        | (have T := (((S_0r12.set 0 0 (.bool (ng q.num)) rfl (by nofun)).set 0 1 (.slice (A4) (n4) (c4)) rfl (by nofun)).set 0 2 (.slice (D4) (m4) (d4)) rfl (by nofun)); exact ⟨_, _, _, _, _, _, _, rfl, rfl, T.pick [0, 1, 2, 3, 4] [0, 1, 4, 5, 6, 7, 8] rfl (by decide) rfl⟩)
        | (have T := (((S_r012.set 0 0 (.bool (ng q.num)) rfl (by nofun)).set 0 1 (.slice (A4) (n4) (c4)) rfl (by nofun)).set 0 2 (.slice (D4) (m4) (d4)) rfl (by nofun)); exact ⟨_, _, _, _, _, _, _, rfl, rfl, T.pick [0, 1, 2, 3, 4] [0, 1, 4, 5, 6, 7, 8] rfl (by decide) rfl⟩)
  case rest =>
    clear S
    obtain ⟨g_r, A4, n4, c4, D4, m4, d4, rfl, rfl, S⟩ := hcut
    have c_r0 : World.cell? wc ⟨g_r, 0, none⟩ = some (.bool (ng q.num)) := S.cl 0 0 rfl rfl
    have f_r0 : World.frozen? wc ⟨g_r, 0, none⟩ = false := S.f 0 0 rfl
    have c_r1 : World.cell? wc ⟨g_r, 1, none⟩ = some (.slice (A4) (n4) (c4)) := S.cl 0 1 rfl rfl
    have f_r1 : World.frozen? wc ⟨g_r, 1, none⟩ = false := S.f 0 1 rfl
    have c_r2 : World.cell? wc ⟨g_r, 2, none⟩ = some (.slice (D4) (m4) (d4)) := S.cl 0 2 rfl rfl
    have f_r2 : World.frozen? wc ⟨g_r, 2, none⟩ = false := S.f 0 2 rfl
    have c_p0 : World.cell? wc ⟨w3.heap.size, 0, none⟩ = some (.bool (ng q.num)) := S.cl 1 0 rfl rfl
    have f_p0 : World.frozen? wc ⟨w3.heap.size, 0, none⟩ = false := S.f 1 0 rfl
    have c_p1 : World.cell? wc ⟨w3.heap.size, 1, none⟩ = some (.slice (A1) (n1) (c1)) := S.cl 1 1 rfl rfl
    have f_p1 : World.frozen? wc ⟨w3.heap.size, 1, none⟩ = false := S.f 1 1 rfl
    have c_p2 : World.cell? wc ⟨w3.heap.size, 2, none⟩ = some (.slice (D1) (m1) (d1)) := S.cl 1 2 rfl rfl
    have f_p2 : World.frozen? wc ⟨w3.heap.size, 2, none⟩ = false := S.f 1 2 rfl
    have c_z0 : World.cell? wc ⟨w.heap.size + 1 + 1, 0, none⟩ = some (.bool (b'')) := S.cl 2 0 rfl rfl
    have f_z0 : World.frozen? wc ⟨w.heap.size + 1 + 1, 0, none⟩ = false := S.f 2 0 rfl
    have c_z1 : World.cell? wc ⟨w.heap.size + 1 + 1, 1, none⟩ = some (.slice (A'') (n'') (c'')) := S.cl 2 1 rfl rfl
    have f_z1 : World.frozen? wc ⟨w.heap.size + 1 + 1, 1, none⟩ = false := S.f 2 1 rfl
    have c_y0 : World.cell? wc ⟨w.heap.size + 1, 0, none⟩ = some (.bool (b')) := S.cl 3 0 rfl rfl
    have f_y0 : World.frozen? wc ⟨w.heap.size + 1, 0, none⟩ = false := S.f 3 0 rfl
    have c_y1 : World.cell? wc ⟨w.heap.size + 1, 1, none⟩ = some (.slice (A') (n') (c')) := S.cl 3 1 rfl rfl
    have f_y1 : World.frozen? wc ⟨w.heap.size + 1, 1, none⟩ = false := S.f 3 1 rfl
    have c_x0 : World.cell? wc ⟨w.heap.size, 0, none⟩ = some (.bool (b)) := S.cl 4 0 rfl rfl
    have f_x0 : World.frozen? wc ⟨w.heap.size, 0, none⟩ = false := S.f 4 0 rfl
    have c_x1 : World.cell? wc ⟨w.heap.size, 1, none⟩ = some (.slice (A) (n) (c)) := S.cl 4 1 rfl rfl
    have f_x1 : World.frozen? wc ⟨w.heap.size, 1, none⟩ = false := S.f 4 1 rfl
    have hz : g_r < wc.heap.size := S.lt 0 rfl
    replace S := Lib.hid S
    clear hX hY hM2
    go_wp2_with fail
    clear c_r0 f_r0 c_r1 f_r1 c_r2 f_r2 c_p0 f_p0 c_p1 f_p1 c_p2 f_p2 c_z0 f_z0 c_z1 f_z1 c_y0 f_y0 c_y1 f_y1 c_x0 f_x0 c_x1 f_x1 hz
    have S : St w _ [(g_r, #[.bool (ng q.num), .slice (A4) (n4) (c4), .slice (D4) (m4) (d4)], 26), (w3.heap.size, #[.bool (ng q.num), .slice (A1) (n1) (c1), .slice (D1) (m1) (d1)], 26), (w.heap.size + 1 + 1, #[.bool (b''), .slice (A'') (n'') (c'')], 24), (w.heap.size + 1, #[.bool (b'), .slice (A') (n') (c')], 24), (w.heap.size, #[.bool (b), .slice (A) (n) (c)], 24)] [(D4, m4, d4, dn q), (A4, n4, c4, limbs q.num.natAbs), (D1, m1, d1, dn q), (A1, n1, c1, limbs q.num.natAbs), (A'', n'', c'', zs), (A', n', c', ys), (A, n, c, xs)] := S.out
    replace S := Lib.hid S
    have d_p0 : World.cell? wc ⟨w3.heap.size, 0, none⟩ = some (.bool (ng q.num)) := St.cl (S.out) 1 0 rfl rfl
    have d_p1 : World.cell? wc ⟨w3.heap.size, 1, none⟩ = some (.slice (A1) (n1) (c1)) := St.cl (S.out) 1 1 rfl rfl
    have d_p2 : World.cell? wc ⟨w3.heap.size, 2, none⟩ = some (.slice (D1) (m1) (d1)) := St.cl (S.out) 1 2 rfl rfl
    have d_r0 : World.cell? wc ⟨g_r, 0, none⟩ = some (.bool (ng q.num)) := St.cl (S.out) 0 0 rfl rfl
    have d_r1 : World.cell? wc ⟨g_r, 1, none⟩ = some (.slice (A4) (n4) (c4)) := St.cl (S.out) 0 1 rfl rfl
    have d_r2 : World.cell? wc ⟨g_r, 2, none⟩ = some (.slice (D4) (m4) (d4)) := St.cl (S.out) 0 2 rfl rfl
    have d_x0 : World.cell? wc ⟨w.heap.size, 0, none⟩ = some (.bool (b)) := St.cl (S.out) 4 0 rfl rfl
    have d_x1 : World.cell? wc ⟨w.heap.size, 1, none⟩ = some (.slice (A) (n) (c)) := St.cl (S.out) 4 1 rfl rfl
    have d_y0 : World.cell? wc ⟨w.heap.size + 1, 0, none⟩ = some (.bool (b')) := St.cl (S.out) 3 0 rfl rfl
    have d_y1 : World.cell? wc ⟨w.heap.size + 1, 1, none⟩ = some (.slice (A') (n') (c')) := St.cl (S.out) 3 1 rfl rfl
    have SD := Lib.hid (S.out.drew)
    go_region_held3 (fun w' => World.cell? w' ⟨w3.heap.size, 0, none⟩ = some (.bool (ng q.num)) ∧ World.cell? w' ⟨w3.heap.size, 1, none⟩ = some (.slice (A1) (n1) (c1)) ∧ World.cell? w' ⟨w3.heap.size, 2, none⟩ = some (.slice (D1) (m1) (d1)) ∧ World.cell? w' ⟨g_r, 0, none⟩ = some (.bool (ng q.num)) ∧ World.cell? w' ⟨g_r, 1, none⟩ = some (.slice (A4) (n4) (c4)) ∧ World.cell? w' ⟨g_r, 2, none⟩ = some (.slice (D4) (m4) (d4)) ∧ World.cell? w' ⟨w.heap.size, 0, none⟩ = some (.bool (b)) ∧ World.cell? w' ⟨w.heap.size, 1, none⟩ = some (.slice (A) (n) (c)) ∧ World.cell? w' ⟨w.heap.size + 1, 0, none⟩ = some (.bool (b')) ∧ World.cell? w' ⟨w.heap.size + 1, 1, none⟩ = some (.slice (A') (n') (c')))
      (first | exact ⟨d_p0, d_p1, d_p2, d_r0, d_r1, d_r2, d_x0, d_x1, d_y0, d_y1⟩ | exact ⟨e0_p0, e0_p1, e0_p2, e0_r0, e0_r1, e0_r2, e0_x0, e0_x1, e0_y0, e0_y1⟩ | exact ⟨e1_p0, e1_p1, e1_p2, e1_r0, e1_r1, e1_r2, e1_x0, e1_x1, e1_y0, e1_y1⟩ | exact ⟨e2_p0, e2_p1, e2_p2, e2_r0, e2_r1, e2_r2, e2_x0, e2_x1, e2_y0, e2_y1⟩ | exact ⟨e3_p0, e3_p1, e3_p2, e3_r0, e3_r1, e3_r2, e3_x0, e3_x1, e3_y0, e3_y1⟩ | exact ⟨e4_p0, e4_p1, e4_p2, e4_r0, e4_r1, e4_r2, e4_x0, e4_x1, e4_y0, e4_y1⟩ | exact ⟨e5_p0, e5_p1, e5_p2, e5_r0, e5_r1, e5_r2, e5_x0, e5_x1, e5_y0, e5_y1⟩ | exact ⟨e6_p0, e6_p1, e6_p2, e6_r0, e6_r1, e6_r2, e6_x0, e6_x1, e6_y0, e6_y1⟩ | exact ⟨e7_p0, e7_p1, e7_p2, e7_r0, e7_r1, e7_r2, e7_x0, e7_x1, e7_y0, e7_y1⟩ | exact ⟨e8_p0, e8_p1, e8_p2, e8_r0, e8_r1, e8_r2, e8_x0, e8_x1, e8_y0, e8_y1⟩)
      (first
        | (go_at_call 14; refine (hA.out _ (tab_below htab.out (SD.out).bel)).mono ?_; rintro e w8 ⟨rfl, bb0⟩; have S0 : St w w8 [(g_r, #[.bool (ng q.num), .slice (A4) (n4) (c4), .slice (D4) (m4) (d4)], 26), (w3.heap.size, #[.bool (ng q.num), .slice (A1) (n1) (c1), .slice (D1) (m1) (d1)], 26), (w.heap.size + 1 + 1, #[.bool (b''), .slice (A'') (n'') (c'')], 24), (w.heap.size + 1, #[.bool (b'), .slice (A') (n') (c')], 24), (w.heap.size, #[.bool (b), .slice (A) (n) (c)], 24)] [(D4, m4, d4, dn q), (A4, n4, c4, limbs q.num.natAbs), (D1, m1, d1, dn q), (A1, n1, c1, limbs q.num.natAbs), (A'', n'', c'', zs), (A', n', c', ys), (A, n, c, xs)] := (SD.out.call bb0); have e0_p0 : World.cell? w8 ⟨w3.heap.size, 0, none⟩ = some (.bool (ng q.num)) := St.cl (S0) 1 0 rfl rfl; have e0_p1 : World.cell? w8 ⟨w3.heap.size, 1, none⟩ = some (.slice (A1) (n1) (c1)) := St.cl (S0) 1 1 rfl rfl; have e0_p2 : World.cell? w8 ⟨w3.heap.size, 2, none⟩ = some (.slice (D1) (m1) (d1)) := St.cl (S0) 1 2 rfl rfl; have e0_r0 : World.cell? w8 ⟨g_r, 0, none⟩ = some (.bool (ng q.num)) := St.cl (S0) 0 0 rfl rfl; have e0_r1 : World.cell? w8 ⟨g_r, 1, none⟩ = some (.slice (A4) (n4) (c4)) := St.cl (S0) 0 1 rfl rfl; have e0_r2 : World.cell? w8 ⟨g_r, 2, none⟩ = some (.slice (D4) (m4) (d4)) := St.cl (S0) 0 2 rfl rfl; have e0_x0 : World.cell? w8 ⟨w.heap.size, 0, none⟩ = some (.bool (b)) := St.cl (S0) 4 0 rfl rfl; have e0_x1 : World.cell? w8 ⟨w.heap.size, 1, none⟩ = some (.slice (A) (n) (c)) := St.cl (S0) 4 1 rfl rfl; have e0_y0 : World.cell? w8 ⟨w.heap.size + 1, 0, none⟩ = some (.bool (b')) := St.cl (S0) 3 0 rfl rfl; have e0_y1 : World.cell? w8 ⟨w.heap.size + 1, 1, none⟩ = some (.slice (A') (n') (c')) := St.cl (S0) 3 1 rfl rfl)
        | (go_at_call 15; refine (hV.out _ _ _ _ _ _ _ ⟨(S0.r 3 rfl), (S0.r 2 rfl)⟩).mono ?_; rintro e w9 ⟨rfl, bb1⟩; have S1 : St w w9 [(g_r, #[.bool (ng q.num), .slice (A4) (n4) (c4), .slice (D4) (m4) (d4)], 26), (w3.heap.size, #[.bool (ng q.num), .slice (A1) (n1) (c1), .slice (D1) (m1) (d1)], 26), (w.heap.size + 1 + 1, #[.bool (b''), .slice (A'') (n'') (c'')], 24), (w.heap.size + 1, #[.bool (b'), .slice (A') (n') (c')], 24), (w.heap.size, #[.bool (b), .slice (A) (n) (c)], 24)] [(D4, m4, d4, dn q), (A4, n4, c4, limbs q.num.natAbs), (D1, m1, d1, dn q), (A1, n1, c1, limbs q.num.natAbs), (A'', n'', c'', zs), (A', n', c', ys), (A, n, c, xs)] := (S0.call bb1); have e1_p0 : World.cell? w9 ⟨w3.heap.size, 0, none⟩ = some (.bool (ng q.num)) := St.cl (S1) 1 0 rfl rfl; have e1_p1 : World.cell? w9 ⟨w3.heap.size, 1, none⟩ = some (.slice (A1) (n1) (c1)) := St.cl (S1) 1 1 rfl rfl; have e1_p2 : World.cell? w9 ⟨w3.heap.size, 2, none⟩ = some (.slice (D1) (m1) (d1)) := St.cl (S1) 1 2 rfl rfl; have e1_r0 : World.cell? w9 ⟨g_r, 0, none⟩ = some (.bool (ng q.num)) := St.cl (S1) 0 0 rfl rfl; have e1_r1 : World.cell? w9 ⟨g_r, 1, none⟩ = some (.slice (A4) (n4) (c4)) := St.cl (S1) 0 1 rfl rfl; have e1_r2 : World.cell? w9 ⟨g_r, 2, none⟩ = some (.slice (D4) (m4) (d4)) := St.cl (S1) 0 2 rfl rfl; have e1_x0 : World.cell? w9 ⟨w.heap.size, 0, none⟩ = some (.bool (b)) := St.cl (S1) 4 0 rfl rfl; have e1_x1 : World.cell? w9 ⟨w.heap.size, 1, none⟩ = some (.slice (A) (n) (c)) := St.cl (S1) 4 1 rfl rfl; have e1_y0 : World.cell? w9 ⟨w.heap.size + 1, 0, none⟩ = some (.bool (b')) := St.cl (S1) 3 0 rfl rfl; have e1_y1 : World.cell? w9 ⟨w.heap.size + 1, 1, none⟩ = some (.slice (A') (n') (c')) := St.cl (S1) 3 1 rfl rfl)
        | (go_at_call 17; refine (hS.out _ _ _ _ _ _ _ _ _ _ _ _ _ ⟨(S1.r 3 rfl), (S1.r 2 rfl)⟩ ⟨(S1.r 1 rfl), (S1.r 0 rfl)⟩).mono ?_; rintro e w10 ⟨rfl, bb2⟩; have S2 : St w w10 [(g_r, #[.bool (ng q.num), .slice (A4) (n4) (c4), .slice (D4) (m4) (d4)], 26), (w3.heap.size, #[.bool (ng q.num), .slice (A1) (n1) (c1), .slice (D1) (m1) (d1)], 26), (w.heap.size + 1 + 1, #[.bool (b''), .slice (A'') (n'') (c'')], 24), (w.heap.size + 1, #[.bool (b'), .slice (A') (n') (c')], 24), (w.heap.size, #[.bool (b), .slice (A) (n) (c)], 24)] [(D4, m4, d4, dn q), (A4, n4, c4, limbs q.num.natAbs), (D1, m1, d1, dn q), (A1, n1, c1, limbs q.num.natAbs), (A'', n'', c'', zs), (A', n', c', ys), (A, n, c, xs)] := (S1.call bb2); have e2_p0 : World.cell? w10 ⟨w3.heap.size, 0, none⟩ = some (.bool (ng q.num)) := St.cl (S2) 1 0 rfl rfl; have e2_p1 : World.cell? w10 ⟨w3.heap.size, 1, none⟩ = some (.slice (A1) (n1) (c1)) := St.cl (S2) 1 1 rfl rfl; have e2_p2 : World.cell? w10 ⟨w3.heap.size, 2, none⟩ = some (.slice (D1) (m1) (d1)) := St.cl (S2) 1 2 rfl rfl; have e2_r0 : World.cell? w10 ⟨g_r, 0, none⟩ = some (.bool (ng q.num)) := St.cl (S2) 0 0 rfl rfl; have e2_r1 : World.cell? w10 ⟨g_r, 1, none⟩ = some (.slice (A4) (n4) (c4)) := St.cl (S2) 0 1 rfl rfl; have e2_r2 : World.cell? w10 ⟨g_r, 2, none⟩ = some (.slice (D4) (m4) (d4)) := St.cl (S2) 0 2 rfl rfl; have e2_x0 : World.cell? w10 ⟨w.heap.size, 0, none⟩ = some (.bool (b)) := St.cl (S2) 4 0 rfl rfl; have e2_x1 : World.cell? w10 ⟨w.heap.size, 1, none⟩ = some (.slice (A) (n) (c)) := St.cl (S2) 4 1 rfl rfl; have e2_y0 : World.cell? w10 ⟨w.heap.size + 1, 0, none⟩ = some (.bool (b')) := St.cl (S2) 3 0 rfl rfl; have e2_y1 : World.cell? w10 ⟨w.heap.size + 1, 1, none⟩ = some (.slice (A') (n') (c')) := St.cl (S2) 3 1 rfl rfl)
        | (go_at_call_of 50 (Value.agg #[.bool b', .slice A' n' c']); refine (hT2.out _ (S2.r 5 rfl)).mono ?_; rintro e w11 ⟨A5, n5, c5, rfl, Q5, bb3⟩; have S3 : St w w11 [(g_r, #[.bool (ng q.num), .slice (A4) (n4) (c4), .slice (D4) (m4) (d4)], 26), (w3.heap.size, #[.bool (ng q.num), .slice (A1) (n1) (c1), .slice (D1) (m1) (d1)], 26), (w.heap.size + 1 + 1, #[.bool (b''), .slice (A'') (n'') (c'')], 24), (w.heap.size + 1, #[.bool (b'), .slice (A') (n') (c')], 24), (w.heap.size, #[.bool (b), .slice (A) (n) (c)], 24)] [(A5, n5, c5, limbs v.natAbs), (D4, m4, d4, dn q), (A4, n4, c4, limbs q.num.natAbs), (D1, m1, d1, dn q), (A1, n1, c1, limbs q.num.natAbs), (A'', n'', c'', zs), (A', n', c', ys), (A, n, c, xs)] := ((S2.call bb3).read Q5); have e3_p0 : World.cell? w11 ⟨w3.heap.size, 0, none⟩ = some (.bool (ng q.num)) := St.cl (S3) 1 0 rfl rfl; have e3_p1 : World.cell? w11 ⟨w3.heap.size, 1, none⟩ = some (.slice (A1) (n1) (c1)) := St.cl (S3) 1 1 rfl rfl; have e3_p2 : World.cell? w11 ⟨w3.heap.size, 2, none⟩ = some (.slice (D1) (m1) (d1)) := St.cl (S3) 1 2 rfl rfl; have e3_r0 : World.cell? w11 ⟨g_r, 0, none⟩ = some (.bool (ng q.num)) := St.cl (S3) 0 0 rfl rfl; have e3_r1 : World.cell? w11 ⟨g_r, 1, none⟩ = some (.slice (A4) (n4) (c4)) := St.cl (S3) 0 1 rfl rfl; have e3_r2 : World.cell? w11 ⟨g_r, 2, none⟩ = some (.slice (D4) (m4) (d4)) := St.cl (S3) 0 2 rfl rfl; have e3_x0 : World.cell? w11 ⟨w.heap.size, 0, none⟩ = some (.bool (b)) := St.cl (S3) 4 0 rfl rfl; have e3_x1 : World.cell? w11 ⟨w.heap.size, 1, none⟩ = some (.slice (A) (n) (c)) := St.cl (S3) 4 1 rfl rfl; have e3_y0 : World.cell? w11 ⟨w.heap.size + 1, 0, none⟩ = some (.bool (b')) := St.cl (S3) 3 0 rfl rfl; have e3_y1 : World.cell? w11 ⟨w.heap.size + 1, 1, none⟩ = some (.slice (A') (n') (c')) := St.cl (S3) 3 1 rfl rfl)
        | (go_at_call_of 49 (Value.agg #[.bool (ng q.num), .slice A1 n1 c1]); refine (hP1.out _ _ _ _ _ _ _ (S3.r 4 rfl) (S3.r 0 rfl)).mono ?_; rintro e w12 ⟨A6, n6, c6, rfl, Q6, bb4⟩; have S4 : St w w12 [(g_r, #[.bool (ng q.num), .slice (A4) (n4) (c4), .slice (D4) (m4) (d4)], 26), (w3.heap.size, #[.bool (ng q.num), .slice (A1) (n1) (c1), .slice (D1) (m1) (d1)], 26), (w.heap.size + 1 + 1, #[.bool (b''), .slice (A'') (n'') (c'')], 24), (w.heap.size + 1, #[.bool (b'), .slice (A') (n') (c')], 24), (w.heap.size, #[.bool (b), .slice (A) (n) (c)], 24)] [(A6, n6, c6, limbs pr.natAbs), (A5, n5, c5, limbs v.natAbs), (D4, m4, d4, dn q), (A4, n4, c4, limbs q.num.natAbs), (D1, m1, d1, dn q), (A1, n1, c1, limbs q.num.natAbs), (A'', n'', c'', zs), (A', n', c', ys), (A, n, c, xs)] := ((S3.call bb4).read Q6); have e4_p0 : World.cell? w12 ⟨w3.heap.size, 0, none⟩ = some (.bool (ng q.num)) := St.cl (S4) 1 0 rfl rfl; have e4_p1 : World.cell? w12 ⟨w3.heap.size, 1, none⟩ = some (.slice (A1) (n1) (c1)) := St.cl (S4) 1 1 rfl rfl; have e4_p2 : World.cell? w12 ⟨w3.heap.size, 2, none⟩ = some (.slice (D1) (m1) (d1)) := St.cl (S4) 1 2 rfl rfl; have e4_r0 : World.cell? w12 ⟨g_r, 0, none⟩ = some (.bool (ng q.num)) := St.cl (S4) 0 0 rfl rfl; have e4_r1 : World.cell? w12 ⟨g_r, 1, none⟩ = some (.slice (A4) (n4) (c4)) := St.cl (S4) 0 1 rfl rfl; have e4_r2 : World.cell? w12 ⟨g_r, 2, none⟩ = some (.slice (D4) (m4) (d4)) := St.cl (S4) 0 2 rfl rfl; have e4_x0 : World.cell? w12 ⟨w.heap.size, 0, none⟩ = some (.bool (b)) := St.cl (S4) 4 0 rfl rfl; have e4_x1 : World.cell? w12 ⟨w.heap.size, 1, none⟩ = some (.slice (A) (n) (c)) := St.cl (S4) 4 1 rfl rfl; have e4_y0 : World.cell? w12 ⟨w.heap.size + 1, 0, none⟩ = some (.bool (b')) := St.cl (S4) 3 0 rfl rfl; have e4_y1 : World.cell? w12 ⟨w.heap.size + 1, 1, none⟩ = some (.slice (A') (n') (c')) := St.cl (S4) 3 1 rfl rfl)
        | (go_at_call 51; refine (hD.out _ _ _ _ _ _ _ ⟨(S4.r 5 rfl), (S4.r 4 rfl)⟩).mono ?_; rintro e w13 ⟨A7, n7, c7, rfl, Q7, bb5⟩; have S5 : St w w13 [(g_r, #[.bool (ng q.num), .slice (A4) (n4) (c4), .slice (D4) (m4) (d4)], 26), (w3.heap.size, #[.bool (ng q.num), .slice (A1) (n1) (c1), .slice (D1) (m1) (d1)], 26), (w.heap.size + 1 + 1, #[.bool (b''), .slice (A'') (n'') (c'')], 24), (w.heap.size + 1, #[.bool (b'), .slice (A') (n') (c')], 24), (w.heap.size, #[.bool (b), .slice (A) (n) (c)], 24)] [(A7, n7, c7, limbs q.den), (A6, n6, c6, limbs pr.natAbs), (A5, n5, c5, limbs v.natAbs), (D4, m4, d4, dn q), (A4, n4, c4, limbs q.num.natAbs), (D1, m1, d1, dn q), (A1, n1, c1, limbs q.num.natAbs), (A'', n'', c'', zs), (A', n', c', ys), (A, n, c, xs)] := ((S4.call bb5).read Q7); have e5_p0 : World.cell? w13 ⟨w3.heap.size, 0, none⟩ = some (.bool (ng q.num)) := St.cl (S5) 1 0 rfl rfl; have e5_p1 : World.cell? w13 ⟨w3.heap.size, 1, none⟩ = some (.slice (A1) (n1) (c1)) := St.cl (S5) 1 1 rfl rfl; have e5_p2 : World.cell? w13 ⟨w3.heap.size, 2, none⟩ = some (.slice (D1) (m1) (d1)) := St.cl (S5) 1 2 rfl rfl; have e5_r0 : World.cell? w13 ⟨g_r, 0, none⟩ = some (.bool (ng q.num)) := St.cl (S5) 0 0 rfl rfl; have e5_r1 : World.cell? w13 ⟨g_r, 1, none⟩ = some (.slice (A4) (n4) (c4)) := St.cl (S5) 0 1 rfl rfl; have e5_r2 : World.cell? w13 ⟨g_r, 2, none⟩ = some (.slice (D4) (m4) (d4)) := St.cl (S5) 0 2 rfl rfl; have e5_x0 : World.cell? w13 ⟨w.heap.size, 0, none⟩ = some (.bool (b)) := St.cl (S5) 4 0 rfl rfl; have e5_x1 : World.cell? w13 ⟨w.heap.size, 1, none⟩ = some (.slice (A) (n) (c)) := St.cl (S5) 4 1 rfl rfl; have e5_y0 : World.cell? w13 ⟨w.heap.size + 1, 0, none⟩ = some (.bool (b')) := St.cl (S5) 3 0 rfl rfl; have e5_y1 : World.cell? w13 ⟨w.heap.size + 1, 1, none⟩ = some (.slice (A') (n') (c')) := St.cl (S5) 3 1 rfl rfl)
        | (go_at_call_of 50 (Value.agg #[.bool b, .slice A n c]); refine (hT1.out _ (S5.r 9 rfl)).mono ?_; rintro e w14 ⟨A8, n8, c8, rfl, Q8, bb6⟩; have S6 : St w w14 [(g_r, #[.bool (ng q.num), .slice (A4) (n4) (c4), .slice (D4) (m4) (d4)], 26), (w3.heap.size, #[.bool (ng q.num), .slice (A1) (n1) (c1), .slice (D1) (m1) (d1)], 26), (w.heap.size + 1 + 1, #[.bool (b''), .slice (A'') (n'') (c'')], 24), (w.heap.size + 1, #[.bool (b'), .slice (A') (n') (c')], 24), (w.heap.size, #[.bool (b), .slice (A) (n) (c)], 24)] [(A8, n8, c8, limbs u.natAbs), (A7, n7, c7, limbs q.den), (A6, n6, c6, limbs pr.natAbs), (A5, n5, c5, limbs v.natAbs), (D4, m4, d4, dn q), (A4, n4, c4, limbs q.num.natAbs), (D1, m1, d1, dn q), (A1, n1, c1, limbs q.num.natAbs), (A'', n'', c'', zs), (A', n', c', ys), (A, n, c, xs)] := ((S5.call bb6).read Q8); have e6_p0 : World.cell? w14 ⟨w3.heap.size, 0, none⟩ = some (.bool (ng q.num)) := St.cl (S6) 1 0 rfl rfl; have e6_p1 : World.cell? w14 ⟨w3.heap.size, 1, none⟩ = some (.slice (A1) (n1) (c1)) := St.cl (S6) 1 1 rfl rfl; have e6_p2 : World.cell? w14 ⟨w3.heap.size, 2, none⟩ = some (.slice (D1) (m1) (d1)) := St.cl (S6) 1 2 rfl rfl; have e6_r0 : World.cell? w14 ⟨g_r, 0, none⟩ = some (.bool (ng q.num)) := St.cl (S6) 0 0 rfl rfl; have e6_r1 : World.cell? w14 ⟨g_r, 1, none⟩ = some (.slice (A4) (n4) (c4)) := St.cl (S6) 0 1 rfl rfl; have e6_r2 : World.cell? w14 ⟨g_r, 2, none⟩ = some (.slice (D4) (m4) (d4)) := St.cl (S6) 0 2 rfl rfl; have e6_x0 : World.cell? w14 ⟨w.heap.size, 0, none⟩ = some (.bool (b)) := St.cl (S6) 4 0 rfl rfl; have e6_x1 : World.cell? w14 ⟨w.heap.size, 1, none⟩ = some (.slice (A) (n) (c)) := St.cl (S6) 4 1 rfl rfl; have e6_y0 : World.cell? w14 ⟨w.heap.size + 1, 0, none⟩ = some (.bool (b')) := St.cl (S6) 3 0 rfl rfl; have e6_y1 : World.cell? w14 ⟨w.heap.size + 1, 1, none⟩ = some (.slice (A') (n') (c')) := St.cl (S6) 3 1 rfl rfl)
        | (go_at_call 49; refine (hP2.out _ _ _ _ _ _ _ (S6.r 1 rfl) (S6.r 0 rfl)).mono ?_; rintro e w15 ⟨A9, n9, c9, rfl, Q9, bb7⟩; have S7 : St w w15 [(g_r, #[.bool (ng q.num), .slice (A4) (n4) (c4), .slice (D4) (m4) (d4)], 26), (w3.heap.size, #[.bool (ng q.num), .slice (A1) (n1) (c1), .slice (D1) (m1) (d1)], 26), (w.heap.size + 1 + 1, #[.bool (b''), .slice (A'') (n'') (c'')], 24), (w.heap.size + 1, #[.bool (b'), .slice (A') (n') (c')], 24), (w.heap.size, #[.bool (b), .slice (A) (n) (c)], 24)] [(A9, n9, c9, limbs pr.natAbs), (A8, n8, c8, limbs u.natAbs), (A7, n7, c7, limbs q.den), (A6, n6, c6, limbs pr.natAbs), (A5, n5, c5, limbs v.natAbs), (D4, m4, d4, dn q), (A4, n4, c4, limbs q.num.natAbs), (D1, m1, d1, dn q), (A1, n1, c1, limbs q.num.natAbs), (A'', n'', c'', zs), (A', n', c', ys), (A, n, c, xs)] := ((S6.call bb7).read Q9); have e7_p0 : World.cell? w15 ⟨w3.heap.size, 0, none⟩ = some (.bool (ng q.num)) := St.cl (S7) 1 0 rfl rfl; have e7_p1 : World.cell? w15 ⟨w3.heap.size, 1, none⟩ = some (.slice (A1) (n1) (c1)) := St.cl (S7) 1 1 rfl rfl; have e7_p2 : World.cell? w15 ⟨w3.heap.size, 2, none⟩ = some (.slice (D1) (m1) (d1)) := St.cl (S7) 1 2 rfl rfl; have e7_r0 : World.cell? w15 ⟨g_r, 0, none⟩ = some (.bool (ng q.num)) := St.cl (S7) 0 0 rfl rfl; have e7_r1 : World.cell? w15 ⟨g_r, 1, none⟩ = some (.slice (A4) (n4) (c4)) := St.cl (S7) 0 1 rfl rfl; have e7_r2 : World.cell? w15 ⟨g_r, 2, none⟩ = some (.slice (D4) (m4) (d4)) := St.cl (S7) 0 2 rfl rfl; have e7_x0 : World.cell? w15 ⟨w.heap.size, 0, none⟩ = some (.bool (b)) := St.cl (S7) 4 0 rfl rfl; have e7_x1 : World.cell? w15 ⟨w.heap.size, 1, none⟩ = some (.slice (A) (n) (c)) := St.cl (S7) 4 1 rfl rfl; have e7_y0 : World.cell? w15 ⟨w.heap.size + 1, 0, none⟩ = some (.bool (b')) := St.cl (S7) 3 0 rfl rfl; have e7_y1 : World.cell? w15 ⟨w.heap.size + 1, 1, none⟩ = some (.slice (A') (n') (c')) := St.cl (S7) 3 1 rfl rfl)
        | (go_at_call 28; refine (hZ.out _ _ _ _ _ _ _ (S7.r 3 rfl) (S7.r 0 rfl)).mono ?_; rintro e w16 ⟨rfl, bb8⟩; have S8 : St w w16 [(g_r, #[.bool (ng q.num), .slice (A4) (n4) (c4), .slice (D4) (m4) (d4)], 26), (w3.heap.size, #[.bool (ng q.num), .slice (A1) (n1) (c1), .slice (D1) (m1) (d1)], 26), (w.heap.size + 1 + 1, #[.bool (b''), .slice (A'') (n'') (c'')], 24), (w.heap.size + 1, #[.bool (b'), .slice (A') (n') (c')], 24), (w.heap.size, #[.bool (b), .slice (A) (n) (c)], 24)] [(A9, n9, c9, limbs pr.natAbs), (A8, n8, c8, limbs u.natAbs), (A7, n7, c7, limbs q.den), (A6, n6, c6, limbs pr.natAbs), (A5, n5, c5, limbs v.natAbs), (D4, m4, d4, dn q), (A4, n4, c4, limbs q.num.natAbs), (D1, m1, d1, dn q), (A1, n1, c1, limbs q.num.natAbs), (A'', n'', c'', zs), (A', n', c', ys), (A, n, c, xs)] := (S7.call bb8); have e8_p0 : World.cell? w16 ⟨w3.heap.size, 0, none⟩ = some (.bool (ng q.num)) := St.cl (S8) 1 0 rfl rfl; have e8_p1 : World.cell? w16 ⟨w3.heap.size, 1, none⟩ = some (.slice (A1) (n1) (c1)) := St.cl (S8) 1 1 rfl rfl; have e8_p2 : World.cell? w16 ⟨w3.heap.size, 2, none⟩ = some (.slice (D1) (m1) (d1)) := St.cl (S8) 1 2 rfl rfl; have e8_r0 : World.cell? w16 ⟨g_r, 0, none⟩ = some (.bool (ng q.num)) := St.cl (S8) 0 0 rfl rfl; have e8_r1 : World.cell? w16 ⟨g_r, 1, none⟩ = some (.slice (A4) (n4) (c4)) := St.cl (S8) 0 1 rfl rfl; have e8_r2 : World.cell? w16 ⟨g_r, 2, none⟩ = some (.slice (D4) (m4) (d4)) := St.cl (S8) 0 2 rfl rfl; have e8_x0 : World.cell? w16 ⟨w.heap.size, 0, none⟩ = some (.bool (b)) := St.cl (S8) 4 0 rfl rfl; have e8_x1 : World.cell? w16 ⟨w.heap.size, 1, none⟩ = some (.slice (A) (n) (c)) := St.cl (S8) 4 1 rfl rfl; have e8_y0 : World.cell? w16 ⟨w.heap.size + 1, 0, none⟩ = some (.bool (b')) := St.cl (S8) 3 0 rfl rfl; have e8_y1 : World.cell? w16 ⟨w.heap.size + 1, 1, none⟩ = some (.slice (A') (n') (c')) := St.cl (S8) 3 1 rfl rfl))
    all_goals
      have S := S8
      clear d_p0 d_p1 d_p2 d_r0 d_r1 d_r2 d_x0 d_x1 d_y0 d_y1 e0_p0 e0_p1 e0_p2 e0_r0 e0_r1 e0_r2 e0_x0 e0_x1 e0_y0 e0_y1 e1_p0 e1_p1 e1_p2 e1_r0 e1_r1 e1_r2 e1_x0 e1_x1 e1_y0 e1_y1 e2_p0 e2_p1 e2_p2 e2_r0 e2_r1 e2_r2 e2_x0 e2_x1 e2_y0 e2_y1 e3_p0 e3_p1 e3_p2 e3_r0 e3_r1 e3_r2 e3_x0 e3_x1 e3_y0 e3_y1 e4_p0 e4_p1 e4_p2 e4_r0 e4_r1 e4_r2 e4_x0 e4_x1 e4_y0 e4_y1 e5_p0 e5_p1 e5_p2 e5_r0 e5_r1 e5_r2 e5_x0 e5_x1 e5_y0 e5_y1 e6_p0 e6_p1 e6_p2 e6_r0 e6_r1 e6_r2 e6_x0 e6_x1 e6_y0 e6_y1 e7_p0 e7_p1 e7_p2 e7_r0 e7_r1 e7_r2 e7_x0 e7_x1 e7_y0 e7_y1 e8_p0 e8_p1 e8_p2 e8_r0 e8_r1 e8_r2 e8_x0 e8_x1 e8_y0 e8_y1 SD bb0 bb1 bb2 bb3 bb4 bb5 bb6 bb7 bb8 S0 S1 S2 S3 S4 S5 S6 S7 S8
      replace S := Lib.hid S
      have S : St w _ [(g_r, #[.bool (ng q.num), .slice (A4) (n4) (c4), .slice (D4) (m4) (d4)], 26), (w3.heap.size, #[.bool (ng q.num), .slice (A1) (n1) (c1), .slice (D1) (m1) (d1)], 26), (w.heap.size + 1 + 1, #[.bool (b''), .slice (A'') (n'') (c'')], 24), (w.heap.size + 1, #[.bool (b'), .slice (A') (n') (c')], 24), (w.heap.size, #[.bool (b), .slice (A) (n) (c)], 24)] [(A9, n9, c9, limbs pr.natAbs), (A8, n8, c8, limbs u.natAbs), (A7, n7, c7, limbs q.den), (A6, n6, c6, limbs pr.natAbs), (A5, n5, c5, limbs v.natAbs), (D4, m4, d4, dn q), (A4, n4, c4, limbs q.num.natAbs), (D1, m1, d1, dn q), (A1, n1, c1, limbs q.num.natAbs), (A'', n'', c'', zs), (A', n', c', ys), (A, n, c, xs)] := S.out
      replace S := Lib.hid S
      go_wp2
      go_ret
      exact ⟨by simp, S.out.bel⟩
end Go.Proofs.YtgaigebdbmohcaaGreatDoor
