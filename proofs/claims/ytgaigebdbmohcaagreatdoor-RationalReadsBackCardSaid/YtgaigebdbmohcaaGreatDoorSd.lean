/- The reference's Valid of rational; Light; the law RationalReadsBack. -/
import Derived.Test.YtgaigebdbmohcaaGreatDoorSa
import Derived.Test.YtgaigebdbmohcaaGreatDoorSc
namespace Go.Proofs.YtgaigebdbmohcaaGreatDoor
open Go.RowKit RQ

def lightB (n m : Nat) : Bool := decide (n ≤ 8) && decide (m ≤ 8)
set_option maxHeartbeats 1000000 in
theorem lightR_any (b : Bool) (A : Option Addr) (n c : Nat) (D : Option Addr) (m d : Nat) (w : World) (hn : n ≤ 9223372036854775807) (hm : m ≤ 9223372036854775807) :
    Calls Tryz.prog 13 #[.agg #[.bool b, .slice A n c, .slice D m d]] w fun e w' => e = .returned (.bool (lightB n m)) ∧ Below w.heap.size w w' := by
  have B := Lib.hid ((Below.refl w.heap.size w).alloc (Nat.le_refl _) (.cells #[.bool b, .slice A n c, .slice D m d] 26))
  have M1 : (n : Int) ≤ 9223372036854775807 := by omega
  have M2 : (m : Int) ≤ 9223372036854775807 := by omega
  unfold lightB
  by_cases h1 : n ≤ 8
  · have g1 : (n : Int) ≤ 8 := by omega
    by_cases h2 : m ≤ 8
    · have g2 : (m : Int) ≤ 8 := by omega
      rw [decide_eq_true h1, decide_eq_true h2]
      clear h1 h2 hn hm
      go_enter Tryz.func13, Tryz.ntmps13
      go_wp2
      go_ret
      exact ⟨rfl, B.out⟩
    · have g2 : (8 : Int) < (m : Int) := by omega
      have g3 : decide ((m : Int) ≤ 8) = false := decide_eq_false (by omega)
      rw [decide_eq_true h1, decide_eq_false h2]
      clear h1 h2 hn hm
      go_enter Tryz.func13, Tryz.ntmps13
      go_wp2
      go_ret
      exact ⟨rfl, B.out⟩
  · have g1 : (8 : Int) < (n : Int) := by omega
    rw [decide_eq_false h1]
    clear h1 hn hm
    go_enter Tryz.func13, Tryz.ntmps13
    go_wp2
    go_ret
    exact ⟨rfl, B.out⟩

theorem is1_gcd (G : Nat) : is1 (limbs G) = (G == 1) := by
  unfold is1; rw [Bool.eq_iff_iff, beq_iff_eq, beq_iff_eq, ← limbs_is1]
  exact ⟨fun h => limbs_inj h, fun h => by rw [h]⟩
set_option maxHeartbeats 4000000 in
theorem rvalidR_any (b : Bool) (A : Option Addr) (n c : Nat) (xs : List Nat) (D : Option Addr) (m d : Nat) (ds : List Nat) (w : World) (R1 : Rd w A n c xs) (R2 : Rd w D m d ds) (hn : n ≤ 500) (hm : m ≤ 500) :
    Calls Tryz.prog 16 #[.agg #[.bool b, .slice A n c, .slice D m d]] w fun e w' => e = .returned (.bool (vldR b xs ds)) ∧ Below w.heap.size w w' := by
  have hl1 := R1.len
  have hl2 := R2.len
  have s2 := R2.sm
  have hV : Hid (∀ W, Rd W A n c xs → Calls Tryz.prog 57 #[.agg #[.bool b, .slice A n c]] W fun e w' => e = .returned (.bool (vldI b xs)) ∧ Below W.heap.size W w') := Lib.hid fun W h => rvalidI_any b A n c xs W h (by omega)
  have hU : Hid (∀ W, Rd W D m d ds → Calls Tryz.prog 58 #[.slice D m d] W fun e w' => e = .returned (.bool (vldB ds)) ∧ Below W.heap.size W w') := Lib.hid fun W h => (rvalid_any D m d ds W h (by omega)).mono fun e w' hh => ⟨hh.1, by rw [hh.2]; exact Below.refl _ _⟩
  have hO : Hid (∀ W, Rd W D m d ds → Calls Tryz.prog 59 #[.slice D m d] W fun e w' => e = .returned (.bool (is1 ds)) ∧ Below W.heap.size W w') := Lib.hid fun W h => one_any D m d ds W h
  have hG : Hid (∀ W, Rd W A n c xs → Rd W D m d ds → Calls Tryz.prog 60 #[.slice A n c, .slice D m d] W (RetN (Nat.gcd (num xs) (num ds)) W)) := Lib.hid fun W q1 q2 => rgcd_any A n c xs D m d ds W q1 q2 (by omega) (by omega)
  have hP := Lib.hid (fun W A n c q => one_any A n c (limbs (Nat.gcd (num xs) (num ds))) W q)
  have S : St w _ [(w.heap.size, #[.bool (b), .slice (A) (n) (c), .slice (D) (m) (d)], 26)] [(D, m, d, ds), (A, n, c, xs)] := ((((St.new w).read R1).read R2).allocAt (w.heap.size) #[.bool (b), .slice (A) (n) (c), .slice (D) (m) (d)] 26 (noL3 _ _ _ _ _ _ _) (by simp))
  replace S := Lib.hid S
  clear R1 R2
  cases hb : vldI b xs
  · have hr : Hid (vldR b xs ds = false) := Lib.hid (by unfold vldR; rw [hb]; rfl)
    rw [hb] at hV
    clear hU hO hG hP hb hl1 hl2 s2 hn hm
    go_enter Tryz.func16, Tryz.ntmps16
    go_wp2_with fail
    refine (hV.out _ (S.out.r 1 rfl)).mono ?_
    rintro e w1 ⟨rfl, bb⟩
    have T : St w w1 [(w.heap.size, #[.bool (b), .slice (A) (n) (c), .slice (D) (m) (d)], 26)] [(D, m, d, ds), (A, n, c, xs)] := (S.out.call bb)
    clear bb S
    have S := T
    clear T
    have c_x0 : World.cell? w1 ⟨w.heap.size, 0, none⟩ = some (.bool (b)) := S.cl 0 0 rfl rfl
    have f_x0 : World.frozen? w1 ⟨w.heap.size, 0, none⟩ = false := S.f 0 0 rfl
    have c_x1 : World.cell? w1 ⟨w.heap.size, 1, none⟩ = some (.slice (A) (n) (c)) := S.cl 0 1 rfl rfl
    have f_x1 : World.frozen? w1 ⟨w.heap.size, 1, none⟩ = false := S.f 0 1 rfl
    have c_x2 : World.cell? w1 ⟨w.heap.size, 2, none⟩ = some (.slice (D) (m) (d)) := S.cl 0 2 rfl rfl
    have f_x2 : World.frozen? w1 ⟨w.heap.size, 2, none⟩ = false := S.f 0 2 rfl
    have hz : w.heap.size < w1.heap.size := S.lt 0 rfl
    replace S := Lib.hid S
    have S : St w _ [(w.heap.size, #[.bool (b), .slice (A) (n) (c), .slice (D) (m) (d)], 26)] [(D, m, d, ds), (A, n, c, xs)] := S.out
    replace S := Lib.hid S
    go_wp2
    go_ret
    exact ⟨congrArg (fun q => Ending.returned (.bool q)) hr.out.symm, S.out.bel⟩
  cases hd : vldB ds
  · have hne : ds ≠ [] := by rintro rfl; simp [vldB] at hd
    have hr : Hid (vldR b xs ds = false) := Lib.hid (by rw [vldR_row hne, hd]; simp)
    rw [hb] at hV
    rw [hd] at hU
    clear hO hG hP hb hd hne hl1 hl2 s2 hn hm
    go_enter Tryz.func16, Tryz.ntmps16
    go_wp2_with fail
    refine (hV.out _ (S.out.r 1 rfl)).mono ?_
    rintro e w1 ⟨rfl, bb⟩
    have T : St w w1 [(w.heap.size, #[.bool (b), .slice (A) (n) (c), .slice (D) (m) (d)], 26)] [(D, m, d, ds), (A, n, c, xs)] := (S.out.call bb)
    clear bb S
    have S := T
    clear T
    have c_x0 : World.cell? w1 ⟨w.heap.size, 0, none⟩ = some (.bool (b)) := S.cl 0 0 rfl rfl
    have f_x0 : World.frozen? w1 ⟨w.heap.size, 0, none⟩ = false := S.f 0 0 rfl
    have c_x1 : World.cell? w1 ⟨w.heap.size, 1, none⟩ = some (.slice (A) (n) (c)) := S.cl 0 1 rfl rfl
    have f_x1 : World.frozen? w1 ⟨w.heap.size, 1, none⟩ = false := S.f 0 1 rfl
    have c_x2 : World.cell? w1 ⟨w.heap.size, 2, none⟩ = some (.slice (D) (m) (d)) := S.cl 0 2 rfl rfl
    have f_x2 : World.frozen? w1 ⟨w.heap.size, 2, none⟩ = false := S.f 0 2 rfl
    have hz : w.heap.size < w1.heap.size := S.lt 0 rfl
    replace S := Lib.hid S
    go_wp2_with fail
    refine (hU.out _ (S.out.r 0 rfl)).mono ?_
    rintro e w2 ⟨rfl, bb⟩
    have T : St w w2 [(w.heap.size, #[.bool (b), .slice (A) (n) (c), .slice (D) (m) (d)], 26)] [(D, m, d, ds), (A, n, c, xs)] := (S.out.call bb)
    clear bb S c_x0 f_x0 c_x1 f_x1 c_x2 f_x2 hz
    have S := T
    clear T
    have c_x0 : World.cell? w2 ⟨w.heap.size, 0, none⟩ = some (.bool (b)) := S.cl 0 0 rfl rfl
    have f_x0 : World.frozen? w2 ⟨w.heap.size, 0, none⟩ = false := S.f 0 0 rfl
    have c_x1 : World.cell? w2 ⟨w.heap.size, 1, none⟩ = some (.slice (A) (n) (c)) := S.cl 0 1 rfl rfl
    have f_x1 : World.frozen? w2 ⟨w.heap.size, 1, none⟩ = false := S.f 0 1 rfl
    have c_x2 : World.cell? w2 ⟨w.heap.size, 2, none⟩ = some (.slice (D) (m) (d)) := S.cl 0 2 rfl rfl
    have f_x2 : World.frozen? w2 ⟨w.heap.size, 2, none⟩ = false := S.f 0 2 rfl
    have hz : w.heap.size < w2.heap.size := S.lt 0 rfl
    replace S := Lib.hid S
    have S : St w _ [(w.heap.size, #[.bool (b), .slice (A) (n) (c), .slice (D) (m) (d)], 26)] [(D, m, d, ds), (A, n, c, xs)] := S.out
    replace S := Lib.hid S
    go_wp2
    go_ret
    exact ⟨congrArg (fun q => Ending.returned (.bool q)) hr.out.symm, S.out.bel⟩
  cases h1 : is1 ds
  case true =>
    have hne : ds ≠ [] := by rintro rfl; simp [is1] at h1
    have hr : Hid (vldR b xs ds = false) := Lib.hid (by rw [vldR_row hne, hd, h1]; simp)
    rw [hb] at hV
    rw [hd] at hU
    rw [h1] at hO
    clear hG hP hb hd h1 hne hl1 hl2 s2 hn hm
    go_enter Tryz.func16, Tryz.ntmps16
    go_wp2_with fail
    refine (hV.out _ (S.out.r 1 rfl)).mono ?_
    rintro e w1 ⟨rfl, bb⟩
    have T : St w w1 [(w.heap.size, #[.bool (b), .slice (A) (n) (c), .slice (D) (m) (d)], 26)] [(D, m, d, ds), (A, n, c, xs)] := (S.out.call bb)
    clear bb S
    have S := T
    clear T
    have c_x0 : World.cell? w1 ⟨w.heap.size, 0, none⟩ = some (.bool (b)) := S.cl 0 0 rfl rfl
    have f_x0 : World.frozen? w1 ⟨w.heap.size, 0, none⟩ = false := S.f 0 0 rfl
    have c_x1 : World.cell? w1 ⟨w.heap.size, 1, none⟩ = some (.slice (A) (n) (c)) := S.cl 0 1 rfl rfl
    have f_x1 : World.frozen? w1 ⟨w.heap.size, 1, none⟩ = false := S.f 0 1 rfl
    have c_x2 : World.cell? w1 ⟨w.heap.size, 2, none⟩ = some (.slice (D) (m) (d)) := S.cl 0 2 rfl rfl
    have f_x2 : World.frozen? w1 ⟨w.heap.size, 2, none⟩ = false := S.f 0 2 rfl
    have hz : w.heap.size < w1.heap.size := S.lt 0 rfl
    replace S := Lib.hid S
    go_wp2_with fail
    refine (hU.out _ (S.out.r 0 rfl)).mono ?_
    rintro e w2 ⟨rfl, bb⟩
    have T : St w w2 [(w.heap.size, #[.bool (b), .slice (A) (n) (c), .slice (D) (m) (d)], 26)] [(D, m, d, ds), (A, n, c, xs)] := (S.out.call bb)
    clear bb S c_x0 f_x0 c_x1 f_x1 c_x2 f_x2 hz
    have S := T
    clear T
    have c_x0 : World.cell? w2 ⟨w.heap.size, 0, none⟩ = some (.bool (b)) := S.cl 0 0 rfl rfl
    have f_x0 : World.frozen? w2 ⟨w.heap.size, 0, none⟩ = false := S.f 0 0 rfl
    have c_x1 : World.cell? w2 ⟨w.heap.size, 1, none⟩ = some (.slice (A) (n) (c)) := S.cl 0 1 rfl rfl
    have f_x1 : World.frozen? w2 ⟨w.heap.size, 1, none⟩ = false := S.f 0 1 rfl
    have c_x2 : World.cell? w2 ⟨w.heap.size, 2, none⟩ = some (.slice (D) (m) (d)) := S.cl 0 2 rfl rfl
    have f_x2 : World.frozen? w2 ⟨w.heap.size, 2, none⟩ = false := S.f 0 2 rfl
    have hz : w.heap.size < w2.heap.size := S.lt 0 rfl
    replace S := Lib.hid S
    go_wp2_with fail
    refine (hO.out _ (S.out.r 0 rfl)).mono ?_
    rintro e w3 ⟨rfl, bb⟩
    have T : St w w3 [(w.heap.size, #[.bool (b), .slice (A) (n) (c), .slice (D) (m) (d)], 26)] [(D, m, d, ds), (A, n, c, xs)] := (S.out.call bb)
    clear bb S c_x0 f_x0 c_x1 f_x1 c_x2 f_x2 hz
    have S := T
    clear T
    have c_x0 : World.cell? w3 ⟨w.heap.size, 0, none⟩ = some (.bool (b)) := S.cl 0 0 rfl rfl
    have f_x0 : World.frozen? w3 ⟨w.heap.size, 0, none⟩ = false := S.f 0 0 rfl
    have c_x1 : World.cell? w3 ⟨w.heap.size, 1, none⟩ = some (.slice (A) (n) (c)) := S.cl 0 1 rfl rfl
    have f_x1 : World.frozen? w3 ⟨w.heap.size, 1, none⟩ = false := S.f 0 1 rfl
    have c_x2 : World.cell? w3 ⟨w.heap.size, 2, none⟩ = some (.slice (D) (m) (d)) := S.cl 0 2 rfl rfl
    have f_x2 : World.frozen? w3 ⟨w.heap.size, 2, none⟩ = false := S.f 0 2 rfl
    have hz : w.heap.size < w3.heap.size := S.lt 0 rfl
    replace S := Lib.hid S
    have S : St w _ [(w.heap.size, #[.bool (b), .slice (A) (n) (c), .slice (D) (m) (d)], 26)] [(D, m, d, ds), (A, n, c, xs)] := S.out
    replace S := Lib.hid S
    go_wp2
    go_ret
    exact ⟨congrArg (fun q => Ending.returned (.bool q)) hr.out.symm, S.out.bel⟩
  by_cases h0 : m = 0
  · have hd0 : ds = [] := List.eq_nil_of_length_eq_zero (by omega)
    have hr : Hid (vldR b xs ds = true) := Lib.hid (by rw [hd0, vldR_nil, hb])
    have g0 : ((m : Int) == 0) = true := by rw [beq_iff_eq]; omega
    rw [hb] at hV
    rw [hd] at hU
    rw [h1] at hO
    clear hG hP hb hd h1 hd0 h0 hl1 hl2 s2 hn hm
    go_enter Tryz.func16, Tryz.ntmps16
    go_wp2_with fail
    refine (hV.out _ (S.out.r 1 rfl)).mono ?_
    rintro e w1 ⟨rfl, bb⟩
    have T : St w w1 [(w.heap.size, #[.bool (b), .slice (A) (n) (c), .slice (D) (m) (d)], 26)] [(D, m, d, ds), (A, n, c, xs)] := (S.out.call bb)
    clear bb S
    have S := T
    clear T
    have c_x0 : World.cell? w1 ⟨w.heap.size, 0, none⟩ = some (.bool (b)) := S.cl 0 0 rfl rfl
    have f_x0 : World.frozen? w1 ⟨w.heap.size, 0, none⟩ = false := S.f 0 0 rfl
    have c_x1 : World.cell? w1 ⟨w.heap.size, 1, none⟩ = some (.slice (A) (n) (c)) := S.cl 0 1 rfl rfl
    have f_x1 : World.frozen? w1 ⟨w.heap.size, 1, none⟩ = false := S.f 0 1 rfl
    have c_x2 : World.cell? w1 ⟨w.heap.size, 2, none⟩ = some (.slice (D) (m) (d)) := S.cl 0 2 rfl rfl
    have f_x2 : World.frozen? w1 ⟨w.heap.size, 2, none⟩ = false := S.f 0 2 rfl
    have hz : w.heap.size < w1.heap.size := S.lt 0 rfl
    replace S := Lib.hid S
    go_wp2_with fail
    refine (hU.out _ (S.out.r 0 rfl)).mono ?_
    rintro e w2 ⟨rfl, bb⟩
    have T : St w w2 [(w.heap.size, #[.bool (b), .slice (A) (n) (c), .slice (D) (m) (d)], 26)] [(D, m, d, ds), (A, n, c, xs)] := (S.out.call bb)
    clear bb S c_x0 f_x0 c_x1 f_x1 c_x2 f_x2 hz
    have S := T
    clear T
    have c_x0 : World.cell? w2 ⟨w.heap.size, 0, none⟩ = some (.bool (b)) := S.cl 0 0 rfl rfl
    have f_x0 : World.frozen? w2 ⟨w.heap.size, 0, none⟩ = false := S.f 0 0 rfl
    have c_x1 : World.cell? w2 ⟨w.heap.size, 1, none⟩ = some (.slice (A) (n) (c)) := S.cl 0 1 rfl rfl
    have f_x1 : World.frozen? w2 ⟨w.heap.size, 1, none⟩ = false := S.f 0 1 rfl
    have c_x2 : World.cell? w2 ⟨w.heap.size, 2, none⟩ = some (.slice (D) (m) (d)) := S.cl 0 2 rfl rfl
    have f_x2 : World.frozen? w2 ⟨w.heap.size, 2, none⟩ = false := S.f 0 2 rfl
    have hz : w.heap.size < w2.heap.size := S.lt 0 rfl
    replace S := Lib.hid S
    go_wp2_with fail
    refine (hO.out _ (S.out.r 0 rfl)).mono ?_
    rintro e w3 ⟨rfl, bb⟩
    have T : St w w3 [(w.heap.size, #[.bool (b), .slice (A) (n) (c), .slice (D) (m) (d)], 26)] [(D, m, d, ds), (A, n, c, xs)] := (S.out.call bb)
    clear bb S c_x0 f_x0 c_x1 f_x1 c_x2 f_x2 hz
    have S := T
    clear T
    have c_x0 : World.cell? w3 ⟨w.heap.size, 0, none⟩ = some (.bool (b)) := S.cl 0 0 rfl rfl
    have f_x0 : World.frozen? w3 ⟨w.heap.size, 0, none⟩ = false := S.f 0 0 rfl
    have c_x1 : World.cell? w3 ⟨w.heap.size, 1, none⟩ = some (.slice (A) (n) (c)) := S.cl 0 1 rfl rfl
    have f_x1 : World.frozen? w3 ⟨w.heap.size, 1, none⟩ = false := S.f 0 1 rfl
    have c_x2 : World.cell? w3 ⟨w.heap.size, 2, none⟩ = some (.slice (D) (m) (d)) := S.cl 0 2 rfl rfl
    have f_x2 : World.frozen? w3 ⟨w.heap.size, 2, none⟩ = false := S.f 0 2 rfl
    have hz : w.heap.size < w3.heap.size := S.lt 0 rfl
    replace S := Lib.hid S
    have S : St w _ [(w.heap.size, #[.bool (b), .slice (A) (n) (c), .slice (D) (m) (d)], 26)] [(D, m, d, ds), (A, n, c, xs)] := S.out
    replace S := Lib.hid S
    go_wp2
    go_ret
    exact ⟨congrArg (fun q => Ending.returned (.bool q)) hr.out.symm, S.out.bel⟩
  have hne : ds ≠ [] := by rintro rfl; exact h0 hl2.symm
  have g0 : ((m : Int) == 0) = false := by rw [beq_eq_false_iff_ne]; omega
  have hvd : num ds = val ds := by unfold num; rw [hd]; rfl
  have hvx : num xs = val xs := by unfold num; rw [(vldI_parts hb).1]; rfl
  have hr0 : vldR b xs ds = (Nat.gcd (val xs) (val ds) == 1) := by rw [vldR_row hne, hb, hd, h1]; simp
  by_cases hn0 : n = 0
  · have hx0 : xs = [] := List.eq_nil_of_length_eq_zero (by omega)
    have hr : Hid (vldR b xs ds = false) := Lib.hid (by
      rw [hr0, hx0, show val [] = 0 from rfl, Nat.gcd_zero_left, beq_eq_false_iff_ne]
      intro e
      rw [is1_val s2 hd, e] at h1
      simp at h1)
    have gn : (n : Int) ≤ 0 := by omega
    have gn2 : ((n : Int)) = 0 := by omega
    subst hn0
    rw [hb] at hV
    rw [hd] at hU
    rw [h1] at hO
    clear hG hP hb hd h1 h0 hl1 hl2 s2 hn hm hne hvd hvx hr0 hx0 gn gn2
    go_enter Tryz.func16, Tryz.ntmps16
    go_wp2_with fail
    refine (hV.out _ (S.out.r 1 rfl)).mono ?_
    rintro e w1 ⟨rfl, bb⟩
    have T : St w w1 [(w.heap.size, #[.bool (b), .slice (A) (0) (c), .slice (D) (m) (d)], 26)] [(D, m, d, ds), (A, 0, c, xs)] := (S.out.call bb)
    clear bb S
    have S := T
    clear T
    have c_x0 : World.cell? w1 ⟨w.heap.size, 0, none⟩ = some (.bool (b)) := S.cl 0 0 rfl rfl
    have f_x0 : World.frozen? w1 ⟨w.heap.size, 0, none⟩ = false := S.f 0 0 rfl
    have c_x1 : World.cell? w1 ⟨w.heap.size, 1, none⟩ = some (.slice (A) (0) (c)) := S.cl 0 1 rfl rfl
    have f_x1 : World.frozen? w1 ⟨w.heap.size, 1, none⟩ = false := S.f 0 1 rfl
    have c_x2 : World.cell? w1 ⟨w.heap.size, 2, none⟩ = some (.slice (D) (m) (d)) := S.cl 0 2 rfl rfl
    have f_x2 : World.frozen? w1 ⟨w.heap.size, 2, none⟩ = false := S.f 0 2 rfl
    have hz : w.heap.size < w1.heap.size := S.lt 0 rfl
    replace S := Lib.hid S
    go_wp2_with fail
    refine (hU.out _ (S.out.r 0 rfl)).mono ?_
    rintro e w2 ⟨rfl, bb⟩
    have T : St w w2 [(w.heap.size, #[.bool (b), .slice (A) (0) (c), .slice (D) (m) (d)], 26)] [(D, m, d, ds), (A, 0, c, xs)] := (S.out.call bb)
    clear bb S c_x0 f_x0 c_x1 f_x1 c_x2 f_x2 hz
    have S := T
    clear T
    have c_x0 : World.cell? w2 ⟨w.heap.size, 0, none⟩ = some (.bool (b)) := S.cl 0 0 rfl rfl
    have f_x0 : World.frozen? w2 ⟨w.heap.size, 0, none⟩ = false := S.f 0 0 rfl
    have c_x1 : World.cell? w2 ⟨w.heap.size, 1, none⟩ = some (.slice (A) (0) (c)) := S.cl 0 1 rfl rfl
    have f_x1 : World.frozen? w2 ⟨w.heap.size, 1, none⟩ = false := S.f 0 1 rfl
    have c_x2 : World.cell? w2 ⟨w.heap.size, 2, none⟩ = some (.slice (D) (m) (d)) := S.cl 0 2 rfl rfl
    have f_x2 : World.frozen? w2 ⟨w.heap.size, 2, none⟩ = false := S.f 0 2 rfl
    have hz : w.heap.size < w2.heap.size := S.lt 0 rfl
    replace S := Lib.hid S
    go_wp2_with fail
    refine (hO.out _ (S.out.r 0 rfl)).mono ?_
    rintro e w3 ⟨rfl, bb⟩
    have T : St w w3 [(w.heap.size, #[.bool (b), .slice (A) (0) (c), .slice (D) (m) (d)], 26)] [(D, m, d, ds), (A, 0, c, xs)] := (S.out.call bb)
    clear bb S c_x0 f_x0 c_x1 f_x1 c_x2 f_x2 hz
    have S := T
    clear T
    have c_x0 : World.cell? w3 ⟨w.heap.size, 0, none⟩ = some (.bool (b)) := S.cl 0 0 rfl rfl
    have f_x0 : World.frozen? w3 ⟨w.heap.size, 0, none⟩ = false := S.f 0 0 rfl
    have c_x1 : World.cell? w3 ⟨w.heap.size, 1, none⟩ = some (.slice (A) (0) (c)) := S.cl 0 1 rfl rfl
    have f_x1 : World.frozen? w3 ⟨w.heap.size, 1, none⟩ = false := S.f 0 1 rfl
    have c_x2 : World.cell? w3 ⟨w.heap.size, 2, none⟩ = some (.slice (D) (m) (d)) := S.cl 0 2 rfl rfl
    have f_x2 : World.frozen? w3 ⟨w.heap.size, 2, none⟩ = false := S.f 0 2 rfl
    have hz : w.heap.size < w3.heap.size := S.lt 0 rfl
    replace S := Lib.hid S
    have S : St w _ [(w.heap.size, #[.bool (b), .slice (A) (0) (c), .slice (D) (m) (d)], 26)] [(D, m, d, ds), (A, 0, c, xs)] := S.out
    replace S := Lib.hid S
    go_wp2
    go_ret
    exact ⟨congrArg (fun q => Ending.returned (.bool q)) hr.out.symm, S.out.bel⟩
  have hr : Hid (vldR b xs ds = is1 (limbs (Nat.gcd (num xs) (num ds)))) := Lib.hid (by rw [hr0, is1_gcd, hvd, hvx])
  have gn : (0 : Int) < (n : Int) := by omega
  have gn2 : 0 < n := by omega
  generalize Nat.gcd (num xs) (num ds) = G at hG hP hr
  rw [hb] at hV
  rw [hd] at hU
  rw [h1] at hO
  clear hb hd h1 h0 hl1 hl2 s2 hn hm hne hvd hvx hr0 hn0
  go_enter Tryz.func16, Tryz.ntmps16
  go_wp2_with fail
  refine (hV.out _ (S.out.r 1 rfl)).mono ?_
  rintro e w1 ⟨rfl, bb⟩
  have T : St w w1 [(w.heap.size, #[.bool (b), .slice (A) (n) (c), .slice (D) (m) (d)], 26)] [(D, m, d, ds), (A, n, c, xs)] := (S.out.call bb)
  clear bb S
  have S := T
  clear T
  have c_x0 : World.cell? w1 ⟨w.heap.size, 0, none⟩ = some (.bool (b)) := S.cl 0 0 rfl rfl
  have f_x0 : World.frozen? w1 ⟨w.heap.size, 0, none⟩ = false := S.f 0 0 rfl
  have c_x1 : World.cell? w1 ⟨w.heap.size, 1, none⟩ = some (.slice (A) (n) (c)) := S.cl 0 1 rfl rfl
  have f_x1 : World.frozen? w1 ⟨w.heap.size, 1, none⟩ = false := S.f 0 1 rfl
  have c_x2 : World.cell? w1 ⟨w.heap.size, 2, none⟩ = some (.slice (D) (m) (d)) := S.cl 0 2 rfl rfl
  have f_x2 : World.frozen? w1 ⟨w.heap.size, 2, none⟩ = false := S.f 0 2 rfl
  have hz : w.heap.size < w1.heap.size := S.lt 0 rfl
  replace S := Lib.hid S
  go_wp2_with fail
  refine (hU.out _ (S.out.r 0 rfl)).mono ?_
  rintro e w2 ⟨rfl, bb⟩
  have T : St w w2 [(w.heap.size, #[.bool (b), .slice (A) (n) (c), .slice (D) (m) (d)], 26)] [(D, m, d, ds), (A, n, c, xs)] := (S.out.call bb)
  clear bb S c_x0 f_x0 c_x1 f_x1 c_x2 f_x2 hz
  have S := T
  clear T
  have c_x0 : World.cell? w2 ⟨w.heap.size, 0, none⟩ = some (.bool (b)) := S.cl 0 0 rfl rfl
  have f_x0 : World.frozen? w2 ⟨w.heap.size, 0, none⟩ = false := S.f 0 0 rfl
  have c_x1 : World.cell? w2 ⟨w.heap.size, 1, none⟩ = some (.slice (A) (n) (c)) := S.cl 0 1 rfl rfl
  have f_x1 : World.frozen? w2 ⟨w.heap.size, 1, none⟩ = false := S.f 0 1 rfl
  have c_x2 : World.cell? w2 ⟨w.heap.size, 2, none⟩ = some (.slice (D) (m) (d)) := S.cl 0 2 rfl rfl
  have f_x2 : World.frozen? w2 ⟨w.heap.size, 2, none⟩ = false := S.f 0 2 rfl
  have hz : w.heap.size < w2.heap.size := S.lt 0 rfl
  replace S := Lib.hid S
  go_wp2_with fail
  refine (hO.out _ (S.out.r 0 rfl)).mono ?_
  rintro e w3 ⟨rfl, bb⟩
  have T : St w w3 [(w.heap.size, #[.bool (b), .slice (A) (n) (c), .slice (D) (m) (d)], 26)] [(D, m, d, ds), (A, n, c, xs)] := (S.out.call bb)
  clear bb S c_x0 f_x0 c_x1 f_x1 c_x2 f_x2 hz
  have S := T
  clear T
  have c_x0 : World.cell? w3 ⟨w.heap.size, 0, none⟩ = some (.bool (b)) := S.cl 0 0 rfl rfl
  have f_x0 : World.frozen? w3 ⟨w.heap.size, 0, none⟩ = false := S.f 0 0 rfl
  have c_x1 : World.cell? w3 ⟨w.heap.size, 1, none⟩ = some (.slice (A) (n) (c)) := S.cl 0 1 rfl rfl
  have f_x1 : World.frozen? w3 ⟨w.heap.size, 1, none⟩ = false := S.f 0 1 rfl
  have c_x2 : World.cell? w3 ⟨w.heap.size, 2, none⟩ = some (.slice (D) (m) (d)) := S.cl 0 2 rfl rfl
  have f_x2 : World.frozen? w3 ⟨w.heap.size, 2, none⟩ = false := S.f 0 2 rfl
  have hz : w.heap.size < w3.heap.size := S.lt 0 rfl
  replace S := Lib.hid S
  go_wp2_with fail
  refine (hG.out _ (S.out.r 1 rfl) (S.out.r 0 rfl)).mono ?_
  rintro e w4 ⟨A3, n3, c3, rfl, Q3, bb⟩
  have T : St w w4 [(w.heap.size, #[.bool (b), .slice (A) (n) (c), .slice (D) (m) (d)], 26)] [(A3, n3, c3, limbs G), (D, m, d, ds), (A, n, c, xs)] := ((S.out.call bb).read Q3)
  clear bb S c_x0 f_x0 c_x1 f_x1 c_x2 f_x2 hz
  have S := T
  clear T
  have c_x0 : World.cell? w4 ⟨w.heap.size, 0, none⟩ = some (.bool (b)) := S.cl 0 0 rfl rfl
  have f_x0 : World.frozen? w4 ⟨w.heap.size, 0, none⟩ = false := S.f 0 0 rfl
  have c_x1 : World.cell? w4 ⟨w.heap.size, 1, none⟩ = some (.slice (A) (n) (c)) := S.cl 0 1 rfl rfl
  have f_x1 : World.frozen? w4 ⟨w.heap.size, 1, none⟩ = false := S.f 0 1 rfl
  have c_x2 : World.cell? w4 ⟨w.heap.size, 2, none⟩ = some (.slice (D) (m) (d)) := S.cl 0 2 rfl rfl
  have f_x2 : World.frozen? w4 ⟨w.heap.size, 2, none⟩ = false := S.f 0 2 rfl
  have hz : w.heap.size < w4.heap.size := S.lt 0 rfl
  replace S := Lib.hid S
  go_wp2_with fail
  refine (hP.out _ A3 n3 c3 (S.out.r 0 rfl)).mono ?_
  rintro e w5 ⟨rfl, bb⟩
  have T : St w w5 [(w.heap.size, #[.bool (b), .slice (A) (n) (c), .slice (D) (m) (d)], 26)] [(A3, n3, c3, limbs G), (D, m, d, ds), (A, n, c, xs)] := (S.out.call bb)
  clear bb S c_x0 f_x0 c_x1 f_x1 c_x2 f_x2 hz
  have S := T
  clear T
  have c_x0 : World.cell? w5 ⟨w.heap.size, 0, none⟩ = some (.bool (b)) := S.cl 0 0 rfl rfl
  have f_x0 : World.frozen? w5 ⟨w.heap.size, 0, none⟩ = false := S.f 0 0 rfl
  have c_x1 : World.cell? w5 ⟨w.heap.size, 1, none⟩ = some (.slice (A) (n) (c)) := S.cl 0 1 rfl rfl
  have f_x1 : World.frozen? w5 ⟨w.heap.size, 1, none⟩ = false := S.f 0 1 rfl
  have c_x2 : World.cell? w5 ⟨w.heap.size, 2, none⟩ = some (.slice (D) (m) (d)) := S.cl 0 2 rfl rfl
  have f_x2 : World.frozen? w5 ⟨w.heap.size, 2, none⟩ = false := S.f 0 2 rfl
  have hz : w.heap.size < w5.heap.size := S.lt 0 rfl
  replace S := Lib.hid S
  have S : St w _ [(w.heap.size, #[.bool (b), .slice (A) (n) (c), .slice (D) (m) (d)], 26)] [(A3, n3, c3, limbs G), (D, m, d, ds), (A, n, c, xs)] := S.out
  replace S := Lib.hid S
  go_wp2
  go_ret
  exact ⟨congrArg (fun q => Ending.returned (.bool q)) hr.out.symm, S.out.bel⟩

theorem rv_canon {b : Bool} {xs ds : List Nat} (h1 : Sm xs) (h2 : Sm ds) (h : vldR b xs ds = true) : ∃ q : Rat, b = ng q.num ∧ xs = limbs q.num.natAbs ∧ ds = dn q := ⟨rv b xs ds, canonR h1 h2 h⟩
theorem Rs.ofRow {q : Rat} {p : Nat} (h1 : (limbs q.num.natAbs).length ≤ p) (h2 : (dn q).length ≤ p) (hp : 1 ≤ p) : Rs q p := by
  refine ⟨limbs_len_le.1 h1, ?_⟩
  unfold dn at h2
  split at h2
  · rename_i e; rw [e]; have := pow_mono hp; omega
  · exact limbs_len_le.1 h2
set_option maxHeartbeats 8000000 in
theorem law_back (b : Bool) (A : Option Addr) (n c : Nat) (xs : List Nat) (D : Option Addr) (m d : Nat) (ds : List Nat) (w : World) (R1 : Rd w A n c xs) (m1 : n ≤ 9223372036854775807) (R2 : Rd w D m d ds) (m2 : m ≤ 9223372036854775807) (htab : Tab w) :
    Calls Tryz.prog 11 #[.agg #[.bool b, .slice A n c, .slice D m d]] w fun e w' => e = .returned (.bool true) ∧ Below w.heap.size w w' := by
  have hA := Lib.hid (fun W t => awakeR_any W t)
  replace htab := Lib.hid htab
  have hL := fun W => lightR_any b A n c D m d W m1 m2
  have l1 := R1.len
  have l2 := R2.len
  have s1 := R1.sm
  have s2 := R2.sm
  have S : St w _ [(w.heap.size, #[.bool (b), .slice (A) (n) (c), .slice (D) (m) (d)], 26)] [(D, m, d, ds), (A, n, c, xs)] := ((((St.new w).read R1).read R2).allocAt (w.heap.size) #[.bool (b), .slice (A) (n) (c), .slice (D) (m) (d)] 26 (noL3 _ _ _ _ _ _ _) (by simp))
  replace S := Lib.hid S
  clear R1 R2
  cases hb : lightB n m
  · rw [hb] at hL
    replace hL := Lib.hid hL
    clear hb l1 l2 s1 s2 m1 m2
    go_enter Tryz.func11, Tryz.ntmps11
    go_wp2_with fail
    refine (hL.out _).mono ?_
    rintro e w1 ⟨rfl, bb⟩
    have T : St w w1 [(w.heap.size, #[.bool (b), .slice (A) (n) (c), .slice (D) (m) (d)], 26)] [(D, m, d, ds), (A, n, c, xs)] := (S.out.call bb)
    clear bb S
    have S := T
    clear T
    have c_x0 : World.cell? w1 ⟨w.heap.size, 0, none⟩ = some (.bool (b)) := S.cl 0 0 rfl rfl
    have f_x0 : World.frozen? w1 ⟨w.heap.size, 0, none⟩ = false := S.f 0 0 rfl
    have c_x1 : World.cell? w1 ⟨w.heap.size, 1, none⟩ = some (.slice (A) (n) (c)) := S.cl 0 1 rfl rfl
    have f_x1 : World.frozen? w1 ⟨w.heap.size, 1, none⟩ = false := S.f 0 1 rfl
    have c_x2 : World.cell? w1 ⟨w.heap.size, 2, none⟩ = some (.slice (D) (m) (d)) := S.cl 0 2 rfl rfl
    have f_x2 : World.frozen? w1 ⟨w.heap.size, 2, none⟩ = false := S.f 0 2 rfl
    have hz : w.heap.size < w1.heap.size := S.lt 0 rfl
    replace S := Lib.hid S
    go_wp2_with fail
    refine (hA.out _ (tab_below htab.out S.out.bel)).mono ?_
    rintro e w2 ⟨rfl, bb⟩
    have T : St w w2 [(w.heap.size, #[.bool (b), .slice (A) (n) (c), .slice (D) (m) (d)], 26)] [(D, m, d, ds), (A, n, c, xs)] := (S.out.call bb)
    clear bb S c_x0 f_x0 c_x1 f_x1 c_x2 f_x2 hz
    have S := T
    clear T
    have c_x0 : World.cell? w2 ⟨w.heap.size, 0, none⟩ = some (.bool (b)) := S.cl 0 0 rfl rfl
    have f_x0 : World.frozen? w2 ⟨w.heap.size, 0, none⟩ = false := S.f 0 0 rfl
    have c_x1 : World.cell? w2 ⟨w.heap.size, 1, none⟩ = some (.slice (A) (n) (c)) := S.cl 0 1 rfl rfl
    have f_x1 : World.frozen? w2 ⟨w.heap.size, 1, none⟩ = false := S.f 0 1 rfl
    have c_x2 : World.cell? w2 ⟨w.heap.size, 2, none⟩ = some (.slice (D) (m) (d)) := S.cl 0 2 rfl rfl
    have f_x2 : World.frozen? w2 ⟨w.heap.size, 2, none⟩ = false := S.f 0 2 rfl
    have hz : w.heap.size < w2.heap.size := S.lt 0 rfl
    replace S := Lib.hid S
    have S : St w _ [(w.heap.size, #[.bool (b), .slice (A) (n) (c), .slice (D) (m) (d)], 26)] [(D, m, d, ds), (A, n, c, xs)] := S.out
    replace S := Lib.hid S
    go_wp2
    go_ret
    exact ⟨rfl, S.out.bel⟩
  rw [hb] at hL
  unfold lightB at hb
  rw [Bool.and_eq_true, decide_eq_true_eq, decide_eq_true_eq] at hb
  obtain ⟨b1, b2⟩ := hb
  have hV := fun W q1 q2 => rvalidR_any b A n c xs D m d ds W q1 q2 (by omega) (by omega)
  cases hv : vldR b xs ds
  · rw [hv] at hV
    replace hL := Lib.hid hL
    replace hV := Lib.hid hV
    clear hv b1 b2 l1 l2 s1 s2 m1 m2
    go_enter Tryz.func11, Tryz.ntmps11
    go_wp2_with fail
    refine (hL.out _).mono ?_
    rintro e w1 ⟨rfl, bb⟩
    have T : St w w1 [(w.heap.size, #[.bool (b), .slice (A) (n) (c), .slice (D) (m) (d)], 26)] [(D, m, d, ds), (A, n, c, xs)] := (S.out.call bb)
    clear bb S
    have S := T
    clear T
    have c_x0 : World.cell? w1 ⟨w.heap.size, 0, none⟩ = some (.bool (b)) := S.cl 0 0 rfl rfl
    have f_x0 : World.frozen? w1 ⟨w.heap.size, 0, none⟩ = false := S.f 0 0 rfl
    have c_x1 : World.cell? w1 ⟨w.heap.size, 1, none⟩ = some (.slice (A) (n) (c)) := S.cl 0 1 rfl rfl
    have f_x1 : World.frozen? w1 ⟨w.heap.size, 1, none⟩ = false := S.f 0 1 rfl
    have c_x2 : World.cell? w1 ⟨w.heap.size, 2, none⟩ = some (.slice (D) (m) (d)) := S.cl 0 2 rfl rfl
    have f_x2 : World.frozen? w1 ⟨w.heap.size, 2, none⟩ = false := S.f 0 2 rfl
    have hz : w.heap.size < w1.heap.size := S.lt 0 rfl
    replace S := Lib.hid S
    go_wp2_with fail
    refine (hV.out _ (S.out.r 1 rfl) (S.out.r 0 rfl)).mono ?_
    rintro e w2 ⟨rfl, bb⟩
    have T : St w w2 [(w.heap.size, #[.bool (b), .slice (A) (n) (c), .slice (D) (m) (d)], 26)] [(D, m, d, ds), (A, n, c, xs)] := (S.out.call bb)
    clear bb S c_x0 f_x0 c_x1 f_x1 c_x2 f_x2 hz
    have S := T
    clear T
    have c_x0 : World.cell? w2 ⟨w.heap.size, 0, none⟩ = some (.bool (b)) := S.cl 0 0 rfl rfl
    have f_x0 : World.frozen? w2 ⟨w.heap.size, 0, none⟩ = false := S.f 0 0 rfl
    have c_x1 : World.cell? w2 ⟨w.heap.size, 1, none⟩ = some (.slice (A) (n) (c)) := S.cl 0 1 rfl rfl
    have f_x1 : World.frozen? w2 ⟨w.heap.size, 1, none⟩ = false := S.f 0 1 rfl
    have c_x2 : World.cell? w2 ⟨w.heap.size, 2, none⟩ = some (.slice (D) (m) (d)) := S.cl 0 2 rfl rfl
    have f_x2 : World.frozen? w2 ⟨w.heap.size, 2, none⟩ = false := S.f 0 2 rfl
    have hz : w.heap.size < w2.heap.size := S.lt 0 rfl
    replace S := Lib.hid S
    go_wp2_with fail
    refine (hA.out _ (tab_below htab.out S.out.bel)).mono ?_
    rintro e w3 ⟨rfl, bb⟩
    have T : St w w3 [(w.heap.size, #[.bool (b), .slice (A) (n) (c), .slice (D) (m) (d)], 26)] [(D, m, d, ds), (A, n, c, xs)] := (S.out.call bb)
    clear bb S c_x0 f_x0 c_x1 f_x1 c_x2 f_x2 hz
    have S := T
    clear T
    have c_x0 : World.cell? w3 ⟨w.heap.size, 0, none⟩ = some (.bool (b)) := S.cl 0 0 rfl rfl
    have f_x0 : World.frozen? w3 ⟨w.heap.size, 0, none⟩ = false := S.f 0 0 rfl
    have c_x1 : World.cell? w3 ⟨w.heap.size, 1, none⟩ = some (.slice (A) (n) (c)) := S.cl 0 1 rfl rfl
    have f_x1 : World.frozen? w3 ⟨w.heap.size, 1, none⟩ = false := S.f 0 1 rfl
    have c_x2 : World.cell? w3 ⟨w.heap.size, 2, none⟩ = some (.slice (D) (m) (d)) := S.cl 0 2 rfl rfl
    have f_x2 : World.frozen? w3 ⟨w.heap.size, 2, none⟩ = false := S.f 0 2 rfl
    have hz : w.heap.size < w3.heap.size := S.lt 0 rfl
    replace S := Lib.hid S
    have S : St w _ [(w.heap.size, #[.bool (b), .slice (A) (n) (c), .slice (D) (m) (d)], 26)] [(D, m, d, ds), (A, n, c, xs)] := S.out
    replace S := Lib.hid S
    go_wp2
    go_ret
    exact ⟨rfl, S.out.bel⟩
  rw [hv] at hV
  obtain ⟨q, e1, e2, e3⟩ := rv_canon s1 s2 hv
  have hs : Rs q 8 := Rs.ofRow (by rw [← e2]; omega) (by rw [← e3]; omega) (by decide)
  obtain ⟨z1, z2, z3⟩ := qtxt_size hs
  obtain ⟨p1, p2⟩ := parse_back q (by omega) (by omega)
  obtain ⟨k1, k2⟩ := p1_q q (by omega) (by omega)
  have hF : Hid (∀ W A n c D m d, RR W A n c D m d q → Tab W → Calls Tryz.prog 43 #[.agg #[.bool (ng q.num), .slice A n c, .slice D m d]] W fun e w' => e = .returned (.string (qtxt q)) ∧ Below W.heap.size W w') := Lib.hid fun W A n c D m d h t => formatQ_any _ A n c D m d W _ h (hs.mono (by decide)) t rfl
  have hP : Hid (∀ W, Calls Tryz.prog 41 #[.string (qtxt q)] W (RetRE q (.bool true) W)) := Lib.hid fun W => by
    have := parseR_any (qtxt q) W z1 (asc_q q) (by
      rw [(rest_q q).2, k2]
      refine Rs.divInt (by have := q.den_pos; omega) ?_ ?_
      · rw [Int.natAbs_natCast]; exact (hs.mono (show 8 ≤ 600 by decide)).n
      · rw [Int.natAbs_natCast]; exact (hs.mono (show 8 ≤ 600 by decide)).d)
    rwa [p1, p2] at this
  have hS := Lib.hid (fun W A n c D m d A' n' c' D' m' d' p1 p2 a b => rsameR_true q A n c D m d A' n' c' D' m' d' W p1 p2 a b)
  generalize qtxt q = T at hF hP
  subst e1 e2 e3
  unfold RetRE at hP
  have b1' := Lib.hid b1
  have b2' := Lib.hid b2
  replace hL := Lib.hid hL
  replace hV := Lib.hid hV
  clear hv b1 b2 l1 l2 s1 s2 m1 m2 hs z1 z2 z3 p1 p2 k1 k2
  go_enter Tryz.func11, Tryz.ntmps11
  go_wp2_with fail
  refine (hL.out _).mono ?_
  rintro e w1 ⟨rfl, bb⟩
  have T : St w w1 [(w.heap.size, #[.bool (ng q.num), .slice (A) (n) (c), .slice (D) (m) (d)], 26)] [(D, m, d, dn q), (A, n, c, limbs q.num.natAbs)] := (S.out.call bb)
  clear bb S
  have S := T
  clear T
  have c_x0 : World.cell? w1 ⟨w.heap.size, 0, none⟩ = some (.bool (ng q.num)) := S.cl 0 0 rfl rfl
  have f_x0 : World.frozen? w1 ⟨w.heap.size, 0, none⟩ = false := S.f 0 0 rfl
  have c_x1 : World.cell? w1 ⟨w.heap.size, 1, none⟩ = some (.slice (A) (n) (c)) := S.cl 0 1 rfl rfl
  have f_x1 : World.frozen? w1 ⟨w.heap.size, 1, none⟩ = false := S.f 0 1 rfl
  have c_x2 : World.cell? w1 ⟨w.heap.size, 2, none⟩ = some (.slice (D) (m) (d)) := S.cl 0 2 rfl rfl
  have f_x2 : World.frozen? w1 ⟨w.heap.size, 2, none⟩ = false := S.f 0 2 rfl
  have hz : w.heap.size < w1.heap.size := S.lt 0 rfl
  replace S := Lib.hid S
  go_wp2_with fail
  refine (hV.out _ (S.out.r 1 rfl) (S.out.r 0 rfl)).mono ?_
  rintro e w2 ⟨rfl, bb⟩
  have T : St w w2 [(w.heap.size, #[.bool (ng q.num), .slice (A) (n) (c), .slice (D) (m) (d)], 26)] [(D, m, d, dn q), (A, n, c, limbs q.num.natAbs)] := (S.out.call bb)
  clear bb S c_x0 f_x0 c_x1 f_x1 c_x2 f_x2 hz
  have S := T
  clear T
  have c_x0 : World.cell? w2 ⟨w.heap.size, 0, none⟩ = some (.bool (ng q.num)) := S.cl 0 0 rfl rfl
  have f_x0 : World.frozen? w2 ⟨w.heap.size, 0, none⟩ = false := S.f 0 0 rfl
  have c_x1 : World.cell? w2 ⟨w.heap.size, 1, none⟩ = some (.slice (A) (n) (c)) := S.cl 0 1 rfl rfl
  have f_x1 : World.frozen? w2 ⟨w.heap.size, 1, none⟩ = false := S.f 0 1 rfl
  have c_x2 : World.cell? w2 ⟨w.heap.size, 2, none⟩ = some (.slice (D) (m) (d)) := S.cl 0 2 rfl rfl
  have f_x2 : World.frozen? w2 ⟨w.heap.size, 2, none⟩ = false := S.f 0 2 rfl
  have hz : w.heap.size < w2.heap.size := S.lt 0 rfl
  replace S := Lib.hid S
  go_wp2_with fail
  refine (hF.out _ _ _ _ _ _ _ ⟨S.out.r 1 rfl, S.out.r 0 rfl⟩ (tab_below htab.out S.out.bel)).mono ?_
  rintro e w3 ⟨rfl, bb⟩
  have T : St w w3 [(w.heap.size, #[.bool (ng q.num), .slice (A) (n) (c), .slice (D) (m) (d)], 26)] [(D, m, d, dn q), (A, n, c, limbs q.num.natAbs)] := (S.out.call bb)
  clear bb S c_x0 f_x0 c_x1 f_x1 c_x2 f_x2 hz
  have S := T
  clear T
  have c_x0 : World.cell? w3 ⟨w.heap.size, 0, none⟩ = some (.bool (ng q.num)) := S.cl 0 0 rfl rfl
  have f_x0 : World.frozen? w3 ⟨w.heap.size, 0, none⟩ = false := S.f 0 0 rfl
  have c_x1 : World.cell? w3 ⟨w.heap.size, 1, none⟩ = some (.slice (A) (n) (c)) := S.cl 0 1 rfl rfl
  have f_x1 : World.frozen? w3 ⟨w.heap.size, 1, none⟩ = false := S.f 0 1 rfl
  have c_x2 : World.cell? w3 ⟨w.heap.size, 2, none⟩ = some (.slice (D) (m) (d)) := S.cl 0 2 rfl rfl
  have f_x2 : World.frozen? w3 ⟨w.heap.size, 2, none⟩ = false := S.f 0 2 rfl
  have hz : w.heap.size < w3.heap.size := S.lt 0 rfl
  replace S := Lib.hid S
  go_wp2_with fail
  refine (hP.out _).mono ?_
  rintro e w4 ⟨A2, n2, c2, D2, m2, d2, rfl, Q, bb⟩
  have T : St w w4 [(w.heap.size, #[.bool (ng q.num), .slice (A) (n) (c), .slice (D) (m) (d)], 26)] [(D2, m2, d2, dn q), (A2, n2, c2, limbs q.num.natAbs), (D, m, d, dn q), (A, n, c, limbs q.num.natAbs)] := (((S.out.call bb).read Q.n).read Q.d)
  clear bb S c_x0 f_x0 c_x1 f_x1 c_x2 f_x2 hz
  have S := T
  clear T
  have c_x0 : World.cell? w4 ⟨w.heap.size, 0, none⟩ = some (.bool (ng q.num)) := S.cl 0 0 rfl rfl
  have f_x0 : World.frozen? w4 ⟨w.heap.size, 0, none⟩ = false := S.f 0 0 rfl
  have c_x1 : World.cell? w4 ⟨w.heap.size, 1, none⟩ = some (.slice (A) (n) (c)) := S.cl 0 1 rfl rfl
  have f_x1 : World.frozen? w4 ⟨w.heap.size, 1, none⟩ = false := S.f 0 1 rfl
  have c_x2 : World.cell? w4 ⟨w.heap.size, 2, none⟩ = some (.slice (D) (m) (d)) := S.cl 0 2 rfl rfl
  have f_x2 : World.frozen? w4 ⟨w.heap.size, 2, none⟩ = false := S.f 0 2 rfl
  have hz : w.heap.size < w4.heap.size := S.lt 0 rfl
  replace S := Lib.hid S
  clear Q
  have S : St w _ [(w4.heap.size, #[.bool (ng q.num), .slice (A2) (n2) (c2), .slice (D2) (m2) (d2)], 26), (w.heap.size, #[.bool (ng q.num), .slice (A) (n) (c), .slice (D) (m) (d)], 26)] [(D2, m2, d2, dn q), (A2, n2, c2, limbs q.num.natAbs), (D, m, d, dn q), (A, n, c, limbs q.num.natAbs)] := (S.out.allocAt (w4.heap.size) #[.bool (ng q.num), .slice (A2) (n2) (c2), .slice (D2) (m2) (d2)] 26 (noL3 _ _ _ _ _ _ _) (by simp))
  have a_x0 : World.cell? (World.alloc w4 (.cells #[.bool (ng q.num), .slice (A2) (n2) (c2), .slice (D2) (m2) (d2)] 26)) ⟨w.heap.size, 0, none⟩ = some (.bool (ng q.num)) := S.cl 1 0 rfl rfl
  have b_x0 : World.frozen? (World.alloc w4 (.cells #[.bool (ng q.num), .slice (A2) (n2) (c2), .slice (D2) (m2) (d2)] 26)) ⟨w.heap.size, 0, none⟩ = false := S.f 1 0 rfl
  have a_x1 : World.cell? (World.alloc w4 (.cells #[.bool (ng q.num), .slice (A2) (n2) (c2), .slice (D2) (m2) (d2)] 26)) ⟨w.heap.size, 1, none⟩ = some (.slice (A) (n) (c)) := S.cl 1 1 rfl rfl
  have b_x1 : World.frozen? (World.alloc w4 (.cells #[.bool (ng q.num), .slice (A2) (n2) (c2), .slice (D2) (m2) (d2)] 26)) ⟨w.heap.size, 1, none⟩ = false := S.f 1 1 rfl
  have a_x2 : World.cell? (World.alloc w4 (.cells #[.bool (ng q.num), .slice (A2) (n2) (c2), .slice (D2) (m2) (d2)] 26)) ⟨w.heap.size, 2, none⟩ = some (.slice (D) (m) (d)) := S.cl 1 2 rfl rfl
  have b_x2 : World.frozen? (World.alloc w4 (.cells #[.bool (ng q.num), .slice (A2) (n2) (c2), .slice (D2) (m2) (d2)] 26)) ⟨w.heap.size, 2, none⟩ = false := S.f 1 2 rfl
  replace S := Lib.hid S
  go_wp2_with fail
  refine (hA.out _ (tab_below htab.out S.out.bel)).mono ?_
  rintro e w5 ⟨rfl, bb⟩
  have T : St w w5 [(w4.heap.size, #[.bool (ng q.num), .slice (A2) (n2) (c2), .slice (D2) (m2) (d2)], 26), (w.heap.size, #[.bool (ng q.num), .slice (A) (n) (c), .slice (D) (m) (d)], 26)] [(D2, m2, d2, dn q), (A2, n2, c2, limbs q.num.natAbs), (D, m, d, dn q), (A, n, c, limbs q.num.natAbs)] := (S.out.call bb)
  clear bb S c_x0 f_x0 c_x1 f_x1 c_x2 f_x2 hz a_x0 b_x0 a_x1 b_x1 a_x2 b_x2
  have S := T
  clear T
  have c_y0 : World.cell? w5 ⟨w4.heap.size, 0, none⟩ = some (.bool (ng q.num)) := S.cl 0 0 rfl rfl
  have f_y0 : World.frozen? w5 ⟨w4.heap.size, 0, none⟩ = false := S.f 0 0 rfl
  have c_y1 : World.cell? w5 ⟨w4.heap.size, 1, none⟩ = some (.slice (A2) (n2) (c2)) := S.cl 0 1 rfl rfl
  have f_y1 : World.frozen? w5 ⟨w4.heap.size, 1, none⟩ = false := S.f 0 1 rfl
  have c_y2 : World.cell? w5 ⟨w4.heap.size, 2, none⟩ = some (.slice (D2) (m2) (d2)) := S.cl 0 2 rfl rfl
  have f_y2 : World.frozen? w5 ⟨w4.heap.size, 2, none⟩ = false := S.f 0 2 rfl
  have c_x0 : World.cell? w5 ⟨w.heap.size, 0, none⟩ = some (.bool (ng q.num)) := S.cl 1 0 rfl rfl
  have f_x0 : World.frozen? w5 ⟨w.heap.size, 0, none⟩ = false := S.f 1 0 rfl
  have c_x1 : World.cell? w5 ⟨w.heap.size, 1, none⟩ = some (.slice (A) (n) (c)) := S.cl 1 1 rfl rfl
  have f_x1 : World.frozen? w5 ⟨w.heap.size, 1, none⟩ = false := S.f 1 1 rfl
  have c_x2 : World.cell? w5 ⟨w.heap.size, 2, none⟩ = some (.slice (D) (m) (d)) := S.cl 1 2 rfl rfl
  have f_x2 : World.frozen? w5 ⟨w.heap.size, 2, none⟩ = false := S.f 1 2 rfl
  have hz : w4.heap.size < w5.heap.size := S.lt 0 rfl
  replace S := Lib.hid S
  go_wp2_with fail
  refine (hS.out _ _ _ _ _ _ _ _ _ _ _ _ _ ⟨(S.out.r 3 rfl), (S.out.r 2 rfl)⟩ ⟨(S.out.r 1 rfl), (S.out.r 0 rfl)⟩ (by have := b1'.out; omega) (by have := b2'.out; omega)).mono ?_
  rintro e w6 ⟨rfl, bb⟩
  have T : St w w6 [(w4.heap.size, #[.bool (ng q.num), .slice (A2) (n2) (c2), .slice (D2) (m2) (d2)], 26), (w.heap.size, #[.bool (ng q.num), .slice (A) (n) (c), .slice (D) (m) (d)], 26)] [(D2, m2, d2, dn q), (A2, n2, c2, limbs q.num.natAbs), (D, m, d, dn q), (A, n, c, limbs q.num.natAbs)] := (S.out.call bb)
  clear bb S c_y0 f_y0 c_y1 f_y1 c_y2 f_y2 c_x0 f_x0 c_x1 f_x1 c_x2 f_x2 hz
  have S := T
  clear T
  have c_y0 : World.cell? w6 ⟨w4.heap.size, 0, none⟩ = some (.bool (ng q.num)) := S.cl 0 0 rfl rfl
  have f_y0 : World.frozen? w6 ⟨w4.heap.size, 0, none⟩ = false := S.f 0 0 rfl
  have c_y1 : World.cell? w6 ⟨w4.heap.size, 1, none⟩ = some (.slice (A2) (n2) (c2)) := S.cl 0 1 rfl rfl
  have f_y1 : World.frozen? w6 ⟨w4.heap.size, 1, none⟩ = false := S.f 0 1 rfl
  have c_y2 : World.cell? w6 ⟨w4.heap.size, 2, none⟩ = some (.slice (D2) (m2) (d2)) := S.cl 0 2 rfl rfl
  have f_y2 : World.frozen? w6 ⟨w4.heap.size, 2, none⟩ = false := S.f 0 2 rfl
  have c_x0 : World.cell? w6 ⟨w.heap.size, 0, none⟩ = some (.bool (ng q.num)) := S.cl 1 0 rfl rfl
  have f_x0 : World.frozen? w6 ⟨w.heap.size, 0, none⟩ = false := S.f 1 0 rfl
  have c_x1 : World.cell? w6 ⟨w.heap.size, 1, none⟩ = some (.slice (A) (n) (c)) := S.cl 1 1 rfl rfl
  have f_x1 : World.frozen? w6 ⟨w.heap.size, 1, none⟩ = false := S.f 1 1 rfl
  have c_x2 : World.cell? w6 ⟨w.heap.size, 2, none⟩ = some (.slice (D) (m) (d)) := S.cl 1 2 rfl rfl
  have f_x2 : World.frozen? w6 ⟨w.heap.size, 2, none⟩ = false := S.f 1 2 rfl
  have hz : w4.heap.size < w6.heap.size := S.lt 0 rfl
  replace S := Lib.hid S
  have S : St w _ [(w4.heap.size, #[.bool (ng q.num), .slice (A2) (n2) (c2), .slice (D2) (m2) (d2)], 26), (w.heap.size, #[.bool (ng q.num), .slice (A) (n) (c), .slice (D) (m) (d)], 26)] [(D2, m2, d2, dn q), (A2, n2, c2, limbs q.num.natAbs), (D, m, d, dn q), (A, n, c, limbs q.num.natAbs)] := S.out
  replace S := Lib.hid S
  go_wp2
  go_ret
  exact ⟨rfl, S.out.bel⟩
end Go.Proofs.YtgaigebdbmohcaaGreatDoor
