/- The program's join: phrases in memory. -/
import Derived.Test.YtjebpmjbdchdlaaDoorM10
namespace Go.Proofs.YtjebpmjbdchdlaaDoor
open Go.RowKit
set_option linter.unusedVariables false

/-- A phrase in memory. -/
def phC : Cod (F9.Bs × Nat) := (proC strC intC).via fun p => (bsA p.1, (p.2 : Int))
theorem ph_sz : phC.sz = 2 := rfl
theorem ph_cs (p : F9.Bs × Nat) : phC.cs p = [.string (bsA p.1), .int .i64 (p.2 : Nat)] := rfl
theorem ph_get {W : World} {A : Option Addr} {n : Nat} {L : List (F9.Bs × Nat)} (h : LR phC W A n L) {i : Nat} (hi : i < n) : ∃ b o p, A = some ⟨b, o, none⟩ ∧ L[i]? = some p ∧ p ∈ L ∧ W.cell? ⟨b, o + i * 2, none⟩ = some (.string (bsA p.1)) ∧ W.cell? ⟨b, o + i * 2 + 1, none⟩ = some (.int .i64 (p.2 : Nat)) := by
  obtain ⟨b, o, c, h1, h2, h3, h4, h5⟩ := h.get hi
  exact ⟨b, o, c, h1, h2, h3, h5 0 _ rfl, h5 1 _ rfl⟩
theorem enc_bs (p : F9.Bs × Nat) (k : Nat) : (if (p.2 : Int) < (k : Int) then (⟨#[40]⟩ ++ bsA p.1 ++ ⟨#[41]⟩ : ByteArray) else bsA p.1) = bsA (F9.encl p k) := by
  unfold F9.encl
  by_cases h : p.2 < k
  · rw [if_pos h, if_pos (by omega), bsA_lit [40], bsA_lit [41], bsA_app, bsA_app]; simp
  · rw [if_neg h, if_neg (by omega)]
/-- A sign in the table. -/
def sgT : Nat → F9.Bs
  | 5 => [43]
  | 6 => [45]
  | 7 => [58]
  | 8 => [42]
  | 9 => [47]
  | _ => [94]
theorem spc_bs {op : Nat} (h1 : 5 ≤ op) (h2 : op ≤ 9) : (if ((F9.rul op : Nat) : Int) = 3 then bsA (sgT op) else (⟨#[32]⟩ ++ bsA (sgT op) ++ ⟨#[32]⟩ : ByteArray)) = bsA (F9.sgn op) := by
  have hc : op = 5 ∨ op = 6 ∨ op = 7 ∨ op = 8 ∨ op = 9 := by omega
  rcases hc with rfl | rfl | rfl | rfl | rfl <;> rfl
/-- The table's entry of an operation with operands. -/
def opE (q : Nat) : Array Value := #[.string (bsA (sgT q)), .int .i64 (if q = 10 then 4 else F9.rul q : Nat), .int .i64 (F9.ari q : Nat), .bool false, .int .i64 (if q = 10 then 1 else 0 : Nat), .int .i64 (if q = 10 then 6 else 0 : Nat)]
theorem og_ent {W : World} (h : Og W) {q : Nat} (h1 : 5 ≤ q) (h2 : q ≤ 10) {j : Nat} {v : Value} (e : (opE q)[j]? = some v) : W.cell? ⟨0, q * 6 + j, none⟩ = some v := by
  have hj : j < 6 := by
    have := (Array.getElem?_eq_some_iff.1 e).1
    exact this
  have hc : q = 5 ∨ q = 6 ∨ q = 7 ∨ q = 8 ∨ q = 9 ∨ q = 10 := by omega
  have hd : j = 0 ∨ j = 1 ∨ j = 2 ∨ j = 3 ∨ j = 4 ∨ j = 5 := by omega
  refine h.2 _ _ ?_
  rcases hc with rfl | rfl | rfl | rfl | rfl | rfl <;> rcases hd with rfl | rfl | rfl | rfl | rfl | rfl <;> exact e

set_option maxRecDepth 100000 in
set_option maxHeartbeats 4000000 in
theorem join1_any (k : Nat) (hk : 1 ≤ k) (hk2 : k ≤ 6) (p : F9.Bs × Nat) (hp : p.1.length ≤ 99000) (A : Option Addr) (c : Nat) (w : World) (h : LR phC w A 1 [p]) (hc : 1 ≤ c) (hO : Og w) : Calls Tryd.prog 35 #[.agg #[.int .i64 10, .string (bsA []), .int .i64 (k : Nat)], .slice A 1 c] w fun e w' => e = .returned (.string (bsA (F9.encl p 4 ++ [94] ++ F9.dg k))) ∧ Below w.heap.size w w' := by
  have hpl : (bsA p.1).size ≤ 99000 := by rw [bsA_size]; exact hp
  have hE1 : Hid (∀ W, Calls Tryd.prog 54 #[.agg #[.string (bsA p.1), .int .i64 (p.2 : Nat)], .int .i64 4] W fun e w' => e = .returned (.string (bsA (F9.encl p 4))) ∧ Below W.heap.size W w') := Lib.hid fun W => by have := enclosed_any (bsA p.1) (p.2 : Nat) ((4 : Nat) : Int) W (by omega); rw [enc_bs] at this; exact this
  have hI : Hid (∀ W, Calls Tryd.prog 55 #[.int .i64 (k : Nat)] W fun e w' => e = .returned (.string (bsA (F9.dg k))) ∧ w' = W) := Lib.hid fun W => by have := Tryd.strconv_Itoa_small k (by omega) W; rw [dig_dg k (by omega)] at this; exact this
  have hx1 : (bsA (F9.encl p 4)).size ≤ 99002 := by rw [bsA_size]; unfold F9.encl; split <;> (try simp) <;> omega
  have hx2 : (bsA (F9.dg k)).size ≤ 1 := by rw [bsA_size]; simp [F9.dg]
  have hx3 : (bsA [94]).size ≤ 1 := by rw [bsA_size]; decide
  obtain ⟨rv, hrv⟩ : ∃ r, r = bsA (F9.encl p 4 ++ [94] ++ F9.dg k) := ⟨_, rfl⟩
  rw [← hrv]
  rw [← bsA_app, ← bsA_app] at hrv
  have e0 : w.cell? ⟨0, 60, none⟩ = some (.string (bsA [94])) := og_ent hO (q := 10) (by omega) (by omega) (j := 0) rfl
  have e1 : w.cell? ⟨0, 61, none⟩ = some (.int .i64 4) := og_ent hO (q := 10) (by omega) (by omega) (j := 1) rfl
  have e2 : w.cell? ⟨0, 62, none⟩ = some (.int .i64 1) := og_ent hO (q := 10) (by omega) (by omega) (j := 2) rfl
  have e3 : w.cell? ⟨0, 63, none⟩ = some (.bool false) := og_ent hO (q := 10) (by omega) (by omega) (j := 3) rfl
  have e4 : w.cell? ⟨0, 64, none⟩ = some (.int .i64 1) := og_ent hO (q := 10) (by omega) (by omega) (j := 4) rfl
  have e5 : w.cell? ⟨0, 65, none⟩ = some (.int .i64 6) := og_ent hO (q := 10) (by omega) (by omega) (j := 5) rfl
  generalize bsA (F9.encl p 4) = E1 at *
  generalize bsA (F9.dg k) = E2 at *
  generalize bsA [94] = sg at *
  obtain ⟨b0, o0, x0, hA0, hl0, _, a00, a01⟩ := ph_get h (i := 0) (by omega)
  obtain rfl : p = x0 := by simpa using hl0
  clear hl0
  subst hA0
  clear h
  have z00 : w.cell? ⟨b0, o0, none⟩ = some (.string (bsA p.1)) := by have := a00; rwa [Nat.zero_mul, Nat.add_zero] at this
  have z01 : w.cell? ⟨b0, o0 + 1, none⟩ = some (.int .i64 (p.2 : Nat)) := by have := a01; rwa [Nat.zero_mul, Nat.add_zero] at this
  clear a00 a01
  obtain ⟨pp, hpp⟩ : ∃ z, z = bsA p.1 := ⟨_, rfl⟩
  generalize bsA p.1 = pp at *
  generalize p.2 = pr at *
  obtain ⟨s0, hs0⟩ : ∃ s, s = bsA [] := ⟨_, rfl⟩
  rw [← hs0]
  have S0 := ((St.new w).allocAt w.heap.size #[.int .i64 10, .string s0, .int .i64 (k : Nat)] 53 (noLof rfl) rfl).allocAt (w.heap.size + 1) #[.string sg, .int .i64 4, .int .i64 1, .bool false, .int .i64 1, .int .i64 6] 55 (noLof rfl) (by simp)
  have S1 : St w _ [(w.heap.size + 1, #[.string sg, .int .i64 4, .int .i64 1, .bool false, .int .i64 1, .int .i64 6], 55), (w.heap.size, #[.int .i64 10, .string s0, .int .i64 (k : Nat)], 53)] [] := S0
  clear S0
  replace S1 := Lib.hid S1
  have hb := Lib.hid hO
  have hz0 := hO.1
  have hrw := Lib.hid hrv
  clear hrv hO hs0
  go_enter Tryd.func35, Tryd.ntmps35
  go_upto_region 6 with fail
  generalize hW1 : ((w.alloc (.cells #[.int .i64 10, .string s0, .int .i64 (k : Nat)] 53)).alloc (.cells #[.string sg, .int .i64 4, .int .i64 1, .bool false, .int .i64 1, .int .i64 6] 55)) = W1 at S1 ⊢
  clear hW1
  clear e0 e1 e2 e3 e4 e5
  obtain ⟨bx, hbx⟩ : ∃ b, b = w.heap.size := ⟨_, rfl⟩
  obtain ⟨bo, hbo⟩ : ∃ b, b = w.heap.size + 1 := ⟨_, rfl⟩
  rw [← hbo, ← hbx] at S1
  rw [← hbo, ← hbx]
  have hbase := Lib.hid (St.new W1)
  have c_o0 := S1.out.cl 0 0 rfl rfl
  have c_o1 := S1.out.cl 0 1 rfl rfl
  have c_o2 := S1.out.cl 0 2 rfl rfl
  have c_o3 := S1.out.cl 0 3 rfl rfl
  have c_o4 := S1.out.cl 0 4 rfl rfl
  have c_o5 := S1.out.cl 0 5 rfl rfl
  have c_n0 := S1.out.cl 1 0 rfl rfl
  have c_n1 := S1.out.cl 1 1 rfl rfl
  have c_n2 := S1.out.cl 1 2 rfl rfl
  have c_z00 := bel_cell S1.out.bel z00
  have c_z01 := bel_cell S1.out.bel z01
  have hlt0 := S1.out.lt 0 rfl
  have hlt1 := S1.out.lt 1 rfl
  clear hbx hbo hz0 z00 z01
  refine RW.begin (Z := []) (S := (fun W => Below W1.heap.size W1 W)) (by kernel_rfl) ?_ hbase.out ?_
  · exact ⟨by kernel_rfl, zis_nil, by decide, by decide, nol_nil, (fun _ _ h => h.bel)⟩
  intro hzk
  refine RW.t (i := 0) (v := .slice (some ⟨b0, o0, none⟩) 1 c) (some 18) at0 (hy := fun _ _ => by kernel_rfl) (h := ?_)
  refine RW.t (i := 1) (v := .pointer (some ⟨b0, o0, none⟩)) (some 19) at1 (hy := fun _ _ => by go_simp) (h := ?_)
  refine RW.t (i := 2) (v := .agg #[.string pp, .int .i64 (pr : Nat)]) (some 20) at2 (hy := fun W hS => by (have k0 := bel_cell hS c_z00; have k1 := bel_cell hS c_z01; clear hS; go_simp)) (h := ?_)
  refine RW.t (i := 3) (v := .pointer (some ⟨bo, 1, none⟩)) (some 21) at3 (hy := fun _ _ => by go_simp) (h := ?_)
  refine RW.t (i := 4) (v := .int .i64 4) (some 22) at4 (hy := fun W hS => by (have k0 := bel_cell hS c_o1; clear hS; go_simp)) (h := ?_)
  refine RW.t (i := 6) (v := .pointer (some ⟨bo, 0, none⟩)) (some 24) at6 (hy := fun _ _ => by go_simp) (h := ?_)
  refine RW.t (i := 7) (v := .string sg) (some 25) at7 (hy := fun W hS => by (have k0 := bel_cell hS c_o0; clear hS; go_simp)) (h := ?_)
  refine RW.t (i := 9) (v := .pointer (some ⟨bx, 2, none⟩)) (some 27) at9 (hy := fun _ _ => by go_simp) (h := ?_)
  refine RW.t (i := 10) (v := .int .i64 (k : Nat)) (some 28) at10 (hy := fun W hS => by (have k0 := bel_cell hS c_n2; clear hS; go_simp)) (h := ?_)
  refine RW.c (i := 5) (args := #[.agg #[.string pp, .int .i64 (pr : Nat)], .int .i64 4]) (some 23) hzk.out at5 (hx := fun _ => by kernel_rfl) (h := fun W S => (hE1.out W).mono ?_)
  rintro e w9 ⟨rfl, hB9⟩
  refine ⟨hB9, _, [], rfl, (fun r hr => by cases hr), ?_⟩
  clear hB9
  refine RW.t (i := 8) (v := .string (E1 ++ sg)) (some 26) at8 (hy := fun _ _ => by (go_simp; try omega)) (h := ?_)
  refine RW.c (i := 11) (args := #[.int .i64 (k : Nat)]) (some 29) hzk.out at11 (hx := fun _ => by kernel_rfl) (h := fun W S => (hI.out W).mono ?_)
  rintro e w9 ⟨rfl, rfl⟩
  refine ⟨Below.refl _ _, _, [], rfl, (fun r hr => by cases hr), ?_⟩
  refine RW.t (i := 12) (v := .string (E1 ++ sg ++ E2)) (some 30) at12 (hy := fun _ _ => by (go_simp; try omega)) (h := ?_)
  refine RW.tail hzk.out (by kernel_rfl) ?_
  intro gs' w5 hgs' hS Sb
  obtain rfl := len0 hgs'
  simp only [mark, fill, Act.put, List.setIfInBounds_toArray, List.set_cons_zero, List.set_cons_succ]
  refine Wk.o (i := 13) at13 (by kernel_rfl) fun K' hK => ?_
  go_simp
  refine hK.out _ _ hS ?_
  clear hK K'
  try simp only [Act.put, List.setIfInBounds_toArray, List.set_cons_zero, List.set_cons_succ]
  refine Wk.done (by kernel_rfl) ?_
  have S5 := Lib.hid ((S1.out.call hS).bel)
  clear Sb hgs' hzk hbase hS S1 c_o0 c_o1 c_o2 c_o3 c_o4 c_o5 c_n0 c_n1 c_n2 c_z00 c_z01
  try go_simp
  go_wp2
  go_ret
  have hrr := hrw.out
  subst hrr
  exact ⟨rfl, S5.out⟩

set_option maxRecDepth 100000 in
set_option maxHeartbeats 4000000 in
theorem join2_any (op : Nat) (h5 : 5 ≤ op) (h9 : op ≤ 9) (p q : F9.Bs × Nat) (hp : p.1.length ≤ 99000) (hq : q.1.length ≤ 99000) (A : Option Addr) (c : Nat) (w : World) (h : LR phC w A 2 [q, p]) (hc : 2 ≤ c) (hO : Og w) : Calls Tryd.prog 35 #[.agg #[.int .i64 (op : Nat), .string (bsA []), .int .i64 0], .slice A 2 c] w fun e w' => e = .returned (.string (bsA (F9.encl p (F9.rul op) ++ F9.sgn op ++ F9.encl q (F9.rul op + 1)))) ∧ Below w.heap.size w w' := by
  have hpl : (bsA p.1).size ≤ 99000 := by rw [bsA_size]; exact hp
  have hql : (bsA q.1).size ≤ 99000 := by rw [bsA_size]; exact hq
  have hE1 : Hid (∀ W, Calls Tryd.prog 54 #[.agg #[.string (bsA p.1), .int .i64 (p.2 : Nat)], .int .i64 (F9.rul op : Nat)] W fun e w' => e = .returned (.string (bsA (F9.encl p (F9.rul op)))) ∧ Below W.heap.size W w') := Lib.hid fun W => by have := enclosed_any (bsA p.1) (p.2 : Nat) (F9.rul op : Nat) W (by omega); rw [enc_bs] at this; exact this
  have hE2 : Hid (∀ W, Calls Tryd.prog 54 #[.agg #[.string (bsA q.1), .int .i64 (q.2 : Nat)], .int .i64 ((F9.rul op : Nat) + 1 : Int)] W fun e w' => e = .returned (.string (bsA (F9.encl q (F9.rul op + 1)))) ∧ Below W.heap.size W w') := Lib.hid fun W => by have := enclosed_any (bsA q.1) (q.2 : Nat) ((F9.rul op + 1 : Nat) : Int) W (by omega); rw [enc_bs] at this; exact this
  have hSp : Hid (∀ W, Calls Tryd.prog 56 #[.agg #[.string (bsA (sgT op)), .int .i64 (F9.rul op : Nat), .int .i64 2, .bool false, .int .i64 0, .int .i64 0]] W fun e w' => e = .returned (.string (bsA (F9.sgn op))) ∧ Below W.heap.size W w') := Lib.hid fun W => by have := spaced_any (bsA (sgT op)) (F9.rul op : Nat) 2 false 0 0 W (by rw [bsA_size]; unfold sgT; split <;> simp); rw [spc_bs h5 h9] at this; exact this
  have hr4 : (F9.rul op : Nat) ≤ 9 := by have := (F9.rul_rng h5 h9).2; omega
  have hx1 : (bsA (F9.encl p (F9.rul op))).size ≤ 99002 := by rw [bsA_size]; unfold F9.encl; split <;> (try simp) <;> omega
  have hx2 : (bsA (F9.encl q (F9.rul op + 1))).size ≤ 99002 := by rw [bsA_size]; unfold F9.encl; split <;> (try simp) <;> omega
  have hx3 : (bsA (F9.sgn op)).size ≤ 3 := by rw [bsA_size]; unfold F9.sgn; split <;> simp
  obtain ⟨rv, hrv⟩ : ∃ r, r = bsA (F9.encl p (F9.rul op) ++ F9.sgn op ++ F9.encl q (F9.rul op + 1)) := ⟨_, rfl⟩
  rw [← hrv]
  rw [← bsA_app, ← bsA_app] at hrv
  generalize bsA (F9.encl p (F9.rul op)) = E1 at *
  generalize bsA (F9.encl q (F9.rul op + 1)) = E2 at *
  generalize bsA (F9.sgn op) = E3 at *
  have e0 : w.cell? ⟨0, op * 6, none⟩ = some (.string (bsA (sgT op))) := og_ent hO (q := op) (by omega) (by omega) (j := 0) rfl
  have e1 : w.cell? ⟨0, op * 6 + 1, none⟩ = some (.int .i64 (F9.rul op : Nat)) := og_ent hO (q := op) (by omega) (by omega) (j := 1) (by show some (Value.int .i64 (if op = 10 then 4 else F9.rul op : Nat)) = _; rw [if_neg (by omega)])
  have e2 : w.cell? ⟨0, op * 6 + 2, none⟩ = some (.int .i64 2) := og_ent hO (q := op) (by omega) (by omega) (j := 2) (by show some (Value.int .i64 (F9.ari op : Nat)) = _; unfold F9.ari; rw [if_pos ⟨h5, h9⟩]; rfl)
  have e3 : w.cell? ⟨0, op * 6 + 3, none⟩ = some (.bool false) := og_ent hO (q := op) (by omega) (by omega) (j := 3) rfl
  have e4 : w.cell? ⟨0, op * 6 + 4, none⟩ = some (.int .i64 0) := og_ent hO (q := op) (by omega) (by omega) (j := 4) (by show some (Value.int .i64 (if op = 10 then 1 else 0 : Nat)) = _; rw [if_neg (by omega)]; rfl)
  have e5 : w.cell? ⟨0, op * 6 + 5, none⟩ = some (.int .i64 0) := og_ent hO (q := op) (by omega) (by omega) (j := 5) (by show some (Value.int .i64 (if op = 10 then 6 else 0 : Nat)) = _; rw [if_neg (by omega)]; rfl)
  have q1 : (op : Int) < 11 := by omega
  have q2 : (0 : Int) ≤ (op : Int) := by omega
  generalize F9.rul op = rl at *
  generalize bsA (sgT op) = sg at *
  obtain ⟨b0, o0, x0, hA0, hl0, _, a00, a01⟩ := ph_get h (i := 0) (by omega)
  obtain rfl : q = x0 := by simpa using hl0
  clear hl0
  obtain ⟨b1, o1, x1, hA1, hl1, _, a10, a11⟩ := ph_get h (i := 1) (by omega)
  obtain rfl : p = x1 := by simpa using hl1
  clear hl1
  obtain ⟨rfl, rfl⟩ : b1 = b0 ∧ o1 = o0 := by rw [hA0] at hA1; simp at hA1; exact ⟨hA1.1.symm, hA1.2.symm⟩
  subst hA0
  clear hA1 h
  have z00 : w.cell? ⟨b1, o1, none⟩ = some (.string (bsA q.1)) := by have := a00; rwa [Nat.zero_mul, Nat.add_zero] at this
  have z01 : w.cell? ⟨b1, o1 + 1, none⟩ = some (.int .i64 (q.2 : Nat)) := by have := a01; rwa [Nat.zero_mul, Nat.add_zero] at this
  have z10 : w.cell? ⟨b1, o1 + 2, none⟩ = some (.string (bsA p.1)) := by have := a10; rwa [Nat.one_mul] at this
  have z11 : w.cell? ⟨b1, o1 + 3, none⟩ = some (.int .i64 (p.2 : Nat)) := by have := a11; rwa [Nat.one_mul] at this
  clear a00 a01 a10 a11
  obtain ⟨pp, hpp⟩ : ∃ z, z = bsA p.1 := ⟨_, rfl⟩
  generalize bsA p.1 = pp at *
  generalize p.2 = pr at *
  generalize bsA q.1 = qq at *
  generalize q.2 = qr at *
  obtain ⟨s0, hs0⟩ : ∃ s, s = bsA [] := ⟨_, rfl⟩
  rw [← hs0]
  have S0 := ((St.new w).allocAt w.heap.size #[.int .i64 (op : Nat), .string s0, .int .i64 0] 53 (noLof rfl) rfl).allocAt (w.heap.size + 1) #[.string sg, .int .i64 (rl : Nat), .int .i64 2, .bool false, .int .i64 0, .int .i64 0] 55 (noLof rfl) (by simp)
  have S1 : St w _ [(w.heap.size + 1, #[.string sg, .int .i64 (rl : Nat), .int .i64 2, .bool false, .int .i64 0, .int .i64 0], 55), (w.heap.size, #[.int .i64 (op : Nat), .string s0, .int .i64 0], 53)] [] := S0
  clear S0
  replace S1 := Lib.hid S1
  have hb := Lib.hid hO
  have hz0 := hO.1
  have hrw := Lib.hid hrv
  clear hrv hO hs0
  go_enter Tryd.func35, Tryd.ntmps35
  go_upto_region 7 with fail
  generalize hW1 : ((w.alloc (.cells #[.int .i64 (op : Nat), .string s0, .int .i64 0] 53)).alloc (.cells #[.string sg, .int .i64 (rl : Nat), .int .i64 2, .bool false, .int .i64 0, .int .i64 0] 55)) = W1 at S1 ⊢
  clear hW1
  clear e0 e1 e2 e3 e4 e5
  obtain ⟨bx, hbx⟩ : ∃ b, b = w.heap.size := ⟨_, rfl⟩
  obtain ⟨bo, hbo⟩ : ∃ b, b = w.heap.size + 1 := ⟨_, rfl⟩
  rw [← hbo, ← hbx] at S1
  rw [← hbo, ← hbx]
  have hbase := Lib.hid (St.new W1)
  have c_o0 := S1.out.cl 0 0 rfl rfl
  have c_o1 := S1.out.cl 0 1 rfl rfl
  have c_o2 := S1.out.cl 0 2 rfl rfl
  have c_o3 := S1.out.cl 0 3 rfl rfl
  have c_o4 := S1.out.cl 0 4 rfl rfl
  have c_o5 := S1.out.cl 0 5 rfl rfl
  have c_n0 := S1.out.cl 1 0 rfl rfl
  have c_n1 := S1.out.cl 1 1 rfl rfl
  have c_n2 := S1.out.cl 1 2 rfl rfl
  have c_z00 := bel_cell S1.out.bel z00
  have c_z01 := bel_cell S1.out.bel z01
  have c_z10 := bel_cell S1.out.bel z10
  have c_z11 := bel_cell S1.out.bel z11
  have hlt0 := S1.out.lt 0 rfl
  have hlt1 := S1.out.lt 1 rfl
  clear hbx hbo hz0 z00 z01 z10 z11
  refine RW.begin (Z := []) (S := (fun W => Below W1.heap.size W1 W)) (by kernel_rfl) ?_ hbase.out ?_
  · exact ⟨by kernel_rfl, zis_nil, by decide, by decide, nol_nil, (fun _ _ h => h.bel)⟩
  intro hzk
  refine RW.t (i := 0) (v := .slice (some ⟨b1, o1, none⟩) 2 c) (some 31) at0 (hy := fun _ _ => by kernel_rfl) (h := ?_)
  refine RW.t (i := 1) (v := .pointer (some ⟨b1, o1 + 2, none⟩)) (some 32) at1 (hy := fun _ _ => by go_simp) (h := ?_)
  refine RW.t (i := 2) (v := .agg #[.string pp, .int .i64 (pr : Nat)]) (some 33) at2 (hy := fun W hS => by (have k0 := bel_cell hS c_z10; have k1 := bel_cell hS c_z11; clear hS; go_simp)) (h := ?_)
  refine RW.t (i := 3) (v := .pointer (some ⟨bo, 1, none⟩)) (some 34) at3 (hy := fun _ _ => by go_simp) (h := ?_)
  refine RW.t (i := 4) (v := .int .i64 (rl : Nat)) (some 35) at4 (hy := fun W hS => by (have k0 := bel_cell hS c_o1; clear hS; go_simp)) (h := ?_)
  refine RW.t (i := 6) (v := .agg #[.string sg, .int .i64 (rl : Nat), .int .i64 2, .bool false, .int .i64 0, .int .i64 0]) (some 37) at6 (hy := fun W hS => by (have k0 := bel_cell hS c_o0; have k1 := bel_cell hS c_o1; have k2 := bel_cell hS c_o2; have k3 := bel_cell hS c_o3; have k4 := bel_cell hS c_o4; have k5 := bel_cell hS c_o5; clear hS; go_simp)) (h := ?_)
  refine RW.t (i := 9) (v := .slice (some ⟨b1, o1, none⟩) 2 c) (some 40) at9 (hy := fun _ _ => by kernel_rfl) (h := ?_)
  refine RW.t (i := 10) (v := .pointer (some ⟨b1, o1, none⟩)) (some 41) at10 (hy := fun _ _ => by go_simp) (h := ?_)
  refine RW.t (i := 11) (v := .agg #[.string qq, .int .i64 (qr : Nat)]) (some 42) at11 (hy := fun W hS => by (have k0 := bel_cell hS c_z00; have k1 := bel_cell hS c_z01; clear hS; go_simp)) (h := ?_)
  refine RW.t (i := 12) (v := .pointer (some ⟨bo, 1, none⟩)) (some 43) at12 (hy := fun _ _ => by go_simp) (h := ?_)
  refine RW.t (i := 13) (v := .int .i64 (rl : Nat)) (some 44) at13 (hy := fun W hS => by (have k0 := bel_cell hS c_o1; clear hS; go_simp)) (h := ?_)
  refine RW.t (i := 14) (v := .int .i64 ((rl : Nat) + 1 : Int)) (some 45) at14 (hy := fun _ _ => by (go_simp; first | done | go_num | (exact wrap64_in _ (by omega)) | (simp [IntKind.wrap, IntKind.bits]; omega))) (h := ?_)
  refine RW.c (i := 5) (args := #[.agg #[.string pp, .int .i64 (pr : Nat)], .int .i64 (rl : Nat)]) (some 36) hzk.out at5 (hx := fun _ => by kernel_rfl) (h := fun W S => (hE1.out W).mono ?_)
  rintro e w9 ⟨rfl, hB9⟩
  refine ⟨hB9, _, [], rfl, (fun r hr => by cases hr), ?_⟩
  clear hB9
  refine RW.c (i := 7) (args := #[.agg #[.string sg, .int .i64 (rl : Nat), .int .i64 2, .bool false, .int .i64 0, .int .i64 0]]) (some 38) hzk.out at7 (hx := fun _ => by kernel_rfl) (h := fun W S => (hSp.out W).mono ?_)
  rintro e w9 ⟨rfl, hB9⟩
  refine ⟨hB9, _, [], rfl, (fun r hr => by cases hr), ?_⟩
  clear hB9
  refine RW.t (i := 8) (v := .string (E1 ++ E3)) (some 39) at8 (hy := fun _ _ => by (go_simp; try omega)) (h := ?_)
  refine RW.c (i := 15) (args := #[.agg #[.string qq, .int .i64 (qr : Nat)], .int .i64 ((rl : Nat) + 1 : Int)]) (some 46) hzk.out at15 (hx := fun _ => by kernel_rfl) (h := fun W S => (hE2.out W).mono ?_)
  rintro e w9 ⟨rfl, hB9⟩
  refine ⟨hB9, _, [], rfl, (fun r hr => by cases hr), ?_⟩
  clear hB9
  refine RW.t (i := 16) (v := .string (E1 ++ E3 ++ E2)) (some 47) at16 (hy := fun _ _ => by (go_simp; try omega)) (h := ?_)
  refine RW.tail hzk.out (by kernel_rfl) ?_
  intro gs' w5 hgs' hS Sb
  obtain rfl := len0 hgs'
  simp only [mark, fill, Act.put, List.setIfInBounds_toArray, List.set_cons_zero, List.set_cons_succ]
  refine Wk.o (i := 17) at17 (by kernel_rfl) fun K' hK => ?_
  go_simp
  refine hK.out _ _ hS ?_
  clear hK K'
  try simp only [Act.put, List.setIfInBounds_toArray, List.set_cons_zero, List.set_cons_succ]
  refine Wk.done (by kernel_rfl) ?_
  have S5 := Lib.hid ((S1.out.call hS).bel)
  clear Sb hgs' hzk hbase hS S1 c_o0 c_o1 c_o2 c_o3 c_o4 c_o5 c_n0 c_n1 c_n2 c_z00 c_z01 c_z10 c_z11
  try go_simp
  go_wp2
  go_ret
  have hrr := hrw.out
  subst hrr
  exact ⟨rfl, S5.out⟩
end Go.Proofs.YtjebpmjbdchdlaaDoor
namespace Go.Proofs.YtjebpmjbdchdlaaDoor
open Go.RowKit
set_option linter.unusedVariables false

theorem og_leaf {W : World} (h : Og W) {q : Nat} (h1 : 1 ≤ q) (h2 : q ≤ 4) : ∃ (s : ByteArray) (b : Bool) (lo hi : Int), W.cell? ⟨0, q * 6, none⟩ = some (.string s) ∧ W.cell? ⟨0, q * 6 + 1, none⟩ = some (.int .i64 5) ∧ W.cell? ⟨0, q * 6 + 2, none⟩ = some (.int .i64 0) ∧ W.cell? ⟨0, q * 6 + 3, none⟩ = some (.bool b) ∧ W.cell? ⟨0, q * 6 + 4, none⟩ = some (.int .i64 lo) ∧ W.cell? ⟨0, q * 6 + 5, none⟩ = some (.int .i64 hi) := by
  have hc : q = 1 ∨ q = 2 ∨ q = 3 ∨ q = 4 := by omega
  rcases hc with rfl | rfl | rfl | rfl
  all_goals exact ⟨_, _, _, _, h.2 _ _ rfl, h.2 _ _ rfl, h.2 _ _ rfl, h.2 _ _ rfl, h.2 _ _ rfl, h.2 _ _ rfl⟩
theorem lf_op {x : F9.Nd} (h : F9.lfN x) : 1 ≤ x.op ∧ x.op ≤ 4 := by
  rcases h with h | h | h
  · rw [h.1]; decide
  · rw [h.1]; decide
  · rcases h.1 with h | h <;> rw [h] <;> decide

set_option maxRecDepth 100000 in
set_option maxHeartbeats 4000000 in
theorem join0_any (x : F9.Nd) (w : World) (hx : F9.lfN x) (hs : x.nm.length ≤ 10000) (A : Option Addr) (n c : Nat) (hO : Og w) : Calls Tryd.prog 35 #[.agg #[.int .i64 (x.op : Nat), .string (bsA x.nm), .int .i64 (x.k : Nat)], .slice A n c] w fun e w' => e = .returned (.string (bsA (F9.lfW x))) ∧ Below w.heap.size w w' := by
  have hL : Hid (∀ W, Og W → Calls Tryd.prog 53 #[.agg #[.int .i64 (x.op : Nat), .string (bsA x.nm), .int .i64 (x.k : Nat)]] W fun e w' => e = .returned (.string (bsA (F9.lfW x))) ∧ Below W.heap.size W w') := Lib.hid fun W h => leaf_any x W hx hs h
  obtain ⟨o1, o2⟩ := lf_op hx
  obtain ⟨sg, b, lo, hi, e0, e1, e2, e3, e4, e5⟩ := og_leaf hO o1 o2
  generalize bsA (F9.lfW x) = rv at *
  generalize bsA x.nm = s0 at *
  generalize x.k = k at *
  generalize x.op = op at *
  have q1 : (op : Int) < 11 := by omega
  have q2 : (0 : Int) ≤ (op : Int) := by omega
  have S1 := Lib.hid (((St.new w).allocAt w.heap.size #[.int .i64 (op : Nat), .string s0, .int .i64 (k : Nat)] 53 (noLof rfl) rfl).allocAt (w.heap.size + 1) #[.string sg, .int .i64 5, .int .i64 0, .bool b, .int .i64 lo, .int .i64 hi] 55 (noLof rfl) (by simp))
  have hb := Lib.hid hO
  have hz0 := hO.1
  clear hO hx hs
  go_enter Tryd.func35, Tryd.ntmps35
  go_wp2_with fail
  refine (hL.out _ (hb.out.bel S1.out.bel)).mono ?_
  rintro e w9 ⟨rfl, hB⟩
  have hB2 := Lib.hid (S1.out.bel.trans (hB.mono S1.out.bel.size))
  clear hB S1 hL hb e0 e1 e2 e3 e4 e5
  go_wp2
  go_ret
  exact ⟨rfl, hB2.out⟩

/-- The text of a node with these operands, and its rule. -/
def jnT (x : F9.Nd) (M : List (F9.Bs × Nat)) : F9.Bs :=
  if 5 ≤ x.op ∧ x.op ≤ 9 then F9.encl (M.getD 1 ([], 0)) (F9.rul x.op) ++ F9.sgn x.op ++ F9.encl (M.getD 0 ([], 0)) (F9.rul x.op + 1)
  else if x.op = 10 then F9.encl (M.getD 0 ([], 0)) 4 ++ [94] ++ F9.dg x.k else F9.lfW x
def rlT (x : F9.Nd) : Nat := if 5 ≤ x.op ∧ x.op ≤ 9 then F9.rul x.op else if x.op = 10 then 4 else 5
theorem ph1_eq (x : F9.Nd) (L : List (F9.Bs × Nat)) : F9.ph1 x L = L.take (L.length - F9.ari x.op) ++ [(jnT x (L.drop (L.length - F9.ari x.op)), rlT x)] := by
  unfold F9.ph1 jnT rlT F9.ari
  by_cases h1 : 5 ≤ x.op ∧ x.op ≤ 9
  · simp only [if_pos h1]
  · simp only [if_neg h1]
    by_cases h2 : x.op = 10
    · simp only [if_pos h2]
    · simp only [if_neg h2, Nat.sub_zero, List.take_length]
theorem join_any (x : F9.Nd) (hx : F9.okN x) (hs : x.nm.length ≤ 10000) (M : List (F9.Bs × Nat)) (hM : M.length = F9.ari x.op) (hp : ∀ p ∈ M, p.1.length ≤ 99000) (A : Option Addr) (c : Nat) (w : World) (h : LR phC w A (F9.ari x.op) M) (hc : F9.ari x.op ≤ c) (hO : Og w) : Calls Tryd.prog 35 #[.agg #[.int .i64 (x.op : Nat), .string (bsA x.nm), .int .i64 (x.k : Nat)], .slice A (F9.ari x.op : Nat) c] w fun e w' => e = .returned (.string (bsA (jnT x M))) ∧ Below w.heap.size w w' := by
  rcases hx with hx | ⟨h1, h2, h3, h4⟩ | ⟨h1, h2, h3, h4⟩
  · have := lf_op hx
    have e : jnT x M = F9.lfW x := by unfold jnT; rw [if_neg (by omega), if_neg (by omega)]
    rw [e]
    exact join0_any x w hx hs A _ c hO
  · obtain ⟨op, nm, k⟩ := x
    simp only at h1 h2 h3 h4
    subst h1; subst h2
    obtain ⟨p, rfl⟩ : ∃ p, M = [p] := List.length_eq_one_iff.1 hM
    exact join1_any k h3 h4 p (hp p (List.mem_singleton.2 rfl)) A c w h hc hO
  · obtain ⟨op, nm, k⟩ := x
    simp only at h1 h2 h3 h4
    subst h3; subst h4
    have e : F9.ari op = 2 := by unfold F9.ari; rw [if_pos ⟨h1, h2⟩]
    simp only [e] at hM h hc ⊢
    obtain ⟨q, p, rfl⟩ : ∃ q p, M = [q, p] := by match M, hM with | [q, p], _ => exact ⟨q, p, rfl⟩
    have e2 : jnT ⟨op, [], 0⟩ [q, p] = F9.encl p (F9.rul op) ++ F9.sgn op ++ F9.encl q (F9.rul op + 1) := by unfold jnT; rw [if_pos ⟨h1, h2⟩]; rfl
    rw [e2]
    exact join2_any op h1 h2 p q (hp p (by simp)) (hp q (by simp)) A c w h hc hO
end Go.Proofs.YtjebpmjbdchdlaaDoor
