/- The law RationalIsAField. -/
import Derived.Test.YtgpgpkkgpedifaaGreatDoorUb
import Derived.Test.YtgpgpkkgpedifaaGreatDoorTl
namespace Go.Proofs.YtgpgpkkgpedifaaGreatDoor
open Go.RowKit RQ
theorem mul_div_back (x y : Rat) (h : y ≠ 0) : x * y / y = x := by
  rw [Rat.div_def, Rat.mul_assoc, Rat.mul_inv_cancel y h, Rat.mul_one]
theorem sub_self_sign (x : Rat) : (x - x).num.sign = 0 := by rw [Rat.sub_self]; rfl
theorem signZ (x : Rat) (A : Option Addr) (n c : Nat) (D : Option Addr) (m d : Nat) (W : World) (h : RR W A n c D m d (x - x)) (hs : Rs (x - x) 200) : Calls Tryz.prog 15 #[.agg #[.bool (ng (x - x).num), .slice A n c, .slice D m d]] W (fun e w' => e = .returned (.int .i64 0) ∧ Below W.heap.size W w') := by
  have := signQ (x - x) A n c D m d W h hs
  rwa [sub_self_sign] at this

set_option maxRecDepth 100000 in
set_option maxHeartbeats 16000000 in
theorem law_field (b : Bool) (A : Option Addr) (n c : Nat) (xs : List Nat) (D : Option Addr) (m d : Nat) (ds : List Nat) (b' : Bool) (A' : Option Addr) (n' c' : Nat) (ys : List Nat) (D' : Option Addr) (m' d' : Nat) (es : List Nat) (b'' : Bool) (A'' : Option Addr) (n'' c'' : Nat) (zs : List Nat) (D'' : Option Addr) (m'' d'' : Nat) (fs : List Nat) (w : World) (R1 : Rd w A n c xs) (m1 : n ≤ 9223372036854775807) (R2 : Rd w D m d ds) (m2 : m ≤ 9223372036854775807) (R3 : Rd w A' n' c' ys) (m3 : n' ≤ 9223372036854775807) (R4 : Rd w D' m' d' es) (m4 : m' ≤ 9223372036854775807) (R5 : Rd w A'' n'' c'' zs) (m5 : n'' ≤ 9223372036854775807) (R6 : Rd w D'' m'' d'' fs) (m6 : m'' ≤ 9223372036854775807) (htab : Tab w) : Calls Tryz.prog 5 #[.agg #[.bool b, .slice A n c, .slice D m d], .agg #[.bool b', .slice A' n' c', .slice D' m' d'], .agg #[.bool b'', .slice A'' n'' c'', .slice D'' m'' d'']] w fun e w' => e = .returned (.bool true) ∧ Below w.heap.size w w' := by
  have hA := Lib.hid (fun W t => awakeR_any W t)
  replace htab := Lib.hid htab
  have hFa : Hid (∀ W, Rd W A n c xs → Rd W D m d ds → Rd W A' n' c' ys → Rd W D' m' d' es → Rd W A'' n'' c'' zs → Rd W D'' m'' d'' fs → Calls Tryz.prog 18 #[.agg #[.bool b, .slice A n c, .slice D m d], .agg #[.bool b', .slice A' n' c', .slice D' m' d'], .agg #[.bool b'', .slice A'' n'' c'', .slice D'' m'' d'']] W fun e w' => e = .returned (.bool (fairR n m n' m' n'' m'' (vldR b xs ds) (vldR b' ys es) (vldR b'' zs fs))) ∧ Below W.heap.size W w') := Lib.hid fun W q1 q2 q3 q4 q5 q6 => fair_any _ _ _ _ _ _ _ _ _ _ _ _ _ _ _ _ _ _ _ _ _ _ _ _ _ _ _ W q1 m1 q2 m2 q3 m3 q4 m4 q5 m5 q6 m6
  have S : St w _ [(w.heap.size + 1 + 1, #[.bool b'', .slice A'' n'' c'', .slice D'' m'' d''], 26), (w.heap.size + 1, #[.bool b', .slice A' n' c', .slice D' m' d'], 26), (w.heap.size, #[.bool b, .slice A n c, .slice D m d], 26)] [(D'', m'', d'', fs), (A'', n'', c'', zs), (D', m', d', es), (A', n', c', ys), (D, m, d, ds), (A, n, c, xs)] := ((((((((((St.new w).read R1).read R2).read R3).read R4).read R5).read R6).allocAt (w.heap.size) #[.bool b, .slice A n c, .slice D m d] 26 (noL3 _ _ _ _ _ _ _) (by simp)).allocAt (w.heap.size + 1) #[.bool b', .slice A' n' c', .slice D' m' d'] 26 (noL3 _ _ _ _ _ _ _) (by simp)).allocAt (w.heap.size + 1 + 1) #[.bool b'', .slice A'' n'' c'', .slice D'' m'' d''] 26 (noL3 _ _ _ _ _ _ _) (by simp))
  replace S := Lib.hid S
  cases hfr : fairR n m n' m' n'' m'' (vldR b xs ds) (vldR b' ys es) (vldR b'' zs fs)
  · rw [hfr] at hFa
    clear hfr R1 R2 R3 R4 R5 R6 m1 m2 m3 m4 m5 m6
    go_enter Tryz.func5, Tryz.ntmps5
    go_wp2_with fail
    refine (hFa.out _ (S.out.r 5 rfl) (S.out.r 4 rfl) (S.out.r 3 rfl) (S.out.r 2 rfl) (S.out.r 1 rfl) (S.out.r 0 rfl)).mono ?_
    rintro e w1 ⟨rfl, bb⟩
    have T := (S.out.call bb)
    clear bb S
    have S := T
    clear T
    have c_z0 := S.cl 0 0 rfl rfl
    have c_z1 := S.cl 0 1 rfl rfl
    have c_z2 := S.cl 0 2 rfl rfl
    have c_y0 := S.cl 1 0 rfl rfl
    have c_y1 := S.cl 1 1 rfl rfl
    have c_y2 := S.cl 1 2 rfl rfl
    have c_x0 := S.cl 2 0 rfl rfl
    have c_x1 := S.cl 2 1 rfl rfl
    have c_x2 := S.cl 2 2 rfl rfl
    have hz : w.heap.size + 1 + 1 < w1.heap.size := S.lt 0 rfl
    replace S := Lib.hid S
    clear hFa
    go_wp2_with fail
    refine (hA.out _ (tab_below htab.out S.out.bel)).mono ?_
    rintro e w2 ⟨rfl, bb⟩
    have T := (S.out.call bb)
    clear bb S c_z0 c_z1 c_z2 c_y0 c_y1 c_y2 c_x0 c_x1 c_x2 hz
    have S := T
    clear T
    have c_z0 := S.cl 0 0 rfl rfl
    have c_z1 := S.cl 0 1 rfl rfl
    have c_z2 := S.cl 0 2 rfl rfl
    have c_y0 := S.cl 1 0 rfl rfl
    have c_y1 := S.cl 1 1 rfl rfl
    have c_y2 := S.cl 1 2 rfl rfl
    have c_x0 := S.cl 2 0 rfl rfl
    have c_x1 := S.cl 2 1 rfl rfl
    have c_x2 := S.cl 2 2 rfl rfl
    have hz : w.heap.size + 1 + 1 < w2.heap.size := S.lt 0 rfl
    replace S := Lib.hid S
    have S : St w _ [(w.heap.size + 1 + 1, #[.bool b'', .slice A'' n'' c'', .slice D'' m'' d''], 26), (w.heap.size + 1, #[.bool b', .slice A' n' c', .slice D' m' d'], 26), (w.heap.size, #[.bool b, .slice A n c, .slice D m d], 26)] [(D'', m'', d'', fs), (A'', n'', c'', zs), (D', m', d', es), (A', n', c', ys), (D, m, d, ds), (A, n, c, xs)] := S.out
    replace S := Lib.hid S
    go_wp2
    go_ret
    exact ⟨rfl, S.out.bel⟩
  rw [hfr] at hFa
  have hli : n ≤ 8 ∧ n' ≤ 8 ∧ n'' ≤ 8 := by
    have hf := hfr
    unfold fairR lightB at hf
    simp only [Bool.and_eq_true, decide_eq_true_eq] at hf
    omega
  obtain ⟨u1, u2, u3⟩ := hli
  have ws1 : IntKind.i64.wrap ((n : Int) + (n' : Int)) = (n : Int) + (n' : Int) := IntWalk.i64_in _ (by omega)
  have ws2 : IntKind.i64.wrap ((n : Int) + (n' : Int) + (n'' : Int)) = (n : Int) + (n' : Int) + (n'' : Int) := IntWalk.i64_in _ (by omega)
  by_cases hg : (9 : Int) < (n : Int) + (n' : Int) + (n'' : Int)
  · have hg' : decide ((9 : Int) < (n : Int) + (n' : Int) + (n'' : Int)) = true := decide_eq_true hg
    clear hg hfr R1 R2 R3 R4 R5 R6 m1 m2 m3 m4 m5 m6 u1 u2 u3
    go_enter Tryz.func5, Tryz.ntmps5
    go_wp2_with fail
    refine (hFa.out _ (S.out.r 5 rfl) (S.out.r 4 rfl) (S.out.r 3 rfl) (S.out.r 2 rfl) (S.out.r 1 rfl) (S.out.r 0 rfl)).mono ?_
    rintro e w1 ⟨rfl, bb⟩
    have T := (S.out.call bb)
    clear bb S
    have S := T
    clear T
    have c_z0 := S.cl 0 0 rfl rfl
    have c_z1 := S.cl 0 1 rfl rfl
    have c_z2 := S.cl 0 2 rfl rfl
    have c_y0 := S.cl 1 0 rfl rfl
    have c_y1 := S.cl 1 1 rfl rfl
    have c_y2 := S.cl 1 2 rfl rfl
    have c_x0 := S.cl 2 0 rfl rfl
    have c_x1 := S.cl 2 1 rfl rfl
    have c_x2 := S.cl 2 2 rfl rfl
    have hz : w.heap.size + 1 + 1 < w1.heap.size := S.lt 0 rfl
    replace S := Lib.hid S
    clear hFa
    go_wp2_with fail
    refine (hA.out _ (tab_below htab.out S.out.bel)).mono ?_
    rintro e w2 ⟨rfl, bb⟩
    have T := (S.out.call bb)
    clear bb S c_z0 c_z1 c_z2 c_y0 c_y1 c_y2 c_x0 c_x1 c_x2 hz
    have S := T
    clear T
    have c_z0 := S.cl 0 0 rfl rfl
    have c_z1 := S.cl 0 1 rfl rfl
    have c_z2 := S.cl 0 2 rfl rfl
    have c_y0 := S.cl 1 0 rfl rfl
    have c_y1 := S.cl 1 1 rfl rfl
    have c_y2 := S.cl 1 2 rfl rfl
    have c_x0 := S.cl 2 0 rfl rfl
    have c_x1 := S.cl 2 1 rfl rfl
    have c_x2 := S.cl 2 2 rfl rfl
    have hz : w.heap.size + 1 + 1 < w2.heap.size := S.lt 0 rfl
    replace S := Lib.hid S
    have S : St w _ [(w.heap.size + 1 + 1, #[.bool b'', .slice A'' n'' c'', .slice D'' m'' d''], 26), (w.heap.size + 1, #[.bool b', .slice A' n' c', .slice D' m' d'], 26), (w.heap.size, #[.bool b, .slice A n c, .slice D m d], 26)] [(D'', m'', d'', fs), (A'', n'', c'', zs), (D', m', d', es), (A', n', c', ys), (D, m, d, ds), (A, n, c, xs)] := S.out
    replace S := Lib.hid S
    go_wp2
    go_ret
    exact ⟨rfl, S.out.bel⟩
  have hg' : decide ((9 : Int) < (n : Int) + (n' : Int) + (n'' : Int)) = false := decide_eq_false hg
  clear hg u1 u2 u3
  have hf : fairR n m n' m' n'' m'' (vldR b xs ds) (vldR b' ys es) (vldR b'' zs fs) = true := hfr
  unfold fairR at hf
  simp only [Bool.and_eq_true] at hf
  obtain ⟨l1, l2, l3, v1, v2, v3⟩ := hf
  have X := RR.of R1 R2 v1
  have Y := RR.of R3 R4 v2
  have Z := RR.of R5 R6 v3
  have x8 := rs_light R1 R2 l1 (b := b)
  have y8 := rs_light R3 R4 l2 (b := b')
  have z8 := rs_light R5 R6 l3 (b := b'')
  obtain ⟨e1, e2, e3⟩ := canonR R1.sm R2.sm v1
  obtain ⟨e4, e5, e6⟩ := canonR R3.sm R4.sm v2
  obtain ⟨e7, e8, e9⟩ := canonR R5.sm R6.sm v3
  generalize rv b xs ds = x at *
  generalize rv b' ys es = y at *
  generalize rv b'' zs fs = z at *
  subst e1; subst e2; subst e3; subst e4; subst e5; subst e6; subst e7; subst e8; subst e9
  clear hfr l1 l2 l3 v1 v2 v3 R1 R2 R3 R4 R5 R6 m1 m2 m3 m4 m5 m6 X Y Z
  replace x8 := Lib.hid x8
  replace y8 := Lib.hid y8
  replace z8 := Lib.hid z8
  go_enter Tryz.func5, Tryz.ntmps5
  go_wp2_with fail
  refine (hFa.out _ (S.out.r 5 rfl) (S.out.r 4 rfl) (S.out.r 3 rfl) (S.out.r 2 rfl) (S.out.r 1 rfl) (S.out.r 0 rfl)).mono ?_
  rintro e w1 ⟨rfl, bb⟩
  have T := (S.out.call bb)
  clear bb S
  have S := T
  clear T
  have c_z0 := S.cl 0 0 rfl rfl
  have c_z1 := S.cl 0 1 rfl rfl
  have c_z2 := S.cl 0 2 rfl rfl
  have c_y0 := S.cl 1 0 rfl rfl
  have c_y1 := S.cl 1 1 rfl rfl
  have c_y2 := S.cl 1 2 rfl rfl
  have c_x0 := S.cl 2 0 rfl rfl
  have c_x1 := S.cl 2 1 rfl rfl
  have c_x2 := S.cl 2 2 rfl rfl
  have hz : w.heap.size + 1 + 1 < w1.heap.size := S.lt 0 rfl
  replace S := Lib.hid S
  clear hFa
  obtain ⟨hq8⟩ : Nonempty (Hid (Rs (x * y / y) 60)) := ⟨Lib.hid (by rw [div_eq]; exact ((x8.out.mul y8.out).mul (y8.out.inv (by decide))).mono (by decide))⟩
  go_upto_region 3 with fail
  clear c_z0 c_z1 c_z2 c_y0 c_y1 c_y2 c_x0 c_x1 c_x2 hz
  refine RW.begin (Z := [⟨8, 7, #[.bool false, .slice none 0 0, .slice none 0 0], 26⟩]) (S := (fun W => Cb W (w.heap.size) #[.bool (ng x.num), .slice A n c, .slice D m d] 26 ∧ Cb W (w.heap.size + 1) #[.bool (ng y.num), .slice A' n' c', .slice D' m' d'] 26)) (by kernel_rfl) ?_ S.out ?_
  · exact ⟨by kernel_rfl, (zis_cons at8 (fun _ _ => by kernel_rfl) zis_nil), by decide, by decide, (nol_cons (noL3 _ _ _ _ _ _ _) nol_nil), (fun _ _ h => ⟨h.kb 2 rfl, h.kb 1 rfl⟩)⟩
  intro hzk
  clear S
  refine RW.t (i := 0) (v := .agg #[.bool (ng x.num), .slice A n c, .slice D m d]) (some 33) at0 (hy := fun W hS => by (have k0 := Cb.cell (i := 0) hS.1 rfl; have k1 := Cb.cell (i := 1) hS.1 rfl; have k2 := Cb.cell (i := 2) hS.1 rfl; clear hS; go_simp)) (h := ?_)
  refine RW.t (i := 1) (v := .agg #[.bool (ng y.num), .slice A' n' c', .slice D' m' d']) (some 34) at1 (hy := fun W hS => by (have k0 := Cb.cell (i := 0) hS.2 rfl; have k1 := Cb.cell (i := 1) hS.2 rfl; have k2 := Cb.cell (i := 2) hS.2 rfl; clear hS; go_simp)) (h := ?_)
  refine RW.t (i := 3) (v := .agg #[.bool (ng y.num), .slice A' n' c', .slice D' m' d']) (some 36) at3 (hy := fun W hS => by (have k0 := Cb.cell (i := 0) hS.2 rfl; have k1 := Cb.cell (i := 1) hS.2 rfl; have k2 := Cb.cell (i := 2) hS.2 rfl; clear hS; go_simp)) (h := ?_)
  refine RW.c (i := 2) (args := #[.agg #[.bool (ng x.num), .slice A n c, .slice D m d], .agg #[.bool (ng y.num), .slice A' n' c', .slice D' m' d']]) (some 35) hzk.out at2 (hx := fun _ => by kernel_rfl) (h := fun _ S => (mulQ x y _ _ _ _ _ _ _ _ _ _ _ _ _ ⟨S.r 5 rfl, S.r 4 rfl⟩ ⟨S.r 3 rfl, S.r 2 rfl⟩ (x8.out.mono (by decide)) (y8.out.mono (by decide))).mono ?_)
  rintro e w2 ⟨A1, n1, c1, D1, m1, d1, rfl, Q1, bb⟩
  refine ⟨bb, _, [(D1, m1, d1, dn (x * y)), (A1, n1, c1, limbs (x * y).num.natAbs)], rfl, (rd_cons Q1.d (rd_cons Q1.n rd_nil)), ?_⟩
  clear bb S Q1
  refine RW.c (i := 4) (args := #[.agg #[.bool (ng (x * y).num), .slice A1 n1 c1, .slice D1 m1 d1], .agg #[.bool (ng y.num), .slice A' n' c', .slice D' m' d']]) (some 37) hzk.out at4 (hx := fun _ => by kernel_rfl) (h := fun _ S => (divQ (x * y) y _ _ _ _ _ _ _ _ _ _ _ _ _ ⟨S.r 1 rfl, S.r 0 rfl⟩ ⟨S.r 5 rfl, S.r 4 rfl⟩ ((x8.out.mul y8.out).mono (by decide)) (y8.out.mono (by decide))).mono ?_)
  rintro e w3 ⟨A2, n2, c2, D2, m2, d2, rfl, Q2, bb⟩
  refine ⟨bb, _, [(D2, m2, d2, dn (x * y / y)), (A2, n2, c2, limbs (x * y / y).num.natAbs)], rfl, (rd_cons Q2.d (rd_cons Q2.n rd_nil)), ?_⟩
  clear bb S Q2
  refine RW.t (i := 5) (v := .tuple #[(.agg #[.bool (ng (x * y / y).num), .slice A2 n2 c2, .slice D2 m2 d2]), (.int .i64 (dvE y))]) (some 32) at5 (hy := fun _ _ => by kernel_rfl) (h := ?_)
  refine RW.t (i := 6) (v := .agg #[.bool (ng (x * y / y).num), .slice A2 n2 c2, .slice D2 m2 d2]) (some 38) at6 (hy := fun _ _ => by kernel_rfl) (h := ?_)
  refine RW.t (i := 7) (v := .int .i64 (dvE y)) (some 39) at7 (hy := fun _ _ => by kernel_rfl) (h := ?_)
  refine RW.tail hzk.out (by kernel_rfl) ?_
  intro gs w4 hgs hS S
  obtain ⟨g_q, rfl⟩ := len1' hgs
  clear hS hgs hzk
  simp only [mark, fill, List.map, Act.put, List.setIfInBounds_toArray, List.set_cons_zero, List.set_cons_succ]
  replace S := Lib.hid S
  refine Wk.o (i := 9) at9 (by kernel_rfl) fun K' hK => ?_
  have q9_q0 := St.cl (S.out) 0 0 rfl rfl
  have q9_q1 := St.cl (S.out) 0 1 rfl rfl
  have q9_q2 := St.cl (S.out) 0 2 rfl rfl
  have q9z_q0 := St.f (S.out) 0 0 rfl
  have q9z_q1 := St.f (S.out) 0 1 rfl
  have q9z_q2 := St.f (S.out) 0 2 rfl
  go_simp
  have SN := (((S.out.set 0 0 (.bool (ng (x * y / y).num)) rfl (by nofun)).set 0 1 (.slice A2 n2 c2) rfl (by nofun)).set 0 2 (.slice D2 m2 d2) rfl (by nofun))
  clear S q9_q0 q9_q1 q9_q2 q9z_q0 q9z_q1 q9z_q2
  have S := SN
  clear SN
  refine hK.out _ _ ⟨(S.cb 3 rfl), (S.cb 2 rfl)⟩ ?_
  clear hK K'
  replace S := Lib.hid S
  try simp only [Act.put, List.setIfInBounds_toArray, List.set_cons_zero, List.set_cons_succ]
  refine Wk.o (i := 10) at10 (by kernel_rfl) fun K' hK => ?_
  go_simp
  have SN := S.out
  clear S
  have S := SN
  clear SN
  refine hK.out _ _ ⟨(S.cb 3 rfl), (S.cb 2 rfl)⟩ ?_
  clear hK K'
  replace S := Lib.hid S
  try simp only [Act.put, List.setIfInBounds_toArray, List.set_cons_zero, List.set_cons_succ]
  refine Wk.done (by kernel_rfl) ?_
  go_simp
  replace S := S.out
  have S : St w _ [(g_q, #[.bool (ng (x * y / y).num), .slice A2 n2 c2, .slice D2 m2 d2], 26), (w.heap.size + 1 + 1, #[.bool (ng z.num), .slice A'' n'' c'', .slice D'' m'' d''], 26), (w.heap.size + 1, #[.bool (ng y.num), .slice A' n' c', .slice D' m' d'], 26), (w.heap.size, #[.bool (ng x.num), .slice A n c, .slice D m d], 26)] [(D2, m2, d2, dn (x * y / y)), (A2, n2, c2, limbs (x * y / y).num.natAbs), (D1, m1, d1, dn (x * y)), (A1, n1, c1, limbs (x * y).num.natAbs), (D'', m'', d'', dn z), (A'', n'', c'', limbs z.num.natAbs), (D', m', d', dn y), (A', n', c', limbs y.num.natAbs), (D, m, d, dn x), (A, n, c, limbs x.num.natAbs)] := S
  generalize hW5 : (World.setCell (World.setCell (World.setCell w4 ⟨g_q, 0, none⟩ (.bool (ng (x * y / y).num))) ⟨g_q, 1, none⟩ (.slice A2 n2 c2)) ⟨g_q, 2, none⟩ (.slice D2 m2 d2)) = w5 at S ⊢
  clear hW5
  replace S := Lib.hid S
  replace S := S.out
  have c_q0 := S.cl 0 0 rfl rfl
  have c_q1 := S.cl 0 1 rfl rfl
  have c_q2 := S.cl 0 2 rfl rfl
  have c_z0 := S.cl 1 0 rfl rfl
  have c_z1 := S.cl 1 1 rfl rfl
  have c_z2 := S.cl 1 2 rfl rfl
  have c_y0 := S.cl 2 0 rfl rfl
  have c_y1 := S.cl 2 1 rfl rfl
  have c_y2 := S.cl 2 2 rfl rfl
  have c_x0 := S.cl 3 0 rfl rfl
  have c_x1 := S.cl 3 1 rfl rfl
  have c_x2 := S.cl 3 2 rfl rfl
  have hz : g_q < w5.heap.size := S.lt 0 rfl
  replace S := Lib.hid S
  go_upto_region 4 with fail
  go_cut [52] (fun sv wx => sv = .bool false ∧ St w wx [(g_q, #[.bool (ng (x * y / y).num), .slice A2 n2 c2, .slice D2 m2 d2], 26), (w.heap.size + 1 + 1, #[.bool (ng z.num), .slice A'' n'' c'', .slice D'' m'' d''], 26), (w.heap.size + 1, #[.bool (ng y.num), .slice A' n' c', .slice D' m' d'], 26), (w.heap.size, #[.bool (ng x.num), .slice A n c, .slice D m d], 26)] [(D2, m2, d2, dn (x * y / y)), (A2, n2, c2, limbs (x * y / y).num.natAbs), (D1, m1, d1, dn (x * y)), (A1, n1, c1, limbs (x * y).num.natAbs), (D'', m'', d'', dn z), (A'', n'', c'', limbs z.num.natAbs), (D', m', d', dn y), (A', n', c', limbs y.num.natAbs), (D, m, d, dn x), (A, n, c, limbs x.num.natAbs)])
  case first =>
    have hSg := Lib.hid (fun A n c D m d W h => rsignQ y A n c D m d W h (y8.out.mono (by decide)))
    by_cases g1 : y = 0
    · have e0 : y.num.sign = 0 := by rw [g1]; rfl
      rw [e0] at hSg
      clear e0 g1
      go_wp2_with fail
      refine (hSg.out _ _ _ _ _ _ _ ⟨S.out.r 7 rfl, S.out.r 6 rfl⟩).mono ?_
      rintro e w6 ⟨rfl, bb⟩
      have T := (S.out.call bb)
      clear bb S c_q0 c_q1 c_q2 c_z0 c_z1 c_z2 c_y0 c_y1 c_y2 c_x0 c_x1 c_x2 hz
      have S := T
      clear T
      have c_q0 := S.cl 0 0 rfl rfl
      have c_q1 := S.cl 0 1 rfl rfl
      have c_q2 := S.cl 0 2 rfl rfl
      have c_z0 := S.cl 1 0 rfl rfl
      have c_z1 := S.cl 1 1 rfl rfl
      have c_z2 := S.cl 1 2 rfl rfl
      have c_y0 := S.cl 2 0 rfl rfl
      have c_y1 := S.cl 2 1 rfl rfl
      have c_y2 := S.cl 2 2 rfl rfl
      have c_x0 := S.cl 3 0 rfl rfl
      have c_x1 := S.cl 3 1 rfl rfl
      have c_x2 := S.cl 3 2 rfl rfl
      have hz : g_q < w6.heap.size := S.lt 0 rfl
      replace S := Lib.hid S
      go_wp2_with fail
      go_meet
      exact ⟨rfl, S.out⟩
    · have e0 : (y.num.sign != 0) = true := by rw [bne_iff_ne]; intro h; exact g1 (Rat.num_eq_zero.1 (Int.sign_eq_zero_iff_zero.1 h))
      have e1 : (dvE y != 0) = false := by rw [show dvE y = 0 from if_neg g1]; rfl
      have hSm := Lib.hid (fun A n c D m d A' n' c' D' m' d' w X Y => sameT (x * y / y) x (mul_div_back x y g1) A n c D m d A' n' c' D' m' d' w X Y (hq8.out.mono (by decide)) (x8.out.mono (by decide)))
      generalize y.num.sign = sy at *
      clear g1
      go_wp2_with fail
      refine (hSg.out _ _ _ _ _ _ _ ⟨S.out.r 7 rfl, S.out.r 6 rfl⟩).mono ?_
      rintro e w6 ⟨rfl, bb⟩
      have T := (S.out.call bb)
      clear bb S c_q0 c_q1 c_q2 c_z0 c_z1 c_z2 c_y0 c_y1 c_y2 c_x0 c_x1 c_x2 hz
      have S := T
      clear T
      have c_q0 := S.cl 0 0 rfl rfl
      have c_q1 := S.cl 0 1 rfl rfl
      have c_q2 := S.cl 0 2 rfl rfl
      have c_z0 := S.cl 1 0 rfl rfl
      have c_z1 := S.cl 1 1 rfl rfl
      have c_z2 := S.cl 1 2 rfl rfl
      have c_y0 := S.cl 2 0 rfl rfl
      have c_y1 := S.cl 2 1 rfl rfl
      have c_y2 := S.cl 2 2 rfl rfl
      have c_x0 := S.cl 3 0 rfl rfl
      have c_x1 := S.cl 3 1 rfl rfl
      have c_x2 := S.cl 3 2 rfl rfl
      have hz : g_q < w6.heap.size := S.lt 0 rfl
      replace S := Lib.hid S
      go_wp2_with fail
      refine (hSm.out _ _ _ _ _ _ _ _ _ _ _ _ _ ⟨S.out.r 1 rfl, S.out.r 0 rfl⟩ ⟨S.out.r 9 rfl, S.out.r 8 rfl⟩).mono ?_
      rintro e w7 ⟨rfl, bb⟩
      have T := (S.out.call bb)
      clear bb S c_q0 c_q1 c_q2 c_z0 c_z1 c_z2 c_y0 c_y1 c_y2 c_x0 c_x1 c_x2 hz
      have S := T
      clear T
      have c_q0 := S.cl 0 0 rfl rfl
      have c_q1 := S.cl 0 1 rfl rfl
      have c_q2 := S.cl 0 2 rfl rfl
      have c_z0 := S.cl 1 0 rfl rfl
      have c_z1 := S.cl 1 1 rfl rfl
      have c_z2 := S.cl 1 2 rfl rfl
      have c_y0 := S.cl 2 0 rfl rfl
      have c_y1 := S.cl 2 1 rfl rfl
      have c_y2 := S.cl 2 2 rfl rfl
      have c_x0 := S.cl 3 0 rfl rfl
      have c_x1 := S.cl 3 1 rfl rfl
      have c_x2 := S.cl 3 2 rfl rfl
      have hz : g_q < w7.heap.size := S.lt 0 rfl
      replace S := Lib.hid S
      go_wp2_with fail
      go_meet
      exact ⟨rfl, S.out⟩
  case rest =>
    clear S
    obtain ⟨rfl, S⟩ := hcut
    replace S := Lib.hid S
    go_upto_region 6 with fail
    simp only [List.append_eq, List.cons_append, List.nil_append]
    refine RW.begin (Z := []) (S := (fun W => Cb W (w.heap.size) #[.bool (ng x.num), .slice A n c, .slice D m d] 26 ∧ Cb W (w.heap.size + 1) #[.bool (ng y.num), .slice A' n' c', .slice D' m' d'] 26 ∧ Cb W (w.heap.size + 1 + 1) #[.bool (ng z.num), .slice A'' n'' c'', .slice D'' m'' d''] 26)) (by kernel_rfl) ?_ S.out ?_
    · exact ⟨by kernel_rfl, zis_nil, by decide, by decide, nol_nil, (fun _ _ h => ⟨h.kb 3 rfl, h.kb 2 rfl, h.kb 1 rfl⟩)⟩
    intro hzk
    clear S
    refine RW.c (i := 0) (args := #[]) (some 53) hzk.out at0 (hx := fun _ => by kernel_rfl) (h := fun _ S => (hA.out _ (tab_below htab.out S.bel)).mono ?_)
    rintro e w16 ⟨rfl, bb⟩
    refine ⟨bb, _, [], rfl, rd_nil, ?_⟩
    clear bb S
    refine RW.t (i := 1) (v := .bool true) (some 54) at1 (hy := fun _ _ => by kernel_rfl) (h := ?_)
    refine RW.t (i := 2) (v := .agg #[.bool (ng x.num), .slice A n c, .slice D m d]) (some 55) at2 (hy := fun W hS => by (have k0 := Cb.cell (i := 0) hS.1 rfl; have k1 := Cb.cell (i := 1) hS.1 rfl; have k2 := Cb.cell (i := 2) hS.1 rfl; clear hS; go_simp)) (h := ?_)
    refine RW.t (i := 3) (v := .agg #[.bool (ng y.num), .slice A' n' c', .slice D' m' d']) (some 56) at3 (hy := fun W hS => by (have k0 := Cb.cell (i := 0) hS.2.1 rfl; have k1 := Cb.cell (i := 1) hS.2.1 rfl; have k2 := Cb.cell (i := 2) hS.2.1 rfl; clear hS; go_simp)) (h := ?_)
    refine RW.t (i := 5) (v := .agg #[.bool (ng y.num), .slice A' n' c', .slice D' m' d']) (some 58) at5 (hy := fun W hS => by (have k0 := Cb.cell (i := 0) hS.2.1 rfl; have k1 := Cb.cell (i := 1) hS.2.1 rfl; have k2 := Cb.cell (i := 2) hS.2.1 rfl; clear hS; go_simp)) (h := ?_)
    refine RW.t (i := 6) (v := .agg #[.bool (ng x.num), .slice A n c, .slice D m d]) (some 59) at6 (hy := fun W hS => by (have k0 := Cb.cell (i := 0) hS.1 rfl; have k1 := Cb.cell (i := 1) hS.1 rfl; have k2 := Cb.cell (i := 2) hS.1 rfl; clear hS; go_simp)) (h := ?_)
    refine RW.c (i := 4) (args := #[.agg #[.bool (ng x.num), .slice A n c, .slice D m d], .agg #[.bool (ng y.num), .slice A' n' c', .slice D' m' d']]) (some 57) hzk.out at4 (hx := fun _ => by kernel_rfl) (h := fun _ S => (addQ x y _ _ _ _ _ _ _ _ _ _ _ _ _ ⟨S.r 9 rfl, S.r 8 rfl⟩ ⟨S.r 7 rfl, S.r 6 rfl⟩ (x8.out.mono (by decide)) (y8.out.mono (by decide))).mono ?_)
    rintro e w17 ⟨A3, n3, c3, D3, m3, d3, rfl, Q3, bb⟩
    refine ⟨bb, _, [(D3, m3, d3, dn (x + y)), (A3, n3, c3, limbs (x + y).num.natAbs)], rfl, (rd_cons Q3.d (rd_cons Q3.n rd_nil)), ?_⟩
    clear bb S Q3
    refine RW.c (i := 7) (args := #[.agg #[.bool (ng y.num), .slice A' n' c', .slice D' m' d'], .agg #[.bool (ng x.num), .slice A n c, .slice D m d]]) (some 60) hzk.out at7 (hx := fun _ => by kernel_rfl) (h := fun _ S => (addQ y x _ _ _ _ _ _ _ _ _ _ _ _ _ ⟨S.r 9 rfl, S.r 8 rfl⟩ ⟨S.r 11 rfl, S.r 10 rfl⟩ (y8.out.mono (by decide)) (x8.out.mono (by decide))).mono ?_)
    rintro e w18 ⟨A4, n4, c4, D4, m4, d4, rfl, Q4, bb⟩
    refine ⟨bb, _, [(D4, m4, d4, dn (y + x)), (A4, n4, c4, limbs (y + x).num.natAbs)], rfl, (rd_cons Q4.d (rd_cons Q4.n rd_nil)), ?_⟩
    clear bb S Q4
    refine RW.c (i := 8) (args := #[.agg #[.bool (ng (x + y).num), .slice A3 n3 c3, .slice D3 m3 d3], .agg #[.bool (ng (y + x).num), .slice A4 n4 c4, .slice D4 m4 d4]]) (some 61) hzk.out at8 (hx := fun _ => by kernel_rfl) (h := fun _ S => (sameT (x + y) (y + x) (Rat.add_comm x y) _ _ _ _ _ _ _ _ _ _ _ _ _ ⟨S.r 3 rfl, S.r 2 rfl⟩ ⟨S.r 1 rfl, S.r 0 rfl⟩ ((x8.out.add y8.out).mono (by decide)) ((y8.out.add x8.out).mono (by decide))).mono ?_)
    rintro e w19 ⟨rfl, bb⟩
    refine ⟨bb, _, [], rfl, rd_nil, ?_⟩
    clear bb S
    refine RW.t (i := 9) (v := .bool true) (some 62) at9 (hy := fun _ _ => by kernel_rfl) (h := ?_)
    refine RW.t (i := 10) (v := .bool true) (some 63) at10 (hy := fun _ _ => by kernel_rfl) (h := ?_)
    refine RW.t (i := 11) (v := .agg #[.bool (ng x.num), .slice A n c, .slice D m d]) (some 64) at11 (hy := fun W hS => by (have k0 := Cb.cell (i := 0) hS.1 rfl; have k1 := Cb.cell (i := 1) hS.1 rfl; have k2 := Cb.cell (i := 2) hS.1 rfl; clear hS; go_simp)) (h := ?_)
    refine RW.t (i := 12) (v := .agg #[.bool (ng y.num), .slice A' n' c', .slice D' m' d']) (some 65) at12 (hy := fun W hS => by (have k0 := Cb.cell (i := 0) hS.2.1 rfl; have k1 := Cb.cell (i := 1) hS.2.1 rfl; have k2 := Cb.cell (i := 2) hS.2.1 rfl; clear hS; go_simp)) (h := ?_)
    refine RW.t (i := 14) (v := .agg #[.bool (ng y.num), .slice A' n' c', .slice D' m' d']) (some 67) at14 (hy := fun W hS => by (have k0 := Cb.cell (i := 0) hS.2.1 rfl; have k1 := Cb.cell (i := 1) hS.2.1 rfl; have k2 := Cb.cell (i := 2) hS.2.1 rfl; clear hS; go_simp)) (h := ?_)
    refine RW.t (i := 15) (v := .agg #[.bool (ng x.num), .slice A n c, .slice D m d]) (some 68) at15 (hy := fun W hS => by (have k0 := Cb.cell (i := 0) hS.1 rfl; have k1 := Cb.cell (i := 1) hS.1 rfl; have k2 := Cb.cell (i := 2) hS.1 rfl; clear hS; go_simp)) (h := ?_)
    refine RW.c (i := 13) (args := #[.agg #[.bool (ng x.num), .slice A n c, .slice D m d], .agg #[.bool (ng y.num), .slice A' n' c', .slice D' m' d']]) (some 66) hzk.out at13 (hx := fun _ => by kernel_rfl) (h := fun _ S => (mulQ x y _ _ _ _ _ _ _ _ _ _ _ _ _ ⟨S.r 13 rfl, S.r 12 rfl⟩ ⟨S.r 11 rfl, S.r 10 rfl⟩ (x8.out.mono (by decide)) (y8.out.mono (by decide))).mono ?_)
    rintro e w20 ⟨A5, n5, c5, D5, m5, d5, rfl, Q5, bb⟩
    refine ⟨bb, _, [(D5, m5, d5, dn (x * y)), (A5, n5, c5, limbs (x * y).num.natAbs)], rfl, (rd_cons Q5.d (rd_cons Q5.n rd_nil)), ?_⟩
    clear bb S Q5
    refine RW.c (i := 16) (args := #[.agg #[.bool (ng y.num), .slice A' n' c', .slice D' m' d'], .agg #[.bool (ng x.num), .slice A n c, .slice D m d]]) (some 69) hzk.out at16 (hx := fun _ => by kernel_rfl) (h := fun _ S => (mulQ y x _ _ _ _ _ _ _ _ _ _ _ _ _ ⟨S.r 13 rfl, S.r 12 rfl⟩ ⟨S.r 15 rfl, S.r 14 rfl⟩ (y8.out.mono (by decide)) (x8.out.mono (by decide))).mono ?_)
    rintro e w21 ⟨A6, n6, c6, D6, m6, d6, rfl, Q6, bb⟩
    refine ⟨bb, _, [(D6, m6, d6, dn (y * x)), (A6, n6, c6, limbs (y * x).num.natAbs)], rfl, (rd_cons Q6.d (rd_cons Q6.n rd_nil)), ?_⟩
    clear bb S Q6
    refine RW.c (i := 17) (args := #[.agg #[.bool (ng (x * y).num), .slice A5 n5 c5, .slice D5 m5 d5], .agg #[.bool (ng (y * x).num), .slice A6 n6 c6, .slice D6 m6 d6]]) (some 70) hzk.out at17 (hx := fun _ => by kernel_rfl) (h := fun _ S => (sameT (x * y) (y * x) (Rat.mul_comm x y) _ _ _ _ _ _ _ _ _ _ _ _ _ ⟨S.r 3 rfl, S.r 2 rfl⟩ ⟨S.r 1 rfl, S.r 0 rfl⟩ ((x8.out.mul y8.out).mono (by decide)) ((y8.out.mul x8.out).mono (by decide))).mono ?_)
    rintro e w22 ⟨rfl, bb⟩
    refine ⟨bb, _, [], rfl, rd_nil, ?_⟩
    clear bb S
    refine RW.t (i := 18) (v := .bool true) (some 71) at18 (hy := fun _ _ => by kernel_rfl) (h := ?_)
    refine RW.t (i := 19) (v := .bool true) (some 72) at19 (hy := fun _ _ => by kernel_rfl) (h := ?_)
    refine RW.t (i := 20) (v := .agg #[.bool (ng x.num), .slice A n c, .slice D m d]) (some 73) at20 (hy := fun W hS => by (have k0 := Cb.cell (i := 0) hS.1 rfl; have k1 := Cb.cell (i := 1) hS.1 rfl; have k2 := Cb.cell (i := 2) hS.1 rfl; clear hS; go_simp)) (h := ?_)
    refine RW.t (i := 21) (v := .agg #[.bool (ng y.num), .slice A' n' c', .slice D' m' d']) (some 74) at21 (hy := fun W hS => by (have k0 := Cb.cell (i := 0) hS.2.1 rfl; have k1 := Cb.cell (i := 1) hS.2.1 rfl; have k2 := Cb.cell (i := 2) hS.2.1 rfl; clear hS; go_simp)) (h := ?_)
    refine RW.t (i := 23) (v := .agg #[.bool (ng z.num), .slice A'' n'' c'', .slice D'' m'' d'']) (some 76) at23 (hy := fun W hS => by (have k0 := Cb.cell (i := 0) hS.2.2 rfl; have k1 := Cb.cell (i := 1) hS.2.2 rfl; have k2 := Cb.cell (i := 2) hS.2.2 rfl; clear hS; go_simp)) (h := ?_)
    refine RW.t (i := 25) (v := .agg #[.bool (ng x.num), .slice A n c, .slice D m d]) (some 78) at25 (hy := fun W hS => by (have k0 := Cb.cell (i := 0) hS.1 rfl; have k1 := Cb.cell (i := 1) hS.1 rfl; have k2 := Cb.cell (i := 2) hS.1 rfl; clear hS; go_simp)) (h := ?_)
    refine RW.t (i := 26) (v := .agg #[.bool (ng y.num), .slice A' n' c', .slice D' m' d']) (some 79) at26 (hy := fun W hS => by (have k0 := Cb.cell (i := 0) hS.2.1 rfl; have k1 := Cb.cell (i := 1) hS.2.1 rfl; have k2 := Cb.cell (i := 2) hS.2.1 rfl; clear hS; go_simp)) (h := ?_)
    refine RW.t (i := 27) (v := .agg #[.bool (ng z.num), .slice A'' n'' c'', .slice D'' m'' d'']) (some 80) at27 (hy := fun W hS => by (have k0 := Cb.cell (i := 0) hS.2.2 rfl; have k1 := Cb.cell (i := 1) hS.2.2 rfl; have k2 := Cb.cell (i := 2) hS.2.2 rfl; clear hS; go_simp)) (h := ?_)
    refine RW.c (i := 22) (args := #[.agg #[.bool (ng x.num), .slice A n c, .slice D m d], .agg #[.bool (ng y.num), .slice A' n' c', .slice D' m' d']]) (some 75) hzk.out at22 (hx := fun _ => by kernel_rfl) (h := fun _ S => (addQ x y _ _ _ _ _ _ _ _ _ _ _ _ _ ⟨S.r 17 rfl, S.r 16 rfl⟩ ⟨S.r 15 rfl, S.r 14 rfl⟩ (x8.out.mono (by decide)) (y8.out.mono (by decide))).mono ?_)
    rintro e w23 ⟨A7, n7, c7, D7, m7, d7, rfl, Q7, bb⟩
    refine ⟨bb, _, [(D7, m7, d7, dn (x + y)), (A7, n7, c7, limbs (x + y).num.natAbs)], rfl, (rd_cons Q7.d (rd_cons Q7.n rd_nil)), ?_⟩
    clear bb S Q7
    refine RW.c (i := 24) (args := #[.agg #[.bool (ng (x + y).num), .slice A7 n7 c7, .slice D7 m7 d7], .agg #[.bool (ng z.num), .slice A'' n'' c'', .slice D'' m'' d'']]) (some 77) hzk.out at24 (hx := fun _ => by kernel_rfl) (h := fun _ S => (addQ (x + y) z _ _ _ _ _ _ _ _ _ _ _ _ _ ⟨S.r 1 rfl, S.r 0 rfl⟩ ⟨S.r 15 rfl, S.r 14 rfl⟩ ((x8.out.add y8.out).mono (by decide)) (z8.out.mono (by decide))).mono ?_)
    rintro e w24 ⟨A8, n8, c8, D8, m8, d8, rfl, Q8, bb⟩
    refine ⟨bb, _, [(D8, m8, d8, dn ((x + y) + z)), (A8, n8, c8, limbs ((x + y) + z).num.natAbs)], rfl, (rd_cons Q8.d (rd_cons Q8.n rd_nil)), ?_⟩
    clear bb S Q8
    refine RW.c (i := 28) (args := #[.agg #[.bool (ng y.num), .slice A' n' c', .slice D' m' d'], .agg #[.bool (ng z.num), .slice A'' n'' c'', .slice D'' m'' d'']]) (some 81) hzk.out at28 (hx := fun _ => by kernel_rfl) (h := fun _ S => (addQ y z _ _ _ _ _ _ _ _ _ _ _ _ _ ⟨S.r 19 rfl, S.r 18 rfl⟩ ⟨S.r 17 rfl, S.r 16 rfl⟩ (y8.out.mono (by decide)) (z8.out.mono (by decide))).mono ?_)
    rintro e w25 ⟨A9, n9, c9, D9, m9, d9, rfl, Q9, bb⟩
    refine ⟨bb, _, [(D9, m9, d9, dn (y + z)), (A9, n9, c9, limbs (y + z).num.natAbs)], rfl, (rd_cons Q9.d (rd_cons Q9.n rd_nil)), ?_⟩
    clear bb S Q9
    refine RW.c (i := 29) (args := #[.agg #[.bool (ng x.num), .slice A n c, .slice D m d], .agg #[.bool (ng (y + z).num), .slice A9 n9 c9, .slice D9 m9 d9]]) (some 82) hzk.out at29 (hx := fun _ => by kernel_rfl) (h := fun _ S => (addQ x (y + z) _ _ _ _ _ _ _ _ _ _ _ _ _ ⟨S.r 23 rfl, S.r 22 rfl⟩ ⟨S.r 1 rfl, S.r 0 rfl⟩ (x8.out.mono (by decide)) ((y8.out.add z8.out).mono (by decide))).mono ?_)
    rintro e w26 ⟨A10, n10, c10, D10, m10, d10, rfl, Q10, bb⟩
    refine ⟨bb, _, [(D10, m10, d10, dn (x + (y + z))), (A10, n10, c10, limbs (x + (y + z)).num.natAbs)], rfl, (rd_cons Q10.d (rd_cons Q10.n rd_nil)), ?_⟩
    clear bb S Q10
    refine RW.c (i := 30) (args := #[.agg #[.bool (ng ((x + y) + z).num), .slice A8 n8 c8, .slice D8 m8 d8], .agg #[.bool (ng (x + (y + z)).num), .slice A10 n10 c10, .slice D10 m10 d10]]) (some 83) hzk.out at30 (hx := fun _ => by kernel_rfl) (h := fun _ S => (sameT ((x + y) + z) (x + (y + z)) (Rat.add_assoc x y z) _ _ _ _ _ _ _ _ _ _ _ _ _ ⟨S.r 5 rfl, S.r 4 rfl⟩ ⟨S.r 1 rfl, S.r 0 rfl⟩ (((x8.out.add y8.out).add z8.out).mono (by decide)) ((x8.out.add (y8.out.add z8.out)).mono (by decide))).mono ?_)
    rintro e w27 ⟨rfl, bb⟩
    refine ⟨bb, _, [], rfl, rd_nil, ?_⟩
    clear bb S
    refine RW.t (i := 31) (v := .bool true) (some 84) at31 (hy := fun _ _ => by kernel_rfl) (h := ?_)
    refine RW.t (i := 32) (v := .bool true) (some 85) at32 (hy := fun _ _ => by kernel_rfl) (h := ?_)
    refine RW.t (i := 33) (v := .agg #[.bool (ng x.num), .slice A n c, .slice D m d]) (some 86) at33 (hy := fun W hS => by (have k0 := Cb.cell (i := 0) hS.1 rfl; have k1 := Cb.cell (i := 1) hS.1 rfl; have k2 := Cb.cell (i := 2) hS.1 rfl; clear hS; go_simp)) (h := ?_)
    refine RW.t (i := 34) (v := .agg #[.bool (ng y.num), .slice A' n' c', .slice D' m' d']) (some 87) at34 (hy := fun W hS => by (have k0 := Cb.cell (i := 0) hS.2.1 rfl; have k1 := Cb.cell (i := 1) hS.2.1 rfl; have k2 := Cb.cell (i := 2) hS.2.1 rfl; clear hS; go_simp)) (h := ?_)
    refine RW.t (i := 36) (v := .agg #[.bool (ng z.num), .slice A'' n'' c'', .slice D'' m'' d'']) (some 89) at36 (hy := fun W hS => by (have k0 := Cb.cell (i := 0) hS.2.2 rfl; have k1 := Cb.cell (i := 1) hS.2.2 rfl; have k2 := Cb.cell (i := 2) hS.2.2 rfl; clear hS; go_simp)) (h := ?_)
    refine RW.t (i := 38) (v := .agg #[.bool (ng x.num), .slice A n c, .slice D m d]) (some 91) at38 (hy := fun W hS => by (have k0 := Cb.cell (i := 0) hS.1 rfl; have k1 := Cb.cell (i := 1) hS.1 rfl; have k2 := Cb.cell (i := 2) hS.1 rfl; clear hS; go_simp)) (h := ?_)
    refine RW.t (i := 39) (v := .agg #[.bool (ng y.num), .slice A' n' c', .slice D' m' d']) (some 92) at39 (hy := fun W hS => by (have k0 := Cb.cell (i := 0) hS.2.1 rfl; have k1 := Cb.cell (i := 1) hS.2.1 rfl; have k2 := Cb.cell (i := 2) hS.2.1 rfl; clear hS; go_simp)) (h := ?_)
    refine RW.t (i := 40) (v := .agg #[.bool (ng z.num), .slice A'' n'' c'', .slice D'' m'' d'']) (some 93) at40 (hy := fun W hS => by (have k0 := Cb.cell (i := 0) hS.2.2 rfl; have k1 := Cb.cell (i := 1) hS.2.2 rfl; have k2 := Cb.cell (i := 2) hS.2.2 rfl; clear hS; go_simp)) (h := ?_)
    refine RW.c (i := 35) (args := #[.agg #[.bool (ng x.num), .slice A n c, .slice D m d], .agg #[.bool (ng y.num), .slice A' n' c', .slice D' m' d']]) (some 88) hzk.out at35 (hx := fun _ => by kernel_rfl) (h := fun _ S => (mulQ x y _ _ _ _ _ _ _ _ _ _ _ _ _ ⟨S.r 25 rfl, S.r 24 rfl⟩ ⟨S.r 23 rfl, S.r 22 rfl⟩ (x8.out.mono (by decide)) (y8.out.mono (by decide))).mono ?_)
    rintro e w28 ⟨A11, n11, c11, D11, m11, d11, rfl, Q11, bb⟩
    refine ⟨bb, _, [(D11, m11, d11, dn (x * y)), (A11, n11, c11, limbs (x * y).num.natAbs)], rfl, (rd_cons Q11.d (rd_cons Q11.n rd_nil)), ?_⟩
    clear bb S Q11
    refine RW.c (i := 37) (args := #[.agg #[.bool (ng (x * y).num), .slice A11 n11 c11, .slice D11 m11 d11], .agg #[.bool (ng z.num), .slice A'' n'' c'', .slice D'' m'' d'']]) (some 90) hzk.out at37 (hx := fun _ => by kernel_rfl) (h := fun _ S => (mulQ (x * y) z _ _ _ _ _ _ _ _ _ _ _ _ _ ⟨S.r 1 rfl, S.r 0 rfl⟩ ⟨S.r 23 rfl, S.r 22 rfl⟩ ((x8.out.mul y8.out).mono (by decide)) (z8.out.mono (by decide))).mono ?_)
    rintro e w29 ⟨A12, n12, c12, D12, m12, d12, rfl, Q12, bb⟩
    refine ⟨bb, _, [(D12, m12, d12, dn ((x * y) * z)), (A12, n12, c12, limbs ((x * y) * z).num.natAbs)], rfl, (rd_cons Q12.d (rd_cons Q12.n rd_nil)), ?_⟩
    clear bb S Q12
    refine RW.c (i := 41) (args := #[.agg #[.bool (ng y.num), .slice A' n' c', .slice D' m' d'], .agg #[.bool (ng z.num), .slice A'' n'' c'', .slice D'' m'' d'']]) (some 94) hzk.out at41 (hx := fun _ => by kernel_rfl) (h := fun _ S => (mulQ y z _ _ _ _ _ _ _ _ _ _ _ _ _ ⟨S.r 27 rfl, S.r 26 rfl⟩ ⟨S.r 25 rfl, S.r 24 rfl⟩ (y8.out.mono (by decide)) (z8.out.mono (by decide))).mono ?_)
    rintro e w30 ⟨A13, n13, c13, D13, m13, d13, rfl, Q13, bb⟩
    refine ⟨bb, _, [(D13, m13, d13, dn (y * z)), (A13, n13, c13, limbs (y * z).num.natAbs)], rfl, (rd_cons Q13.d (rd_cons Q13.n rd_nil)), ?_⟩
    clear bb S Q13
    refine RW.c (i := 42) (args := #[.agg #[.bool (ng x.num), .slice A n c, .slice D m d], .agg #[.bool (ng (y * z).num), .slice A13 n13 c13, .slice D13 m13 d13]]) (some 95) hzk.out at42 (hx := fun _ => by kernel_rfl) (h := fun _ S => (mulQ x (y * z) _ _ _ _ _ _ _ _ _ _ _ _ _ ⟨S.r 31 rfl, S.r 30 rfl⟩ ⟨S.r 1 rfl, S.r 0 rfl⟩ (x8.out.mono (by decide)) ((y8.out.mul z8.out).mono (by decide))).mono ?_)
    rintro e w31 ⟨A14, n14, c14, D14, m14, d14, rfl, Q14, bb⟩
    refine ⟨bb, _, [(D14, m14, d14, dn (x * (y * z))), (A14, n14, c14, limbs (x * (y * z)).num.natAbs)], rfl, (rd_cons Q14.d (rd_cons Q14.n rd_nil)), ?_⟩
    clear bb S Q14
    refine RW.c (i := 43) (args := #[.agg #[.bool (ng ((x * y) * z).num), .slice A12 n12 c12, .slice D12 m12 d12], .agg #[.bool (ng (x * (y * z)).num), .slice A14 n14 c14, .slice D14 m14 d14]]) (some 96) hzk.out at43 (hx := fun _ => by kernel_rfl) (h := fun _ S => (sameT ((x * y) * z) (x * (y * z)) (Rat.mul_assoc x y z) _ _ _ _ _ _ _ _ _ _ _ _ _ ⟨S.r 5 rfl, S.r 4 rfl⟩ ⟨S.r 1 rfl, S.r 0 rfl⟩ (((x8.out.mul y8.out).mul z8.out).mono (by decide)) ((x8.out.mul (y8.out.mul z8.out)).mono (by decide))).mono ?_)
    rintro e w32 ⟨rfl, bb⟩
    refine ⟨bb, _, [], rfl, rd_nil, ?_⟩
    clear bb S
    refine RW.t (i := 44) (v := .bool true) (some 97) at44 (hy := fun _ _ => by kernel_rfl) (h := ?_)
    refine RW.t (i := 45) (v := .bool true) (some 98) at45 (hy := fun _ _ => by kernel_rfl) (h := ?_)
    refine RW.t (i := 46) (v := .agg #[.bool (ng x.num), .slice A n c, .slice D m d]) (some 99) (at_succ at45) (hy := fun W hS => by (have k0 := Cb.cell (i := 0) hS.1 rfl; have k1 := Cb.cell (i := 1) hS.1 rfl; have k2 := Cb.cell (i := 2) hS.1 rfl; clear hS; go_simp)) (h := ?_)
    refine RW.t (i := 47) (v := .agg #[.bool (ng y.num), .slice A' n' c', .slice D' m' d']) (some 100) (at_succ (at_succ at45)) (hy := fun W hS => by (have k0 := Cb.cell (i := 0) hS.2.1 rfl; have k1 := Cb.cell (i := 1) hS.2.1 rfl; have k2 := Cb.cell (i := 2) hS.2.1 rfl; clear hS; go_simp)) (h := ?_)
    refine RW.t (i := 48) (v := .agg #[.bool (ng z.num), .slice A'' n'' c'', .slice D'' m'' d'']) (some 101) (at_succ (at_succ (at_succ at45))) (hy := fun W hS => by (have k0 := Cb.cell (i := 0) hS.2.2 rfl; have k1 := Cb.cell (i := 1) hS.2.2 rfl; have k2 := Cb.cell (i := 2) hS.2.2 rfl; clear hS; go_simp)) (h := ?_)
    refine RW.t (i := 51) (v := .agg #[.bool (ng x.num), .slice A n c, .slice D m d]) (some 104) (at_succ (at_succ (at_succ (at_succ (at_succ (at_succ at45)))))) (hy := fun W hS => by (have k0 := Cb.cell (i := 0) hS.1 rfl; have k1 := Cb.cell (i := 1) hS.1 rfl; have k2 := Cb.cell (i := 2) hS.1 rfl; clear hS; go_simp)) (h := ?_)
    refine RW.t (i := 52) (v := .agg #[.bool (ng y.num), .slice A' n' c', .slice D' m' d']) (some 105) (at_succ (at_succ (at_succ (at_succ (at_succ (at_succ (at_succ at45))))))) (hy := fun W hS => by (have k0 := Cb.cell (i := 0) hS.2.1 rfl; have k1 := Cb.cell (i := 1) hS.2.1 rfl; have k2 := Cb.cell (i := 2) hS.2.1 rfl; clear hS; go_simp)) (h := ?_)
    refine RW.t (i := 54) (v := .agg #[.bool (ng x.num), .slice A n c, .slice D m d]) (some 107) (at_succ (at_succ (at_succ (at_succ (at_succ (at_succ (at_succ (at_succ (at_succ at45))))))))) (hy := fun W hS => by (have k0 := Cb.cell (i := 0) hS.1 rfl; have k1 := Cb.cell (i := 1) hS.1 rfl; have k2 := Cb.cell (i := 2) hS.1 rfl; clear hS; go_simp)) (h := ?_)
    refine RW.t (i := 55) (v := .agg #[.bool (ng z.num), .slice A'' n'' c'', .slice D'' m'' d'']) (some 108) (at_succ (at_succ (at_succ (at_succ (at_succ (at_succ (at_succ (at_succ (at_succ (at_succ at45)))))))))) (hy := fun W hS => by (have k0 := Cb.cell (i := 0) hS.2.2 rfl; have k1 := Cb.cell (i := 1) hS.2.2 rfl; have k2 := Cb.cell (i := 2) hS.2.2 rfl; clear hS; go_simp)) (h := ?_)
    refine RW.c (i := 49) (args := #[.agg #[.bool (ng y.num), .slice A' n' c', .slice D' m' d'], .agg #[.bool (ng z.num), .slice A'' n'' c'', .slice D'' m'' d'']]) (some 102) hzk.out (at_succ (at_succ (at_succ (at_succ at45)))) (hx := fun _ => by kernel_rfl) (h := fun _ S => (addQ y z _ _ _ _ _ _ _ _ _ _ _ _ _ ⟨S.r 31 rfl, S.r 30 rfl⟩ ⟨S.r 29 rfl, S.r 28 rfl⟩ (y8.out.mono (by decide)) (z8.out.mono (by decide))).mono ?_)
    rintro e w33 ⟨A15, n15, c15, D15, m15, d15, rfl, Q15, bb⟩
    refine ⟨bb, _, [(D15, m15, d15, dn (y + z)), (A15, n15, c15, limbs (y + z).num.natAbs)], rfl, (rd_cons Q15.d (rd_cons Q15.n rd_nil)), ?_⟩
    clear bb S Q15
    refine RW.c (i := 50) (args := #[.agg #[.bool (ng x.num), .slice A n c, .slice D m d], .agg #[.bool (ng (y + z).num), .slice A15 n15 c15, .slice D15 m15 d15]]) (some 103) hzk.out (at_succ (at_succ (at_succ (at_succ (at_succ at45))))) (hx := fun _ => by kernel_rfl) (h := fun _ S => (mulQ x (y + z) _ _ _ _ _ _ _ _ _ _ _ _ _ ⟨S.r 35 rfl, S.r 34 rfl⟩ ⟨S.r 1 rfl, S.r 0 rfl⟩ (x8.out.mono (by decide)) ((y8.out.add z8.out).mono (by decide))).mono ?_)
    rintro e w34 ⟨A16, n16, c16, D16, m16, d16, rfl, Q16, bb⟩
    refine ⟨bb, _, [(D16, m16, d16, dn (x * (y + z))), (A16, n16, c16, limbs (x * (y + z)).num.natAbs)], rfl, (rd_cons Q16.d (rd_cons Q16.n rd_nil)), ?_⟩
    clear bb S Q16
    refine RW.c (i := 53) (args := #[.agg #[.bool (ng x.num), .slice A n c, .slice D m d], .agg #[.bool (ng y.num), .slice A' n' c', .slice D' m' d']]) (some 106) hzk.out (at_succ (at_succ (at_succ (at_succ (at_succ (at_succ (at_succ (at_succ at45)))))))) (hx := fun _ => by kernel_rfl) (h := fun _ S => (mulQ x y _ _ _ _ _ _ _ _ _ _ _ _ _ ⟨S.r 37 rfl, S.r 36 rfl⟩ ⟨S.r 35 rfl, S.r 34 rfl⟩ (x8.out.mono (by decide)) (y8.out.mono (by decide))).mono ?_)
    rintro e w35 ⟨A17, n17, c17, D17, m17, d17, rfl, Q17, bb⟩
    refine ⟨bb, _, [(D17, m17, d17, dn (x * y)), (A17, n17, c17, limbs (x * y).num.natAbs)], rfl, (rd_cons Q17.d (rd_cons Q17.n rd_nil)), ?_⟩
    clear bb S Q17
    refine RW.c (i := 56) (args := #[.agg #[.bool (ng x.num), .slice A n c, .slice D m d], .agg #[.bool (ng z.num), .slice A'' n'' c'', .slice D'' m'' d'']]) (some 109) hzk.out (at_succ (at_succ (at_succ (at_succ (at_succ (at_succ (at_succ (at_succ (at_succ (at_succ (at_succ at45))))))))))) (hx := fun _ => by kernel_rfl) (h := fun _ S => (mulQ x z _ _ _ _ _ _ _ _ _ _ _ _ _ ⟨S.r 39 rfl, S.r 38 rfl⟩ ⟨S.r 35 rfl, S.r 34 rfl⟩ (x8.out.mono (by decide)) (z8.out.mono (by decide))).mono ?_)
    rintro e w36 ⟨A18, n18, c18, D18, m18, d18, rfl, Q18, bb⟩
    refine ⟨bb, _, [(D18, m18, d18, dn (x * z)), (A18, n18, c18, limbs (x * z).num.natAbs)], rfl, (rd_cons Q18.d (rd_cons Q18.n rd_nil)), ?_⟩
    clear bb S Q18
    refine RW.c (i := 57) (args := #[.agg #[.bool (ng (x * y).num), .slice A17 n17 c17, .slice D17 m17 d17], .agg #[.bool (ng (x * z).num), .slice A18 n18 c18, .slice D18 m18 d18]]) (some 110) hzk.out (at_succ (at_succ (at_succ (at_succ (at_succ (at_succ (at_succ (at_succ (at_succ (at_succ (at_succ (at_succ at45)))))))))))) (hx := fun _ => by kernel_rfl) (h := fun _ S => (addQ (x * y) (x * z) _ _ _ _ _ _ _ _ _ _ _ _ _ ⟨S.r 3 rfl, S.r 2 rfl⟩ ⟨S.r 1 rfl, S.r 0 rfl⟩ ((x8.out.mul y8.out).mono (by decide)) ((x8.out.mul z8.out).mono (by decide))).mono ?_)
    rintro e w37 ⟨A19, n19, c19, D19, m19, d19, rfl, Q19, bb⟩
    refine ⟨bb, _, [(D19, m19, d19, dn ((x * y) + (x * z))), (A19, n19, c19, limbs ((x * y) + (x * z)).num.natAbs)], rfl, (rd_cons Q19.d (rd_cons Q19.n rd_nil)), ?_⟩
    clear bb S Q19
    refine RW.c (i := 58) (args := #[.agg #[.bool (ng (x * (y + z)).num), .slice A16 n16 c16, .slice D16 m16 d16], .agg #[.bool (ng ((x * y) + (x * z)).num), .slice A19 n19 c19, .slice D19 m19 d19]]) (some 111) hzk.out (at_succ (at_succ (at_succ (at_succ (at_succ (at_succ (at_succ (at_succ (at_succ (at_succ (at_succ (at_succ (at_succ at45))))))))))))) (hx := fun _ => by kernel_rfl) (h := fun _ S => (sameT (x * (y + z)) ((x * y) + (x * z)) (Rat.mul_add x y z) _ _ _ _ _ _ _ _ _ _ _ _ _ ⟨S.r 7 rfl, S.r 6 rfl⟩ ⟨S.r 1 rfl, S.r 0 rfl⟩ ((x8.out.mul (y8.out.add z8.out)).mono (by decide)) (((x8.out.mul y8.out).add (x8.out.mul z8.out)).mono (by decide))).mono ?_)
    rintro e w38 ⟨rfl, bb⟩
    refine ⟨bb, _, [], rfl, rd_nil, ?_⟩
    clear bb S
    refine RW.t (i := 59) (v := .bool true) (some 112) (at_succ (at_succ (at_succ (at_succ (at_succ (at_succ (at_succ (at_succ (at_succ (at_succ (at_succ (at_succ (at_succ (at_succ at45)))))))))))))) (hy := fun _ _ => by kernel_rfl) (h := ?_)
    refine RW.t (i := 60) (v := .bool true) (some 113) (at_succ (at_succ (at_succ (at_succ (at_succ (at_succ (at_succ (at_succ (at_succ (at_succ (at_succ (at_succ (at_succ (at_succ (at_succ at45))))))))))))))) (hy := fun _ _ => by kernel_rfl) (h := ?_)
    refine RW.t (i := 61) (v := .agg #[.bool (ng x.num), .slice A n c, .slice D m d]) (some 114) (at_succ (at_succ (at_succ (at_succ (at_succ (at_succ (at_succ (at_succ (at_succ (at_succ (at_succ (at_succ (at_succ (at_succ (at_succ (at_succ at45)))))))))))))))) (hy := fun W hS => by (have k0 := Cb.cell (i := 0) hS.1 rfl; have k1 := Cb.cell (i := 1) hS.1 rfl; have k2 := Cb.cell (i := 2) hS.1 rfl; clear hS; go_simp)) (h := ?_)
    refine RW.t (i := 62) (v := .agg #[.bool (ng x.num), .slice A n c, .slice D m d]) (some 115) (at_succ (at_succ (at_succ (at_succ (at_succ (at_succ (at_succ (at_succ (at_succ (at_succ (at_succ (at_succ (at_succ (at_succ (at_succ (at_succ (at_succ at45))))))))))))))))) (hy := fun W hS => by (have k0 := Cb.cell (i := 0) hS.1 rfl; have k1 := Cb.cell (i := 1) hS.1 rfl; have k2 := Cb.cell (i := 2) hS.1 rfl; clear hS; go_simp)) (h := ?_)
    refine RW.c (i := 63) (args := #[.agg #[.bool (ng x.num), .slice A n c, .slice D m d], .agg #[.bool (ng x.num), .slice A n c, .slice D m d]]) (some 116) hzk.out (at_succ (at_succ (at_succ (at_succ (at_succ (at_succ (at_succ (at_succ (at_succ (at_succ (at_succ (at_succ (at_succ (at_succ (at_succ (at_succ (at_succ (at_succ at45)))))))))))))))))) (hx := fun _ => by kernel_rfl) (h := fun _ S => (subQ x x _ _ _ _ _ _ _ _ _ _ _ _ _ ⟨S.r 43 rfl, S.r 42 rfl⟩ ⟨S.r 43 rfl, S.r 42 rfl⟩ (x8.out.mono (by decide)) (x8.out.mono (by decide))).mono ?_)
    rintro e w39 ⟨A20, n20, c20, D20, m20, d20, rfl, Q20, bb⟩
    refine ⟨bb, _, [(D20, m20, d20, dn (x - x)), (A20, n20, c20, limbs (x - x).num.natAbs)], rfl, (rd_cons Q20.d (rd_cons Q20.n rd_nil)), ?_⟩
    clear bb S Q20
    refine RW.c (i := 64) (args := #[.agg #[.bool (ng (x - x).num), .slice A20 n20 c20, .slice D20 m20 d20]]) (some 117) hzk.out (at_succ (at_succ (at_succ (at_succ (at_succ (at_succ (at_succ (at_succ (at_succ (at_succ (at_succ (at_succ (at_succ (at_succ (at_succ (at_succ (at_succ (at_succ (at_succ at45))))))))))))))))))) (hx := fun _ => by kernel_rfl) (h := fun _ S => (signZ x _ _ _ _ _ _ _ ⟨S.r 1 rfl, S.r 0 rfl⟩ ((x8.out.sub x8.out).mono (by decide))).mono ?_)
    rintro e w40 ⟨rfl, bb⟩
    refine ⟨bb, _, [], rfl, rd_nil, ?_⟩
    clear bb S
    refine RW.t (i := 65) (v := .bool true) (some 118) (at_succ (at_succ (at_succ (at_succ (at_succ (at_succ (at_succ (at_succ (at_succ (at_succ (at_succ (at_succ (at_succ (at_succ (at_succ (at_succ (at_succ (at_succ (at_succ (at_succ at45)))))))))))))))))))) (hy := fun _ _ => by go_simp) (h := ?_)
    refine RW.t (i := 66) (v := .bool true) (some 119) (at_succ (at_succ (at_succ (at_succ (at_succ (at_succ (at_succ (at_succ (at_succ (at_succ (at_succ (at_succ (at_succ (at_succ (at_succ (at_succ (at_succ (at_succ (at_succ (at_succ (at_succ at45))))))))))))))))))))) (hy := fun _ _ => by kernel_rfl) (h := ?_)
    refine RW.tail hzk.out (by kernel_rfl) ?_
    intro gs w41 hgs hS S
    obtain rfl := len0 hgs
    clear hS hgs hzk
    simp only [mark, fill, Act.put, List.setIfInBounds_toArray, List.set_cons_zero, List.set_cons_succ]
    replace S := Lib.hid S
    refine Wk.o (i := 67) (at_succ (at_succ (at_succ (at_succ (at_succ (at_succ (at_succ (at_succ (at_succ (at_succ (at_succ (at_succ (at_succ (at_succ (at_succ (at_succ (at_succ (at_succ (at_succ (at_succ (at_succ (at_succ at45)))))))))))))))))))))) (by kernel_rfl) fun K' hK => ?_
    go_simp
    have SN := S.out
    clear S
    have S := SN
    clear SN
    refine hK.out _ _ ⟨(S.cb 3 rfl), (S.cb 2 rfl), (S.cb 1 rfl)⟩ ?_
    clear hK K'
    replace S := Lib.hid S
    try simp only [Act.put, List.setIfInBounds_toArray, List.set_cons_zero, List.set_cons_succ]
    refine Wk.done (by kernel_rfl) ?_
    go_simp
    replace S := S.out
    have S : St w _ [(g_q, #[.bool (ng (x * y / y).num), .slice A2 n2 c2, .slice D2 m2 d2], 26), (w.heap.size + 1 + 1, #[.bool (ng z.num), .slice A'' n'' c'', .slice D'' m'' d''], 26), (w.heap.size + 1, #[.bool (ng y.num), .slice A' n' c', .slice D' m' d'], 26), (w.heap.size, #[.bool (ng x.num), .slice A n c, .slice D m d], 26)] [(D20, m20, d20, dn (x - x)), (A20, n20, c20, limbs (x - x).num.natAbs), (D19, m19, d19, dn ((x * y) + (x * z))), (A19, n19, c19, limbs ((x * y) + (x * z)).num.natAbs), (D18, m18, d18, dn (x * z)), (A18, n18, c18, limbs (x * z).num.natAbs), (D17, m17, d17, dn (x * y)), (A17, n17, c17, limbs (x * y).num.natAbs), (D16, m16, d16, dn (x * (y + z))), (A16, n16, c16, limbs (x * (y + z)).num.natAbs), (D15, m15, d15, dn (y + z)), (A15, n15, c15, limbs (y + z).num.natAbs), (D14, m14, d14, dn (x * (y * z))), (A14, n14, c14, limbs (x * (y * z)).num.natAbs), (D13, m13, d13, dn (y * z)), (A13, n13, c13, limbs (y * z).num.natAbs), (D12, m12, d12, dn ((x * y) * z)), (A12, n12, c12, limbs ((x * y) * z).num.natAbs), (D11, m11, d11, dn (x * y)), (A11, n11, c11, limbs (x * y).num.natAbs), (D10, m10, d10, dn (x + (y + z))), (A10, n10, c10, limbs (x + (y + z)).num.natAbs), (D9, m9, d9, dn (y + z)), (A9, n9, c9, limbs (y + z).num.natAbs), (D8, m8, d8, dn ((x + y) + z)), (A8, n8, c8, limbs ((x + y) + z).num.natAbs), (D7, m7, d7, dn (x + y)), (A7, n7, c7, limbs (x + y).num.natAbs), (D6, m6, d6, dn (y * x)), (A6, n6, c6, limbs (y * x).num.natAbs), (D5, m5, d5, dn (x * y)), (A5, n5, c5, limbs (x * y).num.natAbs), (D4, m4, d4, dn (y + x)), (A4, n4, c4, limbs (y + x).num.natAbs), (D3, m3, d3, dn (x + y)), (A3, n3, c3, limbs (x + y).num.natAbs), (D2, m2, d2, dn (x * y / y)), (A2, n2, c2, limbs (x * y / y).num.natAbs), (D1, m1, d1, dn (x * y)), (A1, n1, c1, limbs (x * y).num.natAbs), (D'', m'', d'', dn z), (A'', n'', c'', limbs z.num.natAbs), (D', m', d', dn y), (A', n', c', limbs y.num.natAbs), (D, m, d, dn x), (A, n, c, limbs x.num.natAbs)] := S
    replace S := Lib.hid S
    replace S := S.out
    replace S := Lib.hid S
    have S : St w _ [(g_q, #[.bool (ng (x * y / y).num), .slice A2 n2 c2, .slice D2 m2 d2], 26), (w.heap.size + 1 + 1, #[.bool (ng z.num), .slice A'' n'' c'', .slice D'' m'' d''], 26), (w.heap.size + 1, #[.bool (ng y.num), .slice A' n' c', .slice D' m' d'], 26), (w.heap.size, #[.bool (ng x.num), .slice A n c, .slice D m d], 26)] [(D20, m20, d20, dn (x - x)), (A20, n20, c20, limbs (x - x).num.natAbs), (D19, m19, d19, dn ((x * y) + (x * z))), (A19, n19, c19, limbs ((x * y) + (x * z)).num.natAbs), (D18, m18, d18, dn (x * z)), (A18, n18, c18, limbs (x * z).num.natAbs), (D17, m17, d17, dn (x * y)), (A17, n17, c17, limbs (x * y).num.natAbs), (D16, m16, d16, dn (x * (y + z))), (A16, n16, c16, limbs (x * (y + z)).num.natAbs), (D15, m15, d15, dn (y + z)), (A15, n15, c15, limbs (y + z).num.natAbs), (D14, m14, d14, dn (x * (y * z))), (A14, n14, c14, limbs (x * (y * z)).num.natAbs), (D13, m13, d13, dn (y * z)), (A13, n13, c13, limbs (y * z).num.natAbs), (D12, m12, d12, dn ((x * y) * z)), (A12, n12, c12, limbs ((x * y) * z).num.natAbs), (D11, m11, d11, dn (x * y)), (A11, n11, c11, limbs (x * y).num.natAbs), (D10, m10, d10, dn (x + (y + z))), (A10, n10, c10, limbs (x + (y + z)).num.natAbs), (D9, m9, d9, dn (y + z)), (A9, n9, c9, limbs (y + z).num.natAbs), (D8, m8, d8, dn ((x + y) + z)), (A8, n8, c8, limbs ((x + y) + z).num.natAbs), (D7, m7, d7, dn (x + y)), (A7, n7, c7, limbs (x + y).num.natAbs), (D6, m6, d6, dn (y * x)), (A6, n6, c6, limbs (y * x).num.natAbs), (D5, m5, d5, dn (x * y)), (A5, n5, c5, limbs (x * y).num.natAbs), (D4, m4, d4, dn (y + x)), (A4, n4, c4, limbs (y + x).num.natAbs), (D3, m3, d3, dn (x + y)), (A3, n3, c3, limbs (x + y).num.natAbs), (D2, m2, d2, dn (x * y / y)), (A2, n2, c2, limbs (x * y / y).num.natAbs), (D1, m1, d1, dn (x * y)), (A1, n1, c1, limbs (x * y).num.natAbs), (D'', m'', d'', dn z), (A'', n'', c'', limbs z.num.natAbs), (D', m', d', dn y), (A', n', c', limbs y.num.natAbs), (D, m, d, dn x), (A, n, c, limbs x.num.natAbs)] := S.out
    replace S := Lib.hid S
    go_wp2
    go_ret
    exact ⟨rfl, S.out.bel⟩
end Go.Proofs.YtgpgpkkgpedifaaGreatDoor
