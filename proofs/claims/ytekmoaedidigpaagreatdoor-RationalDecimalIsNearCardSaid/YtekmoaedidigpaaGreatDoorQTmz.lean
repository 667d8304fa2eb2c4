/- The reference's Neg, Add, Sub, Compare, Mul, Quo, Div, Floor, Abs, FromInt of rational. The reference's Floor, Abs, FromInt of rational. -/
import Derived.Test.YtekmoaedidigpaaGreatDoorQTkz
import Derived.Test.YtekmoaedidigpaaGreatDoorQSaz
import Derived.Test.YtekmoaedidigpaaGreatDoorIi
import Derived.Test.YtekmoaedidigpaaGreatDoorIq
import Derived.Test.YtekmoaedidigpaaGreatDoorQIlz
namespace Go.Proofs.YtekmoaedidigpaaGreatDoor
open Go.RowKit RQ
theorem rmul_uu {P g : Nat} (h1 : (limbs P).length ≤ 500) (h2 : (limbs g).length ≤ 500) (W : World) (A : Option Addr) (n c : Nat) (A' : Option Addr) (n' c' : Nat) (q1 : Rd W A n c (limbs P)) (q2 : Rd W A' n' c' (limbs g)) :
    Calls Tryz.prog 63 #[.agg #[.bool false, .slice A n c], .agg #[.bool false, .slice A' n' c']] W (RetI ((P : Int) * (g : Int)) W) := by
  have := rmulI_any false A n c _ false A' n' c' _ W q1 q2 (by rw [← q1.len]; exact h1) (by rw [← q2.len]; exact h2)
  rwa [iv_pos, iv_pos] at this
theorem rmul_ii {z y : Int} (h1 : (limbs z.natAbs).length ≤ 500) (h2 : (limbs y.natAbs).length ≤ 500) (W : World) (A : Option Addr) (n c : Nat) (A' : Option Addr) (n' c' : Nat) (q1 : Rd W A n c (limbs z.natAbs)) (q2 : Rd W A' n' c' (limbs y.natAbs)) :
    Calls Tryz.prog 63 #[.agg #[.bool (ng z), .slice A n c], .agg #[.bool (ng y), .slice A' n' c']] W (RetI (z * y) W) := by
  have := rmulI_any (ng z) A n c _ (ng y) A' n' c' _ W q1 q2 (by rw [← q1.len]; exact h1) (by rw [← q2.len]; exact h2)
  rwa [iv_z, iv_z] at this
theorem rover_ii {u v : Int} (h1 : (limbs u.natAbs).length ≤ 400) (h2 : (limbs v.natAbs).length ≤ 400) (hv : v ≠ 0) (W : World) (A : Option Addr) (n c : Nat) (A' : Option Addr) (n' c' : Nat) (q1 : Rd W A n c (limbs u.natAbs)) (q2 : Rd W A' n' c' (limbs v.natAbs)) :
    Calls Tryz.prog 32 #[.agg #[.bool (ng u), .slice A n c], .agg #[.bool (ng v), .slice A' n' c']] W (RetR (Rat.divInt u v) W) :=
  rover_any u v A n c A' n' c' W q1 q2 (by rw [← q1.len]; exact h1) (by rw [← q2.len]; exact h2) hv
theorem rden_u (x : Rat) (hs : Rs x 200) (W : World) (A : Option Addr) (n c : Nat) (D : Option Addr) (m d : Nat) (R : RR W A n c D m d x) :
    Calls Tryz.prog 64 #[.agg #[.bool (ng x.num), .slice A n c, .slice D m d]] W (RetU x.den W) := by
  have := R.lens hs
  exact rden_any x A n c D m d W R (by omega)
theorem nat_abs_len {g p : Nat} (h : (limbs g).length ≤ p) : (limbs ((g : Int)).natAbs).length ≤ p := by rwa [Int.natAbs_natCast]
theorem res_rMul (W : World) (tmps : Array Value) (g t : Nat) {v0 v1 v2 : Value} (ht : tmps.getD 4 undef = .pointer (some ⟨g, 0, none⟩)) (h : Cb W g #[v0, v1, v2] t) :
    (results Tryz.f17 tmps).run Tryz.prog W = .ok (.agg #[v0, v1, v2]) W := by
  have c0 : W.cell? ⟨g, 0, none⟩ = some v0 := h.cell rfl
  have c1 : W.cell? ⟨g, 1, none⟩ = some v1 := h.cell rfl
  have c2 : W.cell? ⟨g, 2, none⟩ = some v2 := h.cell rfl
  have ht' : tmps[4]?.getD undef = .pointer (some ⟨g, 0, none⟩) := by rw [← ht]; simp [Array.getD_eq_getD_getElem?]
  simp [results, Tryz.results17, go_sem, ht', c0, c1, c2]

set_option maxRecDepth 100000 in
set_option maxHeartbeats 8000000 in
theorem Fmul_any (b : Bool) (A : Option Addr) (n c : Nat) (xs : List Nat) (D : Option Addr) (m d : Nat) (ds : List Nat) (b' : Bool) (A' : Option Addr) (n' c' : Nat) (ys : List Nat) (D' : Option Addr) (m' d' : Nat) (es : List Nat) (w : World) (R1 : Rd w A n c xs) (R2 : Rd w D m d ds) (R3 : Rd w A' n' c' ys) (R4 : Rd w D' m' d' es) (hn : n ≤ 99) (hm : m ≤ 99) (hn' : n' ≤ 99) (hm' : m' ≤ 99) : Calls Tryz.prog 17 #[.agg #[.bool b, .slice A n c, .slice D m d], .agg #[.bool b', .slice A' n' c', .slice D' m' d']] w (RetR (rv b xs ds * rv b' ys es) w) := by
  have h1 : Rs (rv b xs ds) 99 := Rs.of R1.sm R2.sm (Nat.le_trans (Nat.le_of_eq R1.len) hn) (Nat.le_trans (Nat.le_of_eq R2.len) hm) (by decide)
  have h2 : Rs (rv b' ys es) 99 := Rs.of R3.sm R4.sm (Nat.le_trans (Nat.le_of_eq R3.len) hn') (Nat.le_trans (Nat.le_of_eq R4.len) hm') (by decide)
  have hK1 := fun W h h' => rtakeR_any b A n c xs D m d ds W h h' (by omega) (by omega)
  have hK2 := fun W h h' => rtakeR_any b' A' n' c' ys D' m' d' es W h h' (by omega) (by omega)
  generalize rv b xs ds = x at *
  generalize rv b' ys es = y at *
  have kx : (limbs x.num.natAbs).length ≤ 99 := limbs_len_le.2 h1.n
  have ky : (limbs y.num.natAbs).length ≤ 99 := limbs_len_le.2 h2.n
  have kp : (limbs x.den).length ≤ 99 := limbs_len_le.2 h1.d
  have kq : (limbs y.den).length ≤ 99 := limbs_len_le.2 h2.d
  have hX := Lib.hid (rden_u x (h1.mono (by decide)))
  have hY := Lib.hid (rden_u y (h2.mono (by decide)))
  obtain ⟨zn, e3⟩ : ∃ zn : Int, zn = x.num * y.num := ⟨_, rfl⟩
  obtain ⟨zd, e4⟩ : ∃ zd : Int, zd = (x.den : Int) * (y.den : Int) := ⟨_, rfl⟩
  have k3 : (limbs zn.natAbs).length ≤ 198 := by rw [e3]; exact mulI_len2 kx ky
  have k4 : (limbs zd.natAbs).length ≤ 198 := by rw [e4]; exact mulI_len2 (nat_abs_len kp) (nat_abs_len kq)
  have hM1 := Lib.hid (rmul_ii (z := x.num) (y := y.num) (by omega) (by omega))
  have hM3 := Lib.hid (rmul_uu (P := x.den) (g := y.den) (by omega) (by omega))
  have hO := Lib.hid (rover_ii (u := zn) (v := zd) (by omega) (by omega) (by rw [e4]; have := den_mul_pos x y; omega))
  rw [← e3] at hM1; rw [← e4] at hM3
  rw [show Rat.divInt zn zd = x * y by rw [e3, e4, ← mul_eq]] at hO
  generalize x * y = q at *
  clear e3 e4 k3 k4
  replace hK1 := Lib.hid hK1
  replace hK2 := Lib.hid hK2
  have S := ((((((((St.new w).read R1).read R2).read R3).read R4).allocAt (w.heap.size) #[.bool b, .slice A n c, .slice D m d] 26 (noL3 _ _ _ _ _ _ _) (by simp)).allocAt (w.heap.size + 1) #[.bool b', .slice A' n' c', .slice D' m' d'] 26 (noL3 _ _ _ _ _ _ _) (by simp)).allocAt (w.heap.size + 1 + 1) #[.bool false, .slice none 0 0, .slice none 0 0] 26 (noL3 _ _ _ _ _ _ _) (by simp))
  replace S := Lib.hid S
  clear R1 R2 R3 R4 hn hm hn' hm' h1 h2 kx ky kp kq
  go_enter Tryz.func17, Tryz.ntmps17
  go_upto_region 1 with fail
  have S := S.out
  generalize hW1 : (World.alloc (World.alloc (World.alloc w (.cells #[.bool b, .slice A n c, .slice D m d] 26)) (.cells #[.bool b', .slice A' n' c', .slice D' m' d'] 26)) (.cells #[.bool false, .slice none 0 0, .slice none 0 0] 26)) = w1 at S ⊢
  clear hW1
  replace S := Lib.hid S
  have d_x0 := St.cl (S.out) 2 0 rfl rfl
  have d_x1 := St.cl (S.out) 2 1 rfl rfl
  have d_x2 := St.cl (S.out) 2 2 rfl rfl
  have d_y0 := St.cl (S.out) 1 0 rfl rfl
  have d_y1 := St.cl (S.out) 1 1 rfl rfl
  have d_y2 := St.cl (S.out) 1 2 rfl rfl
  have dz_x0 := St.f (S.out) 2 0 rfl
  have dz_x1 := St.f (S.out) 2 1 rfl
  have dz_x2 := St.f (S.out) 2 2 rfl
  have dz_y0 := St.f (S.out) 1 0 rfl
  have dz_y1 := St.f (S.out) 1 1 rfl
  have dz_y2 := St.f (S.out) 1 2 rfl
  go_cut [] (fun wx => ∃ A1 n1 c1 D1 m1 d1 A2 n2 c2 D2 m2 d2, St w wx [(w.heap.size + 1 + 1, #[.bool false, .slice none 0 0, .slice none 0 0], 26), (w.heap.size + 1, #[.bool (ng y.num), .slice A2 n2 c2, .slice D2 m2 d2], 26), (w.heap.size, #[.bool (ng x.num), .slice A1 n1 c1, .slice D1 m1 d1], 26)] [(D2, m2, d2, dn y), (A2, n2, c2, limbs y.num.natAbs), (D1, m1, d1, dn x), (A1, n1, c1, limbs x.num.natAbs), (D', m', d', es), (A', n', c', ys), (D, m, d, ds), (A, n, c, xs)])
  case first =>
    have SD := Lib.hid (S.out.drew)
    go_region_with (first
      | (go_at_call_of 39 (Value.agg #[.bool b, .slice A n c, .slice D m d]); refine (hK1.out _ (SD.out.r 3 rfl) (SD.out.r 2 rfl)).mono ?_; rintro e w2 ⟨A1, n1, c1, D1, m1, d1, rfl, Q1, bb0⟩; have S0 : St w w2 [(w.heap.size + 1 + 1, #[.bool false, .slice none 0 0, .slice none 0 0], 26), (w.heap.size + 1, #[.bool b', .slice A' n' c', .slice D' m' d'], 26), (w.heap.size, #[.bool b, .slice A n c, .slice D m d], 26)] [(D1, m1, d1, dn x), (A1, n1, c1, limbs x.num.natAbs), (D', m', d', es), (A', n', c', ys), (D, m, d, ds), (A, n, c, xs)] := (((SD.out.call bb0).read Q1.n).read Q1.d); have e0_y0 := St.cl (S0) 1 0 rfl rfl; have e0_y1 := St.cl (S0) 1 1 rfl rfl; have e0_y2 := St.cl (S0) 1 2 rfl rfl)
      | (go_at_call_of 39 (Value.agg #[.bool b', .slice A' n' c', .slice D' m' d']); refine (hK2.out _ (S0.r 3 rfl) (S0.r 2 rfl)).mono ?_; rintro e w3 ⟨A2, n2, c2, D2, m2, d2, rfl, Q2, bb1⟩; have S1 : St w w3 [(w.heap.size + 1 + 1, #[.bool false, .slice none 0 0, .slice none 0 0], 26), (w.heap.size + 1, #[.bool b', .slice A' n' c', .slice D' m' d'], 26), (w.heap.size, #[.bool b, .slice A n c, .slice D m d], 26)] [(D2, m2, d2, dn y), (A2, n2, c2, limbs y.num.natAbs), (D1, m1, d1, dn x), (A1, n1, c1, limbs x.num.natAbs), (D', m', d', es), (A', n', c', ys), (D, m, d, ds), (A, n, c, xs)] := (((S0.call bb1).read Q2.n).read Q2.d); have e1_x0 := St.cl (S1) 2 0 rfl rfl; have e1_x1 := St.cl (S1) 2 1 rfl rfl; have e1_x2 := St.cl (S1) 2 2 rfl rfl; have e1_y0 := St.cl (S1) 1 0 rfl rfl; have e1_y1 := St.cl (S1) 1 1 rfl rfl; have e1_y2 := St.cl (S1) 1 2 rfl rfl; have e1z_x0 := St.f (S1) 2 0 rfl; have e1z_x1 := St.f (S1) 2 1 rfl; have e1z_x2 := St.f (S1) 2 2 rfl; have e1z_y0 := St.f (S1) 1 0 rfl; have e1z_y1 := St.f (S1) 1 1 rfl; have e1z_y2 := St.f (S1) 1 2 rfl))
    all_goals
      have SE := Lib.hid (((((((S1.set 2 0 (.bool (ng x.num)) rfl (by nofun)).set 2 1 (.slice A1 n1 c1) rfl (by nofun)).set 2 2 (.slice D1 m1 d1) rfl (by nofun)).set 1 0 (.bool (ng y.num)) rfl (by nofun)).set 1 1 (.slice A2 n2 c2) rfl (by nofun)).set 1 2 (.slice D2 m2 d2) rfl (by nofun)))
      clear d_x0 d_x1 d_x2 d_y0 d_y1 d_y2 dz_x0 dz_x1 dz_x2 dz_y0 dz_y1 dz_y2 e0_y0 e0_y1 e0_y2 e1_x0 e1_x1 e1_x2 e1_y0 e1_y1 e1_y2 e1z_x0 e1z_x1 e1z_x2 e1z_y0 e1z_y1 e1z_y2
      go_wp2_with fail
      go_meet
      exact ⟨_, _, _, _, _, _, _, _, _, _, _, _, SE.out⟩
  case rest =>
    clear d_x0 d_x1 d_x2 d_y0 d_y1 d_y2 dz_x0 dz_x1 dz_x2 dz_y0 dz_y1 dz_y2
    clear S
    obtain ⟨A1, n1, c1, D1, m1, d1, A2, n2, c2, D2, m2, d2, S⟩ := hcut
    obtain ⟨c_r0, c_r1, c_r2, f_r0, f_r1, f_r2⟩ := S.cf3 0 rfl
    obtain ⟨c_y0, c_y1, c_y2, f_y0, f_y1, f_y2⟩ := S.cf3 1 rfl
    obtain ⟨c_x0, c_x1, c_x2, f_x0, f_x1, f_x2⟩ := S.cf3 2 rfl
    have hz : w.heap.size + 1 + 1 < wc.heap.size := S.lt 0 rfl
    replace S := Lib.hid S
    clear hK1 hK2
    go_upto_region 2 with fail
    clear c_r0 f_r0 c_r1 f_r1 c_r2 f_r2 c_y0 f_y0 c_y1 f_y1 c_y2 f_y2 c_x0 f_x0 c_x1 f_x1 c_x2 f_x2 hz
    refine RW.begin (Z := []) (S := (fun W => Cb W (w.heap.size) #[.bool (ng x.num), .slice A1 n1 c1, .slice D1 m1 d1] 26 ∧ Cb W (w.heap.size + 1) #[.bool (ng y.num), .slice A2 n2 c2, .slice D2 m2 d2] 26)) (by kernel_rfl) ?_ S.out ?_
    · exact ⟨by kernel_rfl, zis_nil, by decide, by decide, nol_nil, (fun _ _ h => ⟨h.kb 2 rfl, h.kb 1 rfl⟩)⟩
    intro hzk
    clear S
    refine RW.t (i := 0) (v := .pointer (some ⟨w.heap.size, 0, none⟩)) (some 9) at0 (hy := fun _ _ => by kernel_rfl) (h := ?_)
    refine RW.t (i := 1) (v := .agg #[.bool (ng x.num), .slice A1 n1 c1]) (some 10) at1 (hy := fun W hS => by (have k0 := Cb.cell (i := 0) hS.1 rfl; have k1 := Cb.cell (i := 1) hS.1 rfl; clear hS; go_simp)) (h := ?_)
    refine RW.t (i := 2) (v := .pointer (some ⟨w.heap.size + 1, 0, none⟩)) (some 11) at2 (hy := fun _ _ => by kernel_rfl) (h := ?_)
    refine RW.t (i := 3) (v := .agg #[.bool (ng y.num), .slice A2 n2 c2]) (some 12) at3 (hy := fun W hS => by (have k0 := Cb.cell (i := 0) hS.2 rfl; have k1 := Cb.cell (i := 1) hS.2 rfl; clear hS; go_simp)) (h := ?_)
    refine RW.t (i := 5) (v := .agg #[.bool (ng x.num), .slice A1 n1 c1, .slice D1 m1 d1]) (some 14) at5 (hy := fun W hS => by (have k0 := Cb.cell (i := 0) hS.1 rfl; have k1 := Cb.cell (i := 1) hS.1 rfl; have k2 := Cb.cell (i := 2) hS.1 rfl; clear hS; go_simp)) (h := ?_)
    refine RW.t (i := 7) (v := .agg #[.bool (ng y.num), .slice A2 n2 c2, .slice D2 m2 d2]) (some 16) at7 (hy := fun W hS => by (have k0 := Cb.cell (i := 0) hS.2 rfl; have k1 := Cb.cell (i := 1) hS.2 rfl; have k2 := Cb.cell (i := 2) hS.2 rfl; clear hS; go_simp)) (h := ?_)
    refine RW.c (i := 4) (args := #[.agg #[.bool (ng x.num), .slice A1 n1 c1], .agg #[.bool (ng y.num), .slice A2 n2 c2]]) (some 13) hzk.out at4 (hx := fun _ => by kernel_rfl) (h := fun _ S => (hM1.out _ _ _ _ _ _ _ (S.r 3 rfl) (S.r 1 rfl)).mono ?_)
    rintro e w5 ⟨A3, n3, c3, rfl, Q3, bb⟩
    refine ⟨bb, _, [(A3, n3, c3, limbs zn.natAbs)], rfl, (rd_cons Q3 rd_nil), ?_⟩
    clear bb S Q3
    refine RW.c (i := 6) (args := #[.agg #[.bool (ng x.num), .slice A1 n1 c1, .slice D1 m1 d1]]) (some 15) hzk.out at6 (hx := fun _ => by kernel_rfl) (h := fun _ S => (hX.out _ _ _ _ _ _ _ ⟨(S.r 4 rfl), (S.r 3 rfl)⟩).mono ?_)
    rintro e w6 ⟨A8, n8, c8, rfl, Q8, bb⟩
    refine ⟨bb, _, [(A8, n8, c8, limbs x.den)], rfl, (rd_cons Q8 rd_nil), ?_⟩
    clear bb S Q8
    refine RW.c (i := 8) (args := #[.agg #[.bool (ng y.num), .slice A2 n2 c2, .slice D2 m2 d2]]) (some 17) hzk.out at8 (hx := fun _ => by kernel_rfl) (h := fun _ S => (hY.out _ _ _ _ _ _ _ ⟨(S.r 3 rfl), (S.r 2 rfl)⟩).mono ?_)
    rintro e w7 ⟨A9, n9, c9, rfl, Q9, bb⟩
    refine ⟨bb, _, [(A9, n9, c9, limbs y.den)], rfl, (rd_cons Q9 rd_nil), ?_⟩
    clear bb S Q9
    refine RW.c (i := 9) (args := #[.agg #[.bool false, .slice A8 n8 c8], .agg #[.bool false, .slice A9 n9 c9]]) (some 18) hzk.out at9 (hx := fun _ => by kernel_rfl) (h := fun _ S => (hM3.out _ _ _ _ _ _ _ (S.r 1 rfl) (S.r 0 rfl)).mono ?_)
    rintro e w8 ⟨A10, n10, c10, rfl, Q10, bb⟩
    refine ⟨bb, _, [(A10, n10, c10, limbs zd.natAbs)], rfl, (rd_cons Q10 rd_nil), ?_⟩
    clear bb S Q10
    refine RW.c (i := 10) (args := #[.agg #[.bool (ng zn), .slice A3 n3 c3], .agg #[.bool (ng zd), .slice A10 n10 c10]]) (some 19) hzk.out at10 (hx := fun _ => by kernel_rfl) (h := fun _ S => (hO.out _ _ _ _ _ _ _ (S.r 3 rfl) (S.r 0 rfl)).mono ?_)
    rintro e w9 ⟨A11, n11, c11, D11, m11, d11, rfl, Q11, bb⟩
    refine ⟨bb, _, [(D11, m11, d11, dn q), (A11, n11, c11, limbs q.num.natAbs)], rfl, (rd_cons Q11.d (rd_cons Q11.n rd_nil)), ?_⟩
    clear bb S Q11
    refine RW.tail hzk.out (by kernel_rfl) ?_
    intro gs w10 hgs hS S
    obtain rfl := len0 hgs
    clear hS hgs hzk
    simp only [mark, fill, Act.put, List.setIfInBounds_toArray, List.set_cons_zero, List.set_cons_succ]
    replace S := Lib.hid S
    refine Wk.o (i := 11) at11 (by kernel_rfl) fun K' hK => ?_
    have q11_r0 := St.cl (S.out) 0 0 rfl rfl
    have q11_r1 := St.cl (S.out) 0 1 rfl rfl
    have q11_r2 := St.cl (S.out) 0 2 rfl rfl
    have q11z_r0 := St.f (S.out) 0 0 rfl
    have q11z_r1 := St.f (S.out) 0 1 rfl
    have q11z_r2 := St.f (S.out) 0 2 rfl
    go_simp
    have SN := (((S.out.set 0 0 (.bool (ng q.num)) rfl (by nofun)).set 0 1 (.slice A11 n11 c11) rfl (by nofun)).set 0 2 (.slice D11 m11 d11) rfl (by nofun))
    clear S q11_r0 q11_r1 q11_r2 q11z_r0 q11z_r1 q11z_r2
    have S := SN
    clear SN
    refine hK.out _ _ ⟨(S.cb 2 rfl), (S.cb 1 rfl)⟩ ?_
    clear hK K'
    replace S := Lib.hid S
    try simp only [Act.put, List.setIfInBounds_toArray, List.set_cons_zero, List.set_cons_succ]
    refine Wk.done (by kernel_rfl) ?_
    go_simp
    replace S := S.out
    have S : St w _ [(w.heap.size + 1 + 1, #[.bool (ng q.num), .slice A11 n11 c11, .slice D11 m11 d11], 26), (w.heap.size + 1, #[.bool (ng y.num), .slice A2 n2 c2, .slice D2 m2 d2], 26), (w.heap.size, #[.bool (ng x.num), .slice A1 n1 c1, .slice D1 m1 d1], 26)] [(D11, m11, d11, dn q), (A11, n11, c11, limbs q.num.natAbs), (A10, n10, c10, limbs zd.natAbs), (A9, n9, c9, limbs y.den), (A8, n8, c8, limbs x.den), (A3, n3, c3, limbs zn.natAbs), (D2, m2, d2, dn y), (A2, n2, c2, limbs y.num.natAbs), (D1, m1, d1, dn x), (A1, n1, c1, limbs x.num.natAbs), (D', m', d', es), (A', n', c', ys), (D, m, d, ds), (A, n, c, xs)] := S
    generalize hW11 : (World.setCell (World.setCell (World.setCell w10 ⟨w.heap.size + 1 + 1, 0, none⟩ (.bool (ng q.num))) ⟨w.heap.size + 1 + 1, 1, none⟩ (.slice A11 n11 c11)) ⟨w.heap.size + 1 + 1, 2, none⟩ (.slice D11 m11 d11)) = w11 at S ⊢
    clear hW11
    replace S := Lib.hid S
    replace S := S.out
    replace S := Lib.hid S
    have S := S.out
    replace S := Lib.hid S
    go_wp2
    refine bodyPost_ret (res_rMul _ _ (w.heap.size + 1 + 1) 26 rfl (S.out.bk _ (List.mem_of_getElem? (i := 0) rfl)).1) rfl ?_
    exact ⟨_, _, _, _, _, _, rfl, ⟨S.out.r 1 rfl, S.out.r 0 rfl⟩, S.out.bel⟩
end Go.Proofs.YtekmoaedidigpaaGreatDoor

namespace Go.Proofs.YtekmoaedidigpaaGreatDoor
open Go.RowKit RQ
end Go.Proofs.YtekmoaedidigpaaGreatDoor
