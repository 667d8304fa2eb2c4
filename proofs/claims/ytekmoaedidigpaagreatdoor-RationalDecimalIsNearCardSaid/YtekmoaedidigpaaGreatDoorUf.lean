/- The law RationalDecimalIsNear. -/
import Derived.Test.YtekmoaedidigpaaGreatDoorUb
import Derived.Test.YtekmoaedidigpaaGreatDoorQTmz
import Derived.Test.YtekmoaedidigpaaGreatDoorQScz
namespace Go.Proofs.YtekmoaedidigpaaGreatDoor
open Go.RowKit RQ
theorem cmp_le1 {x : Rat} (h : x ≤ 1) : cmpq x ((1 : Int) : Rat) ≤ 0 := by
  rcases Int.lt_or_le 0 (cmpq x ((1 : Int) : Rat)) with h1 | h1
  · exact absurd h (Rat.not_le.2 (cmpq_pos.1 h1))
  · exact h1
theorem pow10_mul {k : Nat} (hk : 64 < k) : (((10 ^ 64 : Nat) : Int) : Rat) * (((10 ^ (k - 64) : Nat) : Int) : Rat) = (((10 ^ k : Nat) : Int) : Rat) := by
  rw [← Rat.intCast_mul, ← Int.natCast_mul, ← Nat.pow_add, show 64 + (k - 64) = k by omega]
theorem pow10_size {k : Nat} (hk : k ≤ 100) : Rs (((10 ^ k : Nat) : Int) : Rat) 12 := Rs.int (by rw [Int.natAbs_natCast]; exact pow10_small hk) (by decide)
theorem int_parts (z : Int) : ng (z : Rat).num = ng z ∧ limbs (z : Rat).num.natAbs = limbs z.natAbs ∧ dn (z : Rat) = [] := ⟨rfl, rfl, rfl⟩
theorem ng_nat (N : Nat) : ng ((N : Int) : Rat).num = false := decide_eq_false (show ¬ ((N : Int) < 0) by omega)
theorem rv_nat (N : Nat) : rv false (limbs N) [] = ((N : Int) : Rat) := by
  have := rv_z ((N : Int) : Rat)
  rwa [ng_nat] at this
set_option maxRecDepth 100000 in
set_option maxHeartbeats 16000000 in
theorem law_near (b : Bool) (A : Option Addr) (n c : Nat) (xs : List Nat) (D : Option Addr) (m d : Nat) (ds : List Nat) (v : Int) (w : World) (R1 : Rd w A n c xs) (m1 : n ≤ 9223372036854775807) (R2 : Rd w D m d ds) (m2 : m ≤ 9223372036854775807) (h0 : -9223372036854775808 ≤ v) (h1 : v ≤ 9223372036854775807) (htab : Tab w) :
    Calls Tryz.prog 4 #[.agg #[.bool b, .slice A n c, .slice D m d], .int .i64 v] w fun e w' => e = .returned (.bool true) ∧ Below w.heap.size w w' := by
  have hA := Lib.hid (fun W t => awakeR_any W t)
  replace htab := Lib.hid htab
  have hL := fun W => lightR_any b A n c D m d W m1 m2
  have S := ((((St.new w).read R1).read R2).allocAt (w.heap.size) #[.bool b, .slice A n c, .slice D m d] 26 (noL3 _ _ _ _ _ _ _) (by simp))
  replace S := Lib.hid S
  cases hb : lightB n m
  · rw [hb] at hL
    replace hL := Lib.hid hL
    clear hb m1 m2 R1 R2 h0 h1
    go_enter Tryz.func4, Tryz.ntmps4
    go_wp2_with fail
    refine (hL.out _).mono ?_
    rintro e w1 ⟨rfl, bb⟩
    have T := (S.out.call bb)
    clear bb S
    have S := T
    clear T
    obtain ⟨c_x0, c_x1, c_x2⟩ := S.c3 0 rfl
    have hz : w.heap.size < w1.heap.size := S.lt 0 rfl
    replace S := Lib.hid S
    go_wp2_with fail
    refine (hA.out _ (tab_below htab.out S.out.bel)).mono ?_
    rintro e w2 ⟨rfl, bb⟩
    have T := (S.out.call bb)
    clear bb S c_x0 c_x1 c_x2 hz
    have S := T
    clear T
    obtain ⟨c_x0, c_x1, c_x2⟩ := S.c3 0 rfl
    have hz : w.heap.size < w2.heap.size := S.lt 0 rfl
    replace S := Lib.hid S
    have S := S.out
    replace S := Lib.hid S
    go_wp2
    go_ret
    exact ⟨rfl, S.out.bel⟩
  rw [hb] at hL
  have hV := fun W q1 q2 => rvalidR_any b A n c xs D m d ds W q1 q2 (light_le hb).1 (light_le hb).2
  cases hv : vldR b xs ds
  · rw [hv] at hV
    replace hL := Lib.hid hL
    replace hV := Lib.hid hV
    clear hv hb m1 m2 R1 R2 h0 h1
    go_enter Tryz.func4, Tryz.ntmps4
    go_wp2_with fail
    refine (hL.out _).mono ?_
    rintro e w1 ⟨rfl, bb⟩
    have T := (S.out.call bb)
    clear bb S
    have S := T
    clear T
    obtain ⟨c_x0, c_x1, c_x2⟩ := S.c3 0 rfl
    have hz : w.heap.size < w1.heap.size := S.lt 0 rfl
    replace S := Lib.hid S
    go_wp2_with fail
    refine (hV.out _ (S.out.r 1 rfl) (S.out.r 0 rfl)).mono ?_
    rintro e w2 ⟨rfl, bb⟩
    have T := (S.out.call bb)
    clear bb S c_x0 c_x1 c_x2 hz
    have S := T
    clear T
    obtain ⟨c_x0, c_x1, c_x2⟩ := S.c3 0 rfl
    have hz : w.heap.size < w2.heap.size := S.lt 0 rfl
    replace S := Lib.hid S
    go_wp2_with fail
    refine (hA.out _ (tab_below htab.out S.out.bel)).mono ?_
    rintro e w3 ⟨rfl, bb⟩
    have T := (S.out.call bb)
    clear bb S c_x0 c_x1 c_x2 hz
    have S := T
    clear T
    obtain ⟨c_x0, c_x1, c_x2⟩ := S.c3 0 rfl
    have hz : w.heap.size < w3.heap.size := S.lt 0 rfl
    replace S := Lib.hid S
    have S := S.out
    replace S := Lib.hid S
    go_wp2
    go_ret
    exact ⟨rfl, S.out.bel⟩
  rw [hv] at hV
  have q8 := Lib.hid (rs_light R1 R2 hb (b := b))
  obtain ⟨e1, e2, e3⟩ := canonR R1.sm R2.sm hv
  generalize rv b xs ds = q at *
  subst e1; subst e2; subst e3
  have hMd := Lib.hid (fun W => mod_any v W h0 h1)
  replace hL := Lib.hid hL
  replace hV := Lib.hid hV
  have hPw : Hid (∀ W A n c (j : Nat), j ≤ 64 → Rd W A n c (limbs 10) → Calls Tryz.prog 16 #[.slice A n c, .int .i64 (j : Int)] W (RetN (10 ^ j) W)) := Lib.hid fun W A n c j hj h => by
    have l : n ≤ 1 := by rw [← h.len]; exact limbs_len_le.2 (by decide)
    have := rpower3_any A n c _ (j : Int) W h (by omega)
    rwa [num_limbs, show powV 10 (j : Int) = 10 ^ j from by unfold powV; rw [if_pos (by omega), Int.toNat_natCast]] at this
  have hLit : Hid (∀ (W0 : World) (g : Nat), W0.heap.size = g → Rd (W0.alloc (.cells #[.int .u32 10] 37)) (some ⟨g, 0, none⟩) 1 1 (limbs 10)) := Lib.hid fun W0 g hg => by
    subst hg; exact lit_any (z := 10) (by decide) (by decide) W0 _
  clear hb hv R1 R2 m1 m2 h0 h1
  go_enter Tryz.func4, Tryz.ntmps4
  go_wp2_with fail
  refine (hL.out _).mono ?_
  rintro e w1 ⟨rfl, bb⟩
  have T := (S.out.call bb)
  clear bb S
  have S := T
  clear T
  obtain ⟨c_x0, c_x1, c_x2⟩ := S.c3 0 rfl
  have hz : w.heap.size < w1.heap.size := S.lt 0 rfl
  replace S := Lib.hid S
  go_wp2_with fail
  refine (hV.out _ (S.out.r 1 rfl) (S.out.r 0 rfl)).mono ?_
  rintro e w2 ⟨rfl, bb⟩
  have T := (S.out.call bb)
  clear bb S c_x0 c_x1 c_x2 hz
  have S := T
  clear T
  obtain ⟨c_x0, c_x1, c_x2⟩ := S.c3 0 rfl
  have hz : w.heap.size < w2.heap.size := S.lt 0 rfl
  replace S := Lib.hid S
  clear hL hV
  go_wp2_with fail
  refine (hMd.out _).mono ?_
  rintro e w3 ⟨k, hk, rfl, bb⟩
  have T := (S.out.call bb)
  clear bb S c_x0 c_x1 c_x2 hz
  have S := T
  clear T
  obtain ⟨c_x0, c_x1, c_x2⟩ := S.c3 0 rfl
  have hz : w.heap.size < w3.heap.size := S.lt 0 rfl
  replace S := Lib.hid S
  clear hMd
  replace hk := Lib.hid hk
  obtain ⟨T, hT⟩ : ∃ T, T = dtxt q k := ⟨_, rfl⟩
  have hD1 : Hid (∀ W A n c D m d, RR W A n c D m d q → Tab W → Calls Tryz.prog 12 #[.agg #[.bool (ng q.num), .slice A n c, .slice D m d], .int .i64 (k : Int)] W fun e w' => e = .returned (.string T) ∧ Below W.heap.size W w') := Lib.hid fun W A n c D m d h t => by
    rw [hT]; exact decimalD q k A n c D m d W h (q8.out.mono (by decide)) hk.out t
  have hP := Lib.hid (fun W => parseD q k W q8.out hk.out)
  rw [← hT] at hP
  have hD2 : Hid (∀ W A n c D m d, RR W A n c D m d (dY q k) → Tab W → Calls Tryz.prog 12 #[.agg #[.bool (ng (dY q k).num), .slice A n c, .slice D m d], .int .i64 (k : Int)] W fun e w' => e = .returned (.string T) ∧ Below W.heap.size W w') := Lib.hid fun W A n c D m d h t => by
    rw [hT, ← dtxt_Y]; exact decimalD (dY q k) k A n c D m d W h ((dY_size q8.out hk.out).mono (by decide)) hk.out t
  have y8 := Lib.hid (dY_size (k := k) q8.out hk.out)
  have hle := Lib.hid (cmp_le1 (near_le1 q k))
  generalize dY q k = y at *
  clear hT
  go_wp2_with fail
  refine (hD1.out _ _ _ _ _ _ _ ⟨S.out.r 1 rfl, S.out.r 0 rfl⟩ (tab_below htab.out S.out.bel)).mono ?_
  rintro e w4 ⟨rfl, bb⟩
  have T := (S.out.call bb)
  clear bb S c_x0 c_x1 c_x2 hz
  have S := T
  clear T
  obtain ⟨c_x0, c_x1, c_x2⟩ := S.c3 0 rfl
  have hz : w.heap.size < w4.heap.size := S.lt 0 rfl
  replace S := Lib.hid S
  clear hD1
  go_wp2_with fail
  refine (hP.out _).mono ?_
  rintro e w5 ⟨A1, n1, c1, D1, m1, d1, rfl, Q1, bb⟩
  have T := (((S.out.call bb).read Q1.n).read Q1.d)
  clear bb S c_x0 c_x1 c_x2 hz
  have S := T
  clear T
  obtain ⟨c_x0, c_x1, c_x2⟩ := S.c3 0 rfl
  have hz : w.heap.size < w5.heap.size := S.lt 0 rfl
  replace S := Lib.hid S
  clear Q1 hP
  have S := (S.out.allocAt (w5.heap.size) #[.bool (ng y.num), .slice A1 n1 c1, .slice D1 m1 d1] 26 (noL3 _ _ _ _ _ _ _) (by simp))
  replace S := Lib.hid S
  obtain ⟨un, hun⟩ : ∃ un : Rat, un = (((10 ^ k : Nat) : Int) : Rat) := ⟨_, rfl⟩
  have u8 : Hid (Rs un 12) := Lib.hid (by rw [hun]; exact pow10_size hk.out)
  obtain ⟨s, hs⟩ : ∃ s, s = q - y := ⟨_, rfl⟩
  have s39 : Hid (Rs s 39) := Lib.hid (by rw [hs]; exact q8.out.sub y8.out)
  have hSb : Hid (∀ W A0 n0 c0 D0 m0 d0 A1 n1 c1 D1 m1 d1, RR W A0 n0 c0 D0 m0 d0 q → RR W A1 n1 c1 D1 m1 d1 y → Calls Tryz.prog 20 #[.agg #[.bool (ng q.num), .slice A0 n0 c0, .slice D0 m0 d0], .agg #[.bool (ng y.num), .slice A1 n1 c1, .slice D1 m1 d1]] W (RetR s W)) := Lib.hid fun W A0 n0 c0 D0 m0 d0 A1 n1 c1 D1 m1 d1 X0 X1 => by rw [hs]; exact subQ q y A0 n0 c0 D0 m0 d0 A1 n1 c1 D1 m1 d1 W X0 X1 (q8.out.mono (by decide)) (y8.out.mono (by decide))
  obtain ⟨ab, hab⟩ : ∃ ab, ab = s.abs := ⟨_, rfl⟩
  have ab39 : Hid (Rs ab 39) := Lib.hid (by rw [hab]; exact s39.out.abs)
  have hBs : Hid (∀ W A0 n0 c0 D0 m0 d0, RR W A0 n0 c0 D0 m0 d0 s → Calls Tryz.prog 19 #[.agg #[.bool (ng s.num), .slice A0 n0 c0, .slice D0 m0 d0]] W (RetR ab W)) := Lib.hid fun W A0 n0 c0 D0 m0 d0 X0 => by rw [hab]; exact absQ s A0 n0 c0 D0 m0 d0 W X0 (s39.out.mono (by decide))
  obtain ⟨tw, htw⟩ : ∃ tw : Rat, tw = ((2 : Int) : Rat) := ⟨_, rfl⟩
  have tw1 : Hid (Rs tw 1) := Lib.hid (by rw [htw]; exact Rs.int (by decide) (by decide))
  have hF2 : Hid (∀ W, Calls Tryz.prog 21 #[.int .i64 2] W (RetR tw W)) := Lib.hid fun W => by rw [htw]; exact fromIntR_any 2 W (by decide) (by decide)
  obtain ⟨on, hon⟩ : ∃ on : Rat, on = ((1 : Int) : Rat) := ⟨_, rfl⟩
  have on1 : Hid (Rs on 1) := Lib.hid (by rw [hon]; exact Rs.int (by decide) (by decide))
  have hF1 : Hid (∀ W, Calls Tryz.prog 21 #[.int .i64 1] W (RetR on W)) := Lib.hid fun W => by rw [hon]; exact fromIntR_any 1 W (by decide) (by decide)
  obtain ⟨ma, hma⟩ : ∃ ma, ma = un * tw := ⟨_, rfl⟩
  have ma13 : Hid (Rs ma 13) := Lib.hid (by rw [hma]; exact u8.out.mul tw1.out)
  obtain ⟨mb, hmb⟩ : ∃ mb, mb = ab * ma := ⟨_, rfl⟩
  have mb52 : Hid (Rs mb 52) := Lib.hid (by rw [hmb]; exact ab39.out.mul ma13.out)
  have hMb : Hid (∀ W A0 n0 c0 D0 m0 d0 A1 n1 c1 D1 m1 d1, RR W A0 n0 c0 D0 m0 d0 ab → RR W A1 n1 c1 D1 m1 d1 ma → Calls Tryz.prog 18 #[.agg #[.bool (ng ab.num), .slice A0 n0 c0, .slice D0 m0 d0], .agg #[.bool (ng ma.num), .slice A1 n1 c1, .slice D1 m1 d1]] W (RetR mb W)) := Lib.hid fun W A0 n0 c0 D0 m0 d0 A1 n1 c1 D1 m1 d1 X0 X1 => by rw [hmb]; exact mulQ ab ma A0 n0 c0 D0 m0 d0 A1 n1 c1 D1 m1 d1 W X0 X1 (ab39.out.mono (by decide)) (ma13.out.mono (by decide))
  obtain ⟨cc, hcc⟩ : ∃ cc, cc = cmpq mb on := ⟨_, rfl⟩
  have hle' : cc ≤ 0 := by rw [hcc, hmb, hma, hon, htw, hab, hs, hun]; exact hle.out
  have hdc : decide (cc ≤ 0) = true := decide_eq_true hle'
  have hCm : Hid (∀ W A0 n0 c0 D0 m0 d0 A1 n1 c1 D1 m1 d1, RR W A0 n0 c0 D0 m0 d0 mb → RR W A1 n1 c1 D1 m1 d1 on → Calls Tryz.prog 22 #[.agg #[.bool (ng mb.num), .slice A0 n0 c0, .slice D0 m0 d0], .agg #[.bool (ng on.num), .slice A1 n1 c1, .slice D1 m1 d1]] W (fun e w' => e = .returned (.int .i64 cc) ∧ Below W.heap.size W w')) := Lib.hid fun W A0 n0 c0 D0 m0 d0 A1 n1 c1 D1 m1 d1 X0 X1 => by rw [hcc]; exact compareQ mb on A0 n0 c0 D0 m0 d0 A1 n1 c1 D1 m1 d1 W X0 X1 (mb52.out.mono (by decide)) (on1.out.mono (by decide))
  clear hs hab htw hon hmb hcc hle' hle s39 ab39 mb52 on1 ma13 y8 q8
  by_cases hk64 : k ≤ 64
  · have g2 : decide ((64 : Int) < (k : Int)) = false := decide_eq_false (by omega)
    have g3 : min (k : Int) 64 = (k : Int) := by omega
    have hMa : Hid (∀ W A n c A1 n1 c1 D1 m1 d1, Rd W A n c (limbs (10 ^ k)) → RR W A1 n1 c1 D1 m1 d1 tw → Calls Tryz.prog 18 #[.agg #[.bool false, .slice A n c, .slice none 0 0], .agg #[.bool (ng tw.num), .slice A1 n1 c1, .slice D1 m1 d1]] W (RetR ma W)) := Lib.hid fun W A n c A1 n1 c1 D1 m1 d1 h1 h2 => by
      have := mulQ un tw A n c none 0 0 A1 n1 c1 D1 m1 d1 W (by rw [hun]; exact ⟨h1, Rd.nil_ _ _ _⟩) h2 (u8.out.mono (by decide)) (tw1.out.mono (by decide))
      rwa [show ng un.num = false by rw [hun]; exact ng_nat _, ← hma] at this
    replace hk64 := Lib.hid hk64
    clear hma hun u8 tw1
    go_wp2_with fail
    refine (hPw.out _ _ _ _ k hk64.out (hLit.out _ _ (by simp))).mono ?_
    rintro e w6 ⟨A9, n9, c9, rfl, Q9, bb⟩
    have T1 := ((S.out.call ((Below.refl _ _).alloc (Nat.le_refl _) _)).call bb).read Q9
    clear bb S Q9 c_x0 c_x1 c_x2 hz
    have S := T1
    clear T1
    obtain ⟨c_y0, c_y1, c_y2⟩ := S.c3 0 rfl
    obtain ⟨c_x0, c_x1, c_x2⟩ := S.c3 1 rfl
    have hz : w5.heap.size < w6.heap.size := S.lt 0 rfl
    replace S := Lib.hid S
    clear hPw g3
    have S := (S.out.allocAt (w6.heap.size) #[.bool false, .slice A9 n9 c9, .slice none 0 0] 26 (noL3 _ _ _ _ _ _ _) (by simp))
    replace S := Lib.hid S
    go_upto_region 11 with fail
    clear c_y0 c_y1 c_y2 c_x0 c_x1 c_x2 hz
    have S := S.out
    generalize hW7 : (World.alloc w6 (.cells #[.bool false, .slice A9 n9 c9, .slice none 0 0] 26)) = w7 at S ⊢
    clear hW7
    replace S := Lib.hid S
    refine RW.begin (Z := [⟨8, 9, #[.bool false, .slice none 0 0, .slice none 0 0], 26⟩]) (S := (fun W => Cb W (w.heap.size) #[.bool (ng q.num), .slice A n c, .slice D m d] 26 ∧ Cb W (w5.heap.size) #[.bool (ng y.num), .slice A1 n1 c1, .slice D1 m1 d1] 26 ∧ Cb W (w6.heap.size) #[.bool false, .slice A9 n9 c9, .slice none 0 0] 26)) (by kernel_rfl) ?_ S.out ?_
    · exact ⟨by kernel_rfl, (zis_cons at8 (fun _ _ => by kernel_rfl) zis_nil), by decide, by decide, (nol_cons (noL3 _ _ _ _ _ _ _) nol_nil), (fun _ _ h => ⟨h.kb 2 rfl, h.kb 1 rfl, h.kb 0 rfl⟩)⟩
    intro hzk
    clear S
    refine RW.t (i := 0) (v := .agg #[.bool (ng q.num), .slice A n c, .slice D m d]) (some 47) at0 (hy := fun W hS => by (have k0 := Cb.cell (i := 0) hS.1 rfl; have k1 := Cb.cell (i := 1) hS.1 rfl; have k2 := Cb.cell (i := 2) hS.1 rfl; clear hS; go_simp)) (h := ?_)
    refine RW.t (i := 1) (v := .agg #[.bool (ng y.num), .slice A1 n1 c1, .slice D1 m1 d1]) (some 48) at1 (hy := fun W hS => by (have k0 := Cb.cell (i := 0) hS.2.1 rfl; have k1 := Cb.cell (i := 1) hS.2.1 rfl; have k2 := Cb.cell (i := 2) hS.2.1 rfl; clear hS; go_simp)) (h := ?_)
    refine RW.t (i := 4) (v := .agg #[.bool false, .slice A9 n9 c9, .slice none 0 0]) (some 51) at4 (hy := fun W hS => by (have k0 := Cb.cell (i := 0) hS.2.2 rfl; have k1 := Cb.cell (i := 1) hS.2.2 rfl; have k2 := Cb.cell (i := 2) hS.2.2 rfl; clear hS; go_simp)) (h := ?_)
    refine RW.c (i := 2) (args := #[.agg #[.bool (ng q.num), .slice A n c, .slice D m d], .agg #[.bool (ng y.num), .slice A1 n1 c1, .slice D1 m1 d1]]) (some 49) hzk.out at2 (hx := fun _ => by kernel_rfl) (h := fun _ S => (hSb.out _ _ _ _ _ _ _ _ _ _ _ _ _ ⟨S.r 4 rfl, S.r 3 rfl⟩ ⟨S.r 2 rfl, S.r 1 rfl⟩).mono ?_)
    rintro e w8 ⟨A31, n31, c31, D31, m31, d31, rfl, Q31, bb⟩
    refine ⟨bb, _, [(D31, m31, d31, dn s), (A31, n31, c31, limbs s.num.natAbs)], rfl, (rd_cons Q31.d (rd_cons Q31.n rd_nil)), ?_⟩
    clear bb S Q31
    refine RW.c (i := 3) (args := #[.agg #[.bool (ng s.num), .slice A31 n31 c31, .slice D31 m31 d31]]) (some 50) hzk.out at3 (hx := fun _ => by kernel_rfl) (h := fun _ S => (hBs.out _ _ _ _ _ _ _ ⟨S.r 1 rfl, S.r 0 rfl⟩).mono ?_)
    rintro e w9 ⟨A32, n32, c32, D32, m32, d32, rfl, Q32, bb⟩
    refine ⟨bb, _, [(D32, m32, d32, dn ab), (A32, n32, c32, limbs ab.num.natAbs)], rfl, (rd_cons Q32.d (rd_cons Q32.n rd_nil)), ?_⟩
    clear bb S Q32
    refine RW.c (i := 5) (args := #[.int .i64 2]) (some 52) hzk.out at5 (hx := fun _ => by kernel_rfl) (h := fun _ S => (hF2.out _).mono ?_)
    rintro e w10 ⟨A33, n33, c33, D33, m33, d33, rfl, Q33, bb⟩
    refine ⟨bb, _, [(D33, m33, d33, dn tw), (A33, n33, c33, limbs tw.num.natAbs)], rfl, (rd_cons Q33.d (rd_cons Q33.n rd_nil)), ?_⟩
    clear bb S Q33
    refine RW.c (i := 6) (args := #[.agg #[.bool false, .slice A9 n9 c9, .slice none 0 0], .agg #[.bool (ng tw.num), .slice A33 n33 c33, .slice D33 m33 d33]]) (some 53) hzk.out at6 (hx := fun _ => by kernel_rfl) (h := fun _ S => (hMa.out _ _ _ _ _ _ _ _ _ _ (S.r 6 rfl) ⟨S.r 1 rfl, S.r 0 rfl⟩).mono ?_)
    rintro e w11 ⟨A34, n34, c34, D34, m34, d34, rfl, Q34, bb⟩
    refine ⟨bb, _, [(D34, m34, d34, dn ma), (A34, n34, c34, limbs ma.num.natAbs)], rfl, (rd_cons Q34.d (rd_cons Q34.n rd_nil)), ?_⟩
    clear bb S Q34
    refine RW.c (i := 7) (args := #[.agg #[.bool (ng ab.num), .slice A32 n32 c32, .slice D32 m32 d32], .agg #[.bool (ng ma.num), .slice A34 n34 c34, .slice D34 m34 d34]]) (some 54) hzk.out at7 (hx := fun _ => by kernel_rfl) (h := fun _ S => (hMb.out _ _ _ _ _ _ _ _ _ _ _ _ _ ⟨S.r 5 rfl, S.r 4 rfl⟩ ⟨S.r 1 rfl, S.r 0 rfl⟩).mono ?_)
    rintro e w12 ⟨A35, n35, c35, D35, m35, d35, rfl, Q35, bb⟩
    refine ⟨bb, _, [(D35, m35, d35, dn mb), (A35, n35, c35, limbs mb.num.natAbs)], rfl, (rd_cons Q35.d (rd_cons Q35.n rd_nil)), ?_⟩
    clear bb S Q35
    refine RW.tail hzk.out (by kernel_rfl) ?_
    intro gs w13 hgs hS S
    obtain ⟨g_d, rfl⟩ := len1' hgs
    clear hS hgs hzk
    simp only [mark, fill, List.map, Act.put, List.setIfInBounds_toArray, List.set_cons_zero, List.set_cons_succ]
    replace S := Lib.hid S
    refine Wk.o (i := 9) at9 (by kernel_rfl) fun K' hK => ?_
    have q9_d0 := St.cl (S.out) 0 0 rfl rfl
    have q9_d1 := St.cl (S.out) 0 1 rfl rfl
    have q9_d2 := St.cl (S.out) 0 2 rfl rfl
    have q9z_d0 := St.f (S.out) 0 0 rfl
    have q9z_d1 := St.f (S.out) 0 1 rfl
    have q9z_d2 := St.f (S.out) 0 2 rfl
    go_simp
    have SN := (((S.out.set 0 0 (.bool (ng mb.num)) rfl (by nofun)).set 0 1 (.slice A35 n35 c35) rfl (by nofun)).set 0 2 (.slice D35 m35 d35) rfl (by nofun))
    clear S q9_d0 q9_d1 q9_d2 q9z_d0 q9z_d1 q9z_d2
    have S := SN
    clear SN
    refine hK.out _ _ ⟨(S.cb 3 rfl), (S.cb 2 rfl), (S.cb 1 rfl)⟩ ?_
    clear hK K'
    replace S := Lib.hid S
    try simp only [Act.put, List.setIfInBounds_toArray, List.set_cons_zero, List.set_cons_succ]
    refine Wk.done (by kernel_rfl) ?_
    go_simp
    replace S := S.out
    have S : St w _ [(g_d, #[.bool (ng mb.num), .slice A35 n35 c35, .slice D35 m35 d35], 26), (w6.heap.size, #[.bool false, .slice A9 n9 c9, .slice none 0 0], 26), (w5.heap.size, #[.bool (ng y.num), .slice A1 n1 c1, .slice D1 m1 d1], 26), (w.heap.size, #[.bool (ng q.num), .slice A n c, .slice D m d], 26)] [(D35, m35, d35, dn mb), (A35, n35, c35, limbs mb.num.natAbs), (D34, m34, d34, dn ma), (A34, n34, c34, limbs ma.num.natAbs), (D33, m33, d33, dn tw), (A33, n33, c33, limbs tw.num.natAbs), (D32, m32, d32, dn ab), (A32, n32, c32, limbs ab.num.natAbs), (D31, m31, d31, dn s), (A31, n31, c31, limbs s.num.natAbs), (A9, n9, c9, limbs (10 ^ k)), (D1, m1, d1, dn y), (A1, n1, c1, limbs y.num.natAbs), (D, m, d, dn q), (A, n, c, limbs q.num.natAbs)] := S
    generalize hW14 : (World.setCell (World.setCell (World.setCell w13 ⟨g_d, 0, none⟩ (.bool (ng mb.num))) ⟨g_d, 1, none⟩ (.slice A35 n35 c35)) ⟨g_d, 2, none⟩ (.slice D35 m35 d35)) = w14 at S ⊢
    clear hW14
    replace S := Lib.hid S
    replace S := S.out
    obtain ⟨c_d0, c_d1, c_d2⟩ := S.c3 0 rfl
    obtain ⟨c_u0, c_u1, c_u2⟩ := S.c3 1 rfl
    obtain ⟨c_y0, c_y1, c_y2⟩ := S.c3 2 rfl
    obtain ⟨c_x0, c_x1, c_x2⟩ := S.c3 3 rfl
    have hz : g_d < w14.heap.size := S.lt 0 rfl
    replace S := Lib.hid S
    clear hSb hBs hF2 hMa hMb
    go_upto_region 12 with fail
    clear c_d0 c_d1 c_d2 c_u0 c_u1 c_u2 c_y0 c_y1 c_y2 c_x0 c_x1 c_x2 hz
    refine RW.begin (Z := []) (S := (fun W => Cb W (w5.heap.size) #[.bool (ng y.num), .slice A1 n1 c1, .slice D1 m1 d1] 26 ∧ Cb W (g_d) #[.bool (ng mb.num), .slice A35 n35 c35, .slice D35 m35 d35] 26)) (by kernel_rfl) ?_ S.out ?_
    · exact ⟨by kernel_rfl, zis_nil, by decide, by decide, nol_nil, (fun _ _ h => ⟨h.kb 2 rfl, h.kb 0 rfl⟩)⟩
    intro hzk
    clear S
    refine RW.c (i := 0) (args := #[]) (some 55) hzk.out at0 (hx := fun _ => by kernel_rfl) (h := fun _ S => (hA.out _ (tab_below htab.out S.bel)).mono ?_)
    rintro e w15 ⟨rfl, bb⟩
    refine ⟨bb, _, [], rfl, rd_nil, ?_⟩
    clear bb S
    refine RW.t (i := 1) (v := .bool true) (some 56) at1 (hy := fun _ _ => by kernel_rfl) (h := ?_)
    refine RW.t (i := 2) (v := .agg #[.bool (ng mb.num), .slice A35 n35 c35, .slice D35 m35 d35]) (some 57) at2 (hy := fun W hS => by (have k0 := Cb.cell (i := 0) hS.2 rfl; have k1 := Cb.cell (i := 1) hS.2 rfl; have k2 := Cb.cell (i := 2) hS.2 rfl; clear hS; go_simp)) (h := ?_)
    refine RW.c (i := 3) (args := #[.int .i64 1]) (some 58) hzk.out at3 (hx := fun _ => by kernel_rfl) (h := fun _ S => (hF1.out _).mono ?_)
    rintro e w16 ⟨A36, n36, c36, D36, m36, d36, rfl, Q36, bb⟩
    refine ⟨bb, _, [(D36, m36, d36, dn on), (A36, n36, c36, limbs on.num.natAbs)], rfl, (rd_cons Q36.d (rd_cons Q36.n rd_nil)), ?_⟩
    clear bb S Q36
    refine RW.c (i := 4) (args := #[.agg #[.bool (ng mb.num), .slice A35 n35 c35, .slice D35 m35 d35], .agg #[.bool (ng on.num), .slice A36 n36 c36, .slice D36 m36 d36]]) (some 59) hzk.out at4 (hx := fun _ => by kernel_rfl) (h := fun _ S => (hCm.out _ _ _ _ _ _ _ _ _ _ _ _ _ ⟨S.r 3 rfl, S.r 2 rfl⟩ ⟨S.r 1 rfl, S.r 0 rfl⟩).mono ?_)
    rintro e w17 ⟨rfl, bb⟩
    refine ⟨bb, _, [], rfl, rd_nil, ?_⟩
    clear bb S
    refine RW.t (i := 5) (v := .bool true) (some 60) at5 (hy := fun _ _ => by go_simp) (h := ?_)
    refine RW.t (i := 6) (v := .bool true) (some 61) at6 (hy := fun _ _ => by kernel_rfl) (h := ?_)
    refine RW.t (i := 7) (v := .bool true) (some 62) at7 (hy := fun _ _ => by kernel_rfl) (h := ?_)
    refine RW.t (i := 8) (v := .agg #[.bool (ng y.num), .slice A1 n1 c1, .slice D1 m1 d1]) (some 63) at8 (hy := fun W hS => by (have k0 := Cb.cell (i := 0) hS.1 rfl; have k1 := Cb.cell (i := 1) hS.1 rfl; have k2 := Cb.cell (i := 2) hS.1 rfl; clear hS; go_simp)) (h := ?_)
    refine RW.t (i := 9) (v := .int .i64 (k : Int)) (some 64) at9 (hy := fun _ _ => by kernel_rfl) (h := ?_)
    refine RW.t (i := 11) (v := .string T) (some 66) at11 (hy := fun _ _ => by kernel_rfl) (h := ?_)
    refine RW.c (i := 10) (args := #[.agg #[.bool (ng y.num), .slice A1 n1 c1, .slice D1 m1 d1], .int .i64 (k : Int)]) (some 65) hzk.out at10 (hx := fun _ => by kernel_rfl) (h := fun _ S => (hD2.out _ _ _ _ _ _ _ ⟨S.r 14 rfl, S.r 13 rfl⟩ (tab_below htab.out S.bel)).mono ?_)
    rintro e w18 ⟨rfl, bb⟩
    refine ⟨bb, _, [], rfl, rd_nil, ?_⟩
    clear bb S
    refine RW.t (i := 12) (v := .bool true) (some 67) at12 (hy := fun _ _ => by go_simp) (h := ?_)
    refine RW.t (i := 13) (v := .bool true) (some 68) at13 (hy := fun _ _ => by kernel_rfl) (h := ?_)
    refine RW.tail hzk.out (by kernel_rfl) ?_
    intro gs w19 hgs hS S
    obtain rfl := len0 hgs
    clear hS hgs hzk
    simp only [mark, fill, Act.put, List.setIfInBounds_toArray, List.set_cons_zero, List.set_cons_succ]
    replace S := Lib.hid S
    refine Wk.o (i := 14) at14 (by kernel_rfl) fun K' hK => ?_
    go_simp
    have SN := S.out
    clear S
    have S := SN
    clear SN
    refine hK.out _ _ ⟨(S.cb 2 rfl), (S.cb 0 rfl)⟩ ?_
    clear hK K'
    replace S := Lib.hid S
    try simp only [Act.put, List.setIfInBounds_toArray, List.set_cons_zero, List.set_cons_succ]
    refine Wk.done (by kernel_rfl) ?_
    go_simp
    replace S := S.out
    have S : St w _ [(g_d, #[.bool (ng mb.num), .slice A35 n35 c35, .slice D35 m35 d35], 26), (w6.heap.size, #[.bool false, .slice A9 n9 c9, .slice none 0 0], 26), (w5.heap.size, #[.bool (ng y.num), .slice A1 n1 c1, .slice D1 m1 d1], 26), (w.heap.size, #[.bool (ng q.num), .slice A n c, .slice D m d], 26)] [(D36, m36, d36, dn on), (A36, n36, c36, limbs on.num.natAbs), (D35, m35, d35, dn mb), (A35, n35, c35, limbs mb.num.natAbs), (D34, m34, d34, dn ma), (A34, n34, c34, limbs ma.num.natAbs), (D33, m33, d33, dn tw), (A33, n33, c33, limbs tw.num.natAbs), (D32, m32, d32, dn ab), (A32, n32, c32, limbs ab.num.natAbs), (D31, m31, d31, dn s), (A31, n31, c31, limbs s.num.natAbs), (A9, n9, c9, limbs (10 ^ k)), (D1, m1, d1, dn y), (A1, n1, c1, limbs y.num.natAbs), (D, m, d, dn q), (A, n, c, limbs q.num.natAbs)] := S
    replace S := Lib.hid S
    replace S := S.out
    replace S := Lib.hid S
    have S := S.out
    replace S := Lib.hid S
    go_wp2
    go_ret
    exact ⟨rfl, S.out.bel⟩
  · have g2 : decide ((64 : Int) < (k : Int)) = true := decide_eq_true (by omega)
    have g3 : min (k : Int) 64 = ((64 : Nat) : Int) := by omega
    have hkk : k - 64 ≤ 64 := by have := hk.out; omega
    have w64 : IntKind.i64.wrap ((k : Int) - 64) = ((k - 64 : Nat) : Int) := by rw [IntWalk.i64_in _ (by have := hk.out; omega)]; omega
    have hMa : Hid (∀ W A0 n0 c0 D0 m0 d0 A1 n1 c1 D1 m1 d1, RR W A0 n0 c0 D0 m0 d0 un → RR W A1 n1 c1 D1 m1 d1 tw → Calls Tryz.prog 18 #[.agg #[.bool (ng un.num), .slice A0 n0 c0, .slice D0 m0 d0], .agg #[.bool (ng tw.num), .slice A1 n1 c1, .slice D1 m1 d1]] W (RetR ma W)) := Lib.hid fun W A0 n0 c0 D0 m0 d0 A1 n1 c1 D1 m1 d1 X0 X1 => by rw [hma]; exact mulQ un tw A0 n0 c0 D0 m0 d0 A1 n1 c1 D1 m1 d1 W X0 X1 (u8.out.mono (by decide)) (tw1.out.mono (by decide))
    have hFm : Hid (∀ W A n c A1 n1 c1, Rd W A n c (limbs (10 ^ 64)) → Rd W A1 n1 c1 (limbs (10 ^ (k - 64))) → Calls Tryz.prog 17 #[.agg #[.bool false, .slice A n c, .slice none 0 0], .agg #[.bool false, .slice A1 n1 c1, .slice none 0 0]] W (RetR un W)) := Lib.hid fun W A n c A1 n1 c1 h1 h2 => by
      have l1 : n ≤ 12 := by rw [← h1.len]; exact limbs_len_le.2 (pow10_small (by decide))
      have l2 : n1 ≤ 12 := by rw [← h2.len]; exact limbs_len_le.2 (pow10_small (by omega))
      have := Fmul_any false A n c (limbs (10 ^ 64)) none 0 0 [] false A1 n1 c1 (limbs (10 ^ (k - 64))) none 0 0 [] W h1 (Rd.nil_ _ _ _) h2 (Rd.nil_ _ _ _) (by omega) (by decide) (by omega) (by decide)
      rwa [rv_nat, rv_nat, pow10_mul (by omega), ← hun] at this
    have hPw2 : Hid (∀ W A n c, Rd W A n c (limbs 10) → Calls Tryz.prog 16 #[.slice A n c, .int .i64 ((k - 64 : Nat) : Int)] W (RetN (10 ^ (k - 64)) W)) := Lib.hid fun W A n c h => hPw.out W A n c (k - 64) hkk h
    replace hk64 := Lib.hid hk64
    clear hma hun u8 tw1 hkk
    go_wp2_with fail
    refine (hPw.out _ _ _ _ 64 (by decide) (hLit.out _ _ (by simp))).mono ?_
    rintro e w6 ⟨A9, n9, c9, rfl, Q9, bb⟩
    have T1 := ((S.out.call ((Below.refl _ _).alloc (Nat.le_refl _) _)).call bb).read Q9
    clear bb S Q9 c_x0 c_x1 c_x2 hz
    have S := T1
    clear T1
    obtain ⟨c_y0, c_y1, c_y2⟩ := S.c3 0 rfl
    obtain ⟨c_x0, c_x1, c_x2⟩ := S.c3 1 rfl
    have hz : w5.heap.size < w6.heap.size := S.lt 0 rfl
    replace S := Lib.hid S
    clear hPw g3
    have S := (S.out.allocAt (w6.heap.size) #[.bool false, .slice A9 n9 c9, .slice none 0 0] 26 (noL3 _ _ _ _ _ _ _) (by simp))
    replace S := Lib.hid S
    go_upto_region 10 with fail
    clear c_y0 c_y1 c_y2 c_x0 c_x1 c_x2 hz
    have S := S.out
    generalize hW7 : (World.alloc w6 (.cells #[.bool false, .slice A9 n9 c9, .slice none 0 0] 26)) = w7 at S ⊢
    clear hW7
    replace S := Lib.hid S
    have d_u0 := St.cl (S.out) 0 0 rfl rfl
    have d_u1 := St.cl (S.out) 0 1 rfl rfl
    have d_u2 := St.cl (S.out) 0 2 rfl rfl
    have dz_u0 := St.f (S.out) 0 0 rfl
    have dz_u1 := St.f (S.out) 0 1 rfl
    have dz_u2 := St.f (S.out) 0 2 rfl
    go_cut [] (fun wx => ∃ (A8 : Option Addr) (n8 c8 : Nat) (D8 : Option Addr) (m8 d8 : Nat), St w wx [(w6.heap.size, #[.bool (ng un.num), .slice A8 n8 c8, .slice D8 m8 d8], 26), (w5.heap.size, #[.bool (ng y.num), .slice A1 n1 c1, .slice D1 m1 d1], 26), (w.heap.size, #[.bool (ng q.num), .slice A n c, .slice D m d], 26)] [(D8, m8, d8, dn un), (A8, n8, c8, limbs un.num.natAbs), (A9, n9, c9, limbs (10 ^ 64)), (D1, m1, d1, dn y), (A1, n1, c1, limbs y.num.natAbs), (D, m, d, dn q), (A, n, c, limbs q.num.natAbs)])
    case first =>
      have SD := Lib.hid (S.out.drew)
      have SA := Lib.hid ((S.out.call ((Below.refl _ _).alloc (Nat.le_refl _) (.cells #[.int .u32 10] 37))).drew)
      obtain ⟨ac0, ac1, ac2, af0, af1, af2⟩ := St.cf3 (SA.out) 0 rfl
      go_region_with (first
        | (go_at_call 16; refine (hPw2.out _ _ _ _ (Rd.drew1 (hLit.out _ _ (by simp)))).mono ?_; rintro e w8 ⟨A5, n5, c5, rfl, Q5, bb0⟩; have S0 := (SA.out.call bb0).read Q5; obtain ⟨ec0, ec1, ec2, ef0, ef1, ef2⟩ := St.cf3 (S0) 0 rfl)
        | (go_at_call 17; refine (hFm.out _ _ _ _ _ _ _ (S0.r 1 rfl) (S0.r 0 rfl)).mono ?_; rintro e w9 ⟨A8, n8, c8, D8, m8, d8, rfl, Q8, bb1⟩; have S1 := ((S0.call bb1).read Q8.n).read Q8.d; obtain ⟨fc0, fc1, fc2, ff0, ff1, ff2⟩ := St.cf3 (S1) 0 rfl))
      all_goals
        have SE := Lib.hid (((S1.set 0 0 (.bool (ng un.num)) rfl (by nofun)).set 0 1 (.slice A8 n8 c8) rfl (by nofun)).set 0 2 (.slice D8 m8 d8) rfl (by nofun))
        clear ac0 ac1 ac2 af0 af1 af2 ec0 ec1 ec2 ef0 ef1 ef2 fc0 fc1 fc2 ff0 ff1 ff2 d_u0 d_u1 d_u2 dz_u0 dz_u1 dz_u2
        go_wp2_with fail
        go_meet
        exact ⟨A8, n8, c8, D8, m8, d8, SE.out.pick [0, 1, 2] [0, 1, 3, 4, 5, 6, 7] rfl (by decide) rfl⟩
    case rest =>
      clear d_u0 d_u1 d_u2 dz_u0 dz_u1 dz_u2
      clear S
      obtain ⟨A8, n8, c8, D8, m8, d8, S⟩ := hcut
      obtain ⟨c_u0, c_u1, c_u2⟩ := S.c3 0 rfl
      obtain ⟨c_y0, c_y1, c_y2⟩ := S.c3 1 rfl
      obtain ⟨c_x0, c_x1, c_x2⟩ := S.c3 2 rfl
      have hz : w6.heap.size < wc.heap.size := S.lt 0 rfl
      replace S := Lib.hid S
      clear hPw2 hFm w64
      go_upto_region 11 with fail
      clear c_u0 c_u1 c_u2 c_y0 c_y1 c_y2 c_x0 c_x1 c_x2 hz
      refine RW.begin (Z := [⟨8, 9, #[.bool false, .slice none 0 0, .slice none 0 0], 26⟩]) (S := (fun W => Cb W (w.heap.size) #[.bool (ng q.num), .slice A n c, .slice D m d] 26 ∧ Cb W (w5.heap.size) #[.bool (ng y.num), .slice A1 n1 c1, .slice D1 m1 d1] 26 ∧ Cb W (w6.heap.size) #[.bool (ng un.num), .slice A8 n8 c8, .slice D8 m8 d8] 26)) (by kernel_rfl) ?_ S.out ?_
      · exact ⟨by kernel_rfl, (zis_cons at8 (fun _ _ => by kernel_rfl) zis_nil), by decide, by decide, (nol_cons (noL3 _ _ _ _ _ _ _) nol_nil), (fun _ _ h => ⟨h.kb 2 rfl, h.kb 1 rfl, h.kb 0 rfl⟩)⟩
      intro hzk
      clear S
      refine RW.t (i := 0) (v := .agg #[.bool (ng q.num), .slice A n c, .slice D m d]) (some 47) at0 (hy := fun W hS => by (have k0 := Cb.cell (i := 0) hS.1 rfl; have k1 := Cb.cell (i := 1) hS.1 rfl; have k2 := Cb.cell (i := 2) hS.1 rfl; clear hS; go_simp)) (h := ?_)
      refine RW.t (i := 1) (v := .agg #[.bool (ng y.num), .slice A1 n1 c1, .slice D1 m1 d1]) (some 48) at1 (hy := fun W hS => by (have k0 := Cb.cell (i := 0) hS.2.1 rfl; have k1 := Cb.cell (i := 1) hS.2.1 rfl; have k2 := Cb.cell (i := 2) hS.2.1 rfl; clear hS; go_simp)) (h := ?_)
      refine RW.t (i := 4) (v := .agg #[.bool (ng un.num), .slice A8 n8 c8, .slice D8 m8 d8]) (some 51) at4 (hy := fun W hS => by (have k0 := Cb.cell (i := 0) hS.2.2 rfl; have k1 := Cb.cell (i := 1) hS.2.2 rfl; have k2 := Cb.cell (i := 2) hS.2.2 rfl; clear hS; go_simp)) (h := ?_)
      refine RW.c (i := 2) (args := #[.agg #[.bool (ng q.num), .slice A n c, .slice D m d], .agg #[.bool (ng y.num), .slice A1 n1 c1, .slice D1 m1 d1]]) (some 49) hzk.out at2 (hx := fun _ => by kernel_rfl) (h := fun _ S => (hSb.out _ _ _ _ _ _ _ _ _ _ _ _ _ ⟨S.r 6 rfl, S.r 5 rfl⟩ ⟨S.r 4 rfl, S.r 3 rfl⟩).mono ?_)
      rintro e w18 ⟨A31, n31, c31, D31, m31, d31, rfl, Q31, bb⟩
      refine ⟨bb, _, [(D31, m31, d31, dn s), (A31, n31, c31, limbs s.num.natAbs)], rfl, (rd_cons Q31.d (rd_cons Q31.n rd_nil)), ?_⟩
      clear bb S Q31
      refine RW.c (i := 3) (args := #[.agg #[.bool (ng s.num), .slice A31 n31 c31, .slice D31 m31 d31]]) (some 50) hzk.out at3 (hx := fun _ => by kernel_rfl) (h := fun _ S => (hBs.out _ _ _ _ _ _ _ ⟨S.r 1 rfl, S.r 0 rfl⟩).mono ?_)
      rintro e w19 ⟨A32, n32, c32, D32, m32, d32, rfl, Q32, bb⟩
      refine ⟨bb, _, [(D32, m32, d32, dn ab), (A32, n32, c32, limbs ab.num.natAbs)], rfl, (rd_cons Q32.d (rd_cons Q32.n rd_nil)), ?_⟩
      clear bb S Q32
      refine RW.c (i := 5) (args := #[.int .i64 2]) (some 52) hzk.out at5 (hx := fun _ => by kernel_rfl) (h := fun _ S => (hF2.out _).mono ?_)
      rintro e w20 ⟨A33, n33, c33, D33, m33, d33, rfl, Q33, bb⟩
      refine ⟨bb, _, [(D33, m33, d33, dn tw), (A33, n33, c33, limbs tw.num.natAbs)], rfl, (rd_cons Q33.d (rd_cons Q33.n rd_nil)), ?_⟩
      clear bb S Q33
      refine RW.c (i := 6) (args := #[.agg #[.bool (ng un.num), .slice A8 n8 c8, .slice D8 m8 d8], .agg #[.bool (ng tw.num), .slice A33 n33 c33, .slice D33 m33 d33]]) (some 53) hzk.out at6 (hx := fun _ => by kernel_rfl) (h := fun _ S => (hMa.out _ _ _ _ _ _ _ _ _ _ _ _ _ ⟨S.r 7 rfl, S.r 6 rfl⟩ ⟨S.r 1 rfl, S.r 0 rfl⟩).mono ?_)
      rintro e w21 ⟨A34, n34, c34, D34, m34, d34, rfl, Q34, bb⟩
      refine ⟨bb, _, [(D34, m34, d34, dn ma), (A34, n34, c34, limbs ma.num.natAbs)], rfl, (rd_cons Q34.d (rd_cons Q34.n rd_nil)), ?_⟩
      clear bb S Q34
      refine RW.c (i := 7) (args := #[.agg #[.bool (ng ab.num), .slice A32 n32 c32, .slice D32 m32 d32], .agg #[.bool (ng ma.num), .slice A34 n34 c34, .slice D34 m34 d34]]) (some 54) hzk.out at7 (hx := fun _ => by kernel_rfl) (h := fun _ S => (hMb.out _ _ _ _ _ _ _ _ _ _ _ _ _ ⟨S.r 5 rfl, S.r 4 rfl⟩ ⟨S.r 1 rfl, S.r 0 rfl⟩).mono ?_)
      rintro e w22 ⟨A35, n35, c35, D35, m35, d35, rfl, Q35, bb⟩
      refine ⟨bb, _, [(D35, m35, d35, dn mb), (A35, n35, c35, limbs mb.num.natAbs)], rfl, (rd_cons Q35.d (rd_cons Q35.n rd_nil)), ?_⟩
      clear bb S Q35
      refine RW.tail hzk.out (by kernel_rfl) ?_
      intro gs w23 hgs hS S
      obtain ⟨g_d, rfl⟩ := len1' hgs
      clear hS hgs hzk
      simp only [mark, fill, List.map, Act.put, List.setIfInBounds_toArray, List.set_cons_zero, List.set_cons_succ]
      replace S := Lib.hid S
      refine Wk.o (i := 9) at9 (by kernel_rfl) fun K' hK => ?_
      have q9_d0 := St.cl (S.out) 0 0 rfl rfl
      have q9_d1 := St.cl (S.out) 0 1 rfl rfl
      have q9_d2 := St.cl (S.out) 0 2 rfl rfl
      have q9z_d0 := St.f (S.out) 0 0 rfl
      have q9z_d1 := St.f (S.out) 0 1 rfl
      have q9z_d2 := St.f (S.out) 0 2 rfl
      go_simp
      have SN := (((S.out.set 0 0 (.bool (ng mb.num)) rfl (by nofun)).set 0 1 (.slice A35 n35 c35) rfl (by nofun)).set 0 2 (.slice D35 m35 d35) rfl (by nofun))
      clear S q9_d0 q9_d1 q9_d2 q9z_d0 q9z_d1 q9z_d2
      have S := SN
      clear SN
      refine hK.out _ _ ⟨(S.cb 3 rfl), (S.cb 2 rfl), (S.cb 1 rfl)⟩ ?_
      clear hK K'
      replace S := Lib.hid S
      try simp only [Act.put, List.setIfInBounds_toArray, List.set_cons_zero, List.set_cons_succ]
      refine Wk.done (by kernel_rfl) ?_
      go_simp
      replace S := S.out
      have S : St w _ [(g_d, #[.bool (ng mb.num), .slice A35 n35 c35, .slice D35 m35 d35], 26), (w6.heap.size, #[.bool (ng un.num), .slice A8 n8 c8, .slice D8 m8 d8], 26), (w5.heap.size, #[.bool (ng y.num), .slice A1 n1 c1, .slice D1 m1 d1], 26), (w.heap.size, #[.bool (ng q.num), .slice A n c, .slice D m d], 26)] [(D35, m35, d35, dn mb), (A35, n35, c35, limbs mb.num.natAbs), (D34, m34, d34, dn ma), (A34, n34, c34, limbs ma.num.natAbs), (D33, m33, d33, dn tw), (A33, n33, c33, limbs tw.num.natAbs), (D32, m32, d32, dn ab), (A32, n32, c32, limbs ab.num.natAbs), (D31, m31, d31, dn s), (A31, n31, c31, limbs s.num.natAbs), (D8, m8, d8, dn un), (A8, n8, c8, limbs un.num.natAbs), (A9, n9, c9, limbs (10 ^ 64)), (D1, m1, d1, dn y), (A1, n1, c1, limbs y.num.natAbs), (D, m, d, dn q), (A, n, c, limbs q.num.natAbs)] := S
      generalize hW24 : (World.setCell (World.setCell (World.setCell w23 ⟨g_d, 0, none⟩ (.bool (ng mb.num))) ⟨g_d, 1, none⟩ (.slice A35 n35 c35)) ⟨g_d, 2, none⟩ (.slice D35 m35 d35)) = w24 at S ⊢
      clear hW24
      replace S := Lib.hid S
      replace S := S.out
      obtain ⟨c_d0, c_d1, c_d2⟩ := S.c3 0 rfl
      obtain ⟨c_u0, c_u1, c_u2⟩ := S.c3 1 rfl
      obtain ⟨c_y0, c_y1, c_y2⟩ := S.c3 2 rfl
      obtain ⟨c_x0, c_x1, c_x2⟩ := S.c3 3 rfl
      have hz : g_d < w24.heap.size := S.lt 0 rfl
      replace S := Lib.hid S
      clear hSb hBs hF2 hMa hMb
      go_upto_region 12 with fail
      clear c_d0 c_d1 c_d2 c_u0 c_u1 c_u2 c_y0 c_y1 c_y2 c_x0 c_x1 c_x2 hz
      refine RW.begin (Z := []) (S := (fun W => Cb W (w5.heap.size) #[.bool (ng y.num), .slice A1 n1 c1, .slice D1 m1 d1] 26 ∧ Cb W (g_d) #[.bool (ng mb.num), .slice A35 n35 c35, .slice D35 m35 d35] 26)) (by kernel_rfl) ?_ S.out ?_
      · exact ⟨by kernel_rfl, zis_nil, by decide, by decide, nol_nil, (fun _ _ h => ⟨h.kb 2 rfl, h.kb 0 rfl⟩)⟩
      intro hzk
      clear S
      refine RW.c (i := 0) (args := #[]) (some 55) hzk.out at0 (hx := fun _ => by kernel_rfl) (h := fun _ S => (hA.out _ (tab_below htab.out S.bel)).mono ?_)
      rintro e w25 ⟨rfl, bb⟩
      refine ⟨bb, _, [], rfl, rd_nil, ?_⟩
      clear bb S
      refine RW.t (i := 1) (v := .bool true) (some 56) at1 (hy := fun _ _ => by kernel_rfl) (h := ?_)
      refine RW.t (i := 2) (v := .agg #[.bool (ng mb.num), .slice A35 n35 c35, .slice D35 m35 d35]) (some 57) at2 (hy := fun W hS => by (have k0 := Cb.cell (i := 0) hS.2 rfl; have k1 := Cb.cell (i := 1) hS.2 rfl; have k2 := Cb.cell (i := 2) hS.2 rfl; clear hS; go_simp)) (h := ?_)
      refine RW.c (i := 3) (args := #[.int .i64 1]) (some 58) hzk.out at3 (hx := fun _ => by kernel_rfl) (h := fun _ S => (hF1.out _).mono ?_)
      rintro e w26 ⟨A36, n36, c36, D36, m36, d36, rfl, Q36, bb⟩
      refine ⟨bb, _, [(D36, m36, d36, dn on), (A36, n36, c36, limbs on.num.natAbs)], rfl, (rd_cons Q36.d (rd_cons Q36.n rd_nil)), ?_⟩
      clear bb S Q36
      refine RW.c (i := 4) (args := #[.agg #[.bool (ng mb.num), .slice A35 n35 c35, .slice D35 m35 d35], .agg #[.bool (ng on.num), .slice A36 n36 c36, .slice D36 m36 d36]]) (some 59) hzk.out at4 (hx := fun _ => by kernel_rfl) (h := fun _ S => (hCm.out _ _ _ _ _ _ _ _ _ _ _ _ _ ⟨S.r 3 rfl, S.r 2 rfl⟩ ⟨S.r 1 rfl, S.r 0 rfl⟩).mono ?_)
      rintro e w27 ⟨rfl, bb⟩
      refine ⟨bb, _, [], rfl, rd_nil, ?_⟩
      clear bb S
      refine RW.t (i := 5) (v := .bool true) (some 60) at5 (hy := fun _ _ => by go_simp) (h := ?_)
      refine RW.t (i := 6) (v := .bool true) (some 61) at6 (hy := fun _ _ => by kernel_rfl) (h := ?_)
      refine RW.t (i := 7) (v := .bool true) (some 62) at7 (hy := fun _ _ => by kernel_rfl) (h := ?_)
      refine RW.t (i := 8) (v := .agg #[.bool (ng y.num), .slice A1 n1 c1, .slice D1 m1 d1]) (some 63) at8 (hy := fun W hS => by (have k0 := Cb.cell (i := 0) hS.1 rfl; have k1 := Cb.cell (i := 1) hS.1 rfl; have k2 := Cb.cell (i := 2) hS.1 rfl; clear hS; go_simp)) (h := ?_)
      refine RW.t (i := 9) (v := .int .i64 (k : Int)) (some 64) at9 (hy := fun _ _ => by kernel_rfl) (h := ?_)
      refine RW.t (i := 11) (v := .string T) (some 66) at11 (hy := fun _ _ => by kernel_rfl) (h := ?_)
      refine RW.c (i := 10) (args := #[.agg #[.bool (ng y.num), .slice A1 n1 c1, .slice D1 m1 d1], .int .i64 (k : Int)]) (some 65) hzk.out at10 (hx := fun _ => by kernel_rfl) (h := fun _ S => (hD2.out _ _ _ _ _ _ _ ⟨S.r 16 rfl, S.r 15 rfl⟩ (tab_below htab.out S.bel)).mono ?_)
      rintro e w28 ⟨rfl, bb⟩
      refine ⟨bb, _, [], rfl, rd_nil, ?_⟩
      clear bb S
      refine RW.t (i := 12) (v := .bool true) (some 67) at12 (hy := fun _ _ => by go_simp) (h := ?_)
      refine RW.t (i := 13) (v := .bool true) (some 68) at13 (hy := fun _ _ => by kernel_rfl) (h := ?_)
      refine RW.tail hzk.out (by kernel_rfl) ?_
      intro gs w29 hgs hS S
      obtain rfl := len0 hgs
      clear hS hgs hzk
      simp only [mark, fill, Act.put, List.setIfInBounds_toArray, List.set_cons_zero, List.set_cons_succ]
      replace S := Lib.hid S
      refine Wk.o (i := 14) at14 (by kernel_rfl) fun K' hK => ?_
      go_simp
      have SN := S.out
      clear S
      have S := SN
      clear SN
      refine hK.out _ _ ⟨(S.cb 2 rfl), (S.cb 0 rfl)⟩ ?_
      clear hK K'
      replace S := Lib.hid S
      try simp only [Act.put, List.setIfInBounds_toArray, List.set_cons_zero, List.set_cons_succ]
      refine Wk.done (by kernel_rfl) ?_
      go_simp
      replace S := S.out
      have S : St w _ [(g_d, #[.bool (ng mb.num), .slice A35 n35 c35, .slice D35 m35 d35], 26), (w6.heap.size, #[.bool (ng un.num), .slice A8 n8 c8, .slice D8 m8 d8], 26), (w5.heap.size, #[.bool (ng y.num), .slice A1 n1 c1, .slice D1 m1 d1], 26), (w.heap.size, #[.bool (ng q.num), .slice A n c, .slice D m d], 26)] [(D36, m36, d36, dn on), (A36, n36, c36, limbs on.num.natAbs), (D35, m35, d35, dn mb), (A35, n35, c35, limbs mb.num.natAbs), (D34, m34, d34, dn ma), (A34, n34, c34, limbs ma.num.natAbs), (D33, m33, d33, dn tw), (A33, n33, c33, limbs tw.num.natAbs), (D32, m32, d32, dn ab), (A32, n32, c32, limbs ab.num.natAbs), (D31, m31, d31, dn s), (A31, n31, c31, limbs s.num.natAbs), (D8, m8, d8, dn un), (A8, n8, c8, limbs un.num.natAbs), (A9, n9, c9, limbs (10 ^ 64)), (D1, m1, d1, dn y), (A1, n1, c1, limbs y.num.natAbs), (D, m, d, dn q), (A, n, c, limbs q.num.natAbs)] := S
      replace S := Lib.hid S
      replace S := S.out
      replace S := Lib.hid S
      have S := S.out
      replace S := Lib.hid S
      go_wp2
      go_ret
      exact ⟨rfl, S.out.bel⟩
end Go.Proofs.YtekmoaedidigpaaGreatDoor
