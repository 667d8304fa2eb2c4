/- The reference's Same on what is the same; awake of the law. -/
import Derived.Test.YtpdfliocldhblaaDoorM15
import Derived.Test.YtpdfliocldhblaaDoorM21
namespace Go.Proofs.YtpdfliocldhblaaDoor
open Go.RowKit
set_option linter.unusedVariables false

set_option maxRecDepth 100000 in
set_option maxHeartbeats 4000000 in
theorem same_yes (s : ByteArray) (L : List Nd) (A A' : Option Addr) (n c c' : Nat) (w : World) (h : LR ndC w A n L) (h' : LR ndC w A' n L) (hn : n ≤ 100000) : Calls Tryd.prog 19 #[.agg #[.string s, .slice A n c], .agg #[.string s, .slice A' n c']] w fun e w' => e = .returned (.bool true) ∧ Below w.heap.size w w' := by
  have S1 := Lib.hid (((St.new w).allocAt w.heap.size #[.string s, .slice A n c] 25 (noLof rfl) rfl).allocAt (w.heap.size + 1) #[.string s, .slice A' n c'] 25 (noLof rfl) (by simp))
  replace h := Lib.hid h
  replace h' := Lib.hid h'
  go_enter Tryd.func19, Tryd.ntmps19
  go_wp2
  go_loopw [5] (fun iv wr => ∃ i : Nat, i ≤ n ∧ iv = .int .i64 i ∧ St w wr [(w.heap.size + 1, #[.string s, .slice A' n c'], 25), (w.heap.size, #[.string s, .slice A n c], 25)] []) (fun iv _ => n - (intOf iv).toNat)
  case atStart => exact ⟨0, Nat.zero_le _, rfl, S1.out⟩
  case round =>
    obtain ⟨i, hin, rfl, S⟩ := hrel
    by_cases hlt : i < n
    · obtain ⟨b, o, x, rfl, hx, hxm, a0, a1, a2⟩ := nd_get (h.out.bel S.bel) hlt
      obtain ⟨b', o', x', rfl, hx', hxm', b0, b1, b2⟩ := nd_get (h'.out.bel S.bel) hlt
      obtain rfl : x = x' := by rw [hx] at hx'; injection hx'
      have g1 : (i : Int) < (n : Int) := by omega
      have g2 : (0 : Int) ≤ (i : Int) := by omega
      have c1 := S.cl 0 1 rfl rfl
      have d1 := S.cl 1 1 rfl rfl
      have hz1 := S.lt 0 rfl
      have hz2 := S.lt 1 rfl
      have hli := Lib.hid hlt
      replace S := Lib.hid S
      clear hx hx' hxm hxm'
      go_upto_region 6 with fail
      have hbase := Lib.hid (St.new wr)
      refine RW.begin (Z := []) (S := (fun W => Below wr.heap.size wr W)) (by kernel_rfl) ?_ hbase.out ?_
      · exact ⟨by kernel_rfl, zis_nil, by decide, by decide, nol_nil, (fun _ _ h => h.bel)⟩
      intro hzk
      refine RW.t (i := 0) (v := .pointer (some ⟨w.heap.size, 1, none⟩)) (some 27) at0 (hy := fun _ _ => by go_simp) (h := ?_)
      refine RW.t (i := 1) (v := .slice (some ⟨b, o, none⟩) n c) (some 28) at1 (hy := fun W hS => by (have k0 := bel_cell hS d1; clear hS; go_simp)) (h := ?_)
      refine RW.t (i := 2) (v := .int .i64 (i : Nat)) (some 29) at2 (hy := fun _ _ => by kernel_rfl) (h := ?_)
      refine RW.t (i := 3) (v := .pointer (some ⟨b, o + i * 3, none⟩)) (some 30) at3 (hy := fun _ _ => by go_simp) (h := ?_)
      refine RW.t (i := 4) (v := .agg #[.int .i64 x.o, .string x.s, .int .i64 x.k]) (some 31) at4 (hy := fun W hS => by (have k0 := bel_cell hS a0; have k1 := bel_cell hS a1; have k2 := bel_cell hS a2; clear hS; go_simp)) (h := ?_)
      refine RW.t (i := 5) (v := .pointer (some ⟨w.heap.size + 1, 1, none⟩)) (some 32) at5 (hy := fun _ _ => by go_simp) (h := ?_)
      refine RW.t (i := 6) (v := .slice (some ⟨b', o', none⟩) n c') (some 33) at6 (hy := fun W hS => by (have k0 := bel_cell hS c1; clear hS; go_simp)) (h := ?_)
      refine RW.t (i := 7) (v := .int .i64 (i : Nat)) (some 34) at7 (hy := fun _ _ => by kernel_rfl) (h := ?_)
      refine RW.t (i := 8) (v := .pointer (some ⟨b', o' + i * 3, none⟩)) (some 35) at8 (hy := fun _ _ => by go_simp) (h := ?_)
      refine RW.t (i := 9) (v := .agg #[.int .i64 x.o, .string x.s, .int .i64 x.k]) (some 36) at9 (hy := fun W hS => by (have k0 := bel_cell hS b0; have k1 := bel_cell hS b1; have k2 := bel_cell hS b2; clear hS; go_simp)) (h := ?_)
      refine RW.t (i := 10) (v := .bool false) (some 37) at10 (hy := fun _ _ => by go_simp) (h := ?_)
      refine RW.tail hzk.out (by kernel_rfl) ?_
      intro gs' w5 hgs' hS Sb
      obtain rfl := len0 hgs'
      simp only [mark, fill, Act.put, List.setIfInBounds_toArray, List.set_cons_zero, List.set_cons_succ]
      refine Wk.done (by kernel_rfl) ?_
      have S5 := Lib.hid (S.out.call hS)
      clear Sb hgs' hzk hbase hS S c1 d1 a0 a1 a2 b0 b1 b2 hz1 hz2
      try go_simp
      have hlt := hli.out
      go_wp2
      go_roundw
      case rel => exact ⟨i + 1, by omega, by go_num, S5.out⟩
      case measure => (first | (simp [intOf]; done) | (simp [intOf]; omega))
    · obtain rfl : i = n := by omega
      have c1 := S.cl 0 1 rfl rfl
      have d1 := S.cl 1 1 rfl rfl
      have hz1 := S.lt 0 rfl
      have hz2 := S.lt 1 rfl
      replace S := Lib.hid S
      go_wp2
      go_ret
      exact ⟨rfl, S.out.bel⟩

/-- What is written is the nodes'. -/
theorem fmt_text {s r : ByteArray} {L : List Nd} {er : Int} {x : F9.Bs} {k : Nat} (h : FmtV s L r er) (hf : frmB s L = true) (hx : (L.map ofNd).foldr F9.ph1 [] = [(x, k)]) : r = s ++ ⟨#[32, 126, 32]⟩ ++ bsA x ∧ er = 0 := by
  rcases h with ⟨h1, _⟩ | ⟨_, tr, hw, hL, hr, he⟩
  · rw [hf] at h1; cases h1
  · have e1 : L.map ofNd = tr.pre := by
      rw [hL, List.map_map]
      conv => rhs; rw [← List.map_id tr.pre]
      exact List.map_congr_left fun y _ => of_to y
    rw [e1, F9.ph_pre tr hw] at hx
    simp only [List.nil_append, List.cons.injEq, Prod.mk.injEq, and_true] at hx
    exact ⟨by rw [hr, hx.1], he⟩

/-- The chapter's example. -/
def exT : ByteArray := ⟨#[121, 32, 126, 32, 97, 42, 98, 32, 45, 32, 97, 58, 98]⟩
def exL : List Nd := [⟨6, ⟨#[]⟩, 0⟩, ⟨8, ⟨#[]⟩, 0⟩, ⟨1, ⟨#[97]⟩, 0⟩, ⟨1, ⟨#[98]⟩, 0⟩, ⟨7, ⟨#[]⟩, 0⟩, ⟨1, ⟨#[97]⟩, 0⟩, ⟨1, ⟨#[98]⟩, 0⟩]
def exU : ByteArray := ⟨#[121, 32, 126, 32, 97, 32, 43, 32]⟩
theorem ex_par : parV exT.data.toList = (0, 0, ⟨#[121]⟩, exL) := by kernel_rfl
theorem ex_par2 : parV exU.data.toList = (3, 8, ⟨#[]⟩, []) := by kernel_rfl
theorem ex_frm : frmB ⟨#[121]⟩ exL = true := by kernel_rfl
theorem ex_ph : (exL.map ofNd).foldr F9.ph1 [] = [([97, 32, 42, 32, 98, 32, 45, 32, 97, 58, 98], 1)] := by kernel_rfl
end Go.Proofs.YtpdfliocldhblaaDoor
namespace Go.Proofs.YtpdfliocldhblaaDoor
open Go.RowKit
set_option linter.unusedVariables false

theorem ex_parse (w : World) (hO : Og w) : Calls Tryd.prog 17 #[.string ⟨#[121, 32, 126, 32, 97, 42, 98, 32, 45, 32, 97, 58, 98]⟩] w fun e w' => (∃ A c, e = .returned (.tuple #[.agg #[.string ⟨#[121]⟩, .slice A 7 c], .int .i64 0, .int .i64 0]) ∧ LR ndC w' A 7 exL ∧ 7 ≤ c) ∧ Below w.heap.size w w' := by
  refine (parse_any exT w (by decide) hO).mono ?_
  rintro e w' ⟨s, l, q, er, rfl, h1, h2, h3, h4⟩
  rw [ex_par] at h1
  simp only [Prod.mk.injEq] at h1
  obtain ⟨a1, a2, a3, a4⟩ := h1
  have e1 : l.L.length = 7 := by rw [← a4]; rfl
  rw [e1] at h2 h3
  rw [← a4] at h3
  refine ⟨⟨l.A, l.c, ?_, h3, h2⟩, h4⟩
  rw [← a1, ← a2, ← a3]
  show Ending.returned (.tuple #[.agg #[.string ⟨#[121]⟩, .slice l.A l.L.length l.c], _, _]) = _
  rw [e1]
  rfl
theorem ex_parse2 (w : World) (hO : Og w) : Calls Tryd.prog 17 #[.string ⟨#[121, 32, 126, 32, 97, 32, 43, 32]⟩] w fun e w' => (∃ s A n c, e = .returned (.tuple #[.agg #[.string s, .slice A n c], .int .i64 8, .int .i64 3])) ∧ Below w.heap.size w w' := by
  refine (parse_any exU w (by decide) hO).mono ?_
  rintro e w' ⟨s, l, q, er, rfl, h1, h2, h3, h4⟩
  rw [ex_par2] at h1
  simp only [Prod.mk.injEq] at h1
  obtain ⟨a1, a2, a3, a4⟩ := h1
  rw [← a1, ← a2]
  exact ⟨⟨s, l.A, l.L.length, l.c, rfl⟩, h4⟩
theorem ex_format (A : Option Addr) (c : Nat) (w : World) (h : LR ndC w A 7 exL) (hc : 7 ≤ c) (hO : Og w) : Calls Tryd.prog 21 #[.agg #[.string ⟨#[121]⟩, .slice A 7 c]] w fun e w' => e = .returned (.tuple #[.string ⟨#[121, 32, 126, 32, 97, 32, 42, 32, 98, 32, 45, 32, 97, 58, 98]⟩, .int .i64 0]) ∧ Below w.heap.size w w' := by
  refine (format_any ⟨#[121]⟩ exL A c w h hc (by decide) (by decide) (by decide) hO).mono ?_
  rintro e w' ⟨⟨r, er, rfl, hF⟩, hB⟩
  obtain ⟨h1, h2⟩ := fmt_text hF ex_frm ex_ph
  subst h2
  rw [h1]
  exact ⟨rfl, hB⟩

set_option maxRecDepth 100000 in
set_option maxHeartbeats 4000000 in
theorem awake_any (w : World) (hO : Og w) : Calls Tryd.prog 16 #[] w fun e w' => e = .returned (.bool true) ∧ Below w.heap.size w w' := by
  have hb := Lib.hid hO
  have hz0 := hO.1
  have S0 := Lib.hid (St.new w)
  clear hO
  go_enter Tryd.func16, Tryd.ntmps16
  go_wp2_with fail
  refine (ex_parse w hb.out).mono ?_
  rintro e w1 ⟨⟨A, c, rfl, hL, hc⟩, hB⟩
  have S1 := S0.out.call hB
  have S2 := Lib.hid (S1.alloc #[.string ⟨#[121]⟩, .slice A 7 c] 25 (noLof rfl))
  have hL2 := Lib.hid (hL.bel ((Below.refl _ _).alloc (Nat.le_refl _) (.cells #[.string ⟨#[121]⟩, .slice A 7 c] 25)))
  replace hc := Lib.hid hc
  clear hL hB S0 S1
  go_wp2_with fail
  refine (ex_format A c _ hL2.out hc.out (hb.out.bel S2.out.bel)).mono ?_
  rintro e w2 ⟨rfl, hB⟩
  have S3 := Lib.hid (S2.out.call hB)
  clear hL2 S2 hB hc
  go_wp2_with fail
  refine (ex_parse2 _ (hb.out.bel S3.out.bel)).mono ?_
  rintro e w3 ⟨⟨s, A2, n2, c2, rfl⟩, hB⟩
  have S4 := Lib.hid ((S3.out.call hB).alloc #[.string s, .slice A2 n2 c2] 25 (noLof rfl))
  clear S3 hB
  go_wp2
  go_ret
  exact ⟨rfl, S4.out.bel⟩
end Go.Proofs.YtpdfliocldhblaaDoor
namespace Go.Proofs.YtpdfliocldhblaaDoor
open Go.RowKit
set_option linter.unusedVariables false

theorem par_len (l : F9.Bs) : (parV l).2.2.2.length ≤ 64 := by
  unfold parV
  split
  · exact Nat.zero_le _
  · split
    · exact Nat.zero_le _
    · split
      · exact Nat.zero_le _
      · rename_i h
        show (List.map toNd _).length ≤ 64
        rw [List.length_map]
        omega
set_option maxRecDepth 100000 in
set_option maxHeartbeats 4000000 in
theorem law_parses (t : ByteArray) (w : World) (ht : t.size ≤ 9223372036854775807) (hO : Og w) : Calls Tryd.prog 3 #[.string t] w fun e w' => e = .returned (.bool true) ∧ Below w.heap.size w w' := by
  have hb := Lib.hid hO
  have hz0 := hO.1
  have S0 := Lib.hid (St.new w)
  clear hO
  by_cases h1 : t.size ≤ 600
  · have g1 : ¬ 600 < (t.size : Int) := by omega
    have hbig : t.size ≤ 1000000 := by omega
    clear h1
    go_enter Tryd.func3, Tryd.ntmps3
    go_wp2_with fail
    refine (parse_any t w hbig hb.out).mono ?_
    rintro e w1 ⟨s, l, q, er, rfl, p1, p2, p3, hB⟩
    have hv : (l.v : Value) = .slice l.A l.L.length l.c := rfl
    rw [hv]
    have S1 := Lib.hid ((S0.out.call hB).alloc #[.string s, .slice l.A l.L.length l.c] 25 (noLof rfl))
    have hL1 := Lib.hid (p3.bel ((Below.refl _ _).alloc (Nat.le_refl _) (.cells #[.string s, .slice l.A l.L.length l.c] 25)))
    clear S0 hB p3 hv
    go_wp2_with fail
    refine (rparse_any t _ hbig).mono ?_
    rintro e w2 ⟨s2, l2, q2, er2, rfl, r1, r2, r3, hB⟩
    rw [p1] at r1
    simp only [Prod.mk.injEq] at r1
    obtain ⟨rfl, rfl, rfl, hLL⟩ := r1
    have hv : (l2.v : Value) = .slice l2.A l.L.length l2.c := by rw [hLL]; rfl
    rw [hv]
    rw [← hLL] at r3
    have hlen : l.L.length ≤ 100000 := by
      have : (parV t.data.toList).2.2.2.length ≤ 64 := par_len _
      rw [p1] at this
      exact Nat.le_trans this (by decide)
    have S2 := Lib.hid ((S1.out.call hB).alloc #[.string s, .slice l2.A l.L.length l2.c] 25 (noLof rfl))
    have hL2 := Lib.hid ((hL1.out.bel hB).bel ((Below.refl _ _).alloc (Nat.le_refl _) (.cells #[.string s, .slice l2.A l.L.length l2.c] 25)))
    have hL3 := Lib.hid (r3.bel ((Below.refl _ _).alloc (Nat.le_refl _) (.cells #[.string s, .slice l2.A l.L.length l2.c] 25)))
    replace hlen := Lib.hid hlen
    clear S1 hB hL1 r3 hv p1 p2 r2 hLL
    go_wp2_with fail
    refine (awake_any _ (hb.out.bel S2.out.bel)).mono ?_
    rintro e w3 ⟨rfl, hB⟩
    have S3 := S2.out.call hB
    have hL4 := Lib.hid (hL2.out.bel hB)
    have hL5 := Lib.hid (hL3.out.bel hB)
    have c_0 := S3.cl 0 0 rfl rfl
    have c_1 := S3.cl 0 1 rfl rfl
    have d_0 := S3.cl 1 0 rfl rfl
    have d_1 := S3.cl 1 1 rfl rfl
    have z_0 := S3.lt 0 rfl
    have z_1 := S3.lt 1 rfl
    replace S3 := Lib.hid S3
    clear S2 hL2 hL3 hB
    go_wp2_with fail
    refine (same_yes s l.L l.A l2.A l.L.length l.c l2.c _ hL4.out hL5.out hlen.out).mono ?_
    rintro e w4 ⟨rfl, hB⟩
    have hB4 := Lib.hid (S3.out.bel.trans (hB.mono S3.out.bel.size))
    clear S3 hL4 hL5 hB c_0 c_1 d_0 d_1 z_0 z_1
    go_wp2
    go_ret
    exact ⟨rfl, hB4.out⟩
  · by_cases h2 : t.size ≤ 65536
    · have g1 : 600 < (t.size : Int) := by omega
      have g2 : (t.size : Int) ≤ 65536 := by omega
      clear h1 h2
      go_enter Tryd.func3, Tryd.ntmps3
      go_wp2_with fail
      refine (awake_any w hb.out).mono ?_
      rintro e w1 ⟨rfl, hB⟩
      replace hB := Lib.hid hB
      go_wp2
      go_ret
      exact ⟨rfl, hB.out⟩
    · by_cases h3 : t.size ≤ 65546
      · have g1 : 600 < (t.size : Int) := by omega
        have g2 : ¬ (t.size : Int) ≤ 65536 := by omega
        have g3 : ¬ 65546 < (t.size : Int) := by omega
        have hbig : t.size ≤ 1000000 := by omega
        clear h1 h2 h3
        go_enter Tryd.func3, Tryd.ntmps3
        go_wp2_with fail
        refine (parse_any t w hbig hb.out).mono ?_
        rintro e w1 ⟨s, l, q, er, rfl, p1, p2, p3, hB⟩
        have hv : (l.v : Value) = .slice l.A l.L.length l.c := rfl
        rw [hv]
        have S1 := Lib.hid ((S0.out.call hB).alloc #[.string s, .slice l.A l.L.length l.c] 25 (noLof rfl))
        have hL1 := Lib.hid (p3.bel ((Below.refl _ _).alloc (Nat.le_refl _) (.cells #[.string s, .slice l.A l.L.length l.c] 25)))
        clear S0 hB p3 hv
        go_wp2_with fail
        refine (rparse_any t _ hbig).mono ?_
        rintro e w2 ⟨s2, l2, q2, er2, rfl, r1, r2, r3, hB⟩
        rw [p1] at r1
        simp only [Prod.mk.injEq] at r1
        obtain ⟨rfl, rfl, rfl, hLL⟩ := r1
        have hv : (l2.v : Value) = .slice l2.A l.L.length l2.c := by rw [hLL]; rfl
        rw [hv]
        rw [← hLL] at r3
        have hlen : l.L.length ≤ 100000 := by
          have : (parV t.data.toList).2.2.2.length ≤ 64 := par_len _
          rw [p1] at this
          exact Nat.le_trans this (by decide)
        have S2 := Lib.hid ((S1.out.call hB).alloc #[.string s, .slice l2.A l.L.length l2.c] 25 (noLof rfl))
        have hL2 := Lib.hid ((hL1.out.bel hB).bel ((Below.refl _ _).alloc (Nat.le_refl _) (.cells #[.string s, .slice l2.A l.L.length l2.c] 25)))
        have hL3 := Lib.hid (r3.bel ((Below.refl _ _).alloc (Nat.le_refl _) (.cells #[.string s, .slice l2.A l.L.length l2.c] 25)))
        replace hlen := Lib.hid hlen
        clear S1 hB hL1 r3 hv p1 p2 r2 hLL
        go_wp2_with fail
        refine (awake_any _ (hb.out.bel S2.out.bel)).mono ?_
        rintro e w3 ⟨rfl, hB⟩
        have S3 := S2.out.call hB
        have hL4 := Lib.hid (hL2.out.bel hB)
        have hL5 := Lib.hid (hL3.out.bel hB)
        have c_0 := S3.cl 0 0 rfl rfl
        have c_1 := S3.cl 0 1 rfl rfl
        have d_0 := S3.cl 1 0 rfl rfl
        have d_1 := S3.cl 1 1 rfl rfl
        have z_0 := S3.lt 0 rfl
        have z_1 := S3.lt 1 rfl
        replace S3 := Lib.hid S3
        clear S2 hL2 hL3 hB
        go_wp2_with fail
        refine (same_yes s l.L l.A l2.A l.L.length l.c l2.c _ hL4.out hL5.out hlen.out).mono ?_
        rintro e w4 ⟨rfl, hB⟩
        have hB4 := Lib.hid (S3.out.bel.trans (hB.mono S3.out.bel.size))
        clear S3 hL4 hL5 hB c_0 c_1 d_0 d_1 z_0 z_1
        go_wp2
        go_ret
        exact ⟨rfl, hB4.out⟩
      · have g1 : 600 < (t.size : Int) := by omega
        have g2 : ¬ (t.size : Int) ≤ 65536 := by omega
        have g3 : 65546 < (t.size : Int) := by omega
        clear h1 h2 h3
        go_enter Tryd.func3, Tryd.ntmps3
        go_wp2_with fail
        refine (awake_any w hb.out).mono ?_
        rintro e w1 ⟨rfl, hB⟩
        replace hB := Lib.hid hB
        go_wp2
        go_ret
        exact ⟨rfl, hB.out⟩
end Go.Proofs.YtpdfliocldhblaaDoor
