/- The law's short, limit, agree. -/
import Derived.Test.YthbkdjbmkhmlnaaDoorTl
namespace Go.Proofs.YthbkdjbmkhmlnaaDoor
open Go.RowKit
set_option linter.unusedVariables false

theorem leaf_nd (nm : ByteArray) : toNd ⟨1, nm.data.toList, 0⟩ = ⟨1, nm, 0⟩ := by
  show (⟨((1 : Nat) : Int), ⟨nm.data.toList.toArray⟩, ((0 : Nat) : Int)⟩ : Nd) = _
  rw [bs_of]; rfl
theorem leaf_wf {nm : ByteArray} (h : nameB nm = true) : (F9.Tr.leaf ⟨1, nm.data.toList, 0⟩).wf := .inl ⟨rfl, h, rfl⟩
set_option maxRecDepth 100000 in
set_option maxHeartbeats 4000000 in
theorem short_any (s : ByteArray) (L : List Nd) (A : Option Addr) (n c : Nat) (nm : ByteArray) (w : World) (h : LR ndC w A n L) (hc : n ≤ c) (hnm : nameB nm = true) : Calls Tryd.prog 17 #[.agg #[.string s, .slice A n c], .string nm] w fun e w' => ∃ (v : Value) (tr : F9.Tr), e = .returned v ∧ tr.wf ∧ tr.pre.length ≤ 12 ∧ SlN w w' v (tr.pre.map toNd) := by
  have S1 := Lib.hid ((St.new w).alloc #[.string s, .slice A n c] 24 (noLof rfl))
  obtain ⟨fb, hfb⟩ : ∃ b, b = w.heap.size := ⟨_, rfl⟩
  obtain ⟨w1, hw1⟩ : ∃ W, W = w.alloc (.cells #[.string s, .slice A n c] 24) := ⟨_, rfl⟩
  rw [← hfb, ← hw1] at S1
  have k0 : w1.cell? ⟨fb, 0, none⟩ = some (.string s) := S1.out.cl 0 0 rfl rfl
  have k1 : w1.cell? ⟨fb, 1, none⟩ = some (.slice A n c) := S1.out.cl 0 1 rfl rfl
  have hlf : Hid (∀ W, SlN W (W.alloc (.cells #[.int .i64 1, .string nm, .int .i64 0] 39)) (.slice (some ⟨W.heap.size, 0, none⟩) 1 1) ((F9.Tr.leaf ⟨1, nm.data.toList, 0⟩).pre.map toNd)) := Lib.hid fun W => by
    have SA : St W (W.alloc (.cells #[.int .i64 1, .string nm, .int .i64 0] 39)) [(W.heap.size, #[.int .i64 1, .string nm, .int .i64 0], 39)] [] := (St.new W).alloc #[.int .i64 1, .string nm, .int .i64 0] 39 (noLof rfl)
    have e : (F9.Tr.leaf ⟨1, nm.data.toList, 0⟩).pre.map toNd = [⟨1, nm, 0⟩] := by show [toNd _] = _; rw [leaf_nd]
    rw [e]
    exact ⟨some ⟨W.heap.size, 0, none⟩, 1, rfl, Nat.le_refl _, St_glr (C := ndC) (L := [⟨1, nm, 0⟩]) SA 1 rfl (fun x _ => ⟨trivial, trivial, trivial⟩), SA.bel⟩
  have hwf := Lib.hid (leaf_wf hnm)
  by_cases h12 : 12 < n
  · have g1 : (12 : Int) < (n : Int) := by omega
    have hB := Lib.hid S1.out.bel
    clear h hc hnm h12 S1
    go_enter Tryd.func17, Tryd.ntmps17
    go_upto_region 1 with fail
    rw [← hfb, ← hw1]
    clear hfb hw1
    go_wp2
    clear k0 k1
    go_ret
    exact ⟨_, _, rfl, hwf.out, show 1 ≤ 12 by decide, (hlf.out w1).rebase hB.out⟩
  · have g1 : ¬ ((12 : Int) < (n : Int)) := by omega
    have hV := Lib.hid (rvalid_any s L A n c w1 (h.bel S1.out.bel) (by omega))
    cases hf : frmB s L with
    | false =>
      rw [hf] at hV
      clear h hc hnm h12 hf
      go_enter Tryd.func17, Tryd.ntmps17
      go_upto_region 1 with fail
      rw [← hfb, ← hw1]
      clear hfb hw1
      go_wp2_with fail
      clear k0 k1
      refine hV.out.mono ?_
      rintro e w2 ⟨rfl, hb⟩
      have hB := Lib.hid (S1.out.call hb).bel
      clear hb S1 hV
      go_wp2
      go_ret
      exact ⟨_, _, rfl, hwf.out, show 1 ≤ 12 by decide, (hlf.out w2).rebase hB.out⟩
    | true =>
      rw [hf] at hV
      obtain ⟨tr, hw, rfl⟩ := frm_tree hf
      have hlen := h.len
      have hl12 : Hid (tr.pre.length ≤ 12) := Lib.hid (by rw [List.length_map] at hlen; omega)
      have hh := Lib.hid h
      have hcc := Lib.hid hc
      have hwh := Lib.hid hw
      have hlenh := Lib.hid hlen
      clear h hc hnm h12 hf hw hlen
      go_enter Tryd.func17, Tryd.ntmps17
      go_upto_region 1 with fail
      rw [← hfb, ← hw1]
      clear hfb hw1
      go_wp2_with fail
      clear k0 k1
      refine hV.out.mono ?_
      rintro e w2 ⟨rfl, hb⟩
      have S2 := Lib.hid (S1.out.call hb)
      have k0 : w2.cell? ⟨fb, 0, none⟩ = some (.string s) := S2.out.cl 0 0 rfl rfl
      have k1 : w2.cell? ⟨fb, 1, none⟩ = some (.slice A n c) := S2.out.cl 0 1 rfl rfl
      clear hb S1 hV
      go_wp2
      go_ret
      exact ⟨_, tr, rfl, hwh.out, hl12.out, A, c, by rw [hlenh.out]; rfl, by rw [hlenh.out]; exact hcc.out, by rw [hlenh.out]; exact hh.out.bel S2.out.bel, S2.out.bel⟩
theorem y_nm : nameB ⟨#[121]⟩ = true := by decide +kernel
theorem y_frm {x : F9.Tr} (hw : x.wf) (hl : x.pre.length ≤ 64) : frmB ⟨#[121]⟩ (x.pre.map toNd) = true := tree_frm hw y_nm hl
/-- The program's Expand of a right side. -/
theorem py_any (x : F9.Tr) (hw : x.wf) (hl : x.pre.length ≤ 64) (A : Option Addr) (n c : Nat) (w : World) (h : LR ndC w A n (x.pre.map toNd)) (hc : n ≤ c) (hO : Og w) : Calls Tryd.prog 11 #[.agg #[.string ⟨#[121]⟩, .slice A n c]] w fun e w' => MV w w' e (RTs ⟨#[121]⟩ x) (RTb x) (RTm x) (RTe x) :=
  (expand_any ⟨#[121]⟩ x hw A n c w h hc hO (y_frm hw hl) (by decide) (nd_siz hw)).mono fun e w' hE => exp_mv hE
theorem ry_any (x : F9.Tr) (hw : x.wf) (hl : x.pre.length ≤ 64) (A : Option Addr) (n c : Nat) (w : World) (h : LR ndC w A n (x.pre.map toNd)) : Calls Tryd.prog 12 #[.agg #[.string ⟨#[121]⟩, .slice A n c]] w fun e w' => MV w w' e (RTs ⟨#[121]⟩ x) (RTb x) (RTm x) (RTe x) :=
  (rexpand_yes ⟨#[121]⟩ x hw A n c w h (y_frm hw hl)).mono fun e w' hE => rx_mv hE
theorem rte_two (x : F9.Tr) : RTe x = 2 ∨ RTe x = 0 := by
  unfold RTe
  cases F10.rex x with
  | none => exact .inl rfl
  | some m => exact .inr rfl
set_option maxRecDepth 100000 in
set_option maxHeartbeats 4000000 in
theorem limit_any (x : F9.Tr) (hw : x.wf) (hl : x.pre.length ≤ 64) (A : Option Addr) (n c : Nat) (w : World) (h : LR ndC w A n (x.pre.map toNd)) : Calls Tryd.prog 20 #[.slice A n c] w fun e w' => e = .returned (.int .i64 (RTe x)) ∧ Below w.heap.size w w' := by
  have hR := Lib.hid (ry_any x hw hl A n c w h)
  clear h hw hl
  generalize RTs ⟨#[121]⟩ x = sv at *
  generalize RTb x = bz at *
  generalize RTm x = TS at *
  generalize RTe x = ev at *
  go_enter Tryd.func20, Tryd.ntmps20
  go_wp2_with fail
  refine hR.out.mono ?_
  rintro e w2 ⟨TA, Ts, tc, rfl, hc3, hl3, hm3, hb⟩
  have S3 := Lib.hid (((St.new w).call hb).alloc #[.string sv, .bool bz, .slice TA Ts.length tc] 29 (noLof rfl))
  clear hR hc3 hl3 hm3 hb
  go_wp2
  go_ret
  exact ⟨rfl, S3.out.bel⟩
/-- What two right sides must have. -/
def AgP (x y : F9.Tr) : Prop := ∀ m n, F10.rex x = some m → F10.rex y = some n → RTb x = RTb y ∧ (RTm x).length = (RTm y).length ∧ ∀ t ∈ RTm x, ((RTm y).any fun u => sfB t u) = true
theorem rte_some {x : F9.Tr} (h : RTe x = 0) : ∃ m, F10.rex x = some m := by
  unfold RTe at h
  cases hr : F10.rex x with
  | none => rw [hr] at h; exact absurd h (by decide)
  | some m => exact ⟨m, rfl⟩
set_option maxRecDepth 100000 in
set_option maxHeartbeats 4000000 in
theorem agree_any (x y : F9.Tr) (wx : x.wf) (wy : y.wf) (lx : x.pre.length ≤ 64) (ly : y.pre.length ≤ 64) (hA : AgP x y) (A : Option Addr) (n c : Nat) (B : Option Addr) (m d : Nat) (w : World) (h : LR ndC w A n (x.pre.map toNd)) (hc : n ≤ c) (hB : LR ndC w B m (y.pre.map toNd)) (hd : m ≤ d) (hO : Og w) : Calls Tryd.prog 18 #[.slice A n c, .slice B m d] w fun e w' => e = .returned (.bool true) ∧ Below w.heap.size w w' := by
  have hPx := Lib.hid (py_any x wx lx A n c w h hc hO)
  have hPy := Lib.hid (fun W (hW : Below w.heap.size w W) => py_any y wy ly B m d W (hB.bel hW) hd (hO.bel hW))
  have hLx := Lib.hid (fun W (hW : Below w.heap.size w W) => limit_any x wx lx A n c W (h.bel hW))
  have hLy := Lib.hid (fun W (hW : Below w.heap.size w W) => limit_any y wy ly B m d W (hB.bel hW))
  have hsx := Lib.hid (rtm_siz wx (y_frm wx lx))
  have hsy := Lib.hid (rtm_siz wy (y_frm wy ly))
  have hAg : Hid (RTe x = 0 → RTe y = 0 → RTb x = RTb y ∧ (RTm x).length = (RTm y).length ∧ ∀ t ∈ RTm x, ((RTm y).any fun u => sfB t u) = true) := Lib.hid fun h1 h2 => by
    obtain ⟨m1, h1⟩ := rte_some h1
    obtain ⟨m2, h2⟩ := rte_some h2
    exact hA m1 m2 h1 h2
  have hex := Lib.hid (rte_two x)
  have hey := Lib.hid (rte_two y)
  clear wx wy lx ly hA h hc hB hd hO
  generalize RTs ⟨#[121]⟩ x = sx at *
  generalize RTs ⟨#[121]⟩ y = sy at *
  generalize RTb x = bx at *
  generalize RTb y = by_ at *
  generalize RTm x = TX at *
  generalize RTm y = TY at *
  generalize RTe x = ex at *
  generalize RTe y = ey at *
  go_enter Tryd.func18, Tryd.ntmps18
  go_wp2_with fail
  refine hPx.out.mono ?_
  rintro e w2 ⟨TA, Ts, tc, rfl, hc3, hl3, hm3, hb⟩
  have S3 := Lib.hid (((St.new w).call hb).alloc #[.string sx, .bool bx, .slice TA Ts.length tc] 29 (noLof rfl))
  obtain ⟨pb, hpb⟩ : ∃ b, b = w2.heap.size := ⟨_, rfl⟩
  obtain ⟨w4, hw4⟩ : ∃ W, W = w2.alloc (.cells #[.string sx, .bool bx, .slice TA Ts.length tc] 29) := ⟨_, rfl⟩
  rw [← hpb, ← hw4] at S3
  have hl4 : LR (slC faC) w4 TA Ts.length Ts := by rw [hw4]; exact hl3.bel ((Below.refl _ w2).alloc (Nat.le_refl _) _)
  obtain ⟨tn, htn⟩ : ∃ k, k = Ts.length := ⟨_, rfl⟩
  rw [← htn] at S3 hl4 hw4
  rw [← htn]
  replace hl4 := Lib.hid hl4
  replace hm3 := Lib.hid hm3
  replace htn := Lib.hid htn
  clear hPx hb hc3 hl3
  go_upto_region 2 with fail
  rw [← hpb, ← hw4]
  clear hpb hw4
  go_wp2_with fail
  refine (hPy.out w4 S3.out.bel).mono ?_
  rintro e w5 ⟨UA, Us, uc, rfl, hc5, hl5, hm5, hb⟩
  have S5 := Lib.hid ((S3.out.call hb).alloc #[.string sy, .bool by_, .slice UA Us.length uc] 29 (noLof rfl))
  obtain ⟨qb, hqb⟩ : ∃ b, b = w5.heap.size := ⟨_, rfl⟩
  obtain ⟨w6, hw6⟩ : ∃ W, W = w5.alloc (.cells #[.string sy, .bool by_, .slice UA Us.length uc] 29) := ⟨_, rfl⟩
  rw [← hqb, ← hw6] at S5
  have B46 : Below w4.heap.size w4 w6 := by
    rw [hw6]; exact hb.trans (((Below.refl _ w5).alloc (Nat.le_refl _) _).mono hb.size)
  have hl6 : LR (slC faC) w6 UA Us.length Us := by rw [hw6]; exact hl5.bel ((Below.refl _ w5).alloc (Nat.le_refl _) _)
  obtain ⟨un, hun⟩ : ∃ k, k = Us.length := ⟨_, rfl⟩
  rw [← hun] at S5 hl6 hw6
  rw [← hun]
  have hl46 := Lib.hid (hl4.out.bel B46)
  replace hl6 := Lib.hid hl6
  replace hm5 := Lib.hid hm5
  replace hun := Lib.hid hun
  clear hPy S3 hb hc5 hl5 B46 hl4
  go_upto_region 3 with fail
  rw [← hqb, ← hw6]
  clear hqb hw6
  rcases hex.out with rfl | rfl
  · have hL := Lib.hid (hLx.out w6 S5.out.bel)
    go_wp2_with fail
    refine hL.out.mono ?_
    rintro e w7 ⟨rfl, hb⟩
    have T := Lib.hid (S5.out.call hb).bel
    clear hL hb S5
    go_wp2
    go_ret
    exact ⟨rfl, T.out⟩
  · rcases hey.out with rfl | rfl
    · have hL := Lib.hid (hLy.out w6 S5.out.bel)
      go_wp2_with fail
      refine hL.out.mono ?_
      rintro e w7 ⟨rfl, hb⟩
      have T := Lib.hid (S5.out.call hb).bel
      clear hL hb S5
      go_wp2
      go_ret
      exact ⟨rfl, T.out⟩
    · obtain ⟨rfl, hlen, hmem⟩ := hAg.out rfl rfl
      have htu : tn = un := by rw [htn.out, hun.out]; rw [← hm3.out, ← hm5.out, List.length_map, List.length_map] at hlen; exact hlen
      subst htu
      have hSm := Lib.hid (same_any sx sy bx Ts Us TA tn tc UA uc w6 hl46.out hl6.out (fun x hx => by
        have := hmem x.L (by rw [← hm3.out]; exact List.mem_map_of_mem hx)
        rw [← hm5.out, List.any_map] at this
        exact this) (by have := hsx.out.1; rw [← hm3.out, List.length_map, ← htn.out] at this; omega) (fun x hx => by have := hsx.out.2 x.L (by rw [← hm3.out]; exact List.mem_map_of_mem hx); omega) (fun x hx => by have := hsy.out.2 x.L (by rw [← hm5.out]; exact List.mem_map_of_mem hx); omega))
      clear hlen hmem hLx hLy
      have p0 : w6.cell? ⟨pb, 0, none⟩ = some (.string sx) := S5.out.cl 1 0 rfl rfl
      have p1 : w6.cell? ⟨pb, 1, none⟩ = some (.bool bx) := S5.out.cl 1 1 rfl rfl
      have p2 : w6.cell? ⟨pb, 2, none⟩ = some (.slice TA tn tc) := S5.out.cl 1 2 rfl rfl
      have q0 : w6.cell? ⟨qb, 0, none⟩ = some (.string sy) := S5.out.cl 0 0 rfl rfl
      have q1 : w6.cell? ⟨qb, 1, none⟩ = some (.bool bx) := S5.out.cl 0 1 rfl rfl
      have q2 : w6.cell? ⟨qb, 2, none⟩ = some (.slice UA tn uc) := S5.out.cl 0 2 rfl rfl
      go_wp2_with fail
      clear p0 p1 p2 q0 q1 q2
      refine hSm.out.mono ?_
      rintro e w7 ⟨rfl, hb⟩
      have T := Lib.hid (S5.out.call hb).bel
      clear hSm hb S5
      go_wp2
      go_ret
      exact ⟨rfl, T.out⟩
end Go.Proofs.YthbkdjbmkhmlnaaDoor
