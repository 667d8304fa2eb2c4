/- The law's example. -/
import Derived.Test.YthbkdjbmkhmlnaaDoorM23
namespace Go.Proofs.YthbkdjbmkhmlnaaDoor
open Go.RowKit
set_option linter.unusedVariables false

def exT : ByteArray := ⟨#[121, 32, 126, 32, 97, 32, 42, 32, 98, 32, 45, 32, 97]⟩
def exTr : F9.Tr := .bin 6 (.bin 8 (.leaf ⟨1, [97], 0⟩) (.leaf ⟨1, [98], 0⟩)) (.leaf ⟨1, [97], 0⟩)
theorem ex_par : parV exT.data.toList = (0, 0, ⟨#[121]⟩, exTr.pre.map toNd) := by kernel_rfl
theorem ex_frm : frmB ⟨#[121]⟩ (exTr.pre.map toNd) = true := by kernel_rfl
theorem ex_rex : F10.rex exTr = some [0, 2, 3] := by decide +kernel
theorem ex_mdT : F10.mdT (F10.atoms exTr []) [0, 2, 3] = [[([98], 1)], [([97], 1), ([98], 1)]] := by decide +kernel
theorem ex_wf : exTr.wf := ⟨by decide, by decide, ⟨by decide, by decide, .inl ⟨rfl, rfl, rfl⟩, .inl ⟨rfl, rfl, rfl⟩⟩, .inl ⟨rfl, rfl, rfl⟩⟩
theorem ex_mod : modB ⟨#[121]⟩ [[toFa ([98], 1)], [toFa ([97], 1), toFa ([98], 1)]] = true := by kernel_rfl
/-- What the example is expanded to. -/
theorem ex_expand (A : Option Addr) (c : Nat) (w : World) (h : LR ndC w A 5 (exTr.pre.map toNd)) (hc : 5 ≤ c) (hO : Og w) : Calls Tryd.prog 11 #[.agg #[.string ⟨#[121]⟩, .slice A 5 c]] w fun e w' => ∃ B d x y, e = .returned (.tuple #[.agg #[.string ⟨#[121]⟩, .bool true, .slice B 2 d], .int .i64 0]) ∧ 2 ≤ d ∧ LR (slC faC) w' B 2 [x, y] ∧ x.L = [toFa ([98], 1)] ∧ y.L = [toFa ([97], 1), toFa ([98], 1)] ∧ Below w.heap.size w w' := by
  refine (expand_yes ⟨#[121]⟩ exTr ex_wf A 5 c w h hc hO ex_frm (by decide) (fun x hx => by
    have : ∀ x ∈ exTr.pre.map toNd, x.s.size ≤ 100000 := by
      intro x hx
      obtain ⟨y, hy, rfl⟩ := List.mem_map.1 hx
      simp [exTr, F9.Tr.pre] at hy
      rcases hy with rfl | rfl | rfl | rfl | rfl <;> decide
    exact this x hx) (fun m hm h20 => by
    rw [ex_rex] at hm
    injection hm with hm
    subst hm
    exact absurd h20 (by decide))).mono ?_
  intro e w' hE
  unfold ExpV at hE
  rw [ex_rex] at hE
  obtain ⟨B, d, Ts, ob, rfl, hd, S, hI, hmap⟩ := hE
  rw [ex_mdT] at hmap
  have hlen : Ts.length = 2 := by have := congrArg List.length hmap; simpa using this
  obtain ⟨x, y, rfl⟩ : ∃ x y, Ts = [x, y] := by match Ts, hlen with | [x, y], _ => exact ⟨x, y, rfl⟩
  simp only [List.map_cons, List.map_nil, List.cons.injEq, and_true] at hmap
  exact ⟨B, d, x, y, rfl, hd, (hI w ob (fun p hp => hp)).lr S, hmap.1, hmap.2, S.bel⟩

set_option maxRecDepth 100000 in
set_option maxHeartbeats 4000000 in
theorem awake_any (w : World) (hO : Og w) : Calls Tryd.prog 10 #[] w fun e w' => e = .returned (.bool true) ∧ Below w.heap.size w w' := by
  have hP := Lib.hid (rparse_any exT w (by decide))
  replace hO := Lib.hid hO
  go_enter Tryd.func10, Tryd.ntmps10
  go_wp2_with fail
  refine hP.out.mono ?_
  rintro e w1 ⟨s, l, q, er, rfl, hpar, hcap, hLR, bb⟩
  rw [ex_par] at hpar
  simp only [Prod.mk.injEq] at hpar
  obtain ⟨a1, a2, a3, a4⟩ := hpar
  subst a1 a2 a3
  have hl5 : l.L.length = 5 := by rw [← a4]; rfl
  rw [hl5] at hcap hLR
  rw [← a4] at hLR
  obtain ⟨A, c, L⟩ := l
  have hv : (⟨A, c, L⟩ : Sl Nd).v = .slice A 5 c := by show Value.slice A L.length c = _; rw [show L.length = 5 from hl5]
  rw [hv]
  clear hP hv hl5 a4
  have S1 := Lib.hid ((St.rebase bb ((St.new w1).alloc #[.string ⟨#[121]⟩, .slice A 5 c] 24 (noLof rfl))))
  obtain ⟨fb, hfb⟩ : ∃ b, b = w1.heap.size := ⟨_, rfl⟩
  obtain ⟨w2, hw2⟩ : ∃ W, W = w1.alloc (.cells #[.string ⟨#[121]⟩, .slice A 5 c] 24) := ⟨_, rfl⟩
  rw [← hfb, ← hw2] at S1
  have hE := Lib.hid (ex_expand A c w2 (by rw [hw2]; exact hLR.bel (((Below.refl _ w1).alloc (Nat.le_refl _) _))) hcap (hO.out.bel S1.out.bel))
  have f0 : w2.cell? ⟨fb, 0, none⟩ = some (.string ⟨#[121]⟩) := S1.out.cl 0 0 rfl rfl
  have f1 : w2.cell? ⟨fb, 1, none⟩ = some (.slice A 5 c) := S1.out.cl 0 1 rfl rfl
  clear hLR hcap bb
  go_upto_region 2 with fail
  rw [← hfb, ← hw2]
  clear hfb hw2
  go_wp2_with fail
  clear f0 f1
  refine hE.out.mono ?_
  rintro e w3 ⟨B, d, x, y, rfl, hd, hLR, hx, hy, bb⟩
  have S3 := Lib.hid ((S1.out.call bb).alloc #[.string ⟨#[121]⟩, .bool true, .slice B 2 d] 29 (noLof rfl))
  obtain ⟨mb, hmb⟩ : ∃ b, b = w3.heap.size := ⟨_, rfl⟩
  obtain ⟨w4, hw4⟩ : ∃ W, W = w3.alloc (.cells #[.string ⟨#[121]⟩, .bool true, .slice B 2 d] 29) := ⟨_, rfl⟩
  rw [← hmb, ← hw4] at S3
  have hLR4 : LR (slC faC) w4 B 2 [x, y] := by rw [hw4]; exact hLR.bel (((Below.refl _ w3).alloc (Nat.le_refl _) _))
  have hV := Lib.hid (tvalid_any ⟨#[121]⟩ true [x, y] B 2 d w4 hLR4 hd (by omega) (fun z hz => by
    rcases List.mem_cons.1 hz with rfl | hz
    · rw [hx]; decide
    · rw [List.mem_singleton.1 hz, hy]; decide))
  have hmB : modB ⟨#[121]⟩ ([x, y].map fun x => x.L) = true := by
    show modB ⟨#[121]⟩ [x.L, y.L] = true
    rw [hx, hy]; exact ex_mod
  rw [hmB] at hV
  obtain ⟨b, o, x', rfl, hx0, _, e0, q0, _⟩ := fs_get hLR4 (i := 0) (by omega)
  obtain rfl : x = x' := by simpa using hx0
  obtain ⟨b2, o2, y', hA2, hy0, _, e1, q1, _⟩ := fs_get hLR4 (i := 1) (by omega)
  injection hA2 with hA2
  injection hA2 with ha hb
  subst ha hb
  obtain rfl : y = y' := by simpa using hy0
  rw [hx] at q0 e0
  rw [hy] at q1 e1
  obtain ⟨b3, o3, f3, hA3, hf3, _, n0, _⟩ := fa_get q0 (i := 0) (by decide)
  obtain rfl : toFa ([98], 1) = f3 := by simpa using hf3
  obtain ⟨xA, xc, xL⟩ := x
  simp only at hA3 e0
  subst hA3
  have n0 : w4.cell? ⟨b3, o3, none⟩ = some (.string ⟨#[98]⟩) := n0
  have e0 : w4.cell? ⟨b, o, none⟩ = some (.slice (some ⟨b3, o3, none⟩) 1 xc) := e0
  have e1 : w4.cell? ⟨b, o + 1, none⟩ = some (.slice y.A 2 y.c) := e1
  have m0 : w4.cell? ⟨mb, 0, none⟩ = some (.string ⟨#[121]⟩) := S3.out.cl 0 0 rfl rfl
  have m1 : w4.cell? ⟨mb, 1, none⟩ = some (.bool true) := S3.out.cl 0 1 rfl rfl
  have m2 : w4.cell? ⟨mb, 2, none⟩ = some (.slice (some ⟨b, o, none⟩) 2 d) := S3.out.cl 0 2 rfl rfl
  clear hLR hLR4 hx0 hy0 hf3 hd bb hE S1 hmB q0 q1
  go_upto_region 3 with fail
  rw [← hmb, ← hw4]
  clear hmb hw4
  go_wp2_with fail
  refine hV.out.mono ?_
  rintro e w5 ⟨rfl, bb⟩
  have T := Lib.hid (S3.out.bel.trans (bb.mono S3.out.bel.size))
  clear bb
  go_wp2
  go_ret
  exact ⟨rfl, T.out⟩
end Go.Proofs.YthbkdjbmkhmlnaaDoor
