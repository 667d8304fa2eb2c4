/- The law's example. -/
import Derived.Test.YthbkdjbmkhmlnaaDoorB25
import Derived.Test.YthbkdjbmkhmlnaaDoorRows
import Derived.Test.YthbkdjbmkhmlnaaDoorB04
import Derived.WalkKit
import Derived.ProofKit
import Derived.OpenShut
import Derived.ShutString
import Derived.ChangeOld
import Derived.Below
import Derived.LaidMore
import Derived.Lib.LaidTab
import Derived.Stop.Joined
import Derived.Stop.LaidErr
import Derived.Lay
import Derived.Test.YthbkdjbmkhmlnaaDoorB15
import Derived.Lib.SmallJoins
import Derived.Test.YthbkdjbmkhmlnaaDoorB23
namespace Go.Proofs.YthbkdjbmkhmlnaaDoor
open Go.RowKit
set_option linter.unusedVariables false

def exT : ByteArray := ⟨#[121, 32, 126, 32, 97, 32, 42, 32, 98, 32, 45, 32, 97]⟩
def exTr : F9.Tr := .bin 6 (.bin 8 (.leaf ⟨1, [97], 0⟩) (.leaf ⟨1, [98], 0⟩)) (.leaf ⟨1, [97], 0⟩)
theorem ex_par : parV exT.data.toList = (0, 0, ⟨#[121]⟩, exTr.pre.map toNd) := by kernel_rfl
theorem ex_frm : frmB ⟨#[121]⟩ (exTr.pre.map toNd) = true := by kernel_rfl
theorem ex_rex : F10.rex exTr = some [0, 2, 3] := by decide +kernel
theorem ex_mdT : F10.mdT (F10.atoms exTr []) [0, 2, 3] = [[([98], 1)], [([97], 1), ([98], 1)]] := by decide +kernel
theorem ex_wf : exTr.wf := ⟨by decide, by decide, ⟨by decide, by decide, .inl ⟨rfl, rfl, rfl⟩, .inl ⟨rfl, rfl, rfl⟩⟩, .inl ⟨rfl, rfl, rfl⟩⟩
theorem ex_mod : modB ⟨#[121]⟩ [[toFa ([98], 1)], [toFa ([97], 1), toFa ([98], 1)]] = true := by kernel_rfl
/-- What the example is expanded to. -/
theorem ex_expand (A : Option Addr) (c : Nat) (w : World) (h : LR ndC w A 5 (exTr.pre.map toNd)) (hc : 5 ≤ c) (hO : Og w) : Calls Tryd.prog 11 #[.agg #[.string ⟨#[121]⟩, .slice A 5 c]] w fun e w' => ∃ B d x y, e = .returned (.tuple #[.agg #[.string ⟨#[121]⟩, .bool true, .slice B 2 d], .int .i64 0]) ∧ 2 ≤ d ∧ LR (slC faC) w' B 2 [x, y] ∧ x.L = [toFa ([98], 1)] ∧ y.L = [toFa ([97], 1), toFa ([98], 1)] ∧ Below w.heap.size w w' := by
  refine (expand_yes ⟨#[121]⟩ exTr ex_wf A 5 c w h hc hO ex_frm (by decide) (fun x hx => by
    have : ∀ x ∈ exTr.pre.map toNd, x.s.size ≤ 100000 := by
      intro x hx
      obtain ⟨y, hy, rfl⟩ := List.mem_map.1 hx
      simp [exTr, F9.Tr.pre] at hy
      rcases hy with rfl | rfl | rfl | rfl | rfl <;> decide
    exact this x hx) (fun m hm h20 => by
    rw [ex_rex] at hm
    injection hm with hm
    subst hm
    exact absurd h20 (by decide))).mono ?_
  intro e w' hE
  unfold ExpV at hE
  rw [ex_rex] at hE
  obtain ⟨B, d, Ts, ob, rfl, hd, S, hI, hmap⟩ := hE
  rw [ex_mdT] at hmap
  have hlen : Ts.length = 2 := by have := congrArg List.length hmap; simpa using this
  obtain ⟨x, y, rfl⟩ : ∃ x y, Ts = [x, y] := by match Ts, hlen with | [x, y], _ => exact ⟨x, y, rfl⟩
  simp only [List.map_cons, List.map_nil, List.cons.injEq, and_true] at hmap
  exact ⟨B, d, x, y, rfl, hd, (hI w ob (fun p hp => hp)).lr S, hmap.1, hmap.2, S.bel⟩

set_option maxRecDepth 100000 in
set_option maxHeartbeats 4000000 in
theorem awake_any (w : World) (hO : Og w) : Calls Tryd.prog 10 #[] w fun e w' => e = .returned (.bool true) ∧ Below w.heap.size w w' := by
  have hP := Lib.hid (rparse_any exT w (by decide))
  replace hO := Lib.hid hO
  go_enter Tryd.func10, Tryd.ntmps10
  go_wp2_with fail
  refine hP.out.mono ?_
  rintro e w1 ⟨s, l, q, er, rfl, hpar, hcap, hLR, bb⟩
  rw [ex_par] at hpar
  simp only [Prod.mk.injEq] at hpar
  obtain ⟨a1, a2, a3, a4⟩ := hpar
  subst a1 a2 a3
  have hl5 : l.L.length = 5 := by rw [← a4]; rfl
  rw [hl5] at hcap hLR
  rw [← a4] at hLR
  obtain ⟨A, c, L⟩ := l
  have hv : (⟨A, c, L⟩ : Sl Nd).v = .slice A 5 c := by show Value.slice A L.length c = _; rw [show L.length = 5 from hl5]
  rw [hv]
  clear hP hv hl5 a4
  have S1 := Lib.hid ((St.rebase bb ((St.new w1).alloc #[.string ⟨#[121]⟩, .slice A 5 c] 24 (noLof rfl))))
  obtain ⟨fb, hfb⟩ : ∃ b, b = w1.heap.size := ⟨_, rfl⟩
  obtain ⟨w2, hw2⟩ : ∃ W, W = w1.alloc (.cells #[.string ⟨#[121]⟩, .slice A 5 c] 24) := ⟨_, rfl⟩
  rw [← hfb, ← hw2] at S1
  have hE := Lib.hid (ex_expand A c w2 (by rw [hw2]; exact hLR.bel (((Below.refl _ w1).alloc (Nat.le_refl _) _))) hcap (hO.out.bel S1.out.bel))
  have f0 : w2.cell? ⟨fb, 0, none⟩ = some (.string ⟨#[121]⟩) := S1.out.cl 0 0 rfl rfl
  have f1 : w2.cell? ⟨fb, 1, none⟩ = some (.slice A 5 c) := S1.out.cl 0 1 rfl rfl
  clear hLR hcap bb
  go_upto_region 2 with fail
  rw [← hfb, ← hw2]
  clear hfb hw2
  go_wp2_with fail
  clear f0 f1
  refine hE.out.mono ?_
  rintro e w3 ⟨B, d, x, y, rfl, hd, hLR, hx, hy, bb⟩
  have S3 := Lib.hid ((S1.out.call bb).alloc #[.string ⟨#[121]⟩, .bool true, .slice B 2 d] 29 (noLof rfl))
  obtain ⟨mb, hmb⟩ : ∃ b, b = w3.heap.size := ⟨_, rfl⟩
  obtain ⟨w4, hw4⟩ : ∃ W, W = w3.alloc (.cells #[.string ⟨#[121]⟩, .bool true, .slice B 2 d] 29) := ⟨_, rfl⟩
  rw [← hmb, ← hw4] at S3
  have hLR4 : LR (slC faC) w4 B 2 [x, y] := by rw [hw4]; exact hLR.bel (((Below.refl _ w3).alloc (Nat.le_refl _) _))
  have hV := Lib.hid (tvalid_any ⟨#[121]⟩ true [x, y] B 2 d w4 hLR4 hd (by omega) (fun z hz => by
    rcases List.mem_cons.1 hz with rfl | hz
    · rw [hx]; decide
    · rw [List.mem_singleton.1 hz, hy]; decide))
  have hmB : modB ⟨#[121]⟩ ([x, y].map fun x => x.L) = true := by
    show modB ⟨#[121]⟩ [x.L, y.L] = true
    rw [hx, hy]; exact ex_mod
  rw [hmB] at hV
  obtain ⟨b, o, x', rfl, hx0, _, e0, q0, _⟩ := fs_get hLR4 (i := 0) (by omega)
  obtain rfl : x = x' := by simpa using hx0
  obtain ⟨b2, o2, y', hA2, hy0, _, e1, q1, _⟩ := fs_get hLR4 (i := 1) (by omega)
  injection hA2 with hA2
  injection hA2 with ha hb
  subst ha hb
  obtain rfl : y = y' := by simpa using hy0
  rw [hx] at q0 e0
  rw [hy] at q1 e1
  obtain ⟨b3, o3, f3, hA3, hf3, _, n0, _⟩ := fa_get q0 (i := 0) (by decide)
  obtain rfl : toFa ([98], 1) = f3 := by simpa using hf3
  obtain ⟨xA, xc, xL⟩ := x
  simp only at hA3 e0
  subst hA3
  have n0 : w4.cell? ⟨b3, o3, none⟩ = some (.string ⟨#[98]⟩) := n0
  have e0 : w4.cell? ⟨b, o, none⟩ = some (.slice (some ⟨b3, o3, none⟩) 1 xc) := e0
  have e1 : w4.cell? ⟨b, o + 1, none⟩ = some (.slice y.A 2 y.c) := e1
  have m0 : w4.cell? ⟨mb, 0, none⟩ = some (.string ⟨#[121]⟩) := S3.out.cl 0 0 rfl rfl
  have m1 : w4.cell? ⟨mb, 1, none⟩ = some (.bool true) := S3.out.cl 0 1 rfl rfl
  have m2 : w4.cell? ⟨mb, 2, none⟩ = some (.slice (some ⟨b, o, none⟩) 2 d) := S3.out.cl 0 2 rfl rfl
  clear hLR hLR4 hx0 hy0 hf3 hd bb hE S1 hmB q0 q1
  go_upto_region 3 with fail
  rw [← hmb, ← hw4]
  clear hmb hw4
  go_wp2_with fail
  refine hV.out.mono ?_
  rintro e w5 ⟨rfl, bb⟩
  have T := Lib.hid (S3.out.bel.trans (bb.mono S3.out.bel.size))
  clear bb
  go_wp2
  go_ret
  exact ⟨rfl, T.out⟩
end Go.Proofs.YthbkdjbmkhmlnaaDoor
namespace Go.Proofs.YthbkdjbmkhmlnaaDoor
open Go.ChangeShapes Go.WideShapes Go.ChangeAt Go.RowKit
set_option linter.unusedVariables false

theorem own : ownKnob Tryd.prog.godebug = none := by kernel_rfl
theorem laidOut : laidOutB Tryd.prog = true := by kernel_rfl
abbrev laid6 : List (String × DataW Unit) := [("robuststats/formula.operations", Rows.laid_robuststats_formula_operations)]
theorem laid_met6 (os : Os) (args : Array Value) : laidMetH Tryd.prog laid6 ((World.laidAll Tryd.prog os laid6).forCall (fun _ _ => 0) ⟨#[], args, []⟩).memory := by
  rw [MakeChecks.laidMetH_plain _ _ _ (by kernel_rfl)]
  exact laidMet_laidAll _ (by kernel_rfl) (by kernel_rfl)
theorem laid_shaped (os : Os) : (World.laidAll Tryd.prog os laid6).Shaped Tryd.prog := World.shaped_of_ZipB (by kernel_rfl) (by kernel_rfl)

theorem gOps : Tryd.prog.globalNamed "robuststats/formula.operations" = some 0 := by kernel_rfl
theorem tOps : (Tryd.prog.globals[0]?).map (·.type) = some 109 := by kernel_rfl
theorem cOps : Tryd.prog.cellsOf 109 = 66 := by kernel_rfl
theorem cOp : Tryd.prog.cellsOf 108 = 6 := by kernel_rfl
theorem cStr : Tryd.prog.cellsOf 9 = 1 := by kernel_rfl
theorem cInt : Tryd.prog.cellsOf 3 = 1 := by kernel_rfl
theorem cBoo : Tryd.prog.cellsOf 4 = 1 := by kernel_rfl
/-- The rows of the table. -/
def opR : List (List UInt8 × Int × Int × Bool × Int × Int) := [([], 0, 0, false, 0, 0), ([], 5, 0, true, 0, 0), ([112, 111, 119, 101, 114], 5, 0, true, 2, 8), ([49], 5, 0, false, 0, 0), ([48], 5, 0, false, 0, 0), ([43], 1, 2, false, 0, 0), ([45], 1, 2, false, 0, 0), ([58], 3, 2, false, 0, 0), ([42], 2, 2, false, 0, 0), ([47], 2, 2, false, 0, 0), ([94], 4, 1, false, 1, 6)]
def opD {H : Type} (r : List UInt8 × Int × Int × Bool × Int × Int) : DataW H := .agg [.lit (.string r.1), .lit (.int .i64 r.2.1), .lit (.int .i64 r.2.2.1), .lit (.bool r.2.2.2.1), .lit (.int .i64 r.2.2.2.2.1), .lit (.int .i64 r.2.2.2.2.2)]
def opV (r : List UInt8 × Int × Int × Bool × Int × Int) : List Value := [.string ⟨r.1.toArray⟩, .int .i64 r.2.1, .int .i64 r.2.2.1, .bool r.2.2.2.1, .int .i64 r.2.2.2.2.1, .int .i64 r.2.2.2.2.2]
theorem opD_all {H : Type} : (Rows.laid_robuststats_formula_operations : DataW H) = .agg (opR.map opD) := rfl
theorem opV_all : opR.flatMap opV = opsC.toList := rfl
theorem take1 {l : List Value} {k : Nat} {v : Value} (h : (l.drop k).take 1 = [v]) : l[k]? = some v := by
  have := congrArg (·[0]?) h
  simpa [List.getElem?_take, List.getElem?_drop] using this
set_option maxRecDepth 100000 in
theorem op_cells {w : World} {base : Nat} {sp : Nat → Bool} {held : Bool} {fuel : Nat} {cs : List Value} {r : List UInt8 × Int × Int × Bool × Int × Int} {p : List MemPlace}
    (h : DataW.trod (fun _ => ()) Tryd.prog w base sp held fuel 108 cs = some (opD r, p)) : cs = opV r := by
  obtain ⟨xs, n, rfl, hx, hl, hxl, hf⟩ := DataW.trod_struct Tryd.underlying108 h
  rw [cOp] at hl
  have hm : xs.map (·.1) = [.lit (.string r.1), .lit (.int .i64 r.2.1), .lit (.int .i64 r.2.2.1), .lit (.bool r.2.2.2.1), .lit (.int .i64 r.2.2.2.2.1), .lit (.int .i64 r.2.2.2.2.2)] := by
    have := (congrArg Prod.fst hx).symm
    simpa [opD] using this
  have ex : ∀ (i : Nat) (d : DataW Unit), (xs.map (·.1))[i]? = some d → ∃ q, xs[i]? = some (d, q) := fun i d h => by
    rw [List.getElem?_map] at h
    obtain ⟨⟨a, b⟩, h1, h2⟩ := Option.map_eq_some_iff.1 h
    exact ⟨b, by rw [h1]; simp at h2; rw [h2]⟩
  rw [hm] at ex
  obtain ⟨q0, x0⟩ := ex 0 _ rfl
  obtain ⟨q1, x1⟩ := ex 1 _ rfl
  obtain ⟨q2, x2⟩ := ex 2 _ rfl
  obtain ⟨q3, x3⟩ := ex 3 _ rfl
  obtain ⟨q4, x4⟩ := ex 4 _ rfl
  obtain ⟨q5, x5⟩ := ex 5 _ rfl
  have f0 := hf 0 _ rfl
  change DataW.trod _ _ _ _ _ _ _ 9 ((cs.drop 0).take (Tryd.prog.cellsOf 9)) = _ at f0
  have f1 := hf 1 _ rfl
  change DataW.trod _ _ _ _ _ _ _ 3 ((cs.drop 1).take (Tryd.prog.cellsOf 3)) = _ at f1
  have f2 := hf 2 _ rfl
  change DataW.trod _ _ _ _ _ _ _ 3 ((cs.drop 2).take (Tryd.prog.cellsOf 3)) = _ at f2
  have f3 := hf 3 _ rfl
  change DataW.trod _ _ _ _ _ _ _ 4 ((cs.drop 3).take (Tryd.prog.cellsOf 4)) = _ at f3
  have f4 := hf 4 _ rfl
  change DataW.trod _ _ _ _ _ _ _ 3 ((cs.drop 4).take (Tryd.prog.cellsOf 3)) = _ at f4
  have f5 := hf 5 _ rfl
  change DataW.trod _ _ _ _ _ _ _ 3 ((cs.drop 5).take (Tryd.prog.cellsOf 3)) = _ at f5
  rw [x0] at f0
  rw [x1] at f1
  rw [x2] at f2
  rw [x3] at f3
  rw [x4] at f4
  rw [x5] at f5
  obtain ⟨s, a0, b0, _⟩ := DataW.trod_string Tryd.underlying9 f0
  obtain ⟨v1, a1, b1, _⟩ := DataW.trod_int Tryd.underlying3 f1
  obtain ⟨v2, a2, b2, _⟩ := DataW.trod_int Tryd.underlying3 f2
  obtain ⟨v3, a3, b3⟩ := DataW.trod_bool Tryd.underlying4 f3
  obtain ⟨v4, a4, b4, _⟩ := DataW.trod_int Tryd.underlying3 f4
  obtain ⟨v5, a5, b5, _⟩ := DataW.trod_int Tryd.underlying3 f5
  simp only [Prod.mk.injEq, DataW.lit.injEq, Lit.string.injEq, Lit.int.injEq, Lit.bool.injEq, true_and] at b0 b1 b2 b3 b4 b5
  obtain ⟨rr, r1, r2, r3, r4, r5⟩ := r
  simp only at b0 b1 b2 b3 b4 b5
  have e0 : s = ⟨rr.toArray⟩ := by rw [b0.1]
  rw [e0] at a0
  rw [← b1.1] at a1
  rw [← b2.1] at a2
  rw [← b3.1] at a3
  rw [← b4.1] at a4
  rw [← b5.1] at a5
  rw [show Tryd.prog.cellsOf 9 = 1 from cStr] at a0
  rw [show Tryd.prog.cellsOf 3 = 1 from cInt] at a1 a2 a4 a5
  rw [show Tryd.prog.cellsOf 4 = 1 from cBoo] at a3
  have g0 := take1 a0
  have g1 := take1 a1
  have g2 := take1 a2
  have g3 := take1 a3
  have g4 := take1 a4
  have g5 := take1 a5
  match cs, hl with
  | [c0, c1, c2, c3, c4, c5], _ =>
    simp only [List.getElem?_cons_zero, List.getElem?_cons_succ, Option.some.injEq] at g0 g1 g2 g3 g4 g5
    rw [g0, g1, g2, g3, g4, g5]
    rfl
theorem chunks : ∀ (rs : List (List UInt8 × Int × Int × Bool × Int × Int)) (cs : List Value), cs.length = rs.length * 6 → (∀ i r, rs[i]? = some r → (cs.drop (i * 6)).take 6 = opV r) → cs = rs.flatMap opV
  | [], cs, hl, _ => by
    simp at hl
    rw [hl]; rfl
  | r :: rs, cs, hl, h => by
    rw [List.length_cons] at hl
    have h0 := h 0 r rfl
    rw [Nat.zero_mul, List.drop_zero] at h0
    have h1 := chunks rs (cs.drop 6) (by rw [List.length_drop]; omega) (fun i r' hi => by
      have := h (i + 1) r' (by simpa using hi)
      rw [List.drop_drop, show 6 + i * 6 = (i + 1) * 6 by omega]
      exact this)
    rw [List.flatMap_cons, ← h0, ← h1, List.take_append_drop]
theorem og_laid {W : World} (h : laidMetH Tryd.prog laid6 W) : Og W := by
  rw [MakeChecks.laidMetH_plain _ _ _ (by kernel_rfl)] at h
  obtain ⟨ps, ⟨g', t', cs, fuel, p, q, hg', ht', hvar, hd, _, _⟩, _⟩ := h
  obtain rfl := Option.some.inj (gOps.symm.trans hg')
  obtain rfl := Option.some.inj (tOps.symm.trans ht')
  rw [opD_all] at hd
  obtain ⟨xs, m, rfl, hx, hl, hxl, hf⟩ := DataW.trod_array Tryd.underlying109 hd
  rw [cOps] at hl
  have hm : xs.map (·.1) = opR.map opD := by
    have := (congrArg Prod.fst hx).symm
    simpa using this
  have hall : cs.toList = opR.flatMap opV := by
    refine chunks opR cs.toList (by rw [hl]; rfl) fun i r hi => ?_
    have hi11 : i < 11 := (List.getElem?_eq_some_iff.1 hi).1
    have e1 : (xs.map (·.1))[i]? = some (opD r) := by rw [hm, List.getElem?_map, hi]; rfl
    rw [List.getElem?_map] at e1
    obtain ⟨⟨a, b⟩, h1, h2⟩ := Option.map_eq_some_iff.1 e1
    simp only at h2
    subst h2
    have h3 := hf i hi11
    rw [h1, cOp] at h3
    exact op_cells h3
  rw [opV_all] at hall
  have hcs : cs = opsC := Array.ext' hall
  subst hcs
  have hc := fun i => World.var?_cell gOps hvar i
  refine ⟨?_, fun k v hk => by rw [hc k]; exact hk⟩
  have h0 : W.cell? ⟨0, 0, none⟩ = some (.string ⟨#[]⟩) := by rw [hc 0]; rfl
  unfold World.cell? at h0
  split at h0
  · rename_i hb
    exact (Array.getElem?_eq_some_iff.1 hb).1
  · cases h0
end Go.Proofs.YthbkdjbmkhmlnaaDoor
namespace Go.Proofs.YthbkdjbmkhmlnaaDoor
open Go.ChangeShapes Go.WideShapes Go.ChangeAt Go.RowKit Go.Joins Go.Deep
set_option linter.unusedVariables false

/-- What comes in as this type reads as one of these. -/
def Opn {α : Type} (t : TypeId) (C : Cod α) : Prop := ∀ {H : Type} {enc : TypeId × Value → H} {W : World} {n : Nat} {cs : List Value} {x : DataW H × List MemPlace}, DataW.trod enc Tryd.prog W 0 (fun _ => true) true n t cs = some x → ∃ a : α, cs = C.cs a ∧ C.At W a
theorem cells_get8 {w : World} {base : Nat} {a : Addr} {n : Nat} {cs : List Value} (h : w.cells? base a n = some cs) : cs.length = n ∧ ∀ i, i < n → w.cell? (a.add i) = cs[i]? := by
  unfold World.cells? at h
  split at h
  · exact ⟨by simpa using mapM_some_length h, fun i hi => mapM_some_get h i i (by simp [hi])⟩
  · cases h
theorem spot_none8 {w : World} {a : Addr} {v : Value} (h : w.cell? a = some v) : a = ⟨a.block, a.off, none⟩ ∧ a.block < w.heap.size := by
  obtain ⟨b, o, s⟩ := a
  unfold World.cell? at h
  split at h
  · rename_i hb
    cases s with
    | none => exact ⟨rfl, (Array.getElem?_eq_some_iff.1 hb).1⟩
    | some z => simp at h
  · cases h
theorem add_n8 (b o k : Nat) : (⟨b, o, none⟩ : Addr).add k = ⟨b, o + k, none⟩ := by unfold Addr.add; split <;> simp_all
theorem opn_slice {α : Type} {C : Cod α} {t e : TypeId} (hu : Program.underlying Tryd.prog t = some (.slice e)) (hc : Program.cellsOf Tryd.prog e = C.sz) (he : Opn e C) : Opn t (slC C) := by
  intro H enc W n cs x h
  rcases DataW.trod_slice hu h with ⟨h0, _⟩ | ⟨a, len, cap, elems, rest, m, _, h0, _, hb, hl, hm, hlen, hel, _, _⟩
  · exact ⟨⟨none, 0, []⟩, h0, LR.nil_ _ _ _, Nat.le_refl _⟩
  · rw [hc] at hel
    have each : ∀ i, i < len → ∃ y : α, (∀ k v, (C.cs y)[k]? = some v → W.cell? ((a.add (i * C.sz)).add k) = some v) ∧ C.At W y := by
      intro i hi
      have e := hel i hi
      rw [List.getElem?_eq_getElem (by omega), Option.bind_eq_some_iff] at e
      obtain ⟨cs', hcs, hy⟩ := e
      obtain ⟨hcl, hcg⟩ := cells_get8 hcs
      obtain ⟨y, rfl, hat⟩ := he hy
      exact ⟨y, fun k v hv => by rw [hcg k (by rw [← C.len y]; exact (List.getElem?_eq_some_iff.1 hv).1)]; exact hv, hat⟩
    rcases Nat.eq_zero_or_pos len with h1 | h1
    · subst h1
      exact ⟨⟨some a, cap, []⟩, h0, LR.nil_ _ _ _, Nat.zero_le _⟩
    · obtain ⟨y0, e0, _⟩ := each 0 h1
      have e0' := e0 0 _ (List.getElem?_eq_getElem (by rw [C.len]; exact C.pos))
      have ea : (a.add (0 * C.sz)).add 0 = a := by simp [Addr.add]
      rw [ea] at e0'
      obtain ⟨ha, hblt⟩ := spot_none8 e0'
      obtain ⟨b, o, s⟩ := a
      obtain rfl : s = none := by injection ha
      obtain ⟨L, hL⟩ : ∃ L, L = (List.range len).map (fun i => if hi : i < len then (each i hi).choose else y0) := ⟨_, rfl⟩
      have hfl : L.length = len := by rw [hL]; simp
      have hmem : ∀ r ∈ L, ∃ i, ∃ hi : i < len, r = (each i hi).choose := by
        intro r hr
        rw [hL] at hr
        obtain ⟨i, hi, rfl⟩ := List.mem_map.1 hr
        have hil : i < len := by simpa using hi
        exact ⟨i, hil, by simp only [hil, dite_true]⟩
      refine ⟨⟨some ⟨b, o, none⟩, cap, L⟩, by rw [h0, ← hfl]; rfl, ⟨rfl, .inr ⟨b, o, rfl, hblt, fun i x hi k v hv => ?_⟩, fun r hr => ?_⟩, by show L.length ≤ cap; omega⟩
      · have hil : i < len := by rw [← hfl]; exact (List.getElem?_eq_some_iff.1 hi).1
        have er : x = (each i hil).choose := by
          have hi' : L[i]? = some x := hi
          rw [hL, List.getElem?_map, List.getElem?_range hil] at hi'
          simpa [hil] using hi'.symm
        have k0 := (each i hil).choose_spec.1 k v (by rw [← er]; exact hv)
        rw [add_n8, add_n8] at k0
        exact k0
      · obtain ⟨i, hi, rfl⟩ := hmem r hr
        exact (each i hi).choose_spec.2
theorem opn_str : Opn 9 strC := by
  intro H enc W n cs x h
  obtain ⟨s, e, _⟩ := DataW.trod_string Tryd.underlying9 h
  exact ⟨s, e, trivial⟩
theorem opn_int : Opn 3 intC := by
  intro H enc W n cs x h
  obtain ⟨s, e, _⟩ := DataW.trod_int Tryd.underlying3 h
  exact ⟨s, e, trivial⟩
theorem trod_struct3 {H : Type} {enc : TypeId × Value → H} {w : World} {base : Nat} {spare : Nat → Bool} {held : Bool} {t : TypeId} {f0 f1 f2 : Field} {fuel : Nat} {cs : List Value} {x : DataW H × List MemPlace} (ht : Program.underlying Tryd.prog t = some (.struct #[f0, f1, f2])) (h : DataW.trod enc Tryd.prog w base spare held fuel t cs = some x) :
    ∃ y0 y1 y2 n, cs.length = Program.cellsOf Tryd.prog t ∧ DataW.trod enc Tryd.prog w base spare held n f0.type ((cs.drop f0.offset).take (Program.cellsOf Tryd.prog f0.type)) = some y0 ∧ DataW.trod enc Tryd.prog w base spare held n f1.type ((cs.drop f1.offset).take (Program.cellsOf Tryd.prog f1.type)) = some y1 ∧ DataW.trod enc Tryd.prog w base spare held n f2.type ((cs.drop f2.offset).take (Program.cellsOf Tryd.prog f2.type)) = some y2 := by
  obtain ⟨xs, n, _, rfl, hl, hlen, hf⟩ := DataW.trod_struct ht h
  match xs, hlen with
  | [y0, y1, y2], _ => exact ⟨y0, y1, y2, n, hl, by simpa using hf 0 f0 rfl, by simpa using hf 1 f1 rfl, by simpa using hf 2 f2 rfl⟩
theorem c9Int : Program.cellsOf Tryd.prog 3 = 1 := by kernel_rfl
theorem c9Str : Program.cellsOf Tryd.prog 9 = 1 := by kernel_rfl
theorem c9Nd : Program.cellsOf Tryd.prog 39 = 3 := by kernel_rfl
theorem c9Nds : Program.cellsOf Tryd.prog 22 = 1 := by kernel_rfl
theorem c9Fo : Program.cellsOf Tryd.prog 24 = 2 := by kernel_rfl
set_option maxRecDepth 100000 in
theorem opn_node : Opn 39 ndC := by
  intro H enc W n cs x h
  obtain ⟨y0, y1, y2, n, hl, h0, h1, h2⟩ := trod_struct3 Tryd.underlying39 h
  rw [c9Nd] at hl
  match cs, hl with
  | [c0, c1, c2], _ =>
    have h0' : DataW.trod enc Tryd.prog W 0 (fun _ => true) true n 3 [c0] = some y0 := by simpa [c9Int] using h0
    have h1' : DataW.trod enc Tryd.prog W 0 (fun _ => true) true n 9 [c1] = some y1 := by simpa [c9Str] using h1
    have h2' : DataW.trod enc Tryd.prog W 0 (fun _ => true) true n 3 [c2] = some y2 := by simpa [c9Int] using h2
    obtain ⟨o, e0, _⟩ := opn_int h0'
    obtain ⟨s, e1, _⟩ := opn_str h1'
    obtain ⟨k, e2, _⟩ := opn_int h2'
    exact ⟨⟨o, s, k⟩, by show [c0] ++ ([c1] ++ [c2]) = _; rw [e0, e1, e2]; rfl, ⟨trivial, trivial, trivial⟩⟩
theorem opn_nodes : Opn 22 (slC ndC) := opn_slice Tryd.underlying22 c9Nd opn_node
set_option maxRecDepth 100000 in
/-- A formula that came in. -/
theorem open_form {H : Type} {enc : TypeId × Value → H} {W : World} {b0 : Nat} {r : Reach} {v : Value} {d : DataW H} {p : List MemPlace} (hv : Value.okWide Tryd.prog W r b0 24 v) (h : DataW.Trod enc Tryd.prog W 0 (fun _ => true) true 24 v d p) :
    ∃ (s : ByteArray) (l : Sl Nd), v = .agg #[.string s, .slice l.A l.L.length l.c] ∧ LR ndC W l.A l.L.length l.L ∧ l.L.length ≤ l.c := by
  obtain ⟨cs, rfl, hsz⟩ := okWide_struct Tryd.underlying24 hv
  obtain ⟨c0, c1, rfl⟩ : ∃ c0 c1, cs = #[c0, c1] := by
    have hsz := hsz.trans c9Fo
    obtain ⟨l⟩ := cs
    match l, hsz with
    | [c0, c1], _ => exact ⟨c0, c1, rfl⟩
  obtain ⟨fuel, hf⟩ := h
  obtain ⟨y0, y1, n, hx, _, h0, h1⟩ := trod_struct2 Tryd.underlying24 hf
  have h0' : DataW.trod enc Tryd.prog W 0 (fun _ => true) true n 9 [c0] = some y0 := by simpa [Value.cells, c9Str] using h0
  have h1' : DataW.trod enc Tryd.prog W 0 (fun _ => true) true n 22 [c1] = some y1 := by simpa [Value.cells, c9Nds] using h1
  obtain ⟨s, e0, _⟩ := opn_str h0'
  obtain ⟨l, e1, A1⟩ := opn_nodes h1'
  obtain rfl : c0 = .string s := by simpa [strC, cellC] using e0
  obtain rfl : c1 = .slice l.A l.L.length l.c := by simpa [slC, Sl.v] using e1
  exact ⟨s, l, rfl, A1.1, A1.2⟩
theorem opn_bool : Opn 4 boolC := by
  intro H enc W n cs x h
  obtain ⟨s, e, _⟩ := DataW.trod_bool Tryd.underlying4 h
  exact ⟨s, e, trivial⟩
theorem c9Boo : Program.cellsOf Tryd.prog 4 = 1 := by kernel_rfl
theorem c9Fa : Program.cellsOf Tryd.prog 37 = 2 := by kernel_rfl
theorem c9Fas : Program.cellsOf Tryd.prog 34 = 1 := by kernel_rfl
theorem c9Fass : Program.cellsOf Tryd.prog 27 = 1 := by kernel_rfl
theorem c9Mo : Program.cellsOf Tryd.prog 29 = 3 := by kernel_rfl
set_option maxRecDepth 100000 in
theorem opn_fac : Opn 37 faC := by
  intro H enc W n cs x h
  obtain ⟨y0, y1, n, _, hl, h0, h1⟩ := trod_struct2 Tryd.underlying37 h
  rw [c9Fa] at hl
  match cs, hl with
  | [c0, c1], _ =>
    have h0' : DataW.trod enc Tryd.prog W 0 (fun _ => true) true n 9 [c0] = some y0 := by simpa [c9Str] using h0
    have h1' : DataW.trod enc Tryd.prog W 0 (fun _ => true) true n 3 [c1] = some y1 := by simpa [c9Int] using h1
    obtain ⟨s, e0, _⟩ := opn_str h0'
    obtain ⟨k, e1, _⟩ := opn_int h1'
    exact ⟨⟨s, k⟩, by show [c0] ++ [c1] = _; rw [e0, e1]; rfl, ⟨trivial, trivial⟩⟩
theorem opn_facs : Opn 34 (slC faC) := opn_slice Tryd.underlying34 c9Fa opn_fac
theorem opn_factors : Opn 27 (slC (slC faC)) := opn_slice Tryd.underlying27 c9Fas opn_facs
set_option maxRecDepth 100000 in
/-- A model that came in. -/
theorem open_model {H : Type} {enc : TypeId × Value → H} {W : World} {b0 : Nat} {r : Reach} {v : Value} {d : DataW H} {p : List MemPlace} (hv : Value.okWide Tryd.prog W r b0 29 v) (h : DataW.Trod enc Tryd.prog W 0 (fun _ => true) true 29 v d p) :
    ∃ (s : ByteArray) (bz : Bool) (l : Sl (Sl Fa)), v = .agg #[.string s, .bool bz, .slice l.A l.L.length l.c] ∧ LR (slC faC) W l.A l.L.length l.L ∧ l.L.length ≤ l.c := by
  obtain ⟨cs, rfl, hsz⟩ := okWide_struct Tryd.underlying29 hv
  obtain ⟨c0, c1, c2, rfl⟩ : ∃ c0 c1 c2, cs = #[c0, c1, c2] := by
    have hsz := hsz.trans c9Mo
    obtain ⟨l⟩ := cs
    match l, hsz with
    | [c0, c1, c2], _ => exact ⟨c0, c1, c2, rfl⟩
  obtain ⟨fuel, hf⟩ := h
  obtain ⟨y0, y1, y2, n, _, h0, h1, h2⟩ := trod_struct3 Tryd.underlying29 hf
  have h0' : DataW.trod enc Tryd.prog W 0 (fun _ => true) true n 9 [c0] = some y0 := by simpa [Value.cells, c9Str] using h0
  have h1' : DataW.trod enc Tryd.prog W 0 (fun _ => true) true n 4 [c1] = some y1 := by simpa [Value.cells, c9Boo] using h1
  have h2' : DataW.trod enc Tryd.prog W 0 (fun _ => true) true n 27 [c2] = some y2 := by simpa [Value.cells, c9Fass] using h2
  obtain ⟨s, e0, _⟩ := opn_str h0'
  obtain ⟨bz, e1, _⟩ := opn_bool h1'
  obtain ⟨l, e2, A1⟩ := opn_factors h2'
  obtain rfl : c0 = .string s := by simpa [strC, cellC] using e0
  obtain rfl : c1 = .bool bz := by simpa [boolC, cellC] using e1
  obtain rfl : c2 = .slice l.A l.L.length l.c := by simpa [slC, Sl.v] using e2
  exact ⟨s, bz, l, rfl, A1.1, A1.2⟩
end Go.Proofs.YthbkdjbmkhmlnaaDoor
namespace Go.Proofs.YthbkdjbmkhmlnaaDoor
open Go.RowKit
set_option linter.unusedVariables false

theorem nam_node : ∀ (t : F9.Tr) (f : F10.Fac), F10.nam t f → ∃ x ∈ t.pre, F10.facOf x = some f
  | .leaf x, f, h => ⟨x, by simp [F9.Tr.pre], h⟩
  | .hat k a, f, h => by
    obtain ⟨x, hx, e⟩ := nam_node a f h
    exact ⟨x, by simp [F9.Tr.pre, hx], e⟩
  | .bin op a b, f, h => by
    rcases h with h | h
    · obtain ⟨x, hx, e⟩ := nam_node a f h
      exact ⟨x, by simp [F9.Tr.pre, hx], e⟩
    · obtain ⟨x, hx, e⟩ := nam_node b f h
      exact ⟨x, by simp [F9.Tr.pre, hx], e⟩
theorem wf_node : ∀ {t : F9.Tr}, t.wf → ∀ x ∈ t.pre, F9.okN x
  | .leaf x, h, y, hy => by
    have hy : y ∈ [x] := hy
    rw [List.mem_singleton.1 hy]; exact .inl h
  | .hat k a, h, y, hy => by
    have hy : y ∈ ⟨10, [], k⟩ :: a.pre := hy
    rcases List.mem_cons.1 hy with rfl | hy
    · exact .inr (.inl ⟨rfl, rfl, h.1, h.2.1⟩)
    · exact wf_node (t := a) h.2.2 y hy
  | .bin op a b, h, y, hy => by
    have hy : y ∈ ⟨op, [], 0⟩ :: (a.pre ++ b.pre) := hy
    rcases List.mem_cons.1 hy with rfl | hy
    · exact .inr (.inr ⟨h.1, h.2.1, rfl, rfl⟩)
    · rcases List.mem_append.1 hy with hy | hy
      · exact wf_node (t := a) h.2.2.1 y hy
      · exact wf_node (t := b) h.2.2.2 y hy
theorem nameB_arr (nm : List UInt8) : nameB (⟨nm.toArray⟩ : ByteArray) = nameL nm := by unfold nameB; simp
theorem fac_node {x : F9.Nd} {f : F10.Fac} (h : F9.okN x) (hf : F10.facOf x = some f) : facB (toFa f) = true := by
  unfold F10.facOf at hf
  obtain ⟨op, nm, k⟩ := x
  simp only at hf
  by_cases h1 : op = 1
  · rw [if_pos h1] at hf
    injection hf with hf
    subst hf h1
    have hn : nameL nm = true := by
      rcases h with (h | h | h) | h | h
      · exact h.2.1
      · exact h.2.1
      · have := h.1; simp at this
      · have := h.1; simp at this
      · have := h.1; simp at this
    show (nameB (⟨nm.toArray⟩ : ByteArray) && decide ((1 : Int) ≤ ((1 : Nat) : Int)) && decide (((1 : Nat) : Int) ≤ 8)) = true
    rw [nameB_arr, hn]; decide
  · rw [if_neg h1] at hf
    by_cases h2 : op = 2
    · rw [if_pos h2] at hf
      injection hf with hf
      subst hf h2
      have hn : nameL nm = true ∧ 2 ≤ k ∧ k ≤ 8 := by
        rcases h with (h | h | h) | h | h
        · have := h.1; simp at this
        · exact ⟨h.2.1, h.2.2.1, h.2.2.2⟩
        · have := h.1; simp at this
        · have := h.1; simp at this
        · have := h.1; simp at this
      show (nameB (⟨nm.toArray⟩ : ByteArray) && decide ((1 : Int) ≤ (k : Int)) && decide ((k : Int) ≤ 8)) = true
      rw [nameB_arr, hn.1, decide_eq_true (by omega), decide_eq_true (by omega)]; rfl
    · rw [if_neg h2] at hf; cases hf
theorem trmG_ok : ∀ (l p : List Fa), (∀ f ∈ l, facB f = true) → (p ++ l).Nodup → trmG p l = true
  | [], p, _, _ => rfl
  | f :: l, p, h, hn => by
    have hf : f ∉ p := fun hp => by
      rw [List.nodup_append] at hn
      exact hn.2.2 f hp f List.mem_cons_self rfl
    show (facB f && !decide (f ∈ p) && trmG (p ++ [f]) l) = true
    rw [h f List.mem_cons_self, decide_eq_false hf, trmG_ok l (p ++ [f]) (fun g hg => h g (List.mem_cons_of_mem _ hg)) (by simpa using hn)]; rfl
theorem modG_ok : ∀ (l p : List (List Fa)), (∀ t ∈ l, trmB t = true) → (p ++ l).Pairwise (fun x y => x.length ≤ y.length ∧ sfB x y = false) → modG p l = true
  | [], p, _, _ => by unfold modG; rfl
  | t :: l, p, h, hn => by
    have hq : ∀ q ∈ p, q.length ≤ t.length ∧ sfB q t = false := fun q hp => (List.pairwise_append.1 hn).2.2 q hp t List.mem_cons_self
    have hp : prevOk p t = true := by
      unfold prevOk
      cases hg : p.getLast? with
      | none => rfl
      | some q => exact decide_eq_true (hq q (List.mem_of_getLast? hg)).1
    have ha : (p.any fun s => sfB s t) = false := by
      rw [List.any_eq_false]
      intro q hp
      rw [(hq q hp).2]; simp
    unfold modG
    rw [h t List.mem_cons_self, hp, ha, modG_ok l (p ++ [t]) (fun s hs => h s (List.mem_cons_of_mem _ hs)) (by simpa using hn)]; rfl
theorem sfB_map {x y : List F10.Fac} (h : sfB (x.map toFa) (y.map toFa) = true) : F10.SameF x y := by
  unfold sfB at h
  rw [Bool.and_eq_true, decide_eq_true_eq, List.length_map, List.length_map] at h
  refine ⟨h.1, fun f hf => ?_⟩
  have := List.all_eq_true.1 h.2 (toFa f) (List.mem_map_of_mem hf)
  exact toFa_mem.1 (of_decide_eq_true this)
theorem LL_self {R : Nat → Nat → Prop} : ∀ {m m' : List Nat}, F10.LL R m m' → ∀ t ∈ m, ∃ t', R t t' := by
  intro m m' h
  induction h with
  | nil => intro t ht; cases ht
  | cons hr _ ih =>
    intro t ht
    rcases List.mem_cons.1 ht with rfl | ht
    · exact ⟨_, hr⟩
    · exact ih t ht
theorem rex_bits {tr : F9.Tr} (hs : F10.shp tr) (hl : tr.pre.length ≤ 64) {m : List Nat} (h : F10.rex tr = some m) : ∀ t ∈ m, ∀ i, t.testBit i = true → i < (F10.atoms tr []).length := by
  have nA : (F10.atoms tr []).Nodup := F10.atoms_nodup tr List.nodup_nil
  have lA : (F10.atoms tr []).length ≤ 64 := by have := F10.atoms_len tr []; simp only [List.length_nil] at this; omega
  have H := F10.rs_rel (F10.rt_rr nA nA lA lA) tr hs (fun f hf => ⟨(F10.atoms_mem tr [] f).2 (.inr hf), (F10.atoms_mem tr [] f).2 (.inr hf)⟩)
  obtain ⟨m', hm', L⟩ := H.get (F10.rex_some h).2
  intro t ht
  obtain ⟨t', hr⟩ := LL_self L t ht
  exact hr.bs
/-- Is a factor named by some node? -/
def hitB (x : Fa) (y : Nd) : Bool := (y.s.toList == x.s.toList) && ((y.o == 1 && x.k == 1) || (y.o == 2 && x.k == y.k))
/-- A model's terms are terms, in order, and their factors those of the tree. -/
theorem mdl_ok {s : ByteArray} {tr : F9.Tr} (hw : tr.wf) (hf : frmB s (tr.pre.map toNd) = true) {m : List Nat} (h : F10.rex tr = some m) :
    modB s ((F10.mdT (F10.atoms tr []) m).map fun l => l.map toFa) = true ∧ ∀ t ∈ (F10.mdT (F10.atoms tr []) m).map (fun l => l.map toFa), t.length ≤ 6 ∧ ∀ x ∈ t, ((tr.pre.map toNd).any (hitB x)) = true := by
  have hsh := wf_shp hw
  have hl : tr.pre.length ≤ 64 := by have := (frm_len hf).1; rwa [List.length_map] at this
  have nA : (F10.atoms tr []).Nodup := F10.atoms_nodup tr List.nodup_nil
  have lA : (F10.atoms tr []).length ≤ 64 := by have := F10.atoms_len tr []; simp only [List.length_nil] at this; omega
  have hb := rex_bits hsh hl h
  have hsm := F10.expand_same tr hsh
  rw [h] at hsm
  obtain ⟨_, _, _, hnd, hft⟩ := hsm
  have h6 : ∀ t ∈ m, F10.siz t ≤ 6 := fun t ht => by
    unfold F10.fts at hft
    rw [Bool.and_eq_true] at hft
    exact of_decide_eq_true (List.all_eq_true.1 hft.1 t ht)
  have h32 : m.length ≤ 32 := by
    unfold F10.fts at hft
    rw [Bool.and_eq_true] at hft
    exact of_decide_eq_true hft.2
  have hT : ∀ x ∈ F10.mdT (F10.atoms tr []) m, 1 ≤ x.length ∧ x.length ≤ 6 ∧ x.Nodup ∧ ∀ f ∈ x, f ∈ F10.atoms tr [] := by
    intro x hx
    obtain ⟨t, ht, h0, rfl⟩ := (F10.mdT_mem lA hft hb).1 hx
    rw [F10.fac_len (hb t ht)]
    refine ⟨F10.siz_pos h0 fun i hi => by have := hb t ht i hi; omega, h6 t ht, F10.fac_nodup nA t, fun f hf => ?_⟩
    obtain ⟨i, hi, _⟩ := (F10.fac_mem lA).1 hf
    exact List.mem_of_getElem? hi
  have hnode : ∀ f ∈ F10.atoms tr [], ∃ x ∈ tr.pre, F10.facOf x = some f := fun f hf => by
    rcases (F10.atoms_mem tr [] f).1 hf with h | h
    · cases h
    · exact nam_node tr f h
  refine ⟨?_, ?_⟩
  · unfold modB
    have hlen : ((F10.mdT (F10.atoms tr []) m).map fun l => l.map toFa).length ≤ 32 := by
      rw [List.length_map, F10.mdT_len hft lA hb]
      exact Nat.le_trans (List.length_filter_le _ _) h32
    rw [(frm_len hf).2, decide_eq_true hlen, modG_ok _ [] ?_ ?_]
    · rfl
    · intro t ht
      obtain ⟨x, hx, rfl⟩ := List.mem_map.1 ht
      obtain ⟨h1, h2, h3, h4⟩ := hT x hx
      unfold trmB
      rw [List.length_map, decide_eq_true h1, decide_eq_true h2, trmG_ok _ [] ?_ ?_]
      · rfl
      · intro f hf
        obtain ⟨g, hg, rfl⟩ := List.mem_map.1 hf
        obtain ⟨y, hy, e⟩ := hnode g (h4 g hg)
        exact fac_node (wf_node hw y hy) e
      · rw [List.nil_append]
        exact List.Pairwise.map _ (fun a b hab h => hab (toFa_inj.1 h)) h3
    · rw [List.nil_append, List.pairwise_map]
      refine (F10.mdT_pair nA lA hnd hb).imp fun {x y} hxy => ⟨by rw [List.length_map, List.length_map]; exact hxy.1, ?_⟩
      cases hs : sfB (x.map toFa) (y.map toFa) with
      | false => rfl
      | true => exact absurd (sfB_map hs) hxy.2
  · intro t ht
    obtain ⟨x, hx, rfl⟩ := List.mem_map.1 ht
    obtain ⟨h1, h2, h3, h4⟩ := hT x hx
    refine ⟨by rw [List.length_map]; exact h2, fun f hf => ?_⟩
    obtain ⟨g, hg, rfl⟩ := List.mem_map.1 hf
    obtain ⟨y, hy, e⟩ := hnode g (h4 g hg)
    rw [List.any_eq_true]
    refine ⟨toNd y, List.mem_map_of_mem hy, ?_⟩
    unfold F10.facOf at e
    unfold hitB
    by_cases h1 : y.op = 1
    · rw [if_pos h1] at e
      injection e with e
      subst e
      simp [toNd, toFa, h1]
    · rw [if_neg h1] at e
      by_cases h2 : y.op = 2
      · rw [if_pos h2] at e
        injection e with e
        subst e
        simp [toNd, toFa, h2]
      · rw [if_neg h2] at e; cases e
end Go.Proofs.YthbkdjbmkhmlnaaDoor
namespace Go.Proofs.YthbkdjbmkhmlnaaDoor
open Go.RowKit
set_option linter.unusedVariables false

set_option maxRecDepth 100000 in
set_option maxHeartbeats 4000000 in
theorem rhas_any (L : List Nat) (A : Option Addr) (n c t : Nat) (w : World) (h : LR uC w A n L) (hn : n ≤ 100000) : Calls Tryd.prog 30 #[.slice A n c, .int .u64 (t : Int)] w fun e w' => e = .returned (.bool (L.contains t)) ∧ w' = w := by
  have hb := Lib.hid hn
  have hlen := Lib.hid h.len
  obtain ⟨bc, hbc⟩ : ∃ q, q = L.contains t := ⟨_, rfl⟩
  rw [← hbc]
  replace hbc := Lib.hid hbc
  replace h := Lib.hid h
  clear hn
  go_enter Tryd.func30, Tryd.ntmps30
  go_wp2
  go_loopw [5] (fun iv wr => ∃ i : Nat, i ≤ n ∧ iv = .int .i64 i ∧ wr = w ∧ (∀ j s, j < i → L[j]? = some s → ¬ s = t)) (fun iv _ => n - (intOf iv).toNat)
  case atStart => exact ⟨0, Nat.zero_le _, rfl, rfl, fun j s h0 => absurd h0 (Nat.not_lt_zero _)⟩
  case round =>
    obtain ⟨i, hin, rfl, rfl, hall⟩ := hrel
    by_cases hlt : i < n
    · obtain ⟨b, o, x, rfl, hx, hxm, e0⟩ := u_get h.out hlt
      have hih := Lib.hid hlt
      have g1 : (i : Int) < (n : Int) := by omega
      have g2 : (0 : Int) ≤ (i : Int) := by omega
      replace hall := Lib.hid hall
      replace hx := Lib.hid hx
      clear hlt hin hxm
      by_cases hv : x = t
      · have g3 : ((x : Int) == (t : Int)) = true := by rw [beq_iff_eq]; omega
        have hz : Hid (bc = true) := Lib.hid (by
          rw [hbc.out]
          refine List.elem_eq_true_of_mem ?_
          rw [← hv]; exact List.mem_of_getElem? hx.out)
        replace hv := Lib.hid hv
        go_wp2
        go_ret
        exact ⟨by rw [hz.out]; rfl, rfl⟩
      · have g3 : ((x : Int) == (t : Int)) = false := by rw [beq_eq_false_iff_ne]; omega
        replace hv := Lib.hid hv
        have hlt := hih.out
        have hbb := hb.out
        go_wp2
        go_roundw
        case rel => exact ⟨i + 1, by omega, by go_num, (by first | rfl | trivial), fun j' s h1 h2 => (by rcases Nat.lt_or_ge j' i with h3 | h3; exact hall.out j' s h3 h2; obtain rfl : j' = i := (by omega); rw [hx.out] at h2; injection h2 with h2; subst h2; exact hv.out)⟩
        case measure => simp [intOf]; omega
    · obtain rfl : i = n := by omega
      have hfin : Hid (bc = false) := Lib.hid (by
        rw [hbc.out]
        refine Bool.eq_false_iff.2 fun hc => ?_
        obtain ⟨k, hk⟩ := List.getElem?_of_mem (List.mem_of_elem_eq_true hc)
        exact hall k t (by rw [← hlen.out]; exact (List.getElem?_eq_some_iff.1 hk).1) hk rfl)
      clear hall hin hlt
      go_wp2
      go_ret
      exact ⟨by rw [hfin.out]; rfl, rfl⟩
theorem pcn_le2 : ∀ (n t : Nat), F10.pcn n t ≤ n
  | 0, t => Nat.le_refl _
  | n + 1, t => by have := pcn_le2 n (t / 2); rw [F10.pcn]; omega
theorem pcn_zero : ∀ (n : Nat), F10.pcn n 0 = 0
  | 0 => rfl
  | n + 1 => by rw [F10.pcn, Nat.zero_div, pcn_zero n]
set_option maxRecDepth 100000 in
set_option maxHeartbeats 4000000 in
theorem rsize_any (t : Nat) (w : World) (ht : t < 18446744073709551616) : Calls Tryd.prog 31 #[.int .u64 (t : Int)] w fun e w' => e = .returned (.int .i64 ((F10.siz t : Nat) : Int)) ∧ w' = w := by
  obtain ⟨z, hz⟩ : ∃ z, z = F10.siz t := ⟨_, rfl⟩
  rw [← hz]
  have hz2 := Lib.hid (show z = F10.pcn 64 t by rw [hz, F10.siz_pcn])
  have hz3 := Lib.hid (show z ≤ 64 by rw [hz2.out]; exact pcn_le2 64 t)
  replace ht := Lib.hid ht
  clear hz
  go_enter Tryd.func31, Tryd.ntmps31
  go_wp2
  go_loopw [0, 3] (fun tv kv wr => ∃ u k : Nat, Hid (u < 18446744073709551616 ∧ k + F10.pcn 64 u = z) ∧ tv = .int .u64 (u : Int) ∧ kv = .int .i64 (k : Int) ∧ wr = w) (fun tv _ _ => (intOf tv).toNat)
  case atStart => exact ⟨t, 0, Lib.hid ⟨ht.out, by rw [hz2.out, Nat.zero_add]⟩, rfl, rfl, rfl⟩
  case round =>
    obtain ⟨u, k, hk, rfl, rfl, rfl⟩ := hrel
    have hk64 : k ≤ 64 := by have := hk.out.2; have := hz3.out; omega
    by_cases hu : u = 0
    · subst hu
      have hkz : k = z := by have := hk.out.2; rw [pcn_zero] at this; exact this
      subst hkz
      go_wp2
      go_ret
      exact ⟨rfl, rfl⟩
    · obtain ⟨u1, hu1⟩ : ∃ x, x = u - 1 := ⟨_, rfl⟩
      obtain ⟨v, hv⟩ : ∃ x, x = u &&& u1 := ⟨_, rfl⟩
      have hlow := Lib.hid (F10.pcn_low 64 u (by omega) hk.out.1)
      have hlt := Lib.hid (F10.low_lt (show 0 < u by omega))
      rw [← hu1, ← hv] at hlow hlt
      have g1 : ((u : Int) != 0) = true := by rw [bne_iff_ne]; omega
      have e1 : (u : Int) - 1 = (u1 : Int) := by omega
      have e2 : IntKind.u64.wrap (u1 : Int) = (u1 : Int) := by have := hk.out.1; rw [IntKind.wrap_u64]; omega
      have e3 : bits .and .u64 (u : Int) (u1 : Int) = (v : Int) := by rw [hv]; exact u64_and_nat u u1 hk.out.1 (by have := hk.out.1; omega)
      have hun := Lib.hid hu
      clear hu hu1 hv
      go_wp2
      go_roundw
      case rel => exact ⟨v, k + 1, Lib.hid (by have := hlow.out; have := hlt.out; have := hk.out; omega), rfl, by go_num, trivial⟩
      case measure => have := hlt.out; simp [intOf]; omega
end Go.Proofs.YthbkdjbmkhmlnaaDoor
namespace Go.Proofs.YthbkdjbmkhmlnaaDoor
open Go.RowKit
set_option linter.unusedVariables false

theorem pls_snoc2 (a T : List Nat) (x : Nat) : F10.pls a (T ++ [x]) = if x ∈ F10.pls a T then F10.pls a T else F10.pls a T ++ [x] := by
  unfold F10.pls
  rw [List.foldl_append]; rfl
set_option maxRecDepth 100000 in
set_option maxHeartbeats 4000000 in
theorem rplus_any (L M : List Nat) (A : Option Addr) (n c : Nat) (B : Option Addr) (m d : Nat) (w : World) (h : LR uC w A n L) (hB : LR uC w B m M) (hn : n ≤ 40000) (hm : m ≤ 40000) : Calls Tryd.prog 62 #[.slice A n c, .slice B m d] w fun e w' => ∃ v, e = .returned v ∧ Gro uC w w' [] [] 64 v (F10.pls L M) := by
  have e1 := Lib.hid h.len
  have e2 := Lib.hid hB.len
  have hG0 := Lib.hid (Gro.nil_ uC (St.new w) 64)
  have hn1 := e1.out
  subst hn1
  have hnb := Lib.hid hn
  have hmb := Lib.hid hm
  replace h := Lib.hid h
  replace hB := Lib.hid hB
  clear hn hm
  go_enter Tryd.func62, Tryd.ntmps62
  go_wp2_with (at_builtin; refine Gro.wpm rfl (.const (.slice none 0 0)) (.tmp 7) 60 rfl (.int .u64 0) 8 Tryd.underlying60 (by kernel_rfl) rfl (fun v hv z e => by simp [Value.cells] at hv; subst e; simp at hv) rfl hG0.out L A c rfl h.out (fun y _ => trivial) (by have := hnb.out; simp; omega) (by have := hnb.out; unfold maxLen; simp; omega) ?_)
  intro v0 w1 G0

  replace G0 := Lib.hid G0
  clear hG0
  go_wp2
  go_loopw [5, 6] (fun av iv wr => ∃ i : Nat, i ≤ m ∧ iv = .int .i64 i ∧ Gro uC w wr [] [] 64 av (F10.pls L (M.take i))) (fun _ iv _ => m - (intOf iv).toNat)
  case atStart => exact ⟨0, Nat.zero_le _, rfl, G0.out⟩
  case round =>
    clear G0
    obtain ⟨i, hin, rfl, G⟩ := hrel
    by_cases hlt : i < m
    · obtain ⟨b, o, x, rfl, hx, hxm, e0⟩ := u_get (hB.out.bel G.st.bel) hlt
      obtain ⟨A1, c1, rfl, hl1, hc1⟩ := G.lrc
      have hle := pls_len (M.take i) L
      have hsn := pls_snoc2 L (M.take i) x
      rw [← take_snoc_of hx] at hsn
      have hlm : (F10.pls L (M.take i)).length ≤ 80000 := by
        rw [List.length_take] at hle
        have := hnb.out
        have := hmb.out
        omega
      have hQ := Lib.hid (rhas_any _ A1 _ c1 x wr hl1 (by omega))
      have hih := Lib.hid hlt
      have g1 : (i : Int) < (m : Int) := by omega
      have g2 : (0 : Int) ≤ (i : Int) := by omega
      replace hsn := Lib.hid hsn
      have hlmh := Lib.hid hlm
      replace G := Lib.hid G
      clear hlt hin hx hxm hl1 hc1 hle hlm
      generalize F10.pls L (M.take i) = N at *
      go_wp2_with fail
      refine hQ.out.mono ?_
      rintro e wr ⟨rfl, rfl⟩
      clear hQ
      cases hv : N.contains x
      · have hnm : ¬ x ∈ N := fun hm => by rw [show N.contains x = true from List.elem_eq_true_of_mem hm] at hv; cases hv
        have hnew : Hid (F10.pls L (M.take (i + 1)) = N ++ [x]) := Lib.hid (by rw [hsn.out, if_neg hnm])
        have GA := Lib.hid (G.out.alloc #[.int .u64 (x : Int)] 64 (noLof rfl))
        clear G hsn hv hnm
        go_wp2_with (at_builtin; refine Gro.wp2 rfl (.tmp 22) (.tmp 27) 60 rfl (.int .u64 0) 8 Tryd.underlying60 (by kernel_rfl) rfl (fun v hv z e => by simp [Value.cells] at hv; subst e; simp at hv) rfl GA.out wr.heap.size x rfl (GA.out.st.cb 0 rfl) trivial (by have := hlmh.out; omega) (by have := hlmh.out; unfold maxLen; omega) ?_)
        intro av1 w6 G2 hmk
        replace G2 := Lib.hid (G2.sub (fun _ _ => trivial))
        rw [← hnew.out] at G2
        clear GA hmk hnew e0
        have hlt := hih.out
        have hbb := hmb.out
        go_wp2
        go_roundw
        case rel => exact ⟨i + 1, by omega, by go_num, G2.out⟩
        case measure => simp [intOf]; omega
      · have hnm : x ∈ N := List.mem_of_elem_eq_true hv
        have hnew : Hid (F10.pls L (M.take (i + 1)) = N) := Lib.hid (by rw [hsn.out, if_pos hnm])
        clear hsn hv hnm e0
        have hlt := hih.out
        have hbb := hmb.out
        go_wp2
        go_roundw
        case rel => exact ⟨i + 1, by omega, by go_num, by rw [hnew.out]; exact G.out⟩
        case measure => simp [intOf]; omega
    · obtain rfl : i = m := by omega
      rw [List.take_of_length_le (by rw [e2.out]; exact Nat.le_refl _)] at G
      replace G := Lib.hid G
      clear hlt hin
      go_wp2
      go_ret
      exact ⟨_, rfl, G.out⟩
end Go.Proofs.YthbkdjbmkhmlnaaDoor
namespace Go.Proofs.YthbkdjbmkhmlnaaDoor
open Go.RowKit
set_option linter.unusedVariables false

theorem mns_snoc (T M : List Nat) (x : Nat) : F10.mns (T ++ [x]) M = if x ∈ M then F10.mns T M else F10.mns T M ++ [x] := by
  unfold F10.mns
  rw [List.filter_append]
  by_cases h : x ∈ M
  · rw [if_pos h]; simp [h]
  · rw [if_neg h]; simp [h]
set_option maxRecDepth 100000 in
set_option maxHeartbeats 4000000 in
theorem rminus_any (L M : List Nat) (A : Option Addr) (n c : Nat) (B : Option Addr) (m d : Nat) (w : World) (h : LR uC w A n L) (hB : LR uC w B m M) (hn : n ≤ 90000) (hm : m ≤ 90000) : Calls Tryd.prog 61 #[.slice A n c, .slice B m d] w fun e w' => ∃ v, e = .returned v ∧ Gro uC w w' [] [] 64 v (F10.mns L M) := by
  have e1 := Lib.hid h.len
  have hG0 := Lib.hid (Gro.nil_ uC (St.new w) 64)
  have hnb := Lib.hid hn
  have hmb := Lib.hid hm
  replace h := Lib.hid h
  replace hB := Lib.hid hB
  clear hn hm
  go_enter Tryd.func61, Tryd.ntmps61
  go_wp2
  go_loopw [5, 6] (fun av iv wr => ∃ i : Nat, i ≤ n ∧ iv = .int .i64 i ∧ Gro uC w wr [] [] 64 av (F10.mns (L.take i) M)) (fun _ iv _ => n - (intOf iv).toNat)
  case atStart => exact ⟨0, Nat.zero_le _, rfl, hG0.out⟩
  case round =>
    clear hG0
    obtain ⟨i, hin, rfl, G⟩ := hrel
    by_cases hlt : i < n
    · obtain ⟨b, o, x, rfl, hx, hxm, e0⟩ := u_get (h.out.bel G.st.bel) hlt
      obtain ⟨A1, c1, rfl, hl1, hc1⟩ := G.lrc
      have hsn := mns_snoc (L.take i) M x
      rw [← take_snoc_of hx] at hsn
      have hlm : (F10.mns (L.take i) M).length ≤ 90000 := by
        have h1 : (F10.mns (L.take i) M).length ≤ (L.take i).length := List.length_filter_le _ _
        rw [List.length_take] at h1
        have := hnb.out
        omega
      have hQ := Lib.hid (rhas_any M B m d x wr (hB.out.bel G.st.bel) (by have := hmb.out; omega))
      have hih := Lib.hid hlt
      have g1 : (i : Int) < (n : Int) := by omega
      have g2 : (0 : Int) ≤ (i : Int) := by omega
      replace hsn := Lib.hid hsn
      have hlmh := Lib.hid hlm
      replace G := Lib.hid G
      clear hlt hin hx hxm hl1 hc1 hlm
      generalize F10.mns (L.take i) M = N at *
      go_wp2_with fail
      refine hQ.out.mono ?_
      rintro e wr ⟨rfl, rfl⟩
      clear hQ
      cases hv : M.contains x
      · have hnm : ¬ x ∈ M := fun hm => by rw [show M.contains x = true from List.elem_eq_true_of_mem hm] at hv; cases hv
        have hnew : Hid (F10.mns (L.take (i + 1)) M = N ++ [x]) := Lib.hid (by rw [hsn.out, if_neg hnm])
        have GA := Lib.hid (G.out.alloc #[.int .u64 (x : Int)] 64 (noLof rfl))
        clear G hsn hv hnm
        go_wp2_with (at_builtin; refine Gro.wp2 rfl (.tmp 20) (.tmp 25) 60 rfl (.int .u64 0) 8 Tryd.underlying60 (by kernel_rfl) rfl (fun v hv z e => by simp [Value.cells] at hv; subst e; simp at hv) rfl GA.out wr.heap.size x rfl (GA.out.st.cb 0 rfl) trivial (by have := hlmh.out; omega) (by have := hlmh.out; unfold maxLen; omega) ?_)
        intro av1 w6 G2 hmk
        replace G2 := Lib.hid (G2.sub (fun _ _ => trivial))
        rw [← hnew.out] at G2
        clear GA hmk hnew e0
        have hlt := hih.out
        have hbb := hnb.out
        go_wp2
        go_roundw
        case rel => exact ⟨i + 1, by omega, by go_num, G2.out⟩
        case measure => simp [intOf]; omega
      · have hnm : x ∈ M := List.mem_of_elem_eq_true hv
        have hnew : Hid (F10.mns (L.take (i + 1)) M = N) := Lib.hid (by rw [hsn.out, if_pos hnm])
        clear hsn hv hnm e0
        have hlt := hih.out
        have hbb := hnb.out
        go_wp2
        go_roundw
        case rel => exact ⟨i + 1, by omega, by go_num, by rw [hnew.out]; exact G.out⟩
        case measure => simp [intOf]; omega
    · obtain rfl : i = n := by omega
      rw [List.take_of_length_le (by rw [e1.out]; exact Nat.le_refl _)] at G
      replace G := Lib.hid G
      clear hlt hin
      go_wp2
      go_ret
      exact ⟨_, rfl, G.out⟩
end Go.Proofs.YthbkdjbmkhmlnaaDoor
namespace Go.Proofs.YthbkdjbmkhmlnaaDoor
open Go.RowKit
set_option linter.unusedVariables false

set_option maxRecDepth 100000 in
set_option maxHeartbeats 4000000 in
theorem rfits_any (L : List Nat) (A : Option Addr) (n c : Nat) (w : World) (h : LR uC w A n L) (hn : n ≤ 100000) (hu : U64 L) : Calls Tryd.prog 63 #[.slice A n c] w fun e w' => e = .returned (.bool (F10.fts L)) ∧ w' = w := by
  have e1 := Lib.hid h.len
  have hnb := Lib.hid hn
  obtain ⟨bc, hbc⟩ : ∃ q, q = F10.fts L := ⟨_, rfl⟩
  rw [← hbc]
  have hbc2 : Hid (bc = ((L.all fun t => decide (F10.siz t ≤ 6)) && decide (n ≤ 32))) := Lib.hid (by rw [hbc, ← e1.out]; rfl)
  replace h := Lib.hid h
  replace hu := Lib.hid hu
  clear hn hbc
  go_enter Tryd.func63, Tryd.ntmps63
  go_wp2
  go_loopw [3] (fun iv wr => ∃ i : Nat, i ≤ n ∧ iv = .int .i64 i ∧ wr = w ∧ (L.all fun t => decide (F10.siz t ≤ 6)) = ((L.drop i).all fun t => decide (F10.siz t ≤ 6))) (fun iv _ => n - (intOf iv).toNat)
  case atStart => exact ⟨0, Nat.zero_le _, rfl, rfl, rfl⟩
  case round =>
    obtain ⟨i, hin, rfl, rfl, hall⟩ := hrel
    by_cases hlt : i < n
    · obtain ⟨b, o, x, rfl, hx, hxm, e0⟩ := u_get h.out hlt
      have hdr := Lib.hid (drop_cons_of hx)
      have hQ := Lib.hid (rsize_any x wr (hu.out x hxm))
      have hih := Lib.hid hlt
      have g1 : (i : Int) < (n : Int) := by omega
      have g2 : (0 : Int) ≤ (i : Int) := by omega
      obtain ⟨z, hz⟩ : ∃ z, z = F10.siz x := ⟨_, rfl⟩
      rw [← hz] at hQ
      replace hall := Lib.hid hall
      replace hz := Lib.hid hz
      clear hlt hin hx hxm
      go_upto_region 4 with fail
      by_cases h6 : 6 < z
      · have g3 : (6 : Int) < (z : Int) := by omega
        have hfx : Hid (bc = false) := Lib.hid (by rw [hbc2.out, hall.out, hdr.out, List.all_cons, decide_eq_false (by rw [← hz.out]; omega)]; rfl)
        clear h6
        go_wp2_with fail
        refine hQ.out.mono ?_
        rintro e w2 ⟨rfl, rfl⟩
        clear hQ
        go_wp2
        go_ret
        exact ⟨by rw [hfx.out]; rfl, rfl⟩
      · have g3 : ¬ (6 : Int) < (z : Int) := by omega
        have hnx := Lib.hid (show (L.all fun t => decide (F10.siz t ≤ 6)) = ((L.drop (i + 1)).all fun t => decide (F10.siz t ≤ 6)) by rw [hall.out, hdr.out, List.all_cons, decide_eq_true (by rw [← hz.out]; omega)]; rfl)
        clear h6
        go_wp2_with fail
        refine hQ.out.mono ?_
        rintro e w2 ⟨rfl, rfl⟩
        clear hQ
        have hlt := hih.out
        have hbb := hnb.out
        go_wp2
        go_roundw
        case rel => exact ⟨i + 1, by omega, by go_num, (by first | rfl | trivial), hnx.out⟩
        case measure => simp [intOf]; omega
    · obtain rfl : i = n := by omega
      have hfin : Hid (bc = decide (i ≤ 32)) := Lib.hid (by rw [hbc2.out, hall, List.drop_eq_nil_of_le (by rw [e1.out]; exact Nat.le_refl _)]; rfl)
      clear hall hin hlt
      have hq : decide ((i : Int) ≤ 32) = decide (i ≤ 32) := decide_eq_decide.2 (by omega)
      rw [← hq] at hfin
      replace hq := Lib.hid hq
      go_wp2
      go_ret
      exact ⟨by rw [hfin.out]; rfl, rfl⟩
end Go.Proofs.YthbkdjbmkhmlnaaDoor
