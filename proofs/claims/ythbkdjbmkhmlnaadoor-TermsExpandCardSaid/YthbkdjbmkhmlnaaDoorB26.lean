/- The law's example. -/
import Derived.Test.YthbkdjbmkhmlnaaDoorB25
import Derived.Test.YthbkdjbmkhmlnaaDoorRows
import Derived.Test.YthbkdjbmkhmlnaaDoorB04
import Derived.WalkKit
import Derived.ProofKit
import Derived.OpenShut
import Derived.ShutString
import Derived.ChangeOld
import Derived.Below
import Derived.LaidMore
import Derived.Lib.LaidTab
import Derived.Stop.Joined
import Derived.Stop.LaidErr
import Derived.Lay
import Derived.Test.YthbkdjbmkhmlnaaDoorB15
import Derived.Lib.SmallJoins
namespace Go.Proofs.YthbkdjbmkhmlnaaDoor
open Go.RowKit
set_option linter.unusedVariables false

def exT : ByteArray := ⟨#[121, 32, 126, 32, 97, 32, 42, 32, 98, 32, 45, 32, 97]⟩
def exTr : F9.Tr := .bin 6 (.bin 8 (.leaf ⟨1, [97], 0⟩) (.leaf ⟨1, [98], 0⟩)) (.leaf ⟨1, [97], 0⟩)
theorem ex_par : parV exT.data.toList = (0, 0, ⟨#[121]⟩, exTr.pre.map toNd) := by kernel_rfl
theorem ex_frm : frmB ⟨#[121]⟩ (exTr.pre.map toNd) = true := by kernel_rfl
theorem ex_rex : F10.rex exTr = some [0, 2, 3] := by decide +kernel
theorem ex_mdT : F10.mdT (F10.atoms exTr []) [0, 2, 3] = [[([98], 1)], [([97], 1), ([98], 1)]] := by decide +kernel
theorem ex_wf : exTr.wf := ⟨by decide, by decide, ⟨by decide, by decide, .inl ⟨rfl, rfl, rfl⟩, .inl ⟨rfl, rfl, rfl⟩⟩, .inl ⟨rfl, rfl, rfl⟩⟩
theorem ex_mod : modB ⟨#[121]⟩ [[toFa ([98], 1)], [toFa ([97], 1), toFa ([98], 1)]] = true := by kernel_rfl
/-- What the example is expanded to. -/
theorem ex_expand (A : Option Addr) (c : Nat) (w : World) (h : LR ndC w A 5 (exTr.pre.map toNd)) (hc : 5 ≤ c) (hO : Og w) : Calls Tryd.prog 11 #[.agg #[.string ⟨#[121]⟩, .slice A 5 c]] w fun e w' => ∃ B d x y, e = .returned (.tuple #[.agg #[.string ⟨#[121]⟩, .bool true, .slice B 2 d], .int .i64 0]) ∧ 2 ≤ d ∧ LR (slC faC) w' B 2 [x, y] ∧ x.L = [toFa ([98], 1)] ∧ y.L = [toFa ([97], 1), toFa ([98], 1)] ∧ Below w.heap.size w w' := by
  refine (expand_yes ⟨#[121]⟩ exTr ex_wf A 5 c w h hc hO ex_frm (by decide) (fun x hx => by
    have : ∀ x ∈ exTr.pre.map toNd, x.s.size ≤ 100000 := by
      intro x hx
      obtain ⟨y, hy, rfl⟩ := List.mem_map.1 hx
      simp [exTr, F9.Tr.pre] at hy
      rcases hy with rfl | rfl | rfl | rfl | rfl <;> decide
    exact this x hx) (fun m hm h20 => by
    rw [ex_rex] at hm
    injection hm with hm
    subst hm
    exact absurd h20 (by decide))).mono ?_
  intro e w' hE
  unfold ExpV at hE
  rw [ex_rex] at hE
  obtain ⟨B, d, Ts, ob, rfl, hd, S, hI, hmap⟩ := hE
  rw [ex_mdT] at hmap
  have hlen : Ts.length = 2 := by have := congrArg List.length hmap; simpa using this
  obtain ⟨x, y, rfl⟩ : ∃ x y, Ts = [x, y] := by match Ts, hlen with | [x, y], _ => exact ⟨x, y, rfl⟩
  simp only [List.map_cons, List.map_nil, List.cons.injEq, and_true] at hmap
  exact ⟨B, d, x, y, rfl, hd, (hI w ob (fun p hp => hp)).lr S, hmap.1, hmap.2, S.bel⟩

set_option maxRecDepth 100000 in
set_option maxHeartbeats 4000000 in
theorem awake_any (w : World) (hO : Og w) : Calls Tryd.prog 10 #[] w fun e w' => e = .returned (.bool true) ∧ Below w.heap.size w w' := by
  have hP := Lib.hid (rparse_any exT w (by decide))
  replace hO := Lib.hid hO
  go_enter Tryd.func10, Tryd.ntmps10
  go_wp2_with fail
  refine hP.out.mono ?_
  rintro e w1 ⟨s, l, q, er, rfl, hpar, hcap, hLR, bb⟩
  rw [ex_par] at hpar
  simp only [Prod.mk.injEq] at hpar
  obtain ⟨a1, a2, a3, a4⟩ := hpar
  subst a1 a2 a3
  have hl5 : l.L.length = 5 := by rw [← a4]; rfl
  rw [hl5] at hcap hLR
  rw [← a4] at hLR
  obtain ⟨A, c, L⟩ := l
  have hv : (⟨A, c, L⟩ : Sl Nd).v = .slice A 5 c := by show Value.slice A L.length c = _; rw [show L.length = 5 from hl5]
  rw [hv]
  clear hP hv hl5 a4
  have S1 := Lib.hid ((St.rebase bb ((St.new w1).alloc #[.string ⟨#[121]⟩, .slice A 5 c] 24 (noLof rfl))))
  obtain ⟨fb, hfb⟩ : ∃ b, b = w1.heap.size := ⟨_, rfl⟩
  obtain ⟨w2, hw2⟩ : ∃ W, W = w1.alloc (.cells #[.string ⟨#[121]⟩, .slice A 5 c] 24) := ⟨_, rfl⟩
  rw [← hfb, ← hw2] at S1
  have hE := Lib.hid (ex_expand A c w2 (by rw [hw2]; exact hLR.bel (((Below.refl _ w1).alloc (Nat.le_refl _) _))) hcap (hO.out.bel S1.out.bel))
  have f0 : w2.cell? ⟨fb, 0, none⟩ = some (.string ⟨#[121]⟩) := S1.out.cl 0 0 rfl rfl
  have f1 : w2.cell? ⟨fb, 1, none⟩ = some (.slice A 5 c) := S1.out.cl 0 1 rfl rfl
  clear hLR hcap bb
  go_upto_region 2 with fail
  rw [← hfb, ← hw2]
  clear hfb hw2
  go_wp2_with fail
  clear f0 f1
  refine hE.out.mono ?_
  rintro e w3 ⟨B, d, x, y, rfl, hd, hLR, hx, hy, bb⟩
  have S3 := Lib.hid ((S1.out.call bb).alloc #[.string ⟨#[121]⟩, .bool true, .slice B 2 d] 29 (noLof rfl))
  obtain ⟨mb, hmb⟩ : ∃ b, b = w3.heap.size := ⟨_, rfl⟩
  obtain ⟨w4, hw4⟩ : ∃ W, W = w3.alloc (.cells #[.string ⟨#[121]⟩, .bool true, .slice B 2 d] 29) := ⟨_, rfl⟩
  rw [← hmb, ← hw4] at S3
  have hLR4 : LR (slC faC) w4 B 2 [x, y] := by rw [hw4]; exact hLR.bel (((Below.refl _ w3).alloc (Nat.le_refl _) _))
  have hV := Lib.hid (tvalid_any ⟨#[121]⟩ true [x, y] B 2 d w4 hLR4 hd (by omega) (fun z hz => by
    rcases List.mem_cons.1 hz with rfl | hz
    · rw [hx]; decide
    · rw [List.mem_singleton.1 hz, hy]; decide))
  have hmB : modB ⟨#[121]⟩ ([x, y].map fun x => x.L) = true := by
    show modB ⟨#[121]⟩ [x.L, y.L] = true
    rw [hx, hy]; exact ex_mod
  rw [hmB] at hV
  obtain ⟨b, o, x', rfl, hx0, _, e0, q0, _⟩ := fs_get hLR4 (i := 0) (by omega)
  obtain rfl : x = x' := by simpa using hx0
  obtain ⟨b2, o2, y', hA2, hy0, _, e1, q1, _⟩ := fs_get hLR4 (i := 1) (by omega)
  injection hA2 with hA2
  injection hA2 with ha hb
  subst ha hb
  obtain rfl : y = y' := by simpa using hy0
  rw [hx] at q0 e0
  rw [hy] at q1 e1
  obtain ⟨b3, o3, f3, hA3, hf3, _, n0, _⟩ := fa_get q0 (i := 0) (by decide)
  obtain rfl : toFa ([98], 1) = f3 := by simpa using hf3
  obtain ⟨xA, xc, xL⟩ := x
  simp only at hA3 e0
  subst hA3
  have n0 : w4.cell? ⟨b3, o3, none⟩ = some (.string ⟨#[98]⟩) := n0
  have e0 : w4.cell? ⟨b, o, none⟩ = some (.slice (some ⟨b3, o3, none⟩) 1 xc) := e0
  have e1 : w4.cell? ⟨b, o + 1, none⟩ = some (.slice y.A 2 y.c) := e1
  have m0 : w4.cell? ⟨mb, 0, none⟩ = some (.string ⟨#[121]⟩) := S3.out.cl 0 0 rfl rfl
  have m1 : w4.cell? ⟨mb, 1, none⟩ = some (.bool true) := S3.out.cl 0 1 rfl rfl
  have m2 : w4.cell? ⟨mb, 2, none⟩ = some (.slice (some ⟨b, o, none⟩) 2 d) := S3.out.cl 0 2 rfl rfl
  clear hLR hLR4 hx0 hy0 hf3 hd bb hE S1 hmB q0 q1
  go_upto_region 3 with fail
  rw [← hmb, ← hw4]
  clear hmb hw4
  go_wp2_with fail
  refine hV.out.mono ?_
  rintro e w5 ⟨rfl, bb⟩
  have T := Lib.hid (S3.out.bel.trans (bb.mono S3.out.bel.size))
  clear bb
  go_wp2
  go_ret
  exact ⟨rfl, T.out⟩
end Go.Proofs.YthbkdjbmkhmlnaaDoor
namespace Go.Proofs.YthbkdjbmkhmlnaaDoor
open Go.ChangeShapes Go.WideShapes Go.ChangeAt Go.RowKit
set_option linter.unusedVariables false

theorem own : ownKnob Tryd.prog.godebug = none := by kernel_rfl
theorem laidOut : laidOutB Tryd.prog = true := by kernel_rfl
abbrev laid6 : List (String × DataW Unit) := [("robuststats/formula.operations", Rows.laid_robuststats_formula_operations)]
theorem laid_met6 (os : Os) (args : Array Value) : laidMetH Tryd.prog laid6 ((World.laidAll Tryd.prog os laid6).forCall (fun _ _ => 0) ⟨#[], args, []⟩).memory := by
  rw [MakeChecks.laidMetH_plain _ _ _ (by kernel_rfl)]
  exact laidMet_laidAll _ (by kernel_rfl) (by kernel_rfl)
theorem laid_shaped (os : Os) : (World.laidAll Tryd.prog os laid6).Shaped Tryd.prog := World.shaped_of_ZipB (by kernel_rfl) (by kernel_rfl)

theorem gOps : Tryd.prog.globalNamed "robuststats/formula.operations" = some 0 := by kernel_rfl
theorem tOps : (Tryd.prog.globals[0]?).map (·.type) = some 109 := by kernel_rfl
theorem cOps : Tryd.prog.cellsOf 109 = 66 := by kernel_rfl
theorem cOp : Tryd.prog.cellsOf 108 = 6 := by kernel_rfl
theorem cStr : Tryd.prog.cellsOf 9 = 1 := by kernel_rfl
theorem cInt : Tryd.prog.cellsOf 3 = 1 := by kernel_rfl
theorem cBoo : Tryd.prog.cellsOf 4 = 1 := by kernel_rfl
/-- The rows of the table. -/
def opR : List (List UInt8 × Int × Int × Bool × Int × Int) := [([], 0, 0, false, 0, 0), ([], 5, 0, true, 0, 0), ([112, 111, 119, 101, 114], 5, 0, true, 2, 8), ([49], 5, 0, false, 0, 0), ([48], 5, 0, false, 0, 0), ([43], 1, 2, false, 0, 0), ([45], 1, 2, false, 0, 0), ([58], 3, 2, false, 0, 0), ([42], 2, 2, false, 0, 0), ([47], 2, 2, false, 0, 0), ([94], 4, 1, false, 1, 6)]
def opD {H : Type} (r : List UInt8 × Int × Int × Bool × Int × Int) : DataW H := .agg [.lit (.string r.1), .lit (.int .i64 r.2.1), .lit (.int .i64 r.2.2.1), .lit (.bool r.2.2.2.1), .lit (.int .i64 r.2.2.2.2.1), .lit (.int .i64 r.2.2.2.2.2)]
def opV (r : List UInt8 × Int × Int × Bool × Int × Int) : List Value := [.string ⟨r.1.toArray⟩, .int .i64 r.2.1, .int .i64 r.2.2.1, .bool r.2.2.2.1, .int .i64 r.2.2.2.2.1, .int .i64 r.2.2.2.2.2]
theorem opD_all {H : Type} : (Rows.laid_robuststats_formula_operations : DataW H) = .agg (opR.map opD) := rfl
theorem opV_all : opR.flatMap opV = opsC.toList := rfl
theorem take1 {l : List Value} {k : Nat} {v : Value} (h : (l.drop k).take 1 = [v]) : l[k]? = some v := by
  have := congrArg (·[0]?) h
  simpa [List.getElem?_take, List.getElem?_drop] using this
set_option maxRecDepth 100000 in
theorem op_cells {w : World} {base : Nat} {sp : Nat → Bool} {held : Bool} {fuel : Nat} {cs : List Value} {r : List UInt8 × Int × Int × Bool × Int × Int} {p : List MemPlace}
    (h : DataW.trod (fun _ => ()) Tryd.prog w base sp held fuel 108 cs = some (opD r, p)) : cs = opV r := by
  obtain ⟨xs, n, rfl, hx, hl, hxl, hf⟩ := DataW.trod_struct Tryd.underlying108 h
  rw [cOp] at hl
  have hm : xs.map (·.1) = [.lit (.string r.1), .lit (.int .i64 r.2.1), .lit (.int .i64 r.2.2.1), .lit (.bool r.2.2.2.1), .lit (.int .i64 r.2.2.2.2.1), .lit (.int .i64 r.2.2.2.2.2)] := by
    have := (congrArg Prod.fst hx).symm
    simpa [opD] using this
  have ex : ∀ (i : Nat) (d : DataW Unit), (xs.map (·.1))[i]? = some d → ∃ q, xs[i]? = some (d, q) := fun i d h => by
    rw [List.getElem?_map] at h
    obtain ⟨⟨a, b⟩, h1, h2⟩ := Option.map_eq_some_iff.1 h
    exact ⟨b, by rw [h1]; simp at h2; rw [h2]⟩
  rw [hm] at ex
  obtain ⟨q0, x0⟩ := ex 0 _ rfl
  obtain ⟨q1, x1⟩ := ex 1 _ rfl
  obtain ⟨q2, x2⟩ := ex 2 _ rfl
  obtain ⟨q3, x3⟩ := ex 3 _ rfl
  obtain ⟨q4, x4⟩ := ex 4 _ rfl
  obtain ⟨q5, x5⟩ := ex 5 _ rfl
  have f0 := hf 0 _ rfl
  change DataW.trod _ _ _ _ _ _ _ 9 ((cs.drop 0).take (Tryd.prog.cellsOf 9)) = _ at f0
  have f1 := hf 1 _ rfl
  change DataW.trod _ _ _ _ _ _ _ 3 ((cs.drop 1).take (Tryd.prog.cellsOf 3)) = _ at f1
  have f2 := hf 2 _ rfl
  change DataW.trod _ _ _ _ _ _ _ 3 ((cs.drop 2).take (Tryd.prog.cellsOf 3)) = _ at f2
  have f3 := hf 3 _ rfl
  change DataW.trod _ _ _ _ _ _ _ 4 ((cs.drop 3).take (Tryd.prog.cellsOf 4)) = _ at f3
  have f4 := hf 4 _ rfl
  change DataW.trod _ _ _ _ _ _ _ 3 ((cs.drop 4).take (Tryd.prog.cellsOf 3)) = _ at f4
  have f5 := hf 5 _ rfl
  change DataW.trod _ _ _ _ _ _ _ 3 ((cs.drop 5).take (Tryd.prog.cellsOf 3)) = _ at f5
  rw [x0] at f0
  rw [x1] at f1
  rw [x2] at f2
  rw [x3] at f3
  rw [x4] at f4
  rw [x5] at f5
  obtain ⟨s, a0, b0, _⟩ := DataW.trod_string Tryd.underlying9 f0
  obtain ⟨v1, a1, b1, _⟩ := DataW.trod_int Tryd.underlying3 f1
  obtain ⟨v2, a2, b2, _⟩ := DataW.trod_int Tryd.underlying3 f2
  obtain ⟨v3, a3, b3⟩ := DataW.trod_bool Tryd.underlying4 f3
  obtain ⟨v4, a4, b4, _⟩ := DataW.trod_int Tryd.underlying3 f4
  obtain ⟨v5, a5, b5, _⟩ := DataW.trod_int Tryd.underlying3 f5
  simp only [Prod.mk.injEq, DataW.lit.injEq, Lit.string.injEq, Lit.int.injEq, Lit.bool.injEq, true_and] at b0 b1 b2 b3 b4 b5
  obtain ⟨rr, r1, r2, r3, r4, r5⟩ := r
  simp only at b0 b1 b2 b3 b4 b5
  have e0 : s = ⟨rr.toArray⟩ := by rw [b0.1]
  rw [e0] at a0
  rw [← b1.1] at a1
  rw [← b2.1] at a2
  rw [← b3.1] at a3
  rw [← b4.1] at a4
  rw [← b5.1] at a5
  rw [show Tryd.prog.cellsOf 9 = 1 from cStr] at a0
  rw [show Tryd.prog.cellsOf 3 = 1 from cInt] at a1 a2 a4 a5
  rw [show Tryd.prog.cellsOf 4 = 1 from cBoo] at a3
  have g0 := take1 a0
  have g1 := take1 a1
  have g2 := take1 a2
  have g3 := take1 a3
  have g4 := take1 a4
  have g5 := take1 a5
  match cs, hl with
  | [c0, c1, c2, c3, c4, c5], _ =>
    simp only [List.getElem?_cons_zero, List.getElem?_cons_succ, Option.some.injEq] at g0 g1 g2 g3 g4 g5
    rw [g0, g1, g2, g3, g4, g5]
    rfl
theorem chunks : ∀ (rs : List (List UInt8 × Int × Int × Bool × Int × Int)) (cs : List Value), cs.length = rs.length * 6 → (∀ i r, rs[i]? = some r → (cs.drop (i * 6)).take 6 = opV r) → cs = rs.flatMap opV
  | [], cs, hl, _ => by
    simp at hl
    rw [hl]; rfl
  | r :: rs, cs, hl, h => by
    rw [List.length_cons] at hl
    have h0 := h 0 r rfl
    rw [Nat.zero_mul, List.drop_zero] at h0
    have h1 := chunks rs (cs.drop 6) (by rw [List.length_drop]; omega) (fun i r' hi => by
      have := h (i + 1) r' (by simpa using hi)
      rw [List.drop_drop, show 6 + i * 6 = (i + 1) * 6 by omega]
      exact this)
    rw [List.flatMap_cons, ← h0, ← h1, List.take_append_drop]
theorem og_laid {W : World} (h : laidMetH Tryd.prog laid6 W) : Og W := by
  rw [MakeChecks.laidMetH_plain _ _ _ (by kernel_rfl)] at h
  obtain ⟨ps, ⟨g', t', cs, fuel, p, q, hg', ht', hvar, hd, _, _⟩, _⟩ := h
  obtain rfl := Option.some.inj (gOps.symm.trans hg')
  obtain rfl := Option.some.inj (tOps.symm.trans ht')
  rw [opD_all] at hd
  obtain ⟨xs, m, rfl, hx, hl, hxl, hf⟩ := DataW.trod_array Tryd.underlying109 hd
  rw [cOps] at hl
  have hm : xs.map (·.1) = opR.map opD := by
    have := (congrArg Prod.fst hx).symm
    simpa using this
  have hall : cs.toList = opR.flatMap opV := by
    refine chunks opR cs.toList (by rw [hl]; rfl) fun i r hi => ?_
    have hi11 : i < 11 := (List.getElem?_eq_some_iff.1 hi).1
    have e1 : (xs.map (·.1))[i]? = some (opD r) := by rw [hm, List.getElem?_map, hi]; rfl
    rw [List.getElem?_map] at e1
    obtain ⟨⟨a, b⟩, h1, h2⟩ := Option.map_eq_some_iff.1 e1
    simp only at h2
    subst h2
    have h3 := hf i hi11
    rw [h1, cOp] at h3
    exact op_cells h3
  rw [opV_all] at hall
  have hcs : cs = opsC := Array.ext' hall
  subst hcs
  have hc := fun i => World.var?_cell gOps hvar i
  refine ⟨?_, fun k v hk => by rw [hc k]; exact hk⟩
  have h0 : W.cell? ⟨0, 0, none⟩ = some (.string ⟨#[]⟩) := by rw [hc 0]; rfl
  unfold World.cell? at h0
  split at h0
  · rename_i hb
    exact (Array.getElem?_eq_some_iff.1 hb).1
  · cases h0
end Go.Proofs.YthbkdjbmkhmlnaaDoor
namespace Go.Proofs.YthbkdjbmkhmlnaaDoor
open Go.ChangeShapes Go.WideShapes Go.ChangeAt Go.RowKit Go.Joins Go.Deep
set_option linter.unusedVariables false

/-- What comes in as this type reads as one of these. -/
def Opn {α : Type} (t : TypeId) (C : Cod α) : Prop := ∀ {H : Type} {enc : TypeId × Value → H} {W : World} {n : Nat} {cs : List Value} {x : DataW H × List MemPlace}, DataW.trod enc Tryd.prog W 0 (fun _ => true) true n t cs = some x → ∃ a : α, cs = C.cs a ∧ C.At W a
theorem cells_get8 {w : World} {base : Nat} {a : Addr} {n : Nat} {cs : List Value} (h : w.cells? base a n = some cs) : cs.length = n ∧ ∀ i, i < n → w.cell? (a.add i) = cs[i]? := by
  unfold World.cells? at h
  split at h
  · exact ⟨by simpa using mapM_some_length h, fun i hi => mapM_some_get h i i (by simp [hi])⟩
  · cases h
theorem spot_none8 {w : World} {a : Addr} {v : Value} (h : w.cell? a = some v) : a = ⟨a.block, a.off, none⟩ ∧ a.block < w.heap.size := by
  obtain ⟨b, o, s⟩ := a
  unfold World.cell? at h
  split at h
  · rename_i hb
    cases s with
    | none => exact ⟨rfl, (Array.getElem?_eq_some_iff.1 hb).1⟩
    | some z => simp at h
  · cases h
theorem add_n8 (b o k : Nat) : (⟨b, o, none⟩ : Addr).add k = ⟨b, o + k, none⟩ := by unfold Addr.add; split <;> simp_all
theorem opn_slice {α : Type} {C : Cod α} {t e : TypeId} (hu : Program.underlying Tryd.prog t = some (.slice e)) (hc : Program.cellsOf Tryd.prog e = C.sz) (he : Opn e C) : Opn t (slC C) := by
  intro H enc W n cs x h
  rcases DataW.trod_slice hu h with ⟨h0, _⟩ | ⟨a, len, cap, elems, rest, m, _, h0, _, hb, hl, hm, hlen, hel, _, _⟩
  · exact ⟨⟨none, 0, []⟩, h0, LR.nil_ _ _ _, Nat.le_refl _⟩
  · rw [hc] at hel
    have each : ∀ i, i < len → ∃ y : α, (∀ k v, (C.cs y)[k]? = some v → W.cell? ((a.add (i * C.sz)).add k) = some v) ∧ C.At W y := by
      intro i hi
      have e := hel i hi
      rw [List.getElem?_eq_getElem (by omega), Option.bind_eq_some_iff] at e
      obtain ⟨cs', hcs, hy⟩ := e
      obtain ⟨hcl, hcg⟩ := cells_get8 hcs
      obtain ⟨y, rfl, hat⟩ := he hy
      exact ⟨y, fun k v hv => by rw [hcg k (by rw [← C.len y]; exact (List.getElem?_eq_some_iff.1 hv).1)]; exact hv, hat⟩
    rcases Nat.eq_zero_or_pos len with h1 | h1
    · subst h1
      exact ⟨⟨some a, cap, []⟩, h0, LR.nil_ _ _ _, Nat.zero_le _⟩
    · obtain ⟨y0, e0, _⟩ := each 0 h1
      have e0' := e0 0 _ (List.getElem?_eq_getElem (by rw [C.len]; exact C.pos))
      have ea : (a.add (0 * C.sz)).add 0 = a := by simp [Addr.add]
      rw [ea] at e0'
      obtain ⟨ha, hblt⟩ := spot_none8 e0'
      obtain ⟨b, o, s⟩ := a
      obtain rfl : s = none := by injection ha
      obtain ⟨L, hL⟩ : ∃ L, L = (List.range len).map (fun i => if hi : i < len then (each i hi).choose else y0) := ⟨_, rfl⟩
      have hfl : L.length = len := by rw [hL]; simp
      have hmem : ∀ r ∈ L, ∃ i, ∃ hi : i < len, r = (each i hi).choose := by
        intro r hr
        rw [hL] at hr
        obtain ⟨i, hi, rfl⟩ := List.mem_map.1 hr
        have hil : i < len := by simpa using hi
        exact ⟨i, hil, by simp only [hil, dite_true]⟩
      refine ⟨⟨some ⟨b, o, none⟩, cap, L⟩, by rw [h0, ← hfl]; rfl, ⟨rfl, .inr ⟨b, o, rfl, hblt, fun i x hi k v hv => ?_⟩, fun r hr => ?_⟩, by show L.length ≤ cap; omega⟩
      · have hil : i < len := by rw [← hfl]; exact (List.getElem?_eq_some_iff.1 hi).1
        have er : x = (each i hil).choose := by
          have hi' : L[i]? = some x := hi
          rw [hL, List.getElem?_map, List.getElem?_range hil] at hi'
          simpa [hil] using hi'.symm
        have k0 := (each i hil).choose_spec.1 k v (by rw [← er]; exact hv)
        rw [add_n8, add_n8] at k0
        exact k0
      · obtain ⟨i, hi, rfl⟩ := hmem r hr
        exact (each i hi).choose_spec.2
theorem opn_str : Opn 9 strC := by
  intro H enc W n cs x h
  obtain ⟨s, e, _⟩ := DataW.trod_string Tryd.underlying9 h
  exact ⟨s, e, trivial⟩
theorem opn_int : Opn 3 intC := by
  intro H enc W n cs x h
  obtain ⟨s, e, _⟩ := DataW.trod_int Tryd.underlying3 h
  exact ⟨s, e, trivial⟩
theorem trod_struct3 {H : Type} {enc : TypeId × Value → H} {w : World} {base : Nat} {spare : Nat → Bool} {held : Bool} {t : TypeId} {f0 f1 f2 : Field} {fuel : Nat} {cs : List Value} {x : DataW H × List MemPlace} (ht : Program.underlying Tryd.prog t = some (.struct #[f0, f1, f2])) (h : DataW.trod enc Tryd.prog w base spare held fuel t cs = some x) :
    ∃ y0 y1 y2 n, cs.length = Program.cellsOf Tryd.prog t ∧ DataW.trod enc Tryd.prog w base spare held n f0.type ((cs.drop f0.offset).take (Program.cellsOf Tryd.prog f0.type)) = some y0 ∧ DataW.trod enc Tryd.prog w base spare held n f1.type ((cs.drop f1.offset).take (Program.cellsOf Tryd.prog f1.type)) = some y1 ∧ DataW.trod enc Tryd.prog w base spare held n f2.type ((cs.drop f2.offset).take (Program.cellsOf Tryd.prog f2.type)) = some y2 := by
  obtain ⟨xs, n, _, rfl, hl, hlen, hf⟩ := DataW.trod_struct ht h
  match xs, hlen with
  | [y0, y1, y2], _ => exact ⟨y0, y1, y2, n, hl, by simpa using hf 0 f0 rfl, by simpa using hf 1 f1 rfl, by simpa using hf 2 f2 rfl⟩
theorem c9Int : Program.cellsOf Tryd.prog 3 = 1 := by kernel_rfl
theorem c9Str : Program.cellsOf Tryd.prog 9 = 1 := by kernel_rfl
theorem c9Nd : Program.cellsOf Tryd.prog 39 = 3 := by kernel_rfl
theorem c9Nds : Program.cellsOf Tryd.prog 22 = 1 := by kernel_rfl
theorem c9Fo : Program.cellsOf Tryd.prog 24 = 2 := by kernel_rfl
set_option maxRecDepth 100000 in
theorem opn_node : Opn 39 ndC := by
  intro H enc W n cs x h
  obtain ⟨y0, y1, y2, n, hl, h0, h1, h2⟩ := trod_struct3 Tryd.underlying39 h
  rw [c9Nd] at hl
  match cs, hl with
  | [c0, c1, c2], _ =>
    have h0' : DataW.trod enc Tryd.prog W 0 (fun _ => true) true n 3 [c0] = some y0 := by simpa [c9Int] using h0
    have h1' : DataW.trod enc Tryd.prog W 0 (fun _ => true) true n 9 [c1] = some y1 := by simpa [c9Str] using h1
    have h2' : DataW.trod enc Tryd.prog W 0 (fun _ => true) true n 3 [c2] = some y2 := by simpa [c9Int] using h2
    obtain ⟨o, e0, _⟩ := opn_int h0'
    obtain ⟨s, e1, _⟩ := opn_str h1'
    obtain ⟨k, e2, _⟩ := opn_int h2'
    exact ⟨⟨o, s, k⟩, by show [c0] ++ ([c1] ++ [c2]) = _; rw [e0, e1, e2]; rfl, ⟨trivial, trivial, trivial⟩⟩
theorem opn_nodes : Opn 22 (slC ndC) := opn_slice Tryd.underlying22 c9Nd opn_node
set_option maxRecDepth 100000 in
/-- A formula that came in. -/
theorem open_form {H : Type} {enc : TypeId × Value → H} {W : World} {b0 : Nat} {r : Reach} {v : Value} {d : DataW H} {p : List MemPlace} (hv : Value.okWide Tryd.prog W r b0 24 v) (h : DataW.Trod enc Tryd.prog W 0 (fun _ => true) true 24 v d p) :
    ∃ (s : ByteArray) (l : Sl Nd), v = .agg #[.string s, .slice l.A l.L.length l.c] ∧ LR ndC W l.A l.L.length l.L ∧ l.L.length ≤ l.c := by
  obtain ⟨cs, rfl, hsz⟩ := okWide_struct Tryd.underlying24 hv
  obtain ⟨c0, c1, rfl⟩ : ∃ c0 c1, cs = #[c0, c1] := by
    have hsz := hsz.trans c9Fo
    obtain ⟨l⟩ := cs
    match l, hsz with
    | [c0, c1], _ => exact ⟨c0, c1, rfl⟩
  obtain ⟨fuel, hf⟩ := h
  obtain ⟨y0, y1, n, hx, _, h0, h1⟩ := trod_struct2 Tryd.underlying24 hf
  have h0' : DataW.trod enc Tryd.prog W 0 (fun _ => true) true n 9 [c0] = some y0 := by simpa [Value.cells, c9Str] using h0
  have h1' : DataW.trod enc Tryd.prog W 0 (fun _ => true) true n 22 [c1] = some y1 := by simpa [Value.cells, c9Nds] using h1
  obtain ⟨s, e0, _⟩ := opn_str h0'
  obtain ⟨l, e1, A1⟩ := opn_nodes h1'
  obtain rfl : c0 = .string s := by simpa [strC, cellC] using e0
  obtain rfl : c1 = .slice l.A l.L.length l.c := by simpa [slC, Sl.v] using e1
  exact ⟨s, l, rfl, A1.1, A1.2⟩
theorem opn_bool : Opn 4 boolC := by
  intro H enc W n cs x h
  obtain ⟨s, e, _⟩ := DataW.trod_bool Tryd.underlying4 h
  exact ⟨s, e, trivial⟩
theorem c9Boo : Program.cellsOf Tryd.prog 4 = 1 := by kernel_rfl
theorem c9Fa : Program.cellsOf Tryd.prog 37 = 2 := by kernel_rfl
theorem c9Fas : Program.cellsOf Tryd.prog 34 = 1 := by kernel_rfl
theorem c9Fass : Program.cellsOf Tryd.prog 27 = 1 := by kernel_rfl
theorem c9Mo : Program.cellsOf Tryd.prog 29 = 3 := by kernel_rfl
set_option maxRecDepth 100000 in
theorem opn_fac : Opn 37 faC := by
  intro H enc W n cs x h
  obtain ⟨y0, y1, n, _, hl, h0, h1⟩ := trod_struct2 Tryd.underlying37 h
  rw [c9Fa] at hl
  match cs, hl with
  | [c0, c1], _ =>
    have h0' : DataW.trod enc Tryd.prog W 0 (fun _ => true) true n 9 [c0] = some y0 := by simpa [c9Str] using h0
    have h1' : DataW.trod enc Tryd.prog W 0 (fun _ => true) true n 3 [c1] = some y1 := by simpa [c9Int] using h1
    obtain ⟨s, e0, _⟩ := opn_str h0'
    obtain ⟨k, e1, _⟩ := opn_int h1'
    exact ⟨⟨s, k⟩, by show [c0] ++ [c1] = _; rw [e0, e1]; rfl, ⟨trivial, trivial⟩⟩
theorem opn_facs : Opn 34 (slC faC) := opn_slice Tryd.underlying34 c9Fa opn_fac
theorem opn_factors : Opn 27 (slC (slC faC)) := opn_slice Tryd.underlying27 c9Fas opn_facs
set_option maxRecDepth 100000 in
/-- A model that came in. -/
theorem open_model {H : Type} {enc : TypeId × Value → H} {W : World} {b0 : Nat} {r : Reach} {v : Value} {d : DataW H} {p : List MemPlace} (hv : Value.okWide Tryd.prog W r b0 29 v) (h : DataW.Trod enc Tryd.prog W 0 (fun _ => true) true 29 v d p) :
    ∃ (s : ByteArray) (bz : Bool) (l : Sl (Sl Fa)), v = .agg #[.string s, .bool bz, .slice l.A l.L.length l.c] ∧ LR (slC faC) W l.A l.L.length l.L ∧ l.L.length ≤ l.c := by
  obtain ⟨cs, rfl, hsz⟩ := okWide_struct Tryd.underlying29 hv
  obtain ⟨c0, c1, c2, rfl⟩ : ∃ c0 c1 c2, cs = #[c0, c1, c2] := by
    have hsz := hsz.trans c9Mo
    obtain ⟨l⟩ := cs
    match l, hsz with
    | [c0, c1, c2], _ => exact ⟨c0, c1, c2, rfl⟩
  obtain ⟨fuel, hf⟩ := h
  obtain ⟨y0, y1, y2, n, _, h0, h1, h2⟩ := trod_struct3 Tryd.underlying29 hf
  have h0' : DataW.trod enc Tryd.prog W 0 (fun _ => true) true n 9 [c0] = some y0 := by simpa [Value.cells, c9Str] using h0
  have h1' : DataW.trod enc Tryd.prog W 0 (fun _ => true) true n 4 [c1] = some y1 := by simpa [Value.cells, c9Boo] using h1
  have h2' : DataW.trod enc Tryd.prog W 0 (fun _ => true) true n 27 [c2] = some y2 := by simpa [Value.cells, c9Fass] using h2
  obtain ⟨s, e0, _⟩ := opn_str h0'
  obtain ⟨bz, e1, _⟩ := opn_bool h1'
  obtain ⟨l, e2, A1⟩ := opn_factors h2'
  obtain rfl : c0 = .string s := by simpa [strC, cellC] using e0
  obtain rfl : c1 = .bool bz := by simpa [boolC, cellC] using e1
  obtain rfl : c2 = .slice l.A l.L.length l.c := by simpa [slC, Sl.v] using e2
  exact ⟨s, bz, l, rfl, A1.1, A1.2⟩
end Go.Proofs.YthbkdjbmkhmlnaaDoor
