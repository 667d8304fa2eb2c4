/- The reference's Expand. -/
import Derived.Test.YthbkdjbmkhmlnaaDoorTg
namespace Go.Proofs.YthbkdjbmkhmlnaaDoor
open Go.RowKit
set_option linter.unusedVariables false

/-- What the reference's Expand leaves of a valid formula. -/
def RxV (w w' : World) (e : Ending) (s : ByteArray) (tr : F9.Tr) : Prop :=
  match F10.rex tr with
  | none => e = .returned (.tuple #[.agg #[.string ⟨#[]⟩, .bool false, .slice none 0 0], .int .i64 2]) ∧ Below w.heap.size w w'
  | some m => ∃ A c Ts, e = .returned (.tuple #[.agg #[.string s, .bool (m.contains 0), .slice A Ts.length c], .int .i64 0]) ∧ Ts.length ≤ c ∧ LR (slC faC) w' A Ts.length Ts ∧ Ts.map (fun l => l.L) = (F10.mdT (F10.atoms tr []) m).map (fun l => l.map toFa) ∧ Below w.heap.size w w'
theorem res_rx (W : World) (tmps : Array Value) (g t : Nat) {v0 v1 v2 : Value} {z : Value} (h2 : tmps.getD 2 undef = .pointer (some ⟨g, 0, none⟩)) (h3 : tmps.getD 3 undef = z) (h : Cb W g #[v0, v1, v2] t) :
    (results Tryd.f12 tmps).run Tryd.prog W = .ok (.tuple #[.agg #[v0, v1, v2], z]) W := by
  have c0 : W.cell? ⟨g, 0, none⟩ = some v0 := h.cell rfl
  have c1 : W.cell? ⟨g, 1, none⟩ = some v1 := h.cell rfl
  have c2 : W.cell? ⟨g, 2, none⟩ = some v2 := h.cell rfl
  have ht2 : tmps[2]?.getD undef = .pointer (some ⟨g, 0, none⟩) := by rw [← h2]; simp [Array.getD_eq_getD_getElem?]
  have ht3 : tmps[3]?.getD undef = z := by rw [← h3]; simp [Array.getD_eq_getD_getElem?]
  simp [results, Tryd.results12, go_sem, ht2, ht3, c0, c1, c2]

set_option maxRecDepth 100000 in
set_option maxHeartbeats 4000000 in
theorem rexpand_no (s : ByteArray) (L : List Nd) (A : Option Addr) (n c : Nat) (w : World) (h : LR ndC w A n L) (hn : n ≤ 100000) (hf : frmB s L = false) : Calls Tryd.prog 12 #[.agg #[.string s, .slice A n c]] w fun e w' => e = .returned (.tuple #[.agg #[.string ⟨#[]⟩, .bool false, .slice none 0 0], .int .i64 4]) ∧ Below w.heap.size w w' := by
  have S1 := Lib.hid (((St.new w).allocAt w.heap.size #[.string s, .slice A n c] 24 (noLof rfl) rfl).allocAt (w.heap.size + 1) #[.string ⟨#[]⟩, .bool false, .slice none 0 0] 29 (noLof rfl) (by simp))
  obtain ⟨w1, hw1⟩ : ∃ W, W = (w.alloc (.cells #[.string s, .slice A n c] 24)).alloc (.cells #[.string ⟨#[]⟩, .bool false, .slice none 0 0] 29) := ⟨_, rfl⟩
  obtain ⟨fb, hfb⟩ : ∃ b, b = w.heap.size := ⟨_, rfl⟩
  rw [← hw1, ← hfb] at S1
  have hV := Lib.hid (rvalid_any s L A n c w1 (h.bel S1.out.bel) hn)
  rw [hf] at hV
  clear h hn hf
  have k0 : w1.cell? ⟨fb, 0, none⟩ = some (.string s) := S1.out.cl 1 0 rfl rfl
  have k1 : w1.cell? ⟨fb, 1, none⟩ = some (.slice A n c) := S1.out.cl 1 1 rfl rfl
  go_enter Tryd.func12, Tryd.ntmps12
  go_upto_region 1 with fail
  rw [← hw1, ← hfb]
  clear hw1 hfb
  go_wp2_with fail
  clear k0 k1
  refine hV.out.mono ?_
  rintro e w2 ⟨rfl, hb⟩
  have S2 := Lib.hid (S1.out.call hb)
  clear hb hV S1
  have r0 : w2.cell? ⟨fb + 1, 0, none⟩ = some (.string ⟨#[]⟩) := S2.out.cl 0 0 rfl rfl
  have r1 : w2.cell? ⟨fb + 1, 1, none⟩ = some (.bool false) := S2.out.cl 0 1 rfl rfl
  have r2 : w2.cell? ⟨fb + 1, 2, none⟩ = some (.slice none 0 0) := S2.out.cl 0 2 rfl rfl
  have f0 := S2.out.f 0 0 rfl
  have f1 := S2.out.f 0 1 rfl
  have f2 := S2.out.f 0 2 rfl
  have S3 := Lib.hid (((S2.out.set 0 0 (.string ⟨#[]⟩) rfl (by nofun)).set 0 1 (.bool false) rfl (by nofun)).set 0 2 (.slice none 0 0) rfl (by nofun))
  clear S2
  go_wp2
  exact bodyPost_ret (res_rx _ _ (fb + 1) 29 rfl rfl (S3.out.cb 0 rfl)) rfl ⟨rfl, S3.out.bel⟩

/-- The terms of so many sizes. -/
def mk (L : List Nat) (j : Nat) : List Nat := ((List.range j).map (· + 1)).flatMap fun n => L.filter fun t => F10.siz t == n
theorem mk_succ (L : List Nat) (j : Nat) : mk L (j + 1) = mk L j ++ L.filter (fun t => F10.siz t == j + 1) := by
  unfold mk
  rw [List.range_succ, List.map_append, List.flatMap_append]
  simp
theorem mk_len (L : List Nat) : ∀ j, (mk L j).length ≤ j * L.length
  | 0 => by simp [mk]
  | j + 1 => by
    rw [mk_succ, List.length_append]
    have h1 := mk_len L j
    have h2 : (L.filter (fun t => F10.siz t == j + 1)).length ≤ L.length := List.length_filter_le _ _
    rw [Nat.add_mul, Nat.one_mul]; omega
theorem flt_snoc {L : List Nat} {i t : Nat} (p : Nat → Bool) (h : L[i]? = some t) : (L.take (i + 1)).filter p = (L.take i).filter p ++ if p t then [t] else [] := by
  rw [take_snoc_of h, List.filter_append]
  cases hp : p t <;> simp [hp]
theorem mk_mdT {Fs : List F10.Fac} {m : List Nat} (hF : Fs.length ≤ 64) : (mk m 6).map (fun t => pk (Fs.map toFa) t Fs.length) = (F10.mdT Fs m).map fun l => l.map toFa := by
  have : (fun t => pk (Fs.map toFa) t Fs.length) = fun t => (F10.fac Fs t).map toFa := by
    funext t; exact pk_fac Fs t hF
  rw [this]
  unfold F10.mdT mk
  rw [List.map_flatMap, List.map_flatMap]
  congr 1
  funext n
  rw [List.map_map]; rfl
end Go.Proofs.YthbkdjbmkhmlnaaDoor
