/- The equations of the law TermsFollowLaws. -/
import Derived.Test.YthbkdjbmkhmlnaaDoorTm
namespace Go.Proofs.YthbkdjbmkhmlnaaDoor
open Go.RowKit
set_option linter.unusedVariables false

theorem map_sfB {x y : List F10.Fac} (h : F10.SameF x y) : sfB (x.map toFa) (y.map toFa) = true := by
  unfold sfB
  rw [Bool.and_eq_true, decide_eq_true_eq, List.length_map, List.length_map]
  refine ⟨h.1, List.all_eq_true.2 fun f hf => ?_⟩
  obtain ⟨g, hg, rfl⟩ := List.mem_map.1 hf
  exact decide_eq_true (toFa_mem.2 (h.2 g hg))
theorem agp_of {x y : F9.Tr} (wx : x.wf) (wy : y.wf) (lx : x.pre.length ≤ 64) (ly : y.pre.length ≤ 64) (bx : ∀ op a b, x = .bin op a b → ¬ (op = 5 ∨ op = 6)) (bY : ∀ op a b, y = .bin op a b → ¬ (op = 5 ∨ op = 6)) (zx : F10.isZ x = false) (zy : F10.isZ y = false) (hn : ∀ f, F10.nam x f ↔ F10.nam y f)
    (hs : ∀ l l', F10.rl (F10.atoms x []) x = some l → F10.rl (F10.atoms x []) y = some l' → ∀ t, t ∈ l ↔ t ∈ l') : AgP x y := by
  intro m n h1 h2
  obtain ⟨z1, z2, hc, hm⟩ := F10.agrees (wf_shp wy) bx bY zx zy lx ly hn h1 h2 hs
  have lX : (F10.atoms x []).length ≤ 64 := by have := F10.atoms_len x []; simp only [List.length_nil] at this; omega
  have lY : (F10.atoms y []).length ≤ 64 := by have := F10.atoms_len y []; simp only [List.length_nil] at this; omega
  have fX := F10.expand_same x (wf_shp wx)
  have fY := F10.expand_same y (wf_shp wy)
  rw [h1] at fX
  rw [h2] at fY
  have bX := rex_bits (wf_shp wx) lx h1
  have bYY := rex_bits (wf_shp wy) ly h2
  unfold RTb RTm
  rw [h1, h2]
  refine ⟨?_, ?_, fun t ht => ?_⟩
  · show m.contains 0 = n.contains 0
    rw [List.contains_iff_mem.2 z1, List.contains_iff_mem.2 z2]
  · show ((F10.mdT (F10.atoms x []) m).map _).length = ((F10.mdT (F10.atoms y []) n).map _).length
    rw [List.length_map, List.length_map, F10.mdT_len fX.2.2.2.2 lX bX, F10.mdT_len fY.2.2.2.2 lY bYY]
    exact hc
  · have ht : t ∈ (F10.mdT (F10.atoms x []) m).map fun l => l.map toFa := ht
    obtain ⟨z, hz, rfl⟩ := List.mem_map.1 ht
    obtain ⟨u, hu, hsame⟩ := hm z ((F10.mdT_mem lX fX.2.2.2.2 bX).1 hz)
    show (((F10.mdT (F10.atoms y []) n).map fun l => l.map toFa).any fun u => sfB (z.map toFa) u) = true
    rw [List.any_eq_true]
    exact ⟨u.map toFa, List.mem_map_of_mem ((F10.mdT_mem lY fY.2.2.2.2 bYY).2 hu), map_sfB hsame⟩
/-- Two right sides that agree. -/
structure Pr (x y : F9.Tr) : Prop where
  wx : x.wf
  wy : y.wf
  lx : x.pre.length ≤ 64
  ly : y.pre.length ≤ 64
  ag : AgP x y
theorem one_wf : (F10.oneT).wf := .inr (.inr ⟨.inl rfl, rfl, rfl⟩)
theorem bin_len (op : Nat) (a b : F9.Tr) : (F9.Tr.bin op a b).pre.length = a.pre.length + b.pre.length + 1 := by
  show (⟨op, [], 0⟩ :: (a.pre ++ b.pre) : List F9.Nd).length = _
  rw [List.length_cons, List.length_append]
theorem one_len : (F10.oneT).pre.length = 1 := rfl
theorem nob {op : Nat} {a b : F9.Tr} (h : ¬ (op = 5 ∨ op = 6)) : ∀ op' a' b', F9.Tr.bin op a b = .bin op' a' b' → ¬ (op' = 5 ∨ op' = 6) := fun op' a' b' he => by cases he; exact h
section
variable {a b c : F9.Tr} (wa : a.wf) (wb : b.wf) (wc : c.wf) (la : a.pre.length ≤ 12) (lb : b.pre.length ≤ 12) (lc : c.pre.length ≤ 12)
include wa wb la lb
theorem pr_star : Pr (.bin 8 a b) (.bin 7 (.bin 5 (.bin 5 a b) (.bin 7 a b)) F10.oneT) := by
  have w1 : (F9.Tr.bin 8 a b).wf := ⟨by decide, by decide, wa, wb⟩
  have w2 : (F9.Tr.bin 7 (.bin 5 (.bin 5 a b) (.bin 7 a b)) F10.oneT).wf := ⟨by decide, by decide, ⟨by decide, by decide, ⟨by decide, by decide, wa, wb⟩, ⟨by decide, by decide, wa, wb⟩⟩, one_wf⟩
  have l1 : (F9.Tr.bin 8 a b).pre.length ≤ 64 := by rw [bin_len]; omega
  have l2 : (F9.Tr.bin 7 (.bin 5 (.bin 5 a b) (.bin 7 a b)) F10.oneT).pre.length ≤ 64 := by rw [bin_len, bin_len, bin_len, bin_len, one_len]; omega
  exact ⟨w1, w2, l1, l2, agp_of w1 w2 l1 l2 (nob (by decide)) (nob (by decide)) rfl rfl (fun f => by
    by_cases h1 : F10.nam a f <;> by_cases h2 : F10.nam b f <;> simp [F10.nam, h1, h2, F10.oneT, F10.facOf]) (fun l l' h h' => F10.eq_star h h')⟩
theorem pr_star_comm : Pr (.bin 8 a b) (.bin 8 b a) := by
  have w1 : (F9.Tr.bin 8 a b).wf := ⟨by decide, by decide, wa, wb⟩
  have w2 : (F9.Tr.bin 8 b a).wf := ⟨by decide, by decide, wb, wa⟩
  have l1 : (F9.Tr.bin 8 a b).pre.length ≤ 64 := by rw [bin_len]; omega
  have l2 : (F9.Tr.bin 8 b a).pre.length ≤ 64 := by rw [bin_len]; omega
  exact ⟨w1, w2, l1, l2, agp_of w1 w2 l1 l2 (nob (by decide)) (nob (by decide)) rfl rfl (fun f => by
    by_cases h1 : F10.nam a f <;> by_cases h2 : F10.nam b f <;> simp [F10.nam, h1, h2]) (fun l l' h h' => F10.eq_star_comm h h')⟩
theorem pr_colon_comm : Pr (.bin 7 a b) (.bin 7 b a) := by
  have w1 : (F9.Tr.bin 7 a b).wf := ⟨by decide, by decide, wa, wb⟩
  have w2 : (F9.Tr.bin 7 b a).wf := ⟨by decide, by decide, wb, wa⟩
  have l1 : (F9.Tr.bin 7 a b).pre.length ≤ 64 := by rw [bin_len]; omega
  have l2 : (F9.Tr.bin 7 b a).pre.length ≤ 64 := by rw [bin_len]; omega
  exact ⟨w1, w2, l1, l2, agp_of w1 w2 l1 l2 (nob (by decide)) (nob (by decide)) rfl rfl (fun f => by
    by_cases h1 : F10.nam a f <;> by_cases h2 : F10.nam b f <;> simp [F10.nam, h1, h2]) (fun l l' h h' => F10.eq_colon_comm h h')⟩
include wc lc
theorem pr_star_assoc : Pr (.bin 8 (.bin 8 a b) c) (.bin 8 a (.bin 8 b c)) := by
  have w1 : (F9.Tr.bin 8 (.bin 8 a b) c).wf := ⟨by decide, by decide, ⟨by decide, by decide, wa, wb⟩, wc⟩
  have w2 : (F9.Tr.bin 8 a (.bin 8 b c)).wf := ⟨by decide, by decide, wa, ⟨by decide, by decide, wb, wc⟩⟩
  have l1 : (F9.Tr.bin 8 (.bin 8 a b) c).pre.length ≤ 64 := by rw [bin_len, bin_len]; omega
  have l2 : (F9.Tr.bin 8 a (.bin 8 b c)).pre.length ≤ 64 := by rw [bin_len, bin_len]; omega
  exact ⟨w1, w2, l1, l2, agp_of w1 w2 l1 l2 (nob (by decide)) (nob (by decide)) rfl rfl (fun f => by
    by_cases h1 : F10.nam a f <;> by_cases h2 : F10.nam b f <;> by_cases h3 : F10.nam c f <;> simp [F10.nam, h1, h2, h3]) (fun l l' h h' => F10.eq_star_assoc h h')⟩
theorem pr_colon_assoc : Pr (.bin 7 (.bin 7 a b) c) (.bin 7 a (.bin 7 b c)) := by
  have w1 : (F9.Tr.bin 7 (.bin 7 a b) c).wf := ⟨by decide, by decide, ⟨by decide, by decide, wa, wb⟩, wc⟩
  have w2 : (F9.Tr.bin 7 a (.bin 7 b c)).wf := ⟨by decide, by decide, wa, ⟨by decide, by decide, wb, wc⟩⟩
  have l1 : (F9.Tr.bin 7 (.bin 7 a b) c).pre.length ≤ 64 := by rw [bin_len, bin_len]; omega
  have l2 : (F9.Tr.bin 7 a (.bin 7 b c)).pre.length ≤ 64 := by rw [bin_len, bin_len]; omega
  exact ⟨w1, w2, l1, l2, agp_of w1 w2 l1 l2 (nob (by decide)) (nob (by decide)) rfl rfl (fun f => by
    by_cases h1 : F10.nam a f <;> by_cases h2 : F10.nam b f <;> by_cases h3 : F10.nam c f <;> simp [F10.nam, h1, h2, h3]) (fun l l' h h' => F10.eq_colon_assoc h h')⟩
theorem pr_dist : Pr (.bin 7 (.bin 5 a b) c) (.bin 7 (.bin 5 (.bin 7 a c) (.bin 7 b c)) F10.oneT) := by
  have w1 : (F9.Tr.bin 7 (.bin 5 a b) c).wf := ⟨by decide, by decide, ⟨by decide, by decide, wa, wb⟩, wc⟩
  have w2 : (F9.Tr.bin 7 (.bin 5 (.bin 7 a c) (.bin 7 b c)) F10.oneT).wf := ⟨by decide, by decide, ⟨by decide, by decide, ⟨by decide, by decide, wa, wc⟩, ⟨by decide, by decide, wb, wc⟩⟩, one_wf⟩
  have l1 : (F9.Tr.bin 7 (.bin 5 a b) c).pre.length ≤ 64 := by rw [bin_len, bin_len]; omega
  have l2 : (F9.Tr.bin 7 (.bin 5 (.bin 7 a c) (.bin 7 b c)) F10.oneT).pre.length ≤ 64 := by rw [bin_len, bin_len, bin_len, bin_len, one_len]; omega
  exact ⟨w1, w2, l1, l2, agp_of w1 w2 l1 l2 (nob (by decide)) (nob (by decide)) rfl rfl (fun f => by
    by_cases h1 : F10.nam a f <;> by_cases h2 : F10.nam b f <;> by_cases h3 : F10.nam c f <;> simp [F10.nam, h1, h2, h3, F10.oneT, F10.facOf]) (fun l l' h h' => F10.eq_dist h h')⟩
end
def vT : F9.Tr := .leaf ⟨1, [118], 0⟩
theorem v_wf : vT.wf := .inl ⟨rfl, by decide +kernel, rfl⟩
theorem pr_nest {b : F9.Tr} (wb : b.wf) (lb : b.pre.length ≤ 12) : Pr (.bin 9 vT b) (.bin 7 (.bin 5 vT (.bin 7 vT b)) F10.oneT) := by
  have l0 : vT.pre.length = 1 := rfl
  have w1 : (F9.Tr.bin 9 vT b).wf := ⟨by decide, by decide, v_wf, wb⟩
  have w2 : (F9.Tr.bin 7 (.bin 5 vT (.bin 7 vT b)) F10.oneT).wf := ⟨by decide, by decide, ⟨by decide, by decide, v_wf, ⟨by decide, by decide, v_wf, wb⟩⟩, one_wf⟩
  have l1 : (F9.Tr.bin 9 vT b).pre.length ≤ 64 := by rw [bin_len, l0]; omega
  have l2 : (F9.Tr.bin 7 (.bin 5 vT (.bin 7 vT b)) F10.oneT).pre.length ≤ 64 := by rw [bin_len, bin_len, bin_len, one_len, l0]; omega
  exact ⟨w1, w2, l1, l2, agp_of w1 w2 l1 l2 (nob (by decide)) (nob (by decide)) rfl rfl (fun f => by
    by_cases h1 : F10.nam vT f <;> by_cases h2 : F10.nam b f <;> simp [F10.nam, h1, h2, F10.oneT, F10.facOf]) (fun l l' h h' => F10.eq_nest (v := ⟨1, [118], 0⟩) rfl h h')⟩
theorem bin_pre (op : Nat) (a b : F9.Tr) : (F9.Tr.bin op a b).pre.map toNd = ⟨(op : Int), ⟨#[]⟩, 0⟩ :: (a.pre.map toNd ++ b.pre.map toNd) := by
  show (⟨op, [], 0⟩ :: (a.pre ++ b.pre) : List F9.Nd).map toNd = _
  rw [List.map_cons, List.map_append]; rfl
theorem jn_any (op : Nat) (a b : F9.Tr) (A : Option Addr) (n c : Nat) (B : Option Addr) (m d : Nat) (w : World) (h : LR ndC w A n (a.pre.map toNd)) (hB : LR ndC w B m (b.pre.map toNd)) (hn : n ≤ 64) (hm : m ≤ 64) : Calls Tryd.prog 19 #[.int .i64 (op : Int), .slice A n c, .slice B m d] w fun e w' => ∃ v, e = .returned v ∧ SlN w w' v ((F9.Tr.bin op a b).pre.map toNd) := by
  rw [bin_pre]
  exact join_any (op : Int) _ _ A n c B m d w h hB (by omega) (by omega)
theorem SlN.get {w W : World} {v : Value} {tr : F9.Tr} (h : SlN w W v (tr.pre.map toNd)) (hl : tr.pre.length ≤ 64) : ∃ A n c, v = .slice A n c ∧ n ≤ c ∧ n ≤ 64 ∧ LR ndC W A n (tr.pre.map toNd) ∧ Below w.heap.size w W := by
  obtain ⟨A, c, rfl, h1, h2, h3⟩ := h
  exact ⟨A, _, c, rfl, h1, by rw [List.length_map]; exact hl, h2, h3⟩
end Go.Proofs.YthbkdjbmkhmlnaaDoor
