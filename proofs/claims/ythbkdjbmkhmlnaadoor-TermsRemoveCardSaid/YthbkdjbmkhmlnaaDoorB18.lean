/- Expressions; a step of the right side. -/
import Derived.Test.YthbkdjbmkhmlnaaDoorB17
namespace Go.Proofs.YthbkdjbmkhmlnaaDoor
open Go.RowKit
set_option linter.unusedVariables false

theorem expr_any : ∀ (t : F9.Tr), t.wf → ∀ (w0 w : World) (xb : Nat) (rest : List Nd) (Fs : List F10.Fac) (ex : Bool) (bs : List GBk), XS w0 w xb (t.pre.map toNd ++ rest) (Fs.map toFa) ex bs → (t.pre.map toNd ++ rest).length ≤ 1000 → Fs.length + t.pre.length ≤ 64 → Calls Tryd.prog 84 #[.pointer (some ⟨xb, 0, none⟩)] w fun e w' => ∃ v, e = .returned v ∧ ER w0 w' xb rest ((F10.pe t Fs ex).2.1.map toFa) (F10.pe t Fs ex).2.2 bs v (F10.pe t Fs ex).1
  | .leaf x, hw, w0, w, xb, rest, Fs, ex, bs, h, hn, hl => by
    have hn2 : rest.length ≤ 1000 := by simp [F9.Tr.pre] at hn; omega
    have hfl : (Fs.map toFa).length < 64 := by
      have : Fs.length + 1 ≤ 64 := hl
      rw [List.length_map]; omega
    have hok := pe_ok (.leaf x) (wf_shp hw) Fs ex hl
    have hshp := lf_op hw
    obtain ⟨op, nm, k⟩ := x
    have h' : XS w0 w xb (toNd ⟨op, nm, k⟩ :: rest) (Fs.map toFa) ex bs := h
    unfold F10.pe at hok ⊢
    by_cases h3 : op = 3
    · subst h3
      simp only [if_true] at hok ⊢
      have := expr_one w0 w xb rest _ ex bs _ _ h' hn2
      rw [jdg_id hok.1] at this
      exact this
    · rw [if_neg h3] at hok ⊢
      by_cases h4 : op = 4
      · subst h4
        simp only [if_true] at hok ⊢
        have := expr_zero w0 w xb rest _ ex bs _ _ h' hn2
        rw [jdg_id hok.1] at this
        exact this
      · rw [if_neg h4] at hok ⊢
        by_cases h1 : op = 1
        · subst h1
          have ef : F10.facOf ⟨1, nm, k⟩ = some (nm, 1) := rfl
          have ea : F10.addN Fs ⟨1, nm, k⟩ = F10.addF Fs (nm, 1) := rfl
          rw [ef, ea, Option.getD_some] at hok ⊢
          have hx : (⟨⟨nm.toArray⟩, 1⟩ : Fa) = toFa (nm, 1) := rfl
          have := expr_var w0 w xb rest _ ex bs _ _ h' hn2 hfl
          rw [hx, adF_map, toFa_idx, jdg_id hok.1] at this
          exact this
        · have h2 : op = 2 := by have := hshp.1; have := hshp.2; simp only at *; omega
          subst h2
          have ef : F10.facOf ⟨2, nm, k⟩ = some (nm, k) := rfl
          have ea : F10.addN Fs ⟨2, nm, k⟩ = F10.addF Fs (nm, k) := rfl
          rw [ef, ea, Option.getD_some] at hok ⊢
          have hx : (⟨⟨nm.toArray⟩, (k : Int)⟩ : Fa) = toFa (nm, k) := rfl
          have := expr_pow w0 w xb rest _ ex bs _ _ h' hn2 hfl
          rw [hx, adF_map, toFa_idx, jdg_id hok.1] at this
          exact this
  | .hat k a, hw, w0, w, xb, rest, Fs, ex, bs, h, hn, hl => by
    obtain ⟨kk, rfl⟩ : ∃ kk, k = kk + 1 := ⟨k - 1, by have := hw.1; omega⟩
    have hl2 : Fs.length + a.pre.length ≤ 64 := by
      have : Fs.length + (a.pre.length + 1) ≤ 64 := hl
      omega
    have hn3 : (a.pre.map toNd ++ rest).length ≤ 1000 := by
      simp [F9.Tr.pre] at hn ⊢; omega
    have h' : XS w0 w xb (⟨10, ⟨#[]⟩, (kk : Int) + 1⟩ :: (a.pre.map toNd ++ rest)) (Fs.map toFa) ex bs := h
    have := expr_hat w0 w xb _ _ ex bs ⟨#[]⟩ kk rest _ _ _ h' hn3 (by have := hw.2.1; omega) (fun W bs' hX => expr_any a hw.2.2 w0 W xb rest Fs ex bs' hX hn3 hl2) (pe_ok a (wf_shp hw.2.2) Fs ex hl2)
    exact this
  | .bin op a b, hw, w0, w, xb, rest, Fs, ex, bs, h, hn, hl => by
    have hl1 : Fs.length + ((a.pre ++ b.pre).length + 1) ≤ 64 := hl
    rw [List.length_append] at hl1
    have hle := pe_len a Fs ex
    have hpre : (F9.Tr.bin op a b).pre.map toNd ++ rest = ⟨(op : Int), ⟨#[]⟩, 0⟩ :: (a.pre.map toNd ++ (b.pre.map toNd ++ rest)) := by
      show (toNd ⟨op, [], 0⟩ :: (a.pre ++ b.pre).map toNd) ++ rest = _
      rw [List.map_append, List.cons_append, List.append_assoc]; rfl
    rw [hpre] at h hn
    have hn3 : (a.pre.map toNd ++ (b.pre.map toNd ++ rest)).length ≤ 1000 := by simp at hn ⊢; omega
    have hn4 : (b.pre.map toNd ++ rest).length ≤ 1000 := by simp at hn ⊢; omega
    have := expr_bin w0 w xb _ _ ex bs op ⟨#[]⟩ 0 (b.pre.map toNd ++ rest) _ _ _ rest _ _ _ h hn3 ⟨hw.1, hw.2.1⟩ (fun W bs' hX => expr_any a hw.2.2.1 w0 W xb (b.pre.map toNd ++ rest) Fs ex bs' hX hn3 (by omega)) (pe_ok a (wf_shp hw.2.2.1) Fs ex (by omega)) (fun W bs' hX => expr_any b hw.2.2.2 w0 W xb rest (F10.pe a Fs ex).2.1 (F10.pe a Fs ex).2.2 bs' hX hn4 (by omega)) (pe_ok b (wf_shp hw.2.2.2) (F10.pe a Fs ex).2.1 (F10.pe a Fs ex).2.2 (by omega))
    exact this
end Go.Proofs.YthbkdjbmkhmlnaaDoor
