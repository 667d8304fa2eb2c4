/- The reference's Same on what is the same; awake of the law. -/
import Derived.Test.YtjebpmjbdchdlaaDoorM14
import Derived.Test.YtjebpmjbdchdlaaDoorM20
namespace Go.Proofs.YtjebpmjbdchdlaaDoor
open Go.RowKit
set_option linter.unusedVariables false

/-- What is written is the nodes'. -/
theorem fmt_text {s r : ByteArray} {L : List Nd} {er : Int} {x : F9.Bs} {k : Nat} (h : FmtV s L r er) (hf : frmB s L = true) (hx : (L.map ofNd).foldr F9.ph1 [] = [(x, k)]) : r = s ++ ⟨#[32, 126, 32]⟩ ++ bsA x ∧ er = 0 := by
  rcases h with ⟨h1, _⟩ | ⟨_, tr, hw, hL, hr, he⟩
  · rw [hf] at h1; cases h1
  · have e1 : L.map ofNd = tr.pre := by
      rw [hL, List.map_map]
      conv => rhs; rw [← List.map_id tr.pre]
      exact List.map_congr_left fun y _ => of_to y
    rw [e1, F9.ph_pre tr hw] at hx
    simp only [List.nil_append, List.cons.injEq, Prod.mk.injEq, and_true] at hx
    exact ⟨by rw [hr, hx.1], he⟩

/-- The chapter's example. -/
def exT : ByteArray := ⟨#[121, 32, 126, 32, 97, 42, 98, 32, 45, 32, 97, 58, 98]⟩
def exL : List Nd := [⟨6, ⟨#[]⟩, 0⟩, ⟨8, ⟨#[]⟩, 0⟩, ⟨1, ⟨#[97]⟩, 0⟩, ⟨1, ⟨#[98]⟩, 0⟩, ⟨7, ⟨#[]⟩, 0⟩, ⟨1, ⟨#[97]⟩, 0⟩, ⟨1, ⟨#[98]⟩, 0⟩]
def exU : ByteArray := ⟨#[121, 32, 126, 32, 97, 32, 43, 32]⟩
theorem ex_par : parV exT.data.toList = (0, 0, ⟨#[121]⟩, exL) := by kernel_rfl
theorem ex_par2 : parV exU.data.toList = (3, 8, ⟨#[]⟩, []) := by kernel_rfl
theorem ex_frm : frmB ⟨#[121]⟩ exL = true := by kernel_rfl
theorem ex_ph : (exL.map ofNd).foldr F9.ph1 [] = [([97, 32, 42, 32, 98, 32, 45, 32, 97, 58, 98], 1)] := by kernel_rfl
end Go.Proofs.YtjebpmjbdchdlaaDoor
namespace Go.Proofs.YtjebpmjbdchdlaaDoor
open Go.RowKit
set_option linter.unusedVariables false

theorem ex_parse (w : World) (hO : Og w) : Calls Tryd.prog 5 #[.string ⟨#[121, 32, 126, 32, 97, 42, 98, 32, 45, 32, 97, 58, 98]⟩] w fun e w' => (∃ A c, e = .returned (.tuple #[.agg #[.string ⟨#[121]⟩, .slice A 7 c], .int .i64 0, .int .i64 0]) ∧ LR ndC w' A 7 exL ∧ 7 ≤ c) ∧ Below w.heap.size w w' := by
  refine (parse_any exT w (by decide) hO).mono ?_
  rintro e w' ⟨s, l, q, er, rfl, h1, h2, h3, h4⟩
  rw [ex_par] at h1
  simp only [Prod.mk.injEq] at h1
  obtain ⟨a1, a2, a3, a4⟩ := h1
  have e1 : l.L.length = 7 := by rw [← a4]; rfl
  rw [e1] at h2 h3
  rw [← a4] at h3
  refine ⟨⟨l.A, l.c, ?_, h3, h2⟩, h4⟩
  rw [← a1, ← a2, ← a3]
  show Ending.returned (.tuple #[.agg #[.string ⟨#[121]⟩, .slice l.A l.L.length l.c], _, _]) = _
  rw [e1]
  rfl
theorem ex_parse2 (w : World) (hO : Og w) : Calls Tryd.prog 5 #[.string ⟨#[121, 32, 126, 32, 97, 32, 43, 32]⟩] w fun e w' => (∃ s A n c, e = .returned (.tuple #[.agg #[.string s, .slice A n c], .int .i64 8, .int .i64 3])) ∧ Below w.heap.size w w' := by
  refine (parse_any exU w (by decide) hO).mono ?_
  rintro e w' ⟨s, l, q, er, rfl, h1, h2, h3, h4⟩
  rw [ex_par2] at h1
  simp only [Prod.mk.injEq] at h1
  obtain ⟨a1, a2, a3, a4⟩ := h1
  rw [← a1, ← a2]
  exact ⟨⟨s, l.A, l.L.length, l.c, rfl⟩, h4⟩
theorem ex_format (A : Option Addr) (c : Nat) (w : World) (h : LR ndC w A 7 exL) (hc : 7 ≤ c) (hO : Og w) : Calls Tryd.prog 8 #[.agg #[.string ⟨#[121]⟩, .slice A 7 c]] w fun e w' => e = .returned (.tuple #[.string ⟨#[121, 32, 126, 32, 97, 32, 42, 32, 98, 32, 45, 32, 97, 58, 98]⟩, .int .i64 0]) ∧ Below w.heap.size w w' := by
  refine (format_any ⟨#[121]⟩ exL A c w h hc (by decide) (by decide) (by decide) hO).mono ?_
  rintro e w' ⟨⟨r, er, rfl, hF⟩, hB⟩
  obtain ⟨h1, h2⟩ := fmt_text hF ex_frm ex_ph
  subst h2
  rw [h1]
  exact ⟨rfl, hB⟩

set_option maxRecDepth 100000 in
set_option maxHeartbeats 4000000 in
theorem awake_any (w : World) (hO : Og w) : Calls Tryd.prog 4 #[] w fun e w' => e = .returned (.bool true) ∧ Below w.heap.size w w' := by
  have hb := Lib.hid hO
  have hz0 := hO.1
  have S0 := Lib.hid (St.new w)
  clear hO
  go_enter Tryd.func4, Tryd.ntmps4
  go_wp2_with fail
  refine (ex_parse w hb.out).mono ?_
  rintro e w1 ⟨⟨A, c, rfl, hL, hc⟩, hB⟩
  have S1 := S0.out.call hB
  have S2 := Lib.hid (S1.alloc #[.string ⟨#[121]⟩, .slice A 7 c] 25 (noLof rfl))
  have hL2 := Lib.hid (hL.bel ((Below.refl _ _).alloc (Nat.le_refl _) (.cells #[.string ⟨#[121]⟩, .slice A 7 c] 25)))
  replace hc := Lib.hid hc
  clear hL hB S0 S1
  go_wp2_with fail
  refine (ex_format A c _ hL2.out hc.out (hb.out.bel S2.out.bel)).mono ?_
  rintro e w2 ⟨rfl, hB⟩
  have S3 := Lib.hid (S2.out.call hB)
  clear hL2 S2 hB hc
  go_wp2_with fail
  refine (ex_parse2 _ (hb.out.bel S3.out.bel)).mono ?_
  rintro e w3 ⟨⟨s, A2, n2, c2, rfl⟩, hB⟩
  have S4 := Lib.hid ((S3.out.call hB).alloc #[.string s, .slice A2 n2 c2] 25 (noLof rfl))
  clear S3 hB
  go_wp2
  go_ret
  exact ⟨rfl, S4.out.bel⟩
end Go.Proofs.YtjebpmjbdchdlaaDoor
namespace Go.Proofs.YtjebpmjbdchdlaaDoor
open Go.RowKit
set_option linter.unusedVariables false

theorem par_len (l : F9.Bs) : (parV l).2.2.2.length ≤ 64 := by
  unfold parV
  split
  · exact Nat.zero_le _
  · split
    · exact Nat.zero_le _
    · split
      · exact Nat.zero_le _
      · rename_i h
        show (List.map toNd _).length ≤ 64
        rw [List.length_map]
        omega
end Go.Proofs.YtjebpmjbdchdlaaDoor
