/- Merging two sorted blocks in place. -/
import Derived.Test.YthbkdjbmkhmlnaaDoorM26
import Derived.Test.YthbkdjbmkhmlnaaDoorM21
namespace Go.Proofs.YthbkdjbmkhmlnaaDoor
open Go.RowKit
set_option linter.unusedVariables false

/-- What a merge of at most N terms does. -/
def MergeAt (w0 : World) (g cp n : Nat) (bs : List GBk) (N : Nat) : Prop := ∀ (P X Y S : List Nat) (w : World) (a m b : Nat), X.length + Y.length ≤ N → Bl w0 w g cp (P ++ (X ++ (Y ++ S))) bs → (P ++ (X ++ (Y ++ S))).length = n → P.length = a → a + X.length = m → m + Y.length = b → 1 ≤ X.length → 1 ≤ Y.length → SS.Srt F10.siz X → SS.Srt F10.siz Y → U64 (X ++ Y) →
    Calls Tryd.prog 108 #[.slice (some ⟨g, 0, none⟩) n cp, .int .i64 a, .int .i64 m, .int .i64 b, cmpV] w fun e w' => e = .returned (.tuple #[]) ∧ ∃ Z, Bl w0 w' g cp (P ++ (Z ++ S)) bs ∧ SS.Srt F10.siz Z ∧ SS.Fil F10.siz Z (X ++ Y)
/-- Where the search runs. -/
def LH (a b m mid nn lo hi : Nat) : Prop := a ≤ lo ∧ lo ≤ hi ∧ hi ≤ mid ∧ hi ≤ m ∧ nn ≤ b + lo ∧ (lo = a ∨ lo + b = nn) ∧ (hi = mid ∨ hi = m)
theorem cut_facts {X Y : List Nat} (hX : SS.Srt F10.siz X) (hY : SS.Srt F10.siz Y) {u v : Nat} (h1 : u = 0 ∨ v = Y.length ∨ ∃ x y, X[u - 1]? = some x ∧ Y[v]? = some y ∧ F10.siz x ≤ F10.siz y) (h2 : u = X.length ∨ v = 0 ∨ ∃ x y, X[u]? = some x ∧ Y[v - 1]? = some y ∧ F10.siz y < F10.siz x) : (∀ x ∈ X.take u, ∀ y ∈ Y.drop v, F10.siz x ≤ F10.siz y) ∧ (∀ y ∈ Y.take v, ∀ x ∈ X.drop u, F10.siz y < F10.siz x) := by
  constructor
  · rcases h1 with rfl | rfl | ⟨x, y, hx, hy, hxy⟩
    · intro x hx; cases hx
    · intro x _ y hy; rw [List.drop_length] at hy; cases hy
    · intro x' hx' y' hy'
      have h3 := srt_take hX (r := u) (Q := fun z => F10.siz z ≤ F10.siz x) (fun a b hab hb => Nat.le_trans hab hb) (.inr ⟨x, hx, Nat.le_refl _⟩) x' hx'
      have h4 := srt_drop hY (r := v) (Q := fun z => F10.siz y ≤ F10.siz z) (fun a b hab hb => Nat.le_trans hb hab) (.inr ⟨y, hy, Nat.le_refl _⟩) y' hy'
      exact Nat.le_trans h3 (Nat.le_trans hxy h4)
  · rcases h2 with rfl | rfl | ⟨x, y, hx, hy, hxy⟩
    · intro y _ x hx; rw [List.drop_length] at hx; cases hx
    · intro y hy; cases hy
    · intro y' hy' x' hx'
      have h3 := srt_take hY (r := v) (Q := fun z => F10.siz z ≤ F10.siz y) (fun a b hab hb => Nat.le_trans hab hb) (.inr ⟨y, hy, Nat.le_refl _⟩) y' hy'
      have h4 := srt_drop hX (r := u) (Q := fun z => F10.siz x ≤ F10.siz z) (fun a b hab hb => Nat.le_trans hb hab) (.inr ⟨x, hx, Nat.le_refl _⟩) x' hx'
      exact Nat.lt_of_le_of_lt h3 (Nat.lt_of_lt_of_le hxy h4)
theorem srt_tk {X : List Nat} (h : SS.Srt F10.siz X) (u : Nat) : SS.Srt F10.siz (X.take u) := List.Pairwise.sublist (List.take_sublist u X) h
theorem srt_dp {X : List Nat} (h : SS.Srt F10.siz X) (u : Nat) : SS.Srt F10.siz (X.drop u) := List.Pairwise.sublist (List.drop_sublist u X) h

set_option maxRecDepth 100000 in
set_option maxHeartbeats 4000000 in
theorem merge_step (w0 : World) (g cp n : Nat) (bs : List GBk) (hn5 : n ≤ 1000) (N : Nat) (hIH : MergeAt w0 g cp n bs N) (P X Y S : List Nat) (w : World) (a m b : Nat) (hN : X.length + Y.length = N + 1) (h : Bl w0 w g cp (P ++ (X ++ (Y ++ S))) bs) (hn : (P ++ (X ++ (Y ++ S))).length = n) (ha : P.length = a) (hm : a + X.length = m) (hb : m + Y.length = b) (hX : 2 ≤ X.length) (hY : 2 ≤ Y.length) (hXs : SS.Srt F10.siz X) (hYs : SS.Srt F10.siz Y) (hu : U64 (X ++ Y)) :
    Calls Tryd.prog 108 #[.slice (some ⟨g, 0, none⟩) n cp, .int .i64 a, .int .i64 m, .int .i64 b, cmpV] w fun e w' => e = .returned (.tuple #[]) ∧ ∃ Z, Bl w0 w' g cp (P ++ (Z ++ S)) bs ∧ SS.Srt F10.siz Z ∧ SS.Fil F10.siz Z (X ++ Y) := by
  have hbn : b ≤ n := by rw [← hn]; simp; omega
  have b0 : a ≤ 1000 := by omega
  have b1 : b ≤ 1000 := by omega
  have b2 : m ≤ 1000 := by omega
  obtain ⟨x0, hx0⟩ : ∃ k, k = X.length := ⟨_, rfl⟩
  obtain ⟨y0, hy0⟩ : ∃ k, k = Y.length := ⟨_, rfl⟩
  obtain ⟨t0, ht0⟩ : ∃ k, k = a + b := ⟨_, rfl⟩
  obtain ⟨mid, hmid⟩ : ∃ k, k = t0 / 2 := ⟨_, rfl⟩
  obtain ⟨nn, hnn⟩ : ∃ k, k = mid + m := ⟨_, rfl⟩
  have e0 : (m : Int) - (a : Int) = (x0 : Int) := by omega
  have e1 : (b : Int) - (m : Int) = (y0 : Int) := by omega
  have e2 : (a : Int) + (b : Int) = (t0 : Int) := by omega
  have e3 : (t0 : Int) / 2 = (mid : Int) := by omega
  have e4 : (mid : Int) + (m : Int) = (nn : Int) := by omega
  have v0 : IntKind.i64.wrap (x0 : Int) = (x0 : Int) := by rw [IntKind.wrap_i64]; omega
  have v1 : IntKind.i64.wrap (y0 : Int) = (y0 : Int) := by rw [IntKind.wrap_i64]; omega
  have v2 : IntKind.i64.wrap (t0 : Int) = (t0 : Int) := by rw [IntKind.wrap_i64]; omega
  have v3 : IntKind.i64.wrap (mid : Int) = (mid : Int) := by rw [IntKind.wrap_i64]; omega
  have v4 : IntKind.i64.wrap (nn : Int) = (nn : Int) := by rw [IntKind.wrap_i64]; omega
  have b5 : t0 ≤ 2000 := by omega
  have v5 := half_u b5
  have g0 : ((x0 : Int) == 1) = false := by rw [beq_eq_false_iff_ne]; omega
  have g1 : ((y0 : Int) == 1) = false := by rw [beq_eq_false_iff_ne]; omega
  have b3 : x0 ≤ 1000 := by omega
  have b4 : y0 ≤ 1000 := by omega
  have b6 : mid ≤ 1000 := by omega
  have b7 : nn ≤ 2000 := by omega
  have h0 := Lib.hid h
  have hXu : Hid (∀ x ∈ X, x < 18446744073709551616) := Lib.hid fun x hx => hu x (by simp [hx])
  have hYu : Hid (∀ x ∈ Y, x < 18446744073709551616) := Lib.hid fun x hx => hu x (by simp [hx])
  have hG := Lib.hid (show a + X.length = m ∧ m + Y.length = b ∧ b ≤ n ∧ n ≤ 1000 ∧ mid = (a + b) / 2 ∧ nn = mid + m ∧ 2 ≤ X.length ∧ 2 ≤ Y.length ∧ X.length + Y.length = N + 1 by omega)
  replace hIH := Lib.hid hIH
  replace hx0 := Lib.hid hx0
  replace hy0 := Lib.hid hy0
  replace ht0 := Lib.hid ht0
  replace hmid := Lib.hid hmid
  replace hnn := Lib.hid hnn
  replace ha := Lib.hid ha
  replace hn := Lib.hid hn
  replace hXs := Lib.hid hXs
  replace hYs := Lib.hid hYs
  replace hu := Lib.hid hu
  clear h hm hb hX hY hn5 hN hbn
  obtain ⟨bq, e9⟩ : ∃ q, decide (mid < m) = q := ⟨_, rfl⟩
  go_enter Tryd.func108, Tryd.ntmps108
  go_upto_if 140 with fail
  clear e0 e1 e2 e3 e4 v0 v1 v2 v3 v5 g0 g1
  go_cut [20, 21] from 141 (fun v20 v21 wc => ∃ lo hi : Nat, v20 = .int .i64 (lo : Int) ∧ v21 = .int .i64 (hi : Int) ∧ Hid (LH a b m mid nn lo hi) ∧ wc = w)
  case first =>
    have hGo := hG.out
    cases bq with
    | true =>
      have hmm := of_decide_eq_true e9
      obtain ⟨lo, hlo⟩ : ∃ k, k = nn - b := ⟨_, rfl⟩
      have f2 : (nn : Int) - (b : Int) = (lo : Int) := by omega
      have f3 : IntKind.i64.wrap (lo : Int) = (lo : Int) := by rw [IntKind.wrap_i64]; omega
      have hL := Lib.hid (show LH a b m mid nn lo mid by unfold LH; omega)
      replace hlo := Lib.hid hlo
      clear hmm hGo e9
      go_wp2
      go_meet
      exact ⟨lo, mid, rfl, rfl, hL, rfl⟩
    | false =>
      have hmm := of_decide_eq_false e9
      have hL := Lib.hid (show LH a b m mid nn a m by unfold LH; omega)
      clear hmm hGo e9
      go_wp2
      go_meet
      exact ⟨a, m, rfl, rfl, hL, rfl⟩
  case rest =>
    obtain ⟨lo, hi, rfl, rfl, hL, rfl⟩ := hcut
    clear e9
    obtain ⟨p, hp⟩ : ∃ k, k = nn - 1 := ⟨_, rfl⟩
    have e1 : (nn : Int) - 1 = (p : Int) := by have := hG.out; omega
    have b8 : p ≤ 2000 := by omega
    have b9 : lo ≤ 1000 := by have := hL.out; unfold LH at this; omega
    have b10 : hi ≤ 1000 := by have := hL.out; unfold LH at this; omega
    have v5 : IntKind.i64.wrap (p : Int) = (p : Int) := by rw [IntKind.wrap_i64]; omega
    replace hp := Lib.hid hp
    go_wp2
    clear e1
    go_loopw [20, 21] (fun iv jv wr => ∃ s r : Nat, Hid (lo ≤ s ∧ s ≤ r ∧ r ≤ hi) ∧ iv = .int .i64 (s : Int) ∧ jv = .int .i64 (r : Int) ∧ Bl w0 wr g cp (P ++ (X ++ (Y ++ S))) bs ∧ (s = lo ∨ ∃ x y, X[s - 1 - a]? = some x ∧ Y[p - (s - 1) - m]? = some y ∧ F10.siz x ≤ F10.siz y) ∧ (r = hi ∨ ∃ x y, X[r - a]? = some x ∧ Y[p - r - m]? = some y ∧ F10.siz y < F10.siz x)) (fun iv jv _ => (intOf jv - intOf iv).toNat)
    case atStart => exact ⟨lo, hi, Lib.hid (by have := hL.out; unfold LH at this; omega), rfl, rfl, h0.out, .inl rfl, .inl rfl⟩
    case round =>
      clear h0
      obtain ⟨s, r, hsr, rfl, rfl, B, h1, h2⟩ := hrel
      have hsro := hsr.out
      have hGo := hG.out
      have hLo := hL.out
      unfold LH at hLo
      have hpo := hp.out
      have q0 : s ≤ 1000 := by omega
      have q1 : r ≤ 1000 := by omega
      by_cases hlt : s < r
      · have g1 : (s : Int) < (r : Int) := by omega
        obtain ⟨t, ht⟩ : ∃ t, t = s + r := ⟨_, rfl⟩
        obtain ⟨c, hc⟩ : ∃ h, h = t / 2 := ⟨_, rfl⟩
        obtain ⟨d, hd⟩ : ∃ h, h = p - c := ⟨_, rfl⟩
        have e1 : (s : Int) + (r : Int) = (t : Int) := by omega
        have e2 : (t : Int) / 2 = (c : Int) := by omega
        have e3 : (p : Int) - (c : Int) = (d : Int) := by omega
        have q2 : t ≤ 2000 := by omega
        have q3 : c ≤ 1000 := by omega
        have q4 : d ≤ 1000 := by omega
        have w1 : IntKind.i64.wrap (t : Int) = (t : Int) := by rw [IntKind.wrap_i64]; omega
        have w2 := half_u q2
        have w3 : IntKind.i64.wrap (c : Int) = (c : Int) := by rw [IntKind.wrap_i64]; omega
        have w4 : IntKind.i64.wrap (d : Int) = (d : Int) := by rw [IntKind.wrap_i64]; omega
        have hph := Lib.hid (show s ≤ c ∧ c < r by omega)
        obtain ⟨x, hx⟩ : ∃ x, X[c - a]? = some x := ⟨_, List.getElem?_eq_getElem (by omega)⟩
        obtain ⟨y, hy⟩ : ∃ x, Y[d - m]? = some x := ⟨_, List.getElem?_eq_getElem (by omega)⟩
        have hxg : (P ++ (X ++ (Y ++ S)))[c]? = some x := by
          rw [List.getElem?_append_right (by rw [ha.out]; omega), ha.out, List.getElem?_append_left (List.getElem?_eq_some_iff.1 hx).1]
          exact hx
        have hyg : (P ++ (X ++ (Y ++ S)))[d]? = some y := by
          rw [List.getElem?_append_right (by rw [ha.out]; omega), ha.out, List.getElem?_append_right (by omega), show d - a - X.length = d - m by omega, List.getElem?_append_left (List.getElem?_eq_some_iff.1 hy).1]
          exact hy
        obtain ⟨cx, _⟩ := B.cl hxg
        obtain ⟨cy, _⟩ := B.cl hyg
        have hcmp := Lib.hid (fun W => cmpT_any y x W (hYu.out y (List.mem_of_getElem? hy)) (hXu.out x (List.mem_of_getElem? hx)))
        have hn1 : (c : Int) < (n : Int) := by omega
        have hn2 : (d : Int) < (n : Int) := by omega
        rw [hd] at hy
        replace ht := Lib.hid ht
        replace hc := Lib.hid hc
        replace hd := Lib.hid hd
        replace hx := Lib.hid hx
        replace hy := Lib.hid hy
        replace h1 := Lib.hid h1
        replace h2 := Lib.hid h2
        replace B := Lib.hid B
        clear hsro hGo hLo hpo hlt hxg hyg
        by_cases hv : F10.siz y < F10.siz x
        · have hdd : (F10.siz y : Int) - (F10.siz x : Int) < 0 := by omega
          replace hv := Lib.hid hv
          go_upto_region 35 with fail
          have hbase := Lib.hid (St.new wr)
          refine RW.begin (Z := []) (S := (fun W => Below wr.heap.size wr W)) (by kernel_rfl) ?_ hbase.out ?_
          · exact ⟨by kernel_rfl, zis_nil, by decide, by decide, nol_nil, (fun _ _ h => h.bel)⟩
          intro hzk
          refine RW.t (i := 0) (v := cmpV) (some 158) at0 (hy := fun _ _ => by kernel_rfl) (h := ?_)
          refine RW.t (i := 1) (v := .slice (some ⟨g, 0, none⟩) n cp) (some 159) at1 (hy := fun _ _ => by kernel_rfl) (h := ?_)
          refine RW.t (i := 2) (v := .int .i64 (p : Int)) (some 160) at2 (hy := fun _ _ => by kernel_rfl) (h := ?_)
          refine RW.t (i := 3) (v := .int .i64 (c : Int)) (some 161) at3 (hy := fun _ _ => by kernel_rfl) (h := ?_)
          refine RW.t (i := 4) (v := .int .i64 (d : Int)) (some 162) at4 (hy := fun _ _ => by go_simp) (h := ?_)
          refine RW.t (i := 5) (v := .pointer (some ⟨g, d, none⟩)) (some 163) at5 (hy := fun _ _ => by go_simp) (h := ?_)
          refine RW.t (i := 6) (v := .int .u64 (y : Int)) (some 164) at6 (hy := fun W hS => by (have k0 := bel_cell hS cy; clear hS; go_simp)) (h := ?_)
          refine RW.t (i := 7) (v := .slice (some ⟨g, 0, none⟩) n cp) (some 165) at7 (hy := fun _ _ => by kernel_rfl) (h := ?_)
          refine RW.t (i := 8) (v := .int .i64 (c : Int)) (some 166) at8 (hy := fun _ _ => by kernel_rfl) (h := ?_)
          refine RW.t (i := 9) (v := .pointer (some ⟨g, c, none⟩)) (some 167) at9 (hy := fun _ _ => by go_simp) (h := ?_)
          refine RW.t (i := 10) (v := .int .u64 (x : Int)) (some 168) at10 (hy := fun W hS => by (have k0 := bel_cell hS cx; clear hS; go_simp)) (h := ?_)
          refine RW.c (i := 11) (args := #[.int .u64 (y : Int), .int .u64 (x : Int)]) (some 169) hzk.out at11 (hx := fun _ => by kernel_rfl) (h := fun W T9 => (hcmp.out W).mono ?_)
          rintro e9 w9 ⟨rfl, rfl⟩
          refine ⟨Below.refl _ _, _, [], rfl, (fun r hr => by cases hr), ?_⟩
          refine RW.t (i := 12) (v := .bool true) (some 170) at12 (hy := fun _ _ => by go_simp) (h := ?_)
          refine RW.t (i := 13) (v := .bool false) (some 171) at13 (hy := fun _ _ => by go_simp) (h := ?_)
          refine RW.tail hzk.out (by kernel_rfl) ?_
          intro gs' w5 hgs' hS Sb
          obtain rfl := len0 hgs'
          simp only [mark, fill, Act.put, List.setIfInBounds_toArray, List.set_cons_zero, List.set_cons_succ]
          refine Wk.done (by kernel_rfl) ?_
          have T := Lib.hid (B.out.call hS)
          clear Sb hgs' hzk hbase hS B cx cy hcmp hdd
          try go_simp
          have k1 := hph.out
          have k2 := hsr.out
          go_wp2
          go_roundw
          case rel => exact ⟨s, c, Lib.hid (by omega), rfl, rfl, T.out, h1.out, .inr ⟨x, y, hx.out, hy.out, hv.out⟩⟩
          case measure => simp [intOf]; omega
        · have hdd : ¬ ((F10.siz y : Int) - (F10.siz x : Int) < 0) := by omega
          replace hv := Lib.hid (show F10.siz x ≤ F10.siz y by omega)
          go_upto_region 35 with fail
          have hbase := Lib.hid (St.new wr)
          refine RW.begin (Z := []) (S := (fun W => Below wr.heap.size wr W)) (by kernel_rfl) ?_ hbase.out ?_
          · exact ⟨by kernel_rfl, zis_nil, by decide, by decide, nol_nil, (fun _ _ h => h.bel)⟩
          intro hzk
          refine RW.t (i := 0) (v := cmpV) (some 158) at0 (hy := fun _ _ => by kernel_rfl) (h := ?_)
          refine RW.t (i := 1) (v := .slice (some ⟨g, 0, none⟩) n cp) (some 159) at1 (hy := fun _ _ => by kernel_rfl) (h := ?_)
          refine RW.t (i := 2) (v := .int .i64 (p : Int)) (some 160) at2 (hy := fun _ _ => by kernel_rfl) (h := ?_)
          refine RW.t (i := 3) (v := .int .i64 (c : Int)) (some 161) at3 (hy := fun _ _ => by kernel_rfl) (h := ?_)
          refine RW.t (i := 4) (v := .int .i64 (d : Int)) (some 162) at4 (hy := fun _ _ => by go_simp) (h := ?_)
          refine RW.t (i := 5) (v := .pointer (some ⟨g, d, none⟩)) (some 163) at5 (hy := fun _ _ => by go_simp) (h := ?_)
          refine RW.t (i := 6) (v := .int .u64 (y : Int)) (some 164) at6 (hy := fun W hS => by (have k0 := bel_cell hS cy; clear hS; go_simp)) (h := ?_)
          refine RW.t (i := 7) (v := .slice (some ⟨g, 0, none⟩) n cp) (some 165) at7 (hy := fun _ _ => by kernel_rfl) (h := ?_)
          refine RW.t (i := 8) (v := .int .i64 (c : Int)) (some 166) at8 (hy := fun _ _ => by kernel_rfl) (h := ?_)
          refine RW.t (i := 9) (v := .pointer (some ⟨g, c, none⟩)) (some 167) at9 (hy := fun _ _ => by go_simp) (h := ?_)
          refine RW.t (i := 10) (v := .int .u64 (x : Int)) (some 168) at10 (hy := fun W hS => by (have k0 := bel_cell hS cx; clear hS; go_simp)) (h := ?_)
          refine RW.c (i := 11) (args := #[.int .u64 (y : Int), .int .u64 (x : Int)]) (some 169) hzk.out at11 (hx := fun _ => by kernel_rfl) (h := fun W T9 => (hcmp.out W).mono ?_)
          rintro e9 w9 ⟨rfl, rfl⟩
          refine ⟨Below.refl _ _, _, [], rfl, (fun r hr => by cases hr), ?_⟩
          refine RW.t (i := 12) (v := .bool false) (some 170) at12 (hy := fun _ _ => by go_simp) (h := ?_)
          refine RW.t (i := 13) (v := .bool true) (some 171) at13 (hy := fun _ _ => by go_simp) (h := ?_)
          refine RW.tail hzk.out (by kernel_rfl) ?_
          intro gs' w5 hgs' hS Sb
          obtain rfl := len0 hgs'
          simp only [mark, fill, Act.put, List.setIfInBounds_toArray, List.set_cons_zero, List.set_cons_succ]
          refine Wk.done (by kernel_rfl) ?_
          have T := Lib.hid (B.out.call hS)
          clear Sb hgs' hzk hbase hS B cx cy hcmp hdd
          try go_simp
          have k1 := hph.out
          have k2 := hsr.out
          go_wp2
          go_roundw
          case rel => exact ⟨c + 1, r, Lib.hid (by omega), by go_num, rfl, T.out, .inr ⟨x, y, by rw [show c + 1 - 1 = c by omega]; exact hx.out, by rw [show c + 1 - 1 = c by omega]; exact hy.out, hv.out⟩, h2.out⟩
          case measure => simp [intOf]; omega
      · obtain rfl : s = r := by omega
        obtain ⟨e, he⟩ : ∃ k, k = nn - s := ⟨_, rfl⟩
        obtain ⟨u, hu2⟩ : ∃ k, k = s - a := ⟨_, rfl⟩
        obtain ⟨v, hv2⟩ : ∃ k, k = e - m := ⟨_, rfl⟩
        have hv3 : p - s - m = v - 1 := by clear h1 h2 v4 v5; omega
        have hv4 : s = a ∨ (u - 1 = s - 1 - a ∧ p - (s - 1) - m = v) := by clear h1 h2 v4 v5; omega
        have hv5 : lo = a → s = lo → u = 0 := by clear h1 h2 v4 v5; omega
        have hv6 : lo + b = nn → s = lo → v = Y.length := by clear h1 h2 v4 v5; omega
        have hv7 : s = a → u = 0 := by clear h1 h2 v4 v5; omega
        have hv8 : hi = mid → s = hi → v = 0 := by clear h1 h2 v4 v5; omega
        have hv9 : hi = m → s = hi → u = X.length := by clear h1 h2 v4 v5; omega
        have hcf := Lib.hid (cut_facts hXs.out hYs.out (u := u) (v := v) (by
          rcases h1 with h1 | ⟨x, y, hx, hy, hxy⟩
          · rcases hLo.2.2.2.2.2.1 with h3 | h3
            · exact .inl (hv5 h3 h1)
            · exact .inr (.inl (hv6 h3 h1))
          · rcases hv4 with h3 | ⟨h3, h4⟩
            · exact .inl (hv7 h3)
            · exact .inr (.inr ⟨x, y, by rw [h3]; exact hx, by rw [← h4]; exact hy, hxy⟩)) (by
          rcases h2 with h2 | ⟨x, y, hx, hy, hxy⟩
          · rcases hLo.2.2.2.2.2.2 with h3 | h3
            · exact .inr (.inl (hv8 h3 h2))
            · exact .inl (hv9 h3 h2)
          · exact .inr (.inr ⟨x, y, by rw [hu2]; exact hx, by rw [← hv3]; exact hy, hxy⟩)))
        clear hv3 hv4 hv5 hv6 hv7 hv8 hv9 h1 h2
        have hG2 := Lib.hid (show a ≤ s ∧ s ≤ m ∧ m ≤ e ∧ e ≤ b ∧ s ≤ mid ∧ a < mid ∧ mid < b ∧ u = s - a ∧ v = e - m ∧ u ≤ X.length ∧ v ≤ Y.length ∧ e - m = mid - s ∧ b - mid = (m - s) + (b - e) by omega)
        obtain ⟨X1, hX1⟩ : ∃ z, z = X.take u := ⟨_, rfl⟩
        obtain ⟨X2, hX2⟩ : ∃ z, z = X.drop u := ⟨_, rfl⟩
        obtain ⟨Y1, hY1⟩ : ∃ z, z = Y.take v := ⟨_, rfl⟩
        obtain ⟨Y2, hY2⟩ : ∃ z, z = Y.drop v := ⟨_, rfl⟩
        have eX : X = X1 ++ X2 := by rw [hX1, hX2, List.take_append_drop]
        have eY : Y = Y1 ++ Y2 := by rw [hY1, hY2, List.take_append_drop]
        have lX1 : X1.length = s - a := by rw [hX1, List.length_take]; omega
        have lX2 : X2.length = m - s := by rw [hX2, List.length_drop]; omega
        have lY1 : Y1.length = e - m := by rw [hY1, List.length_take]; omega
        have lY2 : Y2.length = b - e := by rw [hY2, List.length_drop]; omega
        rw [← hX1, ← hX2, ← hY1, ← hY2] at hcf
        have sX1 := Lib.hid (show SS.Srt F10.siz X1 by rw [hX1]; exact srt_tk hXs.out u)
        have sX2 := Lib.hid (show SS.Srt F10.siz X2 by rw [hX2]; exact srt_dp hXs.out u)
        have sY1 := Lib.hid (show SS.Srt F10.siz Y1 by rw [hY1]; exact srt_tk hYs.out v)
        have sY2 := Lib.hid (show SS.Srt F10.siz Y2 by rw [hY2]; exact srt_dp hYs.out v)
        have hlen := Lib.hid (show X1.length = s - a ∧ X2.length = m - s ∧ Y1.length = e - m ∧ Y2.length = b - e from ⟨lX1, lX2, lY1, lY2⟩)
        have B1 : Bl w0 wr g cp (P ++ (X1 ++ (X2 ++ (Y1 ++ (Y2 ++ S))))) bs := by
          rw [eX, eY] at B; simpa using B
        have hn2 := Lib.hid (show (P ++ (X1 ++ (X2 ++ (Y1 ++ (Y2 ++ S))))).length = n by
          rw [← hn.out, eX, eY]; simp)
        have hU2 := Lib.hid (show (U64 X1 ∧ U64 X2) ∧ U64 Y1 ∧ U64 Y2 by
          rw [hX1, hX2, hY1, hY2]
          exact ⟨⟨fun t ht => hXu.out t (List.mem_of_mem_take ht), fun t ht => hXu.out t (List.mem_of_mem_drop ht)⟩, fun t ht => hYu.out t (List.mem_of_mem_take ht), fun t ht => hYu.out t (List.mem_of_mem_drop ht)⟩)
        have hpl : (P ++ X1).length = s := by have := ha.out; rw [List.length_append]; omega
        have hR := Lib.hid (fun (h3 : s < m) (h4 : m < e) => rotate_any w0 wr g cp n bs (P ++ X1) X2 Y1 (Y2 ++ S) s m e (by simpa using B1) (by rw [← hn2.out]; simp) (by omega) hpl (by omega) (by omega) (by omega) (by omega))
        have hsm : X2 = [] ∨ Y1 = [] → P ++ (X1 ++ (X2 ++ (Y1 ++ (Y2 ++ S)))) = P ++ (X1 ++ (Y1 ++ (X2 ++ (Y2 ++ S)))) := by
          rintro (h5 | h5) <;> rw [h5] <;> simp
        have hNR := Lib.hid (fun (h3 : ¬ (s < m ∧ m < e)) => (show Bl w0 wr g cp (P ++ (X1 ++ (Y1 ++ (X2 ++ (Y2 ++ S))))) bs by
          rw [← hsm (by
            by_cases h5 : s < m
            · exact .inr (List.length_eq_zero_iff.1 (by omega))
            · exact .inl (List.length_eq_zero_iff.1 (by omega)))]
          exact B1))
        have q3 : e ≤ 1000 := by omega
        have e1 : (nn : Int) - (s : Int) = (e : Int) := by omega
        have w1 : IntKind.i64.wrap (e : Int) = (e : Int) := by rw [IntKind.wrap_i64]; omega
        have hXX := Lib.hid (show SS.Srt F10.siz (X1 ++ X2) by rw [← eX]; exact hXs.out)
        have hYY := Lib.hid (show SS.Srt F10.siz (Y1 ++ Y2) by rw [← eY]; exact hYs.out)
        have eXY := Lib.hid (show X ++ Y = (X1 ++ X2) ++ (Y1 ++ Y2) by rw [← eX, ← eY])
        replace he := Lib.hid he
        clear hsro hGo hLo hpo hlt B B1 hu2 hv2 hX1 hX2 hY1 hY2 eX eY lX1 lX2 lY1 lY2 hpl hsm
        obtain ⟨c1, hc1⟩ : ∃ c, c = (decide (s < m) && decide (m < e)) := ⟨_, rfl⟩
        replace hc1 := Lib.hid hc1
        obtain ⟨f1, q1e⟩ : ∃ q, decide (s < m) = q := ⟨_, rfl⟩
        obtain ⟨f2, q2e⟩ : ∃ q, decide (m < e) = q := ⟨_, rfl⟩
        go_upto_region 39 with fail
        go_cut [185] from 178 (fun v wc => v = .bool c1 ∧ wc = wr)
        case first =>
          cases f1 <;> cases f2 <;> (go_wp2; go_meet; exact ⟨by rw [hc1.out, q1e, q2e]; rfl, rfl⟩)
        case rest =>
          obtain ⟨rfl, rfl⟩ := hcut
          clear q1e q2e e1 w1
          go_upto_if 185 with fail
          go_cut [] from 186 (fun wc => Bl w0 wc g cp (P ++ (X1 ++ (Y1 ++ (X2 ++ (Y2 ++ S))))) bs)
          case first =>
            cases c1 with
            | true =>
              have h3 := hc1.out.symm
              rw [Bool.and_eq_true] at h3
              have hRR := Lib.hid (hR.out (of_decide_eq_true h3.1) (of_decide_eq_true h3.2))
              clear h3 hR
              go_wp2_with fail
              refine hRR.out.mono ?_
              rintro e9 w9 ⟨rfl, B'⟩
              have hJ := Lib.hid (show Bl w0 w9 g cp (P ++ (X1 ++ (Y1 ++ (X2 ++ (Y2 ++ S))))) bs by simpa using B')
              clear B' hRR
              go_wp2
              go_meet
              exact hJ.out
            | false =>
              have h3 := hc1.out.symm
              have hJ := Lib.hid (hNR.out (by
                intro h4
                rw [decide_eq_true h4.1, decide_eq_true h4.2] at h3
                cases h3))
              clear h3 hR
              go_wp2
              go_meet
              exact hJ.out
          case rest =>
            obtain ⟨wd, hwd⟩ : ∃ W, W = wc := ⟨wc, rfl⟩
            subst hwd
            have B2 := Lib.hid hcut
            have hI1 := Lib.hid (fun (h3 : a < s) (h4 : s < mid) => hIH.out P X1 Y1 (X2 ++ (Y2 ++ S)) wd a s mid (by have := hG.out; have := hG2.out; have := hlen.out; omega) B2.out (by have := hn2.out; simp only [List.length_append] at this ⊢; omega) ha.out (by have := hG2.out; have := hlen.out; omega) (by have := hG2.out; have := hlen.out; omega) (by have := hG2.out; have := hlen.out; omega) (by have := hG2.out; have := hlen.out; omega) sX1.out sY1.out (u64_app hU2.out.1.1 hU2.out.2.1))
            have hN1 := Lib.hid (fun (h3 : ¬ (a < s ∧ s < mid)) => (show ∃ Z, Bl w0 wd g cp (P ++ (Z ++ (X2 ++ (Y2 ++ S)))) bs ∧ SS.Srt F10.siz Z ∧ SS.Fil F10.siz Z (X1 ++ Y1) from ⟨X1 ++ Y1, by simpa using B2.out, by
              by_cases h5 : a < s
              · rw [List.length_eq_zero_iff.1 (show Y1.length = 0 by have := hG2.out; have := hlen.out; omega), List.append_nil]; exact sX1.out
              · rw [List.length_eq_zero_iff.1 (show X1.length = 0 by have := hG2.out; have := hlen.out; omega), List.nil_append]; exact sY1.out, SS.Fil.refl _⟩))
            clear hcut B2 hR hNR hc1
            obtain ⟨c2, hc2⟩ : ∃ c, c = (decide (a < s) && decide (s < mid)) := ⟨_, rfl⟩
            replace hc2 := Lib.hid hc2
            obtain ⟨f3, q3e⟩ : ∃ q, decide (a < s) = q := ⟨_, rfl⟩
            obtain ⟨f4, q4e⟩ : ∃ q, decide (s < mid) = q := ⟨_, rfl⟩
            go_upto_region 41 with fail
            go_cut [199] from 192 (fun v wc => v = .bool c2 ∧ wc = wd)
            case first =>
              cases f3 <;> cases f4 <;> (go_wp2; go_meet; exact ⟨by rw [hc2.out, q3e, q4e]; rfl, rfl⟩)
            case rest =>
              obtain ⟨rfl, rfl⟩ := hcut
              clear q3e q4e
              go_upto_if 199 with fail
              go_cut [] from 200 (fun wc => ∃ Z, Bl w0 wc g cp (P ++ (Z ++ (X2 ++ (Y2 ++ S)))) bs ∧ SS.Srt F10.siz Z ∧ SS.Fil F10.siz Z (X1 ++ Y1))
              case first =>
                cases c2 with
                | true =>
                  have h3 := hc2.out.symm
                  rw [Bool.and_eq_true] at h3
                  have hRR := Lib.hid (hI1.out (of_decide_eq_true h3.1) (of_decide_eq_true h3.2))
                  clear h3 hI1 hN1
                  go_wp2_with fail
                  refine hRR.out.mono ?_
                  rintro e9 w9 ⟨rfl, hJ⟩
                  replace hJ := Lib.hid hJ
                  clear hRR
                  go_wp2
                  go_meet
                  exact hJ.out
                | false =>
                  have h3 := hc2.out.symm
                  have hJ := Lib.hid (hN1.out (by
                    intro h4
                    rw [decide_eq_true h4.1, decide_eq_true h4.2] at h3
                    cases h3))
                  clear h3 hI1 hN1
                  go_wp2
                  go_meet
                  exact hJ.out
              case rest =>
                obtain ⟨wf, hwf⟩ : ∃ W, W = wc := ⟨wc, rfl⟩
                subst hwf
                obtain ⟨Z1, B3, sZ1, fZ1⟩ := hcut
                have lZ1 := fZ1.len
                rw [List.length_append] at lZ1
                have hZl := Lib.hid (show (P ++ Z1).length = mid by rw [List.length_append]; have := ha.out; have := hG2.out; have := hlen.out; omega)
                have hB3 := Lib.hid (show Bl w0 wf g cp ((P ++ Z1) ++ (X2 ++ (Y2 ++ S))) bs by rw [List.append_assoc]; exact B3)
                have hn3 := Lib.hid (show ((P ++ Z1) ++ (X2 ++ (Y2 ++ S))).length = n by have := hn2.out; simp only [List.length_append] at this ⊢; omega)
                have hI2 := Lib.hid (fun (h3 : mid < e) (h4 : e < b) => hIH.out (P ++ Z1) X2 Y2 S wf mid e b (by have := hG.out; have := hG2.out; have := hlen.out; omega) hB3.out hn3.out hZl.out (by have := hG2.out; have := hlen.out; omega) (by have := hG2.out; have := hlen.out; omega) (by have := hG2.out; have := hlen.out; omega) (by have := hG2.out; have := hlen.out; omega) sX2.out sY2.out (u64_app hU2.out.1.2 hU2.out.2.2))
                have hN2 := Lib.hid (fun (h3 : ¬ (mid < e ∧ e < b)) => (show ∃ Z, Bl w0 wf g cp ((P ++ Z1) ++ (Z ++ S)) bs ∧ SS.Srt F10.siz Z ∧ SS.Fil F10.siz Z (X2 ++ Y2) from ⟨X2 ++ Y2, by rw [List.append_assoc X2]; exact hB3.out, by
                  by_cases h5 : e < b
                  · rw [List.length_eq_zero_iff.1 (show X2.length = 0 by have := hG2.out; have := hlen.out; omega), List.nil_append]; exact sY2.out
                  · rw [List.length_eq_zero_iff.1 (show Y2.length = 0 by have := hG2.out; have := hlen.out; omega), List.append_nil]; exact sX2.out, SS.Fil.refl _⟩))
                have hfin := Lib.hid (fun W (hz : ∃ Z, Bl w0 W g cp ((P ++ Z1) ++ (Z ++ S)) bs ∧ SS.Srt F10.siz Z ∧ SS.Fil F10.siz Z (X2 ++ Y2)) => (show ∃ Z, Bl w0 W g cp (P ++ (Z ++ S)) bs ∧ SS.Srt F10.siz Z ∧ SS.Fil F10.siz Z (X ++ Y) by
                  obtain ⟨Z2, B4, sZ2, fZ2⟩ := hz
                  have := SS.sym_step hXX.out hYY.out hcf.out.1 hcf.out.2 sZ1 fZ1 sZ2 fZ2
                  rw [eXY.out]
                  exact ⟨Z1 ++ Z2, by simpa using B4, this.1, this.2⟩))
                clear B3 sZ1 fZ1 lZ1 hI1 hN1 hc2
                obtain ⟨c3, hc3⟩ : ∃ c, c = (decide (mid < e) && decide (e < b)) := ⟨_, rfl⟩
                replace hc3 := Lib.hid hc3
                obtain ⟨f5, q5e⟩ : ∃ q, decide (mid < e) = q := ⟨_, rfl⟩
                obtain ⟨f6, q6e⟩ : ∃ q, decide (e < b) = q := ⟨_, rfl⟩
                go_upto_region 43 with fail
                go_cut [213] from 206 (fun v wc => v = .bool c3 ∧ wc = wf)
                case first =>
                  cases f5 <;> cases f6 <;> (go_wp2; go_meet; exact ⟨by rw [hc3.out, q5e, q6e]; rfl, rfl⟩)
                case rest =>
                  obtain ⟨rfl, rfl⟩ := hcut
                  clear q5e q6e
                  cases c3 with
                  | true =>
                    have h3 := hc3.out.symm
                    rw [Bool.and_eq_true] at h3
                    have hRR := Lib.hid (hI2.out (of_decide_eq_true h3.1) (of_decide_eq_true h3.2))
                    clear h3 hI2 hN2
                    go_wp2_with fail
                    refine hRR.out.mono ?_
                    rintro e9 w9 ⟨rfl, hJ⟩
                    have hJ2 := Lib.hid (hfin.out _ hJ)
                    clear hRR hJ
                    go_wp2
                    go_end0
                    exact ⟨rfl, hJ2.out⟩
                  | false =>
                    have h3 := hc3.out.symm
                    have hJ2 := Lib.hid (hfin.out _ (hN2.out (by
                      intro h4
                      rw [decide_eq_true h4.1, decide_eq_true h4.2] at h3
                      cases h3)))
                    clear h3 hI2 hN2
                    go_wp2
                    go_end0
                    exact ⟨rfl, hJ2.out⟩
end Go.Proofs.YthbkdjbmkhmlnaaDoor
namespace Go.Proofs.YthbkdjbmkhmlnaaDoor
open Go.RowKit
set_option linter.unusedVariables false

theorem merge_all (w0 : World) (g cp n : Nat) (bs : List GBk) (hn5 : n ≤ 1000) : ∀ N, MergeAt w0 g cp n bs N
  | 0 => fun P X Y S w a m b hN _ _ _ _ _ h1 _ _ _ _ => absurd hN (by omega)
  | N + 1 => fun P X Y S w a m b hN h hn ha hm hb h1 h2 hX hY hu => by
    by_cases hle : X.length + Y.length ≤ N
    · exact merge_all w0 g cp n bs hn5 N P X Y S w a m b hle h hn ha hm hb h1 h2 hX hY hu
    · by_cases hx1 : X.length = 1
      · obtain ⟨x, rfl⟩ := List.length_eq_one_iff.1 hx1
        exact merge_front w0 w g cp n bs P Y S x a m b h hn hn5 ha hm hb hY hu
      · by_cases hy1 : Y.length = 1
        · obtain ⟨y, rfl⟩ := List.length_eq_one_iff.1 hy1
          exact merge_back w0 w g cp n bs P X S y a m b h hn hn5 ha hm hb (by omega) hX hu
        · exact merge_step w0 g cp n bs hn5 N (merge_all w0 g cp n bs hn5 N) P X Y S w a m b (by omega) h hn ha hm hb (by omega) (by omega) hX hY hu
/-- So what the sort asks of the merge holds. -/
theorem merge_ok (w0 : World) (g cp n : Nat) (bs : List GBk) (h20 : 20 < n) (hn5 : n ≤ 1000) : MergeOk w0 g cp bs n := by
  intro w X Y hX hn hsX hsY hu B
  have := merge_all w0 g cp n bs hn5 n [] X Y [] w 0 20 n (by omega) (by simpa using B) (by simpa using hn) rfl (by omega) (by omega) (by omega) (by omega) hsX hsY hu
  refine this.mono ?_
  rintro e w' ⟨rfl, Z, h1, h2, h3⟩
  exact ⟨rfl, Z, by simpa using h1, h2, h3⟩
end Go.Proofs.YthbkdjbmkhmlnaaDoor
namespace Go.Proofs.YthbkdjbmkhmlnaaDoor
open Go.RowKit
set_option linter.unusedVariables false

theorem expand_any (s : ByteArray) (tr : F9.Tr) (hw : tr.wf) (A : Option Addr) (n c : Nat) (w : World) (h : LR ndC w A n (tr.pre.map toNd)) (hc : n ≤ c) (hO : Og w) (hf : frmB s (tr.pre.map toNd) = true) (hs : s.size ≤ 100000) (hsz : ∀ x ∈ tr.pre.map toNd, x.s.size ≤ 100000) :
    Calls Tryd.prog 11 #[.agg #[.string s, .slice A n c]] w fun e w' => ExpV w w' e s tr := by
  refine expand_yes s tr hw A n c w h hc hO hf hs hsz fun m hm h20 w1 g cp => ?_
  have h1 := F10.expand_same tr (wf_shp hw)
  rw [hm] at h1
  have h2 := h1.2.2.2.2
  have h3 : m.length ≤ 1000 := Nat.le_trans (fts_len h2) (by decide)
  exact merge_ok w1 g cp _ [] h20 (Nat.le_trans (List.length_filter_le _ _) h3)
end Go.Proofs.YthbkdjbmkhmlnaaDoor
namespace Go.Proofs.YthbkdjbmkhmlnaaDoor
open Go.RowKit
set_option linter.unusedVariables false

theorem nam_node : ∀ (t : F9.Tr) (f : F10.Fac), F10.nam t f → ∃ x ∈ t.pre, F10.facOf x = some f
  | .leaf x, f, h => ⟨x, by simp [F9.Tr.pre], h⟩
  | .hat k a, f, h => by
    obtain ⟨x, hx, e⟩ := nam_node a f h
    exact ⟨x, by simp [F9.Tr.pre, hx], e⟩
  | .bin op a b, f, h => by
    rcases h with h | h
    · obtain ⟨x, hx, e⟩ := nam_node a f h
      exact ⟨x, by simp [F9.Tr.pre, hx], e⟩
    · obtain ⟨x, hx, e⟩ := nam_node b f h
      exact ⟨x, by simp [F9.Tr.pre, hx], e⟩
theorem wf_node : ∀ {t : F9.Tr}, t.wf → ∀ x ∈ t.pre, F9.okN x
  | .leaf x, h, y, hy => by
    have hy : y ∈ [x] := hy
    rw [List.mem_singleton.1 hy]; exact .inl h
  | .hat k a, h, y, hy => by
    have hy : y ∈ ⟨10, [], k⟩ :: a.pre := hy
    rcases List.mem_cons.1 hy with rfl | hy
    · exact .inr (.inl ⟨rfl, rfl, h.1, h.2.1⟩)
    · exact wf_node (t := a) h.2.2 y hy
  | .bin op a b, h, y, hy => by
    have hy : y ∈ ⟨op, [], 0⟩ :: (a.pre ++ b.pre) := hy
    rcases List.mem_cons.1 hy with rfl | hy
    · exact .inr (.inr ⟨h.1, h.2.1, rfl, rfl⟩)
    · rcases List.mem_append.1 hy with hy | hy
      · exact wf_node (t := a) h.2.2.1 y hy
      · exact wf_node (t := b) h.2.2.2 y hy
theorem nameB_arr (nm : List UInt8) : nameB (⟨nm.toArray⟩ : ByteArray) = nameL nm := by unfold nameB; simp
theorem fac_node {x : F9.Nd} {f : F10.Fac} (h : F9.okN x) (hf : F10.facOf x = some f) : facB (toFa f) = true := by
  unfold F10.facOf at hf
  obtain ⟨op, nm, k⟩ := x
  simp only at hf
  by_cases h1 : op = 1
  · rw [if_pos h1] at hf
    injection hf with hf
    subst hf h1
    have hn : nameL nm = true := by
      rcases h with (h | h | h) | h | h
      · exact h.2.1
      · exact h.2.1
      · have := h.1; simp at this
      · have := h.1; simp at this
      · have := h.1; simp at this
    show (nameB (⟨nm.toArray⟩ : ByteArray) && decide ((1 : Int) ≤ ((1 : Nat) : Int)) && decide (((1 : Nat) : Int) ≤ 8)) = true
    rw [nameB_arr, hn]; decide
  · rw [if_neg h1] at hf
    by_cases h2 : op = 2
    · rw [if_pos h2] at hf
      injection hf with hf
      subst hf h2
      have hn : nameL nm = true ∧ 2 ≤ k ∧ k ≤ 8 := by
        rcases h with (h | h | h) | h | h
        · have := h.1; simp at this
        · exact ⟨h.2.1, h.2.2.1, h.2.2.2⟩
        · have := h.1; simp at this
        · have := h.1; simp at this
        · have := h.1; simp at this
      show (nameB (⟨nm.toArray⟩ : ByteArray) && decide ((1 : Int) ≤ (k : Int)) && decide ((k : Int) ≤ 8)) = true
      rw [nameB_arr, hn.1, decide_eq_true (by omega), decide_eq_true (by omega)]; rfl
    · rw [if_neg h2] at hf; cases hf
theorem trmG_ok : ∀ (l p : List Fa), (∀ f ∈ l, facB f = true) → (p ++ l).Nodup → trmG p l = true
  | [], p, _, _ => rfl
  | f :: l, p, h, hn => by
    have hf : f ∉ p := fun hp => by
      rw [List.nodup_append] at hn
      exact hn.2.2 f hp f List.mem_cons_self rfl
    show (facB f && !decide (f ∈ p) && trmG (p ++ [f]) l) = true
    rw [h f List.mem_cons_self, decide_eq_false hf, trmG_ok l (p ++ [f]) (fun g hg => h g (List.mem_cons_of_mem _ hg)) (by simpa using hn)]; rfl
theorem modG_ok : ∀ (l p : List (List Fa)), (∀ t ∈ l, trmB t = true) → (p ++ l).Pairwise (fun x y => x.length ≤ y.length ∧ sfB x y = false) → modG p l = true
  | [], p, _, _ => by unfold modG; rfl
  | t :: l, p, h, hn => by
    have hq : ∀ q ∈ p, q.length ≤ t.length ∧ sfB q t = false := fun q hp => (List.pairwise_append.1 hn).2.2 q hp t List.mem_cons_self
    have hp : prevOk p t = true := by
      unfold prevOk
      cases hg : p.getLast? with
      | none => rfl
      | some q => exact decide_eq_true (hq q (List.mem_of_getLast? hg)).1
    have ha : (p.any fun s => sfB s t) = false := by
      rw [List.any_eq_false]
      intro q hp
      rw [(hq q hp).2]; simp
    unfold modG
    rw [h t List.mem_cons_self, hp, ha, modG_ok l (p ++ [t]) (fun s hs => h s (List.mem_cons_of_mem _ hs)) (by simpa using hn)]; rfl
theorem sfB_map {x y : List F10.Fac} (h : sfB (x.map toFa) (y.map toFa) = true) : F10.SameF x y := by
  unfold sfB at h
  rw [Bool.and_eq_true, decide_eq_true_eq, List.length_map, List.length_map] at h
  refine ⟨h.1, fun f hf => ?_⟩
  have := List.all_eq_true.1 h.2 (toFa f) (List.mem_map_of_mem hf)
  exact toFa_mem.1 (of_decide_eq_true this)
theorem LL_self {R : Nat → Nat → Prop} : ∀ {m m' : List Nat}, F10.LL R m m' → ∀ t ∈ m, ∃ t', R t t' := by
  intro m m' h
  induction h with
  | nil => intro t ht; cases ht
  | cons hr _ ih =>
    intro t ht
    rcases List.mem_cons.1 ht with rfl | ht
    · exact ⟨_, hr⟩
    · exact ih t ht
theorem rex_bits {tr : F9.Tr} (hs : F10.shp tr) (hl : tr.pre.length ≤ 64) {m : List Nat} (h : F10.rex tr = some m) : ∀ t ∈ m, ∀ i, t.testBit i = true → i < (F10.atoms tr []).length := by
  have nA : (F10.atoms tr []).Nodup := F10.atoms_nodup tr List.nodup_nil
  have lA : (F10.atoms tr []).length ≤ 64 := by have := F10.atoms_len tr []; simp only [List.length_nil] at this; omega
  have H := F10.rs_rel (F10.rt_rr nA nA lA lA) tr hs (fun f hf => ⟨(F10.atoms_mem tr [] f).2 (.inr hf), (F10.atoms_mem tr [] f).2 (.inr hf)⟩)
  obtain ⟨m', hm', L⟩ := H.get (F10.rex_some h).2
  intro t ht
  obtain ⟨t', hr⟩ := LL_self L t ht
  exact hr.bs
/-- Is a factor named by some node? -/
def hitB (x : Fa) (y : Nd) : Bool := (y.s.toList == x.s.toList) && ((y.o == 1 && x.k == 1) || (y.o == 2 && x.k == y.k))
/-- A model's terms are terms, in order, and their factors those of the tree. -/
theorem mdl_ok {s : ByteArray} {tr : F9.Tr} (hw : tr.wf) (hf : frmB s (tr.pre.map toNd) = true) {m : List Nat} (h : F10.rex tr = some m) :
    modB s ((F10.mdT (F10.atoms tr []) m).map fun l => l.map toFa) = true ∧ ∀ t ∈ (F10.mdT (F10.atoms tr []) m).map (fun l => l.map toFa), t.length ≤ 6 ∧ ∀ x ∈ t, ((tr.pre.map toNd).any (hitB x)) = true := by
  have hsh := wf_shp hw
  have hl : tr.pre.length ≤ 64 := by have := (frm_len hf).1; rwa [List.length_map] at this
  have nA : (F10.atoms tr []).Nodup := F10.atoms_nodup tr List.nodup_nil
  have lA : (F10.atoms tr []).length ≤ 64 := by have := F10.atoms_len tr []; simp only [List.length_nil] at this; omega
  have hb := rex_bits hsh hl h
  have hsm := F10.expand_same tr hsh
  rw [h] at hsm
  obtain ⟨_, _, _, hnd, hft⟩ := hsm
  have h6 : ∀ t ∈ m, F10.siz t ≤ 6 := fun t ht => by
    unfold F10.fts at hft
    rw [Bool.and_eq_true] at hft
    exact of_decide_eq_true (List.all_eq_true.1 hft.1 t ht)
  have h32 : m.length ≤ 32 := by
    unfold F10.fts at hft
    rw [Bool.and_eq_true] at hft
    exact of_decide_eq_true hft.2
  have hT : ∀ x ∈ F10.mdT (F10.atoms tr []) m, 1 ≤ x.length ∧ x.length ≤ 6 ∧ x.Nodup ∧ ∀ f ∈ x, f ∈ F10.atoms tr [] := by
    intro x hx
    obtain ⟨t, ht, h0, rfl⟩ := (F10.mdT_mem lA hft hb).1 hx
    rw [F10.fac_len (hb t ht)]
    refine ⟨F10.siz_pos h0 fun i hi => by have := hb t ht i hi; omega, h6 t ht, F10.fac_nodup nA t, fun f hf => ?_⟩
    obtain ⟨i, hi, _⟩ := (F10.fac_mem lA).1 hf
    exact List.mem_of_getElem? hi
  have hnode : ∀ f ∈ F10.atoms tr [], ∃ x ∈ tr.pre, F10.facOf x = some f := fun f hf => by
    rcases (F10.atoms_mem tr [] f).1 hf with h | h
    · cases h
    · exact nam_node tr f h
  refine ⟨?_, ?_⟩
  · unfold modB
    have hlen : ((F10.mdT (F10.atoms tr []) m).map fun l => l.map toFa).length ≤ 32 := by
      rw [List.length_map, F10.mdT_len hft lA hb]
      exact Nat.le_trans (List.length_filter_le _ _) h32
    rw [(frm_len hf).2, decide_eq_true hlen, modG_ok _ [] ?_ ?_]
    · rfl
    · intro t ht
      obtain ⟨x, hx, rfl⟩ := List.mem_map.1 ht
      obtain ⟨h1, h2, h3, h4⟩ := hT x hx
      unfold trmB
      rw [List.length_map, decide_eq_true h1, decide_eq_true h2, trmG_ok _ [] ?_ ?_]
      · rfl
      · intro f hf
        obtain ⟨g, hg, rfl⟩ := List.mem_map.1 hf
        obtain ⟨y, hy, e⟩ := hnode g (h4 g hg)
        exact fac_node (wf_node hw y hy) e
      · rw [List.nil_append]
        exact List.Pairwise.map _ (fun a b hab h => hab (toFa_inj.1 h)) h3
    · rw [List.nil_append, List.pairwise_map]
      refine (F10.mdT_pair nA lA hnd hb).imp fun {x y} hxy => ⟨by rw [List.length_map, List.length_map]; exact hxy.1, ?_⟩
      cases hs : sfB (x.map toFa) (y.map toFa) with
      | false => rfl
      | true => exact absurd (sfB_map hs) hxy.2
  · intro t ht
    obtain ⟨x, hx, rfl⟩ := List.mem_map.1 ht
    obtain ⟨h1, h2, h3, h4⟩ := hT x hx
    refine ⟨by rw [List.length_map]; exact h2, fun f hf => ?_⟩
    obtain ⟨g, hg, rfl⟩ := List.mem_map.1 hf
    obtain ⟨y, hy, e⟩ := hnode g (h4 g hg)
    rw [List.any_eq_true]
    refine ⟨toNd y, List.mem_map_of_mem hy, ?_⟩
    unfold F10.facOf at e
    unfold hitB
    by_cases h1 : y.op = 1
    · rw [if_pos h1] at e
      injection e with e
      subst e
      simp [toNd, toFa, h1]
    · rw [if_neg h1] at e
      by_cases h2 : y.op = 2
      · rw [if_pos h2] at e
        injection e with e
        subst e
        simp [toNd, toFa, h2]
      · rw [if_neg h2] at e; cases e
end Go.Proofs.YthbkdjbmkhmlnaaDoor
