/- Merging two sorted blocks in place. -/
import Derived.Test.YthbkdjbmkhmlnaaDoorB21
import Derived.Test.YthbkdjbmkhmlnaaDoorB20
import Derived.Test.YthbkdjbmkhmlnaaDoorB06
namespace Go.Proofs.YthbkdjbmkhmlnaaDoor
open Go.RowKit
set_option linter.unusedVariables false

/-- What a merge of at most N terms does. -/
def MergeAt (w0 : World) (g cp n : Nat) (bs : List GBk) (N : Nat) : Prop := ∀ (P X Y S : List Nat) (w : World) (a m b : Nat), X.length + Y.length ≤ N → Bl w0 w g cp (P ++ (X ++ (Y ++ S))) bs → (P ++ (X ++ (Y ++ S))).length = n → P.length = a → a + X.length = m → m + Y.length = b → 1 ≤ X.length → 1 ≤ Y.length → SS.Srt F10.siz X → SS.Srt F10.siz Y → U64 (X ++ Y) →
    Calls Tryd.prog 108 #[.slice (some ⟨g, 0, none⟩) n cp, .int .i64 a, .int .i64 m, .int .i64 b, cmpV] w fun e w' => e = .returned (.tuple #[]) ∧ ∃ Z, Bl w0 w' g cp (P ++ (Z ++ S)) bs ∧ SS.Srt F10.siz Z ∧ SS.Fil F10.siz Z (X ++ Y)
/-- Where the search runs. -/
def LH (a b m mid nn lo hi : Nat) : Prop := a ≤ lo ∧ lo ≤ hi ∧ hi ≤ mid ∧ hi ≤ m ∧ nn ≤ b + lo ∧ (lo = a ∨ lo + b = nn) ∧ (hi = mid ∨ hi = m)
theorem cut_facts {X Y : List Nat} (hX : SS.Srt F10.siz X) (hY : SS.Srt F10.siz Y) {u v : Nat} (h1 : u = 0 ∨ v = Y.length ∨ ∃ x y, X[u - 1]? = some x ∧ Y[v]? = some y ∧ F10.siz x ≤ F10.siz y) (h2 : u = X.length ∨ v = 0 ∨ ∃ x y, X[u]? = some x ∧ Y[v - 1]? = some y ∧ F10.siz y < F10.siz x) : (∀ x ∈ X.take u, ∀ y ∈ Y.drop v, F10.siz x ≤ F10.siz y) ∧ (∀ y ∈ Y.take v, ∀ x ∈ X.drop u, F10.siz y < F10.siz x) := by
  constructor
  · rcases h1 with rfl | rfl | ⟨x, y, hx, hy, hxy⟩
    · intro x hx; cases hx
    · intro x _ y hy; rw [List.drop_length] at hy; cases hy
    · intro x' hx' y' hy'
      have h3 := srt_take hX (r := u) (Q := fun z => F10.siz z ≤ F10.siz x) (fun a b hab hb => Nat.le_trans hab hb) (.inr ⟨x, hx, Nat.le_refl _⟩) x' hx'
      have h4 := srt_drop hY (r := v) (Q := fun z => F10.siz y ≤ F10.siz z) (fun a b hab hb => Nat.le_trans hb hab) (.inr ⟨y, hy, Nat.le_refl _⟩) y' hy'
      exact Nat.le_trans h3 (Nat.le_trans hxy h4)
  · rcases h2 with rfl | rfl | ⟨x, y, hx, hy, hxy⟩
    · intro y _ x hx; rw [List.drop_length] at hx; cases hx
    · intro y hy; cases hy
    · intro y' hy' x' hx'
      have h3 := srt_take hY (r := v) (Q := fun z => F10.siz z ≤ F10.siz y) (fun a b hab hb => Nat.le_trans hab hb) (.inr ⟨y, hy, Nat.le_refl _⟩) y' hy'
      have h4 := srt_drop hX (r := u) (Q := fun z => F10.siz x ≤ F10.siz z) (fun a b hab hb => Nat.le_trans hb hab) (.inr ⟨x, hx, Nat.le_refl _⟩) x' hx'
      exact Nat.lt_of_le_of_lt h3 (Nat.lt_of_lt_of_le hxy h4)
theorem srt_tk {X : List Nat} (h : SS.Srt F10.siz X) (u : Nat) : SS.Srt F10.siz (X.take u) := List.Pairwise.sublist (List.take_sublist u X) h
theorem srt_dp {X : List Nat} (h : SS.Srt F10.siz X) (u : Nat) : SS.Srt F10.siz (X.drop u) := List.Pairwise.sublist (List.drop_sublist u X) h

set_option maxRecDepth 100000 in
set_option maxHeartbeats 4000000 in
theorem merge_step (w0 : World) (g cp n : Nat) (bs : List GBk) (hn5 : n ≤ 1000) (N : Nat) (hIH : MergeAt w0 g cp n bs N) (P X Y S : List Nat) (w : World) (a m b : Nat) (hN : X.length + Y.length = N + 1) (h : Bl w0 w g cp (P ++ (X ++ (Y ++ S))) bs) (hn : (P ++ (X ++ (Y ++ S))).length = n) (ha : P.length = a) (hm : a + X.length = m) (hb : m + Y.length = b) (hX : 2 ≤ X.length) (hY : 2 ≤ Y.length) (hXs : SS.Srt F10.siz X) (hYs : SS.Srt F10.siz Y) (hu : U64 (X ++ Y)) :
    Calls Tryd.prog 108 #[.slice (some ⟨g, 0, none⟩) n cp, .int .i64 a, .int .i64 m, .int .i64 b, cmpV] w fun e w' => e = .returned (.tuple #[]) ∧ ∃ Z, Bl w0 w' g cp (P ++ (Z ++ S)) bs ∧ SS.Srt F10.siz Z ∧ SS.Fil F10.siz Z (X ++ Y) := by
  have hbn : b ≤ n := by rw [← hn]; simp; omega
  have b0 : a ≤ 1000 := by omega
  have b1 : b ≤ 1000 := by omega
  have b2 : m ≤ 1000 := by omega
  obtain ⟨x0, hx0⟩ : ∃ k, k = X.length := ⟨_, rfl⟩
  obtain ⟨y0, hy0⟩ : ∃ k, k = Y.length := ⟨_, rfl⟩
  obtain ⟨t0, ht0⟩ : ∃ k, k = a + b := ⟨_, rfl⟩
  obtain ⟨mid, hmid⟩ : ∃ k, k = t0 / 2 := ⟨_, rfl⟩
  obtain ⟨nn, hnn⟩ : ∃ k, k = mid + m := ⟨_, rfl⟩
  have e0 : (m : Int) - (a : Int) = (x0 : Int) := by omega
  have e1 : (b : Int) - (m : Int) = (y0 : Int) := by omega
  have e2 : (a : Int) + (b : Int) = (t0 : Int) := by omega
  have e3 : (t0 : Int) / 2 = (mid : Int) := by omega
  have e4 : (mid : Int) + (m : Int) = (nn : Int) := by omega
  have v0 : IntKind.i64.wrap (x0 : Int) = (x0 : Int) := by rw [IntKind.wrap_i64]; omega
  have v1 : IntKind.i64.wrap (y0 : Int) = (y0 : Int) := by rw [IntKind.wrap_i64]; omega
  have v2 : IntKind.i64.wrap (t0 : Int) = (t0 : Int) := by rw [IntKind.wrap_i64]; omega
  have v3 : IntKind.i64.wrap (mid : Int) = (mid : Int) := by rw [IntKind.wrap_i64]; omega
  have v4 : IntKind.i64.wrap (nn : Int) = (nn : Int) := by rw [IntKind.wrap_i64]; omega
  have b5 : t0 ≤ 2000 := by omega
  have v5 := half_u b5
  have g0 : ((x0 : Int) == 1) = false := by rw [beq_eq_false_iff_ne]; omega
  have g1 : ((y0 : Int) == 1) = false := by rw [beq_eq_false_iff_ne]; omega
  have b3 : x0 ≤ 1000 := by omega
  have b4 : y0 ≤ 1000 := by omega
  have b6 : mid ≤ 1000 := by omega
  have b7 : nn ≤ 2000 := by omega
  have h0 := Lib.hid h
  have hXu : Hid (∀ x ∈ X, x < 18446744073709551616) := Lib.hid fun x hx => hu x (by simp [hx])
  have hYu : Hid (∀ x ∈ Y, x < 18446744073709551616) := Lib.hid fun x hx => hu x (by simp [hx])
  have hG := Lib.hid (show a + X.length = m ∧ m + Y.length = b ∧ b ≤ n ∧ n ≤ 1000 ∧ mid = (a + b) / 2 ∧ nn = mid + m ∧ 2 ≤ X.length ∧ 2 ≤ Y.length ∧ X.length + Y.length = N + 1 by omega)
  replace hIH := Lib.hid hIH
  replace hx0 := Lib.hid hx0
  replace hy0 := Lib.hid hy0
  replace ht0 := Lib.hid ht0
  replace hmid := Lib.hid hmid
  replace hnn := Lib.hid hnn
  replace ha := Lib.hid ha
  replace hn := Lib.hid hn
  replace hXs := Lib.hid hXs
  replace hYs := Lib.hid hYs
  replace hu := Lib.hid hu
  clear h hm hb hX hY hn5 hN hbn
  obtain ⟨bq, e9⟩ : ∃ q, decide (mid < m) = q := ⟨_, rfl⟩
  go_enter Tryd.func108, Tryd.ntmps108
  go_upto_if 140 with fail
  clear e0 e1 e2 e3 e4 v0 v1 v2 v3 v5 g0 g1
  go_cut [20, 21] from 141 (fun v20 v21 wc => ∃ lo hi : Nat, v20 = .int .i64 (lo : Int) ∧ v21 = .int .i64 (hi : Int) ∧ Hid (LH a b m mid nn lo hi) ∧ wc = w)
  case first =>
    have hGo := hG.out
    cases bq with
    | true =>
      have hmm := of_decide_eq_true e9
      obtain ⟨lo, hlo⟩ : ∃ k, k = nn - b := ⟨_, rfl⟩
      have f2 : (nn : Int) - (b : Int) = (lo : Int) := by omega
      have f3 : IntKind.i64.wrap (lo : Int) = (lo : Int) := by rw [IntKind.wrap_i64]; omega
      have hL := Lib.hid (show LH a b m mid nn lo mid by unfold LH; omega)
      replace hlo := Lib.hid hlo
      clear hmm hGo e9
      go_wp2
      go_meet
      exact ⟨lo, mid, rfl, rfl, hL, rfl⟩
    | false =>
      have hmm := of_decide_eq_false e9
      have hL := Lib.hid (show LH a b m mid nn a m by unfold LH; omega)
      clear hmm hGo e9
      go_wp2
      go_meet
      exact ⟨a, m, rfl, rfl, hL, rfl⟩
  case rest =>
    obtain ⟨lo, hi, rfl, rfl, hL, rfl⟩ := hcut
    clear e9
    obtain ⟨p, hp⟩ : ∃ k, k = nn - 1 := ⟨_, rfl⟩
    have e1 : (nn : Int) - 1 = (p : Int) := by have := hG.out; omega
    have b8 : p ≤ 2000 := by omega
    have b9 : lo ≤ 1000 := by have := hL.out; unfold LH at this; omega
    have b10 : hi ≤ 1000 := by have := hL.out; unfold LH at this; omega
    have v5 : IntKind.i64.wrap (p : Int) = (p : Int) := by rw [IntKind.wrap_i64]; omega
    replace hp := Lib.hid hp
    go_wp2
    clear e1
    go_loopw [20, 21] (fun iv jv wr => ∃ s r : Nat, Hid (lo ≤ s ∧ s ≤ r ∧ r ≤ hi) ∧ iv = .int .i64 (s : Int) ∧ jv = .int .i64 (r : Int) ∧ Bl w0 wr g cp (P ++ (X ++ (Y ++ S))) bs ∧ (s = lo ∨ ∃ x y, X[s - 1 - a]? = some x ∧ Y[p - (s - 1) - m]? = some y ∧ F10.siz x ≤ F10.siz y) ∧ (r = hi ∨ ∃ x y, X[r - a]? = some x ∧ Y[p - r - m]? = some y ∧ F10.siz y < F10.siz x)) (fun iv jv _ => (intOf jv - intOf iv).toNat)
    case atStart => exact ⟨lo, hi, Lib.hid (by have := hL.out; unfold LH at this; omega), rfl, rfl, h0.out, .inl rfl, .inl rfl⟩
    case round =>
      clear h0
      obtain ⟨s, r, hsr, rfl, rfl, B, h1, h2⟩ := hrel
      have hsro := hsr.out
      have hGo := hG.out
      have hLo := hL.out
      unfold LH at hLo
      have hpo := hp.out
      have q0 : s ≤ 1000 := by omega
      have q1 : r ≤ 1000 := by omega
      by_cases hlt : s < r
      · have g1 : (s : Int) < (r : Int) := by omega
        obtain ⟨t, ht⟩ : ∃ t, t = s + r := ⟨_, rfl⟩
        obtain ⟨c, hc⟩ : ∃ h, h = t / 2 := ⟨_, rfl⟩
        obtain ⟨d, hd⟩ : ∃ h, h = p - c := ⟨_, rfl⟩
        have e1 : (s : Int) + (r : Int) = (t : Int) := by omega
        have e2 : (t : Int) / 2 = (c : Int) := by omega
        have e3 : (p : Int) - (c : Int) = (d : Int) := by omega
        have q2 : t ≤ 2000 := by omega
        have q3 : c ≤ 1000 := by omega
        have q4 : d ≤ 1000 := by omega
        have w1 : IntKind.i64.wrap (t : Int) = (t : Int) := by rw [IntKind.wrap_i64]; omega
        have w2 := half_u q2
        have w3 : IntKind.i64.wrap (c : Int) = (c : Int) := by rw [IntKind.wrap_i64]; omega
        have w4 : IntKind.i64.wrap (d : Int) = (d : Int) := by rw [IntKind.wrap_i64]; omega
        have hph := Lib.hid (show s ≤ c ∧ c < r by omega)
        obtain ⟨x, hx⟩ : ∃ x, X[c - a]? = some x := ⟨_, List.getElem?_eq_getElem (by omega)⟩
        obtain ⟨y, hy⟩ : ∃ x, Y[d - m]? = some x := ⟨_, List.getElem?_eq_getElem (by omega)⟩
        have hxg : (P ++ (X ++ (Y ++ S)))[c]? = some x := by
          rw [List.getElem?_append_right (by rw [ha.out]; omega), ha.out, List.getElem?_append_left (List.getElem?_eq_some_iff.1 hx).1]
          exact hx
        have hyg : (P ++ (X ++ (Y ++ S)))[d]? = some y := by
          rw [List.getElem?_append_right (by rw [ha.out]; omega), ha.out, List.getElem?_append_right (by omega), show d - a - X.length = d - m by omega, List.getElem?_append_left (List.getElem?_eq_some_iff.1 hy).1]
          exact hy
        obtain ⟨cx, _⟩ := B.cl hxg
        obtain ⟨cy, _⟩ := B.cl hyg
        have hcmp := Lib.hid (fun W => cmpT_any y x W (hYu.out y (List.mem_of_getElem? hy)) (hXu.out x (List.mem_of_getElem? hx)))
        have hn1 : (c : Int) < (n : Int) := by omega
        have hn2 : (d : Int) < (n : Int) := by omega
        rw [hd] at hy
        replace ht := Lib.hid ht
        replace hc := Lib.hid hc
        replace hd := Lib.hid hd
        replace hx := Lib.hid hx
        replace hy := Lib.hid hy
        replace h1 := Lib.hid h1
        replace h2 := Lib.hid h2
        replace B := Lib.hid B
        clear hsro hGo hLo hpo hlt hxg hyg
        by_cases hv : F10.siz y < F10.siz x
        · have hdd : (F10.siz y : Int) - (F10.siz x : Int) < 0 := by omega
          replace hv := Lib.hid hv
          go_upto_region 35 with fail
          have hbase := Lib.hid (St.new wr)
          refine RW.begin (Z := []) (S := (fun W => Below wr.heap.size wr W)) (by kernel_rfl) ?_ hbase.out ?_
          · exact ⟨by kernel_rfl, zis_nil, by decide, by decide, nol_nil, (fun _ _ h => h.bel)⟩
          intro hzk
          refine RW.t (i := 0) (v := cmpV) (some 158) at0 (hy := fun _ _ => by kernel_rfl) (h := ?_)
          refine RW.t (i := 1) (v := .slice (some ⟨g, 0, none⟩) n cp) (some 159) at1 (hy := fun _ _ => by kernel_rfl) (h := ?_)
          refine RW.t (i := 2) (v := .int .i64 (p : Int)) (some 160) at2 (hy := fun _ _ => by kernel_rfl) (h := ?_)
          refine RW.t (i := 3) (v := .int .i64 (c : Int)) (some 161) at3 (hy := fun _ _ => by kernel_rfl) (h := ?_)
          refine RW.t (i := 4) (v := .int .i64 (d : Int)) (some 162) at4 (hy := fun _ _ => by go_simp) (h := ?_)
          refine RW.t (i := 5) (v := .pointer (some ⟨g, d, none⟩)) (some 163) at5 (hy := fun _ _ => by go_simp) (h := ?_)
          refine RW.t (i := 6) (v := .int .u64 (y : Int)) (some 164) at6 (hy := fun W hS => by (have k0 := bel_cell hS cy; clear hS; go_simp)) (h := ?_)
          refine RW.t (i := 7) (v := .slice (some ⟨g, 0, none⟩) n cp) (some 165) at7 (hy := fun _ _ => by kernel_rfl) (h := ?_)
          refine RW.t (i := 8) (v := .int .i64 (c : Int)) (some 166) at8 (hy := fun _ _ => by kernel_rfl) (h := ?_)
          refine RW.t (i := 9) (v := .pointer (some ⟨g, c, none⟩)) (some 167) at9 (hy := fun _ _ => by go_simp) (h := ?_)
          refine RW.t (i := 10) (v := .int .u64 (x : Int)) (some 168) at10 (hy := fun W hS => by (have k0 := bel_cell hS cx; clear hS; go_simp)) (h := ?_)
          refine RW.c (i := 11) (args := #[.int .u64 (y : Int), .int .u64 (x : Int)]) (some 169) hzk.out at11 (hx := fun _ => by kernel_rfl) (h := fun W T9 => (hcmp.out W).mono ?_)
          rintro e9 w9 ⟨rfl, rfl⟩
          refine ⟨Below.refl _ _, _, [], rfl, (fun r hr => by cases hr), ?_⟩
          refine RW.t (i := 12) (v := .bool true) (some 170) at12 (hy := fun _ _ => by go_simp) (h := ?_)
          refine RW.t (i := 13) (v := .bool false) (some 171) at13 (hy := fun _ _ => by go_simp) (h := ?_)
          refine RW.tail hzk.out (by kernel_rfl) ?_
          intro gs' w5 hgs' hS Sb
          obtain rfl := len0 hgs'
          simp only [mark, fill, Act.put, List.setIfInBounds_toArray, List.set_cons_zero, List.set_cons_succ]
          refine Wk.done (by kernel_rfl) ?_
          have T := Lib.hid (B.out.call hS)
          clear Sb hgs' hzk hbase hS B cx cy hcmp hdd
          try go_simp
          have k1 := hph.out
          have k2 := hsr.out
          go_wp2
          go_roundw
          case rel => exact ⟨s, c, Lib.hid (by omega), rfl, rfl, T.out, h1.out, .inr ⟨x, y, hx.out, hy.out, hv.out⟩⟩
          case measure => simp [intOf]; omega
        · have hdd : ¬ ((F10.siz y : Int) - (F10.siz x : Int) < 0) := by omega
          replace hv := Lib.hid (show F10.siz x ≤ F10.siz y by omega)
          go_upto_region 35 with fail
          have hbase := Lib.hid (St.new wr)
          refine RW.begin (Z := []) (S := (fun W => Below wr.heap.size wr W)) (by kernel_rfl) ?_ hbase.out ?_
          · exact ⟨by kernel_rfl, zis_nil, by decide, by decide, nol_nil, (fun _ _ h => h.bel)⟩
          intro hzk
          refine RW.t (i := 0) (v := cmpV) (some 158) at0 (hy := fun _ _ => by kernel_rfl) (h := ?_)
          refine RW.t (i := 1) (v := .slice (some ⟨g, 0, none⟩) n cp) (some 159) at1 (hy := fun _ _ => by kernel_rfl) (h := ?_)
          refine RW.t (i := 2) (v := .int .i64 (p : Int)) (some 160) at2 (hy := fun _ _ => by kernel_rfl) (h := ?_)
          refine RW.t (i := 3) (v := .int .i64 (c : Int)) (some 161) at3 (hy := fun _ _ => by kernel_rfl) (h := ?_)
          refine RW.t (i := 4) (v := .int .i64 (d : Int)) (some 162) at4 (hy := fun _ _ => by go_simp) (h := ?_)
          refine RW.t (i := 5) (v := .pointer (some ⟨g, d, none⟩)) (some 163) at5 (hy := fun _ _ => by go_simp) (h := ?_)
          refine RW.t (i := 6) (v := .int .u64 (y : Int)) (some 164) at6 (hy := fun W hS => by (have k0 := bel_cell hS cy; clear hS; go_simp)) (h := ?_)
          refine RW.t (i := 7) (v := .slice (some ⟨g, 0, none⟩) n cp) (some 165) at7 (hy := fun _ _ => by kernel_rfl) (h := ?_)
          refine RW.t (i := 8) (v := .int .i64 (c : Int)) (some 166) at8 (hy := fun _ _ => by kernel_rfl) (h := ?_)
          refine RW.t (i := 9) (v := .pointer (some ⟨g, c, none⟩)) (some 167) at9 (hy := fun _ _ => by go_simp) (h := ?_)
          refine RW.t (i := 10) (v := .int .u64 (x : Int)) (some 168) at10 (hy := fun W hS => by (have k0 := bel_cell hS cx; clear hS; go_simp)) (h := ?_)
          refine RW.c (i := 11) (args := #[.int .u64 (y : Int), .int .u64 (x : Int)]) (some 169) hzk.out at11 (hx := fun _ => by kernel_rfl) (h := fun W T9 => (hcmp.out W).mono ?_)
          rintro e9 w9 ⟨rfl, rfl⟩
          refine ⟨Below.refl _ _, _, [], rfl, (fun r hr => by cases hr), ?_⟩
          refine RW.t (i := 12) (v := .bool false) (some 170) at12 (hy := fun _ _ => by go_simp) (h := ?_)
          refine RW.t (i := 13) (v := .bool true) (some 171) at13 (hy := fun _ _ => by go_simp) (h := ?_)
          refine RW.tail hzk.out (by kernel_rfl) ?_
          intro gs' w5 hgs' hS Sb
          obtain rfl := len0 hgs'
          simp only [mark, fill, Act.put, List.setIfInBounds_toArray, List.set_cons_zero, List.set_cons_succ]
          refine Wk.done (by kernel_rfl) ?_
          have T := Lib.hid (B.out.call hS)
          clear Sb hgs' hzk hbase hS B cx cy hcmp hdd
          try go_simp
          have k1 := hph.out
          have k2 := hsr.out
          go_wp2
          go_roundw
          case rel => exact ⟨c + 1, r, Lib.hid (by omega), by go_num, rfl, T.out, .inr ⟨x, y, by rw [show c + 1 - 1 = c by omega]; exact hx.out, by rw [show c + 1 - 1 = c by omega]; exact hy.out, hv.out⟩, h2.out⟩
          case measure => simp [intOf]; omega
      · obtain rfl : s = r := by omega
        obtain ⟨e, he⟩ : ∃ k, k = nn - s := ⟨_, rfl⟩
        obtain ⟨u, hu2⟩ : ∃ k, k = s - a := ⟨_, rfl⟩
        obtain ⟨v, hv2⟩ : ∃ k, k = e - m := ⟨_, rfl⟩
        have hv3 : p - s - m = v - 1 := by clear h1 h2 v4 v5; omega
        have hv4 : s = a ∨ (u - 1 = s - 1 - a ∧ p - (s - 1) - m = v) := by clear h1 h2 v4 v5; omega
        have hv5 : lo = a → s = lo → u = 0 := by clear h1 h2 v4 v5; omega
        have hv6 : lo + b = nn → s = lo → v = Y.length := by clear h1 h2 v4 v5; omega
        have hv7 : s = a → u = 0 := by clear h1 h2 v4 v5; omega
        have hv8 : hi = mid → s = hi → v = 0 := by clear h1 h2 v4 v5; omega
        have hv9 : hi = m → s = hi → u = X.length := by clear h1 h2 v4 v5; omega
        have hcf := Lib.hid (cut_facts hXs.out hYs.out (u := u) (v := v) (by
          rcases h1 with h1 | ⟨x, y, hx, hy, hxy⟩
          · rcases hLo.2.2.2.2.2.1 with h3 | h3
            · exact .inl (hv5 h3 h1)
            · exact .inr (.inl (hv6 h3 h1))
          · rcases hv4 with h3 | ⟨h3, h4⟩
            · exact .inl (hv7 h3)
            · exact .inr (.inr ⟨x, y, by rw [h3]; exact hx, by rw [← h4]; exact hy, hxy⟩)) (by
          rcases h2 with h2 | ⟨x, y, hx, hy, hxy⟩
          · rcases hLo.2.2.2.2.2.2 with h3 | h3
            · exact .inr (.inl (hv8 h3 h2))
            · exact .inl (hv9 h3 h2)
          · exact .inr (.inr ⟨x, y, by rw [hu2]; exact hx, by rw [← hv3]; exact hy, hxy⟩)))
        clear hv3 hv4 hv5 hv6 hv7 hv8 hv9 h1 h2
        have hG2 := Lib.hid (show a ≤ s ∧ s ≤ m ∧ m ≤ e ∧ e ≤ b ∧ s ≤ mid ∧ a < mid ∧ mid < b ∧ u = s - a ∧ v = e - m ∧ u ≤ X.length ∧ v ≤ Y.length ∧ e - m = mid - s ∧ b - mid = (m - s) + (b - e) by omega)
        obtain ⟨X1, hX1⟩ : ∃ z, z = X.take u := ⟨_, rfl⟩
        obtain ⟨X2, hX2⟩ : ∃ z, z = X.drop u := ⟨_, rfl⟩
        obtain ⟨Y1, hY1⟩ : ∃ z, z = Y.take v := ⟨_, rfl⟩
        obtain ⟨Y2, hY2⟩ : ∃ z, z = Y.drop v := ⟨_, rfl⟩
        have eX : X = X1 ++ X2 := by rw [hX1, hX2, List.take_append_drop]
        have eY : Y = Y1 ++ Y2 := by rw [hY1, hY2, List.take_append_drop]
        have lX1 : X1.length = s - a := by rw [hX1, List.length_take]; omega
        have lX2 : X2.length = m - s := by rw [hX2, List.length_drop]; omega
        have lY1 : Y1.length = e - m := by rw [hY1, List.length_take]; omega
        have lY2 : Y2.length = b - e := by rw [hY2, List.length_drop]; omega
        rw [← hX1, ← hX2, ← hY1, ← hY2] at hcf
        have sX1 := Lib.hid (show SS.Srt F10.siz X1 by rw [hX1]; exact srt_tk hXs.out u)
        have sX2 := Lib.hid (show SS.Srt F10.siz X2 by rw [hX2]; exact srt_dp hXs.out u)
        have sY1 := Lib.hid (show SS.Srt F10.siz Y1 by rw [hY1]; exact srt_tk hYs.out v)
        have sY2 := Lib.hid (show SS.Srt F10.siz Y2 by rw [hY2]; exact srt_dp hYs.out v)
        have hlen := Lib.hid (show X1.length = s - a ∧ X2.length = m - s ∧ Y1.length = e - m ∧ Y2.length = b - e from ⟨lX1, lX2, lY1, lY2⟩)
        have B1 : Bl w0 wr g cp (P ++ (X1 ++ (X2 ++ (Y1 ++ (Y2 ++ S))))) bs := by
          rw [eX, eY] at B; simpa using B
        have hn2 := Lib.hid (show (P ++ (X1 ++ (X2 ++ (Y1 ++ (Y2 ++ S))))).length = n by
          rw [← hn.out, eX, eY]; simp)
        have hU2 := Lib.hid (show (U64 X1 ∧ U64 X2) ∧ U64 Y1 ∧ U64 Y2 by
          rw [hX1, hX2, hY1, hY2]
          exact ⟨⟨fun t ht => hXu.out t (List.mem_of_mem_take ht), fun t ht => hXu.out t (List.mem_of_mem_drop ht)⟩, fun t ht => hYu.out t (List.mem_of_mem_take ht), fun t ht => hYu.out t (List.mem_of_mem_drop ht)⟩)
        have hpl : (P ++ X1).length = s := by have := ha.out; rw [List.length_append]; omega
        have hR := Lib.hid (fun (h3 : s < m) (h4 : m < e) => rotate_any w0 wr g cp n bs (P ++ X1) X2 Y1 (Y2 ++ S) s m e (by simpa using B1) (by rw [← hn2.out]; simp) (by omega) hpl (by omega) (by omega) (by omega) (by omega))
        have hsm : X2 = [] ∨ Y1 = [] → P ++ (X1 ++ (X2 ++ (Y1 ++ (Y2 ++ S)))) = P ++ (X1 ++ (Y1 ++ (X2 ++ (Y2 ++ S)))) := by
          rintro (h5 | h5) <;> rw [h5] <;> simp
        have hNR := Lib.hid (fun (h3 : ¬ (s < m ∧ m < e)) => (show Bl w0 wr g cp (P ++ (X1 ++ (Y1 ++ (X2 ++ (Y2 ++ S))))) bs by
          rw [← hsm (by
            by_cases h5 : s < m
            · exact .inr (List.length_eq_zero_iff.1 (by omega))
            · exact .inl (List.length_eq_zero_iff.1 (by omega)))]
          exact B1))
        have q3 : e ≤ 1000 := by omega
        have e1 : (nn : Int) - (s : Int) = (e : Int) := by omega
        have w1 : IntKind.i64.wrap (e : Int) = (e : Int) := by rw [IntKind.wrap_i64]; omega
        have hXX := Lib.hid (show SS.Srt F10.siz (X1 ++ X2) by rw [← eX]; exact hXs.out)
        have hYY := Lib.hid (show SS.Srt F10.siz (Y1 ++ Y2) by rw [← eY]; exact hYs.out)
        have eXY := Lib.hid (show X ++ Y = (X1 ++ X2) ++ (Y1 ++ Y2) by rw [← eX, ← eY])
        replace he := Lib.hid he
        clear hsro hGo hLo hpo hlt B B1 hu2 hv2 hX1 hX2 hY1 hY2 eX eY lX1 lX2 lY1 lY2 hpl hsm
        obtain ⟨c1, hc1⟩ : ∃ c, c = (decide (s < m) && decide (m < e)) := ⟨_, rfl⟩
        replace hc1 := Lib.hid hc1
        obtain ⟨f1, q1e⟩ : ∃ q, decide (s < m) = q := ⟨_, rfl⟩
        obtain ⟨f2, q2e⟩ : ∃ q, decide (m < e) = q := ⟨_, rfl⟩
        go_upto_region 39 with fail
        go_cut [185] from 178 (fun v wc => v = .bool c1 ∧ wc = wr)
        case first =>
          cases f1 <;> cases f2 <;> (go_wp2; go_meet; exact ⟨by rw [hc1.out, q1e, q2e]; rfl, rfl⟩)
        case rest =>
          obtain ⟨rfl, rfl⟩ := hcut
          clear q1e q2e e1 w1
          go_upto_if 185 with fail
          go_cut [] from 186 (fun wc => Bl w0 wc g cp (P ++ (X1 ++ (Y1 ++ (X2 ++ (Y2 ++ S))))) bs)
          case first =>
            cases c1 with
            | true =>
              have h3 := hc1.out.symm
              rw [Bool.and_eq_true] at h3
              have hRR := Lib.hid (hR.out (of_decide_eq_true h3.1) (of_decide_eq_true h3.2))
              clear h3 hR
              go_wp2_with fail
              refine hRR.out.mono ?_
              rintro e9 w9 ⟨rfl, B'⟩
              have hJ := Lib.hid (show Bl w0 w9 g cp (P ++ (X1 ++ (Y1 ++ (X2 ++ (Y2 ++ S))))) bs by simpa using B')
              clear B' hRR
              go_wp2
              go_meet
              exact hJ.out
            | false =>
              have h3 := hc1.out.symm
              have hJ := Lib.hid (hNR.out (by
                intro h4
                rw [decide_eq_true h4.1, decide_eq_true h4.2] at h3
                cases h3))
              clear h3 hR
              go_wp2
              go_meet
              exact hJ.out
          case rest =>
            obtain ⟨wd, hwd⟩ : ∃ W, W = wc := ⟨wc, rfl⟩
            subst hwd
            have B2 := Lib.hid hcut
            have hI1 := Lib.hid (fun (h3 : a < s) (h4 : s < mid) => hIH.out P X1 Y1 (X2 ++ (Y2 ++ S)) wd a s mid (by have := hG.out; have := hG2.out; have := hlen.out; omega) B2.out (by have := hn2.out; simp only [List.length_append] at this ⊢; omega) ha.out (by have := hG2.out; have := hlen.out; omega) (by have := hG2.out; have := hlen.out; omega) (by have := hG2.out; have := hlen.out; omega) (by have := hG2.out; have := hlen.out; omega) sX1.out sY1.out (u64_app hU2.out.1.1 hU2.out.2.1))
            have hN1 := Lib.hid (fun (h3 : ¬ (a < s ∧ s < mid)) => (show ∃ Z, Bl w0 wd g cp (P ++ (Z ++ (X2 ++ (Y2 ++ S)))) bs ∧ SS.Srt F10.siz Z ∧ SS.Fil F10.siz Z (X1 ++ Y1) from ⟨X1 ++ Y1, by simpa using B2.out, by
              by_cases h5 : a < s
              · rw [List.length_eq_zero_iff.1 (show Y1.length = 0 by have := hG2.out; have := hlen.out; omega), List.append_nil]; exact sX1.out
              · rw [List.length_eq_zero_iff.1 (show X1.length = 0 by have := hG2.out; have := hlen.out; omega), List.nil_append]; exact sY1.out, SS.Fil.refl _⟩))
            clear hcut B2 hR hNR hc1
            obtain ⟨c2, hc2⟩ : ∃ c, c = (decide (a < s) && decide (s < mid)) := ⟨_, rfl⟩
            replace hc2 := Lib.hid hc2
            obtain ⟨f3, q3e⟩ : ∃ q, decide (a < s) = q := ⟨_, rfl⟩
            obtain ⟨f4, q4e⟩ : ∃ q, decide (s < mid) = q := ⟨_, rfl⟩
            go_upto_region 41 with fail
            go_cut [199] from 192 (fun v wc => v = .bool c2 ∧ wc = wd)
            case first =>
              cases f3 <;> cases f4 <;> (go_wp2; go_meet; exact ⟨by rw [hc2.out, q3e, q4e]; rfl, rfl⟩)
            case rest =>
              obtain ⟨rfl, rfl⟩ := hcut
              clear q3e q4e
              go_upto_if 199 with fail
              go_cut [] from 200 (fun wc => ∃ Z, Bl w0 wc g cp (P ++ (Z ++ (X2 ++ (Y2 ++ S)))) bs ∧ SS.Srt F10.siz Z ∧ SS.Fil F10.siz Z (X1 ++ Y1))
              case first =>
                cases c2 with
                | true =>
                  have h3 := hc2.out.symm
                  rw [Bool.and_eq_true] at h3
                  have hRR := Lib.hid (hI1.out (of_decide_eq_true h3.1) (of_decide_eq_true h3.2))
                  clear h3 hI1 hN1
                  go_wp2_with fail
                  refine hRR.out.mono ?_
                  rintro e9 w9 ⟨rfl, hJ⟩
                  replace hJ := Lib.hid hJ
                  clear hRR
                  go_wp2
                  go_meet
                  exact hJ.out
                | false =>
                  have h3 := hc2.out.symm
                  have hJ := Lib.hid (hN1.out (by
                    intro h4
                    rw [decide_eq_true h4.1, decide_eq_true h4.2] at h3
                    cases h3))
                  clear h3 hI1 hN1
                  go_wp2
                  go_meet
                  exact hJ.out
              case rest =>
                obtain ⟨wf, hwf⟩ : ∃ W, W = wc := ⟨wc, rfl⟩
                subst hwf
                obtain ⟨Z1, B3, sZ1, fZ1⟩ := hcut
                have lZ1 := fZ1.len
                rw [List.length_append] at lZ1
                have hZl := Lib.hid (show (P ++ Z1).length = mid by rw [List.length_append]; have := ha.out; have := hG2.out; have := hlen.out; omega)
                have hB3 := Lib.hid (show Bl w0 wf g cp ((P ++ Z1) ++ (X2 ++ (Y2 ++ S))) bs by rw [List.append_assoc]; exact B3)
                have hn3 := Lib.hid (show ((P ++ Z1) ++ (X2 ++ (Y2 ++ S))).length = n by have := hn2.out; simp only [List.length_append] at this ⊢; omega)
                have hI2 := Lib.hid (fun (h3 : mid < e) (h4 : e < b) => hIH.out (P ++ Z1) X2 Y2 S wf mid e b (by have := hG.out; have := hG2.out; have := hlen.out; omega) hB3.out hn3.out hZl.out (by have := hG2.out; have := hlen.out; omega) (by have := hG2.out; have := hlen.out; omega) (by have := hG2.out; have := hlen.out; omega) (by have := hG2.out; have := hlen.out; omega) sX2.out sY2.out (u64_app hU2.out.1.2 hU2.out.2.2))
                have hN2 := Lib.hid (fun (h3 : ¬ (mid < e ∧ e < b)) => (show ∃ Z, Bl w0 wf g cp ((P ++ Z1) ++ (Z ++ S)) bs ∧ SS.Srt F10.siz Z ∧ SS.Fil F10.siz Z (X2 ++ Y2) from ⟨X2 ++ Y2, by rw [List.append_assoc X2]; exact hB3.out, by
                  by_cases h5 : e < b
                  · rw [List.length_eq_zero_iff.1 (show X2.length = 0 by have := hG2.out; have := hlen.out; omega), List.nil_append]; exact sY2.out
                  · rw [List.length_eq_zero_iff.1 (show Y2.length = 0 by have := hG2.out; have := hlen.out; omega), List.append_nil]; exact sX2.out, SS.Fil.refl _⟩))
                have hfin := Lib.hid (fun W (hz : ∃ Z, Bl w0 W g cp ((P ++ Z1) ++ (Z ++ S)) bs ∧ SS.Srt F10.siz Z ∧ SS.Fil F10.siz Z (X2 ++ Y2)) => (show ∃ Z, Bl w0 W g cp (P ++ (Z ++ S)) bs ∧ SS.Srt F10.siz Z ∧ SS.Fil F10.siz Z (X ++ Y) by
                  obtain ⟨Z2, B4, sZ2, fZ2⟩ := hz
                  have := SS.sym_step hXX.out hYY.out hcf.out.1 hcf.out.2 sZ1 fZ1 sZ2 fZ2
                  rw [eXY.out]
                  exact ⟨Z1 ++ Z2, by simpa using B4, this.1, this.2⟩))
                clear B3 sZ1 fZ1 lZ1 hI1 hN1 hc2
                obtain ⟨c3, hc3⟩ : ∃ c, c = (decide (mid < e) && decide (e < b)) := ⟨_, rfl⟩
                replace hc3 := Lib.hid hc3
                obtain ⟨f5, q5e⟩ : ∃ q, decide (mid < e) = q := ⟨_, rfl⟩
                obtain ⟨f6, q6e⟩ : ∃ q, decide (e < b) = q := ⟨_, rfl⟩
                go_upto_region 43 with fail
                go_cut [213] from 206 (fun v wc => v = .bool c3 ∧ wc = wf)
                case first =>
                  cases f5 <;> cases f6 <;> (go_wp2; go_meet; exact ⟨by rw [hc3.out, q5e, q6e]; rfl, rfl⟩)
                case rest =>
                  obtain ⟨rfl, rfl⟩ := hcut
                  clear q5e q6e
                  cases c3 with
                  | true =>
                    have h3 := hc3.out.symm
                    rw [Bool.and_eq_true] at h3
                    have hRR := Lib.hid (hI2.out (of_decide_eq_true h3.1) (of_decide_eq_true h3.2))
                    clear h3 hI2 hN2
                    go_wp2_with fail
                    refine hRR.out.mono ?_
                    rintro e9 w9 ⟨rfl, hJ⟩
                    have hJ2 := Lib.hid (hfin.out _ hJ)
                    clear hRR hJ
                    go_wp2
                    go_end0
                    exact ⟨rfl, hJ2.out⟩
                  | false =>
                    have h3 := hc3.out.symm
                    have hJ2 := Lib.hid (hfin.out _ (hN2.out (by
                      intro h4
                      rw [decide_eq_true h4.1, decide_eq_true h4.2] at h3
                      cases h3)))
                    clear h3 hI2 hN2
                    go_wp2
                    go_end0
                    exact ⟨rfl, hJ2.out⟩
end Go.Proofs.YthbkdjbmkhmlnaaDoor
namespace Go.Proofs.YthbkdjbmkhmlnaaDoor
open Go.RowKit
set_option linter.unusedVariables false

theorem merge_all (w0 : World) (g cp n : Nat) (bs : List GBk) (hn5 : n ≤ 1000) : ∀ N, MergeAt w0 g cp n bs N
  | 0 => fun P X Y S w a m b hN _ _ _ _ _ h1 _ _ _ _ => absurd hN (by omega)
  | N + 1 => fun P X Y S w a m b hN h hn ha hm hb h1 h2 hX hY hu => by
    by_cases hle : X.length + Y.length ≤ N
    · exact merge_all w0 g cp n bs hn5 N P X Y S w a m b hle h hn ha hm hb h1 h2 hX hY hu
    · by_cases hx1 : X.length = 1
      · obtain ⟨x, rfl⟩ := List.length_eq_one_iff.1 hx1
        exact merge_front w0 w g cp n bs P Y S x a m b h hn hn5 ha hm hb hY hu
      · by_cases hy1 : Y.length = 1
        · obtain ⟨y, rfl⟩ := List.length_eq_one_iff.1 hy1
          exact merge_back w0 w g cp n bs P X S y a m b h hn hn5 ha hm hb (by omega) hX hu
        · exact merge_step w0 g cp n bs hn5 N (merge_all w0 g cp n bs hn5 N) P X Y S w a m b (by omega) h hn ha hm hb (by omega) (by omega) hX hY hu
/-- So what the sort asks of the merge holds. -/
theorem merge_ok (w0 : World) (g cp n : Nat) (bs : List GBk) (h20 : 20 < n) (hn5 : n ≤ 1000) : MergeOk w0 g cp bs n := by
  intro w X Y hX hn hsX hsY hu B
  have := merge_all w0 g cp n bs hn5 n [] X Y [] w 0 20 n (by omega) (by simpa using B) (by simpa using hn) rfl (by omega) (by omega) (by omega) (by omega) hsX hsY hu
  refine this.mono ?_
  rintro e w' ⟨rfl, Z, h1, h2, h3⟩
  exact ⟨rfl, Z, by simpa using h1, h2, h3⟩
end Go.Proofs.YthbkdjbmkhmlnaaDoor
namespace Go.Proofs.YthbkdjbmkhmlnaaDoor
open Go.RowKit
set_option linter.unusedVariables false

theorem cloneS_any (s : ByteArray) (w : World) (hs : s.size ≤ 281474976710656) : Calls Tryd.prog 53 #[.string s] w fun e w' => e = .returned (.string s) ∧ Below w.heap.size w w' := by
  have hH := Lib.hid (fun W => Tryd.stringslite_Clone s W hs)
  go_enter Tryd.func53, Tryd.ntmps53
  go_wp2_with fail
  refine (hH.out _).mono ?_
  rintro e w' ⟨rfl, hb⟩
  replace hb := Lib.hid hb
  go_wp2
  go_ret
  exact ⟨rfl, hb.out⟩
/-- The factors whose bits a term has, of the first ones. -/
def pk (fs : List Fa) (t k : Nat) : List Fa := ((List.range k).filter (t.testBit ·)).filterMap (fs[·]?)
theorem pk_yes {fs : List Fa} {t k : Nat} {f : Fa} (h : fs[k]? = some f) (ht : t.testBit k = true) : pk fs t (k + 1) = pk fs t k ++ [f] := by
  unfold pk
  rw [List.range_succ, List.filter_append, List.filterMap_append]
  congr 1
  simp [ht, h]
theorem pk_no {fs : List Fa} {t k : Nat} (ht : t.testBit k = false) : pk fs t (k + 1) = pk fs t k := by
  unfold pk
  rw [List.range_succ, List.filter_append, List.filterMap_append]
  simp [ht]
theorem pk_len (fs : List Fa) (t : Nat) (k : Nat) : (pk fs t k).length ≤ k := by
  unfold pk
  refine Nat.le_trans (List.length_filterMap_le _ _) (Nat.le_trans (List.length_filter_le _ _) ?_)
  simp
theorem pk_fac (A : List F10.Fac) (t : Nat) (h : A.length ≤ 64) : pk (A.map toFa) t A.length = (F10.fac A t).map toFa := by
  unfold pk F10.fac
  have e : (64 : Nat) = A.length + (64 - A.length) := by omega
  rw [e, List.range_add, List.filter_append, List.filterMap_append, List.map_append]
  have h2 : (((List.range (64 - A.length)).map (A.length + ·)).filter (t.testBit ·)).filterMap (A[·]?) = [] := by
    rw [List.filterMap_eq_nil_iff]
    intro i hi
    obtain ⟨j, _, rfl⟩ := List.mem_map.1 (List.mem_filter.1 hi).1
    exact List.getElem?_eq_none (by omega)
  rw [h2, List.map_nil, List.append_nil, List.map_filterMap]
  congr 1
  funext i
  rw [List.getElem?_map]

set_option maxRecDepth 100000 in
set_option maxHeartbeats 4000000 in
theorem factorsOf_any (fs : List Fa) (F : Option Addr) (m d xb t : Nat) (w : World) (h : LR faC w F m fs) (hm : m ≤ 64) (hx : w.cell? ⟨xb, 1, none⟩ = some (.slice F m d)) (hxl : xb < w.heap.size) (ht : t < 18446744073709551616) (hs : ∀ f ∈ fs, f.s.size ≤ 281474976710656) : Calls Tryd.prog 59 #[.pointer (some ⟨xb, 0, none⟩), .int .u64 (t : Int)] w fun e w' => ∃ v, e = .returned v ∧ Gro faC w w' [] [] 37 v (pk fs t m) := by
  have hlen := Lib.hid h.len
  replace h := Lib.hid h
  have hmm := Lib.hid hm
  replace hs := Lib.hid hs
  have hh := Lib.hid (fun (i : Nat) (hi : i < 64) W => has_any t i W ht hi)
  clear hm ht
  go_enter Tryd.func59, Tryd.ntmps59
  go_wp2
  clear hx hxl
  go_loopw [5, 13] (fun av iv wr => ∃ i : Nat, i ≤ m ∧ iv = .int .i64 i ∧ Gro faC w wr [] [] 37 av (pk fs t i)) (fun _ iv _ => m - (intOf iv).toNat)
  case atStart => exact ⟨0, Nat.zero_le _, rfl, Gro.nil_ _ (St.new w) _⟩
  case round =>
    obtain ⟨i, hin, rfl, G⟩ := hrel
    by_cases hlt : i < m
    · obtain ⟨b, o, f, rfl, hf, hfm, e0, e1⟩ := fa_get (h.out.bel G.st.bel) hlt
      have hih := Lib.hid hlt
      have g1 : (i : Int) < (m : Int) := by omega
      have g2 : (0 : Int) ≤ (i : Int) := by omega
      have hH := Lib.hid (fun W => hh.out i (by have := hmm.out; omega) W)
      have hCl := Lib.hid (fun W => cloneS_any f.s W (hs.out f hfm))
      have hpl := Lib.hid (pk_len fs t i)
      have hpy := Lib.hid (fun ht => pk_yes (t := t) hf ht)
      have hpn := Lib.hid (fun ht => pk_no (fs := fs) (t := t) (k := i) ht)
      have GA := Lib.hid (G.alloc #[.string f.s, .int .i64 f.k] 37 (noLof rfl))
      obtain ⟨nb, hnb⟩ : ∃ b, b = wr.heap.size := ⟨_, rfl⟩
      rw [← hnb] at GA
      obtain ⟨w3, hw3⟩ : ∃ W, W = wr.alloc (.cells #[.string f.s, .int .i64 f.k] 37) := ⟨_, rfl⟩
      rw [← hw3] at GA
      clear hlt hin hf hfm G hh
      generalize pk fs t i = M at *
      go_wp2_with fail
      rw [← hw3, ← hnb]
      clear hw3 hnb e0 e1
      refine (hH.out w3).mono ?_
      rintro e w3 ⟨rfl, rfl⟩
      cases hv : t.testBit i with
      | false =>
        rw [hv] at hpn
        have hq := Lib.hid (hpn.out rfl)
        have G2 := Lib.hid (GA.out.sub (fun _ _ => fa_in _))
        rw [← hq.out] at G2
        replace hv := Lib.hid hv
        clear hpn hpy GA hH
        have hlt := hih.out
        have hbb := hmm.out
        go_wp2
        go_roundw
        case rel => exact ⟨i + 1, by omega, by go_num, G2.out⟩
        case measure => simp [intOf]; omega
      | true =>
        rw [hv] at hpy
        have hq := Lib.hid (hpy.out rfl)
        replace hv := Lib.hid hv
        clear hpn hpy hH
        go_upto_region 6 with fail
        have hbase := Lib.hid (St.new w3)
        obtain ⟨A1, q1, rfl, _⟩ := GA.out.lr
        refine RW.begin (Z := []) (S := (fun V => Cb V nb #[.string f.s, .int .i64 f.k] 37 ∧ Below w.heap.size w V)) (by kernel_rfl) ?_ hbase.out ?_
        · exact ⟨by kernel_rfl, zis_nil, by decide, by decide, nol_nil, (fun _ _ h => ⟨(GA.out.st.cb 0 rfl).bel h.bel, GA.out.st.bel.trans (h.bel.mono GA.out.st.bel.size)⟩)⟩
        intro hzk
        refine RW.t (i := 0) (v := .slice A1 M.length q1) (some 21) at0 (hy := fun _ _ => by kernel_rfl) (h := ?_)
        refine RW.t (i := 1) (v := .pointer (some ⟨nb, 0, none⟩)) (some 22) at1 (hy := fun _ _ => by go_simp) (h := ?_)
        refine RW.t (i := 2) (v := .string f.s) (some 23) at2 (hy := fun W hS => by (have k0 := Cb.cell (i := 0) hS.1 rfl; clear hS; go_simp)) (h := ?_)
        refine RW.t (i := 4) (v := .pointer (some ⟨nb, 1, none⟩)) (some 25) at4 (hy := fun _ _ => by go_simp) (h := ?_)
        refine RW.t (i := 5) (v := .int .i64 f.k) (some 26) at5 (hy := fun W hS => by (have k0 := Cb.cell (i := 1) hS.1 rfl; clear hS; go_simp)) (h := ?_)
        refine RW.c (i := 3) (args := #[.string f.s]) (some 24) hzk.out at3 (hx := fun _ => by kernel_rfl) (h := fun W T9 => (hCl.out W).mono ?_)
        rintro e w9 ⟨rfl, hB9⟩
        refine ⟨hB9, _, [], rfl, (fun r hr => by cases hr), ?_⟩
        clear hB9
        refine RW.t (i := 6) (v := .agg #[.string f.s, .int .i64 f.k]) (some 27) at6 (hy := fun _ _ => by go_simp) (h := ?_)
        refine RW.tail hzk.out (by kernel_rfl) ?_
        intro gs' w5 hgs' hS Sb
        obtain rfl := len0 hgs'
        simp only [mark, fill, Act.put, List.setIfInBounds_toArray, List.set_cons_zero, List.set_cons_succ]
        have G2 := Lib.hid (GA.out.call Sb.bel)
        clear Sb hS hgs' hzk hbase GA
        refine Wk.o (i := 7) at7 (by kernel_rfl) fun K' hK => ?_
        go_simp
        have G3 := Lib.hid (G2.out.alloc #[.string f.s, .int .i64 f.k] 37 (noLof rfl))
        refine hK.out _ _ ⟨G3.out.st.cb 1 rfl, G3.out.st.bel⟩ ?_
        clear hK K' G2
        try simp only [Act.put, List.setIfInBounds_toArray, List.set_cons_zero, List.set_cons_succ]
        refine Wk.o (i := 8) at8 (by kernel_rfl) fun K' hK => ?_
        refine Gro.op (.tmp 21) (.tmp 28) 34 rfl (.agg #[.string ⟨#[]⟩, .int .i64 0]) 24 Tryd.underlying34 (by kernel_rfl) rfl (fun v hv z e => by simp [Value.cells] at hv; subst e; simp at hv) rfl G3.out _ f rfl (G3.out.st.cb 0 rfl) (fa_in f) (by have := hpl.out; have := hih.out; have := hmm.out; omega) (by have := hpl.out; have := hih.out; have := hmm.out; unfold maxLen; omega) ?_
        intro av1 w6 G4 hmk
        have hSX := Lib.hid (show Cb w6 nb #[.string f.s, .int .i64 f.k] 37 ∧ Below w.heap.size w w6 from ⟨G4.st.cb 1 rfl, G4.st.bel⟩)
        refine hK.out _ _ hSX.out ?_
        replace G4 := Lib.hid ((G4.sub (fun _ _ => fa_in _)).sub (fun _ _ => fa_in _))
        rw [← hq.out] at G4
        clear G3 hmk hK K'
        try simp only [Act.put, List.setIfInBounds_toArray, List.set_cons_zero, List.set_cons_succ]
        refine Wk.o (i := 9) at9 (by kernel_rfl) fun K' hK => ?_
        go_simp
        refine hK.out _ _ hSX.out ?_
        clear hK K' hSX
        try simp only [Act.put, List.setIfInBounds_toArray, List.set_cons_zero, List.set_cons_succ]
        refine Wk.done (by kernel_rfl) ?_
        try go_simp
        have hlt := hih.out
        have hbb := hmm.out
        go_wp2
        go_roundw
        case rel => exact ⟨i + 1, by omega, by go_num, G4.out⟩
        case measure => simp [intOf]; omega
    · obtain rfl : i = m := by omega
      replace G := Lib.hid G
      clear hlt hin
      go_wp2
      go_ret
      exact ⟨_, rfl, G.out⟩
end Go.Proofs.YthbkdjbmkhmlnaaDoor
namespace Go.Proofs.YthbkdjbmkhmlnaaDoor
open Go.RowKit
set_option linter.unusedVariables false

section
variable {P : Program} {ops : Array Oper} {Q : Exit → Act → World → Prop} {S : World → Prop} {K : List Nat}
/-- None of the late ones has come up. -/
def early (K : List Nat) (L : Array Bool) : Bool := K.all fun k => !(L.getD k false)
def wpL (P : Program) (ops : Array Oper) (Q : Exit → Act → World → Prop) (S : World → Prop) (K : List Nat) : Nat → Array Bool → Act → World → Prop
  | 0, L, a, w => Region.ready .any ops L = [] ∧ Q .normal a w
  | n + 1, L, a, w => (Region.ready .any ops L = [] → Q .normal a w) ∧
    ∀ i ∈ Region.ready .any ops L, wpOp P ops Q i (fun a' w' => (early K (L.setIfInBounds i true) = true → S w') ∧ wpL P ops Q S K n (L.setIfInBounds i true) a' w') a w
theorem wpAny_of_L : ∀ (fuel : Nat) (L : Array Bool) (a : Act) (w : World), wpL P ops Q S K fuel L a w → wpAny P .any ops Q fuel L a w
  | 0, _, _, _, h => h
  | n + 1, _, _, _, h => ⟨h.1, fun i hi => wpOp_mono (fun a' w' h' => wpAny_of_L n _ a' w' h'.2) (h.2 i hi)⟩
/-- Whatever has come up had all before it that it waits for. -/
def clos (ops : Array Oper) (L : Array Bool) : Prop := ∀ j o, ops[j]? = some o → L.getD j false = true → ∀ e ∈ o.after, Region.binds .any e = true → L.getD e.on false = true
def closB (ops : Array Oper) (L : Array Bool) : Bool := (List.range ops.size).all fun j => !(L.getD j false) || match ops[j]? with
  | some o => o.after.toList.all fun e => !(Region.binds .any e) || L.getD e.on false
  | none => true
theorem clos_of {L : Array Bool} (h : closB ops L = true) : clos ops L := by
  intro j o ho hj e he hb
  have hlt : j < ops.size := (Array.getElem?_eq_some_iff.1 ho).1
  have := List.all_eq_true.1 h j (List.mem_range.2 hlt)
  rw [ho, hj] at this
  simp only [Bool.not_true, Bool.false_or] at this
  have := List.all_eq_true.1 this e (by simpa using he)
  rw [hb] at this
  simpa using this
/-- k waits for i, perhaps by way of others. -/
def waits (ops : Array Oper) (i : Nat) : Nat → Nat → Bool
  | 0, _ => false
  | n + 1, k => match ops[k]? with
    | some o => o.after.toList.any fun e => Region.binds .any e && (e.on == i || waits ops i n e.on)
    | none => false
theorem waits_done {i : Nat} {L : Array Bool} (hc : clos ops L) : ∀ (n k : Nat) (o : Oper), ops[k]? = some o → (∀ e ∈ o.after, Region.binds .any e = true → L.getD e.on false = true) → waits ops i n k = true → L.getD i false = true := by
  intro n
  induction n with
  | zero => intro k o _ _ h; cases h
  | succ n ih =>
    intro k o ho hd h
    unfold waits at h
    rw [ho] at h
    obtain ⟨e, he, h⟩ := List.any_eq_true.1 h
    rw [Bool.and_eq_true, Bool.or_eq_true] at h
    obtain ⟨hb, h⟩ := h
    have hde := hd e (by simpa using he) hb
    rcases h with h | h
    · rw [← eq_of_beq h]; exact hde
    · cases hn : ops[e.on]? with
      | none => cases n with
        | zero => cases h
        | succ n => unfold waits at h; rw [hn] at h; cases h
      | some o' => exact ih e.on o' hn (fun e' he' hb' => hc _ o' hn hde e' he' hb') h
theorem clos_set {j : Nat} {L : Array Bool} (hc : clos ops L) (hj : j ∈ Region.ready .any ops L) : clos ops (L.setIfInBounds j true) := by
  intro k o ho hk e he hb
  obtain ⟨hju, oj, hoj, hall⟩ := mem_ready.1 hj
  by_cases hkj : j = k
  · subst hkj
    rw [ho] at hoj
    obtain rfl := Option.some.inj hoj
    exact getD_set_true (hall e he hb)
  · have : L.getD k false = true := by
      rwa [getD_set_ne false hkj] at hk
    exact getD_set_true (hc k o ho this e he hb)
theorem early_set {j : Nat} {L : Array Bool} (h : early K L = true) (hj : j ∉ K) : early K (L.setIfInBounds j true) = true := by
  refine List.all_eq_true.2 fun k hk => ?_
  have := List.all_eq_true.1 h k hk
  rwa [getD_set_ne false (show j ≠ k from fun e => hj (by rw [e]; exact hk))]
theorem wpL_first {i : Nat} {oi : Oper} {v : Value} (hi : ops[i]? = some oi) (hsel : ∀ (j : Nat) (o : Oper) cs b, ops[j]? = some o → o.op ≠ .select cs b)
    (hQ : ∀ c a w, Q (.panic c) (a.put oi.dst v) w → Q (.panic c) a w) (hiK : i ∉ K) (hw : ∀ k ∈ K, ∃ n, waits ops i n k = true) :
    ∀ (fuel : Nat) (L : Array Bool) (a : Act) (w : World), clos ops L → early K L = true →
      (∀ j oj, ops[j]? = some oj → j ≠ i → L.getD j true = false → (∀ e ∈ oj.after, Region.binds .any e = true → e.on ≠ i) → oi.apart ops oj = true) →
      i ∈ Region.ready .any ops L → YieldsIf P ops S oi v a → S w →
      wpL P ops Q S K fuel (L.setIfInBounds i true) (a.put oi.dst v) w → wpL P ops Q S K (fuel + 1) L a w := by
  intro fuel
  induction fuel with
  | zero =>
    intro L a w _ _ _ hr hy hS H
    refine ⟨fun h => (by rw [h] at hr; cases hr), fun j hj => ?_⟩
    by_cases hji : j = i
    · subst hji; exact hy.wpOp hi hS ⟨fun _ => hS, H⟩
    · have := ready_mono hj hji
      rw [H.1] at this
      cases this
  | succ fuel ih =>
    intro L a w hcl hea hfree hr hy hS H
    refine ⟨fun h => (by rw [h] at hr; cases hr), fun j hj => ?_⟩
    by_cases hji : j = i
    · subst hji; exact hy.wpOp hi hS ⟨fun _ => hS, H⟩
    · have h1 := H.2 j (ready_mono hj hji)
      obtain ⟨hjun, oj, hoj, hall⟩ := mem_ready.1 hj
      have hiun : ¬ L.getD i false = true := fun h1 => by
        have h0 := (mem_ready.1 hr).1
        rcases Nat.lt_or_ge i L.size with h' | h'
        · simp [h'] at h0 h1; rw [h0] at h1; cases h1
        · simp [Array.getElem?_eq_none h'] at h1
      have hnot : ∀ e ∈ oj.after, Region.binds .any e = true → e.on ≠ i := fun e he hb heq => by
        have h1 := hall e he hb
        rw [heq] at h1
        exact hiun h1
      have hjK : j ∉ K := fun hk => by
        obtain ⟨n, hn⟩ := hw j hk
        exact hiun (waits_done hcl n j oj hoj hall hn)
      have h2 := wpOp_putIf hoj (hfree j oj hoj hji hjun hnot) (fun cs b => hsel i oi cs b hi) (fun cs b => hsel j oj cs b hoj) hQ hy h1
      have hfree' : ∀ k ok, ops[k]? = some ok → k ≠ i → (L.setIfInBounds j true).getD k true = false →
          (∀ e ∈ ok.after, Region.binds .any e = true → e.on ≠ i) → oi.apart ops ok = true := fun k ok hk hki hun hno => by
        refine hfree k ok hk hki ?_ hno
        by_cases hjk : j = k
        · subst hjk; exact hjun
        · rw [getD_set_ne true hjk] at hun; exact hun
      have hej : early K (L.setIfInBounds j true) = true := early_set hea hjK
      refine wpOp_mono (fun a' w' h3 => ⟨fun _ => h3.2.1 (by rw [Array.setIfInBounds_comm _ _ (Ne.symm hji)]; exact early_set hej hiK), ih (L.setIfInBounds j true) a' w' (clos_set hcl hj) hej hfree' (ready_mono hr (Ne.symm hji)) h3.1 (h3.2.1 (by rw [Array.setIfInBounds_comm _ _ (Ne.symm hji)]; exact early_set hej hiK)) ?_⟩) h2
      rw [Array.setIfInBounds_comm _ _ hji]
      exact h3.2.2
/-- What is left of such a region. -/
def Wl (P : Program) (ops : Array Oper) (Q : Exit → Act → World → Prop) (S : World → Prop) (K : List Nat) (L : Array Bool) (a : Act) (w : World) : Prop := wpL P ops Q S K (lft L) L a w
theorem Wl.start {id : Nat} {a : Act} {w : World} (S : World → Prop) (K : List Nat) (hm : P.follows .mixedOrders = true) (h : Wl P ops Q S K (Array.replicate ops.size false) a w.drew) : (Code.region id ops true).wp P Q a w := by
  unfold Wl at h
  rw [show lft (Array.replicate ops.size false) = ops.size by simp [lft]] at h
  exact wp_region_any hm (wpAny_of_L _ _ _ _ h)
def lateOk (ops : Array Oper) (K : List Nat) (L : Array Bool) (i : Nat) : Bool :=
  Region.noSelect ops && Region.free .any ops L i && (Region.ready .any ops L).contains i && closB ops L && early K L && !(K.contains i) && K.all (waits ops i 20)
/-- A step that only looks. -/
theorem Wl.t {L : Array Bool} {a : Act} {w : World} {i : Nat} {oi : Oper} {v : Value} (dst : Option Nat) (hi : ops[i]? = some oi) (hd : oi.dst = dst := by rfl) (hc : lateOk ops K L i = true := by kernel_rfl) (hw : Region.wanted oi (yielded ops a.tmps) = true := by kernel_rfl)
    (hQ : ∀ c a w, Q (.panic c) (Act.put a dst v) w → Q (.panic c) a w := by exact fun _ _ _ h => h) (hy : ∀ w, S w → (execOp a.eval oi).run P w = .ok (.value v) w) (hS : S w)
    (h : Wl P ops Q S K (L.setIfInBounds i true) (a.put dst v) w) : Wl P ops Q S K L a w := by
  simp only [lateOk, Bool.and_eq_true, Bool.not_eq_true'] at hc
  obtain ⟨⟨⟨⟨⟨⟨c1, c2⟩, c3⟩, c4⟩, c5⟩, c6⟩, c7⟩ := hc
  subst hd
  have hm : i ∈ Region.ready .any ops L := by simpa using c3
  unfold Wl at *
  rw [lft_set (mem_ready.1 hm).1]
  exact wpL_first hi (Region.noSelect_spec c1) hQ (by simpa using c6) (fun k hk => ⟨20, List.all_eq_true.1 c7 k hk⟩) _ _ _ _ (clos_of c4) c5 (Region.free_spec hi c2) hm (.inl ⟨hw, hy⟩) hS h
theorem Wl.one {i : Nat} {o : Oper} {L : Array Bool} {a : Act} {w : World} (hr : (Region.ready .any ops L == [i]) = true) (ho : ops[i]? = some o) (hw : Region.wanted o (yielded ops a.tmps) = true)
    (h : ∀ K' : Act → World → Prop, Shut (∀ a w, (early K (L.setIfInBounds i true) = true → S w) → Wl P ops Q S K (L.setIfInBounds i true) a w → K' a w) → Oper.wp P o a w K' Q) : Wl P ops Q S K L a w := by
  have hr : Region.ready .any ops L = [i] := by simpa using hr
  have hm : i ∈ Region.ready .any ops L := by rw [hr]; exact List.mem_singleton.2 rfl
  unfold Wl at *
  rw [lft_set (mem_ready.1 hm).1]
  refine ⟨fun h0 => (by rw [h0] at hr; cases hr), fun j hj => ?_⟩
  rw [hr] at hj
  have := List.mem_singleton.1 hj
  subst this
  exact wpOp_step ho (fun K' hK => by rw [if_pos hw]; exact h K' (fun a w hS hW => hK a w ⟨hS, hW⟩))
/-- The operation that comes next, before the late ones; a late one. -/
theorem Wl.g {i : Nat} {o : Oper} {L : Array Bool} {a : Act} {w : World} (ho : ops[i]? = some o) (hr : (Region.ready .any ops L == [i]) = true) (hw : Region.wanted o (yielded ops a.tmps) = true)
    (h : ∀ K' : Act → World → Prop, Shut (∀ a w, S w → Wl P ops Q S K (L.setIfInBounds i true) a w → K' a w) → Oper.wp P o a w K' Q) : Wl P ops Q S K L a w := by
  refine Wl.one hr ho hw fun K' hK => h K' ?_
  exact fun a w hS hW => hK.out a w (fun _ => hS) hW
theorem Wl.s {i : Nat} {o : Oper} {L : Array Bool} {a : Act} {w : World} (ho : ops[i]? = some o) (hr : (Region.ready .any ops L == [i]) = true) (hw : Region.wanted o (yielded ops a.tmps) = true) (hk : early K (L.setIfInBounds i true) = false)
    (h : ∀ K' : Act → World → Prop, Shut (∀ a w, Wl P ops Q S K (L.setIfInBounds i true) a w → K' a w) → Oper.wp P o a w K' Q) : Wl P ops Q S K L a w := by
  refine Wl.one hr ho hw fun K' hK => h K' ?_
  exact fun a w hW => hK.out a w (fun h => by rw [hk] at h; cases h) hW
theorem Wl.done {L : Array Bool} {a : Act} {w : World} (hr : Region.ready .any ops L = []) (h : Q .normal a w) : Wl P ops Q S K L a w := by
  unfold Wl
  cases lft L with
  | zero => exact ⟨hr, h⟩
  | succ n => exact ⟨fun _ => h, by rw [hr]; simp⟩
end
end Go.Proofs.YthbkdjbmkhmlnaaDoor
