/- Merging where one block is a single term. -/
import Derived.Test.YthbkdjbmkhmlnaaDoorB20
namespace Go.Proofs.YthbkdjbmkhmlnaaDoor
open Go.RowKit
set_option linter.unusedVariables false

theorem srt_le {L : List Nat} (h : SS.Srt F10.siz L) {i j x y : Nat} (hx : L[i]? = some x) (hy : L[j]? = some y) (hij : i ≤ j) : F10.siz x ≤ F10.siz y := by
  rcases Nat.lt_or_ge i j with h1 | h1
  · obtain ⟨hi, rfl⟩ := List.getElem?_eq_some_iff.1 hx
    obtain ⟨hj, rfl⟩ := List.getElem?_eq_some_iff.1 hy
    exact List.pairwise_iff_getElem.1 h i j hi hj h1
  · obtain rfl : i = j := by omega
    rw [hx] at hy
    injection hy with hy
    rw [hy]; exact Nat.le_refl _
/-- What lies in front of the place r, and behind it. -/
theorem srt_take {L : List Nat} (h : SS.Srt F10.siz L) {r : Nat} {Q : Nat → Prop} (hQ : ∀ x y, F10.siz x ≤ F10.siz y → Q y → Q x) (h1 : r = 0 ∨ ∃ y, L[r - 1]? = some y ∧ Q y) : ∀ x ∈ L.take r, Q x := by
  intro x hx
  obtain ⟨i, hi⟩ := List.mem_iff_getElem?.1 hx
  rw [List.getElem?_take] at hi
  split at hi
  · rename_i hir
    rcases h1 with rfl | ⟨y, hy, hq⟩
    · omega
    · exact hQ x y (srt_le h hi hy (by omega)) hq
  · cases hi
theorem srt_drop {L : List Nat} (h : SS.Srt F10.siz L) {r : Nat} {Q : Nat → Prop} (hQ : ∀ x y, F10.siz x ≤ F10.siz y → Q x → Q y) (h1 : r = L.length ∨ ∃ y, L[r]? = some y ∧ Q y) : ∀ x ∈ L.drop r, Q x := by
  intro x hx
  obtain ⟨i, hi⟩ := List.mem_iff_getElem?.1 hx
  rw [List.getElem?_drop] at hi
  rcases h1 with rfl | ⟨y, hy, hq⟩
  · have := (List.getElem?_eq_some_iff.1 hi).1; omega
  · exact hQ y x (srt_le h hy hi (by omega)) hq
/-- A single term in front of a sorted list, moved to its place. -/
theorem front_ok {Y : List Nat} {x r : Nat} (hY : SS.Srt F10.siz Y) (h1 : r = 0 ∨ ∃ y, Y[r - 1]? = some y ∧ F10.siz y < F10.siz x) (h2 : r = Y.length ∨ ∃ y, Y[r]? = some y ∧ F10.siz x ≤ F10.siz y) : SS.Srt F10.siz (Y.take r ++ x :: Y.drop r) ∧ SS.Fil F10.siz (Y.take r ++ x :: Y.drop r) ([x] ++ Y) := by
  have ht := srt_take hY (r := r) (Q := fun z => F10.siz z < F10.siz x) (fun a b hab hb => Nat.lt_of_le_of_lt hab hb) h1
  have hd := srt_drop hY (r := r) (Q := fun z => F10.siz x ≤ F10.siz z) (fun a b hab hb => Nat.le_trans hb hab) h2
  have hs := hY
  rw [← List.take_append_drop r Y] at hs
  unfold SS.Srt at hs ⊢
  rw [List.pairwise_append] at hs
  refine ⟨?_, ?_⟩
  · rw [List.pairwise_append, List.pairwise_cons]
    refine ⟨hs.1, ⟨hd, hs.2.1⟩, fun a ha b hb => ?_⟩
    rcases List.mem_cons.1 hb with rfl | hb
    · exact Nat.le_of_lt (ht a ha)
    · exact hs.2.2 a ha b hb
  · have h := (SS.fil_swap (k := F10.siz) (u := [x]) (v := Y.take r) (fun z hz y hy => by rw [List.mem_singleton.1 hz]; exact ht y hy)).symm.app (SS.Fil.refl (k := F10.siz) (Y.drop r))
    rw [List.append_assoc, List.append_assoc, List.take_append_drop] at h
    exact h
/-- A single term behind a sorted list, moved to its place. -/
theorem back_ok {X : List Nat} {y r : Nat} (hX : SS.Srt F10.siz X) (h1 : r = 0 ∨ ∃ x, X[r - 1]? = some x ∧ F10.siz x ≤ F10.siz y) (h2 : r = X.length ∨ ∃ x, X[r]? = some x ∧ F10.siz y < F10.siz x) : SS.Srt F10.siz (X.take r ++ y :: X.drop r) ∧ SS.Fil F10.siz (X.take r ++ y :: X.drop r) (X ++ [y]) := by
  have ht := srt_take hX (r := r) (Q := fun z => F10.siz z ≤ F10.siz y) (fun a b hab hb => Nat.le_trans hab hb) h1
  have hd := srt_drop hX (r := r) (Q := fun z => F10.siz y < F10.siz z) (fun a b hab hb => Nat.lt_of_lt_of_le hb hab) h2
  have := SS.ins_ok (k := F10.siz) (p := X.take r) (q := X.drop r) (x := y) (by rw [List.take_append_drop]; exact hX) hd ht
  rw [List.take_append_drop] at this
  exact ⟨this.1, this.2.symm⟩
/-- The middle of two places. -/
theorem half_u {s : Nat} (h : s ≤ 2000) : IntKind.u64.wrap (s : Int) = (s : Int) := by rw [IntKind.wrap_u64]; omega

set_option maxRecDepth 100000 in
set_option maxHeartbeats 4000000 in
theorem merge_front (w0 w : World) (g cp n : Nat) (bs : List GBk) (P Y S : List Nat) (x : Nat) (a m b : Nat) (h : Bl w0 w g cp (P ++ ([x] ++ (Y ++ S))) bs) (hn : (P ++ ([x] ++ (Y ++ S))).length = n) (hn5 : n ≤ 1000) (ha : P.length = a) (hm : a + 1 = m) (hb : m + Y.length = b) (hYs : SS.Srt F10.siz Y) (hu : U64 ([x] ++ Y)) :
    Calls Tryd.prog 108 #[.slice (some ⟨g, 0, none⟩) n cp, .int .i64 a, .int .i64 m, .int .i64 b, cmpV] w fun e w' => e = .returned (.tuple #[]) ∧ ∃ Z, Bl w0 w' g cp (P ++ (Z ++ S)) bs ∧ SS.Srt F10.siz Z ∧ SS.Fil F10.siz Z ([x] ++ Y) := by
  have hbn : b ≤ n := by rw [← hn]; simp; omega
  have b0 : a ≤ 1000 := by omega
  have b1 : b ≤ 1000 := by omega
  have b2 : m ≤ 1000 := by omega
  have e1 : (m : Int) - (a : Int) = 1 := by omega
  have h0 := Lib.hid h
  have hxu : Hid (x < 18446744073709551616) := Lib.hid (hu x (by simp))
  have hYu : Hid (∀ y ∈ Y, y < 18446744073709551616) := Lib.hid fun y hy => hu y (by simp [hy])
  have hok := Lib.hid (fun r => @front_ok Y x r hYs)
  replace hn5 := Lib.hid hn5
  replace ha := Lib.hid ha
  have hmh := Lib.hid hm
  have hbh := Lib.hid hb
  replace hbn := Lib.hid hbn
  have an : (a : Int) < (n : Int) := by have := hbn.out; omega
  clear h hm hb hYs hu hn
  go_enter Tryd.func108, Tryd.ntmps108
  go_wp2
  clear e1
  go_loopw [10, 11] (fun iv jv wr => ∃ p q : Nat, Hid (m ≤ p ∧ p ≤ q ∧ q ≤ b) ∧ iv = .int .i64 (p : Int) ∧ jv = .int .i64 (q : Int) ∧ Bl w0 wr g cp (P ++ ([x] ++ (Y ++ S))) bs ∧ (p - m = 0 ∨ ∃ y, Y[p - m - 1]? = some y ∧ F10.siz y < F10.siz x) ∧ (q - m = Y.length ∨ ∃ y, Y[q - m]? = some y ∧ F10.siz x ≤ F10.siz y)) (fun iv jv _ => (intOf jv - intOf iv).toNat)
  case atStart => exact ⟨m, b, Lib.hid (by have := hbh.out; omega), rfl, rfl, h0.out, .inl (by omega), .inl (by have := hbh.out; omega)⟩
  case round =>
    clear h0
    obtain ⟨p, q, hpq, rfl, rfl, B, h1, h2⟩ := hrel
    have hlo := hbh.out
    have hno := hn5.out
    have hbno := hbn.out
    have hpqo := hpq.out
    have hmo := hmh.out
    have q0 : p ≤ 1000 := by omega
    have q1 : q ≤ 1000 := by omega
    by_cases hlt : p < q
    · have g1 : (p : Int) < (q : Int) := by omega
      obtain ⟨t, ht⟩ : ∃ t, t = p + q := ⟨_, rfl⟩
      obtain ⟨h, hh⟩ : ∃ h, h = t / 2 := ⟨_, rfl⟩
      have e1 : (p : Int) + (q : Int) = (t : Int) := by omega
      have e2 : (t : Int) / 2 = (h : Int) := by omega
      have q2 : t ≤ 2000 := by omega
      have q3 : h ≤ 1000 := by omega
      have w1 : IntKind.i64.wrap (t : Int) = (t : Int) := by rw [IntKind.wrap_i64]; omega
      have w2 := half_u q2
      have w3 : IntKind.i64.wrap (h : Int) = (h : Int) := by rw [IntKind.wrap_i64]; omega
      have hph := Lib.hid (show p ≤ h ∧ h < q by omega)
      obtain ⟨y, hy⟩ : ∃ y, Y[h - m]? = some y := ⟨_, List.getElem?_eq_getElem (by omega)⟩
      have hxg : (P ++ ([x] ++ (Y ++ S)))[a]? = some x := get_mid P x _ ha.out.symm
      have hyg : (P ++ ([x] ++ (Y ++ S)))[h]? = some y := by
        rw [List.getElem?_append_right (by rw [ha.out]; omega), ha.out, show ([x] ++ (Y ++ S)) = x :: (Y ++ S) from rfl, show h - a = (h - m) + 1 by omega, List.getElem?_cons_succ, List.getElem?_append_left (List.getElem?_eq_some_iff.1 hy).1]
        exact hy
      obtain ⟨cx, _⟩ := B.cl hxg
      obtain ⟨cy, _⟩ := B.cl hyg
      have hcmp := Lib.hid (fun W => cmpT_any y x W (hYu.out y (List.mem_of_getElem? hy)) hxu.out)
      have hn1 : (h : Int) < (n : Int) := by omega
      replace ht := Lib.hid ht
      replace hh := Lib.hid hh
      replace hy := Lib.hid hy
      replace h1 := Lib.hid h1
      replace h2 := Lib.hid h2
      replace B := Lib.hid B
      clear hlo hno hbno hpqo hlt hmo hxg hyg
      by_cases hv : F10.siz y < F10.siz x
      · have hd : (F10.siz y : Int) - (F10.siz x : Int) < 0 := by omega
        replace hv := Lib.hid hv
        go_upto_region 5 with fail
        have hbase := Lib.hid (St.new wr)
        refine RW.begin (Z := []) (S := (fun W => Below wr.heap.size wr W)) (by kernel_rfl) ?_ hbase.out ?_
        · exact ⟨by kernel_rfl, zis_nil, by decide, by decide, nol_nil, (fun _ _ h => h.bel)⟩
        intro hzk
        refine RW.t (i := 0) (v := cmpV) (some 40) at0 (hy := fun _ _ => by kernel_rfl) (h := ?_)
        refine RW.t (i := 1) (v := .slice (some ⟨g, 0, none⟩) n cp) (some 41) at1 (hy := fun _ _ => by kernel_rfl) (h := ?_)
        refine RW.t (i := 2) (v := .int .i64 (h : Int)) (some 42) at2 (hy := fun _ _ => by kernel_rfl) (h := ?_)
        refine RW.t (i := 3) (v := .pointer (some ⟨g, h, none⟩)) (some 43) at3 (hy := fun _ _ => by go_simp) (h := ?_)
        refine RW.t (i := 4) (v := .int .u64 (y : Int)) (some 44) at4 (hy := fun W hS => by (have k0 := bel_cell hS cy; clear hS; go_simp)) (h := ?_)
        refine RW.t (i := 5) (v := .slice (some ⟨g, 0, none⟩) n cp) (some 45) at5 (hy := fun _ _ => by kernel_rfl) (h := ?_)
        refine RW.t (i := 6) (v := .int .i64 (a : Int)) (some 46) at6 (hy := fun _ _ => by kernel_rfl) (h := ?_)
        refine RW.t (i := 7) (v := .pointer (some ⟨g, a, none⟩)) (some 47) at7 (hy := fun _ _ => by go_simp) (h := ?_)
        refine RW.t (i := 8) (v := .int .u64 (x : Int)) (some 48) at8 (hy := fun W hS => by (have k0 := bel_cell hS cx; clear hS; go_simp)) (h := ?_)
        refine RW.c (i := 9) (args := #[.int .u64 (y : Int), .int .u64 (x : Int)]) (some 49) hzk.out at9 (hx := fun _ => by kernel_rfl) (h := fun W T9 => (hcmp.out W).mono ?_)
        rintro e w9 ⟨rfl, rfl⟩
        refine ⟨Below.refl _ _, _, [], rfl, (fun r hr => by cases hr), ?_⟩
        refine RW.t (i := 10) (v := .bool true) (some 50) at10 (hy := fun _ _ => by go_simp) (h := ?_)
        refine RW.tail hzk.out (by kernel_rfl) ?_
        intro gs' w5 hgs' hS Sb
        obtain rfl := len0 hgs'
        simp only [mark, fill, Act.put, List.setIfInBounds_toArray, List.set_cons_zero, List.set_cons_succ]
        refine Wk.done (by kernel_rfl) ?_
        have T := Lib.hid (B.out.call hS)
        clear Sb hgs' hzk hbase hS B cx cy hcmp hd
        try go_simp
        have k1 := hph.out
        have k2 := hpq.out
        go_wp2
        go_roundw
        case rel => exact ⟨h + 1, q, Lib.hid (by omega), by go_num, rfl, T.out, .inr ⟨y, by rw [show h + 1 - m - 1 = h - m by omega]; exact hy.out, hv.out⟩, h2.out⟩
        case measure => simp [intOf]; omega
      · have hd : ¬ ((F10.siz y : Int) - (F10.siz x : Int) < 0) := by omega
        replace hv := Lib.hid (show F10.siz x ≤ F10.siz y by omega)
        go_upto_region 5 with fail
        have hbase := Lib.hid (St.new wr)
        refine RW.begin (Z := []) (S := (fun W => Below wr.heap.size wr W)) (by kernel_rfl) ?_ hbase.out ?_
        · exact ⟨by kernel_rfl, zis_nil, by decide, by decide, nol_nil, (fun _ _ h => h.bel)⟩
        intro hzk
        refine RW.t (i := 0) (v := cmpV) (some 40) at0 (hy := fun _ _ => by kernel_rfl) (h := ?_)
        refine RW.t (i := 1) (v := .slice (some ⟨g, 0, none⟩) n cp) (some 41) at1 (hy := fun _ _ => by kernel_rfl) (h := ?_)
        refine RW.t (i := 2) (v := .int .i64 (h : Int)) (some 42) at2 (hy := fun _ _ => by kernel_rfl) (h := ?_)
        refine RW.t (i := 3) (v := .pointer (some ⟨g, h, none⟩)) (some 43) at3 (hy := fun _ _ => by go_simp) (h := ?_)
        refine RW.t (i := 4) (v := .int .u64 (y : Int)) (some 44) at4 (hy := fun W hS => by (have k0 := bel_cell hS cy; clear hS; go_simp)) (h := ?_)
        refine RW.t (i := 5) (v := .slice (some ⟨g, 0, none⟩) n cp) (some 45) at5 (hy := fun _ _ => by kernel_rfl) (h := ?_)
        refine RW.t (i := 6) (v := .int .i64 (a : Int)) (some 46) at6 (hy := fun _ _ => by kernel_rfl) (h := ?_)
        refine RW.t (i := 7) (v := .pointer (some ⟨g, a, none⟩)) (some 47) at7 (hy := fun _ _ => by go_simp) (h := ?_)
        refine RW.t (i := 8) (v := .int .u64 (x : Int)) (some 48) at8 (hy := fun W hS => by (have k0 := bel_cell hS cx; clear hS; go_simp)) (h := ?_)
        refine RW.c (i := 9) (args := #[.int .u64 (y : Int), .int .u64 (x : Int)]) (some 49) hzk.out at9 (hx := fun _ => by kernel_rfl) (h := fun W T9 => (hcmp.out W).mono ?_)
        rintro e w9 ⟨rfl, rfl⟩
        refine ⟨Below.refl _ _, _, [], rfl, (fun r hr => by cases hr), ?_⟩
        refine RW.t (i := 10) (v := .bool false) (some 50) at10 (hy := fun _ _ => by go_simp) (h := ?_)
        refine RW.tail hzk.out (by kernel_rfl) ?_
        intro gs' w5 hgs' hS Sb
        obtain rfl := len0 hgs'
        simp only [mark, fill, Act.put, List.setIfInBounds_toArray, List.set_cons_zero, List.set_cons_succ]
        refine Wk.done (by kernel_rfl) ?_
        have T := Lib.hid (B.out.call hS)
        clear Sb hgs' hzk hbase hS B cx cy hcmp hd
        try go_simp
        have k1 := hph.out
        have k2 := hpq.out
        go_wp2
        go_roundw
        case rel => exact ⟨p, h, Lib.hid (by omega), rfl, rfl, T.out, h1.out, .inr ⟨y, hy.out, hv.out⟩⟩
        case measure => simp [intOf]; omega
    · obtain rfl : p = q := by omega
      obtain ⟨r, hr⟩ : ∃ r, r = p - m := ⟨_, rfl⟩
      obtain ⟨p1, hp1⟩ : ∃ r, r = p - 1 := ⟨_, rfl⟩
      rw [← hr] at h1 h2
      have hz := Lib.hid (hok.out r h1 h2)
      have hrl := Lib.hid (show r ≤ Y.length ∧ p1 = a + r ∧ p = p1 + 1 by omega)
      have e1 : (p : Int) - 1 = (p1 : Int) := by omega
      have q2 : p1 ≤ 1000 := by omega
      have w1 : IntKind.i64.wrap (p1 : Int) = (p1 : Int) := by rw [IntKind.wrap_i64]; omega
      have hB0 := Lib.hid (show Bl w0 wr g cp (P ++ (Y.take 0 ++ (x :: (Y.drop 0 ++ S)))) bs from B)
      replace hr := Lib.hid hr
      replace hp1 := Lib.hid hp1
      clear hlo hno hbno hpqo hlt hmo h1 h2 B
      go_wp2
      go_loopw [13] (fun kv wr => ∃ k t : Nat, Hid (k = a + t ∧ t ≤ r) ∧ kv = .int .i64 (k : Int) ∧ Bl w0 wr g cp (P ++ (Y.take t ++ (x :: (Y.drop t ++ S)))) bs) (fun kv _ => p1 - (intOf kv).toNat)
      case atStart => exact ⟨a, 0, Lib.hid (by omega), rfl, hB0.out⟩
      case round =>
        clear hB0
        obtain ⟨k, t, hkt, rfl, B⟩ := hrel
        have hkto := hkt.out
        have hrlo := hrl.out
        have q3 : k ≤ 1000 := by omega
        by_cases hlt : t < r
        · obtain ⟨y, hy⟩ : ∃ y, Y[t]? = some y := ⟨_, List.getElem?_eq_getElem (by omega)⟩
          have hl1 : (P ++ Y.take t).length = k := by have := ha.out; rw [List.length_append, List.length_take]; omega
          obtain ⟨k1, hk1⟩ : ∃ k1, k1 = k + 1 := ⟨_, rfl⟩
          have eL : P ++ (Y.take t ++ (x :: (Y.drop t ++ S))) = (P ++ Y.take t) ++ x :: ([] ++ y :: (Y.drop (t + 1) ++ S)) := by rw [drop_cons_of hy]; simp
          have eR : P ++ (Y.take (t + 1) ++ (x :: (Y.drop (t + 1) ++ S))) = (P ++ Y.take t) ++ y :: ([] ++ x :: (Y.drop (t + 1) ++ S)) := by rw [take_snoc_of hy]; simp
          rw [eL] at B
          have hswap := swap_mid (P ++ Y.take t) [] (Y.drop (t + 1) ++ S) x y hl1 (show k + 1 + ([] : List Nat).length = k1 by rw [hk1]; rfl)
          have hxg : ((P ++ Y.take t) ++ x :: ([] ++ y :: (Y.drop (t + 1) ++ S)))[k]? = some x := get_mid _ x _ hl1.symm
          have hyg : ((P ++ Y.take t) ++ x :: ([] ++ y :: (Y.drop (t + 1) ++ S)))[k1]? = some y := by
            rw [show (P ++ Y.take t) ++ x :: ([] ++ y :: (Y.drop (t + 1) ++ S)) = ((P ++ Y.take t) ++ [x]) ++ y :: (Y.drop (t + 1) ++ S) by simp]
            exact get_mid _ y _ (by rw [List.length_append, hl1, hk1]; rfl)
          obtain ⟨cx, fx⟩ := B.cl hxg
          obtain ⟨cy, fy⟩ := B.cl hyg
          have hB2 := Lib.hid (((B.set y (i := k) (List.getElem?_eq_some_iff.1 hxg).1).set x (i := k1) (by rw [List.length_set]; exact (List.getElem?_eq_some_iff.1 hyg).1)).drew)
          rw [hswap, ← eR] at hB2
          have g1 : (k : Int) < (p1 : Int) := by omega
          have e2 : (k : Int) + 1 = (k1 : Int) := by omega
          have q4 : k1 ≤ 1000 := by omega
          have w2 : IntKind.i64.wrap (k1 : Int) = (k1 : Int) := by rw [IntKind.wrap_i64]; omega
          have hbno := hbn.out
          have hpqo := hpq.out
          have n1 : (k : Int) < (n : Int) := by omega
          have n2 : (k1 : Int) < (n : Int) := by omega
          have hne : k ≠ k1 := by omega
          have hlth := Lib.hid hlt
          have hk1h := Lib.hid hk1
          clear B hxg hyg eL eR hswap hl1 hy hk1 hlt hkto hrlo hbno hpqo
          go_upto_region 11 with fail
          go_region
          go_wp2
          have k3 := hkt.out
          have k4 := hrl.out
          have k5 := hlth.out
          have k6 := hk1h.out
          go_roundw
          case rel => exact ⟨k1, t + 1, Lib.hid (by omega), by go_num, hB2.out⟩
          case measure => simp [intOf]; omega
        · obtain rfl : t = r := by omega
          have hout := Lib.hid (show ∃ Z, Bl w0 wr g cp (P ++ (Z ++ S)) bs ∧ SS.Srt F10.siz Z ∧ SS.Fil F10.siz Z ([x] ++ Y) from ⟨Y.take t ++ x :: Y.drop t, by simpa using B, hz.out.1, hz.out.2⟩)
          have g1 : ¬ ((k : Int) < (p1 : Int)) := by omega
          clear B hlt hkto hrlo
          go_wp2
          refine bodyPost_ret (results_none rfl _ _ _) rfl ?_
          exact ⟨rfl, hout.out⟩
end Go.Proofs.YthbkdjbmkhmlnaaDoor
namespace Go.Proofs.YthbkdjbmkhmlnaaDoor
open Go.RowKit
set_option linter.unusedVariables false

set_option maxRecDepth 100000 in
set_option maxHeartbeats 4000000 in
theorem merge_back (w0 w : World) (g cp n : Nat) (bs : List GBk) (P X S : List Nat) (y : Nat) (a m b : Nat) (h : Bl w0 w g cp (P ++ (X ++ ([y] ++ S))) bs) (hn : (P ++ (X ++ ([y] ++ S))).length = n) (hn5 : n ≤ 1000) (ha : P.length = a) (hm : a + X.length = m) (hb : m + 1 = b) (hX2 : 2 ≤ X.length) (hXs : SS.Srt F10.siz X) (hu : U64 (X ++ [y])) :
    Calls Tryd.prog 108 #[.slice (some ⟨g, 0, none⟩) n cp, .int .i64 a, .int .i64 m, .int .i64 b, cmpV] w fun e w' => e = .returned (.tuple #[]) ∧ ∃ Z, Bl w0 w' g cp (P ++ (Z ++ S)) bs ∧ SS.Srt F10.siz Z ∧ SS.Fil F10.siz Z (X ++ [y]) := by
  have hbn : b ≤ n := by rw [← hn]; simp; omega
  have b0 : a ≤ 1000 := by omega
  have b1 : b ≤ 1000 := by omega
  have b2 : m ≤ 1000 := by omega
  obtain ⟨x0, hx0⟩ : ∃ k, k = X.length := ⟨_, rfl⟩
  have e0 : (m : Int) - (a : Int) = (x0 : Int) := by omega
  have w0' : IntKind.i64.wrap (x0 : Int) = (x0 : Int) := by rw [IntKind.wrap_i64]; omega
  have g0 : ((x0 : Int) == 1) = false := by rw [beq_eq_false_iff_ne]; omega
  have b3 : x0 ≤ 1000 := by omega
  have e1 : (b : Int) - (m : Int) = 1 := by omega
  have h0 := Lib.hid h
  have hyu : Hid (y < 18446744073709551616) := Lib.hid (hu y (by simp))
  have hXu : Hid (∀ x ∈ X, x < 18446744073709551616) := Lib.hid fun x hx => hu x (by simp [hx])
  have hok := Lib.hid (fun r => @back_ok X y r hXs)
  replace hx0 := Lib.hid hx0
  replace hn5 := Lib.hid hn5
  replace ha := Lib.hid ha
  have hmh := Lib.hid hm
  have hbh := Lib.hid hb
  replace hbn := Lib.hid hbn
  have an : (m : Int) < (n : Int) := by have := hbn.out; omega
  clear h hm hb hXs hu hn hX2
  go_enter Tryd.func108, Tryd.ntmps108
  go_wp2
  clear e1 e0 w0' g0
  go_loopw [14, 15] (fun iv jv wr => ∃ p q : Nat, Hid (a ≤ p ∧ p ≤ q ∧ q ≤ m) ∧ iv = .int .i64 (p : Int) ∧ jv = .int .i64 (q : Int) ∧ Bl w0 wr g cp (P ++ (X ++ ([y] ++ S))) bs ∧ (p - a = 0 ∨ ∃ x, X[p - a - 1]? = some x ∧ F10.siz x ≤ F10.siz y) ∧ (q - a = X.length ∨ ∃ x, X[q - a]? = some x ∧ F10.siz y < F10.siz x)) (fun iv jv _ => (intOf jv - intOf iv).toNat)
  case atStart => exact ⟨a, m, Lib.hid (by have := hmh.out; omega), rfl, rfl, h0.out, .inl (by omega), .inl (by have := hmh.out; omega)⟩
  case round =>
    clear h0
    obtain ⟨p, q, hpq, rfl, rfl, B, h1, h2⟩ := hrel
    have hlo := hbh.out
    have hno := hn5.out
    have hbno := hbn.out
    have hpqo := hpq.out
    have hmo := hmh.out
    have q0 : p ≤ 1000 := by omega
    have q1 : q ≤ 1000 := by omega
    by_cases hlt : p < q
    · have g1 : (p : Int) < (q : Int) := by omega
      obtain ⟨t, ht⟩ : ∃ t, t = p + q := ⟨_, rfl⟩
      obtain ⟨h, hh⟩ : ∃ h, h = t / 2 := ⟨_, rfl⟩
      have e1 : (p : Int) + (q : Int) = (t : Int) := by omega
      have e2 : (t : Int) / 2 = (h : Int) := by omega
      have q2 : t ≤ 2000 := by omega
      have q3 : h ≤ 1000 := by omega
      have w1 : IntKind.i64.wrap (t : Int) = (t : Int) := by rw [IntKind.wrap_i64]; omega
      have w2 := half_u q2
      have w3 : IntKind.i64.wrap (h : Int) = (h : Int) := by rw [IntKind.wrap_i64]; omega
      have hph := Lib.hid (show p ≤ h ∧ h < q by omega)
      obtain ⟨x, hx⟩ : ∃ x, X[h - a]? = some x := ⟨_, List.getElem?_eq_getElem (by omega)⟩
      have hyg : (P ++ (X ++ ([y] ++ S)))[m]? = some y := by
        rw [← List.append_assoc]
        exact get_mid (P ++ X) y _ (by rw [List.length_append, ha.out]; omega)
      have hxg : (P ++ (X ++ ([y] ++ S)))[h]? = some x := by
        rw [List.getElem?_append_right (by rw [ha.out]; omega), ha.out, List.getElem?_append_left (List.getElem?_eq_some_iff.1 hx).1]
        exact hx
      obtain ⟨cx, _⟩ := B.cl hxg
      obtain ⟨cy, _⟩ := B.cl hyg
      have hcmp := Lib.hid (fun W => cmpT_any y x W hyu.out (hXu.out x (List.mem_of_getElem? hx)))
      have hn1 : (h : Int) < (n : Int) := by omega
      replace ht := Lib.hid ht
      replace hh := Lib.hid hh
      replace hx := Lib.hid hx
      replace h1 := Lib.hid h1
      replace h2 := Lib.hid h2
      replace B := Lib.hid B
      clear hlo hno hbno hpqo hlt hmo hxg hyg
      by_cases hv : F10.siz y < F10.siz x
      · have hd : (F10.siz y : Int) - (F10.siz x : Int) < 0 := by omega
        replace hv := Lib.hid hv
        go_upto_region 17 with fail
        have hbase := Lib.hid (St.new wr)
        refine RW.begin (Z := []) (S := (fun W => Below wr.heap.size wr W)) (by kernel_rfl) ?_ hbase.out ?_
        · exact ⟨by kernel_rfl, zis_nil, by decide, by decide, nol_nil, (fun _ _ h => h.bel)⟩
        intro hzk
        refine RW.t (i := 0) (v := cmpV) (some 92) at0 (hy := fun _ _ => by kernel_rfl) (h := ?_)
        refine RW.t (i := 1) (v := .slice (some ⟨g, 0, none⟩) n cp) (some 93) at1 (hy := fun _ _ => by kernel_rfl) (h := ?_)
        refine RW.t (i := 2) (v := .int .i64 (m : Int)) (some 94) at2 (hy := fun _ _ => by kernel_rfl) (h := ?_)
        refine RW.t (i := 3) (v := .pointer (some ⟨g, m, none⟩)) (some 95) at3 (hy := fun _ _ => by go_simp) (h := ?_)
        refine RW.t (i := 4) (v := .int .u64 (y : Int)) (some 96) at4 (hy := fun W hS => by (have k0 := bel_cell hS cy; clear hS; go_simp)) (h := ?_)
        refine RW.t (i := 5) (v := .slice (some ⟨g, 0, none⟩) n cp) (some 97) at5 (hy := fun _ _ => by kernel_rfl) (h := ?_)
        refine RW.t (i := 6) (v := .int .i64 (h : Int)) (some 98) at6 (hy := fun _ _ => by kernel_rfl) (h := ?_)
        refine RW.t (i := 7) (v := .pointer (some ⟨g, h, none⟩)) (some 99) at7 (hy := fun _ _ => by go_simp) (h := ?_)
        refine RW.t (i := 8) (v := .int .u64 (x : Int)) (some 100) at8 (hy := fun W hS => by (have k0 := bel_cell hS cx; clear hS; go_simp)) (h := ?_)
        refine RW.c (i := 9) (args := #[.int .u64 (y : Int), .int .u64 (x : Int)]) (some 101) hzk.out at9 (hx := fun _ => by kernel_rfl) (h := fun W T9 => (hcmp.out W).mono ?_)
        rintro e w9 ⟨rfl, rfl⟩
        refine ⟨Below.refl _ _, _, [], rfl, (fun r hr => by cases hr), ?_⟩
        refine RW.t (i := 10) (v := .bool true) (some 102) at10 (hy := fun _ _ => by go_simp) (h := ?_)
        refine RW.t (i := 11) (v := .bool false) (some 103) at11 (hy := fun _ _ => by go_simp) (h := ?_)
        refine RW.tail hzk.out (by kernel_rfl) ?_
        intro gs' w5 hgs' hS Sb
        obtain rfl := len0 hgs'
        simp only [mark, fill, Act.put, List.setIfInBounds_toArray, List.set_cons_zero, List.set_cons_succ]
        refine Wk.done (by kernel_rfl) ?_
        have T := Lib.hid (B.out.call hS)
        clear Sb hgs' hzk hbase hS B cx cy hcmp hd
        try go_simp
        have k1 := hph.out
        have k2 := hpq.out
        go_wp2
        go_roundw
        case rel => exact ⟨p, h, Lib.hid (by omega), rfl, rfl, T.out, h1.out, .inr ⟨x, hx.out, hv.out⟩⟩
        case measure => simp [intOf]; omega
      · have hd : ¬ ((F10.siz y : Int) - (F10.siz x : Int) < 0) := by omega
        replace hv := Lib.hid (show F10.siz x ≤ F10.siz y by omega)
        go_upto_region 17 with fail
        have hbase := Lib.hid (St.new wr)
        refine RW.begin (Z := []) (S := (fun W => Below wr.heap.size wr W)) (by kernel_rfl) ?_ hbase.out ?_
        · exact ⟨by kernel_rfl, zis_nil, by decide, by decide, nol_nil, (fun _ _ h => h.bel)⟩
        intro hzk
        refine RW.t (i := 0) (v := cmpV) (some 92) at0 (hy := fun _ _ => by kernel_rfl) (h := ?_)
        refine RW.t (i := 1) (v := .slice (some ⟨g, 0, none⟩) n cp) (some 93) at1 (hy := fun _ _ => by kernel_rfl) (h := ?_)
        refine RW.t (i := 2) (v := .int .i64 (m : Int)) (some 94) at2 (hy := fun _ _ => by kernel_rfl) (h := ?_)
        refine RW.t (i := 3) (v := .pointer (some ⟨g, m, none⟩)) (some 95) at3 (hy := fun _ _ => by go_simp) (h := ?_)
        refine RW.t (i := 4) (v := .int .u64 (y : Int)) (some 96) at4 (hy := fun W hS => by (have k0 := bel_cell hS cy; clear hS; go_simp)) (h := ?_)
        refine RW.t (i := 5) (v := .slice (some ⟨g, 0, none⟩) n cp) (some 97) at5 (hy := fun _ _ => by kernel_rfl) (h := ?_)
        refine RW.t (i := 6) (v := .int .i64 (h : Int)) (some 98) at6 (hy := fun _ _ => by kernel_rfl) (h := ?_)
        refine RW.t (i := 7) (v := .pointer (some ⟨g, h, none⟩)) (some 99) at7 (hy := fun _ _ => by go_simp) (h := ?_)
        refine RW.t (i := 8) (v := .int .u64 (x : Int)) (some 100) at8 (hy := fun W hS => by (have k0 := bel_cell hS cx; clear hS; go_simp)) (h := ?_)
        refine RW.c (i := 9) (args := #[.int .u64 (y : Int), .int .u64 (x : Int)]) (some 101) hzk.out at9 (hx := fun _ => by kernel_rfl) (h := fun W T9 => (hcmp.out W).mono ?_)
        rintro e w9 ⟨rfl, rfl⟩
        refine ⟨Below.refl _ _, _, [], rfl, (fun r hr => by cases hr), ?_⟩
        refine RW.t (i := 10) (v := .bool false) (some 102) at10 (hy := fun _ _ => by go_simp) (h := ?_)
        refine RW.t (i := 11) (v := .bool true) (some 103) at11 (hy := fun _ _ => by go_simp) (h := ?_)
        refine RW.tail hzk.out (by kernel_rfl) ?_
        intro gs' w5 hgs' hS Sb
        obtain rfl := len0 hgs'
        simp only [mark, fill, Act.put, List.setIfInBounds_toArray, List.set_cons_zero, List.set_cons_succ]
        refine Wk.done (by kernel_rfl) ?_
        have T := Lib.hid (B.out.call hS)
        clear Sb hgs' hzk hbase hS B cx cy hcmp hd
        try go_simp
        have k1 := hph.out
        have k2 := hpq.out
        go_wp2
        go_roundw
        case rel => exact ⟨h + 1, q, Lib.hid (by omega), by go_num, rfl, T.out, .inr ⟨x, by rw [show h + 1 - a - 1 = h - a by omega]; exact hx.out, hv.out⟩, h2.out⟩
        case measure => simp [intOf]; omega
    · obtain rfl : p = q := by omega
      obtain ⟨r, hr⟩ : ∃ r, r = p - a := ⟨_, rfl⟩
      rw [← hr] at h1 h2
      have hz := Lib.hid (hok.out r h1 h2)
      have hrl := Lib.hid (show r ≤ X.length ∧ p = a + r ∧ m = a + X.length by omega)
      have hB0 := Lib.hid (show Bl w0 wr g cp (P ++ (X.take X.length ++ (y :: (X.drop X.length ++ S)))) bs by rw [List.take_length, List.drop_length]; exact B)
      replace hr := Lib.hid hr
      clear hlo hno hbno hpqo hlt hmo h1 h2 B
      go_wp2
      go_loopw [17] (fun kv wr => ∃ k u : Nat, Hid (k = a + u ∧ r ≤ u ∧ u ≤ X.length) ∧ kv = .int .i64 (k : Int) ∧ Bl w0 wr g cp (P ++ (X.take u ++ (y :: (X.drop u ++ S)))) bs) (fun kv _ => (intOf kv).toNat - p)
      case atStart => exact ⟨m, X.length, Lib.hid (by have := hrl.out; omega), rfl, hB0.out⟩
      case round =>
        clear hB0
        obtain ⟨k, u, hkt, rfl, B⟩ := hrel
        have hkto := hkt.out
        have hrlo := hrl.out
        have q3 : k ≤ 1000 := by omega
        by_cases hlt : r < u
        · obtain ⟨u1, hu1⟩ : ∃ u1, u = u1 + 1 := ⟨u - 1, by omega⟩
          subst hu1
          obtain ⟨z, hz1⟩ : ∃ z, X[u1]? = some z := ⟨_, List.getElem?_eq_getElem (by omega)⟩
          obtain ⟨k1, hk1⟩ : ∃ k1, k1 = a + u1 := ⟨_, rfl⟩
          have hl1 : (P ++ X.take u1).length = k1 := by have := ha.out; rw [List.length_append, List.length_take]; omega
          have eL : P ++ (X.take (u1 + 1) ++ (y :: (X.drop (u1 + 1) ++ S))) = (P ++ X.take u1) ++ z :: ([] ++ y :: (X.drop (u1 + 1) ++ S)) := by rw [take_snoc_of hz1]; simp
          have eR : P ++ (X.take u1 ++ (y :: (X.drop u1 ++ S))) = (P ++ X.take u1) ++ y :: ([] ++ z :: (X.drop (u1 + 1) ++ S)) := by rw [drop_cons_of hz1]; simp
          rw [eL] at B
          have hswap := swap_mid (P ++ X.take u1) [] (X.drop (u1 + 1) ++ S) z y hl1 (show k1 + 1 + ([] : List Nat).length = k by rw [List.length_nil]; omega)
          have hzg : ((P ++ X.take u1) ++ z :: ([] ++ y :: (X.drop (u1 + 1) ++ S)))[k1]? = some z := get_mid _ z _ hl1.symm
          have hyg : ((P ++ X.take u1) ++ z :: ([] ++ y :: (X.drop (u1 + 1) ++ S)))[k]? = some y := by
            rw [show (P ++ X.take u1) ++ z :: ([] ++ y :: (X.drop (u1 + 1) ++ S)) = ((P ++ X.take u1) ++ [z]) ++ y :: (X.drop (u1 + 1) ++ S) by simp]
            exact get_mid _ y _ (by rw [List.length_append, hl1, List.length_singleton]; omega)
          obtain ⟨cz, fz⟩ := B.cl hzg
          obtain ⟨cy, fy⟩ := B.cl hyg
          have hne : k1 ≠ k := by omega
          have hB2 := Lib.hid (((B.set z (i := k) (List.getElem?_eq_some_iff.1 hyg).1).set y (i := k1) (by rw [List.length_set]; exact (List.getElem?_eq_some_iff.1 hzg).1)).drew)
          rw [List.set_comm _ _ (Ne.symm hne), hswap, ← eR] at hB2
          have g1 : (p : Int) < (k : Int) := by omega
          have e2 : (k : Int) - 1 = (k1 : Int) := by omega
          have q4 : k1 ≤ 1000 := by omega
          have w2 : IntKind.i64.wrap (k1 : Int) = (k1 : Int) := by rw [IntKind.wrap_i64]; omega
          have hbno := hbn.out
          have hbho := hbh.out
          have n1 : (k : Int) < (n : Int) := by omega
          have n2 : (k1 : Int) < (n : Int) := by omega
          have hlth := Lib.hid hlt
          have hk1h := Lib.hid hk1
          clear B hzg hyg eL eR hswap hl1 hz1 hk1 hlt hkto hrlo hbno hbho
          go_upto_region 23 with fail
          go_region
          go_wp2
          have k3 := hkt.out
          have k4 := hrl.out
          have k5 := hlth.out
          have k6 := hk1h.out
          go_roundw
          case rel => exact ⟨k1, u1, Lib.hid (by omega), by go_num, hB2.out⟩
          case measure => simp [intOf]; omega
        · obtain rfl : u = r := by omega
          have hout := Lib.hid (show ∃ Z, Bl w0 wr g cp (P ++ (Z ++ S)) bs ∧ SS.Srt F10.siz Z ∧ SS.Fil F10.siz Z (X ++ [y]) from ⟨X.take u ++ y :: X.drop u, by simpa using B, hz.out.1, hz.out.2⟩)
          have g1 : ¬ ((p : Int) < (k : Int)) := by omega
          clear B hlt hkto hrlo
          go_wp2
          refine bodyPost_ret (results_none rfl _ _ _) rfl ?_
          exact ⟨rfl, hout.out⟩
end Go.Proofs.YthbkdjbmkhmlnaaDoor
