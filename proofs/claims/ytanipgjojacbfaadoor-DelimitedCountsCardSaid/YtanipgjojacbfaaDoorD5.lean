/- The reference: Format. -/
import Derived.Test.YtanipgjojacbfaaDoorD4
namespace Go.Proofs.YtanipgjojacbfaaDoor
open Go.RowKit Go.Lib
set_option linter.unusedVariables false

theorem szL_mono (d : UInt8) (l : List (List Bs)) (i : Nat) : szL d (l.take i) ≤ szL d l := by
  have h : szL d l = szL d (l.take i) + szL d (l.drop i) := by
    unfold szL
    conv => lhs; rw [← List.take_append_drop i l]
    rw [List.map_append, List.sum_append]
  omega
theorem wrFs_le1000 (d : UInt8) {r : List Bs} (h32 : r.length ≤ 32) (h : ∀ f ∈ r, f.length ≤ 1000) (j : Nat) : (wrFs d (r.take j)).length ≤ 64096 := by
  have h1 := wrFs_le d (r.take j)
  have h2 := szR_le d (r := r.take j) (m := 32) (by rw [List.length_take]; omega) (fun f hf => h f (List.mem_of_mem_take hf))
  omega

theorem spot_lt {w : World} {a : Addr} {v : Value} (h : w.cell? a = some v) : a.block < w.heap.size := by
  unfold World.cell? at h
  rcases Nat.lt_or_ge a.block w.heap.size with hl | hl
  · exact hl
  · rw [Array.getElem?_eq_none hl] at h; simp at h

set_option maxRecDepth 100000 in
set_option maxHeartbeats 8000000 in
theorem rformat_any (R : List Row) (A : Option Addr) (c : Nat) (d : UInt8) (w : World) (h : MR w A R.length R) (hR : R.length ≤ 9223372036854775807) (hRf : ∀ r ∈ R, r.fs.length ≤ 9223372036854775807) (hF : ∀ r ∈ R, ∀ f ∈ r.fs, f.length ≤ 1000) :
    Calls Tryd.prog 16 #[.slice A R.length c, .int .u8 d.toNat] w fun e w' => e = .returned (.tuple #[.string (bA (fo d (R.map Row.fs)).1), .int .i64 (fo d (R.map Row.fs)).2]) ∧ Below w.heap.size w w' := by
  have hD := Lib.hid (fun W => rDelim_any d W)
  cases hd : isD d with
  | false =>
    have hfo : Hid (fo d (R.map Row.fs) = ([], 1)) := Lib.hid (by unfold fo; rw [if_pos hd])
    rw [hd] at hD
    rw [hfo.out]
    generalize R.length = n at *
    clear hd h hF hR hRf
    go_enter Tryd.func16, Tryd.ntmps16
    go_wp2_with fail
    refine (hD.out _).mono ?_
    rintro e w' ⟨rfl, hw⟩
    subst hw
    go_wp2
    go_ret2
    exact ⟨rfl, Below.refl _ _⟩
  | true =>
    rw [hd] at hD
    generalize hQ : (fun (e : Ending) (w' : World) => e = Ending.returned (.tuple #[.string (bA (fo d (R.map Row.fs)).1), .int .i64 (fo d (R.map Row.fs)).2]) ∧ Below w.heap.size w w') = Q
    have e0 : (R.map Row.fs).any (fun r => decide (r.length = 0)) = R.any (fun r => decide (r.fs.length = 0)) := by rw [List.any_map]; rfl
    have q4 : Hid ((∃ r ∈ R, r.fs.length = 0) → ∀ w', Below w.heap.size w w' → Q (.returned (.tuple #[.string ⟨#[]⟩, .int .i64 4])) w') := Lib.hid fun ⟨r, hr, h0⟩ w' hb => by
      have hfo : fo d (R.map Row.fs) = ([], 4) := by
        unfold fo
        rw [if_neg (by rw [hd]; decide), e0, List.any_eq_true.2 ⟨r, hr, by simpa using h0⟩]; rfl
      rw [← hQ, hfo]; exact ⟨rfl, hb⟩
    have hne0 : Hid ((∀ r ∈ R, ¬ r.fs.length = 0) → fo d (R.map Row.fs) = if bigS d (R.map Row.fs) then ([], 2) else (wrL d (R.map Row.fs), 0)) := Lib.hid fun hh => by
      unfold fo
      have : R.any (fun r => decide (r.fs.length = 0)) = false := by
        rw [List.any_eq_false]; intro r hr; simpa using hh r hr
      rw [if_neg (by rw [hd]; decide), e0, this]; rfl
    have q2 : Hid ((∀ r ∈ R, ¬ r.fs.length = 0) → bigS d (R.map Row.fs) = true → ∀ w', Below w.heap.size w w' → Q (.returned (.tuple #[.string ⟨#[]⟩, .int .i64 2])) w') := Lib.hid fun h1 h2 w' hb => by
      rw [← hQ, hne0.out h1, h2]; exact ⟨rfl, hb⟩
    have q0 : Hid ((∀ r ∈ R, ¬ r.fs.length = 0) → bigS d (R.map Row.fs) = false → ∀ w', Below w.heap.size w w' → Q (.returned (.tuple #[.string (bA (wrL d (R.map Row.fs))), .int .i64 0])) w') := Lib.hid fun h1 h2 w' hb => by
      rw [← hQ, hne0.out h1, h2]; exact ⟨rfl, hb⟩
    have hQt := Lib.hid (fun f W hf => rquote_any f d W hf)
    have hRh := Lib.hid hR
    have hRfh := Lib.hid hRf
    have hFh := Lib.hid hF
    have hne' : Hid (∀ r ∈ R.map Row.fs, (∀ q ∈ R, ¬ q.fs.length = 0) → r ≠ []) := Lib.hid fun r hr hh e => by
      obtain ⟨q, hq, rfl⟩ := List.mem_map.1 hr
      exact hh q hq (by rw [e]; rfl)
    obtain ⟨n, hn⟩ : ∃ n, n = R.length := ⟨_, rfl⟩
    rw [← hn] at h hR ⊢
    have hnz : (n : Int) ≤ 9223372036854775807 := by omega
    replace hn := Lib.hid hn
    replace h := Lib.hid h
    clear hd hF hR hRf hQ e0 hne0
    go_enter Tryd.func16, Tryd.ntmps16
    go_wp2_with fail
    refine (hD.out _).mono ?_
    rintro e w' ⟨rfl, hw⟩
    subst hw
    go_wp2
    go_loopw [6] (fun iv wr => ∃ i : Nat, i ≤ n ∧ iv = .int .i64 i ∧ wr = w' ∧ ∀ j r, j < i → R[j]? = some r → ¬ r.fs.length = 0) (fun iv _ => n - (intOf iv).toNat)
    case atStart => exact ⟨0, Nat.zero_le _, rfl, rfl, fun j r h0 => absurd h0 (Nat.not_lt_zero _)⟩
    case round =>
      obtain ⟨i, hin, rfl, hw, hall⟩ := hrel
      obtain rfl : w' = wr := hw.symm
      by_cases hlt : i < n
      · obtain ⟨b1, o1, r, rfl, hx, hrR, e1⟩ := h.out.get hlt
        have g2 : (i : Int) < (n : Int) := by omega
        have g3 : (0 : Int) ≤ (i : Int) := by omega
        have g4 : (i : Int) < 9223372036854775807 := by omega
        have hlh := Lib.hid hlt
        have hrl : (r.fs.length : Int) ≤ 9223372036854775807 := by have := hRfh.out r hrR; omega
        by_cases h0 : r.fs.length = 0
        · have hq := Lib.hid (q4.out ⟨r, hrR, h0⟩ w' (Below.refl _ _))
          rw [h0] at e1
          clear hin hlt hx hrR h0 hall q4 q2 q0
          go_wp2
          exact hq.out
        · have k0 : ((r.fs.length : Int) == 0) = false := by rw [beq_eq_false_iff_ne]; omega
          have hall2 : Hid (∀ j t, j < i + 1 → R[j]? = some t → ¬ t.fs.length = 0) := Lib.hid fun j t hj ht => by
            rcases Nat.lt_or_ge j i with h1 | h1
            · exact hall j t h1 ht
            · obtain rfl : j = i := by omega
              rw [hx] at ht
              cases ht
              exact h0
          generalize r.fs.length = m at *
          clear hin hlt hx hrR h0 hall
          go_wp2
          go_roundw
          case rel => exact ⟨i + 1, by have := hlh.out; omega, by go_num, by first | rfl | trivial, hall2.out⟩
          case measure => simp [intOf]; have := hlh.out; omega
      · obtain rfl : i = n := by omega
        have hNE : Hid (∀ r ∈ R, ¬ r.fs.length = 0) := Lib.hid fun r hr => by
          obtain ⟨k, hk⟩ := List.getElem?_of_mem hr
          exact hall k r (by rw [hn.out]; exact (List.getElem?_eq_some_iff.1 hk).1) hk
        replace q2 := Lib.hid (q2.out hNE.out)
        replace q0 := Lib.hid (q0.out hNE.out)
        have hne := Lib.hid (fun r hr => hne'.out r hr hNE.out)
        clear hall hin hlt q4 hne' hNE hD
        go_wp2
        go_loopw [7, 8, 9] (fun ov iv _ wx => ∃ i' : Nat, i' ≤ i ∧ iv = .int .i64 i' ∧ ov = .string (bA (wrL d ((R.map Row.fs).take i'))) ∧ (wrL d ((R.map Row.fs).take i')).length ≤ 200000 ∧ (∀ r ∈ (R.map Row.fs).take i', r.length ≤ 32) ∧ Below w'.heap.size w' wx) (fun _ iv _ _ => i - (intOf iv).toNat)
        case atStart => exact ⟨0, Nat.zero_le _, rfl, rfl, Nat.zero_le _, (fun r hr => by cases hr), Below.refl _ _⟩
        case round =>
          obtain ⟨k, hki, rfl, rfl, hlen, h32, hB⟩ := hrel
          have hmr := h.out.bel hB
          have hTsz : ((bA (wrL d ((R.map Row.fs).take k))).size : Int) = ((wrL d ((R.map Row.fs).take k)).length : Int) := by rw [bA_size]
          have hwrl : Hid ((wrL d ((R.map Row.fs).take k)).length = szL d ((R.map Row.fs).take k)) := Lib.hid (wrL_len d (fun q hq => hne.out q (List.mem_of_mem_take hq)))
          have hTz : ((wrL d ((R.map Row.fs).take k)).length : Int) ≤ 200000 := by omega
          have hk0 : (0 : Int) ≤ (k : Int) := by omega
          by_cases hlt : k < i
          · have g2 : (k : Int) < (i : Int) := by omega
            have g4 : (k : Int) < 9223372036854775807 := by omega
            by_cases hbig : (wrL d ((R.map Row.fs).take k)).length ≤ 65536
            · have b1 : ((wrL d ((R.map Row.fs).take k)).length : Int) ≤ 65536 := by omega
              obtain ⟨p1, o1, r, rfl, hx, hrR, e1⟩ := hmr.get hlt
              have hxf : (R.map Row.fs)[k]? = some r.fs := by rw [List.getElem?_map, hx]; rfl
              have hrm : r.fs ∈ R.map Row.fs := List.mem_map_of_mem hrR
              have hrl : (r.fs.length : Int) ≤ 9223372036854775807 := by have := hRfh.out r hrR; omega
              by_cases hr32 : 32 < r.fs.length
              · have k0 : (32 : Int) < (r.fs.length : Int) := by omega
                have hq := Lib.hid (q2.out (by unfold bigS; rw [show (R.map Row.fs).any (fun r => decide (32 < r.length)) = true from List.any_eq_true.2 ⟨r.fs, hrm, by simpa using hr32⟩]; simp) wr hB)
                generalize r.fs.length = m at *
                generalize wrL d ((R.map Row.fs).take k) = T at *
                clear hki hlt hmr hbig hx hrR hxf hrm hr32 q2 q0 hB hlen h32
                go_wp2
                exact hq.out
              · have k0 : ¬ (32 : Int) < (r.fs.length : Int) := by omega
                have htk := Lib.hid (wrL_take d _ hxf)
                have hrow : Hid (∀ W, Below w'.heap.size w' W → SR W r.A r.fs.length r.fs) := Lib.hid fun W hW => (h.out.bel hW).row r hrR
                have hcl : Hid (∀ W, Below w'.heap.size w' W → W.cell? ⟨p1, o1 + k, none⟩ = some (.slice r.A r.fs.length r.c)) := Lib.hid fun W hW => by
                  obtain ⟨p2, o2, r2, hA, hx2, _, e2⟩ := (h.out.bel hW).get hlt
                  injection hA with hA
                  injection hA with hA1 hA2
                  rw [hx] at hx2
                  cases hx2
                  subst hA1 hA2
                  exact e2
                have hfl := Lib.hid (hFh.out r hrR)
                have hwl := Lib.hid (wrFs_le1000 d (r := r.fs) (by omega) hfl.out)
                have h32' : Hid (∀ q ∈ (R.map Row.fs).take (k + 1), q.length ≤ 32) := Lib.hid fun q hq => by
                  rw [List.take_add_one, hxf] at hq
                  rcases List.mem_append.1 hq with hq | hq
                  · exact h32 q hq
                  · obtain rfl : q = r.fs := by simpa using hq
                    omega
                generalize hT0 : wrL d ((R.map Row.fs).take k) = T at *
                have hlh := Lib.hid hlt
                have hTh := Lib.hid hbig
                have hki' : (k : Int) ≤ 9223372036854775807 := by omega
                replace hB := Lib.hid hB
                have hrl32 : (r.fs.length : Int) ≤ 32 := by omega
                obtain ⟨m, hm⟩ : ∃ m, m = r.fs.length := ⟨_, rfl⟩
                rw [← hm] at hrow hrl k0 e1 hcl hrl32
                replace hm := Lib.hid hm
                clear hki hlt hmr hbig hx hrR hxf hrm hr32 q2 q0 hlen h32 hT0 hwrl
                go_wp2
                go_loopw [7, 9] (fun ov jv wx => ∃ j : Nat, j ≤ m ∧ jv = .int .i64 j ∧ ov = .string (bA (T ++ wrFs d (r.fs.take j))) ∧ Below w'.heap.size w' wx) (fun _ jv _ => m - (intOf jv).toNat)
                case atStart => exact ⟨0, Nat.zero_le _, rfl, by rw [List.take_zero, show wrFs d [] = [] from rfl, List.append_nil], hB.out⟩
                case round =>
                  clear e1 hB
                  obtain ⟨j, hjn, rfl, rfl, hB⟩ := hrel
                  have e1 := hcl.out wr hB
                  have hLj : (T ++ wrFs d (r.fs.take j)).length ≤ 200000 := by rw [List.length_append]; have := hwl.out j; have := hTh.out; omega
                  by_cases hjlt : j < m
                  · obtain ⟨b2, o2, f, rA, hy, e2⟩ := (hrow.out wr hB).get hjlt
                    have hfm := Lib.hid (hfl.out f (List.mem_of_getElem? hy))
                    have hsn2 := Lib.hid (wrFs_take d _ hy)
                    have k2 : (j : Int) < (m : Int) := by omega
                    have k3 : (0 : Int) ≤ (j : Int) := by omega
                    have k4 : (j : Int) ≤ 32 := by omega
                    have hjh := Lib.hid hjlt
                    have hwfl : (wrF d f).length ≤ 2003 := by have := wrF_len d f; have := szF_le d hfm.out; omega
                    have hQ1 := Lib.hid (fun W => hQt.out f W (by have := hfm.out; omega))
                    rw [rA] at e1
                    have hrA := Lib.hid rA
                    clear rA hjn hjlt hy
                    by_cases hj0 : j = 0
                    · have hbytes : Hid (wrFs d (r.fs.take (j + 1)) = wrF d f) := Lib.hid (by rw [hsn2.out, if_pos hj0])
                      have hT00 : Hid (T ++ wrFs d (r.fs.take j) = T) := Lib.hid (by rw [hj0, List.take_zero, show wrFs d [] = [] from rfl, List.append_nil])
                      rw [hT00.out] at hLj ⊢
                      have h2 : bA T ++ bA (wrF d f) = bA (T ++ wrF d f) := bA_app _ _
                      have s2 : ¬ 9223372036854775807 < (bA T).size + (bA (wrF d f)).size := by rw [bA_size, bA_size]; omega
                      have hres : Hid (T ++ wrFs d (r.fs.take (0 + 1)) = T ++ wrF d f) := Lib.hid (by rw [← hbytes.out, hj0])
                      generalize hV : wrF d f = V at *
                      subst hj0
                      rw [Nat.add_zero] at e2
                      replace hB := Lib.hid hB
                      replace hV := Lib.hid hV
                      clear hLj hwfl hTz g4 hki' hrl
                      rw [show ((0 : Nat) : Int) = (0 : Int) from rfl] at *
                      go_wp2_with fail
                      refine (hQ1.out _).mono ?_
                      rintro e w4 ⟨rfl, hw⟩
                      subst hw
                      go_wp2
                      go_roundw
                      case rel => exact ⟨0 + 1, by have := hjh.out; omega, by go_num, by rw [hres.out], hB.out⟩
                      case measure => simp [intOf]; have := hjh.out; omega
                    · have hbytes : Hid (wrFs d (r.fs.take (j + 1)) = wrFs d (r.fs.take j) ++ d :: wrF d f) := Lib.hid (by rw [hsn2.out, if_neg hj0])
                      have k5 : (0 : Int) < (j : Int) := by omega
                      have hres : Hid (T ++ wrFs d (r.fs.take (j + 1)) = T ++ wrFs d (r.fs.take j) ++ [d] ++ wrF d f) := Lib.hid (by rw [hbytes.out]; simp)
                      generalize hU : T ++ wrFs d (r.fs.take j) = U at *
                      have h1 : bA U ++ bA [d] = bA (U ++ [d]) := bA_app _ _
                      have h2 : bA (U ++ [d]) ++ bA (wrF d f) = bA (U ++ [d] ++ wrF d f) := bA_app _ _
                      have s1 : ¬ 9223372036854775807 < (bA U).size + (bA [d]).size := by rw [bA_size, bA_size]; show ¬ _ < U.length + 1; omega
                      have s2 : ¬ 9223372036854775807 < (bA (U ++ [d])).size + (bA (wrF d f)).size := by rw [bA_size, bA_size, List.length_append]; show ¬ _ < U.length + 1 + _; omega
                      have hres2 : Hid (bA (U ++ [d] ++ wrF d f) = bA (T ++ wrFs d (r.fs.take (j + 1)))) := Lib.hid (by rw [hres.out])
                      have hcv := conv1 wr wr.heap.size rfl d
                      have hB4 := Lib.hid (hB.trans ((Below.refl w'.heap.size wr).alloc hB.size (.cells #[.int .u8 (d.toNat : Int)] 5)))
                      have e1' := hcl.out _ hB4.out
                      rw [hrA.out] at e1'
                      have e2' : (wr.alloc (.cells #[.int .u8 (d.toNat : Int)] 5)).cell? ⟨b2, o2 + j, none⟩ = some (.string (bA f)) := ((World.cell?_of_block (Below.heap_alloc _ _ _ (spot_lt e2))).trans e2)
                      generalize hV : wrF d f = V at *
                      generalize U ++ [d] ++ V = X at *
                      replace hB := Lib.hid hB
                      replace hV := Lib.hid hV
                      replace hU := Lib.hid hU
                      clear hj0 hLj hwfl hTz g4 hki' hrl
                      go_wp2_with fail
                      refine (hQ1.out _).mono ?_
                      rintro e w4 ⟨rfl, hw⟩
                      subst hw
                      go_wp2
                      go_roundw
                      case rel => exact ⟨j + 1, by have := hjh.out; omega, by go_num, by rw [hres2.out], hB4.out⟩
                      case measure => simp [intOf]; have := hjh.out; omega
                  · obtain rfl : j = m := by omega
                    have hall : Hid (T ++ wrFs d (r.fs.take j) ++ [10] = wrL d ((R.map Row.fs).take (k + 1))) := Lib.hid (by rw [htk.out, hm.out, List.take_length, List.append_assoc])
                    generalize hU : T ++ wrFs d (r.fs.take j) = U at *
                    have h1 : bA U ++ (⟨#[10]⟩ : ByteArray) = bA (U ++ [10]) := bA_app _ [10]
                    have s1 : ¬ 9223372036854775807 < (bA U).size + (⟨#[10]⟩ : ByteArray).size := by rw [bA_size]; show ¬ _ < U.length + 1; omega
                    have s1' : ¬ 9223372036854775807 < (bA U).size + 1 := s1
                    have hlen2 : Hid ((wrL d ((R.map Row.fs).take (k + 1))).length ≤ 200000) := Lib.hid (by rw [← hall.out, ← hU, List.length_append, List.length_append]; have := hwl.out j; have := hTh.out; show _ + 1 ≤ _; omega)
                    replace hB := Lib.hid hB
                    replace hU := Lib.hid hU
                    clear hjn hjlt hLj hTz hki' hrl hnz hTsz b1 hrl32 k0
                    go_wp2
                    go_roundw
                    case rel => exact ⟨k + 1, by have := hlh.out; omega, by go_num, by rw [hall.out], hlen2.out, h32'.out, hB.out⟩
                    case measure => simp [intOf]; have := hlh.out; omega
            · have b1 : ¬ ((wrL d ((R.map Row.fs).take k)).length : Int) ≤ 65536 := by omega
              have b2 : (65536 : Int) < ((wrL d ((R.map Row.fs).take k)).length : Int) := by omega
              have hq := Lib.hid (q2.out (by unfold bigS; rw [decide_eq_true (show 65536 < szL d (R.map Row.fs) by have := szL_mono d (R.map Row.fs) k; have := hwrl.out; omega)]; simp) wr hB)
              generalize wrL d ((R.map Row.fs).take k) = T at *
              clear hki hlt hmr hbig q2 q0 hB hlen h32 hwrl
              by_cases hi : 1024 < i
              · have b3 : (1024 : Int) < (i : Int) := by omega
                clear hi
                go_wp2
                exact hq.out
              · have b3 : ¬ (1024 : Int) < (i : Int) := by omega
                clear hi
                go_wp2
                exact hq.out
          · obtain rfl : k = i := by omega
            have hall : (R.map Row.fs).take k = R.map Row.fs := List.take_of_length_le (by rw [List.length_map, hn.out]; exact Nat.le_refl _)
            rw [hall] at hTsz hwrl hTz hlen h32 ⊢
            have hlenR : (R.map Row.fs).length = k := by rw [List.length_map, hn.out]
            have hany : (R.map Row.fs).any (fun r => decide (32 < r.length)) = false := by
              rw [List.any_eq_false]; intro r hr; have := h32 r hr; simp; omega
            by_cases hi : 1024 < k
            · have b3 : (1024 : Int) < (k : Int) := by omega
              have hq := Lib.hid (q2.out (by unfold bigS; rw [hlenR, decide_eq_true hi]; rfl) wr hB)
              generalize wrL d (R.map Row.fs) = T at *
              clear hki hlt hmr q2 q0 hB hlen h32 hwrl hi hall hlenR hany
              go_wp2
              exact hq.out
            · have b3 : ¬ (1024 : Int) < (k : Int) := by omega
              by_cases hbig : (wrL d (R.map Row.fs)).length ≤ 65536
              · have b1 : ¬ (65536 : Int) < ((wrL d (R.map Row.fs)).length : Int) := by omega
                have hq := Lib.hid (q0.out (by unfold bigS; rw [hlenR, decide_eq_false hi, hany, decide_eq_false (show ¬ 65536 < szL d (R.map Row.fs) by have := hwrl.out; omega)]; rfl) wr hB)
                generalize wrL d (R.map Row.fs) = T at *
                clear hki hlt hmr q2 q0 hB hlen h32 hwrl hi hall hlenR hany hbig
                go_wp2
                exact hq.out
              · have b1 : (65536 : Int) < ((wrL d (R.map Row.fs)).length : Int) := by omega
                have hq := Lib.hid (q2.out (by unfold bigS; rw [decide_eq_true (show 65536 < szL d (R.map Row.fs) by have := hwrl.out; omega)]; simp) wr hB)
                generalize wrL d (R.map Row.fs) = T at *
                clear hki hlt hmr q2 q0 hB hlen h32 hwrl hi hall hlenR hany hbig
                go_wp2
                exact hq.out
end Go.Proofs.YtanipgjojacbfaaDoor
