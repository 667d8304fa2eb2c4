/- Format. -/
import Derived.Test.YtanipgjojacbfaaDoorD2
namespace Go.Proofs.YtanipgjojacbfaaDoor
open Go.RowKit Go.Lib
set_option linter.unusedVariables false

/-- What Format returns. -/
def fo (d : UInt8) (l : List (List Bs)) : Bs × Int := if isD d = false then ([], 1) else if l.any (fun r => decide (r.length = 0)) then ([], 4) else if bigS d l then ([], 2) else (wrL d l, 0)
theorem wrFs_take (d : UInt8) (r : List Bs) {j : Nat} {f : Bs} (h : r[j]? = some f) : wrFs d (r.take (j + 1)) = if j = 0 then wrF d f else wrFs d (r.take j) ++ d :: wrF d f := by
  have e : r.take (j + 1) = r.take j ++ [f] := by rw [List.take_add_one, h]; rfl
  rw [e]
  by_cases hj : j = 0
  · subst hj
    rw [if_pos rfl, List.take_zero, List.nil_append, wrFs_one]
  · rw [if_neg hj, wrFs_snoc]
    intro h0
    have hl : j < r.length := (List.getElem?_eq_some_iff.1 h).1
    have := congrArg List.length h0
    rw [List.length_take, Nat.min_eq_left (by omega)] at this
    exact hj (by simpa using this)
theorem wrL_take (d : UInt8) (l : List (List Bs)) {i : Nat} {r : List Bs} (h : l[i]? = some r) : wrL d (l.take (i + 1)) = wrL d (l.take i) ++ (wrFs d r ++ [10]) := by
  unfold wrL
  rw [List.take_add_one, h]
  simp [wrR]
theorem wrFs_le (d : UInt8) (r : List Bs) : (wrFs d r).length ≤ szR d r := by
  by_cases h : r = []
  · subst h; exact Nat.zero_le _
  · have := wrFs_len d h; omega

theorem bld_bel {T e : TypeId} {B b : Nat} {p : Value} {bs : List Value} {w w' : World} (h : Lib.BuilderAtF T e B b p bs w) (hb : Below w.heap.size w w') : Lib.BuilderAtF T e B b p bs w' := by
  have hl := h.lt
  obtain ⟨hB, v, h1, hown, hne⟩ := h
  refine ⟨hB, v, (hb.block b hl).trans h1, ⟨hown.1, ?_⟩, hne⟩
  rcases hown.2 with h2 | ⟨g, cap, cur, fz, rfl, h3, h4, rest⟩
  · exact .inl h2
  · refine .inr ⟨g, cap, cur, fz, rfl, h3, (hb.block g ?_).trans h4, rest⟩
    rcases Nat.lt_or_ge g w.heap.size with hl2 | hl2
    · exact hl2
    · rw [Array.getElem?_eq_none hl2] at h4; cases h4

set_option maxRecDepth 100000 in
set_option maxHeartbeats 4000000 in
theorem format_any (R : List Row) (A : Option Addr) (c : Nat) (d : UInt8) (w : World) (h : MR w A R.length R) (hR : R.length ≤ 9223372036854775807) (hF : ∀ r ∈ R, ∀ f ∈ r.fs, f.length ≤ 1000) (hm : Mx w) :
    Calls Tryd.prog 15 #[.slice A R.length c, .int .u8 d.toNat] w fun e w' => e = .returned (.tuple #[.string (bA (fo d (R.map Row.fs)).1), .int .i64 (fo d (R.map Row.fs)).2]) ∧ Below w.heap.size w w' := by
  have hD := Lib.hid (fun W => isDelimiter_any d W)
  cases hd : isD d with
  | false =>
    have hfo : Hid (fo d (R.map Row.fs) = ([], 1)) := Lib.hid (by unfold fo; rw [if_pos hd])
    rw [hd] at hD
    rw [hfo.out]
    generalize R.length = n at *
    clear hd h hF hm hR
    go_enter Tryd.func15, Tryd.ntmps15
    go_wp2_with fail
    refine (hD.out _).mono ?_
    rintro e w' ⟨rfl, hw⟩
    subst hw
    go_wp2
    go_ret2
    exact ⟨rfl, Below.refl _ _⟩
  | true =>
    rw [hd] at hD
    have hC := Lib.hid (contains_rows R A c w h hR 25 (fun n => decide (n = 0)) (enters_of Tryd.func25 (by kernel_rfl) rfl) (fun A n c W => fmt1_any A n c W))
    have e0 : (R.map Row.fs).any (fun r => decide (r.length = 0)) = R.any (fun r => decide (r.fs.length = 0)) := by rw [List.any_map]; rfl
    cases hz : R.any (fun r => decide (r.fs.length = 0)) with
    | true =>
      have hfo : Hid (fo d (R.map Row.fs) = ([], 4)) := Lib.hid (by unfold fo; rw [if_neg (by rw [hd]; decide), e0, hz]; rfl)
      rw [hz] at hC
      rw [hfo.out]
      clear hd h hF hm hR e0 hz
      go_enter Tryd.func15, Tryd.ntmps15
      go_wp2_with fail
      refine (hD.out _).mono ?_
      rintro e w' ⟨rfl, hw⟩
      subst hw
      go_wp2_with fail
      refine hC.out.mono ?_
      rintro e w1 ⟨rfl, q, hw⟩
      have hbl : Hid (Below w'.heap.size w' w1) := Lib.hid (by rw [hw]; exact below_drewN (Below.refl _ _) q)
      replace hw := Lib.hid hw
      go_wp2
      go_ret2
      exact ⟨rfl, hbl.out⟩
    | false =>
      rw [hz] at hC
      have hT := Lib.hid (fun W hW => tooLarge_any R A c d W (h.bel hW) hd hR hF)
      cases hbig : bigS d (R.map Row.fs) with
      | true =>
        have hfo : Hid (fo d (R.map Row.fs) = ([], 2)) := Lib.hid (by unfold fo; rw [if_neg (by rw [hd]; decide), e0, hz, hbig]; rfl)
        rw [hbig] at hT
        rw [hfo.out]
        clear hd h hF hm hR e0 hz hbig
        go_enter Tryd.func15, Tryd.ntmps15
        go_wp2_with fail
        refine (hD.out _).mono ?_
        rintro e w' ⟨rfl, hw⟩
        subst hw
        go_wp2_with fail
        refine hC.out.mono ?_
        rintro e w1 ⟨rfl, q, hw⟩
        have hbl : Hid (Below w'.heap.size w' w1) := Lib.hid (by rw [hw]; exact below_drewN (Below.refl _ _) q)
        replace hw := Lib.hid hw
        have hT1 := Lib.hid (hT.out w1 hbl.out)
        go_wp2_with fail
        refine hT1.out.mono ?_
        rintro e w2 ⟨rfl, hb2⟩
        have hb3 := Lib.hid (hbl.out.trans (hb2.mono hbl.out.size))
        clear hb2
        go_wp2
        go_ret2
        exact ⟨rfl, hb3.out⟩
      | false =>
        have hfo : Hid (fo d (R.map Row.fs) = (wrL d (R.map Row.fs), 0)) := Lib.hid (by unfold fo; rw [if_neg (by rw [hd]; decide), e0, hz, hbig]; rfl)
        rw [hbig] at hT
        rw [hfo.out]
        have hne : Hid (∀ r ∈ R.map Row.fs, r ≠ []) := Lib.hid fun r hr e => by
          obtain ⟨q, hq, rfl⟩ := List.mem_map.1 hr
          have := List.any_eq_false.1 hz q hq
          rw [e] at this
          simp at this
        have hSm : Hid (Sm (R.map Row.fs)) := Lib.hid (by
          unfold bigS at hbig
          simp only [Bool.or_eq_false_iff, decide_eq_false_iff_not] at hbig
          refine ⟨by omega, fun r hr => ?_⟩
          have h1 := List.any_eq_false.1 hbig.1.2 r hr
          obtain ⟨q, hq, rfl⟩ := List.mem_map.1 hr
          exact ⟨by simpa using h1, hF q hq⟩)
        have hRl : R.length ≤ 1024 := by have := hSm.out.1; rw [List.length_map] at this; exact this
        have hRz : (R.length : Int) ≤ 1024 := by omega
        have hWr := Lib.hid (fun f W hf hm => written_any f d W hd hf hm)
        have hWB := Lib.hid (fun B b bs c W h1 h2 h3 => Tryd.Builder_WriteByte_k B b bs c W h1 h2 h3)
        have hWS := Lib.hid (fun B b bs s W h1 h2 h3 => Tryd.Builder_WriteString_k B b bs s W h1 h2 h3)
        have hSt := Lib.hid (fun B b l W h1 h2 => Tryd.Builder_String_any_k B b l W h1 h2)
        have hmh := Lib.hid hm
        obtain ⟨n, hn⟩ : ∃ n, n = R.length := ⟨_, rfl⟩
        rw [← hn] at h hRz hC hT ⊢
        replace hn := Lib.hid hn
        replace h := Lib.hid h
        clear hd hF hm hR e0 hz hbig hRl hfo
        go_enter Tryd.func15, Tryd.ntmps15
        go_wp2_with fail
        refine (hD.out _).mono ?_
        rintro e w' ⟨rfl, hw⟩
        subst hw
        go_wp2_with fail
        refine hC.out.mono ?_
        rintro e w1 ⟨rfl, q, hw⟩
        have hbl : Hid (Below w'.heap.size w' w1) := Lib.hid (by rw [hw]; exact below_drewN (Below.refl _ _) q)
        replace hw := Lib.hid hw
        have hT1 := Lib.hid (hT.out w1 hbl.out)
        go_wp2_with fail
        refine hT1.out.mono ?_
        rintro e w2 ⟨rfl, hb2⟩
        have hb3 := Lib.hid (hbl.out.trans (hb2.mono hbl.out.size))
        clear hb2 hT1 hT hC hbl hw
        have hM2 := Lib.hid (h.out.bel hb3.out)
        have hm2 := Lib.hid (hmh.out.bel hb3.out)
        have hI0 : Hid (Lib.IsBuilderF 57 5 w2.heap.size w2.heap.size (Lib.byteCells []) (w2.alloc (.cells #[.pointer none, .slice none 0 0] 57))) := Lib.hid (.inl ⟨Nat.le_refl _, .slice none 0 0, Cb.new w2 #[.pointer none, .slice none 0 0] 57, ⟨rfl, .inl ⟨rfl, rfl⟩⟩, by simp [Value.ownBlock]⟩)
        have hB0 : Hid (Below w2.heap.size w2 (w2.alloc (.cells #[.pointer none, .slice none 0 0] 57))) := Lib.hid ((Below.refl _ _).alloc (Nat.le_refl _) _)
        obtain ⟨b, hb⟩ : ∃ b, b = w2.heap.size := ⟨_, rfl⟩
        rw [← hb] at hI0 hB0
        have hM5 : Hid (MR w2 A n R) := hM2
        have hb5 : Hid (∀ W, Below b w2 W → Below w'.heap.size w' W) := Lib.hid fun W hW => hb3.out.trans (hW.mono (by rw [hb]; exact hb3.out.size))
        have hbs : Hid (b = w2.heap.size) := Lib.hid hb
        clear hb
        go_wp2
        rw [← hbs.out]
        generalize hw3 : w2.alloc (.cells #[.pointer none, .slice none 0 0] 57) = w3 at *
        have hBw : Hid (b ≤ w3.heap.size) := Lib.hid (by rw [hbs.out]; exact hB0.out.size)
        replace hw3 := Lib.hid hw3
        clear hM2 h hmh hb3 hD
        go_loopw [8, 9, 10, 21] (fun _ _ _ iv wr => ∃ i : Nat, i ≤ n ∧ iv = .int .i64 i ∧ Lib.IsBuilderF 57 5 b b (Lib.byteCells (wrL d ((R.map Row.fs).take i))) wr ∧ Below b w2 wr) (fun _ _ _ iv _ => n - (intOf iv).toNat)
        case atStart => exact ⟨0, Nat.zero_le _, rfl, hI0.out, hB0.out⟩
        case round =>
          clear hI0 hB0 hBw hw3
          obtain ⟨i, hin, rfl, hI, hB⟩ := hrel
          have hwr : Hid (b ≤ wr.heap.size) := Lib.hid (by rw [hbs.out]; exact hB.size)
          by_cases hlt : i < n
          · have hB' : Below w2.heap.size w2 wr := by rw [← hbs.out]; exact hB
            have hmr := hM5.out.bel hB'
            obtain ⟨b1, o1, r, rfl, hx, hrR, e1⟩ := hmr.get hlt
            have hxf : (R.map Row.fs)[i]? = some r.fs := by rw [List.getElem?_map, hx]; rfl
            have hrm : r.fs ∈ R.map Row.fs := List.mem_map_of_mem hrR
            have htk := Lib.hid (wrL_take d _ hxf)
            have hrow : Hid (∀ W, Below b w2 W → SR W r.A r.fs.length r.fs) := Lib.hid fun W hW => (hM5.out.bel (by rw [← hbs.out]; exact hW)).row r hrR
            have hfl := Lib.hid (hSm.out.2 r.fs hrm)
            have hB2 := Lib.hid (fun j => hSm.out.takeR (d := d) hrm j)
            have hLn : Hid ((wrL d ((R.map Row.fs).take i)).length ≤ 65634304) := Lib.hid (by rw [wrL_len d (fun q hq => hne.out q (List.mem_of_mem_take hq))]; exact hSm.out.take i)
            generalize hT0 : wrL d ((R.map Row.fs).take i) = T at *
            have g2 : (i : Int) < (n : Int) := by omega
            have g3 : (0 : Int) ≤ (i : Int) := by omega
            have hlh := Lib.hid hlt
            have hi63 : (i : Int) ≤ 1024 := by omega
            have hrl : (r.fs.length : Int) ≤ 32 := by have := hfl.out.1; omega
            replace hI := Lib.hid hI
            replace hB := Lib.hid hB
            clear hin hlt hmr hx hrR hxf hrm hB' hT0
            obtain ⟨m, hm⟩ : ∃ m, m = r.fs.length := ⟨_, rfl⟩
            rw [← hm] at hrow hrl e1
            replace hm := Lib.hid hm
            go_wp2
            go_loopw [9, 10, 27] (fun _ _ jv wr => ∃ j : Nat, j ≤ m ∧ jv = .int .i64 j ∧ Lib.IsBuilderF 57 5 b b (Lib.byteCells (T ++ wrFs d (r.fs.take j))) wr ∧ Below b w2 wr) (fun _ _ jv _ => m - (intOf jv).toNat)
            case atStart => exact ⟨0, Nat.zero_le _, rfl, by rw [List.take_zero, show wrFs d [] = [] from rfl, List.append_nil]; exact hI.out, hB.out⟩
            case round =>
              clear e1 hI hB hwr
              obtain ⟨j, hjn, rfl, hI, hB⟩ := hrel
              have hwr : Hid (b ≤ wr.heap.size) := Lib.hid (by rw [hbs.out]; exact hB.size)
              have hLj : Hid ((T ++ wrFs d (r.fs.take j)).length ≤ 65700000) := Lib.hid (by rw [List.length_append]; have := wrFs_le d (r.fs.take j); have := hB2.out j; have := hLn.out; omega)
              by_cases hjlt : j < m
              · obtain ⟨b2, o2, f, rA, hy, e2⟩ := (hrow.out wr hB).get hjlt
                have hfm := Lib.hid (hfl.out.2 f (List.mem_of_getElem? hy))
                have hsn2 := Lib.hid (wrFs_take d _ hy)
                have k2 : (j : Int) < (m : Int) := by omega
                have k3 : (0 : Int) ≤ (j : Int) := by omega
                have k4 : (j : Int) ≤ 32 := by omega
                have hjh := Lib.hid hjlt
                have hwl : Hid ((wrF d f).length ≤ 2003) := Lib.hid (by have := wrF_len d f; have := szF_le d hfm.out; omega)
                rw [rA] at *
                clear rA hjn hjlt hy
                by_cases hj0 : j = 0
                · have hbytes : Hid (wrFs d (r.fs.take (j + 1)) = wrF d f) := Lib.hid (by rw [hsn2.out, if_pos hj0])
                  have hT00 : Hid (T ++ wrFs d (r.fs.take j) = T) := Lib.hid (by rw [hj0, List.take_zero, show wrFs d [] = [] from rfl, List.append_nil])
                  rw [hT00.out] at hI hLj
                  have hmx := Lib.hid (hm2.out.bel (show Below w2.heap.size w2 wr by rw [← hbs.out]; exact hB))
                  replace hI := Lib.hid hI
                  replace hB := Lib.hid hB
                  subst hj0
                  rw [Nat.add_zero] at e2
                  go_wp2_with fail
                  refine (hWr.out f _ hfm.out hmx.out).mono ?_
                  rintro e w4 ⟨rfl, hb4⟩
                  have hI4 : Hid (Lib.IsBuilderF 57 5 b b (Lib.byteCells T) w4) := Lib.hid (hI.out.elim (fun x => .inl (bld_bel x hb4)) (fun x => .inr (bld_bel x hb4)))
                  have hB4 := Lib.hid (hB.out.trans (hb4.mono hwr.out))
                  have hw4 : Hid (b ≤ w4.heap.size) := Lib.hid (by rw [hbs.out]; exact hB4.out.size)
                  clear hb4 hI hB
                  have hWS1 := Lib.hid (hWS.out b b _ (bA (wrF d f)) w4 hI4.out (by rw [Lib.byteCells_length, bA_size]; have := hLj.out; have := hwl.out; omega) hw4.out)
                  go_wp2_with fail
                  refine hWS1.out.mono ?_
                  rintro e w5 ⟨rfl, hI5, hb5', _⟩
                  have hI6 : Hid (Lib.IsBuilderF 57 5 b b (Lib.byteCells (T ++ wrFs d (r.fs.take (0 + 1)))) w5) := Lib.hid (by rw [hbytes.out, Lib.byteCells_append]; exact .inr hI5)
                  have hB6 := Lib.hid (hB4.out.trans hb5')
                  clear hI5 hb5' hWS1 hI4 hB4
                  go_wp2
                  go_roundw
                  case rel => exact ⟨0 + 1, by have := hjh.out; omega, by go_num, hI6.out, hB6.out⟩
                  case measure => simp [intOf]; have := hjh.out; omega
                · have hbytes : Hid (wrFs d (r.fs.take (j + 1)) = wrFs d (r.fs.take j) ++ d :: wrF d f) := Lib.hid (by rw [hsn2.out, if_neg hj0])
                  have k5 : (0 : Int) < (j : Int) := by omega
                  generalize hU : T ++ wrFs d (r.fs.take j) = U at *
                  replace hI := Lib.hid hI
                  replace hB := Lib.hid hB
                  clear hj0
                  have hWB1 := Lib.hid (hWB.out b b _ (d.toNat : Int) wr hI.out (by rw [Lib.byteCells_length]; have := hLj.out; omega) hwr.out)
                  go_wp2_with fail
                  refine hWB1.out.mono ?_
                  rintro e w4 ⟨rfl, hI4', hb4, _⟩
                  have hI4 : Hid (Lib.IsBuilderF 57 5 b b (Lib.byteCells (U ++ [d])) w4) := Lib.hid (by rw [Lib.byteCells_append]; exact .inr hI4')
                  have hB4 := Lib.hid (hB.out.trans hb4)
                  have hw4 : Hid (b ≤ w4.heap.size) := Lib.hid (by rw [hbs.out]; exact hB4.out.size)
                  have hmx := Lib.hid (hm2.out.bel (show Below w2.heap.size w2 w4 by rw [← hbs.out]; exact hB4.out))
                  clear hI4' hb4 hWB1 hI hB e2
                  go_wp2_with fail
                  refine (hWr.out f _ hfm.out hmx.out).mono ?_
                  rintro e w5 ⟨rfl, hb5'⟩
                  have hI5 : Hid (Lib.IsBuilderF 57 5 b b (Lib.byteCells (U ++ [d])) w5) := Lib.hid (hI4.out.elim (fun x => .inl (bld_bel x hb5')) (fun x => .inr (bld_bel x hb5')))
                  have hB5 := Lib.hid (hB4.out.trans (hb5'.mono hw4.out))
                  have hw5 : Hid (b ≤ w5.heap.size) := Lib.hid (by rw [hbs.out]; exact hB5.out.size)
                  clear hb5' hI4 hB4
                  have hWS1 := Lib.hid (hWS.out b b _ (bA (wrF d f)) w5 hI5.out (by rw [Lib.byteCells_length, bA_size, List.length_append]; have := hLj.out; have := hwl.out; show U.length + 1 + _ ≤ _; omega) hw5.out)
                  go_wp2_with fail
                  refine hWS1.out.mono ?_
                  rintro e w6 ⟨rfl, hI6', hb6, _⟩
                  have hI6 : Hid (Lib.IsBuilderF 57 5 b b (Lib.byteCells (T ++ wrFs d (r.fs.take (j + 1)))) w6) := Lib.hid (by
                    rw [hbytes.out, ← List.append_assoc, hU, show U ++ d :: wrF d f = (U ++ [d]) ++ wrF d f by simp, Lib.byteCells_append (U ++ [d])]
                    exact .inr hI6')
                  have hB6 := Lib.hid (hB5.out.trans hb6)
                  clear hI6' hb6 hWS1 hI5 hB5 hU
                  go_wp2
                  go_roundw
                  case rel => exact ⟨j + 1, by have := hjh.out; omega, by go_num, hI6.out, hB6.out⟩
                  case measure => simp [intOf]; have := hjh.out; omega
              · obtain rfl : j = m := by omega
                have hall : Hid (T ++ wrFs d (r.fs.take j) ++ [10] = wrL d ((R.map Row.fs).take (i + 1))) := Lib.hid (by rw [htk.out, hm.out, List.take_length, List.append_assoc])
                generalize hU : T ++ wrFs d (r.fs.take j) = U at *
                replace hI := Lib.hid hI
                replace hB := Lib.hid hB
                clear hjn hjlt hU
                have hWB1 := Lib.hid (hWB.out b b _ 10 wr hI.out (by rw [Lib.byteCells_length]; have := hLj.out; omega) hwr.out)
                go_wp2_with fail
                refine hWB1.out.mono ?_
                rintro e w4 ⟨rfl, hI4', hb4, _⟩
                have hI4 : Hid (Lib.IsBuilderF 57 5 b b (Lib.byteCells (wrL d ((R.map Row.fs).take (i + 1)))) w4) := Lib.hid (by rw [← hall.out, Lib.byteCells_append]; exact .inr hI4')
                have hB4 := Lib.hid (hB.out.trans hb4)
                clear hI4' hb4 hWB1 hI hB
                go_wp2
                go_roundw
                case rel => exact ⟨i + 1, by have := hlh.out; omega, by go_num, hI4.out, hB4.out⟩
                case measure => simp [intOf]; have := hlh.out; omega
          · obtain rfl : i = n := by omega
            have hfin : Hid ((R.map Row.fs).take i = R.map Row.fs) := Lib.hid (List.take_of_length_le (by rw [List.length_map, hn.out]; exact Nat.le_refl _))
            rw [hfin.out] at hI
            have hSt1 := Lib.hid (hSt.out b b _ wr hI hwr.out)
            replace hB := Lib.hid hB
            clear hI hin hlt
            go_wp2_with fail
            refine hSt1.out.mono ?_
            rintro e w4 ⟨rfl, _, hb4, _⟩
            have hB4 := Lib.hid (hb5.out _ (hB.out.trans hb4))
            clear hb4 hSt1 hB
            go_wp2
            go_ret2
            exact ⟨rfl, hB4.out⟩
end Go.Proofs.YtanipgjojacbfaaDoor
