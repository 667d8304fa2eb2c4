/- What a term is, to the program. -/
import Derived.Test.YthbkdjbmkhmlnaaDoorB23
namespace Go.Proofs.YthbkdjbmkhmlnaaDoor
open Go.RowKit
set_option linter.unusedVariables false

def facB (f : Fa) : Bool := nameB f.s && decide (1 ≤ f.k) && decide (f.k ≤ 8)
def trmG : List Fa → List Fa → Bool
  | _, [] => true
  | p, f :: l => facB f && !decide (f ∈ p) && trmG (p ++ [f]) l
def trmB (l : List Fa) : Bool := decide (1 ≤ l.length) && decide (l.length ≤ 6) && trmG [] l
set_option maxRecDepth 100000 in
set_option maxHeartbeats 4000000 in
theorem isTerm_any (L : List Fa) (A : Option Addr) (n c : Nat) (w : World) (h : LR faC w A n L) (hn : n ≤ 100000) (hc : n ≤ c) : Calls Tryd.prog 34 #[.slice A n c] w fun e w' => e = .returned (.bool (trmB L)) ∧ Below w.heap.size w w' := by
  have hlen := Lib.hid h.len
  by_cases h1 : n < 1
  · have hfin := Lib.hid (show false = trmB L by unfold trmB; rw [hlen.out, decide_eq_false (by omega)]; rfl)
    have g1 : (n : Int) < 1 := by omega
    have hB := Lib.hid (Below.refl w.heap.size w)
    clear h hn hc h1
    go_enter Tryd.func34, Tryd.ntmps34
    go_wp2
    go_ret
    exact ⟨by rw [← hfin.out]; rfl, hB.out⟩
  · by_cases h6 : 6 < n
    · have hfin := Lib.hid (show false = trmB L by unfold trmB; rw [hlen.out, decide_eq_false (show ¬ n ≤ 6 by omega), Bool.and_false]; rfl)
      have g1 : ¬ (n : Int) < 1 := by omega
      have g2 : (6 : Int) < (n : Int) := by omega
      have hB := Lib.hid (Below.refl w.heap.size w)
      clear h hn hc h1 h6
      go_enter Tryd.func34, Tryd.ntmps34
      go_wp2
      go_ret
      exact ⟨by rw [← hfin.out]; rfl, hB.out⟩
    · have hfin := Lib.hid (show trmB L = trmG [] L by unfold trmB; rw [hlen.out, decide_eq_true (show 1 ≤ n by omega), decide_eq_true (show n ≤ 6 by omega)]; rfl)
      have g1 : ¬ (n : Int) < 1 := by omega
      have g2 : ¬ (6 : Int) < (n : Int) := by omega
      have hb6 := Lib.hid (show n ≤ 6 by omega)
      have hcc := Lib.hid hc
      replace h := Lib.hid h
      clear hn hc h1 h6
      go_enter Tryd.func34, Tryd.ntmps34
      go_wp2
      clear g1 g2
      go_loopw [15] (fun iv wr => ∃ i : Nat, i ≤ n ∧ iv = .int .i64 i ∧ Below w.heap.size w wr ∧ trmB L = trmG (L.take i) (L.drop i)) (fun iv _ => n - (intOf iv).toNat)
      case atStart => exact ⟨0, Nat.zero_le _, rfl, Below.refl _ _, hfin.out⟩
      case round =>
        obtain ⟨i, hin, rfl, B, hall⟩ := hrel
        by_cases hlt : i < n
        · obtain ⟨b, o, f, rfl, hf, hfm, e0, e1⟩ := fa_get (h.out.bel B) hlt
          have hdr := drop_cons_of hf
          have htk := take_snoc_of hf
          have hlr := (h.out.bel B).take_ (m := i) (by omega)
          have S3 := (St.new wr).alloc #[.string f.s, .int .i64 f.k] 37 (noLof rfl)
          have B3 := Lib.hid (B.trans (S3.bel.mono B.size))
          obtain ⟨nb, hnb⟩ : ∃ b, b = wr.heap.size := ⟨_, rfl⟩
          obtain ⟨w3, hw3⟩ : ∃ W, W = wr.alloc (.cells #[.string f.s, .int .i64 f.k] 37) := ⟨_, rfl⟩
          rw [← hnb, ← hw3] at S3
          rw [← hw3] at B3
          have d0 : Hid (w3.cell? ⟨nb, 0, none⟩ = some (.string f.s)) := Lib.hid (S3.cl 0 0 rfl rfl)
          have d1 : Hid (w3.cell? ⟨nb, 1, none⟩ = some (.int .i64 f.k)) := Lib.hid (S3.cl 0 1 rfl rfl)
          have hCt := Lib.hid (fun W (hW : Below w3.heap.size w3 W) => containsF_any (L.take i) (some ⟨b, o, none⟩) i c f W ((hlr.bel S3.bel).bel hW) (by have := hb6.out; omega))
          have hNm := Lib.hid (fun W => name_any f.s W)
          have hih := Lib.hid hlt
          have g1 : (i : Int) < (n : Int) := by omega
          have g2 : (0 : Int) ≤ (i : Int) := by omega
          have g3 : (i : Int) ≤ (c : Int) := by have := hcc.out; omega
          have hst := Lib.hid (show trmG (L.take i) (L.drop i) = (facB f && !decide (f ∈ L.take i) && trmG (L.take (i + 1)) (L.drop (i + 1))) by rw [hdr, htk]; rfl)
          replace hall := Lib.hid hall
          clear hlr hlt hin hf hfm S3 B hdr htk
          go_upto_region 6 with fail
          rw [← hnb, ← hw3]
          clear hnb hw3 e0 e1
          obtain ⟨bn, hbn⟩ : ∃ z, z = nameB f.s := ⟨_, rfl⟩
          obtain ⟨bv, hbv⟩ : ∃ z, z = decide (f ∈ L.take i) := ⟨_, rfl⟩
          rw [← hbn] at hNm
          rw [← hbv] at hCt hst
          cases bn with
          | false =>
            have hfx := Lib.hid (show trmG (L.take i) (L.drop i) = false by rw [hst.out]; unfold facB; rw [← hbn]; rfl)
            clear hst hbn hbv
            have hbase := Lib.hid (St.new w3)
            refine RW.begin (Z := []) (S := (fun W => Below w3.heap.size w3 W)) (by kernel_rfl) ?_ hbase.out ?_
            · exact ⟨by kernel_rfl, zis_nil, by decide, by decide, nol_nil, (fun _ _ h => h.bel)⟩
            intro hzk
            refine RW.t (i := 0) (v := .pointer (some ⟨nb, 0, none⟩)) (some 20) at0 (hy := fun _ _ => by go_simp) (h := ?_)
            refine RW.t (i := 1) (v := .string f.s) (some 21) at1 (hy := fun W hS => by (have k0 := bel_cell hS d0.out; clear hS; go_simp)) (h := ?_)
            refine RW.c (i := 2) (args := #[.string f.s]) (some 22) hzk.out at2 (hx := fun _ => by kernel_rfl) (h := fun W T9 => (hNm.out W).mono ?_)
            rintro e w9 ⟨rfl, rfl⟩
            refine ⟨Below.refl _ _, _, [], rfl, (fun r hr => by cases hr), ?_⟩
            refine RW.t (i := 3) (v := .bool true) (some 23) at3 (hy := fun _ _ => by go_simp) (h := ?_)
            refine RW.t (i := 4) (v := .bool true) (some 24) at4 (hy := fun _ _ => by go_simp) (h := ?_)
            refine RW.u (i := 5) (some 25) at5 (h := ?_)
            refine RW.u (i := 6) (some 26) at6 (h := ?_)
            refine RW.u (i := 7) (some 27) at7 (h := ?_)
            refine RW.t (i := 8) (v := .bool true) (some 28) at8 (hy := fun _ _ => by go_simp) (h := ?_)
            refine RW.t (i := 9) (v := .bool true) (some 29) at9 (hy := fun _ _ => by go_simp) (h := ?_)
            refine RW.u (i := 10) (some 30) at10 (h := ?_)
            refine RW.u (i := 11) (some 31) at11 (h := ?_)
            refine RW.u (i := 12) (some 32) at12 (h := ?_)
            refine RW.t (i := 13) (v := .bool true) (some 33) at13 (hy := fun _ _ => by go_simp) (h := ?_)
            refine RW.t (i := 14) (v := .bool true) (some 34) at14 (hy := fun _ _ => by go_simp) (h := ?_)
            refine RW.u (i := 15) (some 35) at15 (h := ?_)
            refine RW.u (i := 16) (some 36) at16 (h := ?_)
            refine RW.u (i := 17) (some 37) at17 (h := ?_)
            refine RW.u (i := 18) (some 38) at18 (h := ?_)
            refine RW.u (i := 19) (some 39) at19 (h := ?_)
            refine RW.t (i := 20) (v := .bool true) (some 40) at20 (hy := fun _ _ => by go_simp) (h := ?_)
            refine RW.tail hzk.out (by kernel_rfl) ?_
            intro gs' w5 hgs' hS Sb
            obtain rfl := len0 hgs'
            simp only [mark, fill, Act.put, List.setIfInBounds_toArray, List.set_cons_zero, List.set_cons_succ]
            refine Wk.done (by kernel_rfl) ?_
            have T := Lib.hid (B3.out.trans (hS.mono B3.out.size))
            clear Sb hgs' hzk hbase hS d0 d1 hNm hCt
            try go_simp
            go_wp2
            go_ret
            exact ⟨by rw [hall.out, hfx.out]; rfl, T.out⟩
          | true =>
            by_cases hk1 : f.k < 1
            · have hfx := Lib.hid (show trmG (L.take i) (L.drop i) = false by rw [hst.out]; unfold facB; rw [decide_eq_false (show ¬ 1 ≤ f.k by omega), Bool.and_false]; rfl)
              clear hst hbn hbv
              have hbase := Lib.hid (St.new w3)
              refine RW.begin (Z := []) (S := (fun W => Below w3.heap.size w3 W)) (by kernel_rfl) ?_ hbase.out ?_
              · exact ⟨by kernel_rfl, zis_nil, by decide, by decide, nol_nil, (fun _ _ h => h.bel)⟩
              intro hzk
              refine RW.t (i := 0) (v := .pointer (some ⟨nb, 0, none⟩)) (some 20) at0 (hy := fun _ _ => by go_simp) (h := ?_)
              refine RW.t (i := 1) (v := .string f.s) (some 21) at1 (hy := fun W hS => by (have k0 := bel_cell hS d0.out; clear hS; go_simp)) (h := ?_)
              refine RW.c (i := 2) (args := #[.string f.s]) (some 22) hzk.out at2 (hx := fun _ => by kernel_rfl) (h := fun W T9 => (hNm.out W).mono ?_)
              rintro e w9 ⟨rfl, rfl⟩
              refine ⟨Below.refl _ _, _, [], rfl, (fun r hr => by cases hr), ?_⟩
              refine RW.t (i := 3) (v := .bool false) (some 23) at3 (hy := fun _ _ => by go_simp) (h := ?_)
              refine RW.t (i := 4) (v := .bool false) (some 24) at4 (hy := fun _ _ => by go_simp) (h := ?_)
              refine RW.t (i := 5) (v := .pointer (some ⟨nb, 1, none⟩)) (some 25) at5 (hy := fun _ _ => by go_simp) (h := ?_)
              refine RW.t (i := 6) (v := .int .i64 f.k) (some 26) at6 (hy := fun W hS => by (have k0 := bel_cell hS d1.out; clear hS; go_simp)) (h := ?_)
              refine RW.t (i := 7) (v := .bool true) (some 27) at7 (hy := fun _ _ => by go_simp) (h := ?_)
              refine RW.t (i := 8) (v := .bool true) (some 28) at8 (hy := fun _ _ => by go_simp) (h := ?_)
              refine RW.t (i := 9) (v := .bool true) (some 29) at9 (hy := fun _ _ => by go_simp) (h := ?_)
              refine RW.u (i := 10) (some 30) at10 (h := ?_)
              refine RW.u (i := 11) (some 31) at11 (h := ?_)
              refine RW.u (i := 12) (some 32) at12 (h := ?_)
              refine RW.t (i := 13) (v := .bool true) (some 33) at13 (hy := fun _ _ => by go_simp) (h := ?_)
              refine RW.t (i := 14) (v := .bool true) (some 34) at14 (hy := fun _ _ => by go_simp) (h := ?_)
              refine RW.u (i := 15) (some 35) at15 (h := ?_)
              refine RW.u (i := 16) (some 36) at16 (h := ?_)
              refine RW.u (i := 17) (some 37) at17 (h := ?_)
              refine RW.u (i := 18) (some 38) at18 (h := ?_)
              refine RW.u (i := 19) (some 39) at19 (h := ?_)
              refine RW.t (i := 20) (v := .bool true) (some 40) at20 (hy := fun _ _ => by go_simp) (h := ?_)
              refine RW.tail hzk.out (by kernel_rfl) ?_
              intro gs' w5 hgs' hS Sb
              obtain rfl := len0 hgs'
              simp only [mark, fill, Act.put, List.setIfInBounds_toArray, List.set_cons_zero, List.set_cons_succ]
              refine Wk.done (by kernel_rfl) ?_
              have T := Lib.hid (B3.out.trans (hS.mono B3.out.size))
              clear Sb hgs' hzk hbase hS d0 d1 hNm hCt
              try go_simp
              go_wp2
              go_ret
              exact ⟨by rw [hall.out, hfx.out]; rfl, T.out⟩
            · by_cases hk8 : 8 < f.k
              · have hfx := Lib.hid (show trmG (L.take i) (L.drop i) = false by rw [hst.out]; unfold facB; rw [decide_eq_false (show ¬ f.k ≤ 8 by omega), Bool.and_false]; rfl)
                clear hst hbn hbv
                have hbase := Lib.hid (St.new w3)
                refine RW.begin (Z := []) (S := (fun W => Below w3.heap.size w3 W)) (by kernel_rfl) ?_ hbase.out ?_
                · exact ⟨by kernel_rfl, zis_nil, by decide, by decide, nol_nil, (fun _ _ h => h.bel)⟩
                intro hzk
                refine RW.t (i := 0) (v := .pointer (some ⟨nb, 0, none⟩)) (some 20) at0 (hy := fun _ _ => by go_simp) (h := ?_)
                refine RW.t (i := 1) (v := .string f.s) (some 21) at1 (hy := fun W hS => by (have k0 := bel_cell hS d0.out; clear hS; go_simp)) (h := ?_)
                refine RW.c (i := 2) (args := #[.string f.s]) (some 22) hzk.out at2 (hx := fun _ => by kernel_rfl) (h := fun W T9 => (hNm.out W).mono ?_)
                rintro e w9 ⟨rfl, rfl⟩
                refine ⟨Below.refl _ _, _, [], rfl, (fun r hr => by cases hr), ?_⟩
                refine RW.t (i := 3) (v := .bool false) (some 23) at3 (hy := fun _ _ => by go_simp) (h := ?_)
                refine RW.t (i := 4) (v := .bool false) (some 24) at4 (hy := fun _ _ => by go_simp) (h := ?_)
                refine RW.t (i := 5) (v := .pointer (some ⟨nb, 1, none⟩)) (some 25) at5 (hy := fun _ _ => by go_simp) (h := ?_)
                refine RW.t (i := 6) (v := .int .i64 f.k) (some 26) at6 (hy := fun W hS => by (have k0 := bel_cell hS d1.out; clear hS; go_simp)) (h := ?_)
                refine RW.t (i := 7) (v := .bool false) (some 27) at7 (hy := fun _ _ => by go_simp) (h := ?_)
                refine RW.t (i := 8) (v := .bool false) (some 28) at8 (hy := fun _ _ => by go_simp) (h := ?_)
                refine RW.t (i := 9) (v := .bool false) (some 29) at9 (hy := fun _ _ => by go_simp) (h := ?_)
                refine RW.t (i := 10) (v := .pointer (some ⟨nb, 1, none⟩)) (some 30) at10 (hy := fun _ _ => by go_simp) (h := ?_)
                refine RW.t (i := 11) (v := .int .i64 f.k) (some 31) at11 (hy := fun W hS => by (have k0 := bel_cell hS d1.out; clear hS; go_simp)) (h := ?_)
                refine RW.t (i := 12) (v := .bool true) (some 32) at12 (hy := fun _ _ => by go_simp) (h := ?_)
                refine RW.t (i := 13) (v := .bool true) (some 33) at13 (hy := fun _ _ => by go_simp) (h := ?_)
                refine RW.t (i := 14) (v := .bool true) (some 34) at14 (hy := fun _ _ => by go_simp) (h := ?_)
                refine RW.u (i := 15) (some 35) at15 (h := ?_)
                refine RW.u (i := 16) (some 36) at16 (h := ?_)
                refine RW.u (i := 17) (some 37) at17 (h := ?_)
                refine RW.u (i := 18) (some 38) at18 (h := ?_)
                refine RW.u (i := 19) (some 39) at19 (h := ?_)
                refine RW.t (i := 20) (v := .bool true) (some 40) at20 (hy := fun _ _ => by go_simp) (h := ?_)
                refine RW.tail hzk.out (by kernel_rfl) ?_
                intro gs' w5 hgs' hS Sb
                obtain rfl := len0 hgs'
                simp only [mark, fill, Act.put, List.setIfInBounds_toArray, List.set_cons_zero, List.set_cons_succ]
                refine Wk.done (by kernel_rfl) ?_
                have T := Lib.hid (B3.out.trans (hS.mono B3.out.size))
                clear Sb hgs' hzk hbase hS d0 d1 hNm hCt
                try go_simp
                go_wp2
                go_ret
                exact ⟨by rw [hall.out, hfx.out]; rfl, T.out⟩
              · have hfb : facB f = true := by unfold facB; rw [← hbn, decide_eq_true (show 1 ≤ f.k by omega), decide_eq_true (show f.k ≤ 8 by omega)]; rfl
                rw [hfb] at hst
                replace hbv := Lib.hid hbv
                clear hbn hfb
                have hbase := Lib.hid (St.new w3)
                refine RW.begin (Z := []) (S := (fun W => Below w3.heap.size w3 W)) (by kernel_rfl) ?_ hbase.out ?_
                · exact ⟨by kernel_rfl, zis_nil, by decide, by decide, nol_nil, (fun _ _ h => h.bel)⟩
                intro hzk
                refine RW.t (i := 0) (v := .pointer (some ⟨nb, 0, none⟩)) (some 20) at0 (hy := fun _ _ => by go_simp) (h := ?_)
                refine RW.t (i := 1) (v := .string f.s) (some 21) at1 (hy := fun W hS => by (have k0 := bel_cell hS d0.out; clear hS; go_simp)) (h := ?_)
                refine RW.c (i := 2) (args := #[.string f.s]) (some 22) hzk.out at2 (hx := fun _ => by kernel_rfl) (h := fun W T9 => (hNm.out W).mono ?_)
                rintro e w9 ⟨rfl, rfl⟩
                refine ⟨Below.refl _ _, _, [], rfl, (fun r hr => by cases hr), ?_⟩
                refine RW.t (i := 3) (v := .bool false) (some 23) at3 (hy := fun _ _ => by go_simp) (h := ?_)
                refine RW.t (i := 4) (v := .bool false) (some 24) at4 (hy := fun _ _ => by go_simp) (h := ?_)
                refine RW.t (i := 5) (v := .pointer (some ⟨nb, 1, none⟩)) (some 25) at5 (hy := fun _ _ => by go_simp) (h := ?_)
                refine RW.t (i := 6) (v := .int .i64 f.k) (some 26) at6 (hy := fun W hS => by (have k0 := bel_cell hS d1.out; clear hS; go_simp)) (h := ?_)
                refine RW.t (i := 7) (v := .bool false) (some 27) at7 (hy := fun _ _ => by go_simp) (h := ?_)
                refine RW.t (i := 8) (v := .bool false) (some 28) at8 (hy := fun _ _ => by go_simp) (h := ?_)
                refine RW.t (i := 9) (v := .bool false) (some 29) at9 (hy := fun _ _ => by go_simp) (h := ?_)
                refine RW.t (i := 10) (v := .pointer (some ⟨nb, 1, none⟩)) (some 30) at10 (hy := fun _ _ => by go_simp) (h := ?_)
                refine RW.t (i := 11) (v := .int .i64 f.k) (some 31) at11 (hy := fun W hS => by (have k0 := bel_cell hS d1.out; clear hS; go_simp)) (h := ?_)
                refine RW.t (i := 12) (v := .bool false) (some 32) at12 (hy := fun _ _ => by go_simp) (h := ?_)
                refine RW.t (i := 13) (v := .bool false) (some 33) at13 (hy := fun _ _ => by go_simp) (h := ?_)
                refine RW.t (i := 14) (v := .bool false) (some 34) at14 (hy := fun _ _ => by go_simp) (h := ?_)
                refine RW.t (i := 15) (v := .slice (some ⟨b, o, none⟩) n c) (some 35) at15 (hy := fun _ _ => by kernel_rfl) (h := ?_)
                refine RW.t (i := 16) (v := .int .i64 i) (some 36) at16 (hy := fun _ _ => by kernel_rfl) (h := ?_)
                refine RW.t (i := 17) (v := .slice (some ⟨b, o, none⟩) i c) (some 37) at17 (hy := fun _ _ => by go_simp) (h := ?_)
                refine RW.t (i := 18) (v := .agg #[.string f.s, .int .i64 f.k]) (some 38) at18 (hy := fun W hS => by (have k0 := bel_cell hS d0.out; have k1 := bel_cell hS d1.out; clear hS; go_simp)) (h := ?_)
                refine RW.c (i := 19) (args := #[.slice (some ⟨b, o, none⟩) i c, .agg #[.string f.s, .int .i64 f.k]]) (some 39) hzk.out at19 (hx := fun _ => by kernel_rfl) (h := fun W T9 => (hCt.out W T9.bel).mono ?_)
                rintro e w9 ⟨rfl, hB9⟩
                refine ⟨hB9, _, [], rfl, (fun r hr => by cases hr), ?_⟩
                clear hB9
                refine RW.t (i := 20) (v := .bool bv) (some 40) at20 (hy := fun _ _ => by go_simp) (h := ?_)
                refine RW.tail hzk.out (by kernel_rfl) ?_
                intro gs' w5 hgs' hS Sb
                obtain rfl := len0 hgs'
                simp only [mark, fill, Act.put, List.setIfInBounds_toArray, List.set_cons_zero, List.set_cons_succ]
                refine Wk.done (by kernel_rfl) ?_
                have T := Lib.hid (B3.out.trans (hS.mono B3.out.size))
                clear Sb hgs' hzk hbase hS d0 d1 hNm hCt
                try go_simp
                cases bv with
                | true =>
                  have hfx := Lib.hid (show trmG (L.take i) (L.drop i) = false by rw [hst.out]; rfl)
                  clear hst
                  go_wp2
                  go_ret
                  exact ⟨by rw [hall.out, hfx.out]; rfl, T.out⟩
                | false =>
                  have hfx := Lib.hid (show trmG (L.take i) (L.drop i) = trmG (L.take (i + 1)) (L.drop (i + 1)) by rw [hst.out]; rfl)
                  clear hst
                  have hlt := hih.out
                  have hbb := hb6.out
                  go_wp2
                  go_roundw
                  case rel => exact ⟨i + 1, by omega, by go_num, T.out, hall.out.trans hfx.out⟩
                  case measure => simp [intOf]; omega
        · obtain rfl : i = n := by omega
          have hf2 := Lib.hid (show trmB L = true by rw [hall, List.drop_eq_nil_of_le (by rw [hlen.out]; exact Nat.le_refl _)]; rfl)
          replace B := Lib.hid B
          clear hall hin hlt
          go_wp2
          go_ret
          exact ⟨by rw [hf2.out]; rfl, B.out⟩
end Go.Proofs.YthbkdjbmkhmlnaaDoor
