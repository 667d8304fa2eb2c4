/- What a model is, to the program. -/
import Derived.Test.YthbkdjbmkhmlnaaDoorB24
namespace Go.Proofs.YthbkdjbmkhmlnaaDoor
open Go.RowKit
set_option linter.unusedVariables false

def prevOk (p : List (List Fa)) (t : List Fa) : Bool := match p.getLast? with
  | none => true
  | some q => decide (q.length ≤ t.length)
def modG : List (List Fa) → List (List Fa) → Bool
  | _, [] => true
  | p, t :: l => trmB t && prevOk p t && !(p.any fun s => sfB s t) && modG (p ++ [t]) l
def modB (s : ByteArray) (T : List (List Fa)) : Bool := nameB s && decide (T.length ≤ 32) && modG [] T
theorem prev_zero (t : List Fa) : prevOk [] t = true := rfl
theorem prev_succ {T : List (List Fa)} {i1 : Nat} {y : List Fa} (h : T[i1]? = some y) (t : List Fa) : prevOk (T.take (i1 + 1)) t = decide (y.length ≤ t.length) := by
  unfold prevOk
  rw [take_snoc_of h, List.getLast?_append]; rfl
set_option maxRecDepth 100000 in
set_option maxHeartbeats 4000000 in
theorem tvalid_any (s : ByteArray) (bz : Bool) (Ls : List (Sl Fa)) (A : Option Addr) (n c : Nat) (w : World) (h : LR (slC faC) w A n Ls) (hc : n ≤ c) (hn : n ≤ 100000) (hs : ∀ x ∈ Ls, x.L.length ≤ 100000) : Calls Tryd.prog 14 #[.agg #[.string s, .bool bz, .slice A n c]] w fun e w' => e = .returned (.bool (modB s (Ls.map fun x => x.L))) ∧ Below w.heap.size w w' := by
  have hlen := Lib.hid h.len
  have S1 := Lib.hid ((St.new w).alloc #[.string s, .bool bz, .slice A n c] 29 (noLof rfl))
  obtain ⟨bx, hbx⟩ : ∃ b, b = w.heap.size := ⟨_, rfl⟩
  obtain ⟨w1, hw1⟩ : ∃ W, W = w.alloc (.cells #[.string s, .bool bz, .slice A n c] 29) := ⟨_, rfl⟩
  rw [← hbx, ← hw1] at S1
  have hNm := Lib.hid (fun W => name_any s W)
  have b0 : w1.cell? ⟨bx, 0, none⟩ = some (.string s) := S1.out.cl 0 0 rfl rfl
  have b2 : w1.cell? ⟨bx, 2, none⟩ = some (.slice A n c) := S1.out.cl 0 2 rfl rfl
  have hbl := Lib.hid (S1.out.lt 0 rfl)
  have hm : (Ls.map fun x => x.L).length = n := by rw [List.length_map]; exact hlen.out
  obtain ⟨bn, hbn⟩ : ∃ z, z = nameB s := ⟨_, rfl⟩
  rw [← hbn] at hNm
  cases bn with
  | false =>
    have hfin := Lib.hid (show false = modB s (Ls.map fun x => x.L) by unfold modB; rw [← hbn]; rfl)
    have hB := Lib.hid S1.out.bel
    clear h hc hn hs hbn hm S1
    go_enter Tryd.func14, Tryd.ntmps14
    go_wp2_with fail
    rw [← hbx, ← hw1]
    refine (hNm.out w1).mono ?_
    rintro e w2 ⟨rfl, rfl⟩
    clear hw1 hbx
    go_wp2
    go_ret
    exact ⟨by rw [← hfin.out]; rfl, hB.out⟩
  | true =>
    by_cases h32 : 32 < n
    · have hfin := Lib.hid (show false = modB s (Ls.map fun x => x.L) by unfold modB; rw [hm, decide_eq_false (show ¬ n ≤ 32 by omega), Bool.and_false]; rfl)
      have hB := Lib.hid S1.out.bel
      have g1 : (32 : Int) < (n : Int) := by omega
      clear h hc hn hs hbn hm S1 h32
      go_enter Tryd.func14, Tryd.ntmps14
      go_wp2_with fail
      rw [← hbx, ← hw1]
      refine (hNm.out w1).mono ?_
      rintro e w2 ⟨rfl, rfl⟩
      clear hw1 hbx
      go_wp2
      go_ret
      exact ⟨by rw [← hfin.out]; rfl, hB.out⟩
    · have hfin := Lib.hid (show modB s (Ls.map fun x => x.L) = modG [] (Ls.map fun x => x.L) by unfold modB; rw [hm, ← hbn, decide_eq_true (show n ≤ 32 by omega)]; rfl)
      have g1 : ¬ (32 : Int) < (n : Int) := by omega
      have hn5 := Lib.hid (show n ≤ 32 by omega)
      have h1 := Lib.hid (h.bel S1.out.bel)
      have hcc := Lib.hid hc
      have hsz := Lib.hid hs
      have hb2 : Hid (w1.cell? ⟨bx, 2, none⟩ = some (.slice A n c)) := Lib.hid b2
      have hw0 := Lib.hid S1.out.bel
      clear h hc hn hs hbn hm S1 h32
      go_enter Tryd.func14, Tryd.ntmps14
      go_wp2_with fail
      rw [← hbx, ← hw1]
      refine (hNm.out w1).mono ?_
      rintro e w1 ⟨rfl, rfl⟩
      clear hw1 hbx
      go_wp2
      clear g1 b0 b2
      go_loopw [18] (fun iv wr => ∃ i : Nat, i ≤ n ∧ iv = .int .i64 i ∧ Below w1.heap.size w1 wr ∧ modB s (Ls.map fun x => x.L) = modG ((Ls.take i).map fun x => x.L) ((Ls.drop i).map fun x => x.L)) (fun iv _ => n - (intOf iv).toNat)
      case atStart => exact ⟨0, Nat.zero_le _, rfl, Below.refl _ _, hfin.out⟩
      case round =>
        obtain ⟨i, hin, rfl, B, hall⟩ := hrel
        by_cases hlt : i < n
        · obtain ⟨b, o, x, rfl, hx, hxm, e0, hxl, hxc⟩ := fs_get (h1.out.bel B) hlt
          have hdr := drop_cons_of hx
          have htk := take_snoc_of hx
          have S3 := Lib.hid ((St.new wr).alloc #[.slice x.A x.L.length x.c] 34 (noLof rfl))
          have B3 := Lib.hid (B.trans (S3.out.bel.mono B.size))
          obtain ⟨tb, htb⟩ : ∃ b, b = wr.heap.size := ⟨_, rfl⟩
          obtain ⟨w3, hw3⟩ : ∃ W, W = wr.alloc (.cells #[.slice x.A x.L.length x.c] 34) := ⟨_, rfl⟩
          rw [← htb, ← hw3] at S3
          rw [← hw3] at B3
          have d0 : Hid (w3.cell? ⟨tb, 0, none⟩ = some (.slice x.A x.L.length x.c)) := Lib.hid (S3.out.cl 0 0 rfl rfl)
          have d2 : Hid (w3.cell? ⟨bx, 2, none⟩ = some (.slice (some ⟨b, o, none⟩) n c)) := Lib.hid ((World.cell?_of_block (B3.out.block _ hbl.out)).trans hb2.out)
          have hxn := Lib.hid (hsz.out x hxm)
          have hTm := Lib.hid (fun W (hW : Below w3.heap.size w3 W) => isTerm_any x.L x.A x.L.length x.c W ((hxl.bel S3.out.bel).bel hW) hxn.out hxc)
          have hpre := Lib.hid (h1.out.take_ (m := i) (by omega))
          have hih := Lib.hid hlt
          have g1 : (i : Int) < (n : Int) := by omega
          have g2 : (0 : Int) ≤ (i : Int) := by omega
          have hst := Lib.hid (show modG ((Ls.take i).map fun s => s.L) ((Ls.drop i).map fun s => s.L) = (trmB x.L && prevOk ((Ls.take i).map fun s => s.L) x.L && !(((Ls.take i).map fun s => s.L).any fun s => sfB s x.L) && modG ((Ls.take (i + 1)).map fun s => s.L) ((Ls.drop (i + 1)).map fun s => s.L)) by rw [hdr, htk, List.map_append]; rfl)
          have hprev : Hid ((i = 0 ∧ prevOk ((Ls.take i).map fun s => s.L) x.L = true) ∨ ∃ (i1 : Nat) (y : Sl Fa), i = i1 + 1 ∧ wr.cell? ⟨b, o + i1, none⟩ = some (.slice y.A y.L.length y.c) ∧ prevOk ((Ls.take i).map fun s => s.L) x.L = decide (y.L.length ≤ x.L.length)) := Lib.hid (by
            rcases Nat.eq_zero_or_pos i with h0 | h0
            · subst h0; exact .inl ⟨rfl, rfl⟩
            · obtain ⟨i1, rfl⟩ : ∃ k, i = k + 1 := ⟨i - 1, by omega⟩
              obtain ⟨b', o', y, hA, hy, _, y0, _, _⟩ := fs_get (h1.out.bel B) (i := i1) (by omega)
              injection hA with hA
              injection hA with a1 a2
              subst a1 a2
              refine .inr ⟨i1, y, rfl, y0, ?_⟩
              rw [List.map_take]
              exact prev_succ (by rw [List.getElem?_map, hy]; rfl) x.L)
          have hxl := Lib.hid hxl
          replace hall := Lib.hid hall
          clear hlt hin hx hxm hdr htk hxc B
          go_upto_region 6 with fail
          rw [← htb, ← hw3]
          clear htb e0
          obtain ⟨bt, hbt⟩ : ∃ z, z = trmB x.L := ⟨_, rfl⟩
          rw [← hbt] at hTm hst
          replace hbt := Lib.hid hbt
          cases bt with
          | false =>
            have hfx := Lib.hid (show modG ((Ls.take i).map (fun s => s.L)) ((Ls.drop i).map (fun s => s.L)) = false by rw [hst.out]; rfl)
            clear hst hprev hw3
            have hbase := Lib.hid (St.new w3)
            refine RW.begin (Z := []) (S := (fun W => Below w3.heap.size w3 W)) (by kernel_rfl) ?_ hbase.out ?_
            · exact ⟨by kernel_rfl, zis_nil, by decide, by decide, nol_nil, (fun _ _ h => h.bel)⟩
            intro hzk
            refine RW.t (i := 0) (v := .slice x.A x.L.length x.c) (some 23) at0 (hy := fun W hS => by (have k0 := bel_cell hS d0.out; clear hS; go_simp)) (h := ?_)
            refine RW.c (i := 1) (args := #[.slice x.A x.L.length x.c]) (some 24) hzk.out at1 (hx := fun _ => by kernel_rfl) (h := fun W T9 => (hTm.out W T9.bel).mono ?_)
            rintro e w9 ⟨rfl, hB9⟩
            refine ⟨hB9, _, [], rfl, (fun r hr => by cases hr), ?_⟩
            clear hB9
            refine RW.t (i := 2) (v := .bool true) (some 25) at2 (hy := fun _ _ => by go_simp) (h := ?_)
            refine RW.t (i := 3) (v := .bool true) (some 26) at3 (hy := fun _ _ => by go_simp) (h := ?_)
            refine RW.u (i := 4) (some 27) at4 (h := ?_)
            refine RW.u (i := 5) (some 28) at5 (h := ?_)
            refine RW.u (i := 6) (some 29) at6 (h := ?_)
            refine RW.u (i := 7) (some 30) at7 (h := ?_)
            refine RW.u (i := 8) (some 31) at8 (h := ?_)
            refine RW.u (i := 9) (some 32) at9 (h := ?_)
            refine RW.u (i := 10) (some 33) at10 (h := ?_)
            refine RW.u (i := 11) (some 34) at11 (h := ?_)
            refine RW.u (i := 12) (some 35) at12 (h := ?_)
            refine RW.u (i := 13) (some 36) at13 (h := ?_)
            refine RW.u (i := 14) (some 37) at14 (h := ?_)
            refine RW.u (i := 15) (some 38) at15 (h := ?_)
            refine RW.u (i := 16) (some 39) at16 (h := ?_)
            refine RW.u (i := 17) (some 40) at17 (h := ?_)
            refine RW.t (i := 18) (v := .bool true) (some 41) at18 (hy := fun _ _ => by go_simp) (h := ?_)
            refine RW.tail hzk.out (by kernel_rfl) ?_
            intro gs' w5 hgs' hS Sb
            obtain rfl := len0 hgs'
            simp only [mark, fill, Act.put, List.setIfInBounds_toArray, List.set_cons_zero, List.set_cons_succ]
            refine Wk.done (by kernel_rfl) ?_
            have T := Lib.hid (B3.out.trans (hS.mono B3.out.size))
            have S5 := Lib.hid (S3.out.call hS)
            clear Sb hgs' hzk hbase hS d0 d2 hTm S3 B3
            try go_simp
            go_wp2
            go_ret
            exact ⟨by rw [hall.out, hfx.out]; rfl, hw0.out.trans (T.out.mono hw0.out.size)⟩
          | true =>
            rcases hprev.out with ⟨hi0, hpv⟩ | ⟨i1, y, hi1, y0, hpv⟩
            · rw [hpv] at hst
              replace hi0 := Lib.hid hi0
              clear hprev hpv hw3
              have hbase := Lib.hid (St.new w3)
              refine RW.begin (Z := []) (S := (fun W => Below w3.heap.size w3 W)) (by kernel_rfl) ?_ hbase.out ?_
              · exact ⟨by kernel_rfl, zis_nil, by decide, by decide, nol_nil, (fun _ _ h => h.bel)⟩
              intro hzk
              refine RW.t (i := 0) (v := .slice x.A x.L.length x.c) (some 23) at0 (hy := fun W hS => by (have k0 := bel_cell hS d0.out; clear hS; go_simp)) (h := ?_)
              refine RW.c (i := 1) (args := #[.slice x.A x.L.length x.c]) (some 24) hzk.out at1 (hx := fun _ => by kernel_rfl) (h := fun W T9 => (hTm.out W T9.bel).mono ?_)
              rintro e w9 ⟨rfl, hB9⟩
              refine ⟨hB9, _, [], rfl, (fun r hr => by cases hr), ?_⟩
              clear hB9
              refine RW.t (i := 2) (v := .bool false) (some 25) at2 (hy := fun _ _ => by go_simp) (h := ?_)
              refine RW.t (i := 3) (v := .bool false) (some 26) at3 (hy := fun _ _ => by go_simp) (h := ?_)
              refine RW.t (i := 4) (v := .int .i64 i) (some 27) at4 (hy := fun _ _ => by kernel_rfl) (h := ?_)
              refine RW.t (i := 5) (v := .bool false) (some 28) at5 (hy := fun _ _ => by (have hz := hi0.out; go_simp)) (h := ?_)
              refine RW.t (i := 6) (v := .bool false) (some 29) at6 (hy := fun _ _ => by go_simp) (h := ?_)
              refine RW.u (i := 7) (some 30) at7 (h := ?_)
              refine RW.u (i := 8) (some 31) at8 (h := ?_)
              refine RW.u (i := 9) (some 32) at9 (h := ?_)
              refine RW.u (i := 10) (some 33) at10 (h := ?_)
              refine RW.u (i := 11) (some 34) at11 (h := ?_)
              refine RW.u (i := 12) (some 35) at12 (h := ?_)
              refine RW.u (i := 13) (some 36) at13 (h := ?_)
              refine RW.u (i := 14) (some 37) at14 (h := ?_)
              refine RW.u (i := 15) (some 38) at15 (h := ?_)
              refine RW.u (i := 16) (some 39) at16 (h := ?_)
              refine RW.t (i := 17) (v := .bool false) (some 40) at17 (hy := fun _ _ => by go_simp) (h := ?_)
              refine RW.t (i := 18) (v := .bool false) (some 41) at18 (hy := fun _ _ => by go_simp) (h := ?_)
              refine RW.tail hzk.out (by kernel_rfl) ?_
              intro gs' w5 hgs' hS Sb
              obtain rfl := len0 hgs'
              simp only [mark, fill, Act.put, List.setIfInBounds_toArray, List.set_cons_zero, List.set_cons_succ]
              refine Wk.done (by kernel_rfl) ?_
              have T := Lib.hid (B3.out.trans (hS.mono B3.out.size))
              have S5 := Lib.hid (S3.out.call hS)
              clear Sb hgs' hzk hbase hS d0 d2 hTm S3 B3
              try go_simp
              have d0 : w5.cell? ⟨tb, 0, none⟩ = some (.slice x.A x.L.length x.c) := S5.out.cl 0 0 rfl rfl
              have d2 : w5.cell? ⟨bx, 2, none⟩ = some (.slice (some ⟨b, o, none⟩) n c) := (World.cell?_of_block ((T.out).block _ hbl.out)).trans hb2.out
              have hlt5 := S5.out.lt 0 rfl
              have hxs := Lib.hid (show LR faC w5 x.A x.L.length x.L from hxl.out.bel S5.out.bel)
              have hV := Lib.hid (cfV_any (Ls.take i) (some ⟨b, o, none⟩) i c tb (fun s => sfB s.L x.L) w5 (hpre.out.bel T.out) (by have := hn5.out; have := hih.out; omega) (fun W hW s hs => sameD_any x.L x.A x.L.length x.c tb s W (hxs.out.bel hW) (by have := hxn.out; omega) ((World.cell?_of_block (hW.block _ hlt5)).trans d0) (((hpre.out.bel T.out).bel hW).el s hs).1 (hsz.out s (List.mem_of_mem_take hs))))
              have hany : Hid ((Ls.take i).any (fun s => sfB s.L x.L) = ((Ls.take i).map (fun s => s.L)).any (fun s => sfB s x.L)) := Lib.hid (by rw [List.any_map]; rfl)
              rw [hany.out] at hV
              obtain ⟨bv, hbv⟩ : ∃ z, z = ((Ls.take i).map (fun s => s.L)).any (fun s => sfB s x.L) := ⟨_, rfl⟩
              rw [← hbv] at hV hst
              replace hbv := Lib.hid hbv
              have g3 : (i : Int) ≤ (c : Int) := by have := hcc.out; have := hih.out; omega
              clear hlt5 hxs hany
              go_wp2_with fail
              clear d0 d2 g3
              refine hV.out.mono ?_
              rintro e w6 ⟨rfl, hb6⟩
              have T6 := Lib.hid (T.out.trans (hb6.mono T.out.size))
              clear hb6 hV S5 T
              cases bv with
              | true =>
                have hfx := Lib.hid (show modG ((Ls.take i).map (fun s => s.L)) ((Ls.drop i).map (fun s => s.L)) = false by rw [hst.out]; simp)
                clear hst
                go_wp2
                go_ret
                exact ⟨by rw [hall.out, hfx.out]; rfl, hw0.out.trans (T6.out.mono hw0.out.size)⟩
              | false =>
                have hfx := Lib.hid (show modG ((Ls.take i).map (fun s => s.L)) ((Ls.drop i).map (fun s => s.L)) = modG ((Ls.take (i + 1)).map (fun s => s.L)) ((Ls.drop (i + 1)).map (fun s => s.L)) by rw [hst.out]; simp)
                clear hst
                have hlt := hih.out
                have hbb := hn5.out
                go_wp2
                go_roundw
                case rel => exact ⟨i + 1, by omega, by go_num, T6.out, hall.out.trans hfx.out⟩
                case measure => simp [intOf]; omega
            · rw [hpv] at hst
              have g4 : (0 : Int) < (i : Int) := by omega
              have g4n : 0 < i := by omega
              have e5 : (i : Int) - 1 = (i1 : Int) := by omega
              have g5 : (i1 : Int) < (n : Int) := by omega
              have g6 : i ≤ 32 := by have := hn5.out; have := hih.out; omega
              have wq : IntKind.i64.wrap (i1 : Int) = (i1 : Int) := by rw [IntKind.wrap_i64]; have := hn5.out; have := hih.out; omega
              have y0 : Hid (w3.cell? ⟨b, o + i1, none⟩ = some (.slice y.A y.L.length y.c)) := Lib.hid (by rw [hw3]; exact Lib.cell?_alloc_some _ y0)
              replace hi1 := Lib.hid hi1
              clear hprev hpv hw3
              by_cases hle : x.L.length < y.L.length
              · have hfx := Lib.hid (show modG ((Ls.take i).map (fun s => s.L)) ((Ls.drop i).map (fun s => s.L)) = false by rw [hst.out, decide_eq_false (show ¬ y.L.length ≤ x.L.length by omega)]; rfl)
                have g7 : (x.L.length : Int) < (y.L.length : Int) := by omega
                replace hle := Lib.hid hle
                clear hst
                have hbase := Lib.hid (St.new w3)
                refine RW.begin (Z := []) (S := (fun W => Below w3.heap.size w3 W)) (by kernel_rfl) ?_ hbase.out ?_
                · exact ⟨by kernel_rfl, zis_nil, by decide, by decide, nol_nil, (fun _ _ h => h.bel)⟩
                intro hzk
                refine RW.t (i := 0) (v := .slice x.A x.L.length x.c) (some 23) at0 (hy := fun W hS => by (have k0 := bel_cell hS d0.out; clear hS; go_simp)) (h := ?_)
                refine RW.c (i := 1) (args := #[.slice x.A x.L.length x.c]) (some 24) hzk.out at1 (hx := fun _ => by kernel_rfl) (h := fun W T9 => (hTm.out W T9.bel).mono ?_)
                rintro e w9 ⟨rfl, hB9⟩
                refine ⟨hB9, _, [], rfl, (fun r hr => by cases hr), ?_⟩
                clear hB9
                refine RW.t (i := 2) (v := .bool false) (some 25) at2 (hy := fun _ _ => by go_simp) (h := ?_)
                refine RW.t (i := 3) (v := .bool false) (some 26) at3 (hy := fun _ _ => by go_simp) (h := ?_)
                refine RW.t (i := 4) (v := .int .i64 i) (some 27) at4 (hy := fun _ _ => by kernel_rfl) (h := ?_)
                refine RW.t (i := 5) (v := .bool true) (some 28) at5 (hy := fun _ _ => by go_simp) (h := ?_)
                refine RW.t (i := 6) (v := .bool true) (some 29) at6 (hy := fun _ _ => by go_simp) (h := ?_)
                refine RW.t (i := 7) (v := .slice x.A x.L.length x.c) (some 30) at7 (hy := fun W hS => by (have k0 := bel_cell hS d0.out; clear hS; go_simp)) (h := ?_)
                refine RW.t (i := 8) (v := .int .i64 x.L.length) (some 31) at8 (hy := fun _ _ => by go_simp) (h := ?_)
                refine RW.t (i := 9) (v := .pointer (some ⟨bx, 2, none⟩)) (some 32) at9 (hy := fun _ _ => by go_simp) (h := ?_)
                refine RW.t (i := 10) (v := .slice (some ⟨b, o, none⟩) n c) (some 33) at10 (hy := fun W hS => by (have k0 := bel_cell hS d2.out; clear hS; go_simp)) (h := ?_)
                refine RW.t (i := 11) (v := .int .i64 i) (some 34) at11 (hy := fun _ _ => by kernel_rfl) (h := ?_)
                refine RW.t (i := 12) (v := .int .i64 (i1 : Int)) (some 35) at12 (hy := fun _ _ => by go_simp) (h := ?_)
                refine RW.t (i := 13) (v := .pointer (some ⟨b, o + i1, none⟩)) (some 36) at13 (hy := fun _ _ => by go_simp) (h := ?_)
                refine RW.t (i := 14) (v := .slice y.A y.L.length y.c) (some 37) at14 (hy := fun W hS => by (have k0 := bel_cell hS y0.out; clear hS; go_simp)) (h := ?_)
                refine RW.t (i := 15) (v := .int .i64 y.L.length) (some 38) at15 (hy := fun _ _ => by go_simp) (h := ?_)
                refine RW.t (i := 16) (v := .bool true) (some 39) at16 (hy := fun _ _ => by go_simp) (h := ?_)
                refine RW.t (i := 17) (v := .bool true) (some 40) at17 (hy := fun _ _ => by go_simp) (h := ?_)
                refine RW.t (i := 18) (v := .bool true) (some 41) at18 (hy := fun _ _ => by go_simp) (h := ?_)
                refine RW.tail hzk.out (by kernel_rfl) ?_
                intro gs' w5 hgs' hS Sb
                obtain rfl := len0 hgs'
                simp only [mark, fill, Act.put, List.setIfInBounds_toArray, List.set_cons_zero, List.set_cons_succ]
                refine Wk.done (by kernel_rfl) ?_
                have T := Lib.hid (B3.out.trans (hS.mono B3.out.size))
                have S5 := Lib.hid (S3.out.call hS)
                clear Sb hgs' hzk hbase hS d0 d2 hTm S3 B3
                try go_simp
                go_wp2
                go_ret
                exact ⟨by rw [hall.out, hfx.out]; rfl, hw0.out.trans (T.out.mono hw0.out.size)⟩
              · have hst2 := Lib.hid (hst.out)
                rw [decide_eq_true (show y.L.length ≤ x.L.length by omega)] at hst
                have g7 : ¬ (x.L.length : Int) < (y.L.length : Int) := by omega
                replace hle := Lib.hid hle
                clear hst2
                have hbase := Lib.hid (St.new w3)
                refine RW.begin (Z := []) (S := (fun W => Below w3.heap.size w3 W)) (by kernel_rfl) ?_ hbase.out ?_
                · exact ⟨by kernel_rfl, zis_nil, by decide, by decide, nol_nil, (fun _ _ h => h.bel)⟩
                intro hzk
                refine RW.t (i := 0) (v := .slice x.A x.L.length x.c) (some 23) at0 (hy := fun W hS => by (have k0 := bel_cell hS d0.out; clear hS; go_simp)) (h := ?_)
                refine RW.c (i := 1) (args := #[.slice x.A x.L.length x.c]) (some 24) hzk.out at1 (hx := fun _ => by kernel_rfl) (h := fun W T9 => (hTm.out W T9.bel).mono ?_)
                rintro e w9 ⟨rfl, hB9⟩
                refine ⟨hB9, _, [], rfl, (fun r hr => by cases hr), ?_⟩
                clear hB9
                refine RW.t (i := 2) (v := .bool false) (some 25) at2 (hy := fun _ _ => by go_simp) (h := ?_)
                refine RW.t (i := 3) (v := .bool false) (some 26) at3 (hy := fun _ _ => by go_simp) (h := ?_)
                refine RW.t (i := 4) (v := .int .i64 i) (some 27) at4 (hy := fun _ _ => by kernel_rfl) (h := ?_)
                refine RW.t (i := 5) (v := .bool true) (some 28) at5 (hy := fun _ _ => by go_simp) (h := ?_)
                refine RW.t (i := 6) (v := .bool true) (some 29) at6 (hy := fun _ _ => by go_simp) (h := ?_)
                refine RW.t (i := 7) (v := .slice x.A x.L.length x.c) (some 30) at7 (hy := fun W hS => by (have k0 := bel_cell hS d0.out; clear hS; go_simp)) (h := ?_)
                refine RW.t (i := 8) (v := .int .i64 x.L.length) (some 31) at8 (hy := fun _ _ => by go_simp) (h := ?_)
                refine RW.t (i := 9) (v := .pointer (some ⟨bx, 2, none⟩)) (some 32) at9 (hy := fun _ _ => by go_simp) (h := ?_)
                refine RW.t (i := 10) (v := .slice (some ⟨b, o, none⟩) n c) (some 33) at10 (hy := fun W hS => by (have k0 := bel_cell hS d2.out; clear hS; go_simp)) (h := ?_)
                refine RW.t (i := 11) (v := .int .i64 i) (some 34) at11 (hy := fun _ _ => by kernel_rfl) (h := ?_)
                refine RW.t (i := 12) (v := .int .i64 (i1 : Int)) (some 35) at12 (hy := fun _ _ => by go_simp) (h := ?_)
                refine RW.t (i := 13) (v := .pointer (some ⟨b, o + i1, none⟩)) (some 36) at13 (hy := fun _ _ => by go_simp) (h := ?_)
                refine RW.t (i := 14) (v := .slice y.A y.L.length y.c) (some 37) at14 (hy := fun W hS => by (have k0 := bel_cell hS y0.out; clear hS; go_simp)) (h := ?_)
                refine RW.t (i := 15) (v := .int .i64 y.L.length) (some 38) at15 (hy := fun _ _ => by go_simp) (h := ?_)
                refine RW.t (i := 16) (v := .bool false) (some 39) at16 (hy := fun _ _ => by go_simp) (h := ?_)
                refine RW.t (i := 17) (v := .bool false) (some 40) at17 (hy := fun _ _ => by go_simp) (h := ?_)
                refine RW.t (i := 18) (v := .bool false) (some 41) at18 (hy := fun _ _ => by go_simp) (h := ?_)
                refine RW.tail hzk.out (by kernel_rfl) ?_
                intro gs' w5 hgs' hS Sb
                obtain rfl := len0 hgs'
                simp only [mark, fill, Act.put, List.setIfInBounds_toArray, List.set_cons_zero, List.set_cons_succ]
                refine Wk.done (by kernel_rfl) ?_
                have T := Lib.hid (B3.out.trans (hS.mono B3.out.size))
                have S5 := Lib.hid (S3.out.call hS)
                clear Sb hgs' hzk hbase hS d0 d2 hTm S3 B3
                try go_simp
                have d0 : w5.cell? ⟨tb, 0, none⟩ = some (.slice x.A x.L.length x.c) := S5.out.cl 0 0 rfl rfl
                have d2 : w5.cell? ⟨bx, 2, none⟩ = some (.slice (some ⟨b, o, none⟩) n c) := (World.cell?_of_block ((T.out).block _ hbl.out)).trans hb2.out
                have hlt5 := S5.out.lt 0 rfl
                have hxs := Lib.hid (show LR faC w5 x.A x.L.length x.L from hxl.out.bel S5.out.bel)
                have hV := Lib.hid (cfV_any (Ls.take i) (some ⟨b, o, none⟩) i c tb (fun s => sfB s.L x.L) w5 (hpre.out.bel T.out) (by have := hn5.out; have := hih.out; omega) (fun W hW s hs => sameD_any x.L x.A x.L.length x.c tb s W (hxs.out.bel hW) (by have := hxn.out; omega) ((World.cell?_of_block (hW.block _ hlt5)).trans d0) (((hpre.out.bel T.out).bel hW).el s hs).1 (hsz.out s (List.mem_of_mem_take hs))))
                have hany : Hid ((Ls.take i).any (fun s => sfB s.L x.L) = ((Ls.take i).map (fun s => s.L)).any (fun s => sfB s x.L)) := Lib.hid (by rw [List.any_map]; rfl)
                rw [hany.out] at hV
                obtain ⟨bv, hbv⟩ : ∃ z, z = ((Ls.take i).map (fun s => s.L)).any (fun s => sfB s x.L) := ⟨_, rfl⟩
                rw [← hbv] at hV hst
                replace hbv := Lib.hid hbv
                have g3 : (i : Int) ≤ (c : Int) := by have := hcc.out; have := hih.out; omega
                clear hlt5 hxs hany
                go_wp2_with fail
                clear d0 d2 g3
                refine hV.out.mono ?_
                rintro e w6 ⟨rfl, hb6⟩
                have T6 := Lib.hid (T.out.trans (hb6.mono T.out.size))
                clear hb6 hV S5 T
                cases bv with
                | true =>
                  have hfx := Lib.hid (show modG ((Ls.take i).map (fun s => s.L)) ((Ls.drop i).map (fun s => s.L)) = false by rw [hst.out]; simp)
                  clear hst
                  go_wp2
                  go_ret
                  exact ⟨by rw [hall.out, hfx.out]; rfl, hw0.out.trans (T6.out.mono hw0.out.size)⟩
                | false =>
                  have hfx := Lib.hid (show modG ((Ls.take i).map (fun s => s.L)) ((Ls.drop i).map (fun s => s.L)) = modG ((Ls.take (i + 1)).map (fun s => s.L)) ((Ls.drop (i + 1)).map (fun s => s.L)) by rw [hst.out]; simp)
                  clear hst
                  have hlt := hih.out
                  have hbb := hn5.out
                  go_wp2
                  go_roundw
                  case rel => exact ⟨i + 1, by omega, by go_num, T6.out, hall.out.trans hfx.out⟩
                  case measure => simp [intOf]; omega
        · obtain rfl : i = n := by omega
          have hf2 := Lib.hid (show modB s (Ls.map fun x => x.L) = true by rw [hall, List.drop_eq_nil_of_le (by rw [hlen.out]; exact Nat.le_refl _)]; rfl)
          have T := Lib.hid (hw0.out.trans (B.mono hw0.out.size))
          clear hall hin hlt B
          go_wp2
          go_ret
          exact ⟨by rw [hf2.out]; rfl, T.out⟩
end Go.Proofs.YthbkdjbmkhmlnaaDoor
