/- The right side. -/
import Derived.Test.YthbkdjbmkhmlnaaDoorB19
namespace Go.Proofs.YthbkdjbmkhmlnaaDoor
open Go.RowKit
set_option linter.unusedVariables false

theorem pre_head : ∀ (t : F9.Tr), t.wf → ∃ y tl, t.pre.map toNd = y :: tl ∧ (y.o == 4) = F10.isZ t ∧ (y.o = 5 ∨ y.o = 6 ↔ ∃ op a b, t = .bin op a b ∧ (op = 5 ∨ op = 6))
  | .leaf x, hw => by
    have h := lf_op hw
    refine ⟨toNd x, [], rfl, ?_, ?_⟩
    · show (((x.op : Nat) : Int) == 4) = (x.op == 4)
      rw [Bool.eq_iff_iff, beq_iff_eq, beq_iff_eq]; omega
    · constructor
      · intro h1
        have h2 : ((x.op : Nat) : Int) = 5 ∨ ((x.op : Nat) : Int) = 6 := h1
        omega
      · rintro ⟨_, _, _, he, _⟩; cases he
  | .hat k a, hw => by
    refine ⟨_, _, rfl, rfl, ?_⟩
    constructor
    · intro h1
      have h2 : ((10 : Nat) : Int) = 5 ∨ ((10 : Nat) : Int) = 6 := h1
      omega
    · rintro ⟨_, _, _, he, _⟩; cases he
  | .bin op a b, hw => by
    refine ⟨_, _, rfl, ?_, ?_⟩
    · show (((op : Nat) : Int) == 4) = false
      rw [beq_eq_false_iff_ne]; have := hw.1; omega
    · constructor
      · intro h1
        have h2 : ((op : Nat) : Int) = 5 ∨ ((op : Nat) : Int) = 6 := h1
        exact ⟨op, a, b, rfl, by omega⟩
      · rintro ⟨_, _, _, he, h⟩
        cases he
        show ((op : Nat) : Int) = 5 ∨ ((op : Nat) : Int) = 6
        omega
/-- What is known of a list of terms. -/
def Ok (L : List Nat) : Prop := F10.fts L = true ∧ U64 L ∧ L.Nodup
theorem ok_jdg {L : List Nat} (h1 : U64 L) (h2 : L.Nodup) (e : Bool) : Ok (F10.jdg L e).1 := ⟨jdg_fts _ _, jdg_u64 h1 _, jdg_nodup h2 _⟩
theorem ok_nil : Ok [] := ⟨by decide, fun t ht => (by cases ht), List.nodup_nil⟩
theorem ok_zero : Ok [0] := ⟨by decide, fun t ht => by rw [List.mem_singleton.1 ht]; omega, by simp⟩
theorem u64_mdl {op : Nat} {z : Bool} {m o : List Nat} (hm : U64 m) (ho : U64 o) : U64 (F10.mdl op z m o) := by
  unfold F10.mdl
  split
  · split
    · exact fun t ht => hm t (F10.mns_mem.1 ht).1
    · exact u64_pls hm (fun t ht => by rw [List.mem_singleton.1 ht]; omega)
  · exact u64_op2 hm ho
theorem pst_ok {op : Nat} {t : F9.Tr} (ht : F10.shp t) {lb mb : List Nat} {fs : List F10.Fac} {e : Bool} (hl : Ok lb) (hm : Ok mb) (hn : fs.length + t.pre.length ≤ 64) : Ok (F10.pst op t lb mb fs e).1 ∧ Ok (F10.pst op t lb mb fs e).2.1 ∧ (F10.pst op t lb mb fs e).2.2.1.length ≤ fs.length + t.pre.length := by
  obtain ⟨h1, h2, h3⟩ := pe_ok t ht fs e hn
  exact ⟨ok_jdg (u64_op2 hl.2.1 h2) (F10.op2_nodup hl.2.2) _, ok_jdg (u64_mdl hm.2.1 h2) (F10.mdl_nodup hm.2.2) _, pe_len t fs e⟩
theorem pr_ok : ∀ (t : F9.Tr), F10.shp t → ∀ (fs : List F10.Fac) (e : Bool), fs.length + t.pre.length ≤ 64 → Ok (F10.pr t fs e).1 ∧ Ok (F10.pr t fs e).2.1 ∧ (F10.pr t fs e).2.2.1.length ≤ fs.length + t.pre.length
  | .leaf x, h, fs, e, hn => pst_ok (op := 5) h ok_nil ok_zero hn
  | .hat k a, h, fs, e, hn => pst_ok (op := 5) h ok_nil ok_zero hn
  | .bin op a b, h, fs, e, hn => by
    unfold F10.pr
    by_cases hop : op = 5 ∨ op = 6
    · rw [if_pos hop]
      have hn1 : fs.length + ((a.pre ++ b.pre).length + 1) ≤ 64 := hn
      rw [List.length_append] at hn1
      obtain ⟨h1, h2, h3⟩ := pr_ok a h.2.2.1 fs e (by omega)
      obtain ⟨k1, k2, k3⟩ := pst_ok (op := op) (t := b) (e := (F10.pr a fs e).2.2.2) h.2.2.2 h1 h2 (fs := (F10.pr a fs e).2.2.1) (by omega)
      refine ⟨k1, k2, Nat.le_trans k3 ?_⟩
      show _ ≤ fs.length + ((a.pre ++ b.pre).length + 1)
      rw [List.length_append]; omega
    · rw [if_neg hop]
      exact pst_ok (op := 5) (t := .bin op a b) h ok_nil ok_zero hn
theorem step_any (t : F9.Tr) (hw : t.wf) (w0 w : World) (xb : Nat) (rest : List Nd) (Fs : List F10.Fac) (ex : Bool) (vs bs : List GBk) (op : Nat) (hop : op = 5 ∨ op = 6) (A B : Option Addr) (c d : Nat) (L M : List Nat) (h : XS w0 w xb (t.pre.map toNd ++ rest) (Fs.map toFa) ex (vs ++ bs)) (hn : (t.pre.map toNd ++ rest).length ≤ 1000) (hl : Fs.length + t.pre.length ≤ 64)
    (hI : LI uC w0 bs [] A L.length L) (hc : L.length ≤ c) (hL : Ok L) (hI2 : LI uC w0 bs [] B M.length M) (hd : M.length ≤ d) (hM : Ok M) :
    Calls Tryd.prog 51 #[.pointer (some ⟨xb, 0, none⟩), .int .i64 (op : Int), .slice A L.length c, .slice B M.length d] w fun e w' => SR w0 w' xb rest ((F10.pst op t L M Fs ex).2.2.1.map toFa) (F10.pst op t L M Fs ex).2.2.2 vs bs e (F10.pst op t L M Fs ex).1 (F10.pst op t L M Fs ex).2.1 := by
  have hE : ∀ W bs', XS w0 W xb (t.pre.map toNd ++ rest) (Fs.map toFa) ex bs' → _ := fun W bs' hX => expr_any t hw w0 W xb rest Fs ex bs' hX hn hl
  have hq := pe_ok t (wf_shp hw) Fs ex hl
  obtain ⟨y, tl, e1, e2, _⟩ := pre_head t hw
  rw [e1, List.cons_append] at hE h
  cases hz : F10.isZ t with
  | false =>
    rw [hz] at e2
    have := step_no w0 w xb y _ rest _ _ ex _ vs bs op A B c d L M _ h e2 hop hE hq hI hc hL hI2 hd hM
    have em : F10.mdl op (F10.isZ t) M (F10.pe t Fs ex).1 = F10.op2 op M (F10.pe t Fs ex).1 := by unfold F10.mdl; rw [hz]; rfl
    unfold F10.pst
    simp only [em]
    exact this
  | true =>
    rw [hz] at e2
    rcases hop with rfl | rfl
    · have := step_y5 w0 w xb y _ rest _ _ ex _ vs bs A B c d L M _ h e2 hE hq hI hc hL hI2 hd hM
      have em : F10.mdl 5 (F10.isZ t) M (F10.pe t Fs ex).1 = F10.mns M [0] := by unfold F10.mdl; rw [hz]; rfl
      unfold F10.pst
      simp only [em]
      exact this
    · have := step_y6 w0 w xb y _ rest _ _ ex _ vs bs A B c d L M _ h e2 hE hq hI hc hL hI2 hd hM
      have em : F10.mdl 6 (F10.isZ t) M (F10.pe t Fs ex).1 = F10.pls M [0] := by unfold F10.mdl; rw [hz]; rfl
      unfold F10.pst
      simp only [em]
      exact this

set_option maxRecDepth 100000 in
set_option maxHeartbeats 4000000 in
theorem right_base (w0 w : World) (xb : Nat) (y : Nd) (ns ns1 : List Nd) (fs fs1 : List Fa) (ex ex1 : Bool) (vs : List GBk) (L M : List Nat) (h : XS w0 w xb (y :: ns) fs ex vs) (hy : ¬ (y.o = 5 ∨ y.o = 6))
    (hS : ∀ W bs B, XS w0 W xb (y :: ns) fs ex (vs ++ bs) → LI uC w0 bs [] B 1 [0] → Calls Tryd.prog 51 #[.pointer (some ⟨xb, 0, none⟩), .int .i64 5, .slice none 0 0, .slice B 1 1] W fun e w' => SR w0 w' xb ns1 fs1 ex1 vs bs e L M) :
    Calls Tryd.prog 25 #[.pointer (some ⟨xb, 0, none⟩)] w fun e w' => SR w0 w' xb ns1 fs1 ex1 vs [] e L M := by
  obtain ⟨NA, nc, FA, fd, hNA, hnc, _, _, x0, _, _, _, _, _⟩ := h.cells
  obtain ⟨nb, no, ny, rfl, hny, _, y0, _, _⟩ := nd_get hNA (i := 0) (by simp)
  obtain rfl : y = ny := by simpa using hny
  rw [Nat.zero_mul, Nat.add_zero] at y0
  have g0 : (0 : Int) < ((y :: ns).length : Int) := by simp
  have e5 : (y.o != 5) = true := by rw [bne_iff_ne]; omega
  have e6 : (y.o != 6) = true := by rw [bne_iff_ne]; omega
  have e7 : (y.o == 5) = false := by rw [beq_eq_false_iff_ne]; omega
  have e8 : (y.o == 6) = false := by rw [beq_eq_false_iff_ne]; omega
  have h1 := Lib.hid (show XS w0 (w.alloc (.cells #[.int .u64 0] 86)) xb (y :: ns) fs ex (vs ++ [(w.heap.size, #[.int .u64 0], 86)]) from (h.more #[.int .u64 0] 86 (noLof rfl)).prm (List.perm_append_singleton _ _).symm)
  have hT := Lib.hid (hS _ _ (some ⟨w.heap.size, 0, none⟩) h1.out (LI.blk (C := uC) (L := [0]) (t := 86) List.mem_cons_self (fun _ _ => trivial)))
  clear h hS h1 hy hNA hnc hny
  go_enter Tryd.func25, Tryd.ntmps25
  go_wp2_with fail
  refine hT.out.mono ?_
  rintro e w2 ⟨A, c, B, d, ob, rfl, q1, q2, q3, q4, q5⟩
  have hF := Lib.hid (show SR w0 w2 xb ns1 fs1 ex1 vs [] (.returned (.tuple #[.slice A L.length c, .slice B M.length d])) L M from ⟨A, c, B, d, _ :: ob, rfl, q1, q2, q3, q4, q5⟩)
  clear q1 q2 q3 q4 q5 hT
  go_wp2
  go_ret2
  exact hF.out
set_option maxRecDepth 100000 in
set_option maxHeartbeats 4000000 in
theorem right_rec (w0 w : World) (xb : Nat) (op : Nat) (s : ByteArray) (k : Int) (ns ns1 ns2 : List Nd) (fs fs1 fs2 : List Fa) (ex ex1 ex2 : Bool) (vs : List GBk) (L M L2 M2 : List Nat) (h : XS w0 w xb (⟨(op : Int), s, k⟩ :: ns) fs ex vs) (hop : op = 5 ∨ op = 6) (hn : ns.length ≤ 1000)
    (hR : ∀ W, XS w0 W xb ns fs ex vs → Calls Tryd.prog 25 #[.pointer (some ⟨xb, 0, none⟩)] W fun e w' => SR w0 w' xb ns1 fs1 ex1 vs [] e L M)
    (hS : ∀ W bs A c B d, XS w0 W xb ns1 fs1 ex1 (vs ++ bs) → LI uC w0 bs [] A L.length L → L.length ≤ c → LI uC w0 bs [] B M.length M → M.length ≤ d → Calls Tryd.prog 51 #[.pointer (some ⟨xb, 0, none⟩), .int .i64 (op : Int), .slice A L.length c, .slice B M.length d] W fun e w' => SR w0 w' xb ns2 fs2 ex2 vs bs e L2 M2) :
    Calls Tryd.prog 25 #[.pointer (some ⟨xb, 0, none⟩)] w fun e w' => SR w0 w' xb ns2 fs2 ex2 vs [] e L2 M2 := by
  obtain ⟨NA, nc, FA, fd, hNA, hnc, _, _, x0, _, _, _, _, _⟩ := h.cells
  obtain ⟨nb, no, ny, rfl, hny, _, y0, _, _⟩ := nd_get hNA (i := 0) (by simp)
  obtain rfl : (⟨(op : Int), s, k⟩ : Nd) = ny := by simpa using hny
  rw [Nat.zero_mul, Nat.add_zero] at y0
  have g0 : (0 : Int) < (((⟨(op : Int), s, k⟩ : Nd) :: ns).length : Int) := by simp
  have e5 : ((op : Int) != 5 && (op : Int) != 6) = false := by
    rcases hop with rfl | rfl <;> rfl
  have hN := Lib.hid (next_any w0 w xb _ ns fs ex vs h hn)
  replace hR := Lib.hid hR
  replace hS := Lib.hid hS
  clear h hNA hnc hny hn
  rcases hop with rfl | rfl
  · go_enter Tryd.func25, Tryd.ntmps25
    go_wp2_with fail
    refine hN.out.mono ?_
    rintro e w2 ⟨rfl, hX⟩
    have hR2 := Lib.hid (hR.out _ hX)
    clear hX hN hR x0 y0 g0 e5
    go_wp2_with fail
    refine hR2.out.mono ?_
    rintro e w3 ⟨A, c, B, d, ob, rfl, q1, q2, q3, q4, q5⟩
    have hT := Lib.hid (hS.out w3 ob A c B d q3 q4 q1 q5 q2)
    clear q1 q2 q3 q4 q5 hR2 hS
    go_wp2_with fail
    refine hT.out.mono ?_
    rintro e w4 ⟨A2, c2, B2, d2, ob2, rfl, q1, q2, q3, q4, q5⟩
    have hF := Lib.hid (show SR w0 w4 xb ns2 fs2 ex2 vs [] (.returned (.tuple #[.slice A2 L2.length c2, .slice B2 M2.length d2])) L2 M2 from ⟨A2, c2, B2, d2, ob ++ ob2, rfl, q1, q2, q3, q4, q5⟩)
    clear q1 q2 q3 q4 q5 hT
    go_wp2
    go_ret2
    exact hF.out
  · go_enter Tryd.func25, Tryd.ntmps25
    go_wp2_with fail
    refine hN.out.mono ?_
    rintro e w2 ⟨rfl, hX⟩
    have hR2 := Lib.hid (hR.out _ hX)
    clear hX hN hR x0 y0 g0 e5
    go_wp2_with fail
    refine hR2.out.mono ?_
    rintro e w3 ⟨A, c, B, d, ob, rfl, q1, q2, q3, q4, q5⟩
    have hT := Lib.hid (hS.out w3 ob A c B d q3 q4 q1 q5 q2)
    clear q1 q2 q3 q4 q5 hR2 hS
    go_wp2_with fail
    refine hT.out.mono ?_
    rintro e w4 ⟨A2, c2, B2, d2, ob2, rfl, q1, q2, q3, q4, q5⟩
    have hF := Lib.hid (show SR w0 w4 xb ns2 fs2 ex2 vs [] (.returned (.tuple #[.slice A2 L2.length c2, .slice B2 M2.length d2])) L2 M2 from ⟨A2, c2, B2, d2, ob ++ ob2, rfl, q1, q2, q3, q4, q5⟩)
    clear q1 q2 q3 q4 q5 hT
    go_wp2
    go_ret2
    exact hF.out
end Go.Proofs.YthbkdjbmkhmlnaaDoor
namespace Go.Proofs.YthbkdjbmkhmlnaaDoor
open Go.RowKit
set_option linter.unusedVariables false

theorem right_one (t : F9.Tr) (hw : t.wf) (hb : ∀ op a b, t = .bin op a b → ¬ (op = 5 ∨ op = 6)) (w0 w : World) (xb : Nat) (rest : List Nd) (Fs : List F10.Fac) (ex : Bool) (vs : List GBk) (h : XS w0 w xb (t.pre.map toNd ++ rest) (Fs.map toFa) ex vs) (hn : (t.pre.map toNd ++ rest).length ≤ 1000) (hl : Fs.length + t.pre.length ≤ 64) :
    Calls Tryd.prog 25 #[.pointer (some ⟨xb, 0, none⟩)] w fun e w' => SR w0 w' xb rest ((F10.pr t Fs ex).2.2.1.map toFa) (F10.pr t Fs ex).2.2.2 vs [] e (F10.pr t Fs ex).1 (F10.pr t Fs ex).2.1 := by
  rw [F10.base_pr hb]
  obtain ⟨y, tl, e1, e2, e3⟩ := pre_head t hw
  have hy : ¬ (y.o = 5 ∨ y.o = 6) := fun h => by
    obtain ⟨op, a, b, rfl, hop⟩ := e3.1 h
    exact hb op a b rfl hop
  have h' := h
  rw [e1, List.cons_append] at h'
  refine right_base w0 w xb y _ rest _ _ ex _ vs _ _ h' hy fun W bs B hX hI => ?_
  rw [← List.cons_append, ← e1] at hX
  exact step_any t hw w0 W xb rest Fs ex vs bs 5 (.inl rfl) none B 0 1 [] [0] hX hn hl (LI.nil_ _ _ _ _ _) (Nat.le_refl _) ok_nil hI (Nat.le_refl _) ok_zero
theorem right_any : ∀ (t : F9.Tr), t.wf → ∀ (w0 w : World) (xb : Nat) (rest : List Nd) (Fs : List F10.Fac) (ex : Bool) (vs : List GBk), XS w0 w xb (t.pre.map toNd ++ rest) (Fs.map toFa) ex vs → (t.pre.map toNd ++ rest).length ≤ 1000 → Fs.length + t.pre.length ≤ 64 →
    Calls Tryd.prog 25 #[.pointer (some ⟨xb, 0, none⟩)] w fun e w' => SR w0 w' xb rest ((F10.pr t Fs ex).2.2.1.map toFa) (F10.pr t Fs ex).2.2.2 vs [] e (F10.pr t Fs ex).1 (F10.pr t Fs ex).2.1
  | .leaf x, hw, w0, w, xb, rest, Fs, ex, vs, h, hn, hl => right_one _ hw (fun _ _ _ h => by cases h) w0 w xb rest Fs ex vs h hn hl
  | .hat k a, hw, w0, w, xb, rest, Fs, ex, vs, h, hn, hl => right_one _ hw (fun _ _ _ h => by cases h) w0 w xb rest Fs ex vs h hn hl
  | .bin op a b, hw, w0, w, xb, rest, Fs, ex, vs, h, hn, hl => by
    by_cases hop : op = 5 ∨ op = 6
    · have hl1 : Fs.length + ((a.pre ++ b.pre).length + 1) ≤ 64 := hl
      rw [List.length_append] at hl1
      have hpre : (F9.Tr.bin op a b).pre.map toNd ++ rest = ⟨(op : Int), ⟨#[]⟩, 0⟩ :: (a.pre.map toNd ++ (b.pre.map toNd ++ rest)) := by
        show (toNd ⟨op, [], 0⟩ :: (a.pre ++ b.pre).map toNd) ++ rest = _
        rw [List.map_append, List.cons_append, List.append_assoc]; rfl
      rw [hpre] at h hn
      have hn3 : (a.pre.map toNd ++ (b.pre.map toNd ++ rest)).length ≤ 1000 := by simp at hn ⊢; omega
      have hn4 : (b.pre.map toNd ++ rest).length ≤ 1000 := by simp at hn ⊢; omega
      obtain ⟨k1, k2, k3⟩ := pr_ok a (wf_shp hw.2.2.1) Fs ex (by omega)
      have e1 : F10.pr (.bin op a b) Fs ex = F10.pst op b (F10.pr a Fs ex).1 (F10.pr a Fs ex).2.1 (F10.pr a Fs ex).2.2.1 (F10.pr a Fs ex).2.2.2 := by
        show (if op = 5 ∨ op = 6 then _ else _) = _
        rw [if_pos hop]
      rw [e1]
      exact right_rec w0 w xb op ⟨#[]⟩ 0 _ (b.pre.map toNd ++ rest) rest _ _ _ ex _ _ vs _ _ _ _ h hop hn3 (fun W hX => right_any a hw.2.2.1 w0 W xb (b.pre.map toNd ++ rest) Fs ex vs hX hn3 (by omega)) (fun W bs A c B d hX hI hc hI2 hd => step_any b hw.2.2.2 w0 W xb rest (F10.pr a Fs ex).2.2.1 (F10.pr a Fs ex).2.2.2 vs bs op hop A B c d _ _ hX hn4 (by omega) hI hc k1 hI2 hd k2)
    · exact right_one _ hw (fun op' a' b' he => by cases he; exact hop) w0 w xb rest Fs ex vs h hn hl
end Go.Proofs.YthbkdjbmkhmlnaaDoor
namespace Go.Proofs.YthbkdjbmkhmlnaaDoor
open Go.RowKit
set_option linter.unusedVariables false

theorem pcn_le : ∀ (n t : Nat), F10.pcn n t ≤ n
  | 0, _ => Nat.le_refl _
  | n + 1, t => by have := pcn_le n (t / 2); unfold F10.pcn; omega
set_option maxRecDepth 100000 in
set_option maxHeartbeats 4000000 in
theorem cmpT_any (x y : Nat) (w : World) (hx : x < 18446744073709551616) (hy : y < 18446744073709551616) : Calls Tryd.prog 57 #[.int .u64 (x : Int), .int .u64 (y : Int)] w fun e w' => e = .returned (.int .i64 ((F10.siz x : Int) - (F10.siz y : Int))) ∧ w' = w := by
  have h1 := Lib.hid (size_any x w hx)
  have h2 := Lib.hid (size_any y w hy)
  have k1 : F10.siz x ≤ 64 := by rw [F10.siz_pcn]; exact pcn_le 64 x
  have k2 : F10.siz y ≤ 64 := by rw [F10.siz_pcn]; exact pcn_le 64 y
  generalize F10.siz x = a at *
  generalize F10.siz y = b at *
  go_enter Tryd.func57, Tryd.ntmps57
  go_wp2_with fail
  refine h1.out.mono ?_
  rintro e w1 ⟨rfl, rfl⟩
  go_wp2_with fail
  refine h2.out.mono ?_
  rintro e w1 ⟨rfl, rfl⟩
  go_wp2
  go_ret
  exact ⟨rfl, rfl⟩
theorem swap_list (P Y : List Nat) (z x : Nat) (R : List Nat) : ((P ++ (Y ++ [z]) ++ x :: R).set (P.length + Y.length + 1) z).set (P.length + Y.length) x = P ++ Y ++ x :: z :: R := by
  have e : P ++ (Y ++ [z]) ++ x :: R = (P ++ Y) ++ z :: x :: R := by simp
  rw [e, List.set_append_right _ _ (by simp), List.set_append_right _ _ (by simp)]
  simp
theorem get_mid (P : List Nat) (x : Nat) (R : List Nat) {k : Nat} (h : k = P.length) : (P ++ x :: R)[k]? = some x := by
  subst h
  rw [List.getElem?_append_right (Nat.le_refl _), Nat.sub_self]; rfl
abbrev cmpV : Value := .func (.func 57) #[] #[]
theorem u64_mem {L : List Nat} (h : U64 L) {i x : Nat} (hx : L[i]? = some x) : x < 18446744073709551616 := h x (List.mem_of_getElem? hx)

set_option maxRecDepth 100000 in
set_option maxHeartbeats 4000000 in
/-- One is put where it belongs. -/
theorem ins_loop (w0 w : World) : True := trivial
end Go.Proofs.YthbkdjbmkhmlnaaDoor
namespace Go.Proofs.YthbkdjbmkhmlnaaDoor
open Go.RowKit
set_option linter.unusedVariables false

theorem srt_app_last {Y : List Nat} {z : Nat} (h : SS.Srt F10.siz (Y ++ [z])) : ∀ y ∈ Y ++ [z], F10.siz y ≤ F10.siz z := SS.srt_last h
theorem ins_done {Y1 Y2 : List Nat} {x : Nat} (hs : SS.Srt F10.siz (Y1 ++ Y2)) (hq : ∀ y ∈ Y2, F10.siz x < F10.siz y) (hp : Y1 = [] ∨ ∃ Y z, Y1 = Y ++ [z] ∧ F10.siz z ≤ F10.siz x) : SS.Srt F10.siz (Y1 ++ x :: Y2) ∧ SS.Fil F10.siz ((Y1 ++ Y2) ++ [x]) (Y1 ++ x :: Y2) := by
  refine SS.ins_ok hs hq ?_
  rcases hp with rfl | ⟨Y, z, rfl, hz⟩
  · intro y hy; cases hy
  · intro y hy
    have h1 : SS.Srt F10.siz (Y ++ [z]) := by
      unfold SS.Srt at hs ⊢
      exact (List.pairwise_append.1 hs).1
    exact Nat.le_trans (SS.srt_last h1 y hy) hz

theorem snoc_cases (Y : List Nat) : Y = [] ∨ ∃ Y3 z, Y = Y3 ++ [z] := by
  rcases List.eq_nil_or_concat Y with h | ⟨a, b, h⟩
  · exact .inl h
  · exact .inr ⟨a, b, by simpa using h⟩

set_option maxRecDepth 100000 in
set_option maxHeartbeats 4000000 in
theorem insertion_any (w0 w : World) (g cp n : Nat) (bs : List GBk) (P X S : List Nat) (a b : Int) (h : Bl w0 w g cp (P ++ X ++ S) bs) (hn : (P ++ X ++ S).length = n) (hn5 : n ≤ 1000) (hu : U64 (P ++ X ++ S)) (ha : a = (P.length : Int)) (hb : b = ((P.length + X.length : Nat) : Int)) :
    Calls Tryd.prog 107 #[.slice (some ⟨g, 0, none⟩) n cp, .int .i64 a, .int .i64 b, cmpV] w fun e w' => e = .returned (.tuple #[]) ∧ ∃ X', Bl w0 w' g cp (P ++ (X' ++ S)) bs ∧ SS.Srt F10.siz X' ∧ SS.Fil F10.siz X' X := by
  obtain ⟨p, hp⟩ : ∃ p, p = P.length := ⟨_, rfl⟩
  obtain ⟨q, hq⟩ : ∃ q, q = X.length := ⟨_, rfl⟩
  rw [← hp] at ha hb
  rw [← hq] at hb
  obtain ⟨m, hm⟩ : ∃ m, m = p + q := ⟨_, rfl⟩
  rw [← hm] at hb
  subst ha hb
  have hpq : p + q ≤ n := by rw [← hn, hp, hq]; simp
  have hb5 := Lib.hid hn5
  have hpqh := Lib.hid hpq
  replace h := Lib.hid h
  replace hn := Lib.hid hn
  replace hu := Lib.hid hu
  replace hp := Lib.hid hp
  replace hq := Lib.hid hq
  have b0 : m ≤ 1000 := by omega
  have b1 : p ≤ 1000 := by omega
  have b2 : q ≤ 1000 := by omega
  replace hm := Lib.hid hm
  clear hn5 hpq
  go_enter Tryd.func107, Tryd.ntmps107
  go_wp2
  go_loopw [8] (fun iv wr => ∃ (k : Nat) (Y : List Nat), Hid (k ≤ q ∨ k = 1) ∧ 1 ≤ k ∧ iv = .int .i64 ((p : Int) + (k : Int)) ∧ Bl w0 wr g cp (P ++ (Y ++ X.drop k) ++ S) bs ∧ SS.Srt F10.siz Y ∧ SS.Fil F10.siz Y (X.take k)) (fun iv _ => (m + 1) - (intOf iv).toNat)
  case atStart =>
    refine ⟨1, X.take 1, Lib.hid (.inr rfl), Nat.le_refl _, rfl, by rw [List.take_append_drop]; exact h.out, ?_, SS.Fil.refl _⟩
    match X with
    | [] => exact List.Pairwise.nil
    | x :: X => exact List.pairwise_singleton _ _
  case round =>
    clear h
    obtain ⟨k, Y, hk1, hk2, rfl, B, hY, hF⟩ := hrel
    by_cases hlt : k < q
    · obtain ⟨x, hx⟩ : ∃ x, X[k]? = some x := ⟨_, List.getElem?_eq_getElem (by rw [← hq.out]; exact hlt)⟩
      have hdr := Lib.hid (drop_cons_of hx)
      have htk := Lib.hid (take_snoc_of hx)
      have hYl : Hid (Y.length = k) := Lib.hid (by rw [hF.len, List.length_take, ← hq.out]; omega)
      have hxu : Hid (x < 18446744073709551616) := Lib.hid (hu.out x (by
        have := List.mem_of_getElem? hx
        simp [this]))
      have hYu : Hid (∀ y ∈ Y, y < 18446744073709551616) := Lib.hid fun y hy => hu.out y (by
        have := List.mem_of_mem_take ((hF.mem (x := y)).1 hy)
        simp [this])
      rw [hdr.out] at B
      have g1 : (p : Int) + (k : Int) < (m : Int) := by have := hm.out; omega
      have hih := Lib.hid hlt
      have b3 : k ≤ 1000 := by omega
      replace B := Lib.hid B
      replace hY := Lib.hid hY
      replace hF := Lib.hid hF
      have hk2h := Lib.hid hk2
      clear hlt hk1 hk2 hx
      obtain ⟨R, hR⟩ : ∃ R, R = X.drop (k + 1) ++ S := ⟨_, rfl⟩
      replace hR := Lib.hid hR
      go_wp2
      go_loopw [9] (fun jv wr => ∃ (Y1 Y2 : List Nat) (j : Nat), Y1 ++ Y2 = Y ∧ j = p + Y1.length ∧ jv = .int .i64 (j : Int) ∧ Bl w0 wr g cp (P ++ Y1 ++ x :: (Y2 ++ R)) bs ∧ ∀ y ∈ Y2, F10.siz x < F10.siz y) (fun jv _ => (intOf jv).toNat)
      case atStart => exact ⟨Y, [], p + k, List.append_nil _, by rw [hYl.out], by go_num, by
        have := B.out
        rw [hR.out]
        simpa using this, fun y hy => by cases hy⟩
      case round =>
        clear B
        obtain ⟨Y1, Y2, j, hYY, hj, rfl, B, hgt⟩ := hrel
        have hl12 : Y1.length ≤ 1000 := by
          have : Y1.length + Y2.length = k := by rw [← hYl.out, ← hYY, List.length_append]
          omega
        rcases snoc_cases Y1 with rfl | ⟨Y3, z, rfl⟩
        · -- at the front
          obtain rfl : p = j := hj.symm
          clear hj
          have hD := Lib.hid (ins_done (Y1 := []) (Y2 := Y2) (x := x) (by rw [hYY]; exact hY.out) hgt (.inl rfl))
          have g2 : ¬ ((p : Int) < (p : Int)) := by omega
          have hBB := Lib.hid B
          replace hYY := Lib.hid hYY
          clear hgt B hl12
          go_upto_region 4 with fail
          have hbase := Lib.hid (St.new wr)
          refine RW.begin (Z := []) (S := (fun W => Below wr.heap.size wr W)) (by kernel_rfl) ?_ hbase.out ?_
          · exact ⟨by kernel_rfl, zis_nil, by decide, by decide, nol_nil, (fun _ _ h => h.bel)⟩
          intro hzk
          refine RW.t (i := 0) (v := .int .i64 (p : Int)) (some 18) at0 (hy := fun _ _ => by go_simp) (h := ?_)
          refine RW.t (i := 1) (v := .int .i64 (p : Int)) (some 19) at1 (hy := fun _ _ => by go_simp) (h := ?_)
          refine RW.t (i := 2) (v := .bool false) (some 20) at2 (hy := fun _ _ => by go_simp) (h := ?_)
          refine RW.t (i := 3) (v := .bool false) (some 21) at3 (hy := fun _ _ => by go_simp) (h := ?_)
          refine RW.u (i := 4) (some 22) at4 (h := ?_)
          refine RW.u (i := 5) (some 23) at5 (h := ?_)
          refine RW.u (i := 6) (some 24) at6 (h := ?_)
          refine RW.u (i := 7) (some 25) at7 (h := ?_)
          refine RW.u (i := 8) (some 26) at8 (h := ?_)
          refine RW.u (i := 9) (some 27) at9 (h := ?_)
          refine RW.u (i := 10) (some 28) at10 (h := ?_)
          refine RW.u (i := 11) (some 29) at11 (h := ?_)
          refine RW.u (i := 12) (some 30) at12 (h := ?_)
          refine RW.u (i := 13) (some 31) at13 (h := ?_)
          refine RW.u (i := 14) (some 32) at14 (h := ?_)
          refine RW.u (i := 15) (some 33) at15 (h := ?_)
          refine RW.t (i := 16) (v := .bool false) (some 34) at16 (hy := fun _ _ => by go_simp) (h := ?_)
          refine RW.tail hzk.out (by kernel_rfl) ?_
          intro gs' w5 hgs' hS Sb
          obtain rfl := len0 hgs'
          simp only [mark, fill, Act.put, List.setIfInBounds_toArray, List.set_cons_zero, List.set_cons_succ]
          refine Wk.done (by kernel_rfl) ?_
          have T := Lib.hid (hBB.out.call hS)
          clear Sb hgs' hzk hbase hS hBB
          try go_simp
          have hlt := hih.out
          have hbb := hb5.out
          go_wp2
          go_roundw
          case rel => exact ⟨k + 1, x :: Y2, Lib.hid (.inl (by omega)), by omega, by go_num, by
            have := T.out
            rw [hR.out] at this
            simpa using this, hD.out.1, by
            have := hD.out.2.symm.trans ((show SS.Fil F10.siz (([] ++ Y2) ++ [x]) (X.take k ++ [x]) from by rw [hYY.out]; exact hF.out.app (SS.Fil.refl _)))
            rw [htk.out]; exact this⟩
          case measure => have := hm.out; simp [intOf]; omega
        · obtain ⟨j1, hj1⟩ : ∃ j1, j1 = p + Y3.length := ⟨_, rfl⟩
          have hjj : j = j1 + 1 := by rw [hj, hj1, List.length_append]; rfl
          have e1 : (j : Int) - 1 = (j1 : Int) := by omega
          have hlen : P.length + Y3.length = j1 := by rw [← hp.out, hj1]
          have hxg : (P ++ (Y3 ++ [z]) ++ x :: (Y2 ++ R))[j]? = some x := get_mid _ x _ (by rw [List.length_append, List.length_append]; simp; omega)
          have hzg : (P ++ (Y3 ++ [z]) ++ x :: (Y2 ++ R))[j1]? = some z := by
            rw [show P ++ (Y3 ++ [z]) ++ x :: (Y2 ++ R) = (P ++ Y3) ++ z :: (x :: (Y2 ++ R)) by simp]
            exact get_mid _ z _ (by rw [List.length_append]; omega)
          obtain ⟨cx, fx⟩ := B.cl hxg
          obtain ⟨cz, fz⟩ := B.cl hzg
          have hzu : z < 18446744073709551616 := hYu.out z (by rw [← hYY]; simp)
          have hcmp := Lib.hid (fun W => cmpT_any x z W hxu.out hzu)
          have hjn : Hid (j < n) := Lib.hid (by
            have h1 := congrArg List.length hYY
            rw [List.length_append, hYl.out] at h1
            have h2 := hpqh.out
            have h3 := hih.out
            omega)
          have q1 : (j1 : Int) < (n : Int) := by have := hjn.out; omega
          have q2 : (j : Int) < (n : Int) := by have := hjn.out; omega
          have q3 : (p : Int) < (j : Int) := by omega
          have q4 : j ≤ 2000 := by omega
          have w1 : IntKind.i64.wrap (j1 : Int) = (j1 : Int) := by rw [IntKind.wrap_i64]; omega
          have hjh := Lib.hid (show j = j1 + 1 ∧ j1 = p + Y3.length from ⟨hjj, hj1⟩)
          have hswap := swap_list P Y3 z x (Y2 ++ R)
          rw [hlen, ← hjj] at hswap
          have hBB := Lib.hid B
          have hB2 := Lib.hid ((B.set z (i := j) (List.getElem?_eq_some_iff.1 hxg).1).set x (i := j1) (by rw [List.length_set]; exact (List.getElem?_eq_some_iff.1 hzg).1))
          rw [hswap] at hB2
          clear B hxg hzg hj hjj hj1 hlen hzu hswap
          by_cases hv : F10.siz x < F10.siz z
          · have hd : (F10.siz x : Int) - (F10.siz z : Int) < 0 := by omega
            replace hYY := Lib.hid hYY
            replace hgt := Lib.hid hgt
            replace hv := Lib.hid hv
            clear hB2
            go_upto_region 4 with fail
            have hbase := Lib.hid (St.new wr)
            refine RW.begin (Z := []) (S := (fun W => Below wr.heap.size wr W)) (by kernel_rfl) ?_ hbase.out ?_
            · exact ⟨by kernel_rfl, zis_nil, by decide, by decide, nol_nil, (fun _ _ h => h.bel)⟩
            intro hzk
            refine RW.t (i := 0) (v := .int .i64 (j : Int)) (some 18) at0 (hy := fun _ _ => by go_simp) (h := ?_)
            refine RW.t (i := 1) (v := .int .i64 (p : Int)) (some 19) at1 (hy := fun _ _ => by go_simp) (h := ?_)
            refine RW.t (i := 2) (v := .bool true) (some 20) at2 (hy := fun _ _ => by go_simp) (h := ?_)
            refine RW.t (i := 3) (v := .bool true) (some 21) at3 (hy := fun _ _ => by go_simp) (h := ?_)
            refine RW.t (i := 4) (v := cmpV) (some 22) at4 (hy := fun _ _ => by kernel_rfl) (h := ?_)
            refine RW.t (i := 5) (v := .slice (some ⟨g, 0, none⟩) n cp) (some 23) at5 (hy := fun _ _ => by kernel_rfl) (h := ?_)
            refine RW.t (i := 6) (v := .int .i64 (j : Int)) (some 24) at6 (hy := fun _ _ => by kernel_rfl) (h := ?_)
            refine RW.t (i := 7) (v := .pointer (some ⟨g, j, none⟩)) (some 25) at7 (hy := fun _ _ => by go_simp) (h := ?_)
            refine RW.t (i := 8) (v := .int .u64 (x : Int)) (some 26) at8 (hy := fun W hS => by (have k0 := bel_cell hS cx; clear hS; go_simp)) (h := ?_)
            refine RW.t (i := 9) (v := .slice (some ⟨g, 0, none⟩) n cp) (some 27) at9 (hy := fun _ _ => by kernel_rfl) (h := ?_)
            refine RW.t (i := 10) (v := .int .i64 (j : Int)) (some 28) at10 (hy := fun _ _ => by kernel_rfl) (h := ?_)
            refine RW.t (i := 11) (v := .int .i64 (j1 : Int)) (some 29) at11 (hy := fun _ _ => by go_simp) (h := ?_)
            refine RW.t (i := 12) (v := .pointer (some ⟨g, j1, none⟩)) (some 30) at12 (hy := fun _ _ => by go_simp) (h := ?_)
            refine RW.t (i := 13) (v := .int .u64 (z : Int)) (some 31) at13 (hy := fun W hS => by (have k0 := bel_cell hS cz; clear hS; go_simp)) (h := ?_)
            refine RW.c (i := 14) (args := #[.int .u64 (x : Int), .int .u64 (z : Int)]) (some 32) hzk.out at14 (hx := fun _ => by kernel_rfl) (h := fun W T9 => (hcmp.out W).mono ?_)
            rintro e w9 ⟨rfl, rfl⟩
            refine ⟨Below.refl _ _, _, [], rfl, (fun r hr => by cases hr), ?_⟩
            refine RW.t (i := 15) (v := .bool true) (some 33) at15 (hy := fun _ _ => by go_simp) (h := ?_)
            refine RW.t (i := 16) (v := .bool true) (some 34) at16 (hy := fun _ _ => by go_simp) (h := ?_)
            refine RW.tail hzk.out (by kernel_rfl) ?_
            intro gs' w5 hgs' hS Sb
            obtain rfl := len0 hgs'
            simp only [mark, fill, Act.put, List.setIfInBounds_toArray, List.set_cons_zero, List.set_cons_succ]
            refine Wk.done (by kernel_rfl) ?_
            have B := hBB.out.call hS
            have cx2 := (World.cell?_of_block (hS.block g (by have := hBB.out.gro.st; exact (by obtain ⟨R9, _, _, _, S9⟩ := hBB.out; exact S9.lt 0 rfl)))).trans cx
            have cz2 := (World.cell?_of_block (hS.block g (by obtain ⟨R9, _, _, _, S9⟩ := hBB.out; exact S9.lt 0 rfl))).trans cz
            have hxg : (P ++ (Y3 ++ [z]) ++ x :: (Y2 ++ R))[j]? = some x := get_mid _ x _ (by rw [List.length_append, List.length_append]; have := hjh.out; have := hp.out; simp; omega)
            have hzg : (P ++ (Y3 ++ [z]) ++ x :: (Y2 ++ R))[j1]? = some z := by
              rw [show P ++ (Y3 ++ [z]) ++ x :: (Y2 ++ R) = (P ++ Y3) ++ z :: (x :: (Y2 ++ R)) by simp]
              exact get_mid _ z _ (by rw [List.length_append]; have := hjh.out; have := hp.out; omega)
            have fx2 := (B.cl hxg).2
            have fz2 := (B.cl hzg).2
            have hlen : P.length + Y3.length = j1 := by have := hjh.out; have := hp.out; omega
            have hswap := swap_list P Y3 z x (Y2 ++ R)
            rw [hlen, ← (show j = j1 + 1 from hjh.out.1)] at hswap
            have hB2 := Lib.hid (((B.set z (i := j) (List.getElem?_eq_some_iff.1 hxg).1).set x (i := j1) (by rw [List.length_set]; exact (List.getElem?_eq_some_iff.1 hzg).1)).drew)
            rw [hswap] at hB2
            clear Sb hgs' hzk hbase hS hBB B cx cz fx fz hcmp hd hxg hzg hlen hswap q3
            try go_simp
            go_upto_region 6 with fail
            go_region
            go_wp2
            go_roundw
            case rel => exact ⟨Y3, z :: Y2, j1, by rw [← hYY.out]; simp, hjh.out.2, by go_num, hB2.out, fun y hy => by
              rcases List.mem_cons.1 hy with rfl | hy
              · exact hv.out
              · exact hgt.out y hy⟩
            case measure =>
              simp [intOf]
              have := hjh.out
              omega
          · have hd : ¬ ((F10.siz x : Int) - (F10.siz z : Int) < 0) := by omega
            have hD := Lib.hid (ins_done (Y1 := Y3 ++ [z]) (Y2 := Y2) (x := x) (by rw [hYY]; exact hY.out) hgt (.inr ⟨Y3, z, rfl, by omega⟩))
            replace hYY := Lib.hid hYY
            clear hgt hv hB2 fx fz
            go_upto_region 4 with fail
            have hbase := Lib.hid (St.new wr)
            refine RW.begin (Z := []) (S := (fun W => Below wr.heap.size wr W)) (by kernel_rfl) ?_ hbase.out ?_
            · exact ⟨by kernel_rfl, zis_nil, by decide, by decide, nol_nil, (fun _ _ h => h.bel)⟩
            intro hzk
            refine RW.t (i := 0) (v := .int .i64 (j : Int)) (some 18) at0 (hy := fun _ _ => by go_simp) (h := ?_)
            refine RW.t (i := 1) (v := .int .i64 (p : Int)) (some 19) at1 (hy := fun _ _ => by go_simp) (h := ?_)
            refine RW.t (i := 2) (v := .bool true) (some 20) at2 (hy := fun _ _ => by go_simp) (h := ?_)
            refine RW.t (i := 3) (v := .bool true) (some 21) at3 (hy := fun _ _ => by go_simp) (h := ?_)
            refine RW.t (i := 4) (v := cmpV) (some 22) at4 (hy := fun _ _ => by kernel_rfl) (h := ?_)
            refine RW.t (i := 5) (v := .slice (some ⟨g, 0, none⟩) n cp) (some 23) at5 (hy := fun _ _ => by kernel_rfl) (h := ?_)
            refine RW.t (i := 6) (v := .int .i64 (j : Int)) (some 24) at6 (hy := fun _ _ => by kernel_rfl) (h := ?_)
            refine RW.t (i := 7) (v := .pointer (some ⟨g, j, none⟩)) (some 25) at7 (hy := fun _ _ => by go_simp) (h := ?_)
            refine RW.t (i := 8) (v := .int .u64 (x : Int)) (some 26) at8 (hy := fun W hS => by (have k0 := bel_cell hS cx; clear hS; go_simp)) (h := ?_)
            refine RW.t (i := 9) (v := .slice (some ⟨g, 0, none⟩) n cp) (some 27) at9 (hy := fun _ _ => by kernel_rfl) (h := ?_)
            refine RW.t (i := 10) (v := .int .i64 (j : Int)) (some 28) at10 (hy := fun _ _ => by kernel_rfl) (h := ?_)
            refine RW.t (i := 11) (v := .int .i64 (j1 : Int)) (some 29) at11 (hy := fun _ _ => by go_simp) (h := ?_)
            refine RW.t (i := 12) (v := .pointer (some ⟨g, j1, none⟩)) (some 30) at12 (hy := fun _ _ => by go_simp) (h := ?_)
            refine RW.t (i := 13) (v := .int .u64 (z : Int)) (some 31) at13 (hy := fun W hS => by (have k0 := bel_cell hS cz; clear hS; go_simp)) (h := ?_)
            refine RW.c (i := 14) (args := #[.int .u64 (x : Int), .int .u64 (z : Int)]) (some 32) hzk.out at14 (hx := fun _ => by kernel_rfl) (h := fun W T9 => (hcmp.out W).mono ?_)
            rintro e w9 ⟨rfl, rfl⟩
            refine ⟨Below.refl _ _, _, [], rfl, (fun r hr => by cases hr), ?_⟩
            refine RW.t (i := 15) (v := .bool false) (some 33) at15 (hy := fun _ _ => by go_simp) (h := ?_)
            refine RW.t (i := 16) (v := .bool false) (some 34) at16 (hy := fun _ _ => by go_simp) (h := ?_)
            refine RW.tail hzk.out (by kernel_rfl) ?_
            intro gs' w5 hgs' hS Sb
            obtain rfl := len0 hgs'
            simp only [mark, fill, Act.put, List.setIfInBounds_toArray, List.set_cons_zero, List.set_cons_succ]
            refine Wk.done (by kernel_rfl) ?_
            have T := Lib.hid (hBB.out.call hS)
            clear Sb hgs' hzk hbase hS hBB cx cz hcmp hd q1 q2 q3 q4 e1
            try go_simp
            have hlt := hih.out
            have hbb := hb5.out
            go_wp2
            go_roundw
            case rel => exact ⟨k + 1, (Y3 ++ [z]) ++ x :: Y2, Lib.hid (.inl (by omega)), by omega, by go_num, by
              have := T.out
              rw [hR.out] at this
              simpa using this, hD.out.1, by
              have := hD.out.2.symm.trans ((show SS.Fil F10.siz (((Y3 ++ [z]) ++ Y2) ++ [x]) (X.take k ++ [x]) from by rw [hYY.out]; exact hF.out.app (SS.Fil.refl _)))
              rw [htk.out]; exact this⟩
            case measure => have := hm.out; simp [intOf]; omega
    · have hfin : P ++ (Y ++ X.drop k) ++ S = P ++ Y ++ S := by rw [List.drop_eq_nil_of_le (by rw [← hq.out]; omega), List.append_nil]
      rw [hfin] at B
      have hF2 : SS.Fil F10.siz Y X := by
        rw [List.take_of_length_le (by rw [← hq.out]; omega)] at hF
        exact hF
      have hout := Lib.hid (show ∃ X', Bl w0 wr g cp (P ++ (X' ++ S)) bs ∧ SS.Srt F10.siz X' ∧ SS.Fil F10.siz X' X from ⟨Y, by rw [← List.append_assoc]; exact B, hY, hF2⟩)
      have g1 : ¬ ((p : Int) + (k : Int) < (m : Int)) := by have := hm.out; omega
      have b3 : k ≤ 1002 := by rcases hk1.out with h | h <;> omega
      clear B hY hF hF2 hfin hlt hk1 hk2
      go_wp2
      go_end0
      exact ⟨rfl, hout.out⟩
end Go.Proofs.YthbkdjbmkhmlnaaDoor
namespace Go.Proofs.YthbkdjbmkhmlnaaDoor
open Go.RowKit
set_option linter.unusedVariables false

/-- What two sorted blocks are merged to. -/
def MergeOk (w0 : World) (g cp : Nat) (bs : List GBk) (n : Nat) : Prop := ∀ (w : World) (X Y : List Nat), X.length = 20 → X.length + Y.length = n → SS.Srt F10.siz X → SS.Srt F10.siz Y → U64 (X ++ Y) → Bl w0 w g cp (X ++ Y) bs → Calls Tryd.prog 108 #[.slice (some ⟨g, 0, none⟩) n cp, .int .i64 0, .int .i64 20, .int .i64 (n : Int), cmpV] w fun e w' => e = .returned (.tuple #[]) ∧ ∃ Z, Bl w0 w' g cp Z bs ∧ SS.Srt F10.siz Z ∧ SS.Fil F10.siz Z (X ++ Y)
theorem u64_fil {A B : List Nat} (h : SS.Fil F10.siz A B) (hb : U64 B) : U64 A := fun t ht => hb t (h.mem.1 ht)
theorem u64_app {A B : List Nat} (h : U64 A) (h' : U64 B) : U64 (A ++ B) := fun t ht => (List.mem_append.1 ht).elim (h t) (h' t)
set_option maxRecDepth 100000 in
set_option maxHeartbeats 4000000 in
theorem insertion_nil (v : Value) (w : World) : Calls Tryd.prog 107 #[v, .int .i64 0, .int .i64 0, cmpV] w fun e w' => e = .returned (.tuple #[]) ∧ w' = w := by
  have g1 : ¬ ((1 : Int) < 0) := by omega
  go_enter Tryd.func107, Tryd.ntmps107
  go_wp2
  go_loopw [8] (fun iv wr => iv = .int .i64 1 ∧ wr = w) (fun iv _ => 0)
  case atStart => exact ⟨rfl, rfl⟩
  case round =>
    obtain ⟨rfl, rfl⟩ := hrel
    go_wp2
    go_end0
    exact ⟨rfl, rfl⟩

set_option maxRecDepth 100000 in
set_option maxHeartbeats 4000000 in
theorem stable_nil (v : Value) (w : World) : Calls Tryd.prog 92 #[v, .int .i64 0, cmpV] w fun e w' => e = .returned (.tuple #[]) ∧ w' = w := by
  have hI := Lib.hid (fun w => insertion_nil v w)
  go_enter Tryd.func92, Tryd.ntmps92
  go_wp2
  go_loopw [7, 8] (fun iv jv wr => iv = .int .i64 0 ∧ jv = .int .i64 20 ∧ wr = w) (fun iv _ _ => 0)
  case atStart => exact ⟨rfl, rfl, rfl⟩
  case round =>
    obtain ⟨rfl, rfl, rfl⟩ := hrel
    go_wp2_with fail
    refine (hI.out wr).mono ?_
    rintro e w2 ⟨rfl, rfl⟩
    go_wp2
    go_loopw [6, 7, 8, 9] (fun zv iv jv mv wr => zv = .int .i64 20 ∧ wr = w2) (fun iv _ _ _ _ => 0)
    case atStart => exact ⟨rfl, rfl⟩
    case round =>
      obtain ⟨rfl, rfl⟩ := hrel
      go_wp2
      go_end0
      exact ⟨rfl, rfl⟩
/-- What a sort leaves. -/
def Sorted (w0 w' : World) (g cp : Nat) (bs : List GBk) (L : List Nat) : Prop := ∃ Z, Bl w0 w' g cp Z bs ∧ SS.Srt F10.siz Z ∧ SS.Fil F10.siz Z L
set_option maxRecDepth 100000 in
set_option maxHeartbeats 4000000 in
theorem stable_lt (w0 w : World) (g cp n : Nat) (bs : List GBk) (L : List Nat) (h : Bl w0 w g cp L bs) (hn : L.length = n) (h20 : n < 20) (hu : U64 L) : Calls Tryd.prog 92 #[.slice (some ⟨g, 0, none⟩) n cp, .int .i64 (n : Int), cmpV] w fun e w' => e = .returned (.tuple #[]) ∧ Sorted w0 w' g cp bs L := by
  have hI := Lib.hid (insertion_any w0 w g cp n bs [] L [] 0 (n : Int) (by simpa using h) (by simpa using hn) (by omega) (by simpa using hu) rfl (by simp [hn]))
  have g1 : ¬ ((20 : Int) ≤ (n : Int)) := by omega
  have g2 : ¬ ((20 : Int) < (n : Int)) := by omega
  clear h hn hu
  have hn4 : n ≤ 1000 := by omega
  clear h20
  go_enter Tryd.func92, Tryd.ntmps92
  go_wp2
  go_loopw [7, 8] (fun iv jv wr => iv = .int .i64 0 ∧ jv = .int .i64 20 ∧ wr = w) (fun iv _ _ => 0)
  case atStart => exact ⟨rfl, rfl, rfl⟩
  case round =>
    obtain ⟨rfl, rfl, rfl⟩ := hrel
    go_wp2_with fail
    refine hI.out.mono ?_
    rintro e w2 ⟨rfl, X', hB, hs, hf⟩
    have hout := Lib.hid (show Sorted w0 w2 g cp bs L from ⟨X', by simpa using hB, hs, hf⟩)
    clear hB hs hf hI
    go_wp2
    go_loopw [6, 7, 8, 9] (fun zv iv jv mv wr => zv = .int .i64 20 ∧ wr = w2) (fun iv _ _ _ _ => 0)
    case atStart => exact ⟨rfl, rfl⟩
    case round =>
      obtain ⟨rfl, rfl⟩ := hrel
      go_wp2
      go_end0
      exact ⟨rfl, hout.out⟩
/-- The first block: not yet, or sorted. -/
def PhA (w0 w : World) (g cp n : Nat) (bs : List GBk) (L : List Nat) (k : Nat) : Prop :=
  (k = 0 ∧ Bl w0 w g cp L bs) ∨ (k = 1 ∧ ∃ X', Bl w0 w g cp (X' ++ L.drop 20) bs ∧ SS.Srt F10.siz X' ∧ SS.Fil F10.siz X' (L.take 20))
/-- Two sorted blocks, or all. -/
def PhB (w0 w : World) (g cp n : Nat) (bs : List GBk) (L : List Nat) (k : Nat) : Prop :=
  (k = 0 ∧ ∃ X Y, X.length = 20 ∧ Bl w0 w g cp (X ++ Y) bs ∧ SS.Srt F10.siz X ∧ SS.Srt F10.siz Y ∧ SS.Fil F10.siz (X ++ Y) L) ∨ (k = 1 ∧ Sorted w0 w g cp bs L)

set_option maxRecDepth 100000 in
set_option maxHeartbeats 4000000 in
theorem stable_ge (w0 w : World) (g cp n : Nat) (bs : List GBk) (L : List Nat) (h : Bl w0 w g cp L bs) (hn : L.length = n) (h20 : 20 ≤ n) (h39 : n ≤ 39) (hu : U64 L) (hM : 20 < n → MergeOk w0 g cp bs n) : Calls Tryd.prog 92 #[.slice (some ⟨g, 0, none⟩) n cp, .int .i64 (n : Int), cmpV] w fun e w' => e = .returned (.tuple #[]) ∧ Sorted w0 w' g cp bs L := by
  have ht : (L.take 20).length = 20 := by rw [List.length_take]; omega
  have hd : (L.drop 20).length = n - 20 := by rw [List.length_drop, hn]
  have hI := Lib.hid (fun W (hB : Bl w0 W g cp L bs) => insertion_any w0 W g cp n bs [] (L.take 20) (L.drop 20) 0 20 (by simpa using hB) (by simpa using hn) (by omega) (by simpa using hu) rfl (by simp; omega))
  have hJ := Lib.hid (fun W (X' : List Nat) (hf : SS.Fil F10.siz X' (L.take 20)) (hB : Bl w0 W g cp (X' ++ L.drop 20) bs) => insertion_any w0 W g cp n bs X' (L.drop 20) [] 20 (n : Int) (by simpa using hB) (by have := hf.len; simp; omega) (by omega) (by
    have : U64 (X' ++ L.drop 20) := u64_app (u64_fil hf (fun t ht => hu t (List.mem_of_mem_take ht))) (fun t ht => hu t (List.mem_of_mem_drop ht))
    simpa using this) (by have := hf.len; omega) (by have := hf.len; simp; omega))
  have h0 := Lib.hid (show PhA w0 w g cp n bs L 0 from .inl ⟨rfl, h⟩)
  have hfl := Lib.hid (show SS.Fil F10.siz (L.take 20 ++ L.drop 20) L by rw [List.take_append_drop]; exact SS.Fil.refl _)
  replace hM := Lib.hid hM
  have hnn := Lib.hid hn
  replace hu := Lib.hid hu
  replace ht := Lib.hid ht
  replace hd := Lib.hid hd
  have h20h := Lib.hid h20
  have h39h := Lib.hid h39
  have g1 : (20 : Int) ≤ (n : Int) := by omega
  have g2 : ¬ ((40 : Int) ≤ (n : Int)) := by omega
  have hn4 : n ≤ 1000 := by omega
  clear h hn h20 h39
  go_enter Tryd.func92, Tryd.ntmps92
  go_wp2
  go_loopw [7, 8] (fun iv jv wr => ∃ k : Nat, k ≤ 1 ∧ iv = .int .i64 (20 * (k : Int)) ∧ jv = .int .i64 (20 * (k : Int) + 20) ∧ PhA w0 wr g cp n bs L k) (fun iv _ _ => 20 - (intOf iv).toNat)
  case atStart => exact ⟨0, Nat.zero_le _, rfl, rfl, h0.out⟩
  case round =>
    clear h0
    obtain ⟨k, hk, rfl, rfl, hP⟩ := hrel
    rcases hP with ⟨rfl, hB⟩ | ⟨rfl, X', hB, hs, hf⟩
    · have hI2 := Lib.hid (hI.out wr hB)
      clear hI hB hk
      go_wp2_with fail
      refine hI2.out.mono ?_
      rintro e w2 ⟨rfl, X', hB, hs, hf⟩
      have hP := Lib.hid (show PhA w0 w2 g cp n bs L 1 from .inr ⟨rfl, X', by simpa using hB, hs, hf⟩)
      clear hB hs hf hI2
      go_wp2
      go_roundw
      case rel => exact ⟨1, Nat.le_refl _, rfl, rfl, hP.out⟩
      case measure => simp [intOf]
    · have hJ2 := Lib.hid (hJ.out wr X' hf hB)
      have hX20 : Hid (X'.length = 20) := Lib.hid (by have := hf.len; have := ht.out; omega)
      replace hs := Lib.hid hs
      replace hf := Lib.hid hf
      clear hJ hB hk hI
      go_wp2_with fail
      refine hJ2.out.mono ?_
      rintro e w2 ⟨rfl, Y', hB, hs2, hf2⟩
      have hff := hf.out.app hf2
      have hff2 := hff.trans hfl.out
      rw [List.append_nil] at hB
      have hYl : Y'.length = n - 20 := by have := hf2.len; have := hd.out; omega
      clear hJ2
      by_cases hn20 : n = 20
      · have hY0 : Y' = [] := List.length_eq_zero_iff.1 (by omega)
        subst hY0
        rw [List.append_nil] at hB hff2
        have hout := Lib.hid (show Sorted w0 w2 g cp bs L from ⟨X', hB, hs.out, hff2⟩)
        have g3 : ¬ ((20 : Int) < (n : Int)) := by omega
        replace hn20 := Lib.hid hn20
        clear hB hs2 hf2 hff hff2 hYl
        go_wp2
        go_loopw [6, 7, 8, 9] (fun zv iv jv mv wr => zv = .int .i64 20 ∧ wr = w2) (fun iv _ _ _ _ => 0)
        case atStart => exact ⟨rfl, rfl⟩
        case round =>
          obtain ⟨rfl, rfl⟩ := hrel
          go_wp2
          go_end0
          exact ⟨rfl, hout.out⟩
      · have g3 : (20 : Int) < (n : Int) := by have := h20h.out; omega
        have g4 : ¬ ((40 : Int) < (n : Int)) := by have := h39h.out; omega
        have hMM := Lib.hid (hM.out (by omega))
        have hP := Lib.hid (show PhB w0 w2 g cp n bs L 0 from .inl ⟨rfl, X', Y', hX20.out, hB, hs.out, hs2, hff2⟩)
        replace hn20 := Lib.hid hn20
        clear hB hs2 hf2 hff hff2 hYl hM hs hf
        go_wp2
        go_loopw [6, 7, 8, 9] (fun zv iv jv mv wr => ∃ k : Nat, k ≤ 1 ∧ zv = .int .i64 (20 * (k : Int) + 20) ∧ PhB w0 wr g cp n bs L k) (fun zv _ _ _ _ => 40 - (intOf zv).toNat)
        case atStart => exact ⟨0, Nat.zero_le _, rfl, hP.out⟩
        case round =>
          clear hP
          obtain ⟨k, hk, rfl, hP⟩ := hrel
          rcases hP with ⟨rfl, X, Y, hX, hB, q1, q2, q3⟩ | ⟨rfl, hout⟩
          · have hlen := q3.len
            rw [List.length_append] at hlen
            have hC := Lib.hid (hMM.out wr X Y hX (by have := hnn.out; omega) q1 q2 (u64_fil q3 hu.out) hB)
            replace q3 := Lib.hid q3
            clear hMM hX hB q1 q2 hlen hk
            go_wp2
            go_loopw [7, 8] (fun iv jv wr2 => iv = .int .i64 0 ∧ jv = .int .i64 40 ∧ wr2 = wr) (fun iv _ _ => 0)
            case atStart => exact ⟨rfl, rfl, rfl⟩
            case round =>
              obtain ⟨rfl, rfl, rfl⟩ := hrel
              go_wp2_with fail
              refine hC.out.mono ?_
              rintro e w5 ⟨rfl, Z, hB, hs, hf⟩
              have hP := Lib.hid (show PhB w0 w5 g cp n bs L 1 from .inr ⟨rfl, Z, hB, hs, hf.trans q3.out⟩)
              clear hB hs hf hC q3
              go_wp2
              go_roundw
              case rel => exact ⟨1, Nat.le_refl _, rfl, hP.out⟩
              case measure => simp [intOf]
          · replace hout := Lib.hid hout
            clear hMM hk
            go_wp2
            go_end0
            exact ⟨rfl, hout.out⟩
end Go.Proofs.YthbkdjbmkhmlnaaDoor
namespace Go.Proofs.YthbkdjbmkhmlnaaDoor
open Go.RowKit
set_option linter.unusedVariables false

theorem swap_mid (A B C : List Nat) (u v : Nat) {p q : Nat} (hp : A.length = p) (hq : p + 1 + B.length = q) : ((A ++ u :: (B ++ v :: C)).set p v).set q u = A ++ v :: (B ++ u :: C) := by
  subst hp hq
  have h1 : (A ++ u :: (B ++ v :: C)).set A.length v = A ++ v :: (B ++ v :: C) := by
    rw [List.set_append_right _ _ (Nat.le_refl _), Nat.sub_self]; rfl
  rw [h1, List.set_append_right _ _ (by omega)]
  rw [show A.length + 1 + B.length - A.length = B.length + 1 by omega, List.set_cons_succ, List.set_append_right _ _ (Nat.le_refl _), Nat.sub_self]
  rfl
/-- So far: i of them have changed places. -/
def swl (P U M V S : List Nat) (i : Nat) : List Nat := P ++ (V.take i ++ (U.drop i ++ (M ++ (U.take i ++ (V.drop i ++ S)))))
theorem swl_at (P U M V S : List Nat) {i u v : Nat} (hu : U[i]? = some u) (hv : V[i]? = some v) : swl P U M V S i = (P ++ V.take i) ++ u :: ((U.drop (i + 1) ++ (M ++ U.take i)) ++ v :: (V.drop (i + 1) ++ S)) ∧ swl P U M V S (i + 1) = (P ++ V.take i) ++ v :: ((U.drop (i + 1) ++ (M ++ U.take i)) ++ u :: (V.drop (i + 1) ++ S)) := by
  unfold swl
  rw [drop_cons_of hu, drop_cons_of hv, take_snoc_of hu, take_snoc_of hv]
  constructor <;> simp
set_option maxRecDepth 100000 in
set_option maxHeartbeats 4000000 in
theorem swapRange_any (w0 w : World) (g cp n : Nat) (bs : List GBk) (P U M V S : List Nat) (a b k : Nat) (h : Bl w0 w g cp (P ++ (U ++ (M ++ (V ++ S)))) bs) (hn : (P ++ (U ++ (M ++ (V ++ S)))).length = n) (hn5 : n ≤ 1000) (ha : P.length = a) (hU : U.length = k) (hV : V.length = k) (hb : a + k + M.length = b) :
    Calls Tryd.prog 112 #[.slice (some ⟨g, 0, none⟩) n cp, .int .i64 a, .int .i64 b, .int .i64 k, cmpV] w fun e w' => e = .returned (.tuple #[]) ∧ Bl w0 w' g cp (P ++ (V ++ (M ++ (U ++ S)))) bs := by
  have hbk : b + k ≤ n := by rw [← hn]; simp; omega
  have hbkh := Lib.hid hbk
  have b0 : a ≤ 1000 := by omega
  have b1 : b ≤ 1000 := by omega
  have b2 : k ≤ 1000 := by omega
  have h0 := Lib.hid (show Bl w0 w g cp (swl P U M V S 0) bs by
    have e : swl P U M V S 0 = P ++ (U ++ (M ++ (V ++ S))) := by unfold swl; simp
    rw [e]; exact h)
  replace hn5 := Lib.hid hn5
  replace ha := Lib.hid ha
  replace hU := Lib.hid hU
  replace hV := Lib.hid hV
  replace hb := Lib.hid hb
  clear h hn hbk
  go_enter Tryd.func112, Tryd.ntmps112
  go_wp2
  go_loopw [10] (fun iv wr => ∃ i : Nat, i ≤ k ∧ iv = .int .i64 i ∧ Bl w0 wr g cp (swl P U M V S i) bs) (fun iv _ => k - (intOf iv).toNat)
  case atStart => exact ⟨0, Nat.zero_le _, rfl, h0.out⟩
  case round =>
    clear h0
    obtain ⟨i, hik, rfl, B⟩ := hrel
    by_cases hlt : i < k
    · obtain ⟨u, hu⟩ : ∃ x, U[i]? = some x := ⟨_, List.getElem?_eq_getElem (by rw [hU.out]; exact hlt)⟩
      obtain ⟨v, hv⟩ : ∃ x, V[i]? = some x := ⟨_, List.getElem?_eq_getElem (by rw [hV.out]; exact hlt)⟩
      obtain ⟨hA, hA2⟩ := swl_at P U M V S hu hv
      rw [hA] at B
      have l1 : (P ++ V.take i).length = a + i := by rw [List.length_append, List.length_take, ha.out, hV.out]; omega
      have l2 : a + i + 1 + (U.drop (i + 1) ++ (M ++ U.take i)).length = b + i := by
        have := hb.out
        rw [List.length_append, List.length_append, List.length_take, List.length_drop, hU.out]; omega
      obtain ⟨p, hp⟩ : ∃ p, p = a + i := ⟨_, rfl⟩
      obtain ⟨q, hq⟩ : ∃ q, q = b + i := ⟨_, rfl⟩
      rw [← hp] at l1 l2
      rw [← hq] at l2
      have hswap := swap_mid (P ++ V.take i) (U.drop (i + 1) ++ (M ++ U.take i)) (V.drop (i + 1) ++ S) u v l1 l2
      have g1 : (i : Int) < (k : Int) := by omega
      have e1 : (a : Int) + (i : Int) = (p : Int) := by omega
      have e2 : (b : Int) + (i : Int) = (q : Int) := by omega
      have hbo := hbkh.out
      have hno := hn5.out
      have q1 : (p : Int) < (n : Int) := by omega
      have q2 : (q : Int) < (n : Int) := by omega
      have q3 : p ≤ 2000 := by omega
      have q4 : q ≤ 2000 := by omega
      have hne : p ≠ q := by omega
      have w1 : IntKind.i64.wrap (p : Int) = (p : Int) := by rw [IntKind.wrap_i64]; omega
      have w2 : IntKind.i64.wrap (q : Int) = (q : Int) := by rw [IntKind.wrap_i64]; omega
      have b3 : i ≤ 1000 := by omega
      have hug : ((P ++ V.take i) ++ u :: ((U.drop (i + 1) ++ (M ++ U.take i)) ++ v :: (V.drop (i + 1) ++ S)))[p]? = some u := get_mid _ u _ l1.symm
      have hvg : ((P ++ V.take i) ++ u :: ((U.drop (i + 1) ++ (M ++ U.take i)) ++ v :: (V.drop (i + 1) ++ S)))[q]? = some v := by
        rw [show (P ++ V.take i) ++ u :: ((U.drop (i + 1) ++ (M ++ U.take i)) ++ v :: (V.drop (i + 1) ++ S)) = ((P ++ V.take i) ++ u :: (U.drop (i + 1) ++ (M ++ U.take i))) ++ v :: (V.drop (i + 1) ++ S) by simp]
        exact get_mid _ v _ (by rw [List.length_append, List.length_cons]; omega)
      obtain ⟨cu, fu⟩ := B.cl hug
      obtain ⟨cv, fv⟩ := B.cl hvg
      have hB2 := Lib.hid (((B.set v (i := p) (List.getElem?_eq_some_iff.1 hug).1).set u (i := q) (by rw [List.length_set]; exact (List.getElem?_eq_some_iff.1 hvg).1)).drew)
      rw [hswap, ← hA2] at hB2
      have hih := Lib.hid hlt
      clear B hA hA2 l1 l2 hp hq hswap hug hvg hu hv hik hlt hbo hno
      go_upto_region 3 with fail
      go_region
      go_wp2
      have hlt := hih.out
      go_roundw
      case rel => exact ⟨i + 1, by omega, by go_num, hB2.out⟩
      case measure => simp [intOf]; omega
    · obtain rfl : i = k := by omega
      have hout := Lib.hid (show Bl w0 wr g cp (P ++ (V ++ (M ++ (U ++ S)))) bs by
        unfold swl at B
        rw [List.take_of_length_le (show U.length ≤ i by rw [hU.out]; exact Nat.le_refl _), List.take_of_length_le (show V.length ≤ i by rw [hV.out]; exact Nat.le_refl _), List.drop_eq_nil_of_le (show U.length ≤ i by rw [hU.out]; exact Nat.le_refl _), List.drop_eq_nil_of_le (show V.length ≤ i by rw [hV.out]; exact Nat.le_refl _)] at B
        simpa using B)
      clear B hik hlt
      go_wp2
      go_end0
      exact ⟨rfl, hout.out⟩
end Go.Proofs.YthbkdjbmkhmlnaaDoor
namespace Go.Proofs.YthbkdjbmkhmlnaaDoor
open Go.RowKit
set_option linter.unusedVariables false

/-- What is left to turn. -/
def RotI (w0 wr : World) (g cp : Nat) (bs : List GBk) (P X Y S : List Nat) (a m : Nat) (i j : Nat) : Prop := ∃ Y0 U V X0 : List Nat, U.length = i ∧ V.length = j ∧ a + Y0.length + i = m ∧ Bl w0 wr g cp (P ++ (Y0 ++ (U ++ (V ++ (X0 ++ S))))) bs ∧ Y0 ++ (V ++ (U ++ X0)) = Y ++ X ∧ (P ++ (Y0 ++ (U ++ (V ++ (X0 ++ S))))).length = (P ++ (X ++ (Y ++ S))).length
set_option maxRecDepth 100000 in
set_option maxHeartbeats 4000000 in
theorem rotate_any (w0 w : World) (g cp n : Nat) (bs : List GBk) (P X Y S : List Nat) (a m b : Nat) (h : Bl w0 w g cp (P ++ (X ++ (Y ++ S))) bs) (hn : (P ++ (X ++ (Y ++ S))).length = n) (hn5 : n ≤ 1000) (ha : P.length = a) (hm : a + X.length = m) (hb : m + Y.length = b) (hX : 1 ≤ X.length) (hY : 1 ≤ Y.length) :
    Calls Tryd.prog 111 #[.slice (some ⟨g, 0, none⟩) n cp, .int .i64 a, .int .i64 m, .int .i64 b, cmpV] w fun e w' => e = .returned (.tuple #[]) ∧ Bl w0 w' g cp (P ++ (Y ++ (X ++ S))) bs := by
  have hbn : b ≤ n := by rw [← hn]; simp; omega
  have b0 : a ≤ 1000 := by omega
  have b1 : b ≤ 1000 := by omega
  have b2 : m ≤ 1000 := by omega
  obtain ⟨i0, hi0⟩ : ∃ i, i = X.length := ⟨_, rfl⟩
  obtain ⟨j0, hj0⟩ : ∃ i, i = Y.length := ⟨_, rfl⟩
  have e1 : (m : Int) - (a : Int) = (i0 : Int) := by omega
  have e2 : (b : Int) - (m : Int) = (j0 : Int) := by omega
  have w1 : IntKind.i64.wrap (i0 : Int) = (i0 : Int) := by rw [IntKind.wrap_i64]; omega
  have w2 : IntKind.i64.wrap (j0 : Int) = (j0 : Int) := by rw [IntKind.wrap_i64]; omega
  have h0 := Lib.hid (show RotI w0 w g cp bs P X Y S a m i0 j0 from ⟨[], X, Y, [], hi0.symm, hj0.symm, by rw [hi0]; exact hm, by simpa using h, by simp, by simp⟩)
  have hij := Lib.hid (show 1 ≤ i0 ∧ 1 ≤ j0 ∧ i0 ≤ 1000 ∧ j0 ≤ 1000 from ⟨by omega, by omega, by omega, by omega⟩)
  replace hn := Lib.hid hn
  replace hn5 := Lib.hid hn5
  replace ha := Lib.hid ha
  clear h hm hb hX hY hi0 hj0 hbn
  go_enter Tryd.func111, Tryd.ntmps111
  go_wp2
  clear e1 e2 w1 w2
  go_loopw [10, 11] (fun iv jv wr => ∃ i j : Nat, 1 ≤ i ∧ 1 ≤ j ∧ i ≤ 1000 ∧ j ≤ 1000 ∧ iv = .int .i64 i ∧ jv = .int .i64 j ∧ RotI w0 wr g cp bs P X Y S a m i j) (fun iv jv _ => (intOf iv).toNat + (intOf jv).toNat)
  case atStart => exact ⟨i0, j0, hij.out.1, hij.out.2.1, hij.out.2.2.1, hij.out.2.2.2, rfl, rfl, h0.out⟩
  case round =>
    clear h0
    obtain ⟨i, j, hi1, hj1, hi2, hj2, rfl, rfl, Y0, U, V, X0, hU, hV, hm, B, hall, hlen⟩ := hrel
    rw [hn.out] at hlen
    have hPl := ha.out
    have hno := hn5.out
    obtain ⟨d, hd⟩ : ∃ d, d = m - i := ⟨_, rfl⟩
    have hdl : (P ++ Y0).length = d := by rw [List.length_append]; omega
    have e1 : (m : Int) - (i : Int) = (d : Int) := by omega
    have w1 : IntKind.i64.wrap (d : Int) = (d : Int) := by rw [IntKind.wrap_i64]; omega
    rcases Nat.lt_trichotomy i j with hlt | heq | hgt
    · obtain ⟨j2, hj3⟩ : ∃ k, k = j - i := ⟨_, rfl⟩
      obtain ⟨s, hs⟩ : ∃ k, k = m + j := ⟨_, rfl⟩
      obtain ⟨e, he⟩ : ∃ k, k = s - i := ⟨_, rfl⟩
      have hC := Lib.hid (swapRange_any w0 wr g cp n bs (P ++ Y0) U (V.take j2) (V.drop j2) (X0 ++ S) d e i (by
        have e5 : (P ++ Y0) ++ (U ++ (V.take j2 ++ (V.drop j2 ++ (X0 ++ S)))) = P ++ (Y0 ++ (U ++ (V ++ (X0 ++ S)))) := by
          rw [← List.append_assoc (V.take j2), List.take_append_drop]; simp
        rw [e5]; exact B) (by
        rw [← hlen]
        have e5 : (P ++ Y0) ++ (U ++ (V.take j2 ++ (V.drop j2 ++ (X0 ++ S)))) = P ++ (Y0 ++ (U ++ (V ++ (X0 ++ S)))) := by
          rw [← List.append_assoc (V.take j2), List.take_append_drop]; simp
        rw [e5]) hno hdl hU (by rw [List.length_drop, hV]; omega) (by rw [List.length_take, hV]; omega))
      have hI := Lib.hid (fun wr' (B' : Bl w0 wr' g cp ((P ++ Y0) ++ (V.drop j2 ++ (V.take j2 ++ (U ++ (X0 ++ S))))) bs) => (show RotI w0 wr' g cp bs P X Y S a m i j2 from ⟨Y0, V.drop j2, V.take j2, U ++ X0, by rw [List.length_drop, hV]; omega, by rw [List.length_take, hV]; omega, hm, by simpa using B', by
        rw [← hall, ← List.append_assoc (V.take j2), List.take_append_drop], by
        rw [hn.out, ← hlen]
        have := congrArg List.length (List.take_append_drop j2 V)
        simp only [List.length_append] at this ⊢
        omega⟩))
      have g1 : ((i : Int) != (j : Int)) = true := by rw [bne_iff_ne]; omega
      have g2 : ¬ ((j : Int) < (i : Int)) := by omega
      have e2 : (m : Int) + (j : Int) = (s : Int) := by omega
      have e3 : (s : Int) - (i : Int) = (e : Int) := by omega
      have e4 : (j : Int) - (i : Int) = (j2 : Int) := by omega
      have w2 : IntKind.i64.wrap (s : Int) = (s : Int) := by rw [IntKind.wrap_i64]; omega
      have w3 : IntKind.i64.wrap (e : Int) = (e : Int) := by rw [IntKind.wrap_i64]; omega
      have w4 : IntKind.i64.wrap (j2 : Int) = (j2 : Int) := by rw [IntKind.wrap_i64]; omega
      have hj3h := Lib.hid (show j2 + i = j by omega)
      have hi1h := Lib.hid (show 1 ≤ i ∧ i ≤ 1000 ∧ j ≤ 1000 ∧ i < j from ⟨hi1, hi2, hj2, hlt⟩)
      clear B hall hlen hU hV hm hdl hd hs he hj3 hlt hPl hno hi1 hj1 hi2 hj2
      go_wp2_with fail
      refine hC.out.mono ?_
      rintro e9 w2' ⟨rfl, B'⟩
      have hJ := Lib.hid (hI.out _ B')
      clear B' hC hI
      go_wp2
      have q1 := hj3h.out
      have q2 := hi1h.out
      go_roundw
      case rel => exact ⟨i, j2, by omega, by omega, by omega, by omega, rfl, by go_num, hJ.out⟩
      case measure => simp [intOf]; omega
    · subst heq
      have hC := Lib.hid (swapRange_any w0 wr g cp n bs (P ++ Y0) U [] V (X0 ++ S) d m i (by simpa using B) (by rw [← hlen]; simp) hno hdl hU hV (by rw [List.length_nil]; omega))
      have hI := Lib.hid (fun wr' (B' : Bl w0 wr' g cp ((P ++ Y0) ++ (V ++ ([] ++ (U ++ (X0 ++ S))))) bs) => (show Bl w0 wr' g cp (P ++ (Y ++ (X ++ S))) bs by
        have e5 : (P ++ Y0) ++ (V ++ ([] ++ (U ++ (X0 ++ S)))) = P ++ ((Y0 ++ (V ++ (U ++ X0))) ++ S) := by simp
        rw [e5, hall, List.append_assoc] at B'
        exact B'))
      have g1 : ((i : Int) != (i : Int)) = false := by simp
      clear B hall hlen hU hV hm hdl hd hPl hno hi1 hj1
      go_wp2_with fail
      refine hC.out.mono ?_
      rintro e9 w2' ⟨rfl, B'⟩
      have hJ := Lib.hid (hI.out _ B')
      clear B' hC hI
      go_wp2
      go_end0
      exact ⟨rfl, hJ.out⟩
    · obtain ⟨i2, hi3⟩ : ∃ k, k = i - j := ⟨_, rfl⟩
      have hC := Lib.hid (swapRange_any w0 wr g cp n bs (P ++ Y0) (U.take j) (U.drop j) V (X0 ++ S) d m j (by
        have e5 : (P ++ Y0) ++ (U.take j ++ (U.drop j ++ (V ++ (X0 ++ S)))) = P ++ (Y0 ++ (U ++ (V ++ (X0 ++ S)))) := by
          rw [← List.append_assoc (U.take j), List.take_append_drop]; simp
        rw [e5]; exact B) (by
        rw [← hlen]
        have e5 : (P ++ Y0) ++ (U.take j ++ (U.drop j ++ (V ++ (X0 ++ S)))) = P ++ (Y0 ++ (U ++ (V ++ (X0 ++ S)))) := by
          rw [← List.append_assoc (U.take j), List.take_append_drop]; simp
        rw [e5]) hno hdl (by rw [List.length_take, hU]; omega) hV (by rw [List.length_drop, hU]; omega))
      have hI := Lib.hid (fun wr' (B' : Bl w0 wr' g cp ((P ++ Y0) ++ (V ++ (U.drop j ++ (U.take j ++ (X0 ++ S))))) bs) => (show RotI w0 wr' g cp bs P X Y S a m i2 j from ⟨Y0 ++ V, U.drop j, U.take j, X0, by rw [List.length_drop, hU]; omega, by rw [List.length_take, hU]; omega, by rw [List.length_append]; omega, by simpa using B', by
        rw [← hall, ← List.append_assoc (U.take j), List.take_append_drop]; simp, by
        rw [hn.out, ← hlen]
        have := congrArg List.length (List.take_append_drop j U)
        simp only [List.length_append] at this ⊢
        omega⟩))
      have g1 : ((i : Int) != (j : Int)) = true := by rw [bne_iff_ne]; omega
      have g2 : ((j : Int) < (i : Int)) := by omega
      have e4 : (i : Int) - (j : Int) = (i2 : Int) := by omega
      have w4 : IntKind.i64.wrap (i2 : Int) = (i2 : Int) := by rw [IntKind.wrap_i64]; omega
      have hj3h := Lib.hid (show i2 + j = i by omega)
      have hi1h := Lib.hid (show 1 ≤ j ∧ i ≤ 1000 ∧ j ≤ 1000 ∧ j < i from ⟨hj1, hi2, hj2, hgt⟩)
      clear B hall hlen hU hV hm hdl hd hi3 hgt hPl hno hi1 hj1 hi2 hj2
      go_wp2_with fail
      refine hC.out.mono ?_
      rintro e9 w2' ⟨rfl, B'⟩
      have hJ := Lib.hid (hI.out _ B')
      clear B' hC hI
      go_wp2
      have q1 := hj3h.out
      have q2 := hi1h.out
      go_roundw
      case rel => exact ⟨i2, j, by omega, by omega, by omega, by omega, by go_num, rfl, hJ.out⟩
      case measure => simp [intOf]; omega
end Go.Proofs.YthbkdjbmkhmlnaaDoor
