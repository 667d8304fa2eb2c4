/- A step of the right side. -/
import Derived.Test.YthbkdjbmkhmlnaaDoorB18
namespace Go.Proofs.YthbkdjbmkhmlnaaDoor
open Go.RowKit
set_option linter.unusedVariables false

theorem res_stp (W : World) (tmps : Array Value) (g q t : Nat) {v0 v1 : Value} (h8 : tmps.getD 8 undef = .pointer (some ⟨g, 0, none⟩)) (h9 : tmps.getD 9 undef = .pointer (some ⟨q, 0, none⟩)) (h : Cb W g #[v0] t) (h' : Cb W q #[v1] t) :
    (results Tryd.f51 tmps).run Tryd.prog W = .ok (.tuple #[v0, v1]) W := by
  have c0 : W.cell? ⟨g, 0, none⟩ = some v0 := h.cell rfl
  have c1 : W.cell? ⟨q, 0, none⟩ = some v1 := h'.cell rfl
  have ht8 : tmps[8]?.getD undef = .pointer (some ⟨g, 0, none⟩) := by rw [← h8]; simp [Array.getD_eq_getD_getElem?]
  have ht9 : tmps[9]?.getD undef = .pointer (some ⟨q, 0, none⟩) := by rw [← h9]; simp [Array.getD_eq_getD_getElem?]
  simp [results, Tryd.results51, go_sem, ht8, ht9, c0, c1]
/-- What two lists are left as. -/
def SR (w0 w' : World) (xb : Nat) (ns : List Nd) (fs : List Fa) (ex : Bool) (vs bs : List GBk) (e : Ending) (L M : List Nat) : Prop :=
  ∃ A c B d ob, e = .returned (.tuple #[.slice A L.length c, .slice B M.length d]) ∧ L.length ≤ c ∧ M.length ≤ d ∧ XS w0 w' xb ns fs ex (vs ++ (bs ++ ob)) ∧ LI uC w0 (bs ++ ob) [] A L.length L ∧ LI uC w0 (bs ++ ob) [] B M.length M
theorem step_door {w0 W : World} {xb : Nat} {ns : List Nd} {fs : List Fa} {ex : Bool} {vs bs ob : List GBk} {A B : Option Addr} {c d q8 q9 : Nat} {L M : List Nat} (tmps : Array Value)
    (h : XS w0 W xb ns fs ex ((q9, #[.slice B M.length d], 55) :: (q8, #[.slice A L.length c], 55) :: (vs ++ (bs ++ ob)))) (hI : LI uC w0 (bs ++ ob) [] A L.length L) (hI2 : LI uC w0 (bs ++ ob) [] B M.length M) (hc : L.length ≤ c) (hd : M.length ≤ d) (hn : L.length ≤ 50000) (hm : M.length ≤ 50000) (hL : U64 L) (hM : U64 M) (h8 : tmps.getD 8 undef = .pointer (some ⟨q8, 0, none⟩)) (h9 : tmps.getD 9 undef = .pointer (some ⟨q9, 0, none⟩)) :
    Leaves Tryd.prog Tryd.f51 tmps (fun e w' => SR w0 w' xb ns fs (F10.jdg L (F10.jdg M ex).2).2 vs bs e (F10.jdg L (F10.jdg M ex).2).1 (F10.jdg M ex).1) [{ target := .fn (.func 83) #[], args := #[.pointer (some ⟨xb, 0, none⟩), .pointer (some ⟨q9, 0, none⟩)] }, { target := .fn (.func 83) #[], args := #[.pointer (some ⟨xb, 0, none⟩), .pointer (some ⟨q8, 0, none⟩)] }] .returning W := by
  refine leaves_cons (f := 83) (args := #[.pointer (some ⟨xb, 0, none⟩), .pointer (some ⟨q9, 0, none⟩)]) (by simp) (by simp [go_sem]) ?_
  refine (judgeD_x (t := 55) (lo := bs ++ ob) h (fun p hp => List.mem_cons_of_mem _ (List.mem_append_right _ hp)) hI2 hd hm hM).mono ?_
  rintro e u' w' ⟨rfl, rfl, B2, d2, hX, hI3, hd2⟩
  have hX2 := hX.prm (List.Perm.swap _ _ _)
  show Leaves Tryd.prog Tryd.f51 tmps _ [_] .returning w'
  refine leaves_cons (f := 83) (args := #[.pointer (some ⟨xb, 0, none⟩), .pointer (some ⟨q8, 0, none⟩)]) (by simp) (by simp [go_sem]) ?_
  refine (judgeD_x (t := 55) (lo := bs ++ ob) hX2 (fun p hp => List.mem_cons_of_mem _ (List.mem_append_right _ hp)) hI hc hn hL).mono ?_
  rintro e u' w' ⟨rfl, rfl, A2, c2, hX3, hI4, hc2⟩
  exact ⟨_, res_stp _ _ q8 q9 55 h8 h9 (hX3.st.cb 0 rfl) (hX3.st.cb 1 rfl), A2, c2, B2, d2, ob, rfl, hc2, hd2, hX3.sub.sub, hI4, hI3⟩

set_option maxRecDepth 100000 in
set_option maxHeartbeats 4000000 in
theorem step_no (w0 w : World) (xb : Nat) (y : Nd) (ns ns1 : List Nd) (fs fs1 : List Fa) (ex ex1 : Bool) (vs bs : List GBk) (op : Nat) (A B : Option Addr) (c d : Nat) (L M O : List Nat) (h : XS w0 w xb (y :: ns) fs ex (vs ++ bs)) (hz : (y.o == 4) = false) (hop : op = 5 ∨ op = 6)
    (hE : ∀ W bs', XS w0 W xb (y :: ns) fs ex bs' → Calls Tryd.prog 84 #[.pointer (some ⟨xb, 0, none⟩)] W fun e w' => ∃ v, e = .returned v ∧ ER w0 w' xb ns1 fs1 ex1 bs' v O) (hq : F10.fts O = true ∧ U64 O ∧ O.Nodup)
    (hI : LI uC w0 bs [] A L.length L) (hc : L.length ≤ c) (hL : F10.fts L = true ∧ U64 L ∧ L.Nodup) (hI2 : LI uC w0 bs [] B M.length M) (hd : M.length ≤ d) (hM : F10.fts M = true ∧ U64 M ∧ M.Nodup) :
    Calls Tryd.prog 51 #[.pointer (some ⟨xb, 0, none⟩), .int .i64 (op : Int), .slice A L.length c, .slice B M.length d] w fun e w' => SR w0 w' xb ns1 fs1 (F10.jdg (F10.op2 op L O) (F10.jdg (F10.op2 op M O) ex1).2).2 vs bs e (F10.jdg (F10.op2 op L O) (F10.jdg (F10.op2 op M O) ex1).2).1 (F10.jdg (F10.op2 op M O) ex1).1 := by
  have hopb : 5 ≤ op ∧ op ≤ 9 := by omega
  have h1 := h.more #[.slice none 0 0] 55 (noLof rfl)
  obtain ⟨q8, hq8⟩ : ∃ b, b = w.heap.size := ⟨_, rfl⟩
  rw [← hq8] at h1
  have hs9 : q8 + 1 = (w.alloc (.cells #[.slice none 0 0] 55)).heap.size := by rw [hq8]; simp
  have h2 := Lib.hid (h1.moreAt (q8 + 1) #[.slice none 0 0] 55 (noLof rfl) hs9.symm)
  obtain ⟨w2, hw2⟩ : ∃ W, W = (w.alloc (.cells #[.slice none 0 0] 55)).alloc (.cells #[.slice none 0 0] 55) := ⟨_, rfl⟩
  rw [← hw2] at h2
  clear h h1 hs9
  replace hE := Lib.hid hE
  replace hq := Lib.hid hq
  replace hI := Lib.hid hI
  replace hI2 := Lib.hid hI2
  replace hc := Lib.hid hc
  replace hd := Lib.hid hd
  replace hL := Lib.hid hL
  replace hM := Lib.hid hM
  replace hopb := Lib.hid hopb
  replace hop := Lib.hid hop
  go_enter_defers Tryd.func51, Tryd.ntmps51
  go_upto_region 3 with fail
  rw [← hq8, ← hw2]
  clear hw2 hq8
  obtain ⟨NA, nc, FA, fd, hNA, hnc, _, _, x0, _, _, _, _, _⟩ := h2.out.cells
  obtain ⟨nb, no, ny, rfl, hny, _, y0, _, _⟩ := nd_get hNA (i := 0) (by simp)
  obtain rfl : y = ny := by simpa using hny
  have g0 : (0 : Int) < ((y :: ns).length : Int) := by simp
  rw [Nat.zero_mul, Nat.add_zero] at y0
  replace hz := hz
  have hE1 := Lib.hid (hE.out _ _ h2.out)
  clear hNA hnc hny
  go_wp2_with fail
  clear x0 y0 g0
  refine hE1.out.mono ?_
  rintro e w4 ⟨v, rfl, A1, c1, ob1, rfl, hc1, hX4, hI4⟩
  clear hE1 h2
  have hX5 := Lib.hid (show XS w0 w4 xb ns1 fs1 ex1 ((q8, #[.slice none 0 0], 55) :: (q8 + 1, #[.slice none 0 0], 55) :: (vs ++ (bs ++ ob1))) from (by
    have := hX4
    rw [List.cons_append, List.cons_append, List.append_assoc] at this
    exact this.prm (List.Perm.swap _ _ _)))
  replace hI4 := Lib.hid hI4
  replace hc1 := Lib.hid hc1
  clear hX4
  have l1 := fts_len hL.out.1
  have l2 := fts_len hM.out.1
  have l3 := fts_len hq.out.1
  have hla := (hI.out.mono (bs' := (q8, #[.slice none 0 0], 55) :: (q8 + 1, #[.slice none 0 0], 55) :: (vs ++ (bs ++ ob1))) (fun p hp => by simp [hp]) (fun p hp => hp)).lr hX5.out.st
  have hlo := (hI4.out.mono (bs' := (q8, #[.slice none 0 0], 55) :: (q8 + 1, #[.slice none 0 0], 55) :: (vs ++ (bs ++ ob1))) (fun p hp => by simp [hp]) (fun p hp => hp)).lr hX5.out.st
  have hC := Lib.hid (combined_any L O A L.length c A1 O.length c1 w4 op hopb.out hla hc.out hlo hc1.out (by omega) (by omega) hL.out.2.1 hq.out.2.1 hL.out.2.2)
  clear hla hlo
  
  go_wp2_with fail
  refine hC.out.mono ?_
  rintro e w5 ⟨v, rfl, G⟩
  clear hC
  obtain ⟨A2, c2, ob2, rfl, hc2, S2, hI5⟩ := G.own (fun _ _ _ _ => trivial)
  have hX6 := hX5.out.adopt S2
  rw [List.cons_append, List.cons_append, List.append_assoc, List.append_assoc] at hX6
  replace hX6 := Lib.hid hX6
  have r8 : w5.cell? ⟨q8, 0, none⟩ = some (.slice none 0 0) := hX6.out.st.cl 0 0 rfl rfl
  have f8 := hX6.out.st.f 0 0 rfl
  have hX7 := Lib.hid (show XS w0 (w5.setCell ⟨q8, 0, none⟩ (.slice A2 (F10.op2 op L O).length c2)) xb ns1 fs1 ex1 ((q8, #[.slice A2 (F10.op2 op L O).length c2], 55) :: (q8 + 1, #[.slice none 0 0], 55) :: (vs ++ (bs ++ (ob1 ++ ob2)))) from hX6.out.put 0 (.slice A2 (F10.op2 op L O).length c2) (by nofun))
  replace hI5 := Lib.hid (hI5 w0 (bs ++ (ob1 ++ ob2)) (fun p hp => by simp [hp]))
  replace hc2 := Lib.hid hc2
  clear G S2 hX5 hX6
  obtain ⟨w6, hw6⟩ : ∃ W, W = w5.setCell ⟨q8, 0, none⟩ (.slice A2 (F10.op2 op L O).length c2) := ⟨_, rfl⟩
  rw [← hw6] at hX7
  have hlm := Lib.hid ((hI2.out.mono (bs' := (q8, #[.slice A2 (F10.op2 op L O).length c2], 55) :: (q8 + 1, #[.slice none 0 0], 55) :: (vs ++ (bs ++ (ob1 ++ ob2)))) (fun p hp => by simp [hp]) (fun p hp => hp)).lr hX7.out.st)
  have hlo2 := Lib.hid ((hI4.out.mono (bs' := (q8, #[.slice A2 (F10.op2 op L O).length c2], 55) :: (q8 + 1, #[.slice none 0 0], 55) :: (vs ++ (bs ++ (ob1 ++ ob2)))) (fun p hp => by simp [hp]) (fun p hp => hp)).lr hX7.out.st)
  go_upto_region 7 with fail
  rw [← hw6]
  clear hw6 r8 f8
  have hC2 := Lib.hid (combined_any M O B M.length d A1 O.length c1 w6 op hopb.out hlm.out hd.out hlo2.out hc1.out (by omega) (by omega) hM.out.2.1 hq.out.2.1 hM.out.2.2)
  have hadS : ∀ {W : World} {ob : List GBk}, St w6 W ob [] → St w6 W ob [] := fun h => h
  go_wp2_with fail
  refine hC2.out.mono ?_
  rintro e w7 ⟨v, rfl, G⟩
  clear hC2
  obtain ⟨B2, d2, ob3, rfl, hd2, S3, hI6⟩ := G.own (fun _ _ _ _ => trivial)
  have hX8 := Lib.hid (show XS w0 w7 xb ns1 fs1 ex1 ((q8 + 1, #[.slice none 0 0], 55) :: (q8, #[.slice A2 (F10.op2 op L O).length c2], 55) :: (vs ++ (bs ++ ((ob1 ++ ob2) ++ ob3)))) from (by
    have := hX7.out.adopt (hadS S3)
    rw [List.cons_append, List.cons_append, List.append_assoc, List.append_assoc] at this
    exact this.prm (List.Perm.swap _ _ _)))
  have r8 : w7.cell? ⟨q8, 0, none⟩ = some (.slice A2 (F10.op2 op L O).length c2) := hX8.out.st.cl 1 0 rfl rfl
  have f8 := hX8.out.st.f 1 0 rfl
  have r9 : w7.cell? ⟨q8 + 1, 0, none⟩ = some (.slice none 0 0) := hX8.out.st.cl 0 0 rfl rfl
  have f9 := hX8.out.st.f 0 0 rfl
  have hX9 := Lib.hid (show XS w0 (w7.setCell ⟨q8 + 1, 0, none⟩ (.slice B2 (F10.op2 op M O).length d2)) xb ns1 fs1 ex1 ((q8 + 1, #[.slice B2 (F10.op2 op M O).length d2], 55) :: (q8, #[.slice A2 (F10.op2 op L O).length c2], 55) :: (vs ++ (bs ++ ((ob1 ++ ob2) ++ ob3)))) from hX8.out.put 0 (.slice B2 (F10.op2 op M O).length d2) (by nofun))
  have hI7 := Lib.hid (hI5.out.mono (bs' := bs ++ ((ob1 ++ ob2) ++ ob3)) (fun p hp => by
    rcases List.mem_append.1 hp with hp | hp
    · exact List.mem_append_left _ hp
    · exact List.mem_append_right _ (List.mem_append_left _ hp)) (fun p hp => hp))
  have hI8 := Lib.hid (hI6 w0 (bs ++ ((ob1 ++ ob2) ++ ob3)) (fun p hp => List.mem_append_right _ (List.mem_append_right _ hp)))
  replace hd2 := Lib.hid hd2
  have ho1 := Lib.hid (op2_len op l1 l3)
  have hu1 : Hid (U64 (F10.op2 op L O)) := Lib.hid (u64_op2 hL.out.2.1 hq.out.2.1)
  have ho2 := Lib.hid (show (F10.op2 op M O).length ≤ 50000 from op2_len op l2 l3)
  have hu2 : Hid (U64 (F10.op2 op M O)) := Lib.hid (u64_op2 hM.out.2.1 hq.out.2.1)
  clear l1 l2 l3 hX8 hX7 hI6 G S3 hlm hlo2 hadS
  go_upto_region 11 with fail
  have hX10 := Lib.hid ((hX9.out.put 0 (.slice B2 (F10.op2 op M O).length d2) (by nofun)))
  obtain ⟨w8, hw8⟩ : ∃ W, W = w7.setCell ⟨q8 + 1, 0, none⟩ (.slice B2 (F10.op2 op M O).length d2) := ⟨_, rfl⟩
  rw [← hw8] at hX9
  rw [← hw8]
  clear hw8 r8 f8 r9 f9 hX10
  have r8 : w8.cell? ⟨q8, 0, none⟩ = some (.slice A2 (F10.op2 op L O).length c2) := hX9.out.st.cl 1 0 rfl rfl
  have f8 := hX9.out.st.f 1 0 rfl
  have r9 : w8.cell? ⟨q8 + 1, 0, none⟩ = some (.slice B2 (F10.op2 op M O).length d2) := hX9.out.st.cl 0 0 rfl rfl
  have f9 := hX9.out.st.f 0 0 rfl
  have hXa := hX9.out.prm (List.Perm.swap _ _ _)
  have hXb := hXa.put 0 (.slice A2 (F10.op2 op L O).length c2) (by nofun)
  have hXc := hXb.prm (List.Perm.swap _ _ _)
  have hXd := Lib.hid (hXc.put 0 (.slice B2 (F10.op2 op M O).length d2) (by nofun))
  clear hXa hXb hXc hX9
  go_wp2
  exact step_door _ hXd.out hI7.out hI8.out hc2.out hd2.out ho1.out ho2.out hu1.out hu2.out rfl rfl

set_option maxRecDepth 100000 in
set_option maxHeartbeats 4000000 in
theorem step_y5 (w0 w : World) (xb : Nat) (y : Nd) (ns ns1 : List Nd) (fs fs1 : List Fa) (ex ex1 : Bool) (vs bs : List GBk) (A B : Option Addr) (c d : Nat) (L M O : List Nat) (h : XS w0 w xb (y :: ns) fs ex (vs ++ bs)) (hz : (y.o == 4) = true)
    (hE : ∀ W bs', XS w0 W xb (y :: ns) fs ex bs' → Calls Tryd.prog 84 #[.pointer (some ⟨xb, 0, none⟩)] W fun e w' => ∃ v, e = .returned v ∧ ER w0 w' xb ns1 fs1 ex1 bs' v O) (hq : F10.fts O = true ∧ U64 O ∧ O.Nodup)
    (hI : LI uC w0 bs [] A L.length L) (hc : L.length ≤ c) (hL : F10.fts L = true ∧ U64 L ∧ L.Nodup) (hI2 : LI uC w0 bs [] B M.length M) (hd : M.length ≤ d) (hM : F10.fts M = true ∧ U64 M ∧ M.Nodup) :
    Calls Tryd.prog 51 #[.pointer (some ⟨xb, 0, none⟩), .int .i64 5, .slice A L.length c, .slice B M.length d] w fun e w' => SR w0 w' xb ns1 fs1 (F10.jdg (F10.op2 5 L O) (F10.jdg (F10.mns M [0]) ex1).2).2 vs bs e (F10.jdg (F10.op2 5 L O) (F10.jdg (F10.mns M [0]) ex1).2).1 (F10.jdg (F10.mns M [0]) ex1).1 := by
  have hopb : 5 ≤ 5 ∧ 5 ≤ 9 := by omega
  have h1 := h.more #[.slice none 0 0] 55 (noLof rfl)
  obtain ⟨q8, hq8⟩ : ∃ b, b = w.heap.size := ⟨_, rfl⟩
  rw [← hq8] at h1
  have hs9 : q8 + 1 = (w.alloc (.cells #[.slice none 0 0] 55)).heap.size := by rw [hq8]; simp
  have h2 := Lib.hid (h1.moreAt (q8 + 1) #[.slice none 0 0] 55 (noLof rfl) hs9.symm)
  obtain ⟨w2, hw2⟩ : ∃ W, W = (w.alloc (.cells #[.slice none 0 0] 55)).alloc (.cells #[.slice none 0 0] 55) := ⟨_, rfl⟩
  rw [← hw2] at h2
  clear h h1 hs9
  replace hE := Lib.hid hE
  replace hq := Lib.hid hq
  replace hI := Lib.hid hI
  replace hI2 := Lib.hid hI2
  replace hc := Lib.hid hc
  replace hd := Lib.hid hd
  replace hL := Lib.hid hL
  replace hM := Lib.hid hM
  replace hopb := Lib.hid hopb
  go_enter_defers Tryd.func51, Tryd.ntmps51
  go_upto_region 3 with fail
  rw [← hq8, ← hw2]
  clear hw2 hq8
  obtain ⟨NA, nc, FA, fd, hNA, hnc, _, _, x0, _, _, _, _, _⟩ := h2.out.cells
  obtain ⟨nb, no, ny, rfl, hny, _, y0, _, _⟩ := nd_get hNA (i := 0) (by simp)
  obtain rfl : y = ny := by simpa using hny
  have g0 : (0 : Int) < ((y :: ns).length : Int) := by simp
  rw [Nat.zero_mul, Nat.add_zero] at y0
  replace hz := hz
  have hE1 := Lib.hid (hE.out _ _ h2.out)
  clear hNA hnc hny
  go_wp2_with fail
  clear x0 y0 g0
  refine hE1.out.mono ?_
  rintro e w4 ⟨v, rfl, A1, c1, ob1, rfl, hc1, hX4, hI4⟩
  clear hE1 h2
  have hX5 := Lib.hid (show XS w0 w4 xb ns1 fs1 ex1 ((q8, #[.slice none 0 0], 55) :: (q8 + 1, #[.slice none 0 0], 55) :: (vs ++ (bs ++ ob1))) from (by
    have := hX4
    rw [List.cons_append, List.cons_append, List.append_assoc] at this
    exact this.prm (List.Perm.swap _ _ _)))
  replace hI4 := Lib.hid hI4
  replace hc1 := Lib.hid hc1
  clear hX4
  have l1 := fts_len hL.out.1
  have l2 := fts_len hM.out.1
  have l3 := fts_len hq.out.1
  have hla := (hI.out.mono (bs' := (q8, #[.slice none 0 0], 55) :: (q8 + 1, #[.slice none 0 0], 55) :: (vs ++ (bs ++ ob1))) (fun p hp => by simp [hp]) (fun p hp => hp)).lr hX5.out.st
  have hlo := (hI4.out.mono (bs' := (q8, #[.slice none 0 0], 55) :: (q8 + 1, #[.slice none 0 0], 55) :: (vs ++ (bs ++ ob1))) (fun p hp => by simp [hp]) (fun p hp => hp)).lr hX5.out.st
  have hC := Lib.hid (combined_any L O A L.length c A1 O.length c1 w4 5 (by omega) hla hc.out hlo hc1.out (by omega) (by omega) hL.out.2.1 hq.out.2.1 hL.out.2.2)
  clear hla hlo
  go_wp2_with fail
  refine hC.out.mono ?_
  rintro e w5 ⟨v, rfl, G⟩
  clear hC
  obtain ⟨A2, c2, ob2, rfl, hc2, S2, hI5⟩ := G.own (fun _ _ _ _ => trivial)
  have hX6 := hX5.out.adopt S2
  rw [List.cons_append, List.cons_append, List.append_assoc, List.append_assoc] at hX6
  replace hX6 := Lib.hid hX6
  have r8 : w5.cell? ⟨q8, 0, none⟩ = some (.slice none 0 0) := hX6.out.st.cl 0 0 rfl rfl
  have f8 := hX6.out.st.f 0 0 rfl
  have hX7 := Lib.hid (show XS w0 (w5.setCell ⟨q8, 0, none⟩ (.slice A2 (F10.op2 5 L O).length c2)) xb ns1 fs1 ex1 ((q8, #[.slice A2 (F10.op2 5 L O).length c2], 55) :: (q8 + 1, #[.slice none 0 0], 55) :: (vs ++ (bs ++ (ob1 ++ ob2)))) from hX6.out.put 0 (.slice A2 (F10.op2 5 L O).length c2) (by nofun))
  replace hI5 := Lib.hid (hI5 w0 (bs ++ (ob1 ++ ob2)) (fun p hp => by simp [hp]))
  replace hc2 := Lib.hid hc2
  clear G S2 hX5 hX6
  obtain ⟨w6, hw6⟩ : ∃ W, W = w5.setCell ⟨q8, 0, none⟩ (.slice A2 (F10.op2 5 L O).length c2) := ⟨_, rfl⟩
  rw [← hw6] at hX7
  have hlm := Lib.hid ((hI2.out.mono (bs' := (q8, #[.slice A2 (F10.op2 5 L O).length c2], 55) :: (q8 + 1, #[.slice none 0 0], 55) :: (vs ++ (bs ++ (ob1 ++ ob2)))) (fun p hp => by simp [hp]) (fun p hp => hp)).lr hX7.out.st)
  have hlo2 := Lib.hid ((hI4.out.mono (bs' := (q8, #[.slice A2 (F10.op2 5 L O).length c2], 55) :: (q8 + 1, #[.slice none 0 0], 55) :: (vs ++ (bs ++ (ob1 ++ ob2)))) (fun p hp => by simp [hp]) (fun p hp => hp)).lr hX7.out.st)
  go_upto_region 7 with fail
  rw [← hw6]
  clear hw6 r8 f8
  have S9 := Lib.hid (show St w6 (w6.alloc (.cells #[.int .u64 0] 86)) [(w6.heap.size, (uC.all [0]).toArray, 86)] [] from (St.new w6).alloc #[.int .u64 0] 86 (noLof rfl))
  have hC2 := Lib.hid (without_any M [0] B M.length d (some ⟨w6.heap.size, 0, none⟩) 1 1 _ (hlm.out.bel S9.out.bel) hd.out (St_glr S9.out 1 rfl (fun _ _ => trivial)) (by omega) (by omega))
  have hadS : ∀ {W : World} {ob : List GBk}, St (w6.alloc (.cells #[.int .u64 0] 86)) W ob [] → St w6 W ob [] := fun h => St.rebase S9.out.bel h
  clear S9
  go_wp2_with fail
  refine hC2.out.mono ?_
  rintro e w7 ⟨v, rfl, G⟩
  clear hC2
  obtain ⟨B2, d2, ob3, rfl, hd2, S3, hI6⟩ := G.own (fun _ _ _ _ => trivial)
  have hX8 := Lib.hid (show XS w0 w7 xb ns1 fs1 ex1 ((q8 + 1, #[.slice none 0 0], 55) :: (q8, #[.slice A2 (F10.op2 5 L O).length c2], 55) :: (vs ++ (bs ++ ((ob1 ++ ob2) ++ ob3)))) from (by
    have := hX7.out.adopt (hadS S3)
    rw [List.cons_append, List.cons_append, List.append_assoc, List.append_assoc] at this
    exact this.prm (List.Perm.swap _ _ _)))
  have r8 : w7.cell? ⟨q8, 0, none⟩ = some (.slice A2 (F10.op2 5 L O).length c2) := hX8.out.st.cl 1 0 rfl rfl
  have f8 := hX8.out.st.f 1 0 rfl
  have r9 : w7.cell? ⟨q8 + 1, 0, none⟩ = some (.slice none 0 0) := hX8.out.st.cl 0 0 rfl rfl
  have f9 := hX8.out.st.f 0 0 rfl
  have hX9 := Lib.hid (show XS w0 (w7.setCell ⟨q8 + 1, 0, none⟩ (.slice B2 (F10.mns M [0]).length d2)) xb ns1 fs1 ex1 ((q8 + 1, #[.slice B2 (F10.mns M [0]).length d2], 55) :: (q8, #[.slice A2 (F10.op2 5 L O).length c2], 55) :: (vs ++ (bs ++ ((ob1 ++ ob2) ++ ob3)))) from hX8.out.put 0 (.slice B2 (F10.mns M [0]).length d2) (by nofun))
  have hI7 := Lib.hid (hI5.out.mono (bs' := bs ++ ((ob1 ++ ob2) ++ ob3)) (fun p hp => by
    rcases List.mem_append.1 hp with hp | hp
    · exact List.mem_append_left _ hp
    · exact List.mem_append_right _ (List.mem_append_left _ hp)) (fun p hp => hp))
  have hI8 := Lib.hid (hI6 w0 (bs ++ ((ob1 ++ ob2) ++ ob3)) (fun p hp => List.mem_append_right _ (List.mem_append_right _ hp)))
  replace hd2 := Lib.hid hd2
  have ho1 := Lib.hid (op2_len 5 l1 l3)
  have hu1 : Hid (U64 (F10.op2 5 L O)) := Lib.hid (u64_op2 hL.out.2.1 hq.out.2.1)
  have ho2 := Lib.hid (show (F10.mns M [0]).length ≤ 50000 from Nat.le_trans (List.length_filter_le _ _) (by omega))
  have hu2 : Hid (U64 (F10.mns M [0])) := Lib.hid (fun t ht => hM.out.2.1 t (F10.mns_mem.1 ht).1)
  clear l1 l2 l3 hX8 hX7 hI6 G S3 hlm hlo2 hadS
  go_upto_region 11 with fail
  have hX10 := Lib.hid ((hX9.out.put 0 (.slice B2 (F10.mns M [0]).length d2) (by nofun)))
  obtain ⟨w8, hw8⟩ : ∃ W, W = w7.setCell ⟨q8 + 1, 0, none⟩ (.slice B2 (F10.mns M [0]).length d2) := ⟨_, rfl⟩
  rw [← hw8] at hX9
  rw [← hw8]
  clear hw8 r8 f8 r9 f9 hX10
  have r8 : w8.cell? ⟨q8, 0, none⟩ = some (.slice A2 (F10.op2 5 L O).length c2) := hX9.out.st.cl 1 0 rfl rfl
  have f8 := hX9.out.st.f 1 0 rfl
  have r9 : w8.cell? ⟨q8 + 1, 0, none⟩ = some (.slice B2 (F10.mns M [0]).length d2) := hX9.out.st.cl 0 0 rfl rfl
  have f9 := hX9.out.st.f 0 0 rfl
  have hXa := hX9.out.prm (List.Perm.swap _ _ _)
  have hXb := hXa.put 0 (.slice A2 (F10.op2 5 L O).length c2) (by nofun)
  have hXc := hXb.prm (List.Perm.swap _ _ _)
  have hXd := Lib.hid (hXc.put 0 (.slice B2 (F10.mns M [0]).length d2) (by nofun))
  clear hXa hXb hXc hX9
  go_wp2
  exact step_door _ hXd.out hI7.out hI8.out hc2.out hd2.out ho1.out ho2.out hu1.out hu2.out rfl rfl

set_option maxRecDepth 100000 in
set_option maxHeartbeats 4000000 in
theorem step_y6 (w0 w : World) (xb : Nat) (y : Nd) (ns ns1 : List Nd) (fs fs1 : List Fa) (ex ex1 : Bool) (vs bs : List GBk) (A B : Option Addr) (c d : Nat) (L M O : List Nat) (h : XS w0 w xb (y :: ns) fs ex (vs ++ bs)) (hz : (y.o == 4) = true)
    (hE : ∀ W bs', XS w0 W xb (y :: ns) fs ex bs' → Calls Tryd.prog 84 #[.pointer (some ⟨xb, 0, none⟩)] W fun e w' => ∃ v, e = .returned v ∧ ER w0 w' xb ns1 fs1 ex1 bs' v O) (hq : F10.fts O = true ∧ U64 O ∧ O.Nodup)
    (hI : LI uC w0 bs [] A L.length L) (hc : L.length ≤ c) (hL : F10.fts L = true ∧ U64 L ∧ L.Nodup) (hI2 : LI uC w0 bs [] B M.length M) (hd : M.length ≤ d) (hM : F10.fts M = true ∧ U64 M ∧ M.Nodup) :
    Calls Tryd.prog 51 #[.pointer (some ⟨xb, 0, none⟩), .int .i64 6, .slice A L.length c, .slice B M.length d] w fun e w' => SR w0 w' xb ns1 fs1 (F10.jdg (F10.op2 6 L O) (F10.jdg (F10.pls M [0]) ex1).2).2 vs bs e (F10.jdg (F10.op2 6 L O) (F10.jdg (F10.pls M [0]) ex1).2).1 (F10.jdg (F10.pls M [0]) ex1).1 := by
  have hopb : 5 ≤ 6 ∧ 6 ≤ 9 := by omega
  have h1 := h.more #[.slice none 0 0] 55 (noLof rfl)
  obtain ⟨q8, hq8⟩ : ∃ b, b = w.heap.size := ⟨_, rfl⟩
  rw [← hq8] at h1
  have hs9 : q8 + 1 = (w.alloc (.cells #[.slice none 0 0] 55)).heap.size := by rw [hq8]; simp
  have h2 := Lib.hid (h1.moreAt (q8 + 1) #[.slice none 0 0] 55 (noLof rfl) hs9.symm)
  obtain ⟨w2, hw2⟩ : ∃ W, W = (w.alloc (.cells #[.slice none 0 0] 55)).alloc (.cells #[.slice none 0 0] 55) := ⟨_, rfl⟩
  rw [← hw2] at h2
  clear h h1 hs9
  replace hE := Lib.hid hE
  replace hq := Lib.hid hq
  replace hI := Lib.hid hI
  replace hI2 := Lib.hid hI2
  replace hc := Lib.hid hc
  replace hd := Lib.hid hd
  replace hL := Lib.hid hL
  replace hM := Lib.hid hM
  replace hopb := Lib.hid hopb
  go_enter_defers Tryd.func51, Tryd.ntmps51
  go_upto_region 3 with fail
  rw [← hq8, ← hw2]
  clear hw2 hq8
  obtain ⟨NA, nc, FA, fd, hNA, hnc, _, _, x0, _, _, _, _, _⟩ := h2.out.cells
  obtain ⟨nb, no, ny, rfl, hny, _, y0, _, _⟩ := nd_get hNA (i := 0) (by simp)
  obtain rfl : y = ny := by simpa using hny
  have g0 : (0 : Int) < ((y :: ns).length : Int) := by simp
  rw [Nat.zero_mul, Nat.add_zero] at y0
  replace hz := hz
  have hE1 := Lib.hid (hE.out _ _ h2.out)
  clear hNA hnc hny
  go_wp2_with fail
  clear x0 y0 g0
  refine hE1.out.mono ?_
  rintro e w4 ⟨v, rfl, A1, c1, ob1, rfl, hc1, hX4, hI4⟩
  clear hE1 h2
  have hX5 := Lib.hid (show XS w0 w4 xb ns1 fs1 ex1 ((q8, #[.slice none 0 0], 55) :: (q8 + 1, #[.slice none 0 0], 55) :: (vs ++ (bs ++ ob1))) from (by
    have := hX4
    rw [List.cons_append, List.cons_append, List.append_assoc] at this
    exact this.prm (List.Perm.swap _ _ _)))
  replace hI4 := Lib.hid hI4
  replace hc1 := Lib.hid hc1
  clear hX4
  have l1 := fts_len hL.out.1
  have l2 := fts_len hM.out.1
  have l3 := fts_len hq.out.1
  have hla := (hI.out.mono (bs' := (q8, #[.slice none 0 0], 55) :: (q8 + 1, #[.slice none 0 0], 55) :: (vs ++ (bs ++ ob1))) (fun p hp => by simp [hp]) (fun p hp => hp)).lr hX5.out.st
  have hlo := (hI4.out.mono (bs' := (q8, #[.slice none 0 0], 55) :: (q8 + 1, #[.slice none 0 0], 55) :: (vs ++ (bs ++ ob1))) (fun p hp => by simp [hp]) (fun p hp => hp)).lr hX5.out.st
  have hC := Lib.hid (combined_any L O A L.length c A1 O.length c1 w4 6 (by omega) hla hc.out hlo hc1.out (by omega) (by omega) hL.out.2.1 hq.out.2.1 hL.out.2.2)
  clear hla hlo
  go_wp2_with fail
  refine hC.out.mono ?_
  rintro e w5 ⟨v, rfl, G⟩
  clear hC
  obtain ⟨A2, c2, ob2, rfl, hc2, S2, hI5⟩ := G.own (fun _ _ _ _ => trivial)
  have hX6 := hX5.out.adopt S2
  rw [List.cons_append, List.cons_append, List.append_assoc, List.append_assoc] at hX6
  replace hX6 := Lib.hid hX6
  have r8 : w5.cell? ⟨q8, 0, none⟩ = some (.slice none 0 0) := hX6.out.st.cl 0 0 rfl rfl
  have f8 := hX6.out.st.f 0 0 rfl
  have hX7 := Lib.hid (show XS w0 (w5.setCell ⟨q8, 0, none⟩ (.slice A2 (F10.op2 6 L O).length c2)) xb ns1 fs1 ex1 ((q8, #[.slice A2 (F10.op2 6 L O).length c2], 55) :: (q8 + 1, #[.slice none 0 0], 55) :: (vs ++ (bs ++ (ob1 ++ ob2)))) from hX6.out.put 0 (.slice A2 (F10.op2 6 L O).length c2) (by nofun))
  replace hI5 := Lib.hid (hI5 w0 (bs ++ (ob1 ++ ob2)) (fun p hp => by simp [hp]))
  replace hc2 := Lib.hid hc2
  clear G S2 hX5 hX6
  obtain ⟨w6, hw6⟩ : ∃ W, W = w5.setCell ⟨q8, 0, none⟩ (.slice A2 (F10.op2 6 L O).length c2) := ⟨_, rfl⟩
  rw [← hw6] at hX7
  have hlm := Lib.hid ((hI2.out.mono (bs' := (q8, #[.slice A2 (F10.op2 6 L O).length c2], 55) :: (q8 + 1, #[.slice none 0 0], 55) :: (vs ++ (bs ++ (ob1 ++ ob2)))) (fun p hp => by simp [hp]) (fun p hp => hp)).lr hX7.out.st)
  have hlo2 := Lib.hid ((hI4.out.mono (bs' := (q8, #[.slice A2 (F10.op2 6 L O).length c2], 55) :: (q8 + 1, #[.slice none 0 0], 55) :: (vs ++ (bs ++ (ob1 ++ ob2)))) (fun p hp => by simp [hp]) (fun p hp => hp)).lr hX7.out.st)
  go_upto_region 7 with fail
  rw [← hw6]
  clear hw6 r8 f8
  have S9 := Lib.hid (show St w6 (w6.alloc (.cells #[.int .u64 0] 86)) [(w6.heap.size, (uC.all [0]).toArray, 86)] [] from (St.new w6).alloc #[.int .u64 0] 86 (noLof rfl))
  have hl0 := Lib.hid (St_glr (C := uC) (L := [0]) S9.out 1 rfl (fun _ _ => trivial))
  have hwa : w6.heap.size + 1 = (w6.alloc (.cells #[.int .u64 0] 86)).heap.size := by simp
  obtain ⟨wa, hwa2⟩ : ∃ W, W = w6.alloc (.cells #[.int .u64 0] 86) := ⟨_, rfl⟩
  rw [← hwa2] at S9 hl0 hwa
  have Sb := Lib.hid ((St.new wa).allocAt (w6.heap.size + 1) #[(⟨B, d, M⟩ : Sl Nat).v, (⟨some ⟨w6.heap.size, 0, none⟩, 1, [0]⟩ : Sl Nat).v] 55 (noLof rfl) hwa.symm)
  have hb6 := S9.out.bel.trans (Sb.out.bel.mono S9.out.bel.size)
  have hC2 := Lib.hid (together_any [⟨B, d, M⟩, ⟨some ⟨w6.heap.size, 0, none⟩, 1, [0]⟩] (some ⟨w6.heap.size + 1, 0, none⟩) 2 2 _ (lr_two Sb.out (hlm.out.bel hb6) hd.out (hl0.out.bel Sb.out.bel) (Nat.le_refl _)) (by omega) (by simp; omega))
  have hR : Hid (F10.pls [] (([⟨B, d, M⟩, ⟨some ⟨w6.heap.size, 0, none⟩, 1, [0]⟩] : List (Sl Nat)).map (fun l => l.L)).flatten = F10.pls M [0]) := Lib.hid (by
    simp only [List.map_cons, List.map_nil, List.flatten_cons, List.flatten_nil, List.append_nil]
    exact F10.together_two [0] hM.out.2.2)
  rw [hR.out] at hC2
  obtain ⟨wb, hwb2⟩ : ∃ W, W = wa.alloc (.cells #[(⟨B, d, M⟩ : Sl Nat).v, (⟨some ⟨w6.heap.size, 0, none⟩, 1, [0]⟩ : Sl Nat).v] 55) := ⟨_, rfl⟩
  rw [← hwb2] at hC2 hb6
  have hadS : ∀ {W : World} {ob : List GBk}, St wb W ob [] → St w6 W ob [] := fun h => St.rebase hb6 h
  have hwe := Lib.hid (show wb = (w6.alloc (.cells #[.int .u64 0] 86)).alloc (.cells #[.slice B M.length d, .slice (some ⟨w6.heap.size, 0, none⟩) 1 1] 55) by rw [hwb2, hwa2]; rfl)
  clear S9 hl0 Sb hwa hwa2 hwb2 hb6 hR
  go_wp2_with fail
  rw [← hwe.out]
  refine hC2.out.mono ?_
  rintro e w7 ⟨v, rfl, G⟩
  clear hC2
  obtain ⟨B2, d2, ob3, rfl, hd2, S3, hI6⟩ := G.own (fun _ _ _ _ => trivial)
  have hX8 := Lib.hid (show XS w0 w7 xb ns1 fs1 ex1 ((q8 + 1, #[.slice none 0 0], 55) :: (q8, #[.slice A2 (F10.op2 6 L O).length c2], 55) :: (vs ++ (bs ++ ((ob1 ++ ob2) ++ ob3)))) from (by
    have := hX7.out.adopt (hadS S3)
    rw [List.cons_append, List.cons_append, List.append_assoc, List.append_assoc] at this
    exact this.prm (List.Perm.swap _ _ _)))
  have r8 : w7.cell? ⟨q8, 0, none⟩ = some (.slice A2 (F10.op2 6 L O).length c2) := hX8.out.st.cl 1 0 rfl rfl
  have f8 := hX8.out.st.f 1 0 rfl
  have r9 : w7.cell? ⟨q8 + 1, 0, none⟩ = some (.slice none 0 0) := hX8.out.st.cl 0 0 rfl rfl
  have f9 := hX8.out.st.f 0 0 rfl
  have hX9 := Lib.hid (show XS w0 (w7.setCell ⟨q8 + 1, 0, none⟩ (.slice B2 (F10.pls M [0]).length d2)) xb ns1 fs1 ex1 ((q8 + 1, #[.slice B2 (F10.pls M [0]).length d2], 55) :: (q8, #[.slice A2 (F10.op2 6 L O).length c2], 55) :: (vs ++ (bs ++ ((ob1 ++ ob2) ++ ob3)))) from hX8.out.put 0 (.slice B2 (F10.pls M [0]).length d2) (by nofun))
  have hI7 := Lib.hid (hI5.out.mono (bs' := bs ++ ((ob1 ++ ob2) ++ ob3)) (fun p hp => by
    rcases List.mem_append.1 hp with hp | hp
    · exact List.mem_append_left _ hp
    · exact List.mem_append_right _ (List.mem_append_left _ hp)) (fun p hp => hp))
  have hI8 := Lib.hid (hI6 w0 (bs ++ ((ob1 ++ ob2) ++ ob3)) (fun p hp => List.mem_append_right _ (List.mem_append_right _ hp)))
  replace hd2 := Lib.hid hd2
  have ho1 := Lib.hid (op2_len 6 l1 l3)
  have hu1 : Hid (U64 (F10.op2 6 L O)) := Lib.hid (u64_op2 hL.out.2.1 hq.out.2.1)
  have ho2 := Lib.hid (show (F10.pls M [0]).length ≤ 50000 from Nat.le_trans (pls_len _ _) (by simp; omega))
  have hu2 : Hid (U64 (F10.pls M [0])) := Lib.hid (u64_pls hM.out.2.1 (fun t ht => by rw [List.mem_singleton.1 ht]; omega))
  clear l1 l2 l3 hX8 hX7 hI6 G S3 hlm hlo2 hadS
  go_upto_region 11 with fail
  have hX10 := Lib.hid ((hX9.out.put 0 (.slice B2 (F10.pls M [0]).length d2) (by nofun)))
  obtain ⟨w8, hw8⟩ : ∃ W, W = w7.setCell ⟨q8 + 1, 0, none⟩ (.slice B2 (F10.pls M [0]).length d2) := ⟨_, rfl⟩
  rw [← hw8] at hX9
  rw [← hw8]
  clear hw8 r8 f8 r9 f9 hX10
  have r8 : w8.cell? ⟨q8, 0, none⟩ = some (.slice A2 (F10.op2 6 L O).length c2) := hX9.out.st.cl 1 0 rfl rfl
  have f8 := hX9.out.st.f 1 0 rfl
  have r9 : w8.cell? ⟨q8 + 1, 0, none⟩ = some (.slice B2 (F10.pls M [0]).length d2) := hX9.out.st.cl 0 0 rfl rfl
  have f9 := hX9.out.st.f 0 0 rfl
  have hXa := hX9.out.prm (List.Perm.swap _ _ _)
  have hXb := hXa.put 0 (.slice A2 (F10.op2 6 L O).length c2) (by nofun)
  have hXc := hXb.prm (List.Perm.swap _ _ _)
  have hXd := Lib.hid (hXc.put 0 (.slice B2 (F10.pls M [0]).length d2) (by nofun))
  clear hXa hXb hXc hX9
  go_wp2
  exact step_door _ hXd.out hI7.out hI8.out hc2.out hd2.out ho1.out ho2.out hu1.out hu2.out rfl rfl
end Go.Proofs.YthbkdjbmkhmlnaaDoor
