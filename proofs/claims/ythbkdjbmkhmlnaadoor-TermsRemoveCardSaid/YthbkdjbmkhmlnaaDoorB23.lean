/- The model of a list of terms. -/
import Derived.Test.YthbkdjbmkhmlnaaDoorB22
namespace Go.Proofs.YthbkdjbmkhmlnaaDoor
open Go.RowKit
set_option linter.unusedVariables false

/-- Terms in order of size. -/
abbrev srtd (L : List Nat) : List Nat := SS.out F10.siz 65 L
theorem siz_le (t : Nat) : F10.siz t ≤ 64 := by rw [F10.siz_pcn]; exact pcn_le 64 t
theorem srtd_of {Z L : List Nat} (hs : SS.Srt F10.siz Z) (hf : SS.Fil F10.siz Z L) : Z = srtd L := SS.sorted_out (fun x _ => by have := siz_le x; omega) hs hf
theorem srtd_fil (L : List Nat) : SS.Fil F10.siz (srtd L) L := SS.out_fil (fun x _ => by have := siz_le x; omega)
set_option maxRecDepth 100000 in
set_option maxHeartbeats 4000000 in
theorem sort_gro (w1 w : World) (v : Value) (L : List Nat) (G : Gro uC w1 w [] [] 86 v L) (hu : U64 L) (hn : L.length ≤ 39) (hM : 20 < L.length → ∀ g cp, MergeOk w1 g cp [] L.length) : Calls Tryd.prog 56 #[v, cmpV] w fun e w' => e = .returned (.tuple #[]) ∧ Gro uC w1 w' [] [] 86 v (srtd L) := by
  obtain ⟨A, c, rfl, hl, hc⟩ := G.lrc
  have hS : Hid (Calls Tryd.prog 92 #[.slice A L.length c, .int .i64 (L.length : Int), cmpV] w fun e w' => e = .returned (.tuple #[]) ∧ Gro uC w1 w' [] [] 86 (.slice A L.length c) (srtd L)) := Lib.hid (by
    rcases Nat.eq_zero_or_pos L.length with h0 | h0
    · have hL : L = [] := List.length_eq_zero_iff.1 h0
      subst hL
      refine (stable_nil _ w).mono ?_
      rintro e w' ⟨rfl, rfl⟩
      exact ⟨rfl, G⟩
    · obtain ⟨g, rfl⟩ : ∃ g, A = some ⟨g, 0, none⟩ := by
        obtain ⟨⟨_, _, ⟨hv, h0', _⟩ | ⟨g, cap, cur, hv, _⟩⟩, _⟩ := G
        · have : L.length = 0 := h0'
          omega
        · injection hv with ha _ _; exact ⟨g, ha⟩
      have B := Bl.of G rfl
      have fin : ∀ w', Sorted w1 w' g c [] L → Gro uC w1 w' [] [] 86 (.slice (some ⟨g, 0, none⟩) L.length c) (srtd L) := by
        rintro w' ⟨Z, hB, hs, hf⟩
        rw [← srtd_of hs hf, ← hf.len]
        exact hB.gro
      by_cases h20 : L.length < 20
      · refine (stable_lt w1 w g c L.length [] L B rfl h20 hu).mono ?_
        rintro e w' ⟨rfl, hS⟩
        exact ⟨rfl, fin w' hS⟩
      · refine (stable_ge w1 w g c L.length [] L B rfl (by omega) hn hu (fun h => hM h g c)).mono ?_
        rintro e w' ⟨rfl, hS⟩
        exact ⟨rfl, fin w' hS⟩)
  clear G hl hc hu hn hM
  generalize srtd L = Z at *
  generalize L.length = n at *
  go_enter Tryd.func56, Tryd.ntmps56
  go_wp2_with fail
  refine hS.out.mono ?_
  rintro e w2 ⟨rfl, G2⟩
  replace G2 := Lib.hid G2
  clear hS
  go_wp2
  go_end0
  exact ⟨rfl, G2.out⟩
theorem res_mod (W : World) (tmps : Array Value) (g t : Nat) {v0 v1 v2 : Value} (ht : tmps.getD 6 undef = .pointer (some ⟨g, 0, none⟩)) (h : Cb W g #[v0, v1, v2] t) :
    (results Tryd.f26 tmps).run Tryd.prog W = .ok (.agg #[v0, v1, v2]) W := by
  have c0 : W.cell? ⟨g, 0, none⟩ = some v0 := h.cell rfl
  have c1 : W.cell? ⟨g, 1, none⟩ = some v1 := h.cell rfl
  have c2 : W.cell? ⟨g, 2, none⟩ = some v2 := h.cell rfl
  have ht' : tmps[6]?.getD undef = .pointer (some ⟨g, 0, none⟩) := by rw [← ht]; simp [Array.getD_eq_getD_getElem?]
  simp [results, Tryd.results26, go_sem, ht', c0, c1, c2]
/-- A model that has come back. -/
def ModV (w w' : World) (e : Ending) (s : ByteArray) (b : Bool) (T : List (List Fa)) : Prop :=
  ∃ A c Ts ob, e = .returned (.agg #[.string s, .bool b, .slice A Ts.length c]) ∧ Ts.length ≤ c ∧ St w w' ob [] ∧ (∀ (w0 : World) (bs : List GBk), (∀ p ∈ ob, p ∈ bs) → LI (slC faC) w0 bs [] A Ts.length Ts) ∧ Ts.map (fun l => l.L) = T
theorem gro_own2 {α : Type} {C : Cod α} {w W : World} {bs : List GBk} {e : Nat} {v : Value} {L : List α} (G : Gro C w W bs [] e v L) (hin : ∀ (w0 : World) bs', (∀ p ∈ bs, p ∈ bs') → ∀ x ∈ L, C.In w0 bs' [] x) : ∃ A c ob, v = .slice A L.length c ∧ L.length ≤ c ∧ St w W ob [] ∧ ∀ (w0 : World) (bs' : List GBk), (∀ p ∈ ob, p ∈ bs') → LI C w0 bs' [] A L.length L := by
  obtain ⟨⟨h1, h2, ⟨rfl, h3, S⟩ | ⟨g, cap, cur, rfl, h3, h4, h5, h6, S⟩⟩, _⟩ := G
  · have : L = [] := List.length_eq_zero_iff.1 h3
    subst this
    exact ⟨none, 0, bs, rfl, Nat.le_refl _, S, fun _ _ _ => LI.nil_ _ _ _ _ _⟩
  · refine ⟨_, _, _, rfl, h3, S, fun w0 bs' hb => ⟨rfl, .inr (.inr ⟨g, cur, e, rfl, hb _ List.mem_cons_self, fun j u hu => ?_⟩), hin w0 bs' (fun p hp => hb p (List.mem_cons_of_mem _ hp))⟩⟩
    rw [← h6, List.getElem?_take] at hu
    split at hu
    · simpa using hu
    · cases hu

set_option maxRecDepth 100000 in
set_option maxHeartbeats 4000000 in
theorem model_any (w : World) (xb m d : Nat) (F : Option Addr) (fs : List Fa) (s : ByteArray) (A : Option Addr) (n c : Nat) (L : List Nat) (hx : w.cell? ⟨xb, 1, none⟩ = some (.slice F m d)) (hxl : xb < w.heap.size) (hF : LR faC w F m fs) (hm : m ≤ 64) (hs : ∀ f ∈ fs, f.s.size ≤ 281474976710656) (hl : LR uC w A n L) (hc : n ≤ c) (hn : n ≤ 32) (hu : U64 L) (hr : s.size ≤ 281474976710656)
    (hM : ∀ w1 g cp, 20 < (F10.mns L [0]).length → MergeOk w1 g cp [] (F10.mns L [0]).length) :
    Calls Tryd.prog 26 #[.pointer (some ⟨xb, 0, none⟩), .string s, .slice A n c] w fun e w' => ModV w w' e s (L.contains 0) ((srtd (F10.mns L [0])).map fun t => pk fs t m) := by
  have hlen := Lib.hid hl.len
  have S1 := Lib.hid ((St.new w).alloc #[.string ⟨#[]⟩, .bool false, .slice none 0 0] 29 (noLof rfl))
  obtain ⟨w1, hw1⟩ : ∃ W, W = w.alloc (.cells #[.string ⟨#[]⟩, .bool false, .slice none 0 0] 29) := ⟨_, rfl⟩
  obtain ⟨rb, hrb⟩ : ∃ b, b = w.heap.size := ⟨_, rfl⟩
  rw [← hw1, ← hrb] at S1
  have hCl := Lib.hid (fun W => cloneS_any s W hr)
  have hol : Hid ((F10.mns L [0]).length ≤ 32) := Lib.hid (Nat.le_trans (List.length_filter_le _ _) (by rw [hl.len]; exact hn))
  have hou : Hid (U64 (F10.mns L [0])) := Lib.hid (fun t ht => hu t (F10.mns_mem.1 ht).1)
  have hrl : Hid (∀ W, Below w.heap.size w W → ∀ t : Nat, t < 18446744073709551616 → Calls Tryd.prog 59 #[.pointer (some ⟨xb, 0, none⟩), .int .u64 (t : Int)] W fun e w' => ∃ v, e = .returned v ∧ Gro faC W w' [] [] 37 v (pk fs t m)) := Lib.hid fun W hW t ht => factorsOf_any fs F m d xb t W (hF.bel hW) hm ((World.cell?_of_block (hW.block _ hxl)).trans hx) (Nat.lt_of_lt_of_le hxl hW.size) ht hs
  have hCo := Lib.hid (fun W (hW : Below w.heap.size w W) => containsT_any L A n c 0 W (hl.bel hW) (by omega))
  have hWo := Lib.hid (fun W (hW : Below w.heap.size w W) B => fun (hB : LR uC W B 1 [0]) => without_any L [0] A n c B 1 1 W (hl.bel hW) hc hB (by omega) (by omega))
  replace hM := Lib.hid hM
  have hll := Lib.hid hn
  clear hx hxl hF hm hs hl hc hn hu hr
  generalize hO : F10.mns L [0] = O at *
  replace hO := Lib.hid hO
  go_enter Tryd.func26, Tryd.ntmps26
  go_wp2_with fail
  rw [← hw1, ← hrb]
  clear hw1 hrb
  refine (hCl.out w1).mono ?_
  rintro e w2 ⟨rfl, hb2⟩
  have S2 := Lib.hid (S1.out.call hb2)
  have hC2 := Lib.hid (hCo.out w2 S2.out.bel)
  clear hb2 hCl hCo S1
  go_wp2_with fail
  refine hC2.out.mono ?_
  rintro e w2 ⟨rfl, rfl⟩
  clear hC2
  obtain ⟨bz, hbz⟩ : ∃ b, b = L.contains 0 := ⟨_, rfl⟩
  rw [← hbz]
  replace hbz := Lib.hid hbz
  have S3 := Lib.hid (S2.out.alloc #[.string s, .bool bz, .slice none 0 0] 29 (noLof rfl))
  obtain ⟨mb, hmb⟩ : ∃ b, b = w2.heap.size := ⟨_, rfl⟩
  obtain ⟨w3, hw3⟩ : ∃ W, W = w2.alloc (.cells #[.string s, .bool bz, .slice none 0 0] 29) := ⟨_, rfl⟩
  rw [← hmb, ← hw3] at S3
  clear S2
  go_upto_region 2 with fail
  rw [← hmb, ← hw3]
  clear hmb hw3
  -- the others
  have S4 := Lib.hid (S3.out.alloc #[.int .u64 0] 86 (noLof rfl))
  have S40 := Lib.hid (show St w3 (w3.alloc (.cells #[.int .u64 0] 86)) [(w3.heap.size, (uC.all [0]).toArray, 86)] [] from (St.new w3).alloc #[.int .u64 0] 86 (noLof rfl))
  have hW2 := Lib.hid (hWo.out _ S4.out.bel (some ⟨w3.heap.size, 0, none⟩) (St_glr S40.out 1 rfl (fun _ _ => trivial)))
  obtain ⟨zb, hzb⟩ : ∃ b, b = w3.heap.size := ⟨_, rfl⟩
  obtain ⟨w4, hw4⟩ : ∃ W, W = w3.alloc (.cells #[.int .u64 0] 86) := ⟨_, rfl⟩
  rw [← hzb, ← hw4] at S4
  rw [← hw4] at hW2
  clear S3 S40 hWo
  go_wp2_with fail
  rw [← hw4]
  clear hw4
  refine hW2.out.mono ?_
  rintro e w5 ⟨v, rfl, G⟩
  have hSo := Lib.hid (sort_gro w4 w5 v O G hou.out (by have := hol.out; omega) (fun h g cp => hM.out w4 g cp h))
  clear hW2 G hM
  go_wp2_with fail
  refine hSo.out.mono ?_
  rintro e w6 ⟨rfl, G⟩
  obtain ⟨A2, c2, ob, rfl, hc2, S6, hI6⟩ := G.own (fun _ _ _ _ => trivial)
  have S7 := Lib.hid ((show St w w6 ((mb, #[.string s, .bool bz, .slice none 0 0], 29) :: (rb, #[.string ⟨#[]⟩, .bool false, .slice none 0 0], 29) :: ob) [] from (S4.out.join S6).sub))
  have hZl : Hid ((srtd O).length ≤ 32) := Lib.hid (by rw [(srtd_fil O).len]; exact hol.out)
  have hZu : Hid (U64 (srtd O)) := Lib.hid (u64_fil (srtd_fil O) hou.out)
  replace hI6 := Lib.hid (hI6 w ob (fun p hp => hp))
  clear hSo G S6 S4 hc2 hzb
  generalize hZq : srtd O = Z at *
  replace hZq := Lib.hid hZq
  obtain ⟨zn, hzn⟩ : ∃ k, k = Z.length := ⟨_, rfl⟩
  rw [← hzn] at hI6 hZl
  rw [← hzn]
  replace hzn := Lib.hid hzn
  have G0 := Lib.hid (Gro.nil_ (slC faC) S7.out 34)
  clear S7
  go_wp2
  go_loopw [23] (fun iv wr => ∃ (i : Nat) (Ts : List (Sl Fa)) (tv : Value) (eb : List GBk), i ≤ zn ∧ iv = .int .i64 i ∧ Gro (slC faC) w wr ((mb, #[.string s, .bool bz, tv], 29) :: (rb, #[.string ⟨#[]⟩, .bool false, .slice none 0 0], 29) :: (ob ++ eb)) [] 34 tv Ts ∧ (∀ x ∈ Ts, ∀ (w0 : World) (bs' : List GBk), (∀ p ∈ eb, p ∈ bs') → (slC faC).In w0 bs' [] x) ∧ Ts.map (fun l => l.L) = (Z.take i).map fun t => pk fs t m) (fun iv _ => zn - (intOf iv).toNat)
  case atStart => exact ⟨0, [], _, [], Nat.zero_le _, rfl, by rw [List.append_nil]; exact G0.out, fun x hx => (by cases hx), rfl⟩
  case round =>
    clear G0
    obtain ⟨i, Ts, tv, eb, hin, rfl, G, hIn, hmap⟩ := hrel
    obtain ⟨TA, tc, rfl, hTl, htc⟩ := G.lrc
    have hTs : Ts.length = i := by
      have := congrArg List.length hmap
      rw [List.length_map, List.length_map, List.length_take, ← hzn.out] at this
      omega
    by_cases hlt : i < zn
    · have hIl := (hI6.out.mono (bs' := (mb, #[.string s, .bool bz, .slice TA Ts.length tc], 29) :: (rb, #[.string ⟨#[]⟩, .bool false, .slice none 0 0], 29) :: (ob ++ eb)) (fun p hp => by simp [hp]) (fun p hp => hp)).lr G.st
      obtain ⟨b, o, t, rfl, ht, htm, e0⟩ := u_get hIl hlt
      have hih := Lib.hid hlt
      have g1 : (i : Int) < (zn : Int) := by omega
      have g2 : (0 : Int) ≤ (i : Int) := by omega
      have hnx : Hid ((Z.take (i + 1)).map (fun t => pk fs t m) = (Z.take i).map (fun t => pk fs t m) ++ [pk fs t m]) := Lib.hid (by rw [take_snoc_of ht, List.map_append]; rfl)
      have hTT := Lib.hid hTs
      have hTk : Hid (Ts.length ≤ 32) := Lib.hid (by have := hZl.out; omega)
      have htu := Lib.hid (hZu.out t htm)
      replace hmap := Lib.hid hmap
      replace hIn := Lib.hid hIn
      replace G := Lib.hid G
      clear hIl hlt hin ht htm hTl htc hTs
      go_upto_region 7 with fail
      clear e0
      refine Wl.start (fun V => Below w.heap.size w V ∧ V.cell? ⟨mb, 2, none⟩ = some (.slice TA Ts.length tc)) [8] (by kernel_rfl) ?_
      have GD := Lib.hid G.out.drew
      have hS : Below w.heap.size w wr.drew ∧ wr.drew.cell? ⟨mb, 2, none⟩ = some (.slice TA Ts.length tc) := ⟨GD.out.st.bel, GD.out.st.cl 0 2 rfl rfl⟩
      generalize wr.drew = w7 at *
      clear G
      refine Wl.t (i := 0) (v := .pointer (some ⟨mb, 2, none⟩)) (some 27) at0 (hy := fun _ _ => by go_simp) (hS := hS) (h := ?_)
      refine Wl.t (i := 1) (v := .slice TA Ts.length tc) (some 28) at1 (hy := fun V h => by (have k0 := h.2; clear h; go_simp)) (hS := hS) (h := ?_)
      refine Wl.t (i := 2) (v := .pointer (some ⟨xb, 0, none⟩)) (some 29) at2 (hy := fun _ _ => by go_simp) (hS := hS) (h := ?_)
      refine Wl.t (i := 3) (v := .int .u64 (t : Int)) (some 30) at3 (hy := fun _ _ => by go_simp) (hS := hS) (h := ?_)
      try simp only [Act.put, List.setIfInBounds_toArray, List.set_cons_zero, List.set_cons_succ]
      refine Wl.g (i := 4) at4 (by kernel_rfl) (by kernel_rfl) fun K' hK => ?_
      refine oper_call (f := 59) (args := #[.pointer (some ⟨xb, 0, none⟩), .int .u64 (t : Int)]) rfl (by kernel_rfl) ((hrl.out w7 hS.1 t htu.out).mono ?_)
      rintro e w8 ⟨v, rfl, Gf⟩
      obtain ⟨A5, c5, ob5, rfl, hc5, S5, hI5⟩ := Gf.own (fun _ _ _ _ => fa_in _)
      have GE := GD.out.join S5
      refine ⟨_, rfl, hK.out _ _ ⟨GE.st.bel, GE.st.cl 0 2 rfl rfl⟩ ?_⟩
      clear hK K' hS Gf GD
      try simp only [Act.put, List.setIfInBounds_toArray, List.set_cons_zero, List.set_cons_succ]
      replace GE := Lib.hid (show Gro (slC faC) w w8 ((mb, #[.string s, .bool bz, .slice TA Ts.length tc], 29) :: (rb, #[.string ⟨#[]⟩, .bool false, .slice none 0 0], 29) :: (ob ++ (eb ++ ob5))) [] 34 (.slice TA Ts.length tc) Ts from (by
        have := GE
        rw [List.cons_append, List.cons_append, List.append_assoc] at this
        exact this))
      have hIn2 : Hid (∀ x ∈ Ts ++ [(⟨A5, c5, pk fs t m⟩ : Sl Fa)], ∀ (w0 : World) (bs' : List GBk), (∀ p ∈ eb ++ ob5, p ∈ bs') → (slC faC).In w0 bs' [] x) := Lib.hid (fun x hx w0 bs' hb => by
        rcases List.mem_append.1 hx with hx | hx
        · exact hIn.out x hx w0 bs' (fun p hp => hb p (List.mem_append_left _ hp))
        · rw [List.mem_singleton.1 hx]; exact ⟨hI5 w0 bs' (fun p hp => hb p (List.mem_append_right _ hp)), hc5⟩)
      clear S5 hI5 hIn
      refine Wl.g (i := 5) at5 (by kernel_rfl) (by kernel_rfl) fun K' hK => ?_
      go_simp
      have GA := Lib.hid (GE.out.alloc #[(⟨A5, c5, pk fs t m⟩ : Sl Fa).v] 34 (noLof rfl))
      refine hK.out _ _ ⟨GA.out.st.bel, GA.out.st.cl 1 2 rfl rfl⟩ ?_
      clear hK K' GE
      try simp only [Act.put, List.setIfInBounds_toArray, List.set_cons_zero, List.set_cons_succ]
      refine Wl.g (i := 6) at6 (by kernel_rfl) (by kernel_rfl) fun K' hK => ?_
      refine Gro.op (C := slC faC) (.tmp 28) (.tmp 32) 27 rfl (.slice none 0 0) 24 Tryd.underlying27 (by kernel_rfl) rfl (fun v hv z e => by simp [Value.cells] at hv; subst e; simp at hv) rfl GA.out _ (⟨A5, c5, pk fs t m⟩ : Sl Fa) rfl (GA.out.st.cb 0 rfl) (hIn2.out _ (by simp) w _ (fun p hp => by
        rcases List.mem_append.1 hp with hp | hp <;> simp [hp])) (by have := hTk.out; omega) (by have := hTk.out; unfold maxLen; omega) ?_
      intro av1 w9 G9 hmk
      refine hK.out _ _ ⟨G9.st.bel, G9.st.cl 1 2 rfl rfl⟩ ?_
      have G10 := Lib.hid (G9.sub (fun x hx => hIn2.out x hx w _ (fun p hp => by
        rcases List.mem_append.1 hp with hp | hp <;> simp [hp])))
      clear hK K' GA hmk G9
      try simp only [Act.put, List.setIfInBounds_toArray, List.set_cons_zero, List.set_cons_succ]
      obtain ⟨A9, q9, rfl, _⟩ := G10.out.lr
      have c2b : w9.cell? ⟨mb, 2, none⟩ = some (.slice TA Ts.length tc) := G10.out.st.cl 0 2 rfl rfl
      have f2b := G10.out.st.f 0 2 rfl
      rw [show (Ts ++ [(⟨A5, c5, pk fs t m⟩ : Sl Fa)]).length = Ts.length + 1 by simp] at G10
      have G11 := Lib.hid (show Gro (slC faC) w (w9.setCell ⟨mb, 2, none⟩ (.slice A9 (Ts.length + 1) q9)) ((mb, #[.string s, .bool bz, .slice A9 (Ts.length + 1) q9], 29) :: (rb, #[.string ⟨#[]⟩, .bool false, .slice none 0 0], 29) :: (ob ++ (eb ++ ob5))) [] 34 (.slice A9 (Ts.length + 1) q9) (Ts ++ [(⟨A5, c5, pk fs t m⟩ : Sl Fa)]) from G10.out.put 0 rfl 2 (.slice A9 (Ts.length + 1) q9) (by nofun) (fun x hx => hIn2.out x hx w _ (fun p hp => by
        rcases List.mem_append.1 hp with hp | hp <;> simp [hp])))
      refine Wl.g (i := 7) at7 (by kernel_rfl) (by kernel_rfl) fun K' hK => ?_
      go_simp
      refine hK.out _ _ ⟨G10.out.st.bel, c2b⟩ ?_
      clear hK K'
      try simp only [Act.put, List.setIfInBounds_toArray, List.set_cons_zero, List.set_cons_succ]
      refine Wl.s (i := 8) at8 (by kernel_rfl) (by kernel_rfl) (by kernel_rfl) fun K' hK => ?_
      go_simp
      refine hK.out _ _ ?_
      clear hK K' c2b f2b G10
      try simp only [Act.put, List.setIfInBounds_toArray, List.set_cons_zero, List.set_cons_succ]
      refine Wl.done (by kernel_rfl) ?_
      try go_simp
      have hlt := hih.out
      have hbb := hZl.out
      go_wp2
      go_roundw
      case rel => exact ⟨i + 1, Ts ++ [⟨A5, c5, pk fs t m⟩], _, eb ++ ob5, by omega, by go_num, G11.out, hIn2.out, by rw [hnx.out, List.map_append, hmap.out]; rfl⟩
      case measure => simp [intOf]; omega
    · obtain rfl : i = zn := by omega
      have hfin := Lib.hid (show Ts.map (fun l => l.L) = Z.map fun t => pk fs t m by rw [hmap, List.take_of_length_le (by rw [← hzn.out]; exact Nat.le_refl _)])
      have m0 : wr.cell? ⟨mb, 0, none⟩ = some (.string s) := G.st.cl 0 0 rfl rfl
      have m1 : wr.cell? ⟨mb, 1, none⟩ = some (.bool bz) := G.st.cl 0 1 rfl rfl
      have m2 : wr.cell? ⟨mb, 2, none⟩ = some (.slice TA Ts.length tc) := G.st.cl 0 2 rfl rfl
      have r0 : wr.cell? ⟨rb, 0, none⟩ = some (.string ⟨#[]⟩) := G.st.cl 1 0 rfl rfl
      have r1 : wr.cell? ⟨rb, 1, none⟩ = some (.bool false) := G.st.cl 1 1 rfl rfl
      have r2 : wr.cell? ⟨rb, 2, none⟩ = some (.slice none 0 0) := G.st.cl 1 2 rfl rfl
      have f0 := G.st.f 1 0 rfl
      have f1 := G.st.f 1 1 rfl
      have f2 := G.st.f 1 2 rfl
      have hm : ∀ (a b : GBk) (x : Sl Fa), x ∈ Ts → (slC faC).In w (a :: b :: (ob ++ eb)) [] x := fun a b x hx => hIn x hx w _ (fun p hp => by simp [hp])
      have GF := Lib.hid (((G.put 1 rfl 0 (.string s) (by nofun) (fun x hx => hm _ _ x hx)).put 1 rfl 1 (.bool bz) (by nofun) (fun x hx => hm _ _ x hx)).put 1 rfl 2 (.slice TA Ts.length tc) (by nofun) (fun x hx => hm _ _ x hx))
      have hTT := Lib.hid htc
      have hO2 := Lib.hid (gro_own2 GF.out (fun w0 bs' hb x hx => hIn x hx w0 bs' (fun p hp => hb p (by simp [hp]))))
      clear hm G hIn hmap hTl htc hTs hlt hin
      go_wp2
      obtain ⟨A7, c7, ob7, hv7, q1, q2, q3⟩ := hO2.out
      injection hv7 with a1 _ a3
      subst a1 a3
      refine bodyPost_ret (res_mod _ _ rb 29 rfl (GF.out.st.cb 1 rfl)) rfl ⟨TA, tc, Ts, ob7, by rw [hbz.out], hTT.out, q2, q3, by rw [hZq.out]; exact hfin.out⟩
end Go.Proofs.YthbkdjbmkhmlnaaDoor
namespace Go.Proofs.YthbkdjbmkhmlnaaDoor
open Go.RowKit
set_option linter.unusedVariables false

theorem siz_zero_iff {t : Nat} (h : t < 18446744073709551616) : F10.siz t = 0 ↔ t = 0 := by
  constructor
  · intro h0
    rcases Nat.eq_zero_or_pos t with h1 | h1
    · exact h1
    · have := F10.siz_pos (t := t) (by omega) (fun i hi => by
        rcases Nat.lt_or_ge i 64 with h2 | h2
        · exact h2
        · have h3 : (2 : Nat) ^ 64 ≤ 2 ^ i := Nat.pow_le_pow_right (by decide) h2
          have := Nat.testBit_lt_two_pow (i := i) (x := t) (by have : (2 : Nat) ^ 64 = 18446744073709551616 := rfl; omega)
          rw [this] at hi; cases hi)
      omega
  · rintro rfl; exact F10.siz_zero
theorem fm_app {α β : Type} (f : α → List β) (a b : List α) : (a ++ b).flatMap f = a.flatMap f ++ b.flatMap f := List.flatMap_append
/-- The program's order of terms is the model's. -/
theorem srtd_out {m : List Nat} (hu : U64 m) (hf : F10.fts m = true) : srtd (F10.mns m [0]) = ((List.range 6).map (· + 1)).flatMap fun n => m.filter fun t => F10.siz t == n := by
  have h6 : ∀ t ∈ m, F10.siz t ≤ 6 := fun t ht => by
    unfold F10.fts at hf
    rw [Bool.and_eq_true] at hf
    exact of_decide_eq_true (List.all_eq_true.1 hf.1 t ht)
  have e : (65 : Nat) = 1 + (6 + 58) := rfl
  have hmns : F10.mns m [0] = m.filter fun t => !(t == 0) := by
    unfold F10.mns
    exact List.filter_congr fun t _ => by by_cases h : t = 0 <;> simp [h]
  show SS.out F10.siz 65 (F10.mns m [0]) = _
  unfold SS.out
  rw [hmns, e, List.range_add, List.range_add, List.map_append, fm_app, fm_app]
  have h0 : ((List.range 1).flatMap fun v => (m.filter fun t => !(t == 0)).filter fun x => F10.siz x == v) = [] := by
    rw [List.flatMap_eq_nil_iff]
    intro v hv
    have : v = 0 := by have := List.mem_range.1 hv; omega
    subst this
    rw [List.filter_eq_nil_iff]
    intro t ht
    obtain ⟨h1, h2⟩ := List.mem_filter.1 ht
    intro h3
    have := (siz_zero_iff (hu t h1)).1 (eq_of_beq h3)
    rw [this] at h2; simp at h2
  have h9 : ((((List.range 58).map (6 + ·)).map (1 + ·)).flatMap fun v => (m.filter fun t => !(t == 0)).filter fun x => F10.siz x == v) = [] := by
    rw [List.flatMap_eq_nil_iff]
    intro v hv
    obtain ⟨j, hj, rfl⟩ := List.mem_map.1 hv
    obtain ⟨k, _, rfl⟩ := List.mem_map.1 hj
    rw [List.filter_eq_nil_iff]
    intro t ht h3
    have := h6 t (List.mem_filter.1 ht).1
    have := eq_of_beq h3
    omega
  rw [h0, h9, List.nil_append, List.append_nil]
  have hr : (List.range 6).map (1 + ·) = (List.range 6).map (· + 1) := by decide
  rw [hr]
  have hk : ∀ n ∈ (List.range 6).map (· + 1), ((m.filter fun t => !(t == 0)).filter fun x => F10.siz x == n) = m.filter fun t => F10.siz t == n := by
    intro n hn
    obtain ⟨k, _, rfl⟩ := List.mem_map.1 hn
    rw [List.filter_filter]
    refine List.filter_congr fun t ht => ?_
    by_cases h0 : t = 0
    · subst h0
      rw [F10.siz_zero]
      rw [show (0 == k + 1) = false by rw [beq_eq_false_iff_ne]; omega]; rfl
    · simp [h0]
  generalize (List.range 6).map (· + 1) = l at hk
  induction l with
  | nil => rfl
  | cons n l ih =>
    rw [List.flatMap_cons, List.flatMap_cons, hk n List.mem_cons_self, ih (fun n hn => hk n (List.mem_cons_of_mem _ hn))]
theorem terms_mdT {A : List F10.Fac} {m : List Nat} (hu : U64 m) (hf : F10.fts m = true) (hA : A.length ≤ 64) : (srtd (F10.mns m [0])).map (fun t => pk (A.map toFa) t A.length) = (F10.mdT A m).map fun l => l.map toFa := by
  rw [srtd_out hu hf]
  have : (fun t => pk (A.map toFa) t A.length) = fun t => (F10.fac A t).map toFa := by
    funext t; exact pk_fac A t hA
  rw [this]
  unfold F10.mdT
  rw [List.map_flatMap, List.map_flatMap]
  congr 1
  funext n
  rw [List.map_map]; rfl
theorem atoms_name : ∀ (t : F9.Tr), F10.shp t → ∀ {N : Nat}, (∀ x ∈ t.pre, x.nm.length ≤ N) → ∀ (fs : List F10.Fac), (∀ f ∈ fs, f.1.length ≤ N) → ∀ f ∈ F10.atoms t fs, f.1.length ≤ N
  | .leaf x, hs, N, h, fs, hf => by
    intro f hm
    have hx := h x (by simp [F9.Tr.pre])
    have hm : f ∈ F10.addN fs x := hm
    unfold F10.addN at hm
    split at hm
    · rename_i g hg
      unfold F10.addF at hm
      have hgl : g.1.length ≤ N := by
        unfold F10.facOf at hg
        split at hg
        · injection hg with hg; rw [← hg]; exact hx
        · split at hg
          · injection hg with hg; rw [← hg]; exact hx
          · cases hg
      split at hm
      · exact hf f hm
      · rcases List.mem_append.1 hm with hm | hm
        · exact hf f hm
        · rw [List.mem_singleton.1 hm]; exact hgl
    · exact hf f hm
  | .hat k a, hs, N, h, fs, hf => atoms_name a hs (fun x hx => h x (by simp [F9.Tr.pre, hx])) fs hf
  | .bin op a b, hs, N, h, fs, hf => atoms_name b hs.2.2.2 (fun x hx => h x (by simp [F9.Tr.pre, hx])) _ (atoms_name a hs.2.2.1 (fun x hx => h x (by simp [F9.Tr.pre, hx])) fs hf)
/-- What Expand leaves of a valid formula. -/
def ExpV (w w' : World) (e : Ending) (s : ByteArray) (tr : F9.Tr) : Prop :=
  match F10.rex tr with
  | none => e = .returned (.tuple #[.agg #[.string ⟨#[]⟩, .bool false, .slice none 0 0], .int .i64 2]) ∧ Below w.heap.size w w'
  | some m => ∃ A c Ts ob, e = .returned (.tuple #[.agg #[.string s, .bool (m.contains 0), .slice A Ts.length c], .int .i64 0]) ∧ Ts.length ≤ c ∧ St w w' ob [] ∧ (∀ (w0 : World) (bs : List GBk), (∀ p ∈ ob, p ∈ bs) → LI (slC faC) w0 bs [] A Ts.length Ts) ∧ Ts.map (fun l => l.L) = (F10.mdT (F10.atoms tr []) m).map fun l => l.map toFa
theorem res_xp (W : World) (tmps : Array Value) (g t : Nat) {v0 v1 v2 : Value} {z : Value} (h2 : tmps.getD 2 undef = .pointer (some ⟨g, 0, none⟩)) (h3 : tmps.getD 3 undef = z) (h : Cb W g #[v0, v1, v2] t) :
    (results Tryd.f11 tmps).run Tryd.prog W = .ok (.tuple #[.agg #[v0, v1, v2], z]) W := by
  have c0 : W.cell? ⟨g, 0, none⟩ = some v0 := h.cell rfl
  have c1 : W.cell? ⟨g, 1, none⟩ = some v1 := h.cell rfl
  have c2 : W.cell? ⟨g, 2, none⟩ = some v2 := h.cell rfl
  have ht2 : tmps[2]?.getD undef = .pointer (some ⟨g, 0, none⟩) := by rw [← h2]; simp [Array.getD_eq_getD_getElem?]
  have ht3 : tmps[3]?.getD undef = z := by rw [← h3]; simp [Array.getD_eq_getD_getElem?]
  simp [results, Tryd.results11, go_sem, ht2, ht3, c0, c1, c2]

set_option maxRecDepth 100000 in
set_option maxHeartbeats 4000000 in
theorem expand_no (s : ByteArray) (L : List Nd) (A : Option Addr) (n c : Nat) (w : World) (h : LR ndC w A n L) (hn : n ≤ 100000) (hO : Og w) (hf : frmB s L = false) : Calls Tryd.prog 11 #[.agg #[.string s, .slice A n c]] w fun e w' => e = .returned (.tuple #[.agg #[.string ⟨#[]⟩, .bool false, .slice none 0 0], .int .i64 4]) ∧ Below w.heap.size w w' := by
  have S1 := Lib.hid (((St.new w).allocAt w.heap.size #[.string s, .slice A n c] 24 (noLof rfl) rfl).allocAt (w.heap.size + 1) #[.string ⟨#[]⟩, .bool false, .slice none 0 0] 29 (noLof rfl) (by simp))
  obtain ⟨w1, hw1⟩ : ∃ W, W = (w.alloc (.cells #[.string s, .slice A n c] 24)).alloc (.cells #[.string ⟨#[]⟩, .bool false, .slice none 0 0] 29) := ⟨_, rfl⟩
  obtain ⟨fb, hfb⟩ : ∃ b, b = w.heap.size := ⟨_, rfl⟩
  rw [← hw1, ← hfb] at S1
  have hV := Lib.hid (valid_any s L A n c w1 (h.bel S1.out.bel) hn (hO.bel S1.out.bel))
  rw [hf] at hV
  clear h hn hO hf
  have k0 : w1.cell? ⟨fb, 0, none⟩ = some (.string s) := S1.out.cl 1 0 rfl rfl
  have k1 : w1.cell? ⟨fb, 1, none⟩ = some (.slice A n c) := S1.out.cl 1 1 rfl rfl
  go_enter Tryd.func11, Tryd.ntmps11
  go_upto_region 1 with fail
  rw [← hw1, ← hfb]
  clear hw1 hfb
  go_wp2_with fail
  clear k0 k1
  refine hV.out.mono ?_
  rintro e w2 ⟨rfl, hb⟩
  have S2 := Lib.hid (S1.out.call hb)
  clear hb hV S1
  have r0 : w2.cell? ⟨fb + 1, 0, none⟩ = some (.string ⟨#[]⟩) := S2.out.cl 0 0 rfl rfl
  have r1 : w2.cell? ⟨fb + 1, 1, none⟩ = some (.bool false) := S2.out.cl 0 1 rfl rfl
  have r2 : w2.cell? ⟨fb + 1, 2, none⟩ = some (.slice none 0 0) := S2.out.cl 0 2 rfl rfl
  have f0 := S2.out.f 0 0 rfl
  have f1 := S2.out.f 0 1 rfl
  have f2 := S2.out.f 0 2 rfl
  have S3 := Lib.hid (((S2.out.set 0 0 (.string ⟨#[]⟩) rfl (by nofun)).set 0 1 (.bool false) rfl (by nofun)).set 0 2 (.slice none 0 0) rfl (by nofun))
  clear S2
  go_wp2
  exact bodyPost_ret (res_xp _ _ (fb + 1) 29 rfl rfl (S3.out.cb 0 rfl)) rfl ⟨rfl, S3.out.bel⟩
set_option maxRecDepth 100000 in
set_option maxHeartbeats 4000000 in
theorem expand_yes (s : ByteArray) (tr : F9.Tr) (hw : tr.wf) (A : Option Addr) (n c : Nat) (w : World) (h : LR ndC w A n (tr.pre.map toNd)) (hc : n ≤ c) (hO : Og w) (hf : frmB s (tr.pre.map toNd) = true) (hs : s.size ≤ 100000) (hsz : ∀ x ∈ tr.pre.map toNd, x.s.size ≤ 100000)
    (hM : ∀ m, F10.rex tr = some m → 20 < (F10.mns m [0]).length → ∀ w1 g cp, MergeOk w1 g cp [] (F10.mns m [0]).length) :
    Calls Tryd.prog 11 #[.agg #[.string s, .slice A n c]] w fun e w' => ExpV w w' e s tr := by
  have hlen := h.len
  have h64 : n ≤ 64 := by rw [← hlen]; exact (frm_len hf).1
  obtain ⟨e1, e2⟩ := F10.expand_same tr (wf_shp hw)
  have hpl : tr.pre.length ≤ 64 := by rw [List.length_map] at hlen; omega
  have hpk := pr_ok tr (wf_shp hw) [] false (by simpa using hpl)
  have S1 := Lib.hid (((St.new w).allocAt w.heap.size #[.string s, .slice A n c] 24 (noLof rfl) rfl).allocAt (w.heap.size + 1) #[.string ⟨#[]⟩, .bool false, .slice none 0 0] 29 (noLof rfl) (by simp))
  obtain ⟨w1, hw1⟩ : ∃ W, W = (w.alloc (.cells #[.string s, .slice A n c] 24)).alloc (.cells #[.string ⟨#[]⟩, .bool false, .slice none 0 0] 29) := ⟨_, rfl⟩
  obtain ⟨fb, hfb⟩ : ∃ b, b = w.heap.size := ⟨_, rfl⟩
  rw [← hw1, ← hfb] at S1
  have hV := Lib.hid (valid_any s _ A n c w1 (h.bel S1.out.bel) (by omega) (hO.bel S1.out.bel))
  rw [hf] at hV
  -- names of factors
  have hnm : Hid (∀ f ∈ (F10.atoms tr []).map toFa, f.s.size ≤ 281474976710656) := Lib.hid (fun f hf => by
    obtain ⟨a, ha, rfl⟩ := List.mem_map.1 hf
    have := atoms_name tr (wf_shp hw) (N := 100000) (fun x hx => by
      have := hsz (toNd x) (List.mem_map_of_mem hx)
      have e : (toNd x).s.size = x.nm.length := by show (⟨x.nm.toArray⟩ : ByteArray).size = _; simp [ByteArray.size]
      omega) [] (fun f hf => by cases hf) a ha
    have e : (toFa a).s.size = a.1.length := by show (⟨a.1.toArray⟩ : ByteArray).size = _; simp [ByteArray.size]
    omega)
  have hRS := Lib.hid (fun W xb vs (hX : XS w W xb (tr.pre.map toNd ++ []) (([] : List F10.Fac).map toFa) false vs) => right_any tr hw w W xb [] [] false vs hX (by simp; omega) (by simpa using hpl))
  have hA0 := Lib.hid h
  have hcc := Lib.hid hc
  have hal : Hid ((F10.atoms tr []).length ≤ 64) := Lib.hid (by rw [← e1]; have := hpk.2.2; simp at this; omega)
  replace e1 := Lib.hid e1
  replace e2 := Lib.hid e2
  replace hpk := Lib.hid hpk
  replace hM := Lib.hid hM
  have hss := Lib.hid hs
  clear h hO hf hs hsz hc h64 hpl
  have k0 : w1.cell? ⟨fb, 0, none⟩ = some (.string s) := S1.out.cl 1 0 rfl rfl
  have k1 : w1.cell? ⟨fb, 1, none⟩ = some (.slice A n c) := S1.out.cl 1 1 rfl rfl
  go_enter Tryd.func11, Tryd.ntmps11
  go_upto_region 1 with fail
  rw [← hw1, ← hfb]
  clear hw1 hfb
  go_wp2_with fail
  clear k0 k1
  refine hV.out.mono ?_
  rintro e w2 ⟨rfl, hb⟩
  have S2 := Lib.hid (S1.out.call hb)
  clear hb hV S1
  have k1 : w2.cell? ⟨fb, 1, none⟩ = some (.slice A n c) := S2.out.cl 1 1 rfl rfl
  have S3 := Lib.hid (S2.out.alloc #[.slice A n c, .slice none 0 0, .bool false] 54 (noLof rfl))
  obtain ⟨xb, hxb⟩ : ∃ b, b = w2.heap.size := ⟨_, rfl⟩
  obtain ⟨w3, hw3⟩ : ∃ W, W = w2.alloc (.cells #[.slice A n c, .slice none 0 0, .bool false] 54) := ⟨_, rfl⟩
  rw [← hxb, ← hw3] at S3
  have hX3 := Lib.hid (show XS w w3 xb (tr.pre.map toNd ++ []) (([] : List F10.Fac).map toFa) false [(fb + 1, #[.string ⟨#[]⟩, .bool false, .slice none 0 0], 29), (fb, #[.string s, .slice A n c], 24)] from ⟨A, c, .slice none 0 0, by rw [List.append_nil, hlen]; exact hA0.out, by rw [List.append_nil, hlen]; exact hcc.out, by rw [List.append_nil, hlen]; exact Gro.nil_ faC S3.out _⟩)
  have hR := Lib.hid (hRS.out w3 xb _ hX3.out)
  clear S2 S3 hX3 hRS hA0
  go_upto_region 4 with fail
  rw [← hxb, ← hw3]
  clear hxb hw3 k1
  go_wp2_with fail
  refine hR.out.mono ?_
  rintro e w4 ⟨A1, c1, B, d, ob, rfl, q1, q2, hX, hI1, hI2⟩
  clear hR hI1 q1
  have hXs : XS w w4 xb [] ((F10.atoms tr []).map toFa) (F10.pr tr [] false).2.2.2 ((fb + 1, #[.string ⟨#[]⟩, .bool false, .slice none 0 0], 29) :: (fb, #[.string s, .slice A n c], 24) :: ob) := by rw [← e1.out]; exact hX
  cases hr : F10.rex tr with
  | none =>
    have e3 := e2.out
    rw [hr] at e3
    rw [show (F10.pr tr [] false).2.2.2 = true from e3] at hXs
    obtain ⟨_, _, _, _, _, _, _, _, _, _, x2, _, _, _⟩ := hXs.cells
    have S2 := Lib.hid hXs.st
    have r0 : w4.cell? ⟨fb + 1, 0, none⟩ = some (.string ⟨#[]⟩) := S2.out.cl 0 0 rfl rfl
    have r1 : w4.cell? ⟨fb + 1, 1, none⟩ = some (.bool false) := S2.out.cl 0 1 rfl rfl
    have r2 : w4.cell? ⟨fb + 1, 2, none⟩ = some (.slice none 0 0) := S2.out.cl 0 2 rfl rfl
    have f0 := S2.out.f 0 0 rfl
    have f1 := S2.out.f 0 1 rfl
    have f2 := S2.out.f 0 2 rfl
    have S3 := Lib.hid (((S2.out.set 0 0 (.string ⟨#[]⟩) rfl (by nofun)).set 0 1 (.bool false) rfl (by nofun)).set 0 2 (.slice none 0 0) rfl (by nofun))
    replace hr := Lib.hid hr
    clear S2 hX hXs q2 hI2 e3
    go_wp2
    refine bodyPost_ret (res_xp _ _ (fb + 1) 29 rfl rfl (S3.out.cb 0 rfl)) rfl ?_
    unfold ExpV
    rw [hr.out]
    exact ⟨rfl, S3.out.bel⟩
  | some m =>
    have e3 := e2.out
    rw [hr] at e3
    obtain ⟨e4, e5, _, e6⟩ := e3
    rw [e4] at hXs
    obtain ⟨_, _, F, fd, _, _, hF, _, _, x1, x2, _, _, hxl⟩ := hXs.cells
    have S2 := Lib.hid hXs.st
    have hu : U64 m := by rw [← e5]; exact hpk.out.2.1.2.1
    have hl := (hI2.mono (bs' := _) (fun p hp => List.mem_append_right [(fb + 1, #[.string ⟨#[]⟩, .bool false, .slice none 0 0], 29), (fb, #[.string s, .slice A n c], 24)] hp) (fun p hp => hp)).lr S2.out
    rw [e5] at hl q2
    have hMo := Lib.hid (model_any w4 xb _ fd F _ s B m.length d m x1 hxl hF (by rw [List.length_map]; exact hal.out) hnm.out hl q2 (fts_len e6) hu (by have := hss.out; omega) (fun w1 g cp h20 => hM.out m hr h20 w1 g cp))
    have hmd := Lib.hid (terms_mdT (A := F10.atoms tr []) hu e6 hal.out)
    have k0 : w4.cell? ⟨fb, 0, none⟩ = some (.string s) := S2.out.cl 1 0 rfl rfl
    replace hr := Lib.hid hr
    have e5h := Lib.hid (show ∀ X : List Nat, X = (F10.pr tr [] false).2.1 → X = m from fun X h => h.trans e5)
    rw [e5]
    clear hX hXs q2 hI2 e4 hF x1 hxl hl hu e6 hM hnm e5 e5h
    go_wp2_with fail
    clear x2 k0
    refine hMo.out.mono ?_
    rintro e w5 ⟨A6, c6, Ts, ob6, rfl, q6, S6, hI6, hmap⟩
    obtain ⟨bz, hbz⟩ : ∃ b, b = m.contains 0 := ⟨_, rfl⟩
    rw [← hbz]
    replace hbz := Lib.hid hbz
    have S7 := Lib.hid (S2.out.join S6)
    have r0 : w5.cell? ⟨fb + 1, 0, none⟩ = some (.string ⟨#[]⟩) := S7.out.cl 0 0 rfl rfl
    have r1 : w5.cell? ⟨fb + 1, 1, none⟩ = some (.bool false) := S7.out.cl 0 1 rfl rfl
    have r2 : w5.cell? ⟨fb + 1, 2, none⟩ = some (.slice none 0 0) := S7.out.cl 0 2 rfl rfl
    have f0 := S7.out.f 0 0 rfl
    have f1 := S7.out.f 0 1 rfl
    have f2 := S7.out.f 0 2 rfl
    have S8 := Lib.hid (((S7.out.set 0 0 (.string s) rfl (by nofun)).set 0 1 (.bool bz) rfl (by nofun)).set 0 2 (.slice A6 Ts.length c6) rfl (by nofun))
    have hmp := Lib.hid (show Ts.map (fun l => l.L) = (F10.mdT (F10.atoms tr []) m).map (fun l => l.map toFa) from hmap.trans (by rw [List.length_map]; exact hmd.out))
    replace hI6 := Lib.hid hI6
    replace q6 := Lib.hid q6
    clear S2 S6 hMo S7 hmap hmd
    go_wp2
    refine bodyPost_ret (res_xp _ _ (fb + 1) 29 rfl rfl (S8.out.cb 0 rfl)) rfl ?_
    unfold ExpV
    rw [hr.out]
    exact ⟨A6, c6, Ts, _, by rw [← hbz.out]; rfl, q6.out, S8.out, fun w0 bs hb => hI6.out w0 bs (fun p hp => hb p (by simp [hp])), hmp.out⟩
end Go.Proofs.YthbkdjbmkhmlnaaDoor
namespace Go.Proofs.YthbkdjbmkhmlnaaDoor
open Go.RowKit
set_option linter.unusedVariables false

theorem expand_any (s : ByteArray) (tr : F9.Tr) (hw : tr.wf) (A : Option Addr) (n c : Nat) (w : World) (h : LR ndC w A n (tr.pre.map toNd)) (hc : n ≤ c) (hO : Og w) (hf : frmB s (tr.pre.map toNd) = true) (hs : s.size ≤ 100000) (hsz : ∀ x ∈ tr.pre.map toNd, x.s.size ≤ 100000) :
    Calls Tryd.prog 11 #[.agg #[.string s, .slice A n c]] w fun e w' => ExpV w w' e s tr := by
  refine expand_yes s tr hw A n c w h hc hO hf hs hsz fun m hm h20 w1 g cp => ?_
  have h1 := F10.expand_same tr (wf_shp hw)
  rw [hm] at h1
  have h2 := h1.2.2.2.2
  have h3 : m.length ≤ 1000 := Nat.le_trans (fts_len h2) (by decide)
  exact merge_ok w1 g cp _ [] h20 (Nat.le_trans (List.length_filter_le _ _) h3)
end Go.Proofs.YthbkdjbmkhmlnaaDoor
namespace Go.Proofs.YthbkdjbmkhmlnaaDoor
open Go.RowKit
set_option linter.unusedVariables false

theorem ix_dec {L : List Fa} {f : Fa} {z : Int} (h : Ix L f z) : decide (0 ≤ z) = decide (f ∈ L) := by
  rcases h with ⟨rfl, h⟩ | ⟨h, rfl⟩
  · rw [decide_eq_false h]; rfl
  · rw [decide_eq_true h, decide_eq_true (by omega)]
set_option maxRecDepth 100000 in
set_option maxHeartbeats 4000000 in
theorem containsF_any (L : List Fa) (A : Option Addr) (n c : Nat) (f : Fa) (w : World) (h : LR faC w A n L) (hn : n ≤ 100000) : Calls Tryd.prog 70 #[.slice A n c, .agg #[.string f.s, .int .i64 f.k]] w fun e w' => e = .returned (.bool (decide (f ∈ L))) ∧ Below w.heap.size w w' := by
  have S0 := Lib.hid ((St.new w).alloc #[.string f.s, .int .i64 f.k] 37 (noLof rfl))
  obtain ⟨fb, hfb⟩ : ∃ b, b = w.heap.size := ⟨_, rfl⟩
  obtain ⟨w1, hw1⟩ : ∃ W, W = w.alloc (.cells #[.string f.s, .int .i64 f.k] 37) := ⟨_, rfl⟩
  rw [← hfb, ← hw1] at S0
  have hI := Lib.hid (fun W (hW : Below w.heap.size w W) => indexF_any L A n c f W (h.bel hW) hn)
  clear h hn
  obtain ⟨bv, hbv⟩ : ∃ z, z = decide (f ∈ L) := ⟨_, rfl⟩
  rw [← hbv]
  replace hbv := Lib.hid hbv
  go_enter Tryd.func70, Tryd.ntmps70
  go_upto_region 1 with fail
  rw [← hfb, ← hw1]
  clear hfb hw1
  have d0 : Hid (w1.cell? ⟨fb, 0, none⟩ = some (.string f.s)) := Lib.hid (S0.out.cl 0 0 rfl rfl)
  have d1 : Hid (w1.cell? ⟨fb, 1, none⟩ = some (.int .i64 f.k)) := Lib.hid (S0.out.cl 0 1 rfl rfl)
  have k0 := d0.out
  have k1 := d1.out
  go_wp2_with fail
  clear k0 k1 d0 d1
  refine (hI.out w1 S0.out.bel).mono ?_
  rintro e w2 ⟨⟨z, rfl, hz⟩, hB⟩
  have T := Lib.hid (S0.out.bel.trans (hB.mono S0.out.bel.size))
  have hzd := Lib.hid ((ix_dec hz).trans hbv.out.symm)
  clear hz hB hI S0
  go_wp2
  go_ret
  exact ⟨by rw [← hzd.out]; simp, T.out⟩
set_option maxRecDepth 100000 in
set_option maxHeartbeats 4000000 in
theorem notIn_any (t : List Fa) (B : Option Addr) (m d q : Nat) (f : Fa) (w : World) (h : LR faC w B m t) (hm : m ≤ 100000) (hq : w.cell? ⟨q, 0, none⟩ = some (.slice B m d)) (hql : q < w.heap.size) : Calls Tryd.prog 73 #[.agg #[.string f.s, .int .i64 f.k], .pointer (some ⟨q, 0, none⟩)] w fun e w' => e = .returned (.bool (!decide (f ∈ t))) ∧ Below w.heap.size w w' := by
  have S0 := Lib.hid ((St.new w).alloc #[.string f.s, .int .i64 f.k] 37 (noLof rfl))
  obtain ⟨fb, hfb⟩ : ∃ b, b = w.heap.size := ⟨_, rfl⟩
  obtain ⟨w1, hw1⟩ : ∃ W, W = w.alloc (.cells #[.string f.s, .int .i64 f.k] 37) := ⟨_, rfl⟩
  rw [← hfb, ← hw1] at S0
  have hI := Lib.hid (fun W (hW : Below w.heap.size w W) => containsF_any t B m d f W (h.bel hW) hm)
  have dq : Hid (w1.cell? ⟨q, 0, none⟩ = some (.slice B m d)) := Lib.hid ((World.cell?_of_block (S0.out.bel.block _ hql)).trans hq)
  clear h hm hq hql
  obtain ⟨bv, hbv⟩ : ∃ z, z = decide (f ∈ t) := ⟨_, rfl⟩
  rw [← hbv]
  go_enter Tryd.func73, Tryd.ntmps73
  go_upto_region 1 with fail
  rw [← hfb, ← hw1]
  clear hfb hw1
  have d0 : Hid (w1.cell? ⟨fb, 0, none⟩ = some (.string f.s)) := Lib.hid (S0.out.cl 0 0 rfl rfl)
  have d1 : Hid (w1.cell? ⟨fb, 1, none⟩ = some (.int .i64 f.k)) := Lib.hid (S0.out.cl 0 1 rfl rfl)
  rw [← hbv] at hI
  replace hbv := Lib.hid hbv
  have k0 := d0.out
  have k1 := d1.out
  have k2 := dq.out
  go_wp2_with fail
  clear k0 k1 k2 d0 d1 dq
  refine (hI.out w1 S0.out.bel).mono ?_
  rintro e w2 ⟨rfl, hB⟩
  have T := Lib.hid (S0.out.bel.trans (hB.mono S0.out.bel.size))
  clear hB hI S0
  go_wp2
  go_ret
  exact ⟨rfl, T.out⟩

set_option maxRecDepth 100000 in
set_option maxHeartbeats 4000000 in
theorem ixF_any (L : List Fa) (A : Option Addr) (n c q : Nat) (pp : Fa → Bool) (w : World) (h : LR faC w A n L) (hn : n ≤ 100000) (hP : ∀ W, Below w.heap.size w W → ∀ x ∈ L, Calls Tryd.prog 73 #[.agg #[.string x.s, .int .i64 x.k], .pointer (some ⟨q, 0, none⟩)] W fun e w' => e = .returned (.bool (pp x)) ∧ Below W.heap.size W w') :
    Calls Tryd.prog 96 #[.slice A n c, .func (.func 73) #[] #[.pointer (some ⟨q, 0, none⟩)]] w fun e w' => (∃ z, e = .returned (.int .i64 z) ∧ IxF L pp z) ∧ Below w.heap.size w w' := by
  have hb := Lib.hid hn
  have hlen := Lib.hid h.len
  replace h := Lib.hid h
  have hPh := Lib.hid hP
  clear hn hP
  go_enter Tryd.func96, Tryd.ntmps96
  go_wp2
  go_loopw [8] (fun iv wr => ∃ i : Nat, i ≤ n ∧ iv = .int .i64 i ∧ Below w.heap.size w wr ∧ (∀ j s, j < i → L[j]? = some s → pp s = false)) (fun iv _ => n - (intOf iv).toNat)
  case atStart => exact ⟨0, Nat.zero_le _, rfl, Below.refl _ _, fun j s h0 => absurd h0 (Nat.not_lt_zero _)⟩
  case round =>
    obtain ⟨i, hin, rfl, B, hall⟩ := hrel
    by_cases hlt : i < n
    · obtain ⟨b, o, x, rfl, hx, hxm, e0, e1⟩ := fa_get (h.out.bel B) hlt
      have hPx := hPh.out wr B x hxm
      obtain ⟨v, hv⟩ : ∃ v, v = pp x := ⟨_, rfl⟩
      rw [← hv] at hPx
      replace hPx := Lib.hid hPx
      have hih := Lib.hid hlt
      have g1 : (i : Int) < (n : Int) := by omega
      have g2 : (0 : Int) ≤ (i : Int) := by omega
      replace B := Lib.hid B
      replace hall := Lib.hid hall
      replace hx := Lib.hid hx
      replace hv := Lib.hid hv
      clear hlt hin hxm
      go_wp2_with fail
      refine hPx.out.mono ?_
      rintro e w1 ⟨rfl, bb⟩
      have T := Lib.hid (B.out.trans (bb.mono B.out.size))
      clear bb B hPx e0 e1
      cases v
      · have hlt := hih.out
        have hbb := hb.out
        go_wp2
        go_roundw
        case rel => exact ⟨i + 1, by omega, by go_num, T.out, fun j' s h1 h2 => (by rcases Nat.lt_or_ge j' i with h3 | h3; exact hall.out j' s h3 h2; obtain rfl : j' = i := (by omega); rw [hx.out] at h2; injection h2 with h2; subst h2; exact hv.out.symm)⟩
        case measure => simp [intOf]; omega
      · go_wp2
        go_ret
        exact ⟨⟨_, rfl, .inr ⟨i, x, rfl, hx.out, hv.out.symm, hall.out⟩⟩, T.out⟩
    · obtain rfl : i = n := by omega
      have hfin : Hid (∀ r ∈ L, pp r = false) := Lib.hid fun r hr => by
        obtain ⟨k, hk⟩ := List.getElem?_of_mem hr
        exact hall k r (by rw [← hlen.out]; exact (List.getElem?_eq_some_iff.1 hk).1) hk
      replace B := Lib.hid B
      clear hall hin hlt
      go_wp2
      go_ret
      exact ⟨⟨-1, rfl, .inl ⟨rfl, hfin.out⟩⟩, B.out⟩
set_option maxRecDepth 100000 in
set_option maxHeartbeats 4000000 in
theorem cfF_any (L : List Fa) (A : Option Addr) (n c q : Nat) (pp : Fa → Bool) (w : World) (h : LR faC w A n L) (hn : n ≤ 100000) (hP : ∀ W, Below w.heap.size w W → ∀ x ∈ L, Calls Tryd.prog 73 #[.agg #[.string x.s, .int .i64 x.k], .pointer (some ⟨q, 0, none⟩)] W fun e w' => e = .returned (.bool (pp x)) ∧ Below W.heap.size W w') :
    Calls Tryd.prog 72 #[.slice A n c, .func (.func 73) #[] #[.pointer (some ⟨q, 0, none⟩)]] w fun e w' => e = .returned (.bool (L.any pp)) ∧ Below w.heap.size w w' := by
  have hX := Lib.hid (ixF_any L A n c q pp w h hn hP)
  clear h hn hP
  obtain ⟨bv, hbv⟩ : ∃ z, z = L.any pp := ⟨_, rfl⟩
  rw [← hbv]
  replace hbv := Lib.hid hbv
  go_enter Tryd.func72, Tryd.ntmps72
  go_wp2_with fail
  refine hX.out.mono ?_
  rintro e w1 ⟨⟨z, rfl, hz⟩, bb⟩
  have hz2 := Lib.hid hz.any_
  replace bb := Lib.hid bb
  clear hz hX
  go_wp2
  go_ret
  exact ⟨by rw [hbv.out, hz2.out]; simp, bb.out⟩

/-- Have two terms the same factors? -/
def sfB (s t : List Fa) : Bool := decide (s.length = t.length) && s.all fun f => decide (f ∈ t)
set_option maxRecDepth 100000 in
set_option maxHeartbeats 4000000 in
theorem sameF_any (s t : List Fa) (A : Option Addr) (n c : Nat) (B : Option Addr) (m d : Nat) (w : World) (h : LR faC w A n s) (hB : LR faC w B m t) (hn : n ≤ 100000) (hm : m ≤ 100000) : Calls Tryd.prog 37 #[.slice A n c, .slice B m d] w fun e w' => e = .returned (.bool (sfB s t)) ∧ Below w.heap.size w w' := by
  have S0 := Lib.hid ((St.new w).alloc #[.slice B m d] 34 (noLof rfl))
  obtain ⟨fb, hfb⟩ : ∃ b, b = w.heap.size := ⟨_, rfl⟩
  obtain ⟨w1, hw1⟩ : ∃ W, W = w.alloc (.cells #[.slice B m d] 34) := ⟨_, rfl⟩
  rw [← hfb, ← hw1] at S0
  have d0 : w1.cell? ⟨fb, 0, none⟩ = some (.slice B m d) := S0.out.cl 0 0 rfl rfl
  have hlt := S0.out.lt 0 rfl
  have hI := Lib.hid (cfF_any s A n c fb (fun f => !decide (f ∈ t)) w1 (h.bel S0.out.bel) hn (fun W hW f _ => notIn_any t B m d fb f W ((hB.bel S0.out.bel).bel hW) hm ((World.cell?_of_block (hW.block _ hlt)).trans d0) (Nat.lt_of_lt_of_le hlt hW.size)))
  have e1 := h.len
  have e2 := hB.len
  have hall : Hid ((!(s.any fun f => !decide (f ∈ t))) = s.all fun f => decide (f ∈ t)) := Lib.hid (by
    rw [List.not_any_eq_all_not]; simp)
  obtain ⟨bv, hbv⟩ : ∃ z, z = s.any (fun f => !decide (f ∈ t)) := ⟨_, rfl⟩
  rw [← hbv] at hI hall
  replace hbv := Lib.hid hbv
  clear h hB hn hm hlt
  by_cases hnm : n = m
  · have hfin := Lib.hid (show (!bv) = sfB s t by unfold sfB; rw [decide_eq_true (by omega), Bool.true_and]; exact hall.out)
    subst hnm
    clear e1 e2
    go_enter Tryd.func37, Tryd.ntmps37
    go_wp2_with fail
    rw [← hfb, ← hw1]
    clear hfb hw1
    clear d0
    refine hI.out.mono ?_
    rintro e w2 ⟨rfl, hb⟩
    have T := Lib.hid (S0.out.bel.trans (hb.mono S0.out.bel.size))
    clear hb hI S0
    go_wp2
    go_ret
    exact ⟨by rw [← hfin.out]; rfl, T.out⟩
  · have hfin := Lib.hid (show false = sfB s t by unfold sfB; rw [decide_eq_false (by omega), Bool.false_and])
    have g1 : ((n : Int) == (m : Int)) = false := by rw [beq_eq_false_iff_ne]; omega
    have T := Lib.hid S0.out.bel
    clear e1 e2 hI
    go_enter Tryd.func37, Tryd.ntmps37
    go_upto_region 1 with fail
    rw [← hfb, ← hw1]
    clear hfb hw1
    go_wp2
    go_ret
    exact ⟨by rw [← hfin.out]; rfl, T.out⟩
theorem fs_get {W : World} {A : Option Addr} {n : Nat} {L : List (Sl Fa)} (h : LR (slC faC) W A n L) {i : Nat} (hi : i < n) : ∃ b o s, A = some ⟨b, o, none⟩ ∧ L[i]? = some s ∧ s ∈ L ∧ W.cell? ⟨b, o + i, none⟩ = some (.slice s.A s.L.length s.c) ∧ LR faC W s.A s.L.length s.L ∧ s.L.length ≤ s.c := by
  obtain ⟨b, o, s, h1, h2, h3, h4, h5⟩ := h.get hi
  refine ⟨b, o, s, h1, h2, h3, ?_, h4.1, h4.2⟩
  have := h5 0 _ rfl
  rwa [show o + i * (slC faC).sz + 0 = o + i by show o + i * 1 + 0 = o + i; omega] at this
set_option maxRecDepth 100000 in
set_option maxHeartbeats 4000000 in
theorem sameD_any (t : List Fa) (B : Option Addr) (m d q : Nat) (s : Sl Fa) (w : World) (h : LR faC w B m t) (hm : m ≤ 100000) (hq : w.cell? ⟨q, 0, none⟩ = some (.slice B m d)) (hs : LR faC w s.A s.L.length s.L) (hsl : s.L.length ≤ 100000) : Calls Tryd.prog 36 #[.slice s.A s.L.length s.c, .pointer (some ⟨q, 0, none⟩)] w fun e w' => e = .returned (.bool (sfB s.L t)) ∧ Below w.heap.size w w' := by
  have hI := Lib.hid (sameF_any s.L t s.A s.L.length s.c B m d w hs h hsl hm)
  clear h hm hs hsl
  generalize sfB s.L t = bv at *
  go_enter Tryd.func36, Tryd.ntmps36
  go_wp2_with fail
  refine hI.out.mono ?_
  rintro e w2 ⟨rfl, hb⟩
  replace hb := Lib.hid hb
  clear hI
  go_wp2
  go_ret
  exact ⟨rfl, hb.out⟩

set_option maxRecDepth 100000 in
set_option maxHeartbeats 4000000 in
theorem ixV_any (L : List (Sl Fa)) (A : Option Addr) (n c q : Nat) (pp : Sl Fa → Bool) (w : World) (h : LR (slC faC) w A n L) (hn : n ≤ 100000) (hP : ∀ W, Below w.heap.size w W → ∀ x ∈ L, Calls Tryd.prog 36 #[.slice x.A x.L.length x.c, .pointer (some ⟨q, 0, none⟩)] W fun e w' => e = .returned (.bool (pp x)) ∧ Below W.heap.size W w') :
    Calls Tryd.prog 71 #[.slice A n c, .func (.func 36) #[] #[.pointer (some ⟨q, 0, none⟩)]] w fun e w' => (∃ z, e = .returned (.int .i64 z) ∧ IxF L pp z) ∧ Below w.heap.size w w' := by
  have hb := Lib.hid hn
  have hlen := Lib.hid h.len
  replace h := Lib.hid h
  have hPh := Lib.hid hP
  clear hn hP
  go_enter Tryd.func71, Tryd.ntmps71
  go_wp2
  go_loopw [8] (fun iv wr => ∃ i : Nat, i ≤ n ∧ iv = .int .i64 i ∧ Below w.heap.size w wr ∧ (∀ j s, j < i → L[j]? = some s → pp s = false)) (fun iv _ => n - (intOf iv).toNat)
  case atStart => exact ⟨0, Nat.zero_le _, rfl, Below.refl _ _, fun j s h0 => absurd h0 (Nat.not_lt_zero _)⟩
  case round =>
    obtain ⟨i, hin, rfl, B, hall⟩ := hrel
    by_cases hlt : i < n
    · obtain ⟨b, o, x, rfl, hx, hxm, e0, e1, e2⟩ := fs_get (h.out.bel B) hlt
      have hPx := hPh.out wr B x hxm
      obtain ⟨v, hv⟩ : ∃ v, v = pp x := ⟨_, rfl⟩
      rw [← hv] at hPx
      replace hPx := Lib.hid hPx
      have hih := Lib.hid hlt
      have g1 : (i : Int) < (n : Int) := by omega
      have g2 : (0 : Int) ≤ (i : Int) := by omega
      replace B := Lib.hid B
      replace hall := Lib.hid hall
      replace hx := Lib.hid hx
      replace hv := Lib.hid hv
      clear hlt hin hxm
      go_wp2_with fail
      refine hPx.out.mono ?_
      rintro e w1 ⟨rfl, bb⟩
      have T := Lib.hid (B.out.trans (bb.mono B.out.size))
      clear bb B hPx e0 e1 e2
      cases v
      · have hlt := hih.out
        have hbb := hb.out
        go_wp2
        go_roundw
        case rel => exact ⟨i + 1, by omega, by go_num, T.out, fun j' s h1 h2 => (by rcases Nat.lt_or_ge j' i with h3 | h3; exact hall.out j' s h3 h2; obtain rfl : j' = i := (by omega); rw [hx.out] at h2; injection h2 with h2; subst h2; exact hv.out.symm)⟩
        case measure => simp [intOf]; omega
      · go_wp2
        go_ret
        exact ⟨⟨_, rfl, .inr ⟨i, x, rfl, hx.out, hv.out.symm, hall.out⟩⟩, T.out⟩
    · obtain rfl : i = n := by omega
      have hfin : Hid (∀ r ∈ L, pp r = false) := Lib.hid fun r hr => by
        obtain ⟨k, hk⟩ := List.getElem?_of_mem hr
        exact hall k r (by rw [← hlen.out]; exact (List.getElem?_eq_some_iff.1 hk).1) hk
      replace B := Lib.hid B
      clear hall hin hlt
      go_wp2
      go_ret
      exact ⟨⟨-1, rfl, .inl ⟨rfl, hfin.out⟩⟩, B.out⟩
set_option maxRecDepth 100000 in
set_option maxHeartbeats 4000000 in
theorem cfV_any (L : List (Sl Fa)) (A : Option Addr) (n c q : Nat) (pp : Sl Fa → Bool) (w : World) (h : LR (slC faC) w A n L) (hn : n ≤ 100000) (hP : ∀ W, Below w.heap.size w W → ∀ x ∈ L, Calls Tryd.prog 36 #[.slice x.A x.L.length x.c, .pointer (some ⟨q, 0, none⟩)] W fun e w' => e = .returned (.bool (pp x)) ∧ Below W.heap.size W w') :
    Calls Tryd.prog 35 #[.slice A n c, .func (.func 36) #[] #[.pointer (some ⟨q, 0, none⟩)]] w fun e w' => e = .returned (.bool (L.any pp)) ∧ Below w.heap.size w w' := by
  have hX := Lib.hid (ixV_any L A n c q pp w h hn hP)
  clear h hn hP
  obtain ⟨bv, hbv⟩ : ∃ z, z = L.any pp := ⟨_, rfl⟩
  rw [← hbv]
  replace hbv := Lib.hid hbv
  go_enter Tryd.func35, Tryd.ntmps35
  go_wp2_with fail
  refine hX.out.mono ?_
  rintro e w1 ⟨⟨z, rfl, hz⟩, bb⟩
  have hz2 := Lib.hid hz.any_
  replace bb := Lib.hid bb
  clear hz hX
  go_wp2
  go_ret
  exact ⟨by rw [hbv.out, hz2.out]; simp, bb.out⟩
end Go.Proofs.YthbkdjbmkhmlnaaDoor
