/- The list of a factor. -/
import Derived.Test.YthbkdjbmkhmlnaaDoorB16
namespace Go.Proofs.YthbkdjbmkhmlnaaDoor
open Go.RowKit
set_option linter.unusedVariables false

/-- What a reading of an expression leaves: the expander, and a list where the call knows of it. -/
def ER (w0 w' : World) (xb : Nat) (ns : List Nd) (fs : List Fa) (ex : Bool) (bs : List GBk) (v : Value) (L : List Nat) : Prop :=
  ∃ A c ob, v = .slice A L.length c ∧ L.length ≤ c ∧ XS w0 w' xb ns fs ex (bs ++ ob) ∧ LI uC w0 ob [] A L.length L
theorem XS.er {w0 w w' : World} {xb : Nat} {ns : List Nd} {fs : List Fa} {ex : Bool} {bs : List GBk} {v : Value} {L : List Nat} (h : XS w0 w xb ns fs ex bs) (G : Gro uC w w' [] [] 86 v L) : ER w0 w' xb ns fs ex bs v L := by
  obtain ⟨A, c, ob, h1, h2, h3, h4⟩ := G.own (fun _ _ _ _ => trivial)
  exact ⟨A, c, ob, h1, h2, h.adopt h3, h4 w0 _ (fun p hp => hp)⟩
/-- A factor is added if it is new. -/
def adF (fs : List Fa) (f : Fa) : List Fa := if f ∈ fs then fs else fs ++ [f]
theorem adF_idx (fs : List Fa) (f : Fa) {z : Int} (h : Ix fs f z) : (¬ z < 0 ∧ f ∈ fs ∧ z = ((adF fs f).idxOf f : Nat)) ∨ (z < 0 ∧ ¬ f ∈ fs ∧ (fs.length : Int) = ((adF fs f).idxOf f : Nat)) := by
  unfold adF
  rcases h with ⟨rfl, h⟩ | ⟨h, rfl⟩
  · refine .inr ⟨by omega, h, ?_⟩
    rw [if_neg h, List.idxOf_append, if_neg h]; simp
  · exact .inl ⟨by omega, h, by rw [if_pos h]⟩
theorem shl_one (i : Nat) (h : i < 64) : IntKind.u64.wrap (2 ^ i) = ((2 ^ i : Nat) : Int) := by
  have : (2 : Nat) ^ i < 18446744073709551616 := Nat.pow_lt_pow_right (a := 2) (by decide) h
  have e : ((2 : Int) ^ i) = ((2 ^ i : Nat) : Int) := by rw [Int.natCast_pow]; rfl
  rw [e]
  exact wrap64_nat this

set_option maxRecDepth 100000 in
set_option maxHeartbeats 4000000 in
theorem single_any (w0 w : World) (xb : Nat) (ns : List Nd) (fs : List Fa) (ex : Bool) (bs : List GBk) (f : Fa) (h : XS w0 w xb ns fs ex bs) (hf : fs.length < 64) : Calls Tryd.prog 101 #[.pointer (some ⟨xb, 0, none⟩), .agg #[.string f.s, .int .i64 f.k]] w fun e w' => ∃ v, e = .returned v ∧ ER w0 w' xb ns (adF fs f) ex bs v [2 ^ (adF fs f).idxOf f] := by
  have h1 := Lib.hid (h.more #[.string f.s, .int .i64 f.k] 37 (noLof rfl))
  obtain ⟨bx, hbx⟩ : ∃ b, b = w.heap.size := ⟨_, rfl⟩
  rw [← hbx] at h1
  have hff := Lib.hid hf
  have hi64 : Hid ((adF fs f).idxOf f < 64) := Lib.hid (by
    have hm : f ∈ adF fs f := by unfold adF; split; assumption; simp
    have h1 := List.idxOf_lt_length_iff.2 hm
    have h2 : (adF fs f).length ≤ fs.length + 1 := by unfold adF; split; omega; simp
    omega)
  clear h hf
  go_enter Tryd.func101, Tryd.ntmps101
  go_upto_region 1 with fail
  rw [← hbx]
  obtain ⟨w1, hw1⟩ : ∃ W, W = w.alloc (.cells #[.string f.s, .int .i64 f.k] 37) := ⟨_, rfl⟩
  rw [← hw1] at h1
  rw [← hw1]
  clear hw1 hbx
  obtain ⟨A, c, fv, hA, hc, G⟩ := h1.out
  obtain ⟨F, d, rfl, hF, hd⟩ := G.lrc
  have hI := Lib.hid (fun W (hW : Below w1.heap.size w1 W) => indexF_any fs F fs.length d f W (hF.bel hW) (by have := hff.out; omega))
  have c1 : Hid (w1.cell? ⟨xb, 1, none⟩ = some (.slice F fs.length d)) := Lib.hid (G.st.cl 0 1 rfl rfl)
  have d0 : Hid (w1.cell? ⟨bx, 0, none⟩ = some (.string f.s)) := Lib.hid (G.st.cl 1 0 rfl rfl)
  have d1 : Hid (w1.cell? ⟨bx, 1, none⟩ = some (.int .i64 f.k)) := Lib.hid (G.st.cl 1 1 rfl rfl)
  replace G := Lib.hid G
  replace hA := Lib.hid hA
  replace hc := Lib.hid hc
  clear h1 hF hd
  go_cut [5] from 6 (fun v wc => ∃ z : Int, v = .int .i64 z ∧ Ix fs f z ∧ Below w1.heap.size w1 wc)
  case first =>
    have hbase := Lib.hid (St.new w1)
    refine RW.begin (Z := []) (S := (fun W => Below w1.heap.size w1 W)) (by kernel_rfl) ?_ hbase.out ?_
    · exact ⟨by kernel_rfl, zis_nil, by decide, by decide, nol_nil, (fun _ _ h => h.bel)⟩
    intro hzk
    refine RW.t (i := 0) (v := .pointer (some ⟨xb, 0, none⟩)) (some 6) at0 (hy := fun _ _ => by kernel_rfl) (h := ?_)
    refine RW.t (i := 1) (v := .pointer (some ⟨xb, 0, none⟩)) (some 7) at1 (hy := fun _ _ => by go_simp) (h := ?_)
    refine RW.t (i := 2) (v := .pointer (some ⟨xb, 1, none⟩)) (some 8) at2 (hy := fun _ _ => by go_simp) (h := ?_)
    refine RW.t (i := 3) (v := .slice F fs.length d) (some 9) at3 (hy := fun W hS => by (have k0 := bel_cell hS c1.out; clear hS; go_simp)) (h := ?_)
    refine RW.t (i := 4) (v := .agg #[.string f.s, .int .i64 f.k]) (some 10) at4 (hy := fun W hS => by (have k0 := bel_cell hS d0.out; have k1 := bel_cell hS d1.out; clear hS; go_simp)) (h := ?_)
    refine RW.c (i := 5) (args := #[.slice F fs.length d, .agg #[.string f.s, .int .i64 f.k]]) (some 11) hzk.out at5 (hx := fun _ => by kernel_rfl) (h := fun W S => (hI.out W S.bel).mono ?_)
    rintro e w9 ⟨⟨z, rfl, hz⟩, hB9⟩
    refine ⟨hB9, _, [], rfl, (fun r hr => by cases hr), ?_⟩
    clear hB9
    refine RW.tail hzk.out (by kernel_rfl) ?_
    intro gs' w5 hgs' hS Sb
    obtain rfl := len0 hgs'
    simp only [mark, fill, Act.put, List.setIfInBounds_toArray, List.set_cons_zero, List.set_cons_succ]
    replace hz := Lib.hid hz
    refine Wk.o (i := 6) at6 (by kernel_rfl) fun K' hK => ?_
    go_simp
    refine hK.out _ _ hS ?_
    clear hK K'
    try simp only [Act.put, List.setIfInBounds_toArray, List.set_cons_zero, List.set_cons_succ]
    refine Wk.done (by kernel_rfl) ?_
    replace hS := Lib.hid hS
    clear Sb hgs' hzk hbase
    try go_simp
    go_wp2
    go_meet
    exact ⟨z, rfl, hz.out, hS.out⟩
  case rest =>
    obtain ⟨z, rfl, hz, hB⟩ := hcut
    have G1 := Lib.hid (G.out.call hB)
    have hz2 := Lib.hid (adF_idx fs f hz)
    clear G c1 d0 d1 hI hB hz
    rcases hz2.out with ⟨hz3, hm, hz4⟩ | ⟨hz3, hm, hz4⟩
    · have had : adF fs f = fs := by unfold adF; rw [if_pos hm]
      obtain ⟨i, hi⟩ : ∃ i, i = (adF fs f).idxOf f := ⟨_, rfl⟩
      rw [← hi] at hi64 hz4
      replace hi := Lib.hid hi
      replace had := Lib.hid had
      subst hz4
      clear hz2 hm
      have hp := Lib.hid (shl_one i hi64.out)
      have GX : Hid (XS w0 wc xb ns fs ex bs) := Lib.hid (XS.sub (p := (bx, #[.string f.s, .int .i64 f.k], 37)) ⟨A, c, _, hA.out, hc.out, G1.out⟩)
      have g2 : i < 64 := hi64.out
      go_wp2
      rw [hp.out]
      have S2 := (St.new wc).alloc #[.int .u64 ((2 ^ i : Nat) : Int)] 86 (noLof rfl)
      have ER1 := Lib.hid (GX.out.er (Gro.one (C := uC) (y := 2 ^ i) S2 trivial))
      go_ret
      exact ⟨_, rfl, by rw [had.out, ← (show i = fs.idxOf f by rw [hi.out, had.out])]; exact ER1.out⟩
    · have had : adF fs f = fs ++ [f] := by unfold adF; rw [if_neg hm]
      obtain ⟨i, hi⟩ : ∃ i, i = (adF fs f).idxOf f := ⟨_, rfl⟩
      rw [← hi] at hi64 hz4
      replace hi := Lib.hid hi
      replace had := Lib.hid had
      replace hz4 := Lib.hid hz4
      clear hz2 hm
      have hp := Lib.hid (shl_one i hi64.out)
      have g2 : i < 64 := hi64.out
      have c1 : wc.cell? ⟨xb, 1, none⟩ = some (.slice F fs.length d) := G1.out.st.cl 0 1 rfl rfl
      go_upto_region 4 with fail
      clear c1
      go_cut [5] from 19 (fun v wc => v = .int .i64 (i : Nat) ∧ XS w0 wc xb ns (fs ++ [f]) ex bs)
      case first =>
        have hbase := Lib.hid (St.new wc)
        refine RW.begin (Z := []) (S := (fun V => Cb V bx #[.string f.s, .int .i64 f.k] 37 ∧ Below w0.heap.size w0 V)) (by kernel_rfl) ?_ hbase.out ?_
        · exact ⟨by kernel_rfl, zis_nil, by decide, by decide, nol_nil, (fun _ _ h => ⟨(G1.out.st.cb 1 rfl).bel h.bel, G1.out.st.bel.trans (h.bel.mono G1.out.st.bel.size)⟩)⟩
        intro hzk
        refine RW.t (i := 0) (v := .pointer (some ⟨xb, 0, none⟩)) (some 19) at0 (hy := fun _ _ => by kernel_rfl) (h := ?_)
        refine RW.t (i := 1) (v := .pointer (some ⟨xb, 0, none⟩)) (some 20) at1 (hy := fun _ _ => by kernel_rfl) (h := ?_)
        refine RW.t (i := 2) (v := .pointer (some ⟨xb, 0, none⟩)) (some 21) at2 (hy := fun _ _ => by go_simp) (h := ?_)
        refine RW.t (i := 3) (v := .pointer (some ⟨xb, 1, none⟩)) (some 22) at3 (hy := fun _ _ => by go_simp) (h := ?_)
        refine RW.t (i := 5) (v := .agg #[.string f.s, .int .i64 f.k]) (some 24) at5 (hy := fun V hS => by (have k0 := Cb.cell (i := 0) hS.1 rfl; have k1 := Cb.cell (i := 1) hS.1 rfl; clear hS; go_simp)) (h := ?_)
        refine RW.tail hzk.out (by kernel_rfl) ?_
        intro gs' w5 hgs' hS Sb
        obtain rfl := len0 hgs'
        simp only [mark, fill, Act.put, List.setIfInBounds_toArray, List.set_cons_zero, List.set_cons_succ]
        have G := Lib.hid (G1.out.call Sb.bel)
        clear G1 Sb hS hgs' hzk hbase
        refine Wk.two (i := 4) (j := 6) at4 at6 (by kernel_rfl) (fun K' hK => ?_) (fun K' hK => ?_)
        · have c_4 : w5.cell? ⟨xb, 1, none⟩ = some (.slice F fs.length d) := G.out.st.cl 0 1 rfl rfl
          go_simp
          refine hK.out _ _ ⟨G.out.st.cb 1 rfl, G.out.st.bel⟩ ?_
          clear hK K'
          try simp only [Act.put, List.setIfInBounds_toArray, List.set_cons_zero, List.set_cons_succ]
          refine Wk.o (i := 6) at6 (by kernel_rfl) fun K' hK => ?_
          go_simp
          have GA := Lib.hid (G.out.alloc #[.string f.s, .int .i64 f.k] 37 (noLof rfl))
          clear G
          refine hK.out _ _ ⟨GA.out.st.cb 2 rfl, GA.out.st.bel⟩ ?_
          clear hK K'
          try simp only [Act.put, List.setIfInBounds_toArray, List.set_cons_zero, List.set_cons_succ]
          refine Wk.o (i := 7) at7 (by kernel_rfl) fun K' hK => ?_
          refine Gro.op (.tmp 23) (.tmp 25) 34 rfl (.agg #[.string ⟨#[]⟩, .int .i64 0]) 24 Tryd.underlying34 (by kernel_rfl) rfl (fun v hv z e => by simp [Value.cells] at hv; subst e; simp at hv) rfl GA.out _ f rfl (GA.out.st.cb 0 rfl) (fa_in f) (by have := hff.out; omega) (by have := hff.out; unfold maxLen; omega) ?_
          intro av1 w6 G2 hmk
          replace G2 := Lib.hid (G2.sub (fun _ _ => fa_in _))
          clear GA hmk
          refine hK.out _ _ ⟨G2.out.st.cb 1 rfl, G2.out.st.bel⟩ ?_
          clear hK K'
          try simp only [Act.put, List.setIfInBounds_toArray, List.set_cons_zero, List.set_cons_succ]
          have c_4b : w6.cell? ⟨xb, 1, none⟩ = some (.slice F fs.length d) := G2.out.st.cl 0 1 rfl rfl
          have f_4 := G2.out.st.f 0 1 rfl
          have hltb := G2.out.st.lt 0 rfl
          have G3 := Lib.hid (G2.out.put 0 rfl 1 av1 (by obtain ⟨A1, q1, hv1, _⟩ := G2.out.lr; subst hv1; nofun) (fun _ _ => fa_in _))
          have hav : Hid (av1.oneCell' = true) := Lib.hid (by obtain ⟨A1, q1, hv1, _⟩ := G2.out.lr; subst hv1; rfl)
          obtain ⟨A1, q1, rfl, _⟩ := G2.out.lr
          rw [show (fs ++ [f]).length = fs.length + 1 by simp] at G3 hav
          refine Wk.o (i := 8) at8 (by kernel_rfl) fun K' hK => ?_
          go_simp
          refine hK.out _ _ ⟨G2.out.st.cb 1 rfl, G2.out.st.bel⟩ ?_
          clear hK K'
          try simp only [Act.put, List.setIfInBounds_toArray, List.set_cons_zero, List.set_cons_succ]
          refine Wk.o (i := 9) at9 (by kernel_rfl) fun K' hK => ?_
          go_simp
          refine hK.out _ _ ⟨G2.out.st.cb 1 rfl, G2.out.st.bel⟩ ?_
          clear hK K'
          try simp only [Act.put, List.setIfInBounds_toArray, List.set_cons_zero, List.set_cons_succ]
          refine Wk.o (i := 10) at10 (by kernel_rfl) fun K' hK => ?_
          go_simp
          refine hK.out _ _ ⟨G3.out.st.cb 1 rfl, G3.out.st.bel⟩ ?_
          clear hK K' c_4b f_4 hltb
          try simp only [Act.put, List.setIfInBounds_toArray, List.set_cons_zero, List.set_cons_succ]
          refine Wk.done (by kernel_rfl) ?_
          try go_simp
          go_wp2
          go_meet
          exact ⟨by rw [hz4.out], XS.sub (p := (bx, #[.string f.s, .int .i64 f.k], 37)) ⟨A, c, _, hA.out, hc.out, G3.out⟩⟩
        · have GA := Lib.hid (G.out.alloc #[.string f.s, .int .i64 f.k] 37 (noLof rfl))
          clear G
          go_simp
          refine hK.out _ _ ⟨GA.out.st.cb 2 rfl, GA.out.st.bel⟩ ?_
          clear hK K'
          try simp only [Act.put, List.setIfInBounds_toArray, List.set_cons_zero, List.set_cons_succ]
          refine Wk.o (i := 4) at4 (by kernel_rfl) fun K' hK => ?_
          have c_4 : (w5.alloc (.cells #[.string f.s, .int .i64 f.k] 37)).cell? ⟨xb, 1, none⟩ = some (.slice F fs.length d) := GA.out.st.cl 1 1 rfl rfl
          go_simp
          refine hK.out _ _ ⟨GA.out.st.cb 2 rfl, GA.out.st.bel⟩ ?_
          clear hK K' c_4
          try simp only [Act.put, List.setIfInBounds_toArray, List.set_cons_zero, List.set_cons_succ]
          refine Wk.o (i := 7) at7 (by kernel_rfl) fun K' hK => ?_
          refine Gro.op (.tmp 23) (.tmp 25) 34 rfl (.agg #[.string ⟨#[]⟩, .int .i64 0]) 24 Tryd.underlying34 (by kernel_rfl) rfl (fun v hv z e => by simp [Value.cells] at hv; subst e; simp at hv) rfl GA.out _ f rfl (GA.out.st.cb 0 rfl) (fa_in f) (by have := hff.out; omega) (by have := hff.out; unfold maxLen; omega) ?_
          intro av1 w6 G2 hmk
          replace G2 := Lib.hid (G2.sub (fun _ _ => fa_in _))
          clear GA hmk
          refine hK.out _ _ ⟨G2.out.st.cb 1 rfl, G2.out.st.bel⟩ ?_
          clear hK K'
          try simp only [Act.put, List.setIfInBounds_toArray, List.set_cons_zero, List.set_cons_succ]
          have c_4b : w6.cell? ⟨xb, 1, none⟩ = some (.slice F fs.length d) := G2.out.st.cl 0 1 rfl rfl
          have f_4 := G2.out.st.f 0 1 rfl
          have hltb := G2.out.st.lt 0 rfl
          have G3 := Lib.hid (G2.out.put 0 rfl 1 av1 (by obtain ⟨A1, q1, hv1, _⟩ := G2.out.lr; subst hv1; nofun) (fun _ _ => fa_in _))
          have hav : Hid (av1.oneCell' = true) := Lib.hid (by obtain ⟨A1, q1, hv1, _⟩ := G2.out.lr; subst hv1; rfl)
          obtain ⟨A1, q1, rfl, _⟩ := G2.out.lr
          rw [show (fs ++ [f]).length = fs.length + 1 by simp] at G3 hav
          refine Wk.o (i := 8) at8 (by kernel_rfl) fun K' hK => ?_
          go_simp
          refine hK.out _ _ ⟨G2.out.st.cb 1 rfl, G2.out.st.bel⟩ ?_
          clear hK K'
          try simp only [Act.put, List.setIfInBounds_toArray, List.set_cons_zero, List.set_cons_succ]
          refine Wk.o (i := 9) at9 (by kernel_rfl) fun K' hK => ?_
          go_simp
          refine hK.out _ _ ⟨G2.out.st.cb 1 rfl, G2.out.st.bel⟩ ?_
          clear hK K'
          try simp only [Act.put, List.setIfInBounds_toArray, List.set_cons_zero, List.set_cons_succ]
          refine Wk.o (i := 10) at10 (by kernel_rfl) fun K' hK => ?_
          go_simp
          refine hK.out _ _ ⟨G3.out.st.cb 1 rfl, G3.out.st.bel⟩ ?_
          clear hK K' c_4b f_4 hltb
          try simp only [Act.put, List.setIfInBounds_toArray, List.set_cons_zero, List.set_cons_succ]
          refine Wk.done (by kernel_rfl) ?_
          try go_simp
          go_wp2
          go_meet
          exact ⟨by rw [hz4.out], XS.sub (p := (bx, #[.string f.s, .int .i64 f.k], 37)) ⟨A, c, _, hA.out, hc.out, G3.out⟩⟩
      case rest =>
        obtain ⟨rfl, hX⟩ := hcut
        have GX := Lib.hid hX
        clear hX G1 hz4 hz3
        go_wp2
        rw [hp.out]
        have S2 := (St.new wc).alloc #[.int .u64 ((2 ^ i : Nat) : Int)] 86 (noLof rfl)
        have ER1 := Lib.hid (GX.out.er (Gro.one (C := uC) (y := 2 ^ i) S2 trivial))
        go_ret
        exact ⟨_, rfl, by rw [had.out, ← (show i = (fs ++ [f]).idxOf f by rw [hi.out, had.out])]; exact ER1.out⟩
end Go.Proofs.YthbkdjbmkhmlnaaDoor
namespace Go.Proofs.YthbkdjbmkhmlnaaDoor
open Go.RowKit
set_option linter.unusedVariables false

/-- A list in a variable that has been judged. -/
def JX (w0 w' : World) (xb : Nat) (ns : List Nd) (fs : List Fa) (g t : Nat) (bs lo : List GBk) (p : List Nat × Bool) : Prop :=
  ∃ A c, XS w0 w' xb ns fs p.2 ((g, #[.slice A p.1.length c], t) :: bs) ∧ LI uC w0 lo [] A p.1.length p.1 ∧ p.1.length ≤ c
section
variable {w0 w : World} {xb : Nat} {ns : List Nd} {fs : List Fa} {ex : Bool} {bs lo : List GBk} {A : Option Addr} {c g t : Nat} {L : List Nat}
theorem jx_yes (h : XS w0 w xb ns fs ex ((g, #[.slice A L.length c], t) :: bs)) (hl : LI uC w0 lo [] A L.length L) (hc : L.length ≤ c) (hf : F10.fts L = true) : JX w0 w xb ns fs g t bs lo (F10.jdg L ex) := by
  unfold F10.jdg
  rw [if_pos hf]
  exact ⟨A, c, h, hl, hc⟩
theorem jx_no (h : XS w0 w xb ns fs ex ((g, #[.slice A L.length c], t) :: bs)) (hf : F10.fts L = false) : JX w0 ((w.setCell ⟨xb, 2, none⟩ (.bool true)).setCell ⟨g, 0, none⟩ (.slice none 0 0)) xb ns fs g t bs lo (F10.jdg L ex) := by
  unfold F10.jdg
  rw [if_neg (by rw [hf]; decide)]
  exact ⟨none, 0, (h.exceed true).put 0 (.slice none 0 0) (by nofun), LI.nil_ _ _ _ _ _, Nat.le_refl _⟩
theorem judge_x (h : XS w0 w xb ns fs ex ((g, #[.slice A L.length c], t) :: bs)) (hlo : ∀ p ∈ lo, p ∈ bs) (hl : LI uC w0 lo [] A L.length L) (hc : L.length ≤ c) (hn : L.length ≤ 50000) (hL : U64 L) : Calls Tryd.prog 83 #[.pointer (some ⟨xb, 0, none⟩), .pointer (some ⟨g, 0, none⟩)] w fun e w' => e = .returned (.tuple #[]) ∧ JX w0 w' xb ns fs g t bs lo (F10.jdg L ex) := by
  obtain ⟨_, _, _, _, _, _, _, _, _, _, c2, fz, _, _⟩ := h.cells
  have hlr := (hl.mono (bs' := bs) hlo (fun p hp => hp)).lr h.st.sub
  have cg : w.cell? ⟨g, 0, none⟩ = some (.slice A L.length c) := h.st.cl 0 0 rfl rfl
  have fg := h.st.f 0 0 rfl
  cases hf : F10.fts L with
  | true =>
    refine (judge_yes L A L.length c xb g w hlr hn hL cg hf).mono ?_
    rintro e w' ⟨rfl, rfl⟩
    exact ⟨rfl, jx_yes h hl hc hf⟩
  | false =>
    refine (judge_no L A L.length c xb g ex w hlr hn hL cg fg c2 (fz 2) h.ne hf).mono ?_
    rintro e w' ⟨rfl, rfl⟩
    exact ⟨rfl, jx_no h hf⟩
theorem judgeD_x (h : XS w0 w xb ns fs ex ((g, #[.slice A L.length c], t) :: bs)) (hlo : ∀ p ∈ lo, p ∈ bs) (hl : LI uC w0 lo [] A L.length L) (hc : L.length ≤ c) (hn : L.length ≤ 50000) (hL : U64 L) : CallsD Tryd.prog 83 #[.pointer (some ⟨xb, 0, none⟩), .pointer (some ⟨g, 0, none⟩)] .returning w fun e u' w' => u' = .returning ∧ e = .returned (.tuple #[]) ∧ JX w0 w' xb ns fs g t bs lo (F10.jdg L ex) := by
  obtain ⟨_, _, _, _, _, _, _, _, _, _, c2, fz, _, _⟩ := h.cells
  have hlr := (hl.mono (bs' := bs) hlo (fun p hp => hp)).lr h.st.sub
  have cg : w.cell? ⟨g, 0, none⟩ = some (.slice A L.length c) := h.st.cl 0 0 rfl rfl
  have fg := h.st.f 0 0 rfl
  cases hf : F10.fts L with
  | true =>
    refine (judgeD_yes L A L.length c xb g w hlr hn hL cg hf).mono ?_
    rintro e u' w' ⟨rfl, rfl, rfl⟩
    exact ⟨rfl, rfl, jx_yes h hl hc hf⟩
  | false =>
    refine (judgeD_no L A L.length c xb g ex w hlr hn hL cg fg c2 (fz 2) h.ne hf).mono ?_
    rintro e u' w' ⟨rfl, rfl, rfl⟩
    exact ⟨rfl, rfl, jx_no h hf⟩
end
theorem jdg_fts (l : List Nat) (e : Bool) : F10.fts (F10.jdg l e).1 = true := by
  unfold F10.jdg; split
  · assumption
  · decide
theorem jdg_u64 {l : List Nat} (h : U64 l) (e : Bool) : U64 (F10.jdg l e).1 := by
  unfold F10.jdg; split
  · exact h
  · exact fun t ht => by cases ht
theorem jdg_nodup {l : List Nat} (h : l.Nodup) (e : Bool) : (F10.jdg l e).1.Nodup := by
  unfold F10.jdg; split
  · exact h
  · exact List.nodup_nil
theorem fts_len {l : List Nat} (h : F10.fts l = true) : l.length ≤ 32 := by
  unfold F10.fts at h
  rw [Bool.and_eq_true, decide_eq_true_eq] at h
  exact h.2
theorem raised_all {base : List Nat} (h1 : F10.fts base = true) (h2 : U64 base) (h3 : base.Nodup) (e : Bool) : ∀ k, F10.fts (F10.raised base k e).1 = true ∧ U64 (F10.raised base k e).1 ∧ (F10.raised base k e).1.Nodup
  | 0 => ⟨h1, h2, h3⟩
  | k + 1 => by
    obtain ⟨a, b, c⟩ := raised_all h1 h2 h3 e k
    show F10.fts (F10.jdg _ _).1 = true ∧ U64 (F10.jdg _ _).1 ∧ (F10.jdg _ _).1.Nodup
    exact ⟨jdg_fts _ _, jdg_u64 (u64_pls (u64_pls b h2) (u64_crs b h2)) _, jdg_nodup (F10.pls_nodup _ _ (F10.pls_nodup _ _ c)) _⟩
theorem op2_len (op : Nat) {a b : List Nat} (ha : a.length ≤ 32) (hb : b.length ≤ 32) : (F10.op2 op a b).length ≤ 50000 := by
  have h1 := pls_len b a
  have h2 := crs_len a b
  have h3 : a.length * b.length ≤ 1024 := Nat.mul_le_mul ha hb
  unfold F10.op2
  split
  · omega
  · split
    · exact Nat.le_trans (List.length_filter_le _ _) (by omega)
    · split
      · omega
      · split
        · have := pls_len (F10.crs a b) (F10.pls a b)
          unfold F10.str; omega
        · have h4 := crs_len [F10.whl a] b
          have := pls_len (F10.crs [F10.whl a] b) a
          simp at h4
          unfold F10.nst; omega

set_option maxRecDepth 100000 in
set_option maxHeartbeats 4000000 in
theorem raised_any (w0 w : World) (xb : Nat) (ns : List Nd) (fs : List Fa) (ex : Bool) (vs bs : List GBk) (A : Option Addr) (c : Nat) (L : List Nat) (k : Nat) (h : XS w0 w xb ns fs ex (vs ++ bs)) (hl : LI uC w0 bs [] A L.length L) (hc : L.length ≤ c) (hf : F10.fts L = true) (hL : U64 L) (hnd : L.Nodup) (hk : k ≤ 1000) : Calls Tryd.prog 102 #[.pointer (some ⟨xb, 0, none⟩), .slice A L.length c, .int .i64 ((k : Int) + 1)] w fun e w' => ∃ A c ob, e = .returned (.slice A (F10.raised L k ex).1.length c) ∧ (F10.raised L k ex).1.length ≤ c ∧ XS w0 w' xb ns fs (F10.raised L k ex).2 (vs ++ (bs ++ ob)) ∧ LI uC w0 (bs ++ ob) [] A (F10.raised L k ex).1.length (F10.raised L k ex).1 := by
  have h1 := Lib.hid (h.more #[.slice A L.length c] 55 (noLof rfl))
  obtain ⟨lb, hlb⟩ : ∃ b, b = w.heap.size := ⟨_, rfl⟩
  rw [← hlb] at h1
  have hall := Lib.hid (raised_all hf hL hnd ex)
  have hlh := Lib.hid hl
  have hch := Lib.hid hc
  have hLh := Lib.hid hL
  have hl32 := Lib.hid (fts_len hf)
  have hkh := Lib.hid hk
  have hpk : Hid ((((k : Int) + 1) - 1) = (k : Int)) := Lib.hid (by omega)
  clear h hl hc hf hL hnd
  go_enter Tryd.func102, Tryd.ntmps102
  go_upto_region 2 with fail
  rw [← hlb]
  obtain ⟨w1, hw1⟩ : ∃ W, W = w.alloc (.cells #[.slice A L.length c] 55) := ⟨_, rfl⟩
  rw [← hw1] at h1
  rw [← hw1]
  clear hw1 hlb
  have hbk : k ≤ 1000 := hk
  clear hk
  go_wp2
  go_loopw [11] (fun iv wr => ∃ (i : Nat) (A1 : Option Addr) (c1 : Nat) (ob : List GBk), i ≤ k ∧ iv = .int .i64 i ∧ XS w0 wr xb ns fs (F10.raised L i ex).2 ((lb, #[.slice A1 (F10.raised L i ex).1.length c1], 55) :: (vs ++ (bs ++ ob))) ∧ LI uC w0 (bs ++ ob) [] A1 (F10.raised L i ex).1.length (F10.raised L i ex).1 ∧ (F10.raised L i ex).1.length ≤ c1) (fun iv _ => k - (intOf iv).toNat)
  case atStart => exact ⟨0, A, c, [], Nat.zero_le _, rfl, by rw [List.append_nil]; exact h1.out, by rw [List.append_nil]; exact hlh.out, hch.out⟩
  case round =>
    clear h1
    obtain ⟨i, A1, c1, ob, hin, rfl, hX, hI, hci⟩ := hrel
    obtain ⟨a1, a2, a3⟩ := hall.out i
    have a4 := fts_len a1
    by_cases hlt : i < k
    · have hsucc : Hid (F10.raised L (i + 1) ex = F10.jdg (F10.op2 8 (F10.raised L i ex).1 L) (F10.raised L i ex).2) := Lib.hid rfl
      have cl : wr.cell? ⟨lb, 0, none⟩ = some (.slice A1 (F10.raised L i ex).1.length c1) := hX.st.cl 0 0 rfl rfl
      have hC := Lib.hid (combined_any (F10.raised L i ex).1 L A1 _ c1 A _ c wr 8 (by omega) ((hI.mono (bs' := vs ++ (bs ++ ob)) (fun p hp => List.mem_append_right _ hp) (fun p hp => hp)).lr hX.st.sub) hci ((hlh.out.mono (bs' := vs ++ (bs ++ ob)) (fun p hp => List.mem_append_right _ (List.mem_append_left _ hp)) (fun p hp => hp)).lr hX.st.sub) hch.out (by omega) (by have := hl32.out; omega) a2 hLh.out a3)
      have hol := Lib.hid (op2_len 8 a4 hl32.out)
      have hou : Hid (U64 (F10.op2 8 (F10.raised L i ex).1 L)) := Lib.hid (u64_op2 a2 hLh.out)
      have hih := Lib.hid hlt
      replace hX := Lib.hid hX
      clear hlt hin a1 a2 a3 a4 hI hci
      generalize F10.op2 8 (F10.raised L i ex).1 L = M at *
      generalize F10.raised L i ex = R at *
      have g1 : (i : Int) < (k : Int) := by have := hih.out; omega
      go_wp2_with fail
      refine hC.out.mono ?_
      rintro e w2 ⟨v, rfl, G⟩
      obtain ⟨A2, c2, ob2, rfl, hc2, S2, hI2⟩ := G.own (fun _ _ _ _ => trivial)
      have hX2 := hX.out.adopt S2
      rw [List.cons_append, List.append_assoc, List.append_assoc] at hX2
      have hX3 := hX2.put 0 (.slice A2 M.length c2) (by nofun)
      have hI3 := hI2 w0 (bs ++ (ob ++ ob2)) (fun p hp => List.mem_append_right _ (List.mem_append_right _ hp))
      have cl2 : w2.cell? ⟨lb, 0, none⟩ = some (.slice A1 R.1.length c1) := hX2.st.cl 0 0 rfl rfl
      have fl2 := hX2.st.f 0 0 rfl
      have hJ := Lib.hid (judge_x (t := 55) hX3 (fun p hp => List.mem_append_right _ hp) hI3 hc2 hol.out hou.out)
      clear hC G S2 hI2 hX2 hX3 hI3 hX cl
      go_wp2_with fail
      refine hJ.out.mono ?_
      rintro e w3 ⟨rfl, hJX⟩
      rw [← hsucc.out] at hJX
      replace hJX := Lib.hid hJX
      clear hJ cl2 fl2
      have hbb := hkh.out
      have hlt := hih.out
      go_wp2
      go_roundw
      case rel =>
        obtain ⟨A5, c5, q1, q2, q3⟩ := hJX.out
        exact ⟨i + 1, A5, c5, ob ++ ob2, by omega, by go_num, q1, q2, q3⟩
      case measure => simp [intOf]; omega
    · obtain rfl : i = k := by omega
      have cl : wr.cell? ⟨lb, 0, none⟩ = some (.slice A1 (F10.raised L i ex).1.length c1) := hX.st.cl 0 0 rfl rfl
      have hE := Lib.hid (show _ ∧ _ ∧ _ from ⟨hci, hX.sub, hI⟩)
      clear hX hI hci a1 a2 a3 a4 hlt hin
      go_wp2
      go_ret
      exact ⟨A1, c1, ob, rfl, hE.out⟩
end Go.Proofs.YthbkdjbmkhmlnaaDoor
namespace Go.Proofs.YthbkdjbmkhmlnaaDoor
open Go.RowKit
set_option linter.unusedVariables false

def toFa (f : F10.Fac) : Fa := ⟨⟨f.1.toArray⟩, (f.2 : Int)⟩
theorem toFa_inj {f g : F10.Fac} : toFa f = toFa g ↔ f = g := by
  constructor
  · intro h
    obtain ⟨a, b⟩ := f
    obtain ⟨c, d⟩ := g
    simp only [toFa, Fa.mk.injEq] at h
    have h1 : a = c := by
      have := congrArg (fun x : ByteArray => x.data.toList) h.1
      simpa using this
    have h2 : b = d := by have := h.2; omega
    rw [h1, h2]
  · rintro rfl; rfl
theorem toFa_mem {f : F10.Fac} {fs : List F10.Fac} : toFa f ∈ fs.map toFa ↔ f ∈ fs := by
  rw [List.mem_map]
  constructor
  · rintro ⟨g, hg, e⟩
    rw [← toFa_inj.1 e]; exact hg
  · exact fun h => ⟨f, h, rfl⟩
theorem toFa_idx (f : F10.Fac) : ∀ (fs : List F10.Fac), (fs.map toFa).idxOf (toFa f) = fs.idxOf f
  | [] => rfl
  | g :: fs => by
    rw [List.map_cons, List.idxOf_cons, List.idxOf_cons, toFa_idx f fs]
    have : (toFa g == toFa f) = (g == f) := by
      rw [Bool.eq_iff_iff, beq_iff_eq, beq_iff_eq, toFa_inj]
    rw [this]
theorem adF_map (fs : List F10.Fac) (f : F10.Fac) : adF (fs.map toFa) (toFa f) = (F10.addF fs f).map toFa := by
  unfold adF F10.addF
  by_cases h : f ∈ fs
  · rw [if_pos h, if_pos (toFa_mem.2 h)]
  · rw [if_neg h, if_neg (fun hh => h (toFa_mem.1 hh)), List.map_append]; rfl
theorem addF_len (fs : List F10.Fac) (f : F10.Fac) : (F10.addF fs f).length ≤ fs.length + 1 := by
  unfold F10.addF; split <;> simp
theorem addN_len (fs : List F10.Fac) (x : F9.Nd) : (F10.addN fs x).length ≤ fs.length + 1 := by
  unfold F10.addN; split
  · exact addF_len _ _
  · omega
theorem wf_shp : ∀ {t : F9.Tr}, t.wf → F10.shp t
  | .leaf x, h => lf_op h
  | .hat _ a, h => wf_shp (t := a) h.2.2
  | .bin op a b, h => ⟨h.1, h.2.1, wf_shp (t := a) h.2.2.1, wf_shp (t := b) h.2.2.2⟩
theorem pe_len : ∀ (t : F9.Tr) (fs : List F10.Fac) (e : Bool), (F10.pe t fs e).2.1.length ≤ fs.length + t.pre.length
  | .leaf x, fs, e => by
    unfold F10.pe
    have := addN_len fs x
    split
    · show fs.length ≤ _; omega
    · split
      · show fs.length ≤ _; omega
      · exact this
  | .hat k a, fs, e => by
    have := pe_len a fs e
    show (F10.pe a fs e).2.1.length ≤ fs.length + (a.pre.length + 1)
    omega
  | .bin op a b, fs, e => by
    have h1 := pe_len a fs e
    have h2 := pe_len b (F10.pe a fs e).2.1 (F10.pe a fs e).2.2
    show (F10.pe b (F10.pe a fs e).2.1 (F10.pe a fs e).2.2).2.1.length ≤ fs.length + ((a.pre ++ b.pre).length + 1)
    rw [List.length_append]
    omega
theorem two_pow_lt {i : Nat} (h : i < 64) : 2 ^ i < 18446744073709551616 := Nat.pow_lt_pow_right (a := 2) (by decide) h
theorem pe_ok : ∀ (t : F9.Tr), F10.shp t → ∀ (fs : List F10.Fac) (e : Bool), fs.length + t.pre.length ≤ 64 → F10.fts (F10.pe t fs e).1 = true ∧ U64 (F10.pe t fs e).1 ∧ (F10.pe t fs e).1.Nodup
  | .leaf x, h, fs, e, hl => by
    unfold F10.pe
    by_cases h3 : x.op = 3
    · rw [if_pos h3]
      exact ⟨show F10.fts [0] = true by decide, fun t ht => by rw [List.mem_singleton.1 ht]; omega, by simp⟩
    · rw [if_neg h3]
      by_cases h4 : x.op = 4
      · rw [if_pos h4]
        exact ⟨show F10.fts [] = true by decide, (fun t ht => by cases ht), by simp⟩
      · rw [if_neg h4]
        have hm : ((F10.facOf x).getD ([], 0)) ∈ F10.addN fs x := by
          obtain ⟨h1, h2⟩ := h
          unfold F10.addN F10.facOf
          by_cases h5 : x.op = 1
          · rw [if_pos h5]; exact F10.addF_mem _ _
          · rw [if_neg h5, if_pos (by omega)]; exact F10.addF_mem _ _
        have hi : (F10.addN fs x).idxOf ((F10.facOf x).getD ([], 0)) < 64 := by
          have h1 := List.idxOf_lt_length_iff.2 hm
          have h2 := addN_len fs x
          have h6 : fs.length + 1 ≤ 64 := hl
          omega
        exact ⟨F10.fts_one (F10.siz_pow _), (fun t ht => by rw [List.mem_singleton.1 ht]; exact two_pow_lt hi), by simp⟩
  | .hat k a, h, fs, e, hl => by
    have hl2 : fs.length + a.pre.length ≤ 64 := by
      have : fs.length + (a.pre.length + 1) ≤ 64 := hl
      omega
    obtain ⟨h1, h2, h3⟩ := pe_ok a h fs e hl2
    obtain ⟨a1, a2, a3⟩ := raised_all h1 h2 h3 (F10.pe a fs e).2.2 (k - 1)
    show F10.fts (F10.jdg _ _).1 = true ∧ U64 (F10.jdg _ _).1 ∧ (F10.jdg _ _).1.Nodup
    exact ⟨jdg_fts _ _, jdg_u64 a2 _, jdg_nodup a3 _⟩
  | .bin op a b, h, fs, e, hl => by
    have hl1 : fs.length + ((a.pre ++ b.pre).length + 1) ≤ 64 := hl
    rw [List.length_append] at hl1
    obtain ⟨h1, h2, h3⟩ := pe_ok a h.2.2.1 fs e (by omega)
    have h5 := pe_len a fs e
    obtain ⟨k1, k2, k3⟩ := pe_ok b h.2.2.2 (F10.pe a fs e).2.1 (F10.pe a fs e).2.2 (by omega)
    show F10.fts (F10.jdg _ _).1 = true ∧ U64 (F10.jdg _ _).1 ∧ (F10.jdg _ _).1.Nodup
    exact ⟨jdg_fts _ _, jdg_u64 (u64_op2 h2 k2) _, jdg_nodup (F10.op2_nodup h3) _⟩
theorem jdg_id {l : List Nat} (h : F10.fts l = true) (e : Bool) : F10.jdg l e = (l, e) := by unfold F10.jdg; rw [if_pos h]
end Go.Proofs.YthbkdjbmkhmlnaaDoor
namespace Go.Proofs.YthbkdjbmkhmlnaaDoor
open Go.RowKit
set_option linter.unusedVariables false

theorem res_exp (W : World) (tmps : Array Value) (g t : Nat) {v0 : Value} (ht : tmps.getD 2 undef = .pointer (some ⟨g, 0, none⟩)) (h : Cb W g #[v0] t) :
    (results Tryd.f84 tmps).run Tryd.prog W = .ok v0 W := by
  have c0 : W.cell? ⟨g, 0, none⟩ = some v0 := h.cell rfl
  have ht' : tmps[2]?.getD undef = .pointer (some ⟨g, 0, none⟩) := by rw [← ht]; simp [Array.getD_eq_getD_getElem?]
  simp [results, Tryd.results84, go_sem, ht', c0]
theorem expr_door {w0 W : World} {xb : Nat} {ns : List Nd} {fs : List Fa} {ex : Bool} {bs ob : List GBk} {nb : GBk} {A : Option Addr} {c rb : Nat} {L : List Nat} (tmps : Array Value)
    (h : XS w0 W xb ns fs ex ((rb, #[.slice A L.length c], 55) :: nb :: (bs ++ ob))) (hI : LI uC w0 ob [] A L.length L) (hc : L.length ≤ c) (hn : L.length ≤ 50000) (hL : U64 L) (ht : tmps.getD 2 undef = .pointer (some ⟨rb, 0, none⟩)) :
    Leaves Tryd.prog Tryd.f84 tmps (fun e w' => ∃ v, e = .returned v ∧ ER w0 w' xb ns fs (F10.jdg L ex).2 bs v (F10.jdg L ex).1) [{ target := .fn (.func 83) #[], args := #[.pointer (some ⟨xb, 0, none⟩), .pointer (some ⟨rb, 0, none⟩)] }] .returning W := by
  refine leaves_cons (f := 83) (args := #[.pointer (some ⟨xb, 0, none⟩), .pointer (some ⟨rb, 0, none⟩)]) (by simp) (by simp [go_sem]) ?_
  refine (judgeD_x (t := 55) (lo := ob) h (fun p hp => List.mem_cons_of_mem _ (List.mem_append_right _ hp)) hI hc hn hL).mono ?_
  rintro e u' w' ⟨rfl, rfl, A2, c2, hX, hI2, hc2⟩
  refine ⟨_, res_exp _ _ rb 55 ht (hX.st.cb 0 rfl), _, rfl, A2, c2, nb :: ob, rfl, hc2, ?_, hI2.mono (fun p hp => List.mem_cons_of_mem _ hp) (fun p hp => hp)⟩
  exact hX.sub.prm List.perm_middle.symm

theorem perm_r3 {α : Type} (a b c : α) (l : List α) : (a :: b :: c :: l).Perm (c :: b :: (l ++ [a])) :=
  ((List.perm_append_singleton a (b :: c :: l)).symm).trans (List.Perm.swap c b (l ++ [a]))
theorem XS.moreAt {w0 W : World} {xb : Nat} {ns : List Nd} {fs : List Fa} {ex : Bool} {bs : List GBk} (h : XS w0 W xb ns fs ex bs) (g : Nat) (cs : Array Value) (t : Nat) (hn : NoL cs) (hg : W.heap.size = g) : XS w0 (W.alloc (.cells cs t)) xb ns fs ex ((g, cs, t) :: bs) := by
  subst hg; exact h.more cs t hn
theorem adF_lt {fs : List Fa} {f : Fa} (h : fs.length < 64) : (adF fs f).idxOf f < 64 := by
  have hm : f ∈ adF fs f := by unfold adF; split; assumption; simp
  have h1 := List.idxOf_lt_length_iff.2 hm
  have h2 : (adF fs f).length ≤ fs.length + 1 := by unfold adF; split; omega; simp
  omega
set_option maxRecDepth 100000 in
set_option maxHeartbeats 4000000 in
theorem expr_var (w0 w : World) (xb : Nat) (ns : List Nd) (fs : List Fa) (ex : Bool) (bs : List GBk) (s : ByteArray) (k : Int) (h : XS w0 w xb (⟨1, s, k⟩ :: ns) fs ex bs) (hn : ns.length ≤ 1000) (hfl : fs.length < 64) : Calls Tryd.prog 84 #[.pointer (some ⟨xb, 0, none⟩)] w fun e w' => ∃ v, e = .returned v ∧ ER w0 w' xb ns (adF fs ⟨s, 1⟩) (F10.jdg [2 ^ (adF fs ⟨s, 1⟩).idxOf ⟨s, 1⟩] ex).2 bs v (F10.jdg [2 ^ (adF fs ⟨s, 1⟩).idxOf ⟨s, 1⟩] ex).1 := by
  have hi64 : Hid ((adF fs ⟨s, 1⟩).idxOf ⟨s, 1⟩ < 64) := Lib.hid (adF_lt hfl)
  have h1 := Lib.hid (h.more #[.slice none 0 0] 55 (noLof rfl))
  obtain ⟨rb, hrb⟩ : ∃ b, b = w.heap.size := ⟨_, rfl⟩
  rw [← hrb] at h1
  obtain ⟨w1, hw1⟩ : ∃ W, W = w.alloc (.cells #[.slice none 0 0] 55) := ⟨_, rfl⟩
  rw [← hw1] at h1
  have hN := Lib.hid (next_any w0 w1 xb ⟨1, s, k⟩ ns fs ex _ h1.out hn)
  clear h h1 hn
  go_enter_defers Tryd.func84, Tryd.ntmps84
  go_wp2_with fail
  rw [← hw1, ← hrb]
  clear hw1 hrb
  refine hN.out.mono ?_
  rintro e w2 ⟨rfl, hX⟩
  have h2 := Lib.hid (hX.more #[.int .i64 1, .string s, .int .i64 k] 39 (noLof rfl))
  obtain ⟨nb, hnb⟩ : ∃ b, b = w2.heap.size := ⟨_, rfl⟩
  rw [← hnb] at h2
  obtain ⟨w3, hw3⟩ : ∃ W, W = w2.alloc (.cells #[.int .i64 1, .string s, .int .i64 k] 39) := ⟨_, rfl⟩
  rw [← hw3] at h2
  clear hX hN
  go_upto_region 3 with fail
  rw [← hnb, ← hw3]
  clear hw3 hnb
  have n0 : w3.cell? ⟨nb, 0, none⟩ = some (.int .i64 1) := h2.out.st.cl 0 0 rfl rfl
  have n1 : w3.cell? ⟨nb, 1, none⟩ = some (.string s) := h2.out.st.cl 0 1 rfl rfl
  have n2 : w3.cell? ⟨nb, 2, none⟩ = some (.int .i64 k) := h2.out.st.cl 0 2 rfl rfl
  go_wp2_with fail
  refine (single_any w0 w3 xb ns fs ex _ ⟨s, 1⟩ h2.out hfl).mono ?_
  rintro e w4 ⟨v, rfl, A, c, ob, rfl, hc, hX4, hI⟩
  have hX5 := Lib.hid (show XS w0 w4 xb ns (adF fs ⟨s, 1⟩) ex ((rb, #[.slice none 0 0], 55) :: (nb, _, _) :: (bs ++ ob)) from hX4.prm (List.Perm.swap _ _ _))
  have r0 : w4.cell? ⟨rb, 0, none⟩ = some (.slice none 0 0) := hX5.out.st.cl 0 0 rfl rfl
  have f0 := hX5.out.st.f 0 0 rfl
  have hX6 := Lib.hid (hX5.out.put 0 (.slice A 1 c) (by nofun))
  replace hI := Lib.hid hI
  replace hc := Lib.hid hc
  clear hX4 hX5 h2 n0 n1 n2
  go_wp2
  exact expr_door _ hX6.out hI.out hc.out (by simp) (fun t ht => by rw [List.mem_singleton.1 ht]; exact two_pow_lt hi64.out) rfl

set_option maxRecDepth 100000 in
set_option maxHeartbeats 4000000 in
theorem expr_pow (w0 w : World) (xb : Nat) (ns : List Nd) (fs : List Fa) (ex : Bool) (bs : List GBk) (s : ByteArray) (k : Int) (h : XS w0 w xb (⟨2, s, k⟩ :: ns) fs ex bs) (hn : ns.length ≤ 1000) (hfl : fs.length < 64) : Calls Tryd.prog 84 #[.pointer (some ⟨xb, 0, none⟩)] w fun e w' => ∃ v, e = .returned v ∧ ER w0 w' xb ns (adF fs ⟨s, k⟩) (F10.jdg [2 ^ (adF fs ⟨s, k⟩).idxOf ⟨s, k⟩] ex).2 bs v (F10.jdg [2 ^ (adF fs ⟨s, k⟩).idxOf ⟨s, k⟩] ex).1 := by
  have hi64 : Hid ((adF fs ⟨s, k⟩).idxOf ⟨s, k⟩ < 64) := Lib.hid (adF_lt hfl)
  have h1 := Lib.hid (h.more #[.slice none 0 0] 55 (noLof rfl))
  obtain ⟨rb, hrb⟩ : ∃ b, b = w.heap.size := ⟨_, rfl⟩
  rw [← hrb] at h1
  obtain ⟨w1, hw1⟩ : ∃ W, W = w.alloc (.cells #[.slice none 0 0] 55) := ⟨_, rfl⟩
  rw [← hw1] at h1
  have hN := Lib.hid (next_any w0 w1 xb ⟨2, s, k⟩ ns fs ex _ h1.out hn)
  clear h h1 hn
  go_enter_defers Tryd.func84, Tryd.ntmps84
  go_wp2_with fail
  rw [← hw1, ← hrb]
  clear hw1 hrb
  refine hN.out.mono ?_
  rintro e w2 ⟨rfl, hX⟩
  have h2 := Lib.hid (hX.more #[.int .i64 2, .string s, .int .i64 k] 39 (noLof rfl))
  obtain ⟨nb, hnb⟩ : ∃ b, b = w2.heap.size := ⟨_, rfl⟩
  rw [← hnb] at h2
  obtain ⟨w3, hw3⟩ : ∃ W, W = w2.alloc (.cells #[.int .i64 2, .string s, .int .i64 k] 39) := ⟨_, rfl⟩
  rw [← hw3] at h2
  clear hX hN
  go_upto_region 3 with fail
  rw [← hnb, ← hw3]
  clear hw3 hnb
  have n0 : w3.cell? ⟨nb, 0, none⟩ = some (.int .i64 2) := h2.out.st.cl 0 0 rfl rfl
  have n1 : w3.cell? ⟨nb, 1, none⟩ = some (.string s) := h2.out.st.cl 0 1 rfl rfl
  have n2 : w3.cell? ⟨nb, 2, none⟩ = some (.int .i64 k) := h2.out.st.cl 0 2 rfl rfl
  go_wp2_with fail
  refine (single_any w0 w3 xb ns fs ex _ ⟨s, k⟩ h2.out hfl).mono ?_
  rintro e w4 ⟨v, rfl, A, c, ob, rfl, hc, hX4, hI⟩
  have hX5 := Lib.hid (show XS w0 w4 xb ns (adF fs ⟨s, k⟩) ex ((rb, #[.slice none 0 0], 55) :: (nb, _, _) :: (bs ++ ob)) from hX4.prm (List.Perm.swap _ _ _))
  have r0 : w4.cell? ⟨rb, 0, none⟩ = some (.slice none 0 0) := hX5.out.st.cl 0 0 rfl rfl
  have f0 := hX5.out.st.f 0 0 rfl
  have hX6 := Lib.hid (hX5.out.put 0 (.slice A 1 c) (by nofun))
  replace hI := Lib.hid hI
  replace hc := Lib.hid hc
  clear hX4 hX5 h2 n0 n1 n2
  go_wp2
  exact expr_door _ hX6.out hI.out hc.out (by simp) (fun t ht => by rw [List.mem_singleton.1 ht]; exact two_pow_lt hi64.out) rfl

set_option maxRecDepth 100000 in
set_option maxHeartbeats 4000000 in
theorem expr_one (w0 w : World) (xb : Nat) (ns : List Nd) (fs : List Fa) (ex : Bool) (bs : List GBk) (s : ByteArray) (k : Int) (h : XS w0 w xb (⟨3, s, k⟩ :: ns) fs ex bs) (hn : ns.length ≤ 1000)  : Calls Tryd.prog 84 #[.pointer (some ⟨xb, 0, none⟩)] w fun e w' => ∃ v, e = .returned v ∧ ER w0 w' xb ns fs (F10.jdg [0] ex).2 bs v (F10.jdg [0] ex).1 := by
  have h1 := Lib.hid (h.more #[.slice none 0 0] 55 (noLof rfl))
  obtain ⟨rb, hrb⟩ : ∃ b, b = w.heap.size := ⟨_, rfl⟩
  rw [← hrb] at h1
  obtain ⟨w1, hw1⟩ : ∃ W, W = w.alloc (.cells #[.slice none 0 0] 55) := ⟨_, rfl⟩
  rw [← hw1] at h1
  have hN := Lib.hid (next_any w0 w1 xb ⟨3, s, k⟩ ns fs ex _ h1.out hn)
  clear h h1 hn
  go_enter_defers Tryd.func84, Tryd.ntmps84
  go_wp2_with fail
  rw [← hw1, ← hrb]
  clear hw1 hrb
  refine hN.out.mono ?_
  rintro e w2 ⟨rfl, hX⟩
  have h2 := Lib.hid (hX.more #[.int .i64 3, .string s, .int .i64 k] 39 (noLof rfl))
  obtain ⟨nb, hnb⟩ : ∃ b, b = w2.heap.size := ⟨_, rfl⟩
  rw [← hnb] at h2
  obtain ⟨w3, hw3⟩ : ∃ W, W = w2.alloc (.cells #[.int .i64 3, .string s, .int .i64 k] 39) := ⟨_, rfl⟩
  rw [← hw3] at h2
  clear hX hN
  go_upto_region 3 with fail
  rw [← hnb, ← hw3]
  clear hw3 hnb
  have n0 : w3.cell? ⟨nb, 0, none⟩ = some (.int .i64 3) := h2.out.st.cl 0 0 rfl rfl
  have n1 : w3.cell? ⟨nb, 1, none⟩ = some (.string s) := h2.out.st.cl 0 1 rfl rfl
  have n2 : w3.cell? ⟨nb, 2, none⟩ = some (.int .i64 k) := h2.out.st.cl 0 2 rfl rfl
  have r0 : w3.cell? ⟨rb, 0, none⟩ = some (.slice none 0 0) := h2.out.st.cl 1 0 rfl rfl
  have f0 := h2.out.st.f 1 0 rfl
  have hlt := h2.out.st.lt 1 rfl
  have hX5 := Lib.hid (show XS w0 w3 xb ns fs ex ((rb, #[.slice none 0 0], 55) :: (nb, _, _) :: bs) from h2.out.prm (List.Perm.swap _ _ _))
  have hX6 := hX5.out.put 0 (.slice (some ⟨w3.heap.size, 0, none⟩) 1 1) (by nofun)
  have hX7 := Lib.hid (show XS w0 _ xb ns fs ex ((rb, #[.slice (some ⟨w3.heap.size, 0, none⟩) 1 1], 55) :: (nb, _, _) :: (bs ++ [(w3.heap.size, #[.int .u64 0], 86)])) from (hX6.moreAt w3.heap.size #[.int .u64 0] 86 (noLof rfl) (by simp)).prm (List.perm_append_singleton _ _).symm)
  have hI : Hid (LI uC w0 [(w3.heap.size, #[.int .u64 0], 86)] [] (some ⟨w3.heap.size, 0, none⟩) 1 [0]) := Lib.hid (LI.blk (C := uC) (L := [0]) (t := 86) List.mem_cons_self (fun _ _ => trivial))
  clear hX5 hX6 h2 n1 n2
  go_wp2
  exact expr_door _ hX7.out hI.out (by simp) (by simp) (fun t ht => by rw [List.mem_singleton.1 ht]; omega) rfl

set_option maxRecDepth 100000 in
set_option maxHeartbeats 4000000 in
theorem expr_zero (w0 w : World) (xb : Nat) (ns : List Nd) (fs : List Fa) (ex : Bool) (bs : List GBk) (s : ByteArray) (k : Int) (h : XS w0 w xb (⟨4, s, k⟩ :: ns) fs ex bs) (hn : ns.length ≤ 1000)  : Calls Tryd.prog 84 #[.pointer (some ⟨xb, 0, none⟩)] w fun e w' => ∃ v, e = .returned v ∧ ER w0 w' xb ns fs (F10.jdg [] ex).2 bs v (F10.jdg [] ex).1 := by
  have h1 := Lib.hid (h.more #[.slice none 0 0] 55 (noLof rfl))
  obtain ⟨rb, hrb⟩ : ∃ b, b = w.heap.size := ⟨_, rfl⟩
  rw [← hrb] at h1
  obtain ⟨w1, hw1⟩ : ∃ W, W = w.alloc (.cells #[.slice none 0 0] 55) := ⟨_, rfl⟩
  rw [← hw1] at h1
  have hN := Lib.hid (next_any w0 w1 xb ⟨4, s, k⟩ ns fs ex _ h1.out hn)
  clear h h1 hn
  go_enter_defers Tryd.func84, Tryd.ntmps84
  go_wp2_with fail
  rw [← hw1, ← hrb]
  clear hw1 hrb
  refine hN.out.mono ?_
  rintro e w2 ⟨rfl, hX⟩
  have h2 := Lib.hid (hX.more #[.int .i64 4, .string s, .int .i64 k] 39 (noLof rfl))
  obtain ⟨nb, hnb⟩ : ∃ b, b = w2.heap.size := ⟨_, rfl⟩
  rw [← hnb] at h2
  obtain ⟨w3, hw3⟩ : ∃ W, W = w2.alloc (.cells #[.int .i64 4, .string s, .int .i64 k] 39) := ⟨_, rfl⟩
  rw [← hw3] at h2
  clear hX hN
  go_upto_region 3 with fail
  rw [← hnb, ← hw3]
  clear hw3 hnb
  have n0 : w3.cell? ⟨nb, 0, none⟩ = some (.int .i64 4) := h2.out.st.cl 0 0 rfl rfl
  have n1 : w3.cell? ⟨nb, 1, none⟩ = some (.string s) := h2.out.st.cl 0 1 rfl rfl
  have n2 : w3.cell? ⟨nb, 2, none⟩ = some (.int .i64 k) := h2.out.st.cl 0 2 rfl rfl
  have r0 : w3.cell? ⟨rb, 0, none⟩ = some (.slice none 0 0) := h2.out.st.cl 1 0 rfl rfl
  have f0 := h2.out.st.f 1 0 rfl
  have hX5 := Lib.hid (show XS w0 w3 xb ns fs ex ((rb, #[.slice none 0 0], 55) :: (nb, _, _) :: (bs ++ [])) from (by rw [List.append_nil]; exact h2.out.prm (List.Perm.swap _ _ _)))
  have hX6 := Lib.hid (hX5.out.put 0 (.slice none 0 0) (by nofun))
  clear hX5 h2 n1 n2
  go_wp2
  exact expr_door (L := []) _ hX6.out (LI.nil_ _ _ _ _ _) (Nat.le_refl _) (by simp) (fun t ht => by cases ht) rfl
end Go.Proofs.YthbkdjbmkhmlnaaDoor
namespace Go.Proofs.YthbkdjbmkhmlnaaDoor
open Go.RowKit
set_option linter.unusedVariables false

section
variable {P : Program} {ops : Array Oper} {Q : Exit → Act → World → Prop} {S : World → Prop}
/-- A step that only looks, behind the variables. -/
theorem Wk.t {L : Array Bool} {a : Act} {w : World} {i : Nat} {oi : Oper} {v : Value} (dst : Option Nat) (hi : ops[i]? = some oi) (hd : oi.dst = dst := by rfl) (hc : takeOk ops [] L i oi = true := by kernel_rfl) (hw : Region.wanted oi (yielded ops a.tmps) = true := by kernel_rfl)
    (hQ : ∀ c a w, Q (.panic c) (Act.put a dst v) w → Q (.panic c) a w := by exact fun _ _ _ h => h) (hy : ∀ w, S w → (execOp a.eval oi).run P w = .ok (.value v) w) (hS : S w)
    (h : Wk P ops Q S (L.setIfInBounds i true) (a.put dst v) w) : Wk P ops Q S L a w := by
  simp only [takeOk, Bool.and_eq_true, Bool.not_eq_true'] at hc
  obtain ⟨⟨⟨⟨c1, c2⟩, c3⟩, _⟩, _⟩ := hc
  subst hd
  exact Wk.take hi c1 c2 (by simpa using c3) hQ (.inl ⟨hw, hy⟩) hS h
theorem Wk.g {i : Nat} {o : Oper} {L : Array Bool} {a : Act} {w : World} (ho : ops[i]? = some o) (hr : (Region.ready .any ops L == [i]) = true) (hw : Region.wanted o (yielded ops a.tmps) = true)
    (h : ∀ K' : Act → World → Prop, Shut (∀ a w, S w → Wk P ops Q S (L.setIfInBounds i true) a w → K' a w) → Oper.wp P o a w K' Q) : Wk P ops Q S L a w :=
  Wk.one (by simpa using hr) ho hw fun K' hK => h K' (fun a w hS hW => hK.out a w hS fun _ => hW)
end
theorem res_put (tmps : Array Value) (i : Nat) (v : Value) (hi : i ≠ 2) : results Tryd.f84 (tmps.setIfInBounds i v) = results Tryd.f84 tmps := by
  have h : (tmps.setIfInBounds i v)[2]?.getD undef = tmps[2]?.getD undef := by rw [Array.getElem?_setIfInBounds_ne hi]
  simp only [results, Tryd.results84]
  simp [h]
theorem lv_put {R : Ending → World → Prop} {tmps : Array Value} {i : Nat} {v : Value} (hi : i ≠ 2) : ∀ (ds : List Deferred) (u : FrameMode) (w : World), Leaves Tryd.prog Tryd.f84 (tmps.setIfInBounds i v) R ds u w → Leaves Tryd.prog Tryd.f84 tmps R ds u w
  | [], .returning, w, ⟨x, h1, h2⟩ => ⟨x, by rw [← res_put tmps i v hi]; exact h1, h2⟩
  | [], .panicking chain, w, h => h
  | [], .run, _, h => h
  | d :: ds, u, w, ⟨hu, fv, cap, f, args, h1, h2, hC⟩ => by
    refine ⟨hu, fv, cap, f, args, h1, h2, hC.mono ?_⟩
    intro e u' w' h
    cases e with
    | returned x => exact lv_put hi ds _ _ h
    | panicked chain => exact lv_put hi ds _ _ h
    | outgrown => exact h
theorem XS.drew {w0 W : World} {xb : Nat} {ns : List Nd} {fs : List Fa} {ex : Bool} {bs : List GBk} (h : XS w0 W xb ns fs ex bs) : XS w0 W.drew xb ns fs ex bs := by
  obtain ⟨A, c, fv, h1, h2, G⟩ := h
  exact ⟨A, c, fv, h1, h2, G.drew⟩

set_option maxRecDepth 100000 in
set_option maxHeartbeats 4000000 in
theorem expr_hat (w0 w : World) (xb : Nat) (ns : List Nd) (fs : List Fa) (ex : Bool) (bs : List GBk) (s : ByteArray) (kk : Nat) (ns1 : List Nd) (fs1 : List Fa) (ex1 : Bool) (LA : List Nat) (h : XS w0 w xb (⟨10, s, (kk : Int) + 1⟩ :: ns) fs ex bs) (hn : ns.length ≤ 1000) (hkk : kk ≤ 1000) (hE : ∀ W bs', XS w0 W xb ns fs ex bs' → Calls Tryd.prog 84 #[.pointer (some ⟨xb, 0, none⟩)] W fun e w' => ∃ v, e = .returned v ∧ ER w0 w' xb ns1 fs1 ex1 bs' v LA) (hq : F10.fts LA = true ∧ U64 LA ∧ LA.Nodup) : Calls Tryd.prog 84 #[.pointer (some ⟨xb, 0, none⟩)] w fun e w' => ∃ v, e = .returned v ∧ ER w0 w' xb ns1 fs1 (F10.jdg (F10.raised LA kk ex1).1 (F10.raised LA kk ex1).2).2 bs v (F10.jdg (F10.raised LA kk ex1).1 (F10.raised LA kk ex1).2).1 := by
  replace hkk := Lib.hid hkk
  replace hE := Lib.hid hE
  replace hq := Lib.hid hq
  have h1 := Lib.hid (h.more #[.slice none 0 0] 55 (noLof rfl))
  obtain ⟨rb, hrb⟩ : ∃ b, b = w.heap.size := ⟨_, rfl⟩
  rw [← hrb] at h1
  obtain ⟨w1, hw1⟩ : ∃ W, W = w.alloc (.cells #[.slice none 0 0] 55) := ⟨_, rfl⟩
  rw [← hw1] at h1
  have hN := Lib.hid (next_any w0 w1 xb ⟨10, s, (kk : Int) + 1⟩ ns fs ex _ h1.out hn)
  clear h h1 hn
  go_enter_defers Tryd.func84, Tryd.ntmps84
  go_wp2_with fail
  rw [← hw1, ← hrb]
  clear hw1 hrb
  refine hN.out.mono ?_
  rintro e w2 ⟨rfl, hX⟩
  have h2 := Lib.hid (hX.more #[.int .i64 10, .string s, .int .i64 ((kk : Int) + 1)] 39 (noLof rfl))
  obtain ⟨nb, hnb⟩ : ∃ b, b = w2.heap.size := ⟨_, rfl⟩
  rw [← hnb] at h2
  obtain ⟨w3, hw3⟩ : ∃ W, W = w2.alloc (.cells #[.int .i64 10, .string s, .int .i64 ((kk : Int) + 1)] 39) := ⟨_, rfl⟩
  rw [← hw3] at h2
  clear hX hN
  go_upto_region 3 with fail
  rw [← hnb, ← hw3]
  clear hw3 hnb
  have n0 : w3.cell? ⟨nb, 0, none⟩ = some (.int .i64 10) := h2.out.st.cl 0 0 rfl rfl
  have n1 : w3.cell? ⟨nb, 1, none⟩ = some (.string s) := h2.out.st.cl 0 1 rfl rfl
  have n2 : w3.cell? ⟨nb, 2, none⟩ = some (.int .i64 ((kk : Int) + 1)) := h2.out.st.cl 0 2 rfl rfl
  have r0 : w3.cell? ⟨rb, 0, none⟩ = some (.slice none 0 0) := h2.out.st.cl 1 0 rfl rfl
  go_upto_region 13 with fail
  clear n0 n1 r0
  refine Wk.start (S := fun V => V.cell? ⟨nb, 2, none⟩ = some (.int .i64 ((kk : Int) + 1))) (by kernel_rfl) ?_
  have h3 := Lib.hid h2.out.drew
  have m2 : (w3.drew).cell? ⟨nb, 2, none⟩ = some (.int .i64 ((kk : Int) + 1)) := h3.out.st.cl 0 2 rfl rfl
  generalize w3.drew = w4 at *
  clear h2 n2
  refine Wk.t (i := 0) (v := .pointer (some ⟨xb, 0, none⟩)) (some 33) at0 (hQ := fun _ _ _ h => lv_put (by decide) _ _ _ h) (hy := fun _ _ => by go_simp) (hS := m2) (h := ?_)
  refine Wk.t (i := 1) (v := .pointer (some ⟨xb, 0, none⟩)) (some 34) at1 (hQ := fun _ _ _ h => lv_put (by decide) _ _ _ h) (hy := fun _ _ => by go_simp) (hS := m2) (h := ?_)
  refine Wk.t (i := 3) (v := .pointer (some ⟨nb, 2, none⟩)) (some 36) at3 (hQ := fun _ _ _ h => lv_put (by decide) _ _ _ h) (hy := fun _ _ => by go_simp) (hS := m2) (h := ?_)
  refine Wk.t (i := 4) (v := .int .i64 ((kk : Int) + 1)) (some 37) at4 (hQ := fun _ _ _ h => lv_put (by decide) _ _ _ h) (hy := fun V hS => by (have k0 : V.cell? ⟨nb, 2, none⟩ = some (.int .i64 ((kk : Int) + 1)) := hS; clear hS; go_simp)) (hS := m2) (h := ?_)
  try simp only [Act.put, List.setIfInBounds_toArray, List.set_cons_zero, List.set_cons_succ]
  refine Wk.g (i := 2) at2 (by kernel_rfl) (by kernel_rfl) fun K' hK => ?_
  refine oper_call (f := 84) (args := #[.pointer (some ⟨xb, 0, none⟩)]) rfl (by kernel_rfl) ((hE.out _ _ h3.out).mono ?_)
  rintro e w5 ⟨v, rfl, A, c, ob, rfl, hc, hX4, hI⟩
  refine ⟨_, rfl, hK.out _ _ (hX4.st.cl 0 2 rfl rfl) ?_⟩
  clear hK K' m2 h3
  try simp only [Act.put, List.setIfInBounds_toArray, List.set_cons_zero, List.set_cons_succ]
  refine Wk.g (i := 5) at5 (by kernel_rfl) (by kernel_rfl) fun K' hK => ?_
  refine oper_call (f := 102) (args := #[.pointer (some ⟨xb, 0, none⟩), .slice A LA.length c, .int .i64 ((kk : Int) + 1)]) rfl (by kernel_rfl) ((raised_any w0 w5 xb ns1 fs1 ex1 (_ :: _ :: bs) ob A c LA kk hX4 hI hc hq.out.1 hq.out.2.1 hq.out.2.2 hkk.out).mono ?_)
  rintro e w6 ⟨A2, c2, ob2, rfl, hc2, hX5, hI5⟩
  refine ⟨_, rfl, hK.out _ _ (hX5.st.cl 0 2 rfl rfl) ?_⟩
  clear hK K' hX4 hI hc
  try simp only [Act.put, List.setIfInBounds_toArray, List.set_cons_zero, List.set_cons_succ]
  have hra := raised_all hq.out.1 hq.out.2.1 hq.out.2.2 ex1 kk
  have hln := fts_len hra.1
  have hru := Lib.hid hra.2.1
  replace hln := Lib.hid hln
  clear hra
  have hX6 := Lib.hid (show XS w0 w6 xb ns1 fs1 (F10.raised LA kk ex1).2 ((rb, #[.slice none 0 0], 55) :: (nb, _, _) :: (bs ++ (ob ++ ob2))) from hX5.prm (List.Perm.swap _ _ _))
  have r0 : w6.cell? ⟨rb, 0, none⟩ = some (.slice none 0 0) := hX6.out.st.cl 0 0 rfl rfl
  have f0 := hX6.out.st.f 0 0 rfl
  have hX7 := Lib.hid (hX6.out.put 0 (.slice A2 (F10.raised LA kk ex1).1.length c2) (by nofun))
  replace hI5 := Lib.hid hI5
  replace hc2 := Lib.hid hc2
  clear hX5 hX6
  refine Wk.o (i := 6) at6 (by kernel_rfl) fun K' hK => ?_
  go_simp
  refine hK.out _ _ (hX7.out.st.cl 1 2 rfl rfl) ?_
  clear hK K' r0 f0
  try simp only [Act.put, List.setIfInBounds_toArray, List.set_cons_zero, List.set_cons_succ]
  refine Wk.done (by kernel_rfl) ?_
  try go_simp
  go_wp2
  exact expr_door _ hX7.out hI5.out hc2.out (by have := hln.out; omega) hru.out rfl

set_option maxRecDepth 100000 in
set_option maxHeartbeats 4000000 in
theorem expr_bin (w0 w : World) (xb : Nat) (ns : List Nd) (fs : List Fa) (ex : Bool) (bs : List GBk) (op : Nat) (s : ByteArray) (k : Int) (ns1 : List Nd) (fs1 : List Fa) (ex1 : Bool) (L1 : List Nat) (ns2 : List Nd) (fs2 : List Fa) (ex2 : Bool) (L2 : List Nat) (h : XS w0 w xb (⟨(op : Int), s, k⟩ :: ns) fs ex bs) (hn : ns.length ≤ 1000) (hop : 5 ≤ op ∧ op ≤ 9) (hEa : ∀ W bs', XS w0 W xb ns fs ex bs' → Calls Tryd.prog 84 #[.pointer (some ⟨xb, 0, none⟩)] W fun e w' => ∃ v, e = .returned v ∧ ER w0 w' xb ns1 fs1 ex1 bs' v L1) (hq1 : F10.fts L1 = true ∧ U64 L1 ∧ L1.Nodup) (hEb : ∀ W bs', XS w0 W xb ns1 fs1 ex1 bs' → Calls Tryd.prog 84 #[.pointer (some ⟨xb, 0, none⟩)] W fun e w' => ∃ v, e = .returned v ∧ ER w0 w' xb ns2 fs2 ex2 bs' v L2) (hq2 : F10.fts L2 = true ∧ U64 L2 ∧ L2.Nodup) : Calls Tryd.prog 84 #[.pointer (some ⟨xb, 0, none⟩)] w fun e w' => ∃ v, e = .returned v ∧ ER w0 w' xb ns2 fs2 (F10.jdg (F10.op2 op L1 L2) ex2).2 bs v (F10.jdg (F10.op2 op L1 L2) ex2).1 := by
  replace hop := Lib.hid hop
  replace hEa := Lib.hid hEa
  replace hEb := Lib.hid hEb
  replace hq1 := Lib.hid hq1
  replace hq2 := Lib.hid hq2
  have h1 := Lib.hid (h.more #[.slice none 0 0] 55 (noLof rfl))
  obtain ⟨rb, hrb⟩ : ∃ b, b = w.heap.size := ⟨_, rfl⟩
  rw [← hrb] at h1
  obtain ⟨w1, hw1⟩ : ∃ W, W = w.alloc (.cells #[.slice none 0 0] 55) := ⟨_, rfl⟩
  rw [← hw1] at h1
  have hN := Lib.hid (next_any w0 w1 xb ⟨(op : Int), s, k⟩ ns fs ex _ h1.out hn)
  clear h h1 hn
  go_enter_defers Tryd.func84, Tryd.ntmps84
  go_wp2_with fail
  rw [← hw1, ← hrb]
  clear hw1 hrb
  refine hN.out.mono ?_
  rintro e w2 ⟨rfl, hX⟩
  have h2 := Lib.hid (hX.more #[.int .i64 (op : Int), .string s, .int .i64 k] 39 (noLof rfl))
  obtain ⟨nb, hnb⟩ : ∃ b, b = w2.heap.size := ⟨_, rfl⟩
  rw [← hnb] at h2
  obtain ⟨w3, hw3⟩ : ∃ W, W = w2.alloc (.cells #[.int .i64 (op : Int), .string s, .int .i64 k] 39) := ⟨_, rfl⟩
  rw [← hw3] at h2
  clear hX hN
  go_upto_region 3 with fail
  rw [← hnb, ← hw3]
  clear hw3 hnb
  have n0 : w3.cell? ⟨nb, 0, none⟩ = some (.int .i64 (op : Int)) := h2.out.st.cl 0 0 rfl rfl
  have n1 : w3.cell? ⟨nb, 1, none⟩ = some (.string s) := h2.out.st.cl 0 1 rfl rfl
  have n2 : w3.cell? ⟨nb, 2, none⟩ = some (.int .i64 k) := h2.out.st.cl 0 2 rfl rfl
  have r0 : w3.cell? ⟨rb, 0, none⟩ = some (.slice none 0 0) := h2.out.st.cl 1 0 rfl rfl
  have e1 : ((op : Int) == 1) = false := by have := hop.out; rw [beq_eq_false_iff_ne]; omega
  have e2 : ((op : Int) == 2) = false := by have := hop.out; rw [beq_eq_false_iff_ne]; omega
  have e3 : ((op : Int) == 3) = false := by have := hop.out; rw [beq_eq_false_iff_ne]; omega
  have e4 : ((op : Int) == 4) = false := by have := hop.out; rw [beq_eq_false_iff_ne]; omega
  have e5 : ((op : Int) == 10) = false := by have := hop.out; rw [beq_eq_false_iff_ne]; omega
  have hE1 := Lib.hid (hEa.out _ _ h2.out)
  clear h2
  go_wp2_with fail
  clear n0 n1 n2 r0 e1 e2 e3 e4 e5
  refine hE1.out.mono ?_
  rintro e w4 ⟨v, rfl, A, c, ob, rfl, hc, hX4, hI⟩
  replace hX4 := Lib.hid hX4
  replace hI := Lib.hid hI
  replace hc := Lib.hid hc
  clear hE1
  go_upto_region 15 with fail
  refine Wk.start (S := fun V => V.cell? ⟨nb, 0, none⟩ = some (.int .i64 (op : Int))) (by kernel_rfl) ?_
  have h3 := Lib.hid hX4.out.drew
  have m2 : (w4.drew).cell? ⟨nb, 0, none⟩ = some (.int .i64 (op : Int)) := h3.out.st.cl 0 0 rfl rfl
  generalize w4.drew = w5 at *
  clear hX4
  refine Wk.t (i := 0) (v := .pointer (some ⟨nb, 0, none⟩)) (some 41) at0 (hQ := fun _ _ _ h => lv_put (by decide) _ _ _ h) (hy := fun _ _ => by go_simp) (hS := m2) (h := ?_)
  refine Wk.t (i := 1) (v := .int .i64 (op : Int)) (some 42) at1 (hQ := fun _ _ _ h => lv_put (by decide) _ _ _ h) (hy := fun V hS => by (have k0 : V.cell? ⟨nb, 0, none⟩ = some (.int .i64 (op : Int)) := hS; clear hS; go_simp)) (hS := m2) (h := ?_)
  refine Wk.t (i := 2) (v := .slice A L1.length c) (some 43) at2 (hQ := fun _ _ _ h => lv_put (by decide) _ _ _ h) (hy := fun _ _ => by go_simp) (hS := m2) (h := ?_)
  refine Wk.t (i := 3) (v := .pointer (some ⟨xb, 0, none⟩)) (some 44) at3 (hQ := fun _ _ _ h => lv_put (by decide) _ _ _ h) (hy := fun _ _ => by go_simp) (hS := m2) (h := ?_)
  try simp only [Act.put, List.setIfInBounds_toArray, List.set_cons_zero, List.set_cons_succ]
  refine Wk.g (i := 4) at4 (by kernel_rfl) (by kernel_rfl) fun K' hK => ?_
  refine oper_call (f := 84) (args := #[.pointer (some ⟨xb, 0, none⟩)]) rfl (by kernel_rfl) ((hEb.out _ _ h3.out).mono ?_)
  rintro e w6 ⟨v, rfl, B, d, ob2, rfl, hd, hX5, hI2⟩
  refine ⟨_, rfl, hK.out _ _ (hX5.st.cl 0 0 rfl rfl) ?_⟩
  clear hK K' m2 h3
  try simp only [Act.put, List.setIfInBounds_toArray, List.set_cons_zero, List.set_cons_succ]
  have hla := ((hI.out.mono (bs' := _) (fun p hp => List.mem_append_left ob2 (List.mem_append_right (_ :: _ :: bs) hp)) (fun p hp => hp)).lr hX5.st)
  have hlb := ((hI2.mono (bs' := _) (fun p hp => List.mem_append_right ((_ :: _ :: bs) ++ ob) hp) (fun p hp => hp)).lr hX5.st)
  have l1 := fts_len hq1.out.1
  have l2 := fts_len hq2.out.1
  refine Wk.g (i := 5) at5 (by kernel_rfl) (by kernel_rfl) fun K' hK => ?_
  refine oper_call (f := 85) (args := #[.int .i64 (op : Int), .slice A L1.length c, .slice B L2.length d]) rfl (by kernel_rfl) ((combined_any L1 L2 A L1.length c B L2.length d w6 op hop.out hla hc.out hlb hd (by omega) (by omega) hq1.out.2.1 hq2.out.2.1 hq1.out.2.2).mono ?_)
  rintro e w7 ⟨v, rfl, G⟩
  obtain ⟨A2, c2, ob3, rfl, hc2, S2, hI3⟩ := G.own (fun _ _ _ _ => trivial)
  have hX6 := hX5.adopt S2
  refine ⟨_, rfl, hK.out _ _ (hX6.st.cl 0 0 rfl rfl) ?_⟩
  clear hK K' hX5 hI hI2 hc hd hla hlb G S2
  try simp only [Act.put, List.setIfInBounds_toArray, List.set_cons_zero, List.set_cons_succ]
  have hol := Lib.hid (op2_len op l1 l2)
  have hou : Hid (U64 (F10.op2 op L1 L2)) := Lib.hid (u64_op2 hq1.out.2.1 hq2.out.2.1)
  have hI5 := Lib.hid (hI3 w0 (ob ++ (ob2 ++ ob3)) (fun p hp => List.mem_append_right _ (List.mem_append_right _ hp)))
  clear l1 l2 hI3
  have hX7 := Lib.hid (show XS w0 w7 xb ns2 fs2 ex2 ((rb, #[.slice none 0 0], 55) :: (nb, _, _) :: (bs ++ (ob ++ (ob2 ++ ob3)))) from (by
    rw [List.append_assoc, List.append_assoc] at hX6
    exact hX6.prm (List.Perm.swap _ _ _)))
  have r0 : w7.cell? ⟨rb, 0, none⟩ = some (.slice none 0 0) := hX7.out.st.cl 0 0 rfl rfl
  have f0 := hX7.out.st.f 0 0 rfl
  have hX8 := Lib.hid (hX7.out.put 0 (.slice A2 (F10.op2 op L1 L2).length c2) (by nofun))
  replace hc2 := Lib.hid hc2
  clear hX6 hX7
  refine Wk.o (i := 6) at6 (by kernel_rfl) fun K' hK => ?_
  go_simp
  refine hK.out _ _ (hX8.out.st.cl 1 0 rfl rfl) ?_
  clear hK K' r0 f0
  try simp only [Act.put, List.setIfInBounds_toArray, List.set_cons_zero, List.set_cons_succ]
  refine Wk.done (by kernel_rfl) ?_
  try go_simp
  go_wp2
  exact expr_door _ hX8.out hI5.out hc2.out hol.out hou.out rfl
end Go.Proofs.YthbkdjbmkhmlnaaDoor
