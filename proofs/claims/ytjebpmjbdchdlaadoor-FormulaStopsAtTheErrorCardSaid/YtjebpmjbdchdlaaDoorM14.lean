/- Valid formulas are trees; the program's Format. -/
import Derived.Test.YtjebpmjbdchdlaaDoorM13
namespace Go.Proofs.YtjebpmjbdchdlaaDoor
open Go.RowKit
set_option linter.unusedVariables false

/-- A node of memory as one of the grammar's. -/
def ofNd (x : Nd) : F9.Nd := ⟨x.o.toNat, x.s.data.toList, x.k.toNat⟩
theorem bs_of (s : ByteArray) : (⟨s.data.toList.toArray⟩ : ByteArray) = s := by simp
theorem of_to (y : F9.Nd) : ofNd (toNd y) = y := by
  obtain ⟨op, nm, k⟩ := y
  simp [ofNd, toNd]
theorem to_of {x : Nd} (h1 : 0 ≤ x.o) (h2 : 0 ≤ x.k) : toNd (ofNd x) = x := by
  obtain ⟨o, s, k⟩ := x
  simp only at h1 h2
  simp [ofNd, toNd, Int.toNat_of_nonneg h1, Int.toNat_of_nonneg h2]
theorem emp_of (s : ByteArray) : s.toList.isEmpty = true ↔ s.data.toList = [] := by
  rw [Lib.toList_data, List.isEmpty_iff]
theorem nod_ok {x : Nd} (h : nodB x = true) : F9.okN (ofNd x) ∧ toNd (ofNd x) = x := by
  unfold nodB at h
  simp only [Bool.and_eq_true, decide_eq_true_eq] at h
  obtain ⟨⟨h1, h2⟩, h3⟩ := h
  have ho : ((ofNd x).op : Int) = x.o := by show ((x.o.toNat : Nat) : Int) = x.o; omega
  have hnm : (ofNd x).nm = x.s.data.toList := rfl
  unfold fldB at h3
  by_cases a1 : x.o = 1
  · rw [if_pos a1] at h3
    simp only [Bool.and_eq_true, decide_eq_true_eq] at h3
    have hk : ((ofNd x).k : Int) = x.k := by show ((x.k.toNat : Nat) : Int) = x.k; omega
    exact ⟨.inl (.inl ⟨by omega, h3.1.1, by omega⟩), to_of (by omega) h3.1.2⟩
  · rw [if_neg a1] at h3
    by_cases a2 : x.o = 2
    · rw [if_pos a2] at h3
      simp only [Bool.and_eq_true, decide_eq_true_eq] at h3
      have hk : ((ofNd x).k : Int) = x.k := by show ((x.k.toNat : Nat) : Int) = x.k; omega
      exact ⟨.inl (.inr (.inl ⟨by omega, h3.1.1, by omega, by omega⟩)), to_of (by omega) (by omega)⟩
    · rw [if_neg a2] at h3
      by_cases a3 : x.o = 10
      · rw [if_pos a3] at h3
        simp only [Bool.and_eq_true, decide_eq_true_eq] at h3
        have hk : ((ofNd x).k : Int) = x.k := by show ((x.k.toNat : Nat) : Int) = x.k; omega
        exact ⟨.inr (.inl ⟨by omega, by rw [hnm]; exact (emp_of x.s).1 h3.1.1, by omega, by omega⟩), to_of (by omega) (by omega)⟩
      · rw [if_neg a3] at h3
        simp only [Bool.and_eq_true, decide_eq_true_eq] at h3
        have hk : ((ofNd x).k : Int) = x.k := by show ((x.k.toNat : Nat) : Int) = x.k; omega
        have he : (ofNd x).nm = [] := by rw [hnm]; exact (emp_of x.s).1 h3.1.1
        refine ⟨?_, to_of (by omega) (by omega)⟩
        by_cases a4 : x.o ≤ 4
        · exact .inl (.inr (.inr ⟨by omega, he, by omega⟩))
        · exact .inr (.inr ⟨by omega, by omega, he, by omega⟩)
theorem ok_nod {y : F9.Nd} (h : F9.okN y) : nodB (toNd y) = true := by
  obtain ⟨op, nm, k⟩ := y
  have hn : nameB (⟨nm.toArray⟩ : ByteArray) = nameL nm := by unfold nameB; simp
  have he : (⟨([] : List UInt8).toArray⟩ : ByteArray).toList.isEmpty = true := (emp_of _).2 rfl
  unfold nodB fldB toNd
  simp only at h ⊢
  rcases h with (⟨h1, h2, h3⟩ | ⟨h1, h2, h3, h4⟩ | ⟨h1, h2, h3⟩) | ⟨h1, h2, h3, h4⟩ | ⟨h1, h2, h3, h4⟩
  · simp only at h1 h2 h3
    subst h1 h3
    simp [hn, h2]
  · simp only at h1 h2 h3 h4
    subst h1
    simp [hn, h2]
    omega
  · simp only at h1 h2 h3
    subst h2 h3
    rcases h1 with rfl | rfl <;> simp
  · simp only at h1 h2 h3 h4
    subst h1 h2
    simp
    omega
  · simp only at h1 h2 h3 h4
    subst h3 h4
    have hc : op = 5 ∨ op = 6 ∨ op = 7 ∨ op = 8 ∨ op = 9 := by omega
    rcases hc with rfl | rfl | rfl | rfl | rfl <;> simp
theorem exc_cnt : ∀ (L : List Nd) (m : Nat), excB (m : Int) L = true → F9.cntP m (L.map ofNd) ∧ (L.map ofNd).map toNd = L
  | [], m, h => by
    unfold excB at h
    rw [beq_iff_eq] at h
    exact ⟨by show m = 0; omega, rfl⟩
  | x :: L, m, h => by
    unfold excB at h
    simp only [Bool.and_eq_true, Bool.not_eq_true', beq_eq_false_iff_ne] at h
    obtain ⟨⟨h1, h2⟩, h3⟩ := h
    obtain ⟨k1, k2⟩ := nod_ok h2
    have hop := okN_op k1
    have e : (x.o : Int) = ((ofNd x).op : Nat) := by rw [← congrArg Nd.o k2]; rfl
    have ea : ariB x.o = (F9.ari (ofNd x).op : Nat) := by rw [e]; exact ari_eq hop.1 hop.2
    rw [ea, show (m : Int) + (((F9.ari (ofNd x).op : Nat) : Int) - 1) = ((m - 1 + F9.ari (ofNd x).op : Nat) : Int) by omega] at h3
    obtain ⟨r1, r2⟩ := exc_cnt L _ h3
    exact ⟨⟨by omega, k1, r1⟩, by rw [List.map_cons, List.map_cons, k2, r2]⟩
theorem cnt_exc : ∀ (l : List F9.Nd) (m : Nat), F9.cntP m l → excB (m : Int) (l.map toNd) = true
  | [], m, h => by
    have : m = 0 := h
    subst this
    rfl
  | x :: l, m, h => by
    obtain ⟨h1, h2, h3⟩ := h
    have hop := okN_op h2
    have ea : ariB (toNd x).o = (F9.ari x.op : Nat) := ari_eq hop.1 hop.2
    have r := cnt_exc l _ h3
    rw [List.map_cons]
    unfold excB
    rw [ea, show (m : Int) + (((F9.ari x.op : Nat) : Int) - 1) = ((m - 1 + F9.ari x.op : Nat) : Int) by omega, r, ok_nod h2]
    simp
    omega
/-- A valid formula's nodes are a tree's. -/
theorem frm_tree {s : ByteArray} {L : List Nd} (h : frmB s L = true) : ∃ tr : F9.Tr, tr.wf ∧ L = tr.pre.map toNd := by
  unfold frmB at h
  simp only [Bool.and_eq_true] at h
  obtain ⟨r1, r2⟩ := exc_cnt L 1 h.2
  obtain ⟨tr, h1, h2⟩ := (F9.expr_iff _).1 r1
  exact ⟨tr, h1, by rw [← h2, r2]⟩
theorem tree_frm {s : ByteArray} {tr : F9.Tr} (h : tr.wf) (hs : nameB s = true) (hl : tr.pre.length ≤ 64) : frmB s (tr.pre.map toNd) = true := by
  unfold frmB
  have := cnt_exc tr.pre 1 ((F9.expr_iff _).2 ⟨tr, h, rfl⟩)
  rw [hs, decide_eq_true (by rw [List.length_map]; exact hl)]
  simpa using this
theorem frm_len {s : ByteArray} {L : List Nd} (h : frmB s L = true) : L.length ≤ 64 ∧ nameB s = true := by
  unfold frmB at h
  simp only [Bool.and_eq_true, decide_eq_true_eq] at h
  exact ⟨h.1.2, h.1.1⟩
/-- What a formula is written as: the text, the error. -/
def FmtV (s : ByteArray) (L : List Nd) (r : ByteArray) (er : Int) : Prop :=
  (frmB s L = false ∧ r = ⟨#[]⟩ ∧ er = 4) ∨ (frmB s L = true ∧ ∃ tr : F9.Tr, tr.wf ∧ L = tr.pre.map toNd ∧ r = s ++ ⟨#[32, 126, 32]⟩ ++ bsA tr.wr ∧ er = 0)

set_option maxRecDepth 100000 in
set_option maxHeartbeats 4000000 in
theorem format_any (s : ByteArray) (L : List Nd) (A : Option Addr) (c : Nat) (w : World) (h : LR ndC w A L.length L) (hcc : L.length ≤ c) (hs : s.size ≤ 1000) (hn : ∀ x ∈ L, x.s.size ≤ 1000) (hl : L.length ≤ 100000) (hO : Og w) : Calls Tryd.prog 8 #[.agg #[.string s, .slice A L.length c]] w fun e w' => (∃ r er, e = .returned (.tuple #[.string r, .int .i64 er]) ∧ FmtV s L r er) ∧ Below w.heap.size w w' := by
  have hV : Hid (∀ W, Below w.heap.size w W → Calls Tryd.prog 16 #[.agg #[.string s, .slice A L.length c]] W fun e w' => e = .returned (.bool (frmB s L)) ∧ Below W.heap.size W w') := Lib.hid fun W hB => valid_any s L A L.length c W (h.bel hB) hl (hO.bel hB)
  have S0 := Lib.hid ((St.new w).allocAt w.heap.size #[.string s, .slice A L.length c] 25 (noLof rfl) rfl)
  cases hf : frmB s L with
  | false =>
    have hfh := Lib.hid hf
    rw [hf] at hV
    clear hf h hcc hs hn hl hO
    go_enter Tryd.func8, Tryd.ntmps8
    go_wp2_with fail
    refine (hV.out _ S0.out.bel).mono ?_
    rintro e w1 ⟨rfl, hB⟩
    have hB2 := Lib.hid (S0.out.bel.trans (hB.mono S0.out.bel.size))
    clear hV hB S0
    go_wp2
    go_ret2
    exact ⟨⟨_, _, rfl, .inl ⟨hfh.out, rfl, rfl⟩⟩, hB2.out⟩
  | true =>
    obtain ⟨tr, hw, hL⟩ := frm_tree hf
    have hlen := frm_len hf
    have hW : Hid (∀ W, Below w.heap.size w W → Calls Tryd.prog 17 #[.slice A L.length c] W fun e w' => e = .returned (.string (bsA tr.wr)) ∧ Below W.heap.size W w') := Lib.hid fun W hB => by
      have hpl : tr.pre.length = L.length := by rw [hL, List.length_map]
      have h1 := written_any tr.pre tr.wr tr.rank (by rw [F9.ph_pre tr hw]; rfl) (by have := okF_pre tr hw [] trivial; rwa [List.append_nil] at this) (pre_ok tr hw) (fun x hx => by
        have := hn (toNd x) (by rw [hL]; exact List.mem_map_of_mem hx)
        have e : (toNd x).s.size = x.nm.length := bsA_size x.nm
        omega) (by have := hlen.1; omega) A c W (by rw [hpl, ← hL]; exact h.bel hB) (by omega) (hO.bel hB)
      rw [hpl] at h1
      exact h1
    have hwl : tr.wr.length ≤ 99000 := by
      have h1 := PH_tot (N := tr.pre) (by have := okF_pre tr hw [] trivial; rwa [List.append_nil] at this) (fun x hx => by
        have := hn (toNd x) (by rw [hL]; exact List.mem_map_of_mem hx)
        have e : (toNd x).s.size = x.nm.length := bsA_size x.nm
        omega) (by have := hlen.1; rw [hL, List.length_map] at this; omega) tr.pre.length
      rw [PH_all, F9.ph_pre tr hw] at h1
      exact h1.1 (tr.wr, tr.rank) (by simp)
    have hfin : Hid (FmtV s L (s ++ ⟨#[32, 126, 32]⟩ ++ bsA tr.wr) 0) := Lib.hid (.inr ⟨hf, tr, hw, hL, rfl, rfl⟩)
    have hws : (bsA tr.wr).size ≤ 99000 := by rw [bsA_size]; exact hwl
    rw [hf] at hV
    clear hf hw hL hlen hwl hn hO h hcc hl
    generalize bsA tr.wr = wv at *
    generalize L.length = n at *
    go_enter Tryd.func8, Tryd.ntmps8
    go_wp2_with fail
    refine (hV.out _ S0.out.bel).mono ?_
    rintro e w1 ⟨rfl, hB⟩
    have S1 := Lib.hid (S0.out.call hB)
    clear hV hB S0
    go_upto_region 3 with fail
    have c_0 := S1.out.cl 0 0 rfl rfl
    have c_1 := S1.out.cl 0 1 rfl rfl
    obtain ⟨bx, hbx⟩ : ∃ b, b = w.heap.size := ⟨_, rfl⟩
    rw [← hbx] at c_0 c_1
    rw [← hbx]
    clear hbx
    have hbase := Lib.hid (St.new w1)
    refine RW.begin (Z := []) (S := (fun W => Below w1.heap.size w1 W)) (by kernel_rfl) ?_ hbase.out ?_
    · exact ⟨by kernel_rfl, zis_nil, by decide, by decide, nol_nil, (fun _ _ h => h.bel)⟩
    intro hzk
    refine RW.t (i := 0) (v := .pointer (some ⟨bx, 0, none⟩)) (some 7) at0 (hy := fun _ _ => by go_simp) (h := ?_)
    refine RW.t (i := 1) (v := .string s) (some 8) at1 (hy := fun W hS => by (have k0 := bel_cell hS c_0; clear hS; go_simp)) (h := ?_)
    refine RW.t (i := 2) (v := .string (s ++ ⟨#[32, 126, 32]⟩)) (some 9) at2 (hy := fun _ _ => by (go_simp; try omega)) (h := ?_)
    refine RW.t (i := 3) (v := .pointer (some ⟨bx, 1, none⟩)) (some 10) at3 (hy := fun _ _ => by go_simp) (h := ?_)
    refine RW.t (i := 4) (v := .slice A n c) (some 11) at4 (hy := fun W hS => by (have k0 := bel_cell hS c_1; clear hS; go_simp)) (h := ?_)
    refine RW.c (i := 5) (args := #[.slice A n c]) (some 12) hzk.out at5 (hx := fun _ => by kernel_rfl) (h := fun W S => (hW.out W (S1.out.bel.trans (S.bel.mono S1.out.bel.size))).mono ?_)
    rintro e w9 ⟨rfl, hB9⟩
    refine ⟨hB9, _, [], rfl, (fun r hr => by cases hr), ?_⟩
    clear hB9
    refine RW.t (i := 6) (v := .string (s ++ ⟨#[32, 126, 32]⟩ ++ wv)) (some 13) at6 (hy := fun _ _ => by (go_simp; try omega)) (h := ?_)
    refine RW.tail hzk.out (by kernel_rfl) ?_
    intro gs' w5 hgs' hS Sb
    obtain rfl := len0 hgs'
    simp only [mark, fill, Act.put, List.setIfInBounds_toArray, List.set_cons_zero, List.set_cons_succ]
    refine Wk.o (i := 7) at7 (by kernel_rfl) fun K' hK => ?_
    go_simp
    refine hK.out _ _ hS ?_
    clear hK K'
    try simp only [Act.put, List.setIfInBounds_toArray, List.set_cons_zero, List.set_cons_succ]
    refine Wk.o (i := 8) at8 (by kernel_rfl) fun K' hK => ?_
    go_simp
    refine hK.out _ _ hS ?_
    clear hK K'
    try simp only [Act.put, List.setIfInBounds_toArray, List.set_cons_zero, List.set_cons_succ]
    refine Wk.done (by kernel_rfl) ?_
    have S5 := Lib.hid ((S1.out.call hS).bel)
    clear Sb hgs' hzk hbase hS S1 c_0 c_1 hW
    try go_simp
    go_wp2
    go_ret2
    exact ⟨⟨_, _, rfl, hfin.out⟩, S5.out⟩
end Go.Proofs.YtjebpmjbdchdlaaDoor
