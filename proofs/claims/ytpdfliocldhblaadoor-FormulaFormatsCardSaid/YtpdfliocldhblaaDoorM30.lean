/- The reference's write and Format. -/
import Derived.Test.YtpdfliocldhblaaDoorM29
namespace Go.Proofs.YtpdfliocldhblaaDoor
open Go.RowKit
set_option linter.unusedVariables false

set_option maxRecDepth 100000 in
set_option maxHeartbeats 4000000 in
theorem wr_leaf (x : F9.Nd) (hx : F9.lfN x) : WrC (.leaf x) := by
  intro Pr Qr A n c w h hn hl
  have hat : (Pr ++ (F9.Tr.leaf x).pre.map toNd ++ Qr)[Pr.length]? = some (toNd x) := by rw [List.append_assoc, List.getElem?_append_right (Nat.le_refl _), Nat.sub_self]; rfl
  have hl2 : (F9.lfW x).length ≤ 99000 := hl
  show Calls Tryd.prog 48 _ w fun e w' => e = .returned (.string (bsA (F9.lfW x))) ∧ _
  obtain ⟨op, nm, k⟩ := x
  have hlt : Pr.length < n := by have := (List.getElem?_eq_some_iff.1 hat).1; have e := h.len; omega
  have h0 := Lib.hid h
  obtain ⟨b, o, y, rfl, hy, _, a0, a1, a2⟩ := nd_get h hlt
  rw [hat] at hy
  injection hy with hy
  subst hy
  have b0 : w.cell? ⟨b, o + Pr.length * 3, none⟩ = some (.int .i64 (op : Nat)) := a0
  have b1 : w.cell? ⟨b, o + Pr.length * 3 + 1, none⟩ = some (.string (bsA nm)) := a1
  have b2 : w.cell? ⟨b, o + Pr.length * 3 + 2, none⟩ = some (.int .i64 (k : Nat)) := a2
  have g1 : (Pr.length : Int) < (n : Int) := by omega
  have g2 : (0 : Int) ≤ (Pr.length : Int) := by omega
  clear a0 a1 a2 h hat
  rcases hx with ⟨q1, _, q3⟩ | ⟨q1, _, q3, q4⟩ | ⟨q1, q2, q3⟩
  · simp only at q1 q3
    subst q1; subst q3
    have hr : bsA (F9.lfW ⟨1, nm, 0⟩) = bsA nm := rfl
    rw [hr]
    clear hl hl2 hr
    generalize bsA nm = s at *
    go_enter Tryd.func48, Tryd.ntmps48
    go_wp2
    go_ret
    exact ⟨rfl, (Below.refl w.heap.size w).alloc (Nat.le_refl _) _⟩
  · simp only at q1 q3 q4
    subst q1
    have hnl : nm.length ≤ 99000 := by have e : F9.lfW ⟨2, nm, k⟩ = [112, 111, 119, 101, 114, 40] ++ nm ++ [44, 32] ++ F9.dg k ++ [41] := rfl; rw [e] at hl2; simp only [List.length_append] at hl2; omega
    have hr : bsA (F9.lfW ⟨2, nm, k⟩) = (((⟨#[112, 111, 119, 101, 114, 40]⟩ ++ bsA nm) ++ ⟨#[44, 32]⟩) ++ bsA (F9.dg k)) ++ ⟨#[41]⟩ := by
      rw [bsA_lit [112, 111, 119, 101, 114, 40], bsA_lit [44, 32], bsA_lit [41], bsA_app, bsA_app, bsA_app, bsA_app]; rfl
    rw [hr]
    have hs1 : (bsA nm).size ≤ 99000 := by rw [bsA_size]; exact hnl
    have hd1 : (bsA (F9.dg k)).size ≤ 1 := by rw [bsA_size]; simp [F9.dg]
    have hD : Hid (∀ W, Calls Tryd.prog 85 #[.int .i64 (k : Nat)] W fun e w' => e = .returned (.string (bsA (F9.dg k))) ∧ Below W.heap.size W w') := Lib.hid fun W => digit9_any k (by omega) W
    clear hl hl2 hr hnl
    generalize bsA nm = s at *
    generalize bsA (F9.dg k) = d at *
    have S1 := Lib.hid ((St.new w).allocAt w.heap.size #[.int .i64 2, .string s, .int .i64 (k : Nat)] 38 (noLof rfl) rfl)
    go_enter Tryd.func48, Tryd.ntmps48
    go_upto_region 6 with fail
    obtain ⟨W1, hW1⟩ : ∃ W1, W1 = w.alloc (.cells #[.int .i64 2, .string s, .int .i64 (k : Nat)] 38) := ⟨_, rfl⟩
    obtain ⟨bx, hbx⟩ : ∃ b, b = w.heap.size := ⟨_, rfl⟩
    rw [← hW1] at S1 ⊢
    rw [← hbx] at S1 ⊢
    have c_0 := S1.out.cl 0 0 rfl rfl
    have c_1 := S1.out.cl 0 1 rfl rfl
    have c_2 := S1.out.cl 0 2 rfl rfl
    clear hW1 hbx b0 b1 b2 g1 g2
    have hbase := Lib.hid (St.new W1)
    refine RW.begin (Z := []) (S := (fun V => Below W1.heap.size W1 V)) (by kernel_rfl) ?_ hbase.out ?_
    · exact ⟨by kernel_rfl, zis_nil, by decide, by decide, nol_nil, (fun _ _ h => h.bel)⟩
    intro hzk
    refine RW.t (i := 0) (v := .pointer (some ⟨bx, 1, none⟩)) (some 19) at0 (hy := fun _ _ => by go_simp) (h := ?_)
    refine RW.t (i := 1) (v := .string s) (some 20) at1 (hy := fun V hS => by (have k0 := bel_cell hS c_1; clear hS; go_simp)) (h := ?_)
    refine RW.t (i := 2) (v := .string (⟨#[112, 111, 119, 101, 114, 40]⟩ ++ s)) (some 21) at2 (hy := fun _ _ => by (go_simp; try omega)) (h := ?_)
    refine RW.t (i := 3) (v := .string ((⟨#[112, 111, 119, 101, 114, 40]⟩ ++ s) ++ ⟨#[44, 32]⟩)) (some 22) at3 (hy := fun _ _ => by (go_simp; try omega)) (h := ?_)
    refine RW.t (i := 4) (v := .pointer (some ⟨bx, 2, none⟩)) (some 23) at4 (hy := fun _ _ => by go_simp) (h := ?_)
    refine RW.t (i := 5) (v := .int .i64 (k : Nat)) (some 24) at5 (hy := fun V hS => by (have k0 := bel_cell hS c_2; clear hS; go_simp)) (h := ?_)
    refine RW.c (i := 6) (args := #[.int .i64 (k : Nat)]) (some 25) hzk.out at6 (hx := fun _ => by kernel_rfl) (h := fun Z S => (hD.out Z).mono ?_)
    rintro e w9 ⟨rfl, hB9⟩
    refine ⟨hB9, _, [], rfl, (fun r hr => by cases hr), ?_⟩
    clear hB9
    refine RW.t (i := 7) (v := .string (((⟨#[112, 111, 119, 101, 114, 40]⟩ ++ s) ++ ⟨#[44, 32]⟩) ++ d)) (some 26) at7 (hy := fun _ _ => by (go_simp; try omega)) (h := ?_)
    refine RW.t (i := 8) (v := .string ((((⟨#[112, 111, 119, 101, 114, 40]⟩ ++ s) ++ ⟨#[44, 32]⟩) ++ d) ++ ⟨#[41]⟩)) (some 27) at8 (hy := fun _ _ => by (go_simp; try omega)) (h := ?_)
    refine RW.tail hzk.out (by kernel_rfl) ?_
    intro gs' wz hgs' hS Sb
    obtain rfl := len0 hgs'
    simp only [mark, fill, Act.put, List.setIfInBounds_toArray, List.set_cons_zero, List.set_cons_succ]
    refine Wk.o (i := 9) at9 (by kernel_rfl) fun K' hK => ?_
    go_simp
    refine hK.out _ _ hS ?_
    clear hK K'
    try simp only [Act.put, List.setIfInBounds_toArray, List.set_cons_zero, List.set_cons_succ]
    refine Wk.done (by kernel_rfl) ?_
    have hEnd := Lib.hid (S1.out.call hS).bel
    clear Sb hgs' hzk hbase hS
    try go_simp
    go_wp2
    go_ret
    exact ⟨rfl, hEnd.out⟩
  · simp only at q1 q2 q3
    subst q3
    clear hl hl2
    rcases q1 with rfl | rfl
    · generalize bsA nm = s at *
      go_enter Tryd.func48, Tryd.ntmps48
      go_wp2
      go_ret
      exact ⟨rfl, (Below.refl w.heap.size w).alloc (Nat.le_refl _) _⟩
    · generalize bsA nm = s at *
      go_enter Tryd.func48, Tryd.ntmps48
      go_wp2
      go_ret
      exact ⟨rfl, (Below.refl w.heap.size w).alloc (Nat.le_refl _) _⟩
set_option maxRecDepth 100000 in
set_option maxHeartbeats 4000000 in
theorem wr_hat (k : Nat) (a : F9.Tr) (hk : k ≤ 9) (ha : a.wf) (ih : WrC a) : WrC (.hat k a) := by
  intro Pr Qr A n c w h hn hl
  have hat : (Pr ++ (F9.Tr.hat k a).pre.map toNd ++ Qr)[Pr.length]? = some (toNd ⟨10, [], k⟩) := by rw [List.append_assoc, List.getElem?_append_right (Nat.le_refl _), Nat.sub_self]; rfl
  have hwe : (F9.Tr.hat k a).wr = F9.encl (a.wr, a.rank) 4 ++ [94] ++ F9.dg k := rfl
  have hel : (F9.encl (a.wr, a.rank) 4).length ≤ 99000 := by rw [hwe] at hl; simp only [List.length_append] at hl; omega
  have hen : ∀ (t : F9.Tr) (k : Nat), t.wr.length ≤ (F9.encl (t.wr, t.rank) k).length := fun t k => by unfold F9.encl; split <;> simp <;> omega
  have hal : a.wr.length ≤ 99000 := Nat.le_trans (hen a _) hel
  have hre : Pr ++ (F9.Tr.hat k a).pre.map toNd ++ Qr = (Pr ++ [toNd ⟨10, [], k⟩]) ++ a.pre.map toNd ++ Qr := by simp [F9.Tr.pre]
  have hB : Hid (∀ W, Below w.heap.size w W → Calls Tryd.prog 86 #[.slice A n c, .int .i64 ((Pr.length : Nat) + 1 : Int), .int .i64 4] W fun e w' => e = .returned (.string (bsA (F9.encl (a.wr, a.rank) 4))) ∧ Below W.heap.size W w') := Lib.hid fun W hb => by
    have h1 := h.bel hb
    rw [hre] at h1
    have := brk_any a ha ih (Pr ++ [toNd ⟨10, [], k⟩]) Qr A n c 4 W h1 hn hal
    rw [List.length_append] at this
    exact this
  rw [hwe, ← bsA_app, ← bsA_app]
  have hs1 : (bsA (F9.encl (a.wr, a.rank) 4)).size ≤ 99000 := by rw [bsA_size]; exact hel
  have hd1 : (bsA (F9.dg k)).size ≤ 1 := by rw [bsA_size]; simp [F9.dg]
  have hD : Hid (∀ W, Calls Tryd.prog 85 #[.int .i64 (k : Nat)] W fun e w' => e = .returned (.string (bsA (F9.dg k))) ∧ Below W.heap.size W w') := Lib.hid fun W => digit9_any k hk W
  clear hl hwe hel hal hre hen
  have hlt : Pr.length < n := by have := (List.getElem?_eq_some_iff.1 hat).1; have e := h.len; omega
  have h0 := Lib.hid h
  obtain ⟨b, o, y, rfl, hy, _, a0, a1, a2⟩ := nd_get h hlt
  rw [hat] at hy
  injection hy with hy
  subst hy
  have b0 : w.cell? ⟨b, o + Pr.length * 3, none⟩ = some (.int .i64 10) := a0
  have b1 : w.cell? ⟨b, o + Pr.length * 3 + 1, none⟩ = some (.string (bsA [])) := a1
  have b2 : w.cell? ⟨b, o + Pr.length * 3 + 2, none⟩ = some (.int .i64 (k : Nat)) := a2
  have g1 : (Pr.length : Int) < (n : Int) := by omega
  have g2 : (0 : Int) ≤ (Pr.length : Int) := by omega
  clear a0 a1 a2 h hat
  generalize bsA (F9.encl (a.wr, a.rank) 4) = E1 at *
  generalize bsA (F9.dg k) = d at *
  generalize hs0 : bsA [] = s0 at *
  clear hs0
  have hcaret : bsA [94] = ⟨#[94]⟩ := rfl
  rw [hcaret]
  clear hcaret
  have hp9 : Pr.length ≤ 100000 := by omega
  generalize Pr.length = p at *
  have S1 := Lib.hid ((St.new w).allocAt w.heap.size #[.int .i64 10, .string s0, .int .i64 (k : Nat)] 38 (noLof rfl) rfl)
  go_enter Tryd.func48, Tryd.ntmps48
  go_upto_region 12 with fail
  obtain ⟨W1, hW1⟩ : ∃ W1, W1 = w.alloc (.cells #[.int .i64 10, .string s0, .int .i64 (k : Nat)] 38) := ⟨_, rfl⟩
  obtain ⟨bx, hbx⟩ : ∃ b, b = w.heap.size := ⟨_, rfl⟩
  rw [← hW1] at S1 ⊢
  rw [← hbx] at S1 ⊢
  have c_0 := S1.out.cl 0 0 rfl rfl
  have c_1 := S1.out.cl 0 1 rfl rfl
  have c_2 := S1.out.cl 0 2 rfl rfl
  clear hW1 hbx b0 b1 b2 g1 g2
  replace hB := Lib.hid (fun V (hV : Below W1.heap.size W1 V) => hB.out V (S1.out.bel.trans (hV.mono S1.out.bel.size)))
  have hbase := Lib.hid (St.new W1)
  refine RW.begin (Z := []) (S := (fun V => Below W1.heap.size W1 V)) (by kernel_rfl) ?_ hbase.out ?_
  · exact ⟨by kernel_rfl, zis_nil, by decide, by decide, nol_nil, (fun _ _ h => h.bel)⟩
  intro hzk
  refine RW.t (i := 0) (v := .slice (some ⟨b, o, none⟩) n c) (some 34) at0 (hy := fun _ _ => by kernel_rfl) (h := ?_)
  refine RW.t (i := 1) (v := .int .i64 (p : Nat)) (some 35) at1 (hy := fun _ _ => by kernel_rfl) (h := ?_)
  refine RW.t (i := 2) (v := .int .i64 ((p : Nat) + 1 : Int)) (some 36) at2 (hy := fun _ _ => by (go_simp; first | done | (unfold wrap64; omega) | (simp [IntKind.wrap, IntKind.bits]; omega))) (h := ?_)
  refine RW.t (i := 5) (v := .pointer (some ⟨bx, 2, none⟩)) (some 39) at5 (hy := fun _ _ => by go_simp) (h := ?_)
  refine RW.t (i := 6) (v := .int .i64 (k : Nat)) (some 40) at6 (hy := fun V hS => by (have k0 := bel_cell hS c_2; clear hS; go_simp)) (h := ?_)
  refine RW.c (i := 3) (args := #[.slice (some ⟨b, o, none⟩) n c, .int .i64 ((p : Nat) + 1 : Int), .int .i64 4]) (some 37) hzk.out at3 (hx := fun _ => by kernel_rfl) (h := fun Z S => (hB.out Z S.bel).mono ?_)
  rintro e w9 ⟨rfl, hB9⟩
  refine ⟨hB9, _, [], rfl, (fun r hr => by cases hr), ?_⟩
  clear hB9
  refine RW.t (i := 4) (v := .string (E1 ++ ⟨#[94]⟩)) (some 38) at4 (hy := fun _ _ => by (go_simp; try omega)) (h := ?_)
  refine RW.c (i := 7) (args := #[.int .i64 (k : Nat)]) (some 41) hzk.out at7 (hx := fun _ => by kernel_rfl) (h := fun Z S => (hD.out Z).mono ?_)
  rintro e w9 ⟨rfl, hB9⟩
  refine ⟨hB9, _, [], rfl, (fun r hr => by cases hr), ?_⟩
  clear hB9
  refine RW.t (i := 8) (v := .string ((E1 ++ ⟨#[94]⟩) ++ d)) (some 42) at8 (hy := fun _ _ => by (go_simp; try omega)) (h := ?_)
  refine RW.tail hzk.out (by kernel_rfl) ?_
  intro gs' wz hgs' hS Sb
  obtain rfl := len0 hgs'
  simp only [mark, fill, Act.put, List.setIfInBounds_toArray, List.set_cons_zero, List.set_cons_succ]
  refine Wk.o (i := 9) at9 (by kernel_rfl) fun K' hK => ?_
  go_simp
  refine hK.out _ _ hS ?_
  clear hK K'
  try simp only [Act.put, List.setIfInBounds_toArray, List.set_cons_zero, List.set_cons_succ]
  refine Wk.done (by kernel_rfl) ?_
  have hEnd := Lib.hid (S1.out.call hS).bel
  clear Sb hgs' hzk hbase hS
  try go_simp
  go_wp2
  go_ret
  exact ⟨rfl, hEnd.out⟩
set_option maxRecDepth 100000 in
set_option maxHeartbeats 4000000 in
theorem wr_bin (op : Nat) (a b' : F9.Tr) (h5 : 5 ≤ op) (h9 : op ≤ 9) (ha : a.wf) (hb' : b'.wf) (iha : WrC a) (ihb : WrC b') : WrC (.bin op a b') := by
  intro Pr Qr A n c w h hn hl
  have hat : (Pr ++ (F9.Tr.bin op a b').pre.map toNd ++ Qr)[Pr.length]? = some (toNd ⟨op, [], 0⟩) := by rw [List.append_assoc, List.getElem?_append_right (Nat.le_refl _), Nat.sub_self]; rfl
  have hwe : (F9.Tr.bin op a b').wr = F9.encl (a.wr, a.rank) (F9.rul op) ++ F9.sgn op ++ F9.encl (b'.wr, b'.rank) (F9.rul op + 1) := rfl
  have hel : (F9.encl (a.wr, a.rank) (F9.rul op)).length ≤ 99000 ∧ (F9.encl (b'.wr, b'.rank) (F9.rul op + 1)).length ≤ 99000 := by rw [hwe] at hl; simp only [List.length_append] at hl; omega
  have hen : ∀ (t : F9.Tr) (k : Nat), t.wr.length ≤ (F9.encl (t.wr, t.rank) k).length := fun t k => by unfold F9.encl; split <;> simp <;> omega
  have hal : a.wr.length ≤ 99000 := Nat.le_trans (hen a _) hel.1
  have hbl : b'.wr.length ≤ 99000 := Nat.le_trans (hen b' _) hel.2
  have hra : Pr ++ (F9.Tr.bin op a b').pre.map toNd ++ Qr = (Pr ++ [toNd ⟨op, [], 0⟩]) ++ a.pre.map toNd ++ (b'.pre.map toNd ++ Qr) := by simp [F9.Tr.pre]
  have hrb : Pr ++ (F9.Tr.bin op a b').pre.map toNd ++ Qr = (Pr ++ [toNd ⟨op, [], 0⟩] ++ a.pre.map toNd) ++ b'.pre.map toNd ++ Qr := by simp [F9.Tr.pre]
  obtain ⟨q, hq⟩ : ∃ q, q = Pr.length + 1 + a.pre.length := ⟨_, rfl⟩
  have hB1 : Hid (∀ W, Below w.heap.size w W → Calls Tryd.prog 86 #[.slice A n c, .int .i64 ((Pr.length : Nat) + 1 : Int), .int .i64 (F9.rul op : Nat)] W fun e w' => e = .returned (.string (bsA (F9.encl (a.wr, a.rank) (F9.rul op)))) ∧ Below W.heap.size W w') := Lib.hid fun W hb => by
    have h1 := h.bel hb
    rw [hra] at h1
    have := brk_any a ha iha (Pr ++ [toNd ⟨op, [], 0⟩]) (b'.pre.map toNd ++ Qr) A n c (F9.rul op) W h1 hn hal
    rw [List.length_append] at this
    exact this
  have hB2 : Hid (∀ W, Below w.heap.size w W → Calls Tryd.prog 86 #[.slice A n c, .int .i64 (q : Nat), .int .i64 ((F9.rul op : Nat) + 1 : Int)] W fun e w' => e = .returned (.string (bsA (F9.encl (b'.wr, b'.rank) (F9.rul op + 1)))) ∧ Below W.heap.size W w') := Lib.hid fun W hb => by
    have h1 := h.bel hb
    rw [hrb] at h1
    have := brk_any b' hb' ihb (Pr ++ [toNd ⟨op, [], 0⟩] ++ a.pre.map toNd) Qr A n c (F9.rul op + 1) W h1 hn hbl
    rw [show (Pr ++ [toNd ⟨op, [], 0⟩] ++ a.pre.map toNd).length = q by rw [List.length_append, List.length_append, List.length_map, hq]; rfl] at this
    exact this
  have hqn : Pr.length + 1 ≤ n := by have := (List.getElem?_eq_some_iff.1 hat).1; have e := h.len; omega
  have hE : Hid (∀ W, Below w.heap.size w W → Calls Tryd.prog 52 #[.slice A n c, .int .i64 ((Pr.length : Nat) + 1 : Int)] W fun e w' => e = .returned (.int .i64 (q : Nat)) ∧ w' = W) := Lib.hid fun W hb => by
    have := end_any _ A n c (Pr.length + 1) W (h.bel hb) hn hqn
    rw [hra, show ((Pr ++ [toNd ⟨op, [], 0⟩]) ++ a.pre.map toNd ++ (b'.pre.map toNd ++ Qr)).drop (Pr.length + 1) = a.pre.map toNd ++ (b'.pre.map toNd ++ Qr) by rw [List.append_assoc]; exact List.drop_left' (by simp)] at this
    have he := end_tree a ha (b'.pre.map toNd ++ Qr) (Pr.length + 1) 1 (Nat.le_refl _)
    rw [if_pos rfl, ← hq] at he
    have he' : endB 1 (a.pre.map toNd ++ (b'.pre.map toNd ++ Qr)) (Pr.length + 1) = (q : Int) := he
    rw [he'] at this
    exact this
  have hR : Hid (∀ W, Calls Tryd.prog 87 #[.int .i64 (op : Nat)] W fun e w' => e = .returned (.int .i64 (F9.rul op : Nat)) ∧ w' = W) := Lib.hid fun W => by
    have := rrank_any (op : Nat) W
    obtain ⟨x, l, hx, hr⟩ := tree_root (.bin op a b') ⟨h5, h9, ha, hb'⟩
    have hxo : x = ⟨op, [], 0⟩ := by have e : (F9.Tr.bin op a b').pre = ⟨op, [], 0⟩ :: (a.pre ++ b'.pre) := rfl; rw [e] at hx; injection hx with hx _; exact hx.symm
    rw [hxo] at hr
    have hr' : rnkB (op : Nat) = (F9.rul op : Nat) := hr
    rwa [hr'] at this
  have hSg : Hid (∀ W, Calls Tryd.prog 88 #[.int .i64 (op : Nat)] W fun e w' => e = .returned (.string (bsA (F9.sgn op))) ∧ w' = W) := Lib.hid fun W => by have := rsign_any (op : Nat) W; rwa [sgn_tree h5 h9] at this
  rw [hwe, ← bsA_app, ← bsA_app]
  have hs1 : (bsA (F9.encl (a.wr, a.rank) (F9.rul op))).size ≤ 99000 := by rw [bsA_size]; exact hel.1
  have hs2 : (bsA (F9.encl (b'.wr, b'.rank) (F9.rul op + 1))).size ≤ 99000 := by rw [bsA_size]; exact hel.2
  have hs3 : (bsA (F9.sgn op)).size ≤ 3 := by rw [bsA_size]; unfold F9.sgn; split <;> simp
  have hrl := (F9.rul_rng h5 h9).2
  clear hl hwe hel hal hbl hra hrb hen hq
  have hlt : Pr.length < n := by have := (List.getElem?_eq_some_iff.1 hat).1; have e := h.len; omega
  have h0 := Lib.hid h
  obtain ⟨b, o, y, rfl, hy, _, a0, a1, a2⟩ := nd_get h hlt
  rw [hat] at hy
  injection hy with hy
  subst hy
  have b0 : w.cell? ⟨b, o + Pr.length * 3, none⟩ = some (.int .i64 (op : Nat)) := a0
  have b1 : w.cell? ⟨b, o + Pr.length * 3 + 1, none⟩ = some (.string (bsA [])) := a1
  have b2 : w.cell? ⟨b, o + Pr.length * 3 + 2, none⟩ = some (.int .i64 0) := a2
  have g1 : (Pr.length : Int) < (n : Int) := by omega
  have g2 : (0 : Int) ≤ (Pr.length : Int) := by omega
  clear a0 a1 a2 h hat
  generalize bsA (F9.encl (a.wr, a.rank) (F9.rul op)) = E1 at *
  generalize bsA (F9.encl (b'.wr, b'.rank) (F9.rul op + 1)) = E2 at *
  generalize bsA (F9.sgn op) = E3 at *
  generalize hs0 : bsA [] = s0 at *
  clear hs0
  generalize F9.rul op = rl at *
  have hp9 : Pr.length ≤ 100000 := by omega
  generalize Pr.length = p at *
  have q1 : ¬ (op : Int) = 1 := by omega
  have q2 : ¬ (op : Int) = 2 := by omega
  have q3 : ¬ (op : Int) = 3 := by omega
  have q4 : ¬ (op : Int) = 4 := by omega
  have q5 : ¬ (op : Int) = 10 := by omega
  have S1 := Lib.hid ((St.new w).allocAt w.heap.size #[.int .i64 (op : Nat), .string s0, .int .i64 0] 38 (noLof rfl) rfl)
  go_enter Tryd.func48, Tryd.ntmps48
  go_wp2_with fail
  refine (hR.out _).mono ?_
  rintro e w1 ⟨rfl, hw1⟩
  subst hw1
  clear hR
  go_upto_region 14 with fail
  obtain ⟨W1, hW1⟩ : ∃ W1, W1 = w.alloc (.cells #[.int .i64 (op : Nat), .string s0, .int .i64 0] 38) := ⟨_, rfl⟩
  obtain ⟨bx, hbx⟩ : ∃ b, b = w.heap.size := ⟨_, rfl⟩
  rw [← hW1] at S1 ⊢
  rw [← hbx] at S1 ⊢
  have c_0 := S1.out.cl 0 0 rfl rfl
  clear hW1 hbx b0 b1 b2 g1 g2 q1 q2 q3 q4 q5
  replace hB1 := Lib.hid (fun V (hV : Below W1.heap.size W1 V) => hB1.out V (S1.out.bel.trans (hV.mono S1.out.bel.size)))
  replace hB2 := Lib.hid (fun V (hV : Below W1.heap.size W1 V) => hB2.out V (S1.out.bel.trans (hV.mono S1.out.bel.size)))
  replace hE := Lib.hid (fun V (hV : Below W1.heap.size W1 V) => hE.out V (S1.out.bel.trans (hV.mono S1.out.bel.size)))
  have hbase := Lib.hid (St.new W1)
  refine RW.begin (Z := []) (S := (fun V => Below W1.heap.size W1 V)) (by kernel_rfl) ?_ hbase.out ?_
  · exact ⟨by kernel_rfl, zis_nil, by decide, by decide, nol_nil, (fun _ _ h => h.bel)⟩
  intro hzk
  refine RW.t (i := 0) (v := .slice (some ⟨b, o, none⟩) n c) (some 46) at0 (hy := fun _ _ => by kernel_rfl) (h := ?_)
  refine RW.t (i := 1) (v := .int .i64 (p : Nat)) (some 47) at1 (hy := fun _ _ => by kernel_rfl) (h := ?_)
  refine RW.t (i := 2) (v := .int .i64 ((p : Nat) + 1 : Int)) (some 48) at2 (hy := fun _ _ => by (go_simp; first | done | (unfold wrap64; omega) | (simp [IntKind.wrap, IntKind.bits]; omega))) (h := ?_)
  refine RW.t (i := 3) (v := .int .i64 (rl : Nat)) (some 49) at3 (hy := fun _ _ => by kernel_rfl) (h := ?_)
  refine RW.t (i := 5) (v := .pointer (some ⟨bx, 0, none⟩)) (some 51) at5 (hy := fun _ _ => by go_simp) (h := ?_)
  refine RW.t (i := 6) (v := .int .i64 (op : Nat)) (some 52) at6 (hy := fun V hS => by (have k0 := bel_cell hS c_0; clear hS; go_simp)) (h := ?_)
  refine RW.t (i := 9) (v := .slice (some ⟨b, o, none⟩) n c) (some 55) at9 (hy := fun _ _ => by kernel_rfl) (h := ?_)
  refine RW.t (i := 10) (v := .slice (some ⟨b, o, none⟩) n c) (some 56) at10 (hy := fun _ _ => by kernel_rfl) (h := ?_)
  refine RW.t (i := 11) (v := .int .i64 (p : Nat)) (some 57) at11 (hy := fun _ _ => by kernel_rfl) (h := ?_)
  refine RW.t (i := 12) (v := .int .i64 ((p : Nat) + 1 : Int)) (some 58) at12 (hy := fun _ _ => by (go_simp; first | done | (unfold wrap64; omega) | (simp [IntKind.wrap, IntKind.bits]; omega))) (h := ?_)
  refine RW.t (i := 14) (v := .int .i64 (rl : Nat)) (some 60) at14 (hy := fun _ _ => by kernel_rfl) (h := ?_)
  refine RW.t (i := 15) (v := .int .i64 ((rl : Nat) + 1 : Int)) (some 61) at15 (hy := fun _ _ => by (go_simp; first | done | (unfold wrap64; omega) | (simp [IntKind.wrap, IntKind.bits]; omega))) (h := ?_)
  refine RW.c (i := 4) (args := #[.slice (some ⟨b, o, none⟩) n c, .int .i64 ((p : Nat) + 1 : Int), .int .i64 (rl : Nat)]) (some 50) hzk.out at4 (hx := fun _ => by kernel_rfl) (h := fun Z S => (hB1.out Z S.bel).mono ?_)
  rintro e w9 ⟨rfl, hB9⟩
  refine ⟨hB9, _, [], rfl, (fun r hr => by cases hr), ?_⟩
  clear hB9
  refine RW.c (i := 7) (args := #[.int .i64 (op : Nat)]) (some 53) hzk.out at7 (hx := fun _ => by kernel_rfl) (h := fun Z S => (hSg.out Z).mono ?_)
  rintro e w9 ⟨rfl, rfl⟩
  refine ⟨Below.refl _ _, _, [], rfl, (fun r hr => by cases hr), ?_⟩
  refine RW.t (i := 8) (v := .string (E1 ++ E3)) (some 54) at8 (hy := fun _ _ => by (go_simp; try omega)) (h := ?_)
  refine RW.c (i := 13) (args := #[.slice (some ⟨b, o, none⟩) n c, .int .i64 ((p : Nat) + 1 : Int)]) (some 59) hzk.out at13 (hx := fun _ => by kernel_rfl) (h := fun Z S => (hE.out Z S.bel).mono ?_)
  rintro e w9 ⟨rfl, rfl⟩
  refine ⟨Below.refl _ _, _, [], rfl, (fun r hr => by cases hr), ?_⟩
  refine RW.c (i := 16) (args := #[.slice (some ⟨b, o, none⟩) n c, .int .i64 (q : Nat), .int .i64 ((rl : Nat) + 1 : Int)]) (some 62) hzk.out at16 (hx := fun _ => by kernel_rfl) (h := fun Z S => (hB2.out Z S.bel).mono ?_)
  rintro e w9 ⟨rfl, hB9⟩
  refine ⟨hB9, _, [], rfl, (fun r hr => by cases hr), ?_⟩
  clear hB9
  refine RW.t (i := 17) (v := .string (E1 ++ E3 ++ E2)) (some 63) at17 (hy := fun _ _ => by (go_simp; try omega)) (h := ?_)
  refine RW.tail hzk.out (by kernel_rfl) ?_
  intro gs' wz hgs' hS Sb
  obtain rfl := len0 hgs'
  simp only [mark, fill, Act.put, List.setIfInBounds_toArray, List.set_cons_zero, List.set_cons_succ]
  refine Wk.o (i := 18) at18 (by kernel_rfl) fun K' hK => ?_
  go_simp
  refine hK.out _ _ hS ?_
  clear hK K'
  try simp only [Act.put, List.setIfInBounds_toArray, List.set_cons_zero, List.set_cons_succ]
  refine Wk.done (by kernel_rfl) ?_
  have hEnd := Lib.hid (S1.out.call hS).bel
  clear Sb hgs' hzk hbase hS
  try go_simp
  go_wp2
  go_ret
  exact ⟨rfl, hEnd.out⟩
theorem write_any : ∀ (t : F9.Tr), t.wf → WrC t
  | .leaf x, h => wr_leaf x h
  | .hat k a, h => wr_hat k a (by have := h.2.1; omega) h.2.2 (write_any a h.2.2)
  | .bin op a b, h => wr_bin op a b h.1 h.2.1 h.2.2.1 h.2.2.2 (write_any a h.2.2.1) (write_any b h.2.2.2)
end Go.Proofs.YtpdfliocldhblaaDoor
