/- The reference's Format; the law FormulaFormats. -/
import Derived.Test.YtpdfliocldhblaaDoorM30
namespace Go.Proofs.YtpdfliocldhblaaDoor
open Go.RowKit
set_option linter.unusedVariables false

theorem fmt_uniq {s r r' : ByteArray} {L : List Nd} {er er' : Int} (h : FmtV s L r er) (h' : FmtV s L r' er') : r = r' ∧ er = er' := by
  rcases h with ⟨h1, h2, h3⟩ | ⟨h1, tr, hw, hL, hr, he⟩
  · rcases h' with ⟨_, k2, k3⟩ | ⟨k1, _⟩
    · exact ⟨by rw [h2, k2], by rw [h3, k3]⟩
    · rw [h1] at k1; cases k1
  · have e1 : L.map ofNd = tr.pre := by
      rw [hL, List.map_map]
      conv => rhs; rw [← List.map_id tr.pre]
      exact List.map_congr_left fun y _ => of_to y
    have hx : (L.map ofNd).foldr F9.ph1 [] = [(tr.wr, tr.rank)] := by rw [e1, F9.ph_pre tr hw]; rfl
    obtain ⟨k1, k2⟩ := fmt_text h' h1 hx
    exact ⟨by rw [hr, k1], by rw [he, k2]⟩

set_option maxRecDepth 100000 in
set_option maxHeartbeats 4000000 in
theorem rformat9_any (s : ByteArray) (L : List Nd) (A : Option Addr) (c : Nat) (w : World) (h : LR ndC w A L.length L) (hcc : L.length ≤ c) (hs : s.size ≤ 1000) (hn : ∀ x ∈ L, x.s.size ≤ 1000) (hl : L.length ≤ 100000) (hO : Og w) : Calls Tryd.prog 22 #[.agg #[.string s, .slice A L.length c]] w fun e w' => (∃ r er, e = .returned (.tuple #[.string r, .int .i64 er]) ∧ FmtV s L r er) ∧ Below w.heap.size w w' := by
  have hV : Hid (∀ W, Below w.heap.size w W → Calls Tryd.prog 24 #[.agg #[.string s, .slice A L.length c]] W fun e w' => e = .returned (.bool (frmB s L)) ∧ Below W.heap.size W w') := Lib.hid fun W hB => rvalid_any s L A L.length c W (h.bel hB) hl
  have S0 := Lib.hid ((St.new w).allocAt w.heap.size #[.string s, .slice A L.length c] 25 (noLof rfl) rfl)
  cases hf : frmB s L with
  | false =>
    have hfh := Lib.hid hf
    rw [hf] at hV
    clear hf h hcc hs hn hl hO
    go_enter Tryd.func22, Tryd.ntmps22
    go_wp2_with fail
    refine (hV.out _ S0.out.bel).mono ?_
    rintro e w1 ⟨rfl, hB⟩
    have hB2 := Lib.hid (S0.out.bel.trans (hB.mono S0.out.bel.size))
    clear hV hB S0
    go_wp2
    go_ret2
    exact ⟨⟨_, _, rfl, .inl ⟨hfh.out, rfl, rfl⟩⟩, hB2.out⟩
  | true =>
    obtain ⟨tr, hw, hL⟩ := frm_tree hf
    have hlen := frm_len hf
    have hW : Hid (∀ W, Below w.heap.size w W → tr.wr.length ≤ 99000 → Calls Tryd.prog 48 #[.slice A L.length c, .int .i64 0] W fun e w' => e = .returned (.string (bsA tr.wr)) ∧ Below W.heap.size W w') := Lib.hid fun W hB hwl => by
      have h1 := write_any tr hw [] [] A L.length c W (by rw [List.nil_append, List.append_nil, ← hL]; exact h.bel hB) hl hwl
      exact h1
    have hwl : tr.wr.length ≤ 99000 := by
      have h1 := PH_tot (N := tr.pre) (by have := okF_pre tr hw [] trivial; rwa [List.append_nil] at this) (fun x hx => by
        have := hn (toNd x) (by rw [hL]; exact List.mem_map_of_mem hx)
        have e : (toNd x).s.size = x.nm.length := bsA_size x.nm
        omega) (by have := hlen.1; rw [hL, List.length_map] at this; omega) tr.pre.length
      rw [PH_all, F9.ph_pre tr hw] at h1
      exact h1.1 (tr.wr, tr.rank) (by simp)
    replace hW : Hid (∀ W, Below w.heap.size w W → Calls Tryd.prog 48 #[.slice A L.length c, .int .i64 0] W fun e w' => e = .returned (.string (bsA tr.wr)) ∧ Below W.heap.size W w') := Lib.hid fun W hB => hW.out W hB hwl
    have hfin : Hid (FmtV s L (s ++ ⟨#[32, 126, 32]⟩ ++ bsA tr.wr) 0) := Lib.hid (.inr ⟨hf, tr, hw, hL, rfl, rfl⟩)
    have hws : (bsA tr.wr).size ≤ 99000 := by rw [bsA_size]; exact hwl
    rw [hf] at hV
    clear hf hw hL hlen hwl hn hO h hcc hl
    generalize bsA tr.wr = wv at *
    generalize L.length = n at *
    go_enter Tryd.func22, Tryd.ntmps22
    go_wp2_with fail
    refine (hV.out _ S0.out.bel).mono ?_
    rintro e w1 ⟨rfl, hB⟩
    have S1 := Lib.hid (S0.out.call hB)
    clear hV hB S0
    go_upto_region 3 with fail
    have c_0 := S1.out.cl 0 0 rfl rfl
    have c_1 := S1.out.cl 0 1 rfl rfl
    obtain ⟨bx, hbx⟩ : ∃ b, b = w.heap.size := ⟨_, rfl⟩
    rw [← hbx] at c_0 c_1
    rw [← hbx]
    clear hbx
    have hbase := Lib.hid (St.new w1)
    refine RW.begin (Z := []) (S := (fun W => Below w1.heap.size w1 W)) (by kernel_rfl) ?_ hbase.out ?_
    · exact ⟨by kernel_rfl, zis_nil, by decide, by decide, nol_nil, (fun _ _ h => h.bel)⟩
    intro hzk
    refine RW.t (i := 0) (v := .pointer (some ⟨bx, 0, none⟩)) (some 7) at0 (hy := fun _ _ => by go_simp) (h := ?_)
    refine RW.t (i := 1) (v := .string s) (some 8) at1 (hy := fun W hS => by (have k0 := bel_cell hS c_0; clear hS; go_simp)) (h := ?_)
    refine RW.t (i := 2) (v := .string (s ++ ⟨#[32, 126, 32]⟩)) (some 9) at2 (hy := fun _ _ => by (go_simp; try omega)) (h := ?_)
    refine RW.t (i := 3) (v := .pointer (some ⟨bx, 1, none⟩)) (some 10) at3 (hy := fun _ _ => by go_simp) (h := ?_)
    refine RW.t (i := 4) (v := .slice A n c) (some 11) at4 (hy := fun W hS => by (have k0 := bel_cell hS c_1; clear hS; go_simp)) (h := ?_)
    refine RW.c (i := 5) (args := #[.slice A n c, .int .i64 0]) (some 12) hzk.out at5 (hx := fun _ => by kernel_rfl) (h := fun W S => (hW.out W (S1.out.bel.trans (S.bel.mono S1.out.bel.size))).mono ?_)
    rintro e w9 ⟨rfl, hB9⟩
    refine ⟨hB9, _, [], rfl, (fun r hr => by cases hr), ?_⟩
    clear hB9
    refine RW.t (i := 6) (v := .string (s ++ ⟨#[32, 126, 32]⟩ ++ wv)) (some 13) at6 (hy := fun _ _ => by (go_simp; try omega)) (h := ?_)
    refine RW.tail hzk.out (by kernel_rfl) ?_
    intro gs' w5 hgs' hS Sb
    obtain rfl := len0 hgs'
    simp only [mark, fill, Act.put, List.setIfInBounds_toArray, List.set_cons_zero, List.set_cons_succ]
    refine Wk.o (i := 7) at7 (by kernel_rfl) fun K' hK => ?_
    go_simp
    refine hK.out _ _ hS ?_
    clear hK K'
    try simp only [Act.put, List.setIfInBounds_toArray, List.set_cons_zero, List.set_cons_succ]
    refine Wk.o (i := 8) at8 (by kernel_rfl) fun K' hK => ?_
    go_simp
    refine hK.out _ _ hS ?_
    clear hK K'
    try simp only [Act.put, List.setIfInBounds_toArray, List.set_cons_zero, List.set_cons_succ]
    refine Wk.done (by kernel_rfl) ?_
    have S5 := Lib.hid ((S1.out.call hS).bel)
    clear Sb hgs' hzk hbase hS S1 c_0 c_1 hW
    try go_simp
    go_wp2
    go_ret2
    exact ⟨⟨_, _, rfl, hfin.out⟩, S5.out⟩
set_option maxRecDepth 100000 in
set_option maxHeartbeats 4000000 in
theorem law_formats (s : ByteArray) (A : Option Addr) (c : Nat) (L : List Nd) (w : World) (h : LR ndC w A L.length L) (hc : L.length ≤ c) (hO : Og w) : Calls Tryd.prog 4 #[.agg #[.string s, .slice A L.length c]] w fun e w' => e = .returned (.bool true) ∧ Below w.heap.size w w' := by
  have hb := Lib.hid hO
  have hz0 := hO.1
  have S0 := Lib.hid ((St.new w).allocAt w.heap.size #[.string s, .slice A L.length c] 25 (noLof rfl) rfl)
  have hLi : Hid (∀ W, Below w.heap.size w W → Calls Tryd.prog 20 #[.agg #[.string s, .slice A L.length c]] W fun e w' => e = .returned (.bool (litB s L)) ∧ Below W.heap.size W w') := Lib.hid fun W hB => light_any s L A L.length c W (h.bel hB) hc
  have hLR := Lib.hid h
  clear hO h
  cases hl : litB s L with
  | false =>
    rw [hl] at hLi
    clear hl hc
    go_enter Tryd.func4, Tryd.ntmps4
    go_wp2_with fail
    refine (hLi.out _ S0.out.bel).mono ?_
    rintro e w1 ⟨rfl, hB⟩
    have S1 := Lib.hid (S0.out.call hB)
    clear hLi S0 hB
    go_wp2_with fail
    refine (awake_any _ (hb.out.bel S1.out.bel)).mono ?_
    rintro e w2 ⟨rfl, hB⟩
    have S2 := Lib.hid (S1.out.call hB)
    clear S1 hB
    go_wp2
    go_ret
    exact ⟨rfl, S2.out.bel⟩
  | true =>
    have hl2 := hl
    unfold litB at hl2
    simp only [Bool.and_eq_true, decide_eq_true_eq, List.all_eq_true] at hl2
    obtain ⟨⟨l1, l2⟩, l3⟩ := hl2
    obtain ⟨vb, hvb⟩ : ∃ b, b = frmB s L := ⟨_, rfl⟩
    have hVa : Hid (∀ W, Below w.heap.size w W → Calls Tryd.prog 23 #[.agg #[.string s, .slice A L.length c]] W fun e w' => e = .returned (.bool vb) ∧ Below W.heap.size W w') := Lib.hid fun W hB => by rw [hvb]; exact valid_any s L A L.length c W (hLR.out.bel hB) (by omega) (hb.out.bel hB)
    have hVr : Hid (∀ W, Below w.heap.size w W → Calls Tryd.prog 24 #[.agg #[.string s, .slice A L.length c]] W fun e w' => e = .returned (.bool vb) ∧ Below W.heap.size W w') := Lib.hid fun W hB => by rw [hvb]; exact rvalid_any s L A L.length c W (hLR.out.bel hB) (by omega)
    have hFo : Hid (∀ W, Below w.heap.size w W → Calls Tryd.prog 21 #[.agg #[.string s, .slice A L.length c]] W fun e w' => (∃ r er, e = .returned (.tuple #[.string r, .int .i64 er]) ∧ FmtV s L r er) ∧ Below W.heap.size W w') := Lib.hid fun W hB => format_any s L A c W (hLR.out.bel hB) hc (by omega) (fun x hx => Nat.le_trans (l3 x hx) (by decide)) (by omega) (hb.out.bel hB)
    have hFr : Hid (∀ W, Below w.heap.size w W → Calls Tryd.prog 22 #[.agg #[.string s, .slice A L.length c]] W fun e w' => (∃ r er, e = .returned (.tuple #[.string r, .int .i64 er]) ∧ FmtV s L r er) ∧ Below W.heap.size W w') := Lib.hid fun W hB => rformat9_any s L A c W (hLR.out.bel hB) hc (by omega) (fun x hx => Nat.le_trans (l3 x hx) (by decide)) (by omega) (hb.out.bel hB)
    have hun : Hid (∀ r er r' er', FmtV s L r er → FmtV s L r' er' → r = r' ∧ er = er') := Lib.hid fun r er r' er' => fmt_uniq
    rw [hl] at hLi
    clear hl l1 l2 l3 hc hvb hLR
    generalize FmtV s L = F at *
    generalize L.length = n at *
    go_enter Tryd.func4, Tryd.ntmps4
    go_wp2_with fail
    refine (hLi.out _ S0.out.bel).mono ?_
    rintro e w1 ⟨rfl, hB⟩
    have S1 := S0.out.call hB
    have c_0 := S1.cl 0 0 rfl rfl
    have c_1 := S1.cl 0 1 rfl rfl
    replace S1 := Lib.hid S1
    clear hLi S0 hB
    go_wp2_with fail
    refine (hFo.out _ S1.out.bel).mono ?_
    rintro e w2 ⟨⟨r, er, rfl, hF⟩, hB⟩
    have S2 := S1.out.call hB
    clear c_0 c_1
    have c_0 := S2.cl 0 0 rfl rfl
    have c_1 := S2.cl 0 1 rfl rfl
    replace S2 := Lib.hid S2
    replace hF := Lib.hid hF
    clear hFo S1 hB
    go_wp2_with fail
    refine (hFr.out _ S2.out.bel).mono ?_
    rintro e w3 ⟨⟨r', er', rfl, hF'⟩, hB⟩
    obtain ⟨hrr, hee⟩ := hun.out _ _ _ _ hF.out hF'
    subst hrr
    subst hee
    have S3 := S2.out.call hB
    clear c_0 c_1
    have c_0 := S3.cl 0 0 rfl rfl
    have c_1 := S3.cl 0 1 rfl rfl
    replace S3 := Lib.hid S3
    clear hFr S2 hB hF' hun hF
    go_upto_region 5 with fail
    have hbase := Lib.hid (St.new w3)
    refine RW.begin (Z := []) (S := (fun V => Below w3.heap.size w3 V)) (by kernel_rfl) ?_ hbase.out ?_
    · exact ⟨by kernel_rfl, zis_nil, by decide, by decide, nol_nil, (fun _ _ h => h.bel)⟩
    intro hzk
    refine RW.c (i := 0) (args := #[]) (some 21) hzk.out at0 (hx := fun _ => by kernel_rfl) (h := fun Z S => (awake_any Z (hb.out.bel (S3.out.bel.trans (S.bel.mono S3.out.bel.size)))).mono ?_)
    rintro e w9 ⟨rfl, hB9⟩
    refine ⟨hB9, _, [], rfl, (fun r hr => by cases hr), ?_⟩
    clear hB9
    refine RW.t (i := 1) (v := .bool true) (some 22) at1 (hy := fun _ _ => by kernel_rfl) (h := ?_)
    refine RW.t (i := 2) (v := .string r) (some 23) at2 (hy := fun _ _ => by kernel_rfl) (h := ?_)
    refine RW.t (i := 3) (v := .string r) (some 24) at3 (hy := fun _ _ => by kernel_rfl) (h := ?_)
    refine RW.t (i := 4) (v := .bool true) (some 25) at4 (hy := fun _ _ => by go_simp) (h := ?_)
    refine RW.t (i := 5) (v := .bool true) (some 26) at5 (hy := fun _ _ => by kernel_rfl) (h := ?_)
    refine RW.t (i := 6) (v := .bool true) (some 27) at6 (hy := fun _ _ => by kernel_rfl) (h := ?_)
    refine RW.t (i := 7) (v := .int .i64 er) (some 28) at7 (hy := fun _ _ => by kernel_rfl) (h := ?_)
    refine RW.t (i := 8) (v := .int .i64 er) (some 29) at8 (hy := fun _ _ => by kernel_rfl) (h := ?_)
    refine RW.t (i := 9) (v := .bool true) (some 30) at9 (hy := fun _ _ => by go_simp) (h := ?_)
    refine RW.t (i := 10) (v := .bool true) (some 31) at10 (hy := fun _ _ => by kernel_rfl) (h := ?_)
    refine RW.t (i := 11) (v := .bool true) (some 32) at11 (hy := fun _ _ => by kernel_rfl) (h := ?_)
    refine RW.t (i := 12) (v := .agg #[.string s, .slice A n c]) (some 33) at12 (hy := fun V hS => by (have k0 := bel_cell hS c_0; have k1 := bel_cell hS c_1; clear hS; go_simp)) (h := ?_)
    refine RW.t (i := 14) (v := .agg #[.string s, .slice A n c]) (some 35) at14 (hy := fun V hS => by (have k0 := bel_cell hS c_0; have k1 := bel_cell hS c_1; clear hS; go_simp)) (h := ?_)
    refine RW.c (i := 13) (args := #[.agg #[.string s, .slice A n c]]) (some 34) hzk.out at13 (hx := fun _ => by kernel_rfl) (h := fun Z S => (hVa.out Z (S3.out.bel.trans (S.bel.mono S3.out.bel.size))).mono ?_)
    rintro e w9 ⟨rfl, hB9⟩
    refine ⟨hB9, _, [], rfl, (fun r hr => by cases hr), ?_⟩
    clear hB9
    refine RW.c (i := 15) (args := #[.agg #[.string s, .slice A n c]]) (some 36) hzk.out at15 (hx := fun _ => by kernel_rfl) (h := fun Z S => (hVr.out Z (S3.out.bel.trans (S.bel.mono S3.out.bel.size))).mono ?_)
    rintro e w9 ⟨rfl, hB9⟩
    refine ⟨hB9, _, [], rfl, (fun r hr => by cases hr), ?_⟩
    clear hB9
    refine RW.t (i := 16) (v := .bool true) (some 37) at16 (hy := fun _ _ => by (cases vb <;> go_simp)) (h := ?_)
    refine RW.t (i := 17) (v := .bool true) (some 38) at17 (hy := fun _ _ => by kernel_rfl) (h := ?_)
    refine RW.tail hzk.out (by kernel_rfl) ?_
    intro gs' wz hgs' hS Sb
    obtain rfl := len0 hgs'
    simp only [mark, fill, Act.put, List.setIfInBounds_toArray, List.set_cons_zero, List.set_cons_succ]
    refine Wk.o (i := 18) at18 (by kernel_rfl) fun K' hK => ?_
    go_simp
    refine hK.out _ _ hS ?_
    clear hK K'
    try simp only [Act.put, List.setIfInBounds_toArray, List.set_cons_zero, List.set_cons_succ]
    refine Wk.done (by kernel_rfl) ?_
    have hEnd := Lib.hid (S3.out.call hS).bel
    clear Sb hgs' hzk hbase hS S3 c_0 c_1
    try go_simp
    go_wp2
    go_ret
    exact ⟨rfl, hEnd.out⟩
end Go.Proofs.YtpdfliocldhblaaDoor
