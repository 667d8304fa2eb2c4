/- TrimLeft and IndexByte over sets of ASCII characters, firstWord. -/
import Derived.Test.YtjebpmjbdchdlaaDoorM05
import Derived.Shelf.Strings.SlTrimAscii
namespace Go.Proofs.YtjebpmjbdchdlaaDoor
open Go.RowKit
set_option linter.unusedVariables false

/-- What is left of a text when the characters of a set are passed. -/
def pasB (C s : ByteArray) : ByteArray := ⟨(Lib.trimLeftS s.data.toList C.data.toList).toArray⟩
theorem trim_any (s C : ByteArray) (w : World) (hC : C.size < 4294967281) (ha : C.data.toList.all (fun b => decide (b.toNat < 128)) = true) : Calls Tryd.prog 36 #[.string s, .string C] w fun e w' => e = .returned (.string (pasB C s)) ∧ Below w.heap.size w w' :=
  Any.strings_TrimLeft_laid Tryd.lays161 (by kernel_rfl) s C w hC (ascii_of_all ha)
def lettersB : ByteArray := ⟨#[97, 98, 99, 100, 101, 102, 103, 104, 105, 106, 107, 108, 109, 110, 111, 112, 113, 114, 115, 116, 117, 118, 119, 120, 121, 122, 65, 66, 67, 68, 69, 70, 71, 72, 73, 74, 75, 76, 77, 78, 79, 80, 81, 82, 83, 84, 85, 86, 87, 88, 89, 90]⟩
def digitsB : ByteArray := ⟨#[48, 49, 50, 51, 52, 53, 54, 55, 56, 57]⟩
def innerB : ByteArray := ⟨#[97, 98, 99, 100, 101, 102, 103, 104, 105, 106, 107, 108, 109, 110, 111, 112, 113, 114, 115, 116, 117, 118, 119, 120, 121, 122, 65, 66, 67, 68, 69, 70, 71, 72, 73, 74, 75, 76, 77, 78, 79, 80, 81, 82, 83, 84, 85, 86, 87, 88, 89, 90, 48, 49, 50, 51, 52, 53, 54, 55, 56, 57, 95, 46]⟩
theorem all256 {p : UInt8 → Bool} (h : (List.range 256).all (fun n => p (UInt8.ofNat n)) = true) (c : UInt8) : p c = true := by
  have := List.all_eq_true.1 h c.toNat (List.mem_range.2 (UInt8.toNat_lt c))
  simpa using this
theorem ixb_has : ∀ (l : List UInt8) (c : UInt8), -1 ≤ Lib.indexByte l c ∧ decide (0 ≤ Lib.indexByte l c) = l.contains c
  | [], c => ⟨by unfold Lib.indexByte; omega, rfl⟩
  | b :: l, c => by
    obtain ⟨h1, h2⟩ := ixb_has l c
    unfold Lib.indexByte
    by_cases hb : b == c
    · rw [if_pos hb]
      refine ⟨by omega, ?_⟩
      have hbc : c = b := (beq_iff_eq.1 hb).symm
      subst hbc
      simp
    · rw [if_neg hb]
      have hne : (c == b) = false := by rw [Bool.beq_comm]; simpa using hb
      rw [List.contains_cons, hne, Bool.false_or, ← h2]
      by_cases hm : Lib.indexByte l c == -1
      · rw [if_pos hm]
        have := beq_iff_eq.1 hm
        rw [this]; exact ⟨by omega, rfl⟩
      · rw [if_neg hm]
        have hm2 : Lib.indexByte l c ≠ -1 := fun e => hm (beq_iff_eq.2 e)
        refine ⟨by omega, ?_⟩
        rw [Bool.eq_iff_iff, decide_eq_true_eq, decide_eq_true_eq]; omega
theorem hasLet (c : UInt8) : lettersB.data.toList.contains c = letB c := by
  have := all256 (p := fun c => lettersB.data.toList.contains c == letB c) (by kernel_rfl) c
  exact beq_iff_eq.1 this
theorem isLet (c : UInt8) : decide (0 ≤ Lib.indexByte lettersB.data.toList c) = letB c := by rw [(ixb_has _ _).2, hasLet]
theorem isDigit' (c : UInt8) : decide (0 ≤ Lib.indexByte digitsB.data.toList c) = digB c := by
  have := all256 (p := fun c => digitsB.data.toList.contains c == digB c) (by kernel_rfl) c
  rw [(ixb_has _ _).2]; exact beq_iff_eq.1 this
theorem inInner (c : UInt8) : innerB.data.toList.contains c = innB c := by
  have := all256 (p := fun c => innerB.data.toList.contains c == innB c) (by kernel_rfl) c
  exact beq_iff_eq.1 this
theorem inDigits (c : UInt8) : digitsB.data.toList.contains c = digB c := by
  have := all256 (p := fun c => digitsB.data.toList.contains c == digB c) (by kernel_rfl) c
  exact beq_iff_eq.1 this
/-- The first word of a text. -/
def fwL : List UInt8 → List UInt8
  | [] => []
  | c :: r => if letB c then (c :: r).takeWhile innB else if digB c then (c :: r).takeWhile digB else [c]
def fwB (s : ByteArray) : ByteArray := ⟨(fwL s.data.toList).toArray⟩
theorem pas_size (C s : ByteArray) : (pasB C s).size ≤ s.size := by
  have : (pasB C s).size = (Lib.trimLeftS s.data.toList C.data.toList).length := by unfold pasB; simp [ByteArray.size]
  rw [this, ← toList_len s]
  exact (List.dropWhile_sublist _).length_le
theorem fw_cut (C s : ByteArray) (p : UInt8 → Bool) (hp : ∀ c, C.data.toList.contains c = p c) : s.extract 0 (s.size - (pasB C s).size) = ⟨(s.data.toList.takeWhile p).toArray⟩ := by
  have h1 : (pasB C s).size = (s.data.toList.dropWhile p).length := by
    have e : (fun b => C.data.toList.contains b) = p := funext hp
    unfold pasB Lib.trimLeftS
    rw [e]; simp [ByteArray.size]
  have h2 := List.takeWhile_append_dropWhile (p := p) (l := s.data.toList)
  have h3 : s.data.toList.length = (s.data.toList.takeWhile p).length + (s.data.toList.dropWhile p).length := by rw [← List.length_append, h2]
  apply ByteArray.ext
  apply Array.ext'
  rw [Lib.extract_data, h1, ← toList_len s, h3, List.drop_zero]
  have h4 : (s.data.toList.takeWhile p).length + (s.data.toList.dropWhile p).length - (s.data.toList.dropWhile p).length - 0 = (s.data.toList.takeWhile p).length := by omega
  rw [h4]
  have h5 : List.take (s.data.toList.takeWhile p).length (s.data.toList.takeWhile p ++ s.data.toList.dropWhile p) = s.data.toList.takeWhile p := List.take_left
  rw [h2] at h5
  exact h5

theorem fw_cons {s : ByteArray} (h : 0 < s.size) : fwB s = if letB s[0] then ⟨(s.data.toList.takeWhile innB).toArray⟩ else if digB s[0] then ⟨(s.data.toList.takeWhile digB).toArray⟩ else ⟨[s[0]].toArray⟩ := by
  have e : s.data.toList = s[0] :: s.data.toList.drop 1 := by
    have := drop_one (toList_get h)
    rwa [List.drop_zero] at this
  have e2 : fwL s.data.toList = if letB s[0] then s.data.toList.takeWhile innB else if digB s[0] then s.data.toList.takeWhile digB else [s[0]] := by
    generalize s[0] = c at *
    rw [e, fwL]
  unfold fwB
  rw [e2]
  split
  · rfl
  · split <;> rfl
theorem ext_first {s : ByteArray} (h : 0 < s.size) : s.extract 0 1 = ⟨[s[0]].toArray⟩ := by
  have e : s.data.toList = s[0] :: s.data.toList.drop 1 := by
    have := drop_one (toList_get h)
    rwa [List.drop_zero] at this
  apply ByteArray.ext
  apply Array.ext'
  rw [Lib.extract_data, List.drop_zero]
  generalize s[0] = c at *
  rw [e]
  rfl

set_option maxRecDepth 100000 in
set_option maxHeartbeats 4000000 in
theorem firstWord_any (s : ByteArray) (w : World) (hs : s.size ≤ 1000000) : Calls Tryd.prog 37 #[.string s] w fun e w' => e = .returned (.string (fwB s)) ∧ Below w.heap.size w w' := by
  by_cases h0 : s.size = 0
  · have e : s = ByteArray.empty := ByteArray.ext (by apply Array.eq_empty_of_size_eq_zero; exact h0)
    subst e
    have e2 : fwB ByteArray.empty = ByteArray.empty := rfl
    rw [e2]
    clear h0 hs
    go_enter Tryd.func37, Tryd.ntmps37
    go_wp2
    go_ret
    exact ⟨rfl, Below.refl _ _⟩
  have hz : 0 < s.size := by omega
  have e0 : s.toList.isEmpty = false := by
    rw [Lib.toList_data]
    have := toList_len s
    cases hh : s.data.toList
    · rw [hh] at this; simp at this; omega
    · rfl
  rw [fw_cons hz]
  have hL : Hid (∀ W, Calls Tryd.prog 61 #[.string lettersB, .int .u8 s[0].toNat] W fun e w' => e = .returned (.int .i64 (Lib.indexByte lettersB.data.toList s[0])) ∧ w' = W) := Lib.hid fun W => by
    have := Tryd.strings_IndexByte lettersB (s[0].toNat : Int) W
    simpa using this
  have hD : Hid (∀ W, Calls Tryd.prog 61 #[.string digitsB, .int .u8 s[0].toNat] W fun e w' => e = .returned (.int .i64 (Lib.indexByte digitsB.data.toList s[0])) ∧ w' = W) := Lib.hid fun W => by
    have := Tryd.strings_IndexByte digitsB (s[0].toNat : Int) W
    simpa using this
  have hT1 := Lib.hid (fun W => trim_any s innerB W (by decide) (by kernel_rfl))
  have hT2 := Lib.hid (fun W => trim_any s digitsB W (by decide) (by kernel_rfl))
  have i1 := isLet s[0]
  have i2 := isDigit' s[0]
  have c1 := fw_cut innerB s innB inInner
  have c2 := fw_cut digitsB s digB inDigits
  have p1 := pas_size innerB s
  have p2 := pas_size digitsB s
  have hx := ext_first hz
  have gz : (0 : Int) < (s.size : Int) := by omega
  generalize pasB innerB s = u1 at *
  generalize pasB digitsB s = u2 at *
  generalize Lib.indexByte lettersB.data.toList s[0] = z1 at *
  generalize Lib.indexByte digitsB.data.toList s[0] = z2 at *
  have hss := Lib.hid hs
  cases hl : letB s[0]
  · rw [hl] at i1
    have d1 : ¬ 0 ≤ z1 := of_decide_eq_false i1
    cases hd : digB s[0]
    · rw [hd] at i2
      have d2 : ¬ 0 ≤ z2 := of_decide_eq_false i2
      simp only [Bool.false_eq_true, if_false]
      rw [← hx]
      replace hx := Lib.hid hx
      clear c1 c2 p1 p2 i1 i2 hl hd hT1 hT2 h0
      go_enter Tryd.func37, Tryd.ntmps37
      go_wp2_with fail
      refine (hL.out _).mono ?_
      rintro e w1 ⟨rfl, rfl⟩
      go_wp2_with fail
      refine (hD.out _).mono ?_
      rintro e w2 ⟨rfl, rfl⟩
      go_wp2
      go_ret
      exact ⟨rfl, Below.refl _ _⟩
    · rw [hd] at i2
      have d2 : 0 ≤ z2 := of_decide_eq_true i2
      simp only [Bool.false_eq_true, if_false, if_true]
      rw [← c2]
      obtain ⟨k, hk⟩ : ∃ k, k = s.size - u2.size := ⟨_, rfl⟩
      have hk2 : (s.size : Int) - (u2.size : Int) = (k : Int) := by omega
      have hk3 : (k : Int) ≤ (s.size : Int) := by omega
      have hk4 : (0 : Int) ≤ (k : Int) := by omega
      rw [← hk]
      replace hk := Lib.hid hk
      clear c1 c2 p1 p2 i1 i2 hl hd hT1 h0 hx
      go_enter Tryd.func37, Tryd.ntmps37
      go_wp2_with fail
      refine (hL.out _).mono ?_
      rintro e w1 ⟨rfl, rfl⟩
      go_wp2_with fail
      refine (hD.out _).mono ?_
      rintro e w2 ⟨rfl, rfl⟩
      go_wp2_with fail
      refine (hT2.out _).mono ?_
      rintro e w3 ⟨rfl, bb⟩
      replace bb := Lib.hid bb
      go_wp2
      go_ret
      exact ⟨by first | rfl | (simp; done), bb.out⟩
  · rw [hl] at i1
    have d1 : 0 ≤ z1 := of_decide_eq_true i1
    simp only [if_true]
    rw [← c1]
    obtain ⟨k, hk⟩ : ∃ k, k = s.size - u1.size := ⟨_, rfl⟩
    have hk2 : (s.size : Int) - (u1.size : Int) = (k : Int) := by omega
    have hk3 : (k : Int) ≤ (s.size : Int) := by omega
    have hk4 : (0 : Int) ≤ (k : Int) := by omega
    rw [← hk]
    replace hk := Lib.hid hk
    clear c1 c2 p1 p2 i1 i2 hl hT2 hD h0 hx
    go_enter Tryd.func37, Tryd.ntmps37
    go_wp2_with fail
    refine (hL.out _).mono ?_
    rintro e w1 ⟨rfl, rfl⟩
    go_wp2_with fail
    refine (hT1.out _).mono ?_
    rintro e w3 ⟨rfl, bb⟩
    replace bb := Lib.hid bb
    go_wp2
    go_ret
    exact ⟨by first | rfl | (simp; done), bb.out⟩
end Go.Proofs.YtjebpmjbdchdlaaDoor
namespace Go.Proofs.YtjebpmjbdchdlaaDoor
open Go.RowKit
set_option linter.unusedVariables false

/-- The reader's cells: text, word, place, response, nodes, waiting. -/
abbrev rdC (t x : ByteArray) (p : Nat) (nm : ByteArray) (NA : Option Addr) (nn nc : Nat) (WA : Option Addr) (wn wc : Nat) : Array Value := #[.string t, .string x, .int .i64 p, .string nm, .slice NA nn nc, .slice WA wn wc]
/-- What is left behind the word, without its spaces. -/
def rsB (t : ByteArray) (q : Nat) : ByteArray := ⟨(Lib.trimLeftB (t.data.toList.drop q) 32).toArray⟩
theorem rs_size (t : ByteArray) (q : Nat) : (rsB t q).size ≤ t.size := by
  have : (rsB t q).size = (Lib.trimLeftB (t.data.toList.drop q) 32).length := by unfold rsB; simp [ByteArray.size]
  rw [this, ← toList_len t]
  unfold Lib.trimLeftB
  exact Nat.le_trans (List.dropWhile_sublist _).length_le (by rw [List.length_drop]; omega)
theorem rs_ext (t : ByteArray) (q : Nat) : (t.extract q t.size).data.toList = t.data.toList.drop q := by
  rw [Lib.extract_data, List.take_of_length_le]
  rw [List.length_drop, toList_len]
  exact Nat.le_refl _

set_option maxRecDepth 100000 in
set_option maxHeartbeats 4000000 in
theorem next_any (t x : ByteArray) (p : Nat) (nm : ByteArray) (NA : Option Addr) (nn nc : Nat) (WA : Option Addr) (wn wc : Nat) (rb : Nat) (bs : List GBk) (rs : List GRd) (w0 w : World) (S0 : St w0 w ((rb, rdC t x p nm NA nn nc WA wn wc, 35) :: bs) rs) (ht : t.size ≤ 100000) (hp : p + x.size ≤ t.size) : Calls Tryd.prog 18 #[.pointer (some ⟨rb, 0, none⟩)] w fun e w' => e = .returned (.tuple #[]) ∧ St w0 w' ((rb, rdC t (fwB (rsB t (p + x.size))) (t.size - (rsB t (p + x.size)).size) nm NA nn nc WA wn wc, 35) :: bs) rs := by
  obtain ⟨q, hq⟩ : ∃ q, q = p + x.size := ⟨_, rfl⟩
  rw [← hq] at hp ⊢
  have hT : Hid (∀ W, Calls Tryd.prog 36 #[.string (t.extract q t.size), .string ⟨#[32]⟩] W fun e w' => e = .returned (.string (rsB t q)) ∧ w' = W) := Lib.hid fun W => by
    have := Tryd.strings_TrimLeft_one (t.extract q t.size) 32 (by decide) W
    rw [rs_ext] at this
    exact this
  have hrs := rs_size t q
  have hF := Lib.hid (fun W => firstWord_any (rsB t q) W (by omega))
  generalize rsB t q = rst at *
  obtain ⟨k, hk⟩ : ∃ k, k = t.size - rst.size := ⟨_, rfl⟩
  have hk2 : (t.size : Int) - (rst.size : Int) = (k : Int) := by omega
  rw [← hk]
  generalize fwB rst = nw at *
  have c_0 := S0.cl 0 0 rfl rfl
  have c_1 := S0.cl 0 1 rfl rfl
  have c_2 := S0.cl 0 2 rfl rfl
  have hlt0 := S0.lt 0 rfl
  have hpp := Lib.hid (And.intro hp ht)
  have g1 : (q : Int) ≤ (t.size : Int) := by omega
  have g2 : (p : Int) + (x.size : Int) = (q : Int) := by omega
  have g3 : (0 : Int) ≤ (q : Int) := by omega
  replace S0 := Lib.hid S0
  replace hq := Lib.hid hq
  have hq5 : q ≤ 100000 := by omega
  have hk5 : k ≤ 100000 := by omega
  replace hk := Lib.hid hk
  replace hrs := Lib.hid hrs
  clear hp
  go_enter Tryd.func18, Tryd.ntmps18
  go_upto_region 0 with fail
  have hbase := Lib.hid (St.new w)
  refine RW.begin (Z := []) (S := (fun W => Below w.heap.size w W)) (by kernel_rfl) ?_ hbase.out ?_
  · exact ⟨by kernel_rfl, zis_nil, by decide, by decide, nol_nil, (fun _ _ h => h.bel)⟩
  intro hzk
  refine RW.t (i := 0) (v := .pointer (some ⟨rb, 0, none⟩)) (some 3) at0 (hy := fun _ _ => by kernel_rfl) (h := ?_)
  refine RW.t (i := 1) (v := .pointer (some ⟨rb, 0, none⟩)) (some 4) at1 (hy := fun _ _ => by go_simp) (h := ?_)
  refine RW.t (i := 2) (v := .pointer (some ⟨rb, 0, none⟩)) (some 5) at2 (hy := fun _ _ => by go_simp) (h := ?_)
  refine RW.t (i := 3) (v := .string t) (some 6) at3 (hy := fun W hS => by (have k0 := bel_cell hS c_0; clear hS; go_simp)) (h := ?_)
  refine RW.t (i := 4) (v := .pointer (some ⟨rb, 0, none⟩)) (some 7) at4 (hy := fun _ _ => by kernel_rfl) (h := ?_)
  refine RW.t (i := 5) (v := .pointer (some ⟨rb, 0, none⟩)) (some 8) at5 (hy := fun _ _ => by go_simp) (h := ?_)
  refine RW.t (i := 6) (v := .pointer (some ⟨rb, 2, none⟩)) (some 9) at6 (hy := fun _ _ => by go_simp) (h := ?_)
  refine RW.t (i := 7) (v := .int .i64 p) (some 10) at7 (hy := fun W hS => by (have k0 := bel_cell hS c_2; clear hS; go_simp)) (h := ?_)
  refine RW.t (i := 8) (v := .pointer (some ⟨rb, 0, none⟩)) (some 11) at8 (hy := fun _ _ => by kernel_rfl) (h := ?_)
  refine RW.t (i := 9) (v := .pointer (some ⟨rb, 0, none⟩)) (some 12) at9 (hy := fun _ _ => by go_simp) (h := ?_)
  refine RW.t (i := 10) (v := .pointer (some ⟨rb, 1, none⟩)) (some 13) at10 (hy := fun _ _ => by go_simp) (h := ?_)
  refine RW.t (i := 11) (v := .string x) (some 14) at11 (hy := fun W hS => by (have k0 := bel_cell hS c_1; clear hS; go_simp)) (h := ?_)
  refine RW.t (i := 12) (v := .int .i64 x.size) (some 15) at12 (hy := fun _ _ => by go_simp) (h := ?_)
  refine RW.t (i := 13) (v := .int .i64 (q : Int)) (some 16) at13 (hy := fun _ _ => by (go_simp; rw [IntKind.wrap_i64]; omega)) (h := ?_)
  refine RW.t (i := 14) (v := .string (t.extract q t.size)) (some 17) at14 (hy := fun _ _ => by go_simp) (h := ?_)
  refine RW.c (i := 15) (args := #[.string (t.extract q t.size), .string ⟨#[32]⟩]) (some 18) hzk.out at15 (hx := fun _ => by kernel_rfl) (h := fun W S => (hT.out W).mono ?_)
  rintro e w7 ⟨rfl, rfl⟩
  refine ⟨Below.refl _ _, _, [], rfl, rd_nil, ?_⟩
  clear S
  refine RW.tail hzk.out (by kernel_rfl) ?_
  intro gs' w5 hgs' hS Sb
  obtain rfl := len0 hgs'
  simp only [mark, fill, Act.put, List.setIfInBounds_toArray, List.set_cons_zero, List.set_cons_succ]
  refine Wk.o (i := 16) at16 (by kernel_rfl) fun K' hK => ?_
  go_simp
  refine hK.out _ _ hS ?_
  clear hK K'
  try simp only [Act.put, List.setIfInBounds_toArray, List.set_cons_zero, List.set_cons_succ]
  refine Wk.done (by kernel_rfl) ?_
  have S5 := S0.out.call hS
  clear Sb hgs' hzk hbase hS S0 c_0 c_1 c_2 hlt0 hT
  try go_simp
  have c_0 := S5.cl 0 0 rfl rfl
  have c_2 := S5.cl 0 2 rfl rfl
  have f_2 := S5.f 0 2 rfl
  have hlt0 := S5.lt 0 rfl
  have S6 := Lib.hid (S5.set 0 2 (.int .i64 k) rfl (fun _ => by simp))
  replace S5 := Lib.hid S5
  go_wp2_with fail
  refine (hF.out _).mono ?_
  rintro e w6 ⟨rfl, bb⟩
  have S7 := S6.out.call bb
  clear bb S6 S5 c_0 c_2 f_2 hlt0 hF
  have f_1 := S7.f 0 1 rfl
  have c_1 := S7.cl 0 1 rfl rfl
  have hlt0 := S7.lt 0 rfl
  have S8 := Lib.hid (S7.set 0 1 (.string nw) rfl (fun _ => by simp))
  replace S7 := Lib.hid S7
  go_wp2
  first
  | exact bodyPost_ret (results_none rfl _ _ _) rfl ⟨rfl, S8.out⟩
  | exact bodyPost_end (results_none rfl _ _ _) rfl ⟨rfl, S8.out⟩
  | skip
end Go.Proofs.YtjebpmjbdchdlaaDoor
namespace Go.Proofs.YtjebpmjbdchdlaaDoor
open Go.RowKit
set_option linter.unusedVariables false

/-- The word behind a place, and its place. -/
def nwB (t : ByteArray) (q : Nat) : ByteArray := fwB (rsB t q)
def naN (t : ByteArray) (q : Nat) : Nat := t.size - (rsB t q).size
theorem fw_size (s : ByteArray) : (fwB s).size ≤ s.size := by
  have e : (fwB s).size = (fwL s.data.toList).length := by unfold fwB; simp [ByteArray.size]
  rw [e, ← toList_len s]
  generalize s.data.toList = l
  cases l with
  | nil => exact Nat.le_refl _
  | cons c r =>
    rw [fwL]
    split
    · exact (List.takeWhile_sublist _).length_le
    · split
      · exact (List.takeWhile_sublist _).length_le
      · simp
theorem nw_fits (t : ByteArray) (q : Nat) : naN t q + (nwB t q).size ≤ t.size := by
  have h1 := rs_size t q
  have h2 := fw_size (rsB t q)
  unfold naN nwB
  omega

set_option maxRecDepth 100000 in
set_option maxHeartbeats 4000000 in
theorem clone_any (s : ByteArray) (w : World) (hs : s.size ≤ 281474976710656) : Calls Tryd.prog 38 #[.string s] w fun e w' => e = .returned (.string s) ∧ Below w.heap.size w w' := by
  have hH := Lib.hid (fun W => Tryd.stringslite_Clone s W hs)
  go_enter Tryd.func38, Tryd.ntmps38
  go_wp2_with fail
  refine (hH.out _).mono ?_
  rintro e w' ⟨rfl, hb⟩
  replace hb := Lib.hid hb
  go_wp2
  go_ret
  exact ⟨rfl, hb.out⟩

set_option maxRecDepth 100000 in
set_option maxHeartbeats 4000000 in
theorem skip_no (t x : ByteArray) (p : Nat) (nm : ByteArray) (NA : Option Addr) (nn nc : Nat) (WA : Option Addr) (wn wc : Nat) (rb : Nat) (bs : List GBk) (rs : List GRd) (w0 w : World) (S0 : St w0 w ((rb, rdC t x p nm NA nn nc WA wn wc, 35) :: bs) rs) (u : ByteArray) (hu : ¬ x = u) : Calls Tryd.prog 20 #[.pointer (some ⟨rb, 0, none⟩), .string u] w fun e w' => e = .returned (.bool false) ∧ St w0 w' ((rb, rdC t x p nm NA nn nc WA wn wc, 35) :: bs) rs := by
  have g1 : (x.toList == u.toList) = false := by
    have h := seB_eq (a := x) (b := u)
    unfold seB at h
    cases hh : (x.toList == u.toList)
    · rfl
    · exact absurd (h.1 hh) hu
  have c_1 := S0.cl 0 1 rfl rfl
  have hlt0 := S0.lt 0 rfl
  replace S0 := Lib.hid S0
  clear hu
  go_enter Tryd.func20, Tryd.ntmps20
  go_wp2
  go_ret
  exact ⟨rfl, S0.out⟩

set_option maxRecDepth 100000 in
set_option maxHeartbeats 4000000 in
theorem skip_yes (t x : ByteArray) (p : Nat) (nm : ByteArray) (NA : Option Addr) (nn nc : Nat) (WA : Option Addr) (wn wc : Nat) (rb : Nat) (bs : List GBk) (rs : List GRd) (w0 w : World) (S0 : St w0 w ((rb, rdC t x p nm NA nn nc WA wn wc, 35) :: bs) rs) (ht : t.size ≤ 100000) (hp : p + x.size ≤ t.size) : Calls Tryd.prog 20 #[.pointer (some ⟨rb, 0, none⟩), .string x] w fun e w' => e = .returned (.bool true) ∧ St w0 w' ((rb, rdC t (nwB t (p + x.size)) (naN t (p + x.size)) nm NA nn nc WA wn wc, 35) :: bs) rs := by
  have hN : Hid (∀ W, St w0 W ((rb, rdC t x p nm NA nn nc WA wn wc, 35) :: bs) rs → Calls Tryd.prog 18 #[.pointer (some ⟨rb, 0, none⟩)] W fun e w' => e = .returned (.tuple #[]) ∧ St w0 w' ((rb, rdC t (nwB t (p + x.size)) (naN t (p + x.size)) nm NA nn nc WA wn wc, 35) :: bs) rs) := Lib.hid fun W hW => next_any t x p nm NA nn nc WA wn wc rb bs rs w0 W hW ht hp
  have g1 : (x.toList == x.toList) = true := by simp
  have c_1 := S0.cl 0 1 rfl rfl
  have hlt0 := S0.lt 0 rfl
  replace S0 := Lib.hid S0
  clear ht hp
  go_enter Tryd.func20, Tryd.ntmps20
  go_wp2_with fail
  refine (hN.out _ S0.out).mono ?_
  rintro e w1 ⟨rfl, T⟩
  replace T := Lib.hid T
  clear S0 c_1 hlt0 hN
  go_wp2
  go_ret
  exact ⟨rfl, T.out⟩

set_option maxRecDepth 100000 in
set_option maxHeartbeats 4000000 in
theorem rname_no (t x : ByteArray) (p : Nat) (nm : ByteArray) (NA : Option Addr) (nn nc : Nat) (WA : Option Addr) (wn wc : Nat) (rb : Nat) (bs : List GBk) (rs : List GRd) (w0 w : World) (S0 : St w0 w ((rb, rdC t x p nm NA nn nc WA wn wc, 35) :: bs) rs) (hx : nameB x = false) : Calls Tryd.prog 19 #[.pointer (some ⟨rb, 0, none⟩)] w fun e w' => e = .returned (.tuple #[.string ByteArray.empty, .bool false]) ∧ St w0 w' ((rb, rdC t x p nm NA nn nc WA wn wc, 35) :: bs) rs := by
  have hM := Lib.hid (fun W => name_any x W)
  rw [hx] at hM
  have c_1 := S0.cl 0 1 rfl rfl
  have hlt0 := S0.lt 0 rfl
  replace S0 := Lib.hid S0
  clear hx
  go_enter Tryd.func19, Tryd.ntmps19
  go_wp2_with fail
  refine (hM.out _).mono ?_
  rintro e w1 ⟨rfl, rfl⟩
  clear hM
  go_wp2
  go_ret2
  exact ⟨rfl, S0.out⟩

set_option maxRecDepth 100000 in
set_option maxHeartbeats 4000000 in
theorem rname_yes (t x : ByteArray) (p : Nat) (nm : ByteArray) (NA : Option Addr) (nn nc : Nat) (WA : Option Addr) (wn wc : Nat) (rb : Nat) (bs : List GBk) (rs : List GRd) (w0 w : World) (S0 : St w0 w ((rb, rdC t x p nm NA nn nc WA wn wc, 35) :: bs) rs) (hx : nameB x = true) (ht : t.size ≤ 100000) (hp : p + x.size ≤ t.size) : Calls Tryd.prog 19 #[.pointer (some ⟨rb, 0, none⟩)] w fun e w' => e = .returned (.tuple #[.string x, .bool true]) ∧ St w0 w' ((rb, rdC t (nwB t (p + x.size)) (naN t (p + x.size)) nm NA nn nc WA wn wc, 35) :: bs) rs := by
  have hN : Hid (∀ W, St w0 W ((rb, rdC t x p nm NA nn nc WA wn wc, 35) :: bs) rs → Calls Tryd.prog 18 #[.pointer (some ⟨rb, 0, none⟩)] W fun e w' => e = .returned (.tuple #[]) ∧ St w0 w' ((rb, rdC t (nwB t (p + x.size)) (naN t (p + x.size)) nm NA nn nc WA wn wc, 35) :: bs) rs) := Lib.hid fun W hW => next_any t x p nm NA nn nc WA wn wc rb bs rs w0 W hW ht hp
  have hM := Lib.hid (fun W => name_any x W)
  rw [hx] at hM
  have hC := Lib.hid (fun W => clone_any x W (by omega))
  have c_1 := S0.cl 0 1 rfl rfl
  have hlt0 := S0.lt 0 rfl
  replace S0 := Lib.hid S0
  clear hx ht hp
  go_enter Tryd.func19, Tryd.ntmps19
  go_wp2_with fail
  refine (hM.out _).mono ?_
  rintro e w1 ⟨rfl, rfl⟩
  clear hM
  go_wp2_with fail
  refine (hC.out _).mono ?_
  rintro e w2 ⟨rfl, bb⟩
  have S1 := Lib.hid (S0.out.call bb)
  clear bb S0 c_1 hlt0 hC
  go_wp2_with fail
  refine (hN.out _ S1.out).mono ?_
  rintro e w3 ⟨rfl, T⟩
  replace T := Lib.hid T
  clear S1 hN
  go_wp2
  go_ret2
  exact ⟨rfl, T.out⟩
end Go.Proofs.YtjebpmjbdchdlaaDoor
namespace Go.Proofs.YtjebpmjbdchdlaaDoor
open Go.RowKit
set_option linter.unusedVariables false

/-- All that holds no cells (maps, loops' records) stays what it is. -/
def MK (W W' : World) : Prop := ∀ (m : Nat) (o : Obj), (∀ cs t f, o ≠ .cells cs t f) → W.heap[m]? = some o → W'.heap[m]? = some o
section
variable {W W' W'' : World}
theorem MK.refl (W : World) : MK W W := fun _ _ _ h => h
theorem MK.trans (h : MK W W') (h' : MK W' W'') : MK W W'' := fun m o c k => h' m o c (h m o c k)
theorem MK.bel (h : MK W W') (hb : Below W'.heap.size W' W'') : MK W W'' := fun m o c k => by
  have h1 := h m o c k
  rw [hb.block m (Array.getElem?_eq_some_iff.1 h1).1]; exact h1
theorem MK.drew (h : MK W W') : MK W W'.drew := h
theorem MK.alloc (h : MK W W') (o : Obj) : MK W (W'.alloc o) := h.bel ((Below.refl _ _).alloc (Nat.le_refl _) o)
theorem MK.set (h : MK W W') {g t : Nat} {cs : Array Value} (hb : Cb W' g cs t) (i : Nat) (v : Value) : MK W (W'.setCell ⟨g, i, none⟩ v) := fun m o c k => by
  have h1 := h m o c k
  by_cases e : m = g
  · subst e; rw [hb] at h1; cases h1; exact absurd rfl (c _ _ _)
  · rw [Below.heap_setCell _ _ _ _ e]; exact h1
theorem MK.row {g t : Nat} {cs : Array Value} (hb : Cb W g cs t) (cs' : Array Value) : MK W (W.setRow g cs') := fun m o c k => by
  by_cases e : m = g
  · subst e; rw [hb] at k; cases k; exact absurd rfl (c _ _ _)
  · rw [setRow_other W g m cs' e]; exact k
end
section
variable {P : Program} {w W : World} {bs : List (Nat × Array Value × Nat)} {rs : List (Option Addr × Nat × Nat × List Nat)} {e size : Nat} {v : Value} {n : Nat} {xs : List Value}
theorem Apd.run2 (t ty : TypeId) (i : TypeInfo) (z : Value) (bytes : Nat) (ht : P.underlying t = some (.slice e)) (hi : P.info? e = some i) (hz : i.zero = some z)
    (hsize : i.size = size) (hby : i.bytes = bytes) (hzs : z.cells.size = size) (hzn : NoLl z.cells.toList)
    (h : Apd w W bs rs e size v n xs) (a : Addr) (m c : Nat) (news : List Value) (hl : news.length = m * size) (hnews : ∀ j u, news[j]? = some u → W.cell? (a.add j) = some u) (h1 : ∀ u ∈ news, u.oneCell' = true) (hnn : NoLl news) (hm : 0 < m)
    (h63 : n + m ≤ maxLen) (hbytes : (n + m) * bytes ≤ 140737488355328) :
    ∃ v' W', (Builtin.append_ #[t, t] ty #[v, .slice (some a) m c]).run P W = .ok v' W' ∧ Apd w W' bs rs e size v' (n + m) (xs ++ news) ∧ MK W W' := by
  subst hsize
  subst hby
  have hsmall : n + m ≤ 9223372036854775807 := by simp only [maxLen] at h63; omega
  obtain ⟨hx, hxn, h⟩ := h
  have hlen : (xs ++ news).length = (n + m) * i.size := by rw [List.length_append, hx, hl, Nat.add_mul]
  have hall := hxn.app hnn
  have made : ∀ (old : Nat) (bs' : List (Nat × Array Value × Nat)), St w W bs' rs → ∀ bs, (∀ W' p, St w W' (p :: bs') rs → St w W' (p :: bs) rs) → old < n + m →
      Apd w (W.drew.alloc (.cells (xs.toArray ++ news.toArray ++ Builtin.zeroCells z.cells (grownCap W (n + m) old e - (n + m))) e)) bs rs e i.size (.slice (some ⟨W.heap.size, 0, none⟩) (n + m) (grownCap W (n + m) old e)) (n + m) (xs ++ news) := by
    intro old bs' S bs hbs ho
    have hge := grownCap_ge W (n + m) old e
    have hcm := grownCap_le_maxLen W (n + m) old e h63
    have hno : NoL (xs.toArray ++ news.toArray ++ Builtin.zeroCells z.cells (grownCap W (n + m) old e - (n + m))) := by
      have := (hall.app (NoLl.zeros hzn (grownCap W (n + m) old e - (n + m)))).arr
      rwa [show ((xs ++ news) ++ (Builtin.zeroCells z.cells (grownCap W (n + m) old e - (n + m))).toList).toArray = xs.toArray ++ news.toArray ++ Builtin.zeroCells z.cells (grownCap W (n + m) old e - (n + m)) from Array.ext' (by simp)] at this
    refine ⟨hlen, hall, .inr ⟨W.heap.size, _, _, rfl, hge, hcm, ?_, ?_, hbs _ _ (S.drew.alloc _ e hno)⟩⟩
    · simp only [Array.size_append, List.size_toArray, size_zeroCells, hzs, hx, hl, ← Nat.add_mul]
      congr 1
      omega
    · simp only [Array.toList_append, List.append_assoc]
      rw [← List.append_assoc, ← hlen]
      exact List.take_left
  rcases h with ⟨rfl, rfl, S⟩ | ⟨g, cap, cur, rfl, hnc, hcm, hcs, htake, S⟩
  · have hx0 : xs = [] := List.eq_nil_of_length_eq_zero (by simpa using hx)
    subst hx0
    have hr := run_append_nil (P := P) W t ty e i z ht hi hz a m c news hl hnews hm (by omega) (by have hb := hbytes; simp only [Nat.zero_add] at hb; omega)
    have hgr := made 0 bs S bs (fun _ _ h => h) (by omega)
    simp only [Nat.zero_add, List.nil_append, Array.empty_append] at hgr ⊢
    exact ⟨_, _, hr, hgr, (MK.refl W).drew.alloc _⟩
  · have hb := (S.bk _ List.mem_cons_self).1
    by_cases hroom : n + m ≤ cap
    · have hfit : n * i.size + news.length ≤ cur.size := by rw [hl, hcs, ← Nat.add_mul]; exact Nat.mul_le_mul_right _ hroom
      have hr := run_append_room (P := P) W t ty e i ht hi g n cap cur hb a m c news hl hnews h1 hroom hfit
      have hcn := (S.bk _ List.mem_cons_self).2.1
      refine ⟨_, _, hr, ⟨hlen, hall, .inr ⟨g, cap, _, rfl, hroom, hcm, ?_, ?_, S.setRow (((hcn.lst.take _).app hnn).app (hcn.lst.drop _)).arr⟩⟩, MK.row hb _⟩
      · simp only [List.size_toArray, List.length_append, List.length_take, List.length_drop, Array.length_toList]
        omega
      · rw [htake, ← hlen]
        exact List.take_left
    · have holds : ∀ j u, xs[j]? = some u → W.cell? ((⟨g, 0, none⟩ : Addr).add j) = some u := by
        intro j u hu
        have hadd : (⟨g, 0, none⟩ : Addr).add j = ⟨g, j, none⟩ := by unfold Addr.add; split <;> simp_all
        rw [hadd]
        refine hb.cell ?_
        rw [← htake, List.getElem?_take] at hu
        split at hu
        · simpa using hu
        · cases hu
      have hr := run_append_grow (P := P) W t ty e i z ht hi hz ⟨g, 0, none⟩ n cap xs hx holds a m c news hl hnews (by omega) (by omega) (growslice_fits (by omega) hbytes)
      exact ⟨_, _, hr, made cap _ S bs (fun W' p h => h.swap.sub) (by omega), (MK.refl W).drew.alloc _⟩

end
section
variable {α : Type} {C : Cod α} {w W W' : World} {e : Nat} {L : List α} {bs : List GBk} {rs : List GRd} {v : Value}
/-- v = append(v, x), as it runs: the element lies in a block of its own. -/
theorem Gro.run2 {P : Program} (ty rt : TypeId) (z : Value) (bytes : Nat) (ht : P.underlying ty = some (.slice e)) (hi : (P.info? e).map (fun i => (i.zero, i.size, i.bytes)) = some (some z, C.sz, bytes))
    (hzs : z.cells.size = C.sz) (hzn : NoLl z.cells.toList) (h : Gro C w W bs rs e v L)
    (g : Nat) (y : α) {t : Nat} (hc : Cb W g (C.cs y).toArray t) (hy : C.In w bs rs y) (hn : (L.length + 1) * bytes ≤ 140737488355328) (h63 : L.length + 1 ≤ maxLen) :
    ∃ v' W', (Builtin.append_ #[ty, ty] rt #[v, .slice (some ⟨g, 0, none⟩) 1 1]).run P W = .ok v' W' ∧ Gro C w W' bs rs e v' (L ++ [y]) ∧ MK W W' := by
  obtain ⟨i0, hi0, hzz⟩ := Option.map_eq_some_iff.1 hi
  simp only [Prod.mk.injEq] at hzz
  obtain ⟨hz0, hz1, hz2⟩ := hzz
  obtain ⟨v', W', hr, hA, hm⟩ := Apd.run2 (P := P) ty rt i0 z bytes ht hi0 hz0 hz1 hz2 hzs hzn h.1 ⟨g, 0, none⟩ 1 1 (C.cs y) (by rw [C.len, Nat.one_mul]) (by
    intro j u hu
    have hadd : (⟨g, 0, none⟩ : Addr).add j = ⟨g, j, none⟩ := by unfold Addr.add; split <;> simp_all
    rw [hadd]
    exact hc.cell (by rw [List.getElem?_toArray]; exact hu)) (C.one y) (C.noL y) (by decide) h63 hn
  refine ⟨v', W', hr, ⟨?_, fun x hx => ?_⟩, hm⟩
  · rw [all_app, all_one, List.length_append]; exact hA
  · rcases List.mem_append.1 hx with hx | hx
    · exact h.2 x hx
    · rw [List.mem_singleton.1 hx]; exact hy
/-- .. in a region whose order is open. -/
theorem Gro.op {P : Program} {o : Oper} {a : Act} {K' : Act → World → Prop} {Q : Exit → Act → World → Prop} (s x : Operand) (ty : TypeId)
    (ho : o.op = .call { callee := .builtin .append, args := #[s, x], argTypes := #[ty, ty] })
    (z : Value) (bytes : Nat) (ht : P.underlying ty = some (.slice e)) (hi : (P.info? e).map (fun i => (i.zero, i.size, i.bytes)) = some (some z, C.sz, bytes))
    (hzs : z.cells.size = C.sz) (hzn : NoLl z.cells.toList) (hs : a.eval s = v) (h : Gro C w W bs rs e v L)
    (g : Nat) (y : α) {t : Nat} (hx : a.eval x = .slice (some ⟨g, 0, none⟩) 1 1) (hc : Cb W g (C.cs y).toArray t) (hy : C.In w bs rs y) (hn : (L.length + 1) * bytes ≤ 140737488355328) (h63 : L.length + 1 ≤ maxLen)
    (hk : ∀ v' W', Gro C w W' bs rs e v' (L ++ [y]) → MK W W' → K' (a.put o.dst v') W') : Oper.wp P o a W K' Q := by
  obtain ⟨v', W', hr, h2, h3⟩ := Gro.run2 (P := P) ty o.type z bytes ht hi hzs hzn h g y hc hy hn h63
  unfold Oper.wp execOp
  simp only [ho, resolve, invoke, builtin, Sem.run_bind, Sem.run_pure, Result.andThen_ok, List.map_toArray, List.map_cons, List.map_nil, hs, hx, hr]
  exact hk v' W' h2 h3
/-- .. where the walk stands. -/
theorem Gro.wp2 {P : Program} {ops : Array Oper} {rest : List Oper} {o : Oper} {a : Act} {Q : Exit → Act → World → Prop} (hgd : o.guard = none) (s x : Operand) (ty : TypeId)
    (ho : o.op = .call { callee := .builtin .append, args := #[s, x], argTypes := #[ty, ty] })
    (z : Value) (bytes : Nat) (ht : P.underlying ty = some (.slice e)) (hi : (P.info? e).map (fun i => (i.zero, i.size, i.bytes)) = some (some z, C.sz, bytes))
    (hzs : z.cells.size = C.sz) (hzn : NoLl z.cells.toList) (hs : a.eval s = v) (h : Gro C w W bs rs e v L)
    (g : Nat) (y : α) {t : Nat} (hx : a.eval x = .slice (some ⟨g, 0, none⟩) 1 1) (hc : Cb W g (C.cs y).toArray t) (hy : C.In w bs rs y) (hn : (L.length + 1) * bytes ≤ 140737488355328) (h63 : L.length + 1 ≤ maxLen)
    (hk : ∀ v' W', Gro C w W' bs rs e v' (L ++ [y]) → MK W W' → wpList P ops Q rest (a.put o.dst v') W') : wpList P ops Q (o :: rest) a W :=
  wpList_plain hgd fun _ hK => Gro.op s x ty ho z bytes ht hi hzs hzn hs h g y hx hc hy hn h63 fun v' W' h1 h2 => hK _ _ (hk v' W' h1 h2)
theorem all_set1 (C : Cod α) : ∀ {L : List α} {i k : Nat} {x x' : α} {u : Value}, L[i]? = some x → k < C.sz → C.cs x' = (C.cs x).set k u → (C.all L).set (i * C.sz + k) u = C.all (L.set i x')
  | [], _, _, _, _, _, h, _, _ => by simp at h
  | y :: l, 0, k, x, x', u, h, hk, hu => by
    obtain rfl : y = x := by simpa using h
    show (C.cs y ++ C.all l).set (0 * C.sz + k) u = C.cs x' ++ C.all l
    rw [Nat.zero_mul, Nat.zero_add, hu, List.set_append_left _ _ (by rw [C.len]; exact hk)]
  | y :: l, i + 1, k, x, x', u, h, hk, hu => by
    have ih := all_set1 C (L := l) (i := i) (k := k) (x := x) (x' := x') (u := u) (by simpa using h) hk hu
    show (C.cs y ++ C.all l).set ((i + 1) * C.sz + k) u = C.cs y ++ C.all (l.set i x')
    have e : (i + 1) * C.sz + k = C.sz + (i * C.sz + k) := by rw [Nat.add_mul, Nat.one_mul]; omega
    rw [List.set_append_right _ _ (by rw [C.len, e]; omega), C.len, e, Nat.add_sub_cancel_left, ih]
/-- A part of an element is stored in a block that holds a list. -/
theorem St_gset1 {g t : Nat} (h : St w W ((g, (C.all L).toArray, t) :: bs) rs) {i k : Nat} {x x' : α} {u : Value} (hi : L[i]? = some x) (hk : k < C.sz) (hu : C.cs x' = (C.cs x).set k u) (hv : ∀ z, u ≠ .int .u32 z) :
    St w (W.setCell ⟨g, i * C.sz + k, none⟩ u) ((g, (C.all (L.set i x')).toArray, t) :: bs) rs := by
  have := h.set 0 (i * C.sz + k) u rfl hv
  have e : (C.all L).toArray.setIfInBounds (i * C.sz + k) u = (C.all (L.set i x')).toArray := by
    rw [← all_set1 C hi hk hu]; simp
  rw [← e]; exact this
end
section
variable {P : Program} {ops : Array Oper} {Q : Exit → Act → World → Prop} {S : World → Prop}
theorem Wk.two {i j : Nat} {oi oj : Oper} {L : Array Bool} {a : Act} {w : World} (hi : ops[i]? = some oi) (hj : ops[j]? = some oj) (hr : (((Region.ready .any ops L == [i, j]) && oi.guard.isNone) && oj.guard.isNone) = true)
    (h1 : ∀ K' : Act → World → Prop, Shut (∀ a w, S w → Wk P ops Q S (L.setIfInBounds i true) a w → K' a w) → Oper.wp P oi a w K' Q)
    (h2 : ∀ K' : Act → World → Prop, Shut (∀ a w, S w → Wk P ops Q S (L.setIfInBounds j true) a w → K' a w) → Oper.wp P oj a w K' Q) : Wk P ops Q S L a w := by
  simp only [Bool.and_eq_true, beq_iff_eq] at hr
  obtain ⟨⟨r, gi⟩, gj⟩ := hr
  refine Wk.all ⟨i, by rw [r]; simp⟩ fun k hk => ?_
  rw [r] at hk
  rcases List.mem_cons.1 hk with rfl | hk
  · exact wpOp_step hi (fun K' hK => by rw [if_pos (wanted_none gi)]; exact h1 K' (fun a w hS hW => hK a w ⟨hS, hW⟩))
  · have := List.mem_singleton.1 hk
    subst this
    exact wpOp_step hj (fun K' hK => by rw [if_pos (wanted_none gj)]; exact h2 K' (fun a w hS hW => hK a w ⟨hS, hW⟩))
end
theorem oper_call {P : Program} {o : Oper} {f : FuncId} {args : Array Value} {dst : Option Nat} {a : Act} {w : World} {K' : Act → World → Prop} {Q : Exit → Act → World → Prop} (hd : o.dst = dst) (hx : (execOp a.eval o).run P w = .ok (.enter f args) w) (h : Calls P f args w fun e w' => ∃ v, e = .returned v ∧ K' (a.put dst v) w') : Oper.wp P o a w K' Q := by
  subst hd
  unfold Oper.wp
  rw [hx]
  show Calls P f args w _
  refine h.mono ?_
  rintro e w' ⟨v, rfl, hk⟩
  exact hk


/-- What a call made of its own, beside what its caller knows. -/
theorem St.join {w W W' : World} {bs bs' : List GBk} {rs rs' : List GRd} (h : St w W bs rs) (h' : St W W' bs' rs') : St w W' (bs ++ bs') (rs ++ rs') := by
  refine ⟨h.bel.trans (h'.bel.mono h.bel.size), fun p hp => ?_, ?_, fun r hr => ?_⟩
  · rcases List.mem_append.1 hp with hp | hp
    · exact ⟨(h.bk p hp).1.bel h'.bel, (h.bk p hp).2⟩
    · exact ⟨(h'.bk p hp).1, (h'.bk p hp).2.1, Nat.le_trans h.bel.size (h'.bk p hp).2.2⟩
  · refine List.pairwise_append.2 ⟨h.nd, h'.nd, fun p hp q hq => ?_⟩
    have h1 := (h.bk p hp).1.lt
    have h2 := (h'.bk q hq).2.2
    omega
  · rcases List.mem_append.1 hr with hr | hr
    · exact (h.rd r hr).below h'.bel
    · exact h'.rd r hr
section
variable {α : Type} {C : Cod α} {w W : World} {bs : List GBk} {rs : List GRd} {e : Nat} {v : Value} {L : List α}
/-- v = append(v, l..) in a region whose order is open. -/
theorem Gro.opm {P : Program} {o : Oper} {a : Act} {K' : Act → World → Prop} {Q : Exit → Act → World → Prop} (s x : Operand) (ty : TypeId)
    (ho : o.op = .call { callee := .builtin .append, args := #[s, x], argTypes := #[ty, ty] })
    (z : Value) (bytes : Nat) (ht : P.underlying ty = some (.slice e)) (hi : (P.info? e).map (fun i => (i.zero, i.size, i.bytes)) = some (some z, C.sz, bytes))
    (hzs : z.cells.size = C.sz) (hzn : NoLl z.cells.toList) (hs : a.eval s = v) (h : Gro C w W bs rs e v L)
    (M : List α) (B : Option Addr) (c' : Nat) (hx : a.eval x = .slice B M.length c') (hM : LR C W B M.length M) (hMi : ∀ y ∈ M, C.In w bs rs y)
    (hn : (L.length + M.length) * bytes ≤ 140737488355328) (h63 : L.length + M.length ≤ maxLen)
    (hk : ∀ v' W', Gro C w W' bs rs e v' (L ++ M) → K' (a.put o.dst v') W') : Oper.wp P o a W K' Q := by
  obtain ⟨i0, hi0, hzz⟩ := Option.map_eq_some_iff.1 hi
  simp only [Prod.mk.injEq] at hzz
  obtain ⟨hz0, hz1, hz2⟩ := hzz
  rcases Nat.eq_zero_or_pos M.length with h0 | h0
  · have hM0 : M = [] := List.length_eq_zero_iff.1 h0
    subst hM0
    have hx : a.eval x = .slice B 0 c' := hx
    obtain ⟨A, n, cp, hv, hle⟩ : ∃ A n cp, v = .slice A n cp ∧ n ≤ cp := by
      obtain ⟨⟨_, _, ⟨hv, _, _⟩ | ⟨g, cap, cur, hv, hh, _⟩⟩, _⟩ := h
      · exact ⟨_, _, _, hv, Nat.le_refl _⟩
      · exact ⟨_, _, _, hv, hh⟩
    have hr : (Builtin.append_ #[ty, ty] o.type #[v, .slice B 0 c']).run P W = .ok v W := by
      rw [hv]
      refine run_append_nothing W ty ty o.type e i0 ht hi0 A n cp hle _ ⟨.inl ⟨e, ht⟩, fun w' => rfl, ?_, ?_, by simp, by simp⟩ <;> cases B <;> simp [Builtin.firstCells, loadCells, loadCellsFrom]
    unfold Oper.wp execOp
    simp only [ho, resolve, invoke, builtin, Sem.run_bind, Sem.run_pure, Result.andThen_ok, List.map_toArray, List.map_cons, List.map_nil, hs, hx, hr]
    exact hk v W (by rw [List.append_nil]; exact h)
  · rcases hM.mem with hm | ⟨b, q, hB, hlt, hc⟩
    · omega
    · subst hB
      obtain ⟨v', W', hr, h2, _⟩ := Apd.run2 (P := P) ty o.type i0 z bytes ht hi0 hz0 hz1 hz2 hzs hzn h.1 ⟨b, q, none⟩ M.length c' (C.all M) (all_len C M) (by
        intro j u hu
        obtain ⟨i, y, k, h1, h2, h3⟩ := all_inv C hu
        have hadd : (⟨b, q, none⟩ : Addr).add j = ⟨b, q + i * C.sz + k, none⟩ := by unfold Addr.add; split <;> simp_all <;> omega
        rw [hadd]
        exact hc i y h1 k u h2) (by
        intro u hu
        obtain ⟨y, _, hy⟩ := List.mem_flatMap.1 hu
        exact C.one y u hy) (all_noL C M) h0 h63 hn
      unfold Oper.wp execOp
      simp only [ho, resolve, invoke, builtin, Sem.run_bind, Sem.run_pure, Result.andThen_ok, List.map_toArray, List.map_cons, List.map_nil, hs, hx, hr]
      refine hk v' W' ⟨?_, fun y hy => ?_⟩
      · rw [all_app, List.length_append]; exact h2
      · rcases List.mem_append.1 hy with hy | hy
        · exact h.2 y hy
        · exact hMi y hy
end
theorem St.cast {w W : World} {bs bs' : List GBk} {rs : List GRd} (h : St w W bs rs) (e : bs = bs') : St w W bs' rs := e ▸ h

/-- Nodes that grow, numbers that grow, and the blocks in which they lie. -/
def OBn (ob : List GBk) (l : Sl Nd) : Prop := (ndC.all l.L).length = l.L.length * 3 ∧ NoLl (ndC.all l.L) ∧ OB ob 53 3 l.v l.L.length (ndC.all l.L)
def OBi (ob : List GBk) (l : Sl Int) : Prop := (intC.all l.L).length = l.L.length * 1 ∧ NoLl (intC.all l.L) ∧ OB ob 3 1 l.v l.L.length (intC.all l.L)
theorem nd_in {w : World} {bs : List GBk} {rs : List GRd} (x : Nd) : ndC.In w bs rs x := ⟨trivial, trivial, trivial⟩
section
variable {w W : World} {bs ob : List GBk} {rs : List GRd}
theorem OBi.gro {l : Sl Int} (h : OBi ob l) (S : St w W (bs ++ ob) rs) : Gro intC w W bs rs 3 l.v l.L := ⟨Apd.close h S, fun x _ => trivial⟩
theorem Gro.opi {v : Value} {L : List Int} (G : Gro intC w W bs rs 3 v L) : ∃ (l : Sl Int) (ob : List GBk), v = l.v ∧ l.L = L ∧ OBi ob l ∧ St w W (bs ++ ob) rs := by
  obtain ⟨A, c, hv, hl⟩ := G.lr
  obtain ⟨ob, h1, h2⟩ := G.1.open_
  exact ⟨⟨A, c, L⟩, ob, hv, rfl, by subst hv; exact h1, h2⟩
theorem OBn.gro {l : Sl Nd} (h : OBn ob l) (S : St w W (bs ++ ob) rs) : Gro ndC w W bs rs 53 l.v l.L := ⟨Apd.close h S, fun x _ => nd_in x⟩
theorem Gro.opn {v : Value} {L : List Nd} (G : Gro ndC w W bs rs 53 v L) : ∃ (l : Sl Nd) (ob : List GBk), v = l.v ∧ l.L = L ∧ OBn ob l ∧ St w W (bs ++ ob) rs := by
  obtain ⟨A, c, hv, hl⟩ := G.lr
  obtain ⟨ob, h1, h2⟩ := G.1.open_
  exact ⟨⟨A, c, L⟩, ob, hv, rfl, by subst hv; exact h1, h2⟩
end
end Go.Proofs.YtjebpmjbdchdlaaDoor
