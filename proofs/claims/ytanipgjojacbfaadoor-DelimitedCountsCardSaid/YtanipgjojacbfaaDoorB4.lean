/- Parse. -/
import Derived.Test.YtanipgjojacbfaaDoorB3
namespace Go.Proofs.YtanipgjojacbfaaDoor
open Go.RowKit
set_option linter.unusedVariables false

/-- A list of records in memory above base. -/
def LstM (W : World) (base : Nat) (A : Option Addr) (c : Nat) (R : List Row) : Prop := W.ownsRow base tLst 1 (.slice A R.length c) R.length (R.map Row.val) ∧ Rows' W base R
theorem LstM.nil_ (W : World) (base : Nat) : LstM W base none 0 [] := ⟨World.ownsRow_nil _ _ _ _, (fun r hr => by cases hr)⟩
theorem LstM.bel {W W' : World} {base : Nat} {A : Option Addr} {c : Nat} {R : List Row} (h : LstM W base A c R) (hb : Below W.heap.size W W') : LstM W' base A c R := ⟨own_bel h.1 hb, h.2.bel hb⟩
def ParR (l : List (List Bs)) (ln : Nat) (x : Int) (w : World) (e : Ending) (w' : World) : Prop := ∃ R A c, e = .returned (.tuple #[.slice A R.length c, .int .i64 (ln : Int), .int .i64 x]) ∧ LstM w' w.heap.size A c R ∧ R.map Row.fs = l ∧ Below w.heap.size w w'

set_option maxRecDepth 100000 in
set_option maxHeartbeats 2000000 in
theorem parse_no1 (s : ByteArray) (d : UInt8) (w : World) (hd : isD d = false) :
    Calls Tryd.prog 11 #[.string s, .int .u8 d.toNat] w (ParR [] 0 1 w) := by
  have hD := Lib.hid (fun W => isDelimiter_any d W)
  rw [hd] at hD
  have hmf : ∀ (fn : Fn) (first cap : Array Value) (w : World), (Instr.makeFunc fn first cap).run Tryd.prog w = .ok (.func fn first cap) w := fun _ _ _ _ => rfl
  have hq : Hid (∀ w', Below w.heap.size w w' → ParR [] 0 1 w (.returned (.tuple #[.slice none 0 0, .int .i64 0, .int .i64 1])) w') := Lib.hid fun w' hb => ⟨[], none, 0, rfl, LstM.nil_ _ _, rfl, hb⟩
  generalize ParR [] 0 1 w = Q at *
  go_enter_defers Tryd.func11, Tryd.ntmps11
  go_wp2_with fail
  refine (hD.out _).mono ?_
  rintro e w' ⟨rfl, hw⟩
  subst hw
  go_wp2
  simp [bodyPostD, Leaves, results, Tryd.results11, go_sem]
  exact hq.out _ ((((Below.refl _ _).alloc (Nat.le_refl _) _).alloc (by simp) _).alloc (by simp; omega) _)

set_option maxRecDepth 100000 in
set_option maxHeartbeats 2000000 in
theorem parse_no2 (s : ByteArray) (d : UInt8) (w : World) (hd : isD d = true) (hs : 65536 < s.size) :
    Calls Tryd.prog 11 #[.string s, .int .u8 d.toNat] w (ParR [] 0 2 w) := by
  have hD := Lib.hid (fun W => isDelimiter_any d W)
  rw [hd] at hD
  have hsz : (65536 : Int) < (s.size : Int) := by omega
  have hmf : ∀ (fn : Fn) (first cap : Array Value) (w : World), (Instr.makeFunc fn first cap).run Tryd.prog w = .ok (.func fn first cap) w := fun _ _ _ _ => rfl
  have hq : Hid (∀ w', Below w.heap.size w w' → ParR [] 0 2 w (.returned (.tuple #[.slice none 0 0, .int .i64 0, .int .i64 2])) w') := Lib.hid fun w' hb => ⟨[], none, 0, rfl, LstM.nil_ _ _, rfl, hb⟩
  generalize ParR [] 0 2 w = Q at *
  go_enter_defers Tryd.func11, Tryd.ntmps11
  go_wp2_with fail
  refine (hD.out _).mono ?_
  rintro e w' ⟨rfl, hw⟩
  subst hw
  go_wp2
  simp [bodyPostD, Leaves, results, Tryd.results11, go_sem]
  exact hq.out _ ((((Below.refl _ _).alloc (Nat.le_refl _) _).alloc (by simp) _).alloc (by simp; omega) _)

abbrev tInt : Nat := 3
abbrev tErr : Nat := 24
/-- The world in which Parse begins to read. -/
def W4 (w : World) (s : ByteArray) (d : UInt8) : World := (((w.alloc (.cells #[.string s] tStr)).alloc (.cells #[.int .i64 0] tInt)).alloc (.cells #[.int .i64 0] tErr)).alloc (.cells #[.string s, .int .u8 d.toNat, .int .i64 0] rdT)
theorem W4_size (w : World) (s : ByteArray) (d : UInt8) : (W4 w s d).heap.size = w.heap.size + 4 := by simp [W4]
theorem W4_bel (w : World) (s : ByteArray) (d : UInt8) : Below w.heap.size w (W4 w s d) := (((((Below.refl _ _).alloc (Nat.le_refl _) _).alloc (by simp) _).alloc (by simp; omega) _).alloc (by simp; omega) _)
theorem W4_t (w : World) (s : ByteArray) (d : UInt8) : Cb (W4 w s d) w.heap.size #[.string s] tStr := (((Cb.new w _ _).alloc _).alloc _).alloc _
theorem W4_l (w : World) (s : ByteArray) (d : UInt8) : Cb (W4 w s d) (w.heap.size + 1) #[.int .i64 0] tInt := by
  have := ((Cb.new (w.alloc (.cells #[.string s] tStr)) #[.int .i64 0] tInt).alloc (.cells #[.int .i64 0] tErr)).alloc (.cells #[.string s, .int .u8 d.toNat, .int .i64 0] rdT)
  simp at this
  exact this
theorem W4_e (w : World) (s : ByteArray) (d : UInt8) : Cb (W4 w s d) (w.heap.size + 1 + 1) #[.int .i64 0] tErr := by
  have := (Cb.new ((w.alloc (.cells #[.string s] tStr)).alloc (.cells #[.int .i64 0] tInt)) #[.int .i64 0] tErr).alloc (.cells #[.string s, .int .u8 d.toNat, .int .i64 0] rdT)
  simp at this
  exact this
theorem W4_r (w : World) (s : ByteArray) (d : UInt8) : Cb (W4 w s d) (w.heap.size + 1 + 1 + 1) (rdC s d 0) rdT := by
  have := Cb.new (((w.alloc (.cells #[.string s] tStr)).alloc (.cells #[.int .i64 0] tInt)).alloc (.cells #[.int .i64 0] tErr)) #[.string s, .int .u8 d.toNat, .int .i64 0] rdT
  simp at this
  exact this

set_option maxRecDepth 100000 in
set_option maxHeartbeats 4000000 in
theorem parse_yes (s : ByteArray) (d : UInt8) (w : World) (hd : isD d = true) (hs : s.size ≤ 65536) (hm : Mx w) :
    Calls Tryd.prog 11 #[.string s, .int .u8 d.toNat] w (match parseS d s.data.toList with
      | .ok l => ParR l 0 0 w
      | .bad x k => ParR [] (lnS s.data.toList k) (if x = 3 then 3 else 2) w) := by
  have hD := Lib.hid (fun W => isDelimiter_any d W)
  rw [hd] at hD
  have hsz : ¬ (65536 : Int) < (s.size : Int) := by omega
  have hmf : ∀ (fn : Fn) (first cap : Array Value) (w : World), (Instr.makeFunc fn first cap).run Tryd.prog w = .ok (.func fn first cap) w := fun _ _ _ _ => rfl
  have hRec := Lib.hid (fun b W h hm => records_any s d b W h hs hd hm)
  generalize hQ : (match parseS d s.data.toList with
      | .ok l => ParR l 0 0 w
      | .bad x k => ParR [] (lnS s.data.toList k) (if x = 3 then 3 else 2) w) = Q
  have hq1 : Hid (∀ l e w', parseS d s.data.toList = .ok l → ParR l 0 0 w e w' → Q e w') := Lib.hid fun l e w' h1 h2 => by rw [← hQ, h1]; exact h2
  have hq2 : Hid (∀ x k e w', parseS d s.data.toList = .bad x k → ParR [] (lnS s.data.toList k) (if x = 3 then 3 else 2) w e w' → Q e w') := Lib.hid fun x k e w' h1 h2 => by rw [← hQ, h1]; exact h2
  have hW : Hid ((((w.alloc (.cells #[.string s] tStr)).alloc (.cells #[.int .i64 0] tInt)).alloc (.cells #[.int .i64 0] tErr)).alloc (.cells #[.string s, .int .u8 d.toNat, .int .i64 0] rdT) = W4 w s d) := Lib.hid rfl
  have hCl := Lib.hid (W4_l w s d)
  have hCe := Lib.hid (W4_e w s d)
  have hCt := Lib.hid (W4_t w s d)
  have hB := Lib.hid (W4_bel w s d)
  have hS := Lib.hid (W4_size w s d)
  have hR0 := Lib.hid (hRec.out _ _ (W4_r w s d) (hm.bel (W4_bel w s d)))
  have hsh := Lib.hid hs
  clear hm hs hQ hRec
  go_enter_defers Tryd.func11, Tryd.ntmps11
  go_wp2_with fail
  refine (hD.out _).mono ?_
  rintro e w' ⟨rfl, hw⟩
  subst hw
  go_wp2_with fail
  rw [hW.out]
  refine hR0.out.mono ?_
  intro e w5 hf
  generalize W4 w s d = w4 at *
  clear hW hR0
  cases hp : parseS d s.data.toList with
  | ok l =>
    rw [hp] at hf
    obtain ⟨R, A, c, rfl, hown, hrows, hl, p', hu⟩ := hf
    have cl := hu.cb hCl.out (by omega)
    have ce := hu.cb hCe.out (by omega)
    have f1 := cl.frozen 0
    have f2 := ce.frozen 0
    have l1 := cl.cell 0 rfl
    have l2 := ce.cell 0 rfl
    have hLst : Hid (LstM ((w5.setCell ⟨w.heap.size + 1, 0, none⟩ (.int .i64 0)).setCell ⟨w.heap.size + 1 + 1, 0, none⟩ (.int .i64 0)) w.heap.size A c R) := Lib.hid ⟨own_less (own_set (own_set hown ⟨w.heap.size + 1, 0, none⟩ _ (by rw [hS.out]; show w.heap.size + 1 < _; omega)) ⟨w.heap.size + 1 + 1, 0, none⟩ _ (by rw [hS.out]; show w.heap.size + 1 + 1 < _; omega)) (by rw [hS.out]; omega), fun r hr => ⟨own_less (own_set (own_set (hrows r hr).1 ⟨w.heap.size + 1, 0, none⟩ _ (by rw [hS.out]; show w.heap.size + 1 < _; omega)) ⟨w.heap.size + 1 + 1, 0, none⟩ _ (by rw [hS.out]; show w.heap.size + 1 + 1 < _; omega)) (by rw [hS.out]; omega), (hrows r hr).2⟩⟩
    have hBel : Hid (Below w.heap.size w ((w5.setCell ⟨w.heap.size + 1, 0, none⟩ (.int .i64 0)).setCell ⟨w.heap.size + 1 + 1, 0, none⟩ (.int .i64 0))) := Lib.hid ((((hB.out.trans (hu.below (by omega) (by rw [hS.out]; omega))).setCell (p := ⟨w.heap.size + 1, 0, none⟩) (Nat.le_succ _) _).setCell (p := ⟨w.heap.size + 1 + 1, 0, none⟩) (show w.heap.size ≤ w.heap.size + 1 + 1 by omega) _))
    have g1 := ((cl.set 0 (.int .i64 0)).far (p := ⟨w.heap.size + 1 + 1, 0, none⟩) (show w.heap.size + 1 ≠ w.heap.size + 1 + 1 by omega) (.int .i64 0)).cell 0 rfl
    have g2 := ((ce.far (p := ⟨w.heap.size + 1, 0, none⟩) (show w.heap.size + 1 + 1 ≠ w.heap.size + 1 by omega) (.int .i64 0)).set 0 (.int .i64 0)).cell 0 rfl
    have hq := Lib.hid (hq1.out l _ _ hp ⟨R, A, c, rfl, hLst.out, hl, hBel.out⟩)
    replace hl := Lib.hid hl
    clear hp
    clear hu hown hrows cl ce hq1 hq2 hLst hBel hCl hCe hCt
    go_wp2
    generalize (w5.setCell ⟨w.heap.size + 1, 0, none⟩ (.int .i64 0)).setCell ⟨w.heap.size + 1 + 1, 0, none⟩ (.int .i64 0) = w6 at *
    refine leaves_cons (f := 19) (args := #[.pointer (some ⟨w.heap.size, 0, none⟩), .pointer (some ⟨w.heap.size + 1, 0, none⟩), .pointer (some ⟨w.heap.size + 1 + 1, 0, none⟩)]) (by simp) (by simp [go_sem]) ?_
    refine (catch_idle _ _ _ _).mono ?_
    rintro e u' w'' ⟨rfl, rfl, rfl⟩
    simp [Leaves, settle, results, Tryd.results11, go_sem, g1, g2]
    exact hq.out
  | bad x k =>
    rw [hp] at hf
    obtain ⟨rfl, p', hu⟩ := hf
    have cl := hu.cb hCl.out (by omega)
    have ce := hu.cb hCe.out (by omega)
    have ct := hu.cb hCt.out (by omega)
    obtain ⟨ln, hln⟩ : ∃ ln : Nat, ln = lnS s.data.toList k := ⟨_, rfl⟩
    have hln2 : Hid (1 + (s.data.toList.take (s.size - k.length)).count 10 = ln) := Lib.hid (by rw [hln]; unfold lnS; rw [sz])
    obtain ⟨er, her⟩ : ∃ er : Int, er = if x = 3 then 3 else 2 := ⟨_, rfl⟩
    have hM : Hid (∀ chain, PanE x (s.size - k.length) = .panicked chain → ∃ v, chain = [{ v := v, recovered := false }] ∧ CallsD Tryd.prog 19 #[.pointer (some ⟨w.heap.size, 0, none⟩), .pointer (some ⟨w.heap.size + 1, 0, none⟩), .pointer (some ⟨w.heap.size + 1 + 1, 0, none⟩)] (.panicking chain) w5 fun e u' w' =>
      e = .returned (.tuple #[]) ∧ u' = .panicking [{ v := v, recovered := true }] ∧ w' = (w5.setCell ⟨w.heap.size + 1, 0, none⟩ (.int .i64 (ln : Int))).setCell ⟨w.heap.size + 1 + 1, 0, none⟩ (.int .i64 er)) := Lib.hid (by
      intro chain hc
      unfold PanE Pan at hc
      injection hc with hc
      subst hc
      refine ⟨_, rfl, ?_⟩
      rw [← hln2.out, her]
      by_cases hx : x = 3
      · rw [if_pos hx, if_pos hx]
        exact catch_mis _ _ _ _ s [] w5 (Nat.sub_le _ _) hsh.out (ct.cell 0 rfl) (cl.frozen 0) (ce.frozen 0) ⟨_, cl.cell 0 rfl⟩ ⟨_, ce.cell 0 rfl⟩ (by omega)
      · rw [if_neg hx, if_neg hx]
        exact catch_exc _ _ _ _ s [] w5 (Nat.sub_le _ _) hsh.out (ct.cell 0 rfl) (cl.frozen 0) (ce.frozen 0) ⟨_, cl.cell 0 rfl⟩ ⟨_, ce.cell 0 rfl⟩ (by omega))
    have hBel : Hid (Below w.heap.size w ((w5.setCell ⟨w.heap.size + 1, 0, none⟩ (.int .i64 (ln : Int))).setCell ⟨w.heap.size + 1 + 1, 0, none⟩ (.int .i64 er))) := Lib.hid ((((hB.out.trans (hu.below (by omega) (by rw [hS.out]; omega))).setCell (p := ⟨w.heap.size + 1, 0, none⟩) (Nat.le_succ _) _).setCell (p := ⟨w.heap.size + 1 + 1, 0, none⟩) (show w.heap.size ≤ w.heap.size + 1 + 1 by omega) _))
    have g1 := ((cl.set 0 (.int .i64 (ln : Int))).far (p := ⟨w.heap.size + 1 + 1, 0, none⟩) (show w.heap.size + 1 ≠ w.heap.size + 1 + 1 by omega) (.int .i64 er)).cell 0 rfl
    have g2 := ((ce.far (p := ⟨w.heap.size + 1, 0, none⟩) (show w.heap.size + 1 + 1 ≠ w.heap.size + 1 by omega) (.int .i64 (ln : Int))).set 0 (.int .i64 er)).cell 0 rfl
    have hq := Lib.hid (hq2.out x k (.returned (.tuple #[.slice none 0 0, .int .i64 (ln : Int), .int .i64 er])) _ hp ⟨[], none, 0, by rw [← hln, ← her]; rfl, LstM.nil_ _ _, rfl, hBel.out⟩)
    replace hln := Lib.hid hln
    replace her := Lib.hid her
    clear hp
    clear hu cl ce hq1 hq2 hBel hCl hCe hCt ct hln2
    obtain ⟨chain, hc⟩ : ∃ chain, PanE x (s.size - k.length) = .panicked chain := ⟨_, rfl⟩
    obtain ⟨v, hv, hM2⟩ := hM.out chain hc
    rw [hc]
    replace hc := Lib.hid hc
    replace hM2 := Lib.hid hM2
    subst hv
    clear hM
    generalize (w5.setCell ⟨w.heap.size + 1, 0, none⟩ (.int .i64 (ln : Int))).setCell ⟨w.heap.size + 1 + 1, 0, none⟩ (.int .i64 er) = w6 at *
    go_wp2
    refine leaves_cons (f := 19) (args := #[.pointer (some ⟨w.heap.size, 0, none⟩), .pointer (some ⟨w.heap.size + 1, 0, none⟩), .pointer (some ⟨w.heap.size + 1 + 1, 0, none⟩)]) (by simp) (by simp [go_sem]) ?_
    refine hM2.out.mono ?_
    rintro e u' w'' ⟨rfl, rfl, rfl⟩
    simp [Leaves, settle, results, Tryd.results11, go_sem, g1, g2]
    exact hq.out
end Go.Proofs.YtanipgjojacbfaaDoor
