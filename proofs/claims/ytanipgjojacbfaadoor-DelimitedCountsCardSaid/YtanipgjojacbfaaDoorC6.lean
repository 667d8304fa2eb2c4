/- The reference: Parse. -/
import Derived.Test.YtanipgjojacbfaaDoorC5
namespace Go.Proofs.YtanipgjojacbfaaDoor
open Go.RowKit
set_option linter.unusedVariables false

theorem lnS_P (s : ByteArray) (k : Bs) : lnS s.data.toList k = lnP s (s.size - k.length) := by unfold lnS lnP; rw [sz]

set_option maxRecDepth 100000 in
set_option maxHeartbeats 2000000 in
theorem rparse_no1 (s : ByteArray) (d : UInt8) (w : World) (hd : isD d = false) :
    Calls Tryd.prog 12 #[.string s, .int .u8 d.toNat] w (ParR [] 0 1 w) := by
  have hD := Lib.hid (fun W => rDelim_any d W)
  rw [hd] at hD
  have hq : Hid (∀ w', Below w.heap.size w w' → ParR [] 0 1 w (.returned (.tuple #[.slice none 0 0, .int .i64 0, .int .i64 1])) w') := Lib.hid fun w' hb => ⟨[], none, 0, rfl, LstM.nil_ _ _, rfl, hb⟩
  generalize ParR [] 0 1 w = Q at *
  go_enter Tryd.func12, Tryd.ntmps12
  go_wp2_with fail
  refine (hD.out _).mono ?_
  rintro e w' ⟨rfl, hw⟩
  subst hw
  go_wp2
  exact bodyPost_ret (v := .tuple #[.slice none 0 0, .int .i64 0, .int .i64 1]) (by simp [results, Tryd.results12, go_sem]) rfl (hq.out _ (Below.refl _ _))
set_option maxRecDepth 100000 in
set_option maxHeartbeats 2000000 in
theorem rparse_no2 (s : ByteArray) (d : UInt8) (w : World) (hd : isD d = true) (hs : 65536 < s.size) :
    Calls Tryd.prog 12 #[.string s, .int .u8 d.toNat] w (ParR [] 0 2 w) := by
  have hD := Lib.hid (fun W => rDelim_any d W)
  rw [hd] at hD
  have hsz : (65536 : Int) < (s.size : Int) := by omega
  have hq : Hid (∀ w', Below w.heap.size w w' → ParR [] 0 2 w (.returned (.tuple #[.slice none 0 0, .int .i64 0, .int .i64 2])) w') := Lib.hid fun w' hb => ⟨[], none, 0, rfl, LstM.nil_ _ _, rfl, hb⟩
  generalize ParR [] 0 2 w = Q at *
  go_enter Tryd.func12, Tryd.ntmps12
  go_wp2_with fail
  refine (hD.out _).mono ?_
  rintro e w' ⟨rfl, hw⟩
  subst hw
  go_wp2
  exact bodyPost_ret (v := .tuple #[.slice none 0 0, .int .i64 0, .int .i64 2]) (by simp [results, Tryd.results12, go_sem]) rfl (hq.out _ (Below.refl _ _))

set_option maxRecDepth 100000 in
set_option maxHeartbeats 4000000 in
theorem rparse_yes (s : ByteArray) (d : UInt8) (w : World) (hd : isD d = true) (hs : s.size ≤ 65536) :
    Calls Tryd.prog 12 #[.string s, .int .u8 d.toNat] w (match parseS d s.data.toList with
      | .ok l => ParR l 0 0 w
      | .bad x k => ParR [] (lnS s.data.toList k) (if x = 3 then 3 else 2) w) := by
  have hD := Lib.hid (fun W => rDelim_any d W)
  rw [hd] at hD
  have hsz : ¬ (65536 : Int) < (s.size : Int) := by omega
  generalize hr0 : parseS d s.data.toList = r0
  generalize hQ : (match r0 with
      | .ok l => ParR l 0 0 w
      | .bad x k => ParR [] (lnS s.data.toList k) (if x = 3 then 3 else 2) w) = Q
  have hq1 : Hid (∀ R A c w', r0 = .ok (R.map Row.fs) → LstM w' w.heap.size A c R → Below w.heap.size w w' → Q (.returned (.tuple #[.slice A R.length c, .int .i64 0, .int .i64 0])) w') := Lib.hid fun R A c w' h1 h2 h3 => by
    subst h1; rw [← hQ]; exact ⟨R, A, c, rfl, h2, rfl, h3⟩
  have hq2 : Hid (∀ x k w', r0 = .bad x k → (x = 2 ∨ x = 3) → Below w.heap.size w w' → Q (.returned (.tuple #[.slice none 0 0, .int .i64 ((lnP s (s.size - k.length) : Nat) : Int), .int .i64 x])) w') := Lib.hid fun x k w' h1 hx h3 => by
    subst h1; rw [← hQ]
    refine ⟨[], none, 0, ?_, LstM.nil_ _ _, rfl, h3⟩
    rw [lnS_P]
    rcases hx with rfl | rfl <;> rfl
  have hr1 : Hid (r0 = recsS d (1024 - 0) [] (s.data.toList.drop 0)) := Lib.hid (by rw [← hr0]; rfl)
  have hb0 : Hid (w.heap.size < (w.alloc (.cells #[.string s, .int .i64 0, .int .i64 1, .int .u8 d.toNat] rrT)).heap.size) := Lib.hid (by simp)
  have hU0 : Hid (Cb (w.alloc (.cells #[.string s, .int .i64 0, .int .i64 1, .int .u8 d.toNat] rrT)) w.heap.size (rrC s d 0) rrT) := Lib.hid (Cb.new w _ _)
  have hB0 : Hid (Below w.heap.size w (w.alloc (.cells #[.string s, .int .i64 0, .int .i64 1, .int .u8 d.toNat] rrT))) := Lib.hid ((Below.refl _ _).alloc (Nat.le_refl _) _)
  have hsh := Lib.hid hs
  have hdh := Lib.hid hd
  obtain ⟨i0, hi, hz0, hz1, hz2⟩ := info_parts (show (Tryd.prog.info? tLst).map (fun i => (i.zero, i.size, i.bytes)) = some (some (.slice none 0 0), 1, 24) by kernel_rfl)
  replace hi := Lib.hid hi; replace hz0 := Lib.hid hz0; replace hz1 := Lib.hid hz1; replace hz2 := Lib.hid hz2
  clear hr0 hQ hd hs
  go_enter Tryd.func12, Tryd.ntmps12
  go_wp2_with fail
  refine (hD.out _).mono ?_
  rintro e w' ⟨rfl, hw⟩
  subst hw
  go_wp2
  generalize hw0 : w'.alloc (.cells #[.string s, .int .i64 0, .int .i64 1, .int .u8 d.toNat] rrT) = w0 at *
  replace hw0 := Lib.hid hw0
  obtain ⟨b, hbb⟩ : ∃ b, b = w'.heap.size := ⟨_, rfl⟩
  have hF : Hid (∀ i W, i ≤ s.size → Upd b (rrC s d i) rrT w0 W → Calls Tryd.prog 23 #[.pointer (some ⟨b, 0, none⟩)] W (RerR s d b (recS d 31 [] (s.data.toList.drop i)) W)) := Lib.hid fun i W hi hu => rrecord_any s d i b W hu.here hi hsh.out hdh.out
  have hb : Hid (b < w0.heap.size) := Lib.hid (by rw [hbb]; exact hb0.out)
  have hU : Hid (Upd b (rrC s d 0) rrT w0 w0) := Lib.hid (Upd.refl (by rw [hbb]; exact hU0.out))
  have hbel : Hid (∀ W cs, Upd b cs rrT w0 W → Below w'.heap.size w' W) := Lib.hid fun W cs hu => hB0.out.trans (hu.below (by omega) (by rw [← hbb]; exact Nat.le_of_lt hb.out))
  have hbase : Hid (w'.heap.size ≤ w0.heap.size) := Lib.hid (Nat.le_of_lt hb0.out)
  rw [← hbb]
  replace hbb := Lib.hid hbb
  go_loopw [8] (fun lv wr => ∃ (i : Nat) (R : List Row), i ≤ s.size ∧ R.length ≤ 1024 ∧ wr.ownsRow w0.heap.size tLst 1 lv R.length (R.map Row.val) ∧ Rows' wr w0.heap.size R ∧ Upd b (rrC s d i) rrT w0 wr ∧ r0 = recsS d (1024 - R.length) (R.map Row.fs) (s.data.toList.drop i)) (fun _ wr => s.size - posR wr b)
  case atStart => exact ⟨0, [], Nat.zero_le _, Nat.zero_le _, World.ownsRow_nil _ _ _ _, (fun r hr => by cases hr), hU.out, hr1.out⟩
  case round =>
    clear hU hr1
    obtain ⟨i, R, his, hf32, hown, hrows, hu, hr⟩ := hrel
    obtain ⟨A, c, rfl⟩ := own_slice hown
    have c1 := rr1 hu.here
    have c2 := rr2 hu.here
    have hmeas := Lib.hid (posR_of hu.here)
    replace hown := Lib.hid hown
    replace hrows := Lib.hid hrows
    replace hu := Lib.hid hu
    replace hr := Lib.hid hr
    have hish := Lib.hid his
    have hfh := Lib.hid hf32
    have hrl : Hid ((s.data.toList.drop i).length = s.size - i) := Lib.hid (by rw [List.length_drop, sz])
    by_cases hlt : i < s.size
    · have g1 : (i : Int) < (s.size : Int) := by omega
      have hne : Hid (s.data.toList.drop i ≠ []) := Lib.hid (fun e => by have := hrl.out; rw [e] at this; simp at this; omega)
      by_cases hfull : R.length = 1024
      · have g2 : ((R.length : Int) == 1024) = true := by rw [hfull]; rfl
        have hr2 : Hid (r0 = .bad 2 (s.data.toList.drop i)) := Lib.hid (by rw [hr.out, hfull]; exact recsS_zero _ _ hne.out)
        have hpos : Hid (s.size - (s.data.toList.drop i).length = i) := Lib.hid (by rw [hrl.out]; omega)
        have hq := Lib.hid (fun W (h : Upd b (rrC s d i) rrT w0 W) => hq2.out 2 _ W hr2.out (.inl rfl) (hbel.out _ _ h))
        rw [hpos.out] at hq
        clear hfull his hf32 hr hq1 hq2 hF
        go_wp2
        go_quiet (fail)
        have hqq := Lib.hid (hq.out _ (hu.out.drewN nq))
        generalize wr.drewN nq = w1 at *
        clear hq c1 c2 hu hown hrows
        go_wp2
        exact bodyPost_ret (v := .tuple #[.slice none 0 0, .int .i64 ((lnP s i : Nat) : Int), .int .i64 2]) (by simp [results, Tryd.results12, go_sem]) rfl hqq.out
      · have g2 : ((R.length : Int) == 1024) = false := by simp; omega
        have hr2 : Hid (r0 = match recS d 31 [] (s.data.toList.drop i) with
          | .ok fs k => recsS d (1023 - R.length) (R.map Row.fs ++ [fs]) k
          | .bad e k => .bad e k) := Lib.hid (by
          rw [hr.out, show 1024 - R.length = (1023 - R.length) + 1 by omega]
          exact recsS_succ _ _ _ hne.out)
        replace hfull := Lib.hid hfull
        have hlth := Lib.hid hlt
        clear his hf32 hr c2
        have hF1 := Lib.hid (hF.out i wr hish.out hu.out)
        go_wp2_with fail
        refine hF1.out.mono ?_
        intro e w2 hf
        clear hF1 c1
        cases hfs : recS d 31 [] (s.data.toList.drop i) with
        | bad x k =>
          rw [hfs] at hf hr2
          obtain ⟨rfl, hx, hu1⟩ := hf
          have hu2 := Lib.hid (hu.out.trans hu1)
          have c2 := rr2 hu2.out.here
          have g3 : (x != 0) = true := by rcases hx with rfl | rfl <;> rfl
          have hq := Lib.hid (fun W (h : Upd b (rrC s d (s.size - k.length)) rrT w0 W) => hq2.out x k W hr2.out hx (hbel.out _ _ h))
          replace hx := Lib.hid hx
          clear hq1 hq2 hu1 hF hr2 hfs
          go_wp2
          go_quiet (fail)
          have hqq := Lib.hid (hq.out _ (hu2.out.drewN nq))
          generalize w2.drewN nq = w3 at *
          clear hq c2 hu hown hrows hu2
          go_wp2
          exact bodyPost_ret (v := .tuple #[.slice none 0 0, .int .i64 ((lnP s (s.size - k.length) : Nat) : Int), .int .i64 x]) (by simp [results, Tryd.results12, go_sem]) rfl hqq.out
        | ok fs k =>
          rw [hfs] at hf hr2
          obtain ⟨A2, c2, rfl, hrow, hfne, hu1⟩ := hf
          obtain ⟨hkl, x, hx⟩ := recS_le hfs
          have hkl2 := Lib.hid (recS_lt hne.out hfs)
          have hk0 : Hid (s.data.toList.drop (s.size - k.length) = k) := Lib.hid (by
            have := drop_len (t := s.data.toList) (x := s.data.toList.take i ++ x) (k := k) (by rw [List.append_assoc, ← hx, List.take_append_drop])
            rw [sz] at this
            exact this)
          have hu4 := Lib.hid (hu.out.trans hu1)
          have hown4 := Lib.hid (own_upd hown.out hu1 hb.out)
          have hrow4 := Lib.hid (own_less hrow hu.out.size)
          have hrows4 := Lib.hid ((hrows.out.upd hu1 hb.out).snoc (r := ⟨A2, c2, fs⟩) hrow4.out hfne)
          have hr5 : Hid (r0 = recsS d (1024 - (R ++ [(⟨A2, c2, fs⟩ : Row)]).length) ((R ++ [(⟨A2, c2, fs⟩ : Row)]).map Row.fs) (s.data.toList.drop (s.size - k.length))) := Lib.hid (by
            rw [hk0.out, List.length_append, List.map_append, show 1024 - (R.length + [(⟨A2, c2, fs⟩ : Row)].length) = 1023 - R.length by show 1024 - (R.length + 1) = _; omega]
            exact hr2.out)
          clear hr2 hu1 hown hu hfs hx hk0 hrows hrow hrow4 hkl
          replace hfne := Lib.hid hfne
          have hsz3 : Hid (w0.heap.size ≤ w2.heap.size) := Lib.hid hu4.out.size
          have hn63 : Hid (R.length + 1 ≤ 1024) := Lib.hid (by have := hfh.out; have := hfull.out; omega)
          go_wp2_with (at_builtin; refine wpList_append_own _ rfl _ _ 23 rfl w0.heap.size tLst i0 (.slice none 0 0) 1 24 Tryd.underlying23 hi.out hz0.out hz1.out hz2.out rfl (by decide) _ _ _ rfl (hown4.out.alloc (.cells #[.slice A2 fs.length c2] tLst)) ⟨w2.heap.size, 0, none⟩ 1 1 [.slice A2 fs.length c2] rfl rfl (cell_one_new _ _ _) (fun x hx => by simp at hx; subst hx; rfl) (by have := hn63.out; unfold maxLen; omega) (by have := hn63.out; omega) (by have := hsz3.out; simp; omega) ?_)
          intro v' w5 hown5 hgrow _
          have hba := (Below.refl w2.heap.size w2).alloc (Nat.le_refl _) (.cells #[.slice A2 fs.length c2] tLst)
          have hu5 := Lib.hid ((hu4.out.bel hba).grown hgrow (fun k hk => (hown4.out.lt k hk).1) hb.out)
          have hown6 : Hid (w5.ownsRow w0.heap.size tLst 1 v' (R ++ [(⟨A2, c2, fs⟩ : Row)]).length ((R ++ [(⟨A2, c2, fs⟩ : Row)]).map Row.val)) := Lib.hid (by rw [List.length_append, List.map_append]; exact hown5)
          have hrows5 := Lib.hid ((hrows4.out.bel hba).grown (own_bel hown4.out hba) hgrow)
          clear hown5 hgrow hu4 hown4 hba hrows4
          go_wp2
          go_roundw
          case rel => exact ⟨s.size - k.length, R ++ [⟨A2, c2, fs⟩], Nat.sub_le _ _, by rw [List.length_append]; exact hn63.out, hown6.out, hrows5.out, hu5.out, hr5.out⟩
          case measure => rw [posR_of hu5.out.here, hmeas.out]; have := hkl2.out; have := hrl.out; have := hlth.out; omega
    · have g1 : ¬ (i : Int) < (s.size : Int) := by omega
      have hnil : s.data.toList.drop i = [] := List.eq_nil_of_length_eq_zero (by rw [hrl.out]; omega)
      have hr2 : Hid (r0 = .ok (R.map Row.fs)) := Lib.hid (by rw [hr.out, hnil, recsS_nil])
      have hq := Lib.hid (hq1.out R A c wr hr2.out ⟨own_less hown.out hbase.out, fun r hr => ⟨own_less (hrows.out r hr).1 hbase.out, (hrows.out r hr).2⟩⟩ (hbel.out _ _ hu.out))
      clear hnil hlt his hf32 hr hq1 hq2 hF
      go_wp2
      exact bodyPost_ret (v := .tuple #[.slice A R.length c, .int .i64 0, .int .i64 0]) (by simp [results, Tryd.results12, go_sem]) rfl hq.out
end Go.Proofs.YtanipgjojacbfaaDoor
