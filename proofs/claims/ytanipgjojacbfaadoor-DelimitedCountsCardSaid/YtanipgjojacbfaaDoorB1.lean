/- A record. -/
import Derived.Test.YtanipgjojacbfaaDoorA9
import Derived.OwnWalk
namespace Go.Proofs.YtanipgjojacbfaaDoor
open Go.RowKit
set_option linter.unusedVariables false

abbrev tStr : Nat := 9
def PanE (e : Int) (p : Nat) : Ending := Pan (if e = 3 then tMis else tExc) p
/-- What a record leaves. -/
def RecR (s : ByteArray) (d : UInt8) (b : Nat) (r : Rr) (w : World) (e : Ending) (w' : World) : Prop := match r with
  | .ok fs k => ∃ A c, e = .returned (.slice A fs.length c) ∧ w'.ownsRow w.heap.size tStr 1 (.slice A fs.length c) fs.length (fs.map sV) ∧ fs ≠ [] ∧ Upd b (rdC s d (s.size - k.length)) rdT w w'
  | .bad x k => e = PanE x (s.size - k.length) ∧ ∃ p', Upd b (rdC s d p') rdT w w'
theorem own_slice {W : World} {base e size n : Nat} {v : Value} {xs : List Value} (h : W.ownsRow base e size v n xs) : ∃ A c, v = .slice A n c := by
  rcases h.2 with ⟨rfl, rfl⟩ | ⟨g, cap, cur, rfl, _⟩
  · exact ⟨none, 0, rfl⟩
  · exact ⟨_, _, rfl⟩
theorem enc1 {d : UInt8} (hd : isD d = true) : Utf8.encode ((d.toNat : Nat) : Int) = bA [d] := by
  rcases isD_cases hd with rfl | rfl | rfl | rfl <;> kernel_rfl

theorem upd1 {s : ByteArray} {d : UInt8} {b i : Nat} {w W : World} (h : Upd b (rdC s d i) rdT w W) : Upd b (rdC s d (i + 1)) rdT w (W.setCell ⟨b, 2, none⟩ (.int .i64 ((i : Int) + 1))) := by
  rw [show (i : Int) + 1 = ((i + 1 : Nat) : Int) by omega]
  exact h.set 2 _

set_option maxRecDepth 100000 in
set_option maxHeartbeats 2000000 in
theorem record_any (s : ByteArray) (d : UInt8) (p b : Nat) (w : World) (h : Cb w b (rdC s d p) rdT) (hp : p ≤ s.size) (hs : s.size ≤ 65536) (hd : isD d = true) (hm : Mx w) :
    Calls Tryd.prog 34 #[.pointer (some ⟨b, 0, none⟩)] w (RecR s d b (recS d 31 [] (s.data.toList.drop p)) w) := by
  have hM : Hid (∀ W cs, Upd b cs rdT w W → Mx W) := Lib.hid fun W cs hu => hm.upd hu h (fun m => by simp)
  have hb : Hid (b < w.heap.size) := Lib.hid h.lt
  have hU := Lib.hid (Upd.refl h)
  have hF : Hid (∀ i W, i ≤ s.size → Upd b (rdC s d i) rdT w W → Calls Tryd.prog 48 #[.pointer (some ⟨b, 0, none⟩)] W (FldR s d b (fS d (s.data.toList.drop i)) W)) := Lib.hid fun i W hi hu => field_any s d i b W hu.here hi hs hd (hM.out _ _ hu)
  have hW : Hid (∀ i W, i ≤ s.size → Upd b (rdC s d i) rdT w W → Calls Tryd.prog 49 #[.pointer (some ⟨b, 0, none⟩), .string (bA [d])] W fun e w' => e = .returned (.bool ((s.data.toList.drop i).head? == some d)) ∧ ∃ q, w' = W.drewN q) := Lib.hid fun i W hi hu => (startsWith_any s d i b (bA [d]) W hu.here hi hs).mono fun e w' ⟨e1, e2⟩ => ⟨e1.trans (congrArg (fun z => Ending.returned (.bool z)) (pre1 d (s.data.toList.drop i))), e2⟩
  have hK : Hid (∀ i W, i ≤ s.size → Upd b (rdC s d i) rdT w W → Calls Tryd.prog 50 #[.pointer (some ⟨b, 0, none⟩)] W fun e w' => match skipS (s.data.toList.drop i) with
      | some n => e = .returned (.tuple #[]) ∧ Upd b (rdC s d (i + n)) rdT W w'
      | none => e = Pan tMis i ∧ Upd b (rdC s d i) rdT W w') := Lib.hid fun i W hi hu => skip_any s d i b W hu.here hi hs
  have hen := enc1 hd
  have hsh := Lib.hid hs
  have hdo := Lib.hid (dOk_of hd)
  generalize hr0 : recS d 31 [] (s.data.toList.drop p) = r0
  generalize hR : RecR s d b r0 w = R
  have hq1 : Hid (∀ fs k A c w', r0 = .ok fs k → w'.ownsRow w.heap.size tStr 1 (.slice A fs.length c) fs.length (fs.map sV) → fs ≠ [] → Upd b (rdC s d (s.size - k.length)) rdT w w' → R (.returned (.slice A fs.length c)) w') := Lib.hid fun fs k A c w' e h1 h2 h3 => by
    subst e; rw [← hR]; exact ⟨A, c, rfl, h1, h2, h3⟩
  have hq2 : Hid (∀ x k p' w', r0 = .bad x k → Upd b (rdC s d p') rdT w w' → R (PanE x (s.size - k.length)) w') := Lib.hid fun x k p' w' e h1 => by
    subst e; rw [← hR]; exact ⟨rfl, p', h1⟩
  have hr1 : Hid (r0 = match fS d (s.data.toList.drop p) with
    | none => .bad 3 []
    | some (v, k) => contS d 31 [v] k) := Lib.hid (by rw [← hr0, recS_eq]; rfl)
  obtain ⟨i0, hi, hz0, hz1, hz2⟩ := info_parts (show (Tryd.prog.info? tStr).map (fun i => (i.zero, i.size, i.bytes)) = some (some (.string ⟨#[]⟩), 1, 16) by kernel_rfl)
  replace hi := Lib.hid hi; replace hz0 := Lib.hid hz0; replace hz1 := Lib.hid hz1; replace hz2 := Lib.hid hz2
  have hF0 := Lib.hid (fun W hu => hF.out p W hp hu)
  clear hr0 hR h hm hd hs
  replace hp := Lib.hid hp
  have hPu : Hid (∀ t q, Pan t q = .panicked [{ v := .iface t (.int .i64 ((q : Nat) : Int)), recovered := false }]) := Lib.hid fun _ _ => rfl
  go_enter Tryd.func34, Tryd.ntmps34
  go_wp2_with fail
  refine (hF0.out _ hU.out).mono ?_
  intro e w1 hf
  have hdl := Lib.hid (sz s)
  cases hfs : fS d (s.data.toList.drop p) with
  | none =>
    rw [hfs] at hf hr1
    obtain ⟨rfl, p', hu⟩ := hf
    have hq := Lib.hid (hq2.out 3 [] p' w1 hr1.out hu)
    clear hq1 hq2 hu hF hW hK hF0
    rw [hPu.out]
    go_wp2
    exact ⟨rfl, hq.out⟩
  | some r =>
    obtain ⟨v0, k0⟩ := r
    rw [hfs] at hf hr1
    obtain ⟨rfl, hu⟩ := hf
    obtain ⟨u0, hu0, _⟩ := fS_some hfs
    have hk0 : Hid (s.data.toList.drop (s.size - k0.length) = k0) := Lib.hid (by
      have := drop_len (t := s.data.toList) (x := s.data.toList.take p ++ u0) (k := k0) (by rw [List.append_assoc, ← hu0, List.take_append_drop])
      rw [sz] at this
      exact this)
    obtain ⟨i, hii⟩ : ∃ i, i = s.size - k0.length := ⟨_, rfl⟩
    rw [← hii] at hk0 hu
    have his : i ≤ s.size := by omega
    have hr2 : Hid (r0 = contS d 31 [v0] (s.data.toList.drop i)) := Lib.hid (by rw [hk0.out]; exact hr1.out)
    have hu1 := Lib.hid (hu.bel ((Below.refl _ _).alloc (Nat.le_refl _) (.cells #[.string (bA v0)] tStr)))
    have how : Hid ((w1.alloc (.cells #[.string (bA v0)] tStr)).ownsRow w.heap.size tStr 1 (.slice (some ⟨w1.heap.size, 0, none⟩) 1 1) 1 [sV v0]) := Lib.hid (World.ownsRow_lit w1 #[.string (bA v0)] 1 hu.size (by decide) rfl)
    clear hu hr1 hk0 hu0 hfs hii hF0 hU
    replace his := Lib.hid his
    go_wp2
    go_loopw [3] (fun fv wr => ∃ (i : Nat) (fs : List Bs), i ≤ s.size ∧ 1 ≤ fs.length ∧ fs.length ≤ 32 ∧ wr.ownsRow w.heap.size tStr 1 fv fs.length (fs.map sV) ∧ Upd b (rdC s d i) rdT w wr ∧ r0 = contS d (32 - fs.length) fs (s.data.toList.drop i)) (fun _ wr => s.size - posOf wr b)
    case atStart => exact ⟨i, [v0], his.out, Nat.le_refl _, (by decide : 1 ≤ 32), how.out, hu1.out, hr2.out⟩
    case round =>
      clear how hu1 hr2 his
      obtain ⟨i, fs, his, hf1, hf32, hown, hu, hr⟩ := hrel
      obtain ⟨A, c, rfl⟩ := own_slice hown
      have c1 := rd1 hu.here
      have hW1 := Lib.hid (hW.out i wr his hu)
      replace hown := Lib.hid hown
      replace hu := Lib.hid hu
      replace hr := Lib.hid hr
      have hish := Lib.hid his
      have hf1h := Lib.hid hf1
      have hf32h := Lib.hid hf32
      clear his hf1 hf32
      go_wp2_with fail
      refine hW1.out.mono ?_
      rintro e w2 ⟨rfl, q, hw⟩
      have hu1 := Lib.hid (hu.out.drewN q)
      have hown1 := Lib.hid (own_drewN hown.out q)
      rw [← hw] at hu1 hown1
      replace hw := Lib.hid hw
      have hmeas := Lib.hid (posOf_of hu.out.here)
      clear hW1 c1 hu hown
      have hrl : Hid ((s.data.toList.drop i).length = s.size - i) := Lib.hid (by rw [List.length_drop, sz])
      have c2 := rd2 hu1.out.here
      have hi0 : (0 : Int) ≤ (i : Int) := by omega
      have hiz : (i : Int) ≤ 65536 := by have := hish.out; have := hsh.out; omega
      by_cases hh : (s.data.toList.drop i).head? = some d
      · have g1 : ((s.data.toList.drop i).head? == some d) = true := by rw [hh]; simp
        rw [g1]
        have hlt : Hid (i < s.size) := Lib.hid (by
          have : (s.data.toList.drop i).length ≠ 0 := fun e => by rw [List.eq_nil_of_length_eq_zero e] at hh; simp at hh
          have := hrl.out
          omega)
        have hcons : Hid (s.data.toList.drop i = d :: s.data.toList.drop (i + 1)) := Lib.hid (by
          have hl2 : i < s.data.toList.length := by rw [sz]; exact hlt.out
          rw [List.drop_eq_getElem_cons hl2] at hh ⊢
          have : s.data.toList[i] = d := by simpa using hh
          rw [this])
        have hr2 : Hid (r0 = match 32 - fs.length with
          | 0 => .bad 2 (s.data.toList.drop i)
          | n + 1 => recS d n fs (s.data.toList.drop (i + 1))) := Lib.hid (by
          have h1 := hr.out
          rw [hcons.out, contS_del hdo.out] at h1
          rw [hcons.out]
          exact h1)
        by_cases hfull : fs.length = 32
        · have hq := Lib.hid (hq2.out 2 (s.data.toList.drop i) i w2 (by have := hr2.out; rw [hfull] at this; exact this) hu1.out)
          have hpos : Hid (s.size - (s.data.toList.drop i).length = i) := Lib.hid (by rw [hrl.out]; have := hish.out; omega)
          rw [hpos.out] at hq
          have g2 : ((fs.length : Int) == 32) = true := by rw [hfull]; rfl
          have hP2 : Hid (PanE 2 i = .panicked [{ v := .iface tExc (.int .i64 ((i : Nat) : Int)), recovered := false }]) := Lib.hid rfl
          rw [hP2.out] at hq
          clear hq1 hq2 hr hr2 hcons hF hW hK hh hfull
          go_wp2
          exact ⟨rfl, hq.out⟩
        · have g2 : ((fs.length : Int) == 32) = false := by simp; omega
          have f2 := hu1.out.here.frozen 2
          have hu3 : Hid (Upd b (rdC s d (i + 1)) rdT w (w2.setCell ⟨b, 2, none⟩ (.int .i64 ((i : Int) + 1)))) := Lib.hid (upd1 hu1.out)
          have hown3 := Lib.hid (own_set hown1.out ⟨b, 2, none⟩ (.int .i64 ((i : Int) + 1)) hb.out)
          have hF1 := Lib.hid (hF.out (i + 1) _ (by have := hlt.out; omega) hu3.out)
          have hr3 : Hid (r0 = recS d (31 - fs.length) fs (s.data.toList.drop (i + 1))) := Lib.hid (by
            have h1 := hr2.out
            have := hf32h.out
            rw [show 32 - fs.length = (31 - fs.length) + 1 by omega] at h1
            exact h1)
          replace hfull := Lib.hid hfull
          clear hr2 hr hu1 hown1 hh
          go_wp2_with fail
          refine hF1.out.mono ?_
          intro e w3 hf
          have hr4 : Hid (r0 = match fS d (s.data.toList.drop (i + 1)) with
            | none => .bad 3 []
            | some (v, k) => contS d (31 - fs.length) (fs ++ [v]) k) := Lib.hid (hr3.out.trans (recS_eq _ _ _ _))
          clear hF1 hr3
          cases hfs : fS d (s.data.toList.drop (i + 1)) with
          | none =>
            rw [hfs] at hf hr4
            obtain ⟨rfl, p', hu⟩ := hf
            have hq := Lib.hid (hq2.out 3 [] p' w3 hr4.out (hu3.out.trans hu))
            clear hq1 hq2 hu hF hW hK
            rw [hPu.out]
            go_wp2
            exact ⟨rfl, hq.out⟩
          | some r =>
            obtain ⟨v, k⟩ := r
            rw [hfs] at hf hr4
            obtain ⟨rfl, hu⟩ := hf
            obtain ⟨u0, hu0, _⟩ := fS_some hfs
            have hk0 : Hid (s.data.toList.drop (s.size - k.length) = k) := Lib.hid (by
              have := drop_len (t := s.data.toList) (x := s.data.toList.take (i + 1) ++ u0) (k := k) (by rw [List.append_assoc, ← hu0, List.take_append_drop])
              rw [sz] at this
              exact this)
            have hkl : Hid (k.length ≤ s.size - (i + 1)) := Lib.hid (by
              have h1 := congrArg List.length hu0
              rw [List.length_drop, sz, List.length_append] at h1
              omega)
            have hu4 := Lib.hid (hu3.out.trans hu)
            have hown4 := Lib.hid (own_upd hown3.out hu hb.out)
            have hr5 : Hid (r0 = contS d (32 - (fs ++ [v]).length) (fs ++ [v]) (s.data.toList.drop (s.size - k.length))) := Lib.hid (by
              rw [hk0.out, List.length_append, show 32 - (fs.length + [v].length) = 31 - fs.length by show 32 - (fs.length + 1) = _; omega]
              exact hr4.out)
            clear hr4 hu hown3 hu3 hfs hu0 hk0
            have hsz3 : Hid (w.heap.size ≤ w3.heap.size) := Lib.hid hu4.out.size
            have hn63 : Hid (fs.length + 1 ≤ 32) := Lib.hid (by have := hf32h.out; have := hfull.out; omega)
            go_wp2_with (at_builtin; refine wpList_append_own _ rfl _ _ 34 rfl w.heap.size tStr i0 (.string ⟨#[]⟩) 1 16 Tryd.underlying34 hi.out hz0.out hz1.out hz2.out rfl (by decide) _ _ _ rfl (hown4.out.alloc (.cells #[.string (bA v)] tStr)) ⟨w3.heap.size, 0, none⟩ 1 1 [.string (bA v)] rfl rfl (cell_one_new _ _ _) (fun x hx => by simp at hx; subst hx; rfl) (by have := hn63.out; unfold maxLen; omega) (by have := hn63.out; omega) (by have := hsz3.out; simp; omega) ?_)
            intro v' w5 hown5 hgrow _
            have hu5 := Lib.hid ((hu4.out.bel ((Below.refl _ _).alloc (Nat.le_refl _) (.cells #[.string (bA v)] tStr))).grown hgrow (fun k hk => (hown4.out.lt k hk).1) hb.out)
            have hown6 : Hid (w5.ownsRow w.heap.size tStr 1 v' (fs ++ [v]).length ((fs ++ [v]).map sV)) := Lib.hid (by rw [List.length_append, List.map_append]; exact hown5)
            clear hown5 hgrow hu4 hown4
            go_wp2
            go_roundw
            case rel => exact ⟨s.size - k.length, fs ++ [v], Nat.sub_le _ _, by simp, by rw [List.length_append]; exact hn63.out, hown6.out, hu5.out, hr5.out⟩
            case measure => rw [posOf_of hu5.out.here, hmeas.out]; have := hkl.out; have := hlt.out; omega
      · have g1 : ((s.data.toList.drop i).head? == some d) = false := by simpa using hh
        rw [g1]
        have hK1 := Lib.hid (hK.out i w2 hish.out hu1.out)
        have hr2 := Lib.hid (hr.out.trans (contS_skip _ _ hh))
        have hne : Hid (fs ≠ []) := Lib.hid (fun e => by have := hf1h.out; rw [e] at this; exact absurd this (by decide))
        have hdd : Hid (∀ m, m ≤ (s.data.toList.drop i).length → s.size - ((s.data.toList.drop i).drop m).length = i + m) := Lib.hid fun m hm => by
          rw [hrl.out] at hm
          rw [List.length_drop, hrl.out]
          have := hish.out
          omega
        clear hh g1 hr hF hW hK
        go_wp2_with fail
        refine hK1.out.mono ?_
        intro e w3 hk
        cases hsk : skipS (s.data.toList.drop i) with
        | none =>
          rw [hsk] at hk hr2
          obtain ⟨rfl, hu⟩ := hk
          have hq := Lib.hid (hq2.out 3 _ i w3 hr2.out (hu1.out.trans hu))
          have h0 := hdd.out 0 (Nat.zero_le _)
          rw [List.drop_zero, Nat.add_zero] at h0
          rw [h0] at hq
          have hP3 : Hid (PanE 3 i = .panicked [{ v := .iface tMis (.int .i64 ((i : Nat) : Int)), recovered := false }]) := Lib.hid rfl
          rw [hP3.out] at hq
          clear hq1 hq2 hu h0
          rw [hPu.out]
          go_wp2
          exact ⟨rfl, hq.out⟩
        | some m =>
          rw [hsk] at hk hr2
          obtain ⟨rfl, hu⟩ := hk
          have hml := skip_le hsk
          have hq := Lib.hid (hq1.out fs _ A c w3 hr2.out (own_upd hown1.out hu hb.out) hne.out (by rw [hdd.out m hml]; exact hu1.out.trans hu))
          clear hq1 hq2 hu hml
          go_wp2
          exact hq.out
end Go.Proofs.YtanipgjojacbfaaDoor
