/- A quoted field; a field. -/
import Derived.Test.YtanipgjojacbfaaDoorA7
import Derived.StillTailTactics
namespace Go.Proofs.YtanipgjojacbfaaDoor
open Go.RowKit
set_option linter.unusedVariables false

theorem idxB_none {l : Bs} (h : Lib.indexByte l 34 = -1) : (34 : UInt8) ∉ l := fun hm => by
  obtain ⟨k, hk⟩ := List.getElem?_of_mem hm
  exact Lib.indexByte_none h k hk
theorem idxB_some {l : Bs} {n : Nat} (h : Lib.indexByte l 34 = n) : n < l.length ∧ l = l.take n ++ 34 :: l.drop (n + 1) ∧ (34 : UInt8) ∉ l.take n := by
  obtain ⟨h1, h2⟩ := Lib.indexByte_some h
  obtain ⟨hl, h3⟩ := List.getElem?_eq_some_iff.1 h1
  refine ⟨hl, ?_, fun hm => ?_⟩
  · conv => lhs; rw [← List.take_append_drop n l, List.drop_eq_getElem_cons hl, h3]
  · obtain ⟨k, hk⟩ := List.getElem?_of_mem hm
    rw [List.getElem?_take] at hk
    split at hk
    · rename_i hkn; exact h2 k hkn hk
    · cases hk

/-- Where the reader stands. -/
def posOf (W : World) (b : Nat) : Nat := match W.cell? ⟨b, 2, none⟩ with
  | some (.int _ z) => z.toNat
  | _ => 0
theorem posOf_of {W : World} {b i : Nat} {s : ByteArray} {d : UInt8} (h : Cb W b (rdC s d i) rdT) : posOf W b = i := by
  unfold posOf; rw [rd2 h]; simp

set_option maxRecDepth 100000 in
set_option maxHeartbeats 2000000 in
theorem quoted_any (s : ByteArray) (d : UInt8) (p b : Nat) (w : World) (h : Cb w b (rdC s d p) rdT) (hp : p + 1 ≤ s.size) (hs : s.size ≤ 65536) (hm : Mx w) :
    Calls Tryd.prog 58 #[.pointer (some ⟨b, 0, none⟩)] w fun e w' => match qS (s.data.toList.drop (p + 1)) with
      | some (v, k) => e = .returned (.string (bA v)) ∧ Upd b (rdC s d (s.size - k.length)) rdT w w'
      | none => e = Pan tMis s.size ∧ ∃ p', Upd b (rdC s d p') rdT w w' := by
  have hW := Lib.hid (fun x i W hW hi => startsWith_any s d i b x W hW hi hs)
  have hI : Hid (∀ x W, Calls Tryd.prog 32 #[.string x, .int .u8 34] W fun e w' => e = .returned (.int .i64 (Lib.indexByte x.data.toList 34)) ∧ w' = W) := Lib.hid (fun x W => Tryd.strings_IndexByte x 34 W)
  have hR := Lib.hid (fun v W hm hs x hx => replace_half v W hm hs x hx)
  have hC := Lib.hid (fun x W hx => clone_any x W hx)
  have c2 := rd2 h
  have f2 := h.frozen 2
  have hU0 : Hid (Upd b (rdC s d (p + 1)) rdT w (w.setCell ⟨b, 2, none⟩ (.int .i64 ((p + 1 : Nat) : Int)))) := Lib.hid ((Upd.refl h).set 2 (.int .i64 ((p + 1 : Nat) : Int)))
  have hM : Hid (∀ W cs, Upd b cs rdT w W → Mx W) := Lib.hid fun W cs hu => hm.upd hu h (fun m => by simp)
  have hpz : (p : Int) + 1 ≤ 65536 := by omega
  have hp0 : (0 : Int) ≤ (p : Int) := by omega
  have hsz : (s.size : Int) ≤ 65536 := by omega
  have hl : (s.data.toList.drop (p + 1)).length = s.size - (p + 1) := by rw [List.length_drop, sz]
  generalize hQ : (fun (e : Ending) (w' : World) => match qS (s.data.toList.drop (p + 1)) with
      | some (v, k) => e = Ending.returned (.string (bA v)) ∧ Upd b (rdC s d (s.size - k.length)) rdT w w'
      | none => e = Pan tMis s.size ∧ ∃ p', Upd b (rdC s d p') rdT w w') = Q
  have hq1 : Hid (∀ v k w', qS (s.data.toList.drop (p + 1)) = some (v, k) → Upd b (rdC s d (s.size - k.length)) rdT w w' → Q (.returned (.string (bA v))) w') := Lib.hid fun v k w' e hu => by
    subst hQ; simp only [e]; exact ⟨trivial, hu⟩
  have hq2 : Hid (∀ p' w', qS (s.data.toList.drop (p + 1)) = none → Upd b (rdC s d p') rdT w w' → Q (Pan tMis s.size) w') := Lib.hid fun p' w' e hu => by
    subst hQ; simp only [e]; exact ⟨trivial, p', hu⟩
  replace hQ := Lib.hid hQ
  replace hl := Lib.hid hl
  have hph := Lib.hid hp
  have hsh := Lib.hid hs
  clear h hm hp hs
  go_enter Tryd.func58, Tryd.ntmps58
  go_wp2
  have c2' := rd2 hU0.out.here
  clear c2 f2
  have e1 : (p : Int) + 1 = ((p + 1 : Nat) : Int) := by omega
  rw [e1] at *
  generalize hf : p + 1 = f at *
  clear hf e1 hp0 hpz c2'
  have hfs : f ≤ s.size := hph.out
  go_loopw [4] (fun _ wr => ∃ (i : Nat) (u : Bs), i ≤ s.size ∧ i = f + (dqS u).length ∧ s.data.toList.drop f = dqS u ++ s.data.toList.drop i ∧ Upd b (rdC s d i) rdT w wr) (fun _ wr => s.size - posOf wr b)
  case atStart => exact ⟨f, [], hfs, rfl, rfl, hU0.out⟩
  case round =>
    obtain ⟨i, u, his, hiu, hdr, hu⟩ := hrel
    have hrl : (s.data.toList.drop i).length = s.size - i := by rw [List.length_drop, sz]
    have hex := bA_drop s i
    have hqd : Hid (qS (s.data.toList.drop f) = (qS (s.data.toList.drop i)).map (fun p => (u ++ p.1, p.2))) := Lib.hid (by rw [hdr, qS_dq])
    have hI1 := Lib.hid (fun W => hI.out (bA (s.data.toList.drop i)) W)
    have c0 := rd0 hu.here
    have c2 := rd2 hu.here
    have hmeas := Lib.hid (posOf_of hu.here)
    have hiz : (i : Int) ≤ (s.size : Int) := by omega
    have hi0 : (0 : Int) ≤ (i : Int) := by omega
    replace hdr := Lib.hid hdr
    replace hu := Lib.hid hu
    rw [bA_list] at hI1
    have hge := Lib.indexByte_ge (s.data.toList.drop i) 34
    replace hiu := Lib.hid hiu
    by_cases hz : Lib.indexByte (s.data.toList.drop i) 34 = -1
    · have hno : Hid (qS (s.data.toList.drop f) = none) := Lib.hid (by rw [hqd.out, qS_none (idxB_none hz)]; rfl)
      rw [hz] at hI1
      clear hz hge hU0 hrl
      go_wp2
      go_quiet ((go_at_call 32; exact Calls.quiet_of_same (hI1.out _)))
      have hu1 := Lib.hid (hu.out.drewN nq)
      generalize wr.drewN nq = w1 at *
      have c0 := rd0 hu1.out.here
      go_wp2
      exact ⟨rfl, hq2.out i _ hno.out hu1.out⟩
    · obtain ⟨n, hn⟩ : ∃ n : Nat, Lib.indexByte (s.data.toList.drop i) 34 = (n : Int) := ⟨(Lib.indexByte (s.data.toList.drop i) 34).toNat, by omega⟩
      obtain ⟨hnl, hsp, hna⟩ := idxB_some hn
      rw [hn] at hI1
      have hj : i + n + 1 ≤ s.size := by omega
      have hn0 : (0 : Int) ≤ (n : Int) := by omega
      have hnz : (n : Int) ≤ 65536 := by omega
      have hd2 : s.data.toList.drop (i + n + 1) = (s.data.toList.drop i).drop (n + 1) := by rw [List.drop_drop, Nat.add_assoc]
      have hqd2 : Hid (qS (s.data.toList.drop f) = (qS (34 :: s.data.toList.drop (i + n + 1))).map (fun p => (u ++ (s.data.toList.drop i).take n ++ p.1, p.2))) := Lib.hid (by
        rw [hqd.out, hd2]
        conv => lhs; rw [hsp]
        have h2 := qS_dq ((s.data.toList.drop i).take n) (34 :: (s.data.toList.drop i).drop (n + 1))
        rw [dqS_plain hna] at h2
        rw [h2]
        cases qS (34 :: (s.data.toList.drop i).drop (n + 1)) <;> simp [List.append_assoc])
      have hdr2 : Hid (s.data.toList.drop f = dqS (u ++ (s.data.toList.drop i).take n) ++ 34 :: s.data.toList.drop (i + n + 1)) := Lib.hid (by
        rw [hdr.out, hd2, dqS_app, dqS_plain hna]
        conv => lhs; rw [hsp]
        simp [List.append_assoc])
      have hlen2 : Hid ((dqS (u ++ (s.data.toList.drop i).take n)).length = i + n - f) := Lib.hid (by
        rw [dqS_app, dqS_plain hna, List.length_append, List.length_take, Nat.min_eq_left (by omega)]
        have := hiu.out
        omega)
      generalize hv : u ++ (s.data.toList.drop i).take n = v at *
      have hW1 : Hid (∀ W, Cb W b (rdC s d (i + n + 1)) rdT → Calls Tryd.prog 49 #[.pointer (some ⟨b, 0, none⟩), .string ⟨#[34]⟩] W fun e w' => e = .returned (.bool ((s.data.toList.drop (i + n + 1)).head? == some 34)) ∧ ∃ q, w' = W.drewN q) := Lib.hid fun W hW' => (hW.out ⟨#[34]⟩ (i + n + 1) W hW' hj).mono fun e w' ⟨e1, e2⟩ => ⟨e1.trans (congrArg (fun z => Ending.returned (.bool z)) (pre1 34 (s.data.toList.drop (i + n + 1)))), e2⟩
      have hfi : Hid (f ≤ i) := Lib.hid (by have := hiu.out; omega)
      have hjh := Lib.hid hj
      clear hn hsp hna hd2 hrl hnl hv hge hz hU0 hqd hdr hj
      go_wp2
      go_quiet ((go_at_call 32; exact Calls.quiet_of_same (hI1.out _)))
      have hu1 := Lib.hid (hu.out.drewN nq)
      generalize wr.drewN nq = w1 at *
      have c2 := rd2 hu1.out.here
      have f2 := hu1.out.here.frozen 2
      have e3 : (i : Int) + ((n : Int) + 1) = ((i + n + 1 : Nat) : Int) := by omega
      have hu2 : Hid (Upd b (rdC s d (i + n + 1)) rdT w (w1.setCell ⟨b, 2, none⟩ (.int .i64 ((i + n + 1 : Nat) : Int)))) := Lib.hid (hu1.out.set 2 (.int .i64 ((i + n + 1 : Nat) : Int)))
      have hi16 : (i : Int) ≤ 65536 := by omega
      replace e3 := Lib.hid e3
      clear c0
      go_wp2_with fail
      rw [e3.out]
      refine (hW1.out _ hu2.out.here).mono ?_
      rintro e w2 ⟨rfl, q, hw⟩
      have hu3 := Lib.hid (hu2.out.drewN q)
      rw [← hw] at hu3
      replace hw := Lib.hid hw
      clear hu1 hu2 c2 f2 hI1 hW1 hw e3
      obtain ⟨m, hmm⟩ : ∃ m, m = i + n := ⟨_, rfl⟩
      rw [← hmm] at hu3 hdr2 hlen2 hqd2 hjh
      have hmz : (m : Int) + 1 ≤ (s.size : Int) := by have := hjh.out; omega
      have hm0 : (0 : Int) ≤ (m : Int) := by omega
      have hfm : Hid (f ≤ m) := Lib.hid (by have := hfi.out; omega)
      have hfmz : (f : Int) ≤ (m : Int) := by have := hfm.out; omega
      have hf0 : (0 : Int) ≤ (f : Int) := by omega
      have him : Hid (i ≤ m) := Lib.hid (by omega)
      rw [← hmm]
      replace hmm := Lib.hid hmm
      clear hiz hi0 hn0 hnz hi16 his
      have c0 := rd0 hu3.out.here
      have c2 : w2.cell? ⟨b, 2, none⟩ = some (.int .i64 ((m : Int) + 1)) := rd2 hu3.out.here
      have hr1 : Hid ((s.data.toList.drop (m + 1)).length = s.size - (m + 1)) := Lib.hid (by rw [List.length_drop, sz])
      by_cases hh : (s.data.toList.drop (m + 1)).head? = some 34
      · have g1 : ((s.data.toList.drop (m + 1)).head? == some 34) = true := by rw [hh]; rfl
        rw [g1]
        have f2 := hu3.out.here.frozen 2
        have hu4 : Hid (Upd b (rdC s d (m + 1 + 1)) rdT w (w2.setCell ⟨b, 2, none⟩ (.int .i64 ((m : Int) + 1 + 1)))) := Lib.hid (by rw [show (m : Int) + 1 + 1 = ((m + 1 + 1 : Nat) : Int) by omega]; exact hu3.out.set 2 _)
        have hlt : Hid (m + 1 < s.size) := Lib.hid (by
          have := hr1.out
          have : (s.data.toList.drop (m + 1)).length ≠ 0 := fun e => by rw [List.eq_nil_of_length_eq_zero e] at hh; simp at hh
          omega)
        have hdr3 : Hid (s.data.toList.drop f = dqS (v ++ [34]) ++ s.data.toList.drop (m + 1 + 1)) := Lib.hid (by
          rw [hdr2.out, dqS_app]
          have hl2 : m + 1 < s.data.toList.length := by rw [sz]; exact hlt.out
          rw [List.drop_eq_getElem_cons hl2] at hh ⊢
          have : s.data.toList[m + 1] = 34 := by simpa using hh
          rw [this]
          simp [dqS])
        have hlen3 : Hid ((dqS (v ++ [34])).length = m + 2 - f) := Lib.hid (by
          rw [dqS_app, List.length_append, hlen2.out]
          have := hfm.out
          show m - f + 2 = _
          omega)
        clear hh hdr2 hlen2 hqd2
        go_wp2
        go_roundw
        case rel => exact ⟨m + 1 + 1, v ++ [34], hlt.out, by rw [hlen3.out]; have := hfm.out; omega, hdr3.out, hu4.out⟩
        case measure => rw [posOf_of hu4.out.here, hmeas.out]; have := him.out; have := hlt.out; omega
      · have g1 : ((s.data.toList.drop (m + 1)).head? == some 34) = false := by simpa using hh
        rw [g1]
        have hqf : Hid (qS (s.data.toList.drop f) = some (v, s.data.toList.drop (m + 1))) := Lib.hid (by rw [hqd2.out, qS_end hh]; simp)
        have hex2 : Hid (s.extract f m = bA (dqS v)) := Lib.hid (by rw [bA_ext, hdr2.out, ← hlen2.out, List.take_left])
        have hvl : Hid (v.length ≤ 65536) := Lib.hid (by have := dqS_len v; have := hlen2.out; have := hsh.out; omega)
        have hex2' := hex2.out
        have hwr : IntKind.i64.wrap (m : Int) = (m : Int) := IntWalk.i64_in _ (by omega)
        have hmle : (m : Int) ≤ (s.size : Int) := by omega
        clear hh hdr2 hlen2 hqd2
        go_wp2
        go_still_tail 11, (by kernel_rfl)
        change wpList _ _ _ _ _ w2.drew
        have hu4 := Lib.hid (hu3.out.bel ((Below.refl _ _).drew))
        generalize w2.drew = w3 at *
        go_wp2_with fail
        refine (hR.out v w3 (hM.out _ _ hu4.out) hvl.out _ rfl).mono ?_
        rintro e w4 ⟨rfl, hb⟩
        have hu5 := Lib.hid (hu4.out.bel hb)
        clear hb
        go_wp2_with fail
        refine (hC.out (bA v) _ (by rw [bA_size]; exact hvl.out)).mono ?_
        rintro e w5 ⟨rfl, hb⟩
        have hu6 := Lib.hid (hu5.out.bel hb)
        clear hb
        go_wp2
        exact hq1.out v _ _ hqf.out (by rw [hr1.out, show s.size - (s.size - (m + 1)) = m + 1 by have := hjh.out; omega]; exact hu6.out)

/-- What a field leaves. -/
def FldR (s : ByteArray) (d : UInt8) (b : Nat) (r : Option (Bs × Bs)) (w : World) (e : Ending) (w' : World) : Prop := match r with
  | some (v, k) => e = .returned (.string (bA v)) ∧ Upd b (rdC s d (s.size - k.length)) rdT w w'
  | none => e = Pan tMis s.size ∧ ∃ p', Upd b (rdC s d p') rdT w w'

set_option maxRecDepth 100000 in
set_option maxHeartbeats 2000000 in
theorem field_any (s : ByteArray) (d : UInt8) (p b : Nat) (w : World) (h : Cb w b (rdC s d p) rdT) (hp : p ≤ s.size) (hs : s.size ≤ 65536) (hd : isD d = true) (hm : Mx w) :
    Calls Tryd.prog 48 #[.pointer (some ⟨b, 0, none⟩)] w (FldR s d b (fS d (s.data.toList.drop p)) w) := by
  have hl : (s.data.toList.drop p).length = s.size - p := by rw [List.length_drop, sz]
  have hW : Hid (∀ W, Cb W b (rdC s d p) rdT → Calls Tryd.prog 49 #[.pointer (some ⟨b, 0, none⟩), .string ⟨#[34]⟩] W fun e w' => e = .returned (.bool ((s.data.toList.drop p).head? == some 34)) ∧ ∃ q, w' = W.drewN q) := Lib.hid fun W hW' => (startsWith_any s d p b ⟨#[34]⟩ W hW' hp hs).mono fun e w' ⟨e1, e2⟩ => ⟨e1.trans (congrArg (fun z => Ending.returned (.bool z)) (pre1 34 (s.data.toList.drop p))), e2⟩
  have hU := Lib.hid (Upd.refl h)
  have hM : Hid (∀ W cs, Upd b cs rdT w W → Mx W) := Lib.hid fun W cs hu => hm.upd hu h (fun m => by simp)
  by_cases hh : (s.data.toList.drop p).head? = some 34
  · have g1 : ((s.data.toList.drop p).head? == some 34) = true := by rw [hh]; rfl
    have hlt : p + 1 ≤ s.size := by
      have : (s.data.toList.drop p).length ≠ 0 := fun e => by rw [List.eq_nil_of_length_eq_zero e] at hh; simp at hh
      omega
    have hfs : Hid (fS d (s.data.toList.drop p) = qS (s.data.toList.drop (p + 1))) := Lib.hid (by
      have hl2 : p < s.data.toList.length := by rw [sz]; omega
      rw [List.drop_eq_getElem_cons hl2] at hh ⊢
      have : s.data.toList[p] = 34 := by simpa using hh
      rw [fS_cons, if_pos this])
    have hQ : Hid (∀ W, Upd b (rdC s d p) rdT w W → Calls Tryd.prog 58 #[.pointer (some ⟨b, 0, none⟩)] W (FldR s d b (fS d (s.data.toList.drop p)) w)) := Lib.hid fun W hu => by
      refine (quoted_any s d p b W hu.here hlt hs (hM.out _ _ hu)).mono fun e w' hh => ?_
      rw [hfs.out]
      unfold FldR
      cases hq : qS (s.data.toList.drop (p + 1)) with
      | none => rw [hq] at hh; exact ⟨hh.1, hh.2.elim fun p' h2 => ⟨p', hu.trans h2⟩⟩
      | some r => rw [hq] at hh; exact ⟨hh.1, hu.trans hh.2⟩
    rw [g1] at hW
    generalize hR : FldR s d b (fS d (s.data.toList.drop p)) w = R at *
    replace hR := Lib.hid hR
    have hno : Hid (∀ e w', R e w' → (∃ x, e = .returned (.string x)) ∨ e = Pan tMis s.size) := Lib.hid fun e w' hr => by
      rw [← hR.out] at hr
      unfold FldR at hr
      split at hr
      · exact .inl ⟨_, hr.1⟩
      · exact .inr hr.1
    clear h hh hm hd hl g1
    go_enter Tryd.func48, Tryd.ntmps48
    go_wp2_with fail
    refine (hW.out _ hU.out.here).mono ?_
    rintro e w1 ⟨rfl, q, hw⟩
    have hU1 := Lib.hid (hU.out.drewN q)
    rw [← hw] at hU1
    replace hw := Lib.hid hw
    go_wp2_with fail
    refine (hQ.out _ hU1.out).mono ?_
    rintro e w2 hr
    rcases hno.out e w2 hr with ⟨x, rfl⟩ | rfl
    · replace hr := Lib.hid hr
      go_wp2
      exact hr.out
    · replace hr := Lib.hid hr
      have hP : Hid (Pan tMis s.size = .panicked [{ v := .iface tMis (.int .i64 (s.size : Int)), recovered := false }]) := Lib.hid rfl
      rw [hP.out]
      go_wp2
      trace_state
      exact ⟨rfl, hr.out⟩
  · have g1 : ((s.data.toList.drop p).head? == some 34) = false := by simpa using hh
    have hfs : Hid (fS d (s.data.toList.drop p) = some (plS d (s.data.toList.drop p), plR d (s.data.toList.drop p))) := Lib.hid (by
      cases hr : s.data.toList.drop p with
      | nil => rfl
      | cons c r => rw [hr] at hh; rw [fS_cons, if_neg (fun e => hh (by rw [e]; rfl))])
    have hlen : Hid (s.size - (plR d (s.data.toList.drop p)).length = p + (plS d (s.data.toList.drop p)).length) := Lib.hid (by
      have h1 := congrArg List.length (plS_R d (s.data.toList.drop p))
      rw [List.length_append] at h1
      omega)
    have hP := Lib.hid (fun W (hu : Upd b (rdC s d p) rdT w W) => plain_any s d p b W hu.here hp hs hd)
    rw [g1] at hW
    clear h hh hm hl g1
    go_enter Tryd.func48, Tryd.ntmps48
    go_wp2_with fail
    refine (hW.out _ hU.out.here).mono ?_
    rintro e w1 ⟨rfl, q, hw⟩
    have hU1 := Lib.hid (hU.out.drewN q)
    rw [← hw] at hU1
    replace hw := Lib.hid hw
    go_wp2_with fail
    refine (hP.out _ hU1.out).mono ?_
    rintro e w2 ⟨rfl, hu⟩
    have hu2 := Lib.hid (hU1.out.trans hu)
    clear hu
    go_wp2
    go_ret
    rw [hfs.out]
    exact ⟨rfl, by rw [hlen.out]; exact hu2.out⟩
end Go.Proofs.YtanipgjojacbfaaDoor
