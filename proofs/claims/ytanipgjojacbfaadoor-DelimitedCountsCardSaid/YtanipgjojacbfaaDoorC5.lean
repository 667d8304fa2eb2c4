/- The reference: a record. -/
import Derived.Test.YtanipgjojacbfaaDoorC4
namespace Go.Proofs.YtanipgjojacbfaaDoor
open Go.RowKit
set_option linter.unusedVariables false

theorem contS_end {d : UInt8} (n : Nat) (acc : List Bs) {k : Bs} {m : Nat} (h : endS k = some m) : contS d n acc k = .ok acc (k.drop m) := by
  cases k with
  | nil => cases h
  | cons c k =>
    rw [endS_cons] at h
    rw [contS_cons]
    by_cases h1 : c = 10
    · rw [if_pos h1] at h; cases h; rw [if_pos h1]; rfl
    · rw [if_neg h1] at h
      by_cases h2 : c = 13 ∧ k.head? = some 10
      · rw [if_pos h2] at h; cases h
        rw [if_neg h1, if_pos h2]
        cases k with
        | nil => exact absurd h2.2 (by simp)
        | cons e k => rfl
      · rw [if_neg h2] at h; cases h
theorem contS_no {d : UInt8} (n : Nat) (acc : List Bs) {c : UInt8} {k : Bs} (h : endS (c :: k) = none) : contS d n acc (c :: k) = if c = d then (match n with | 0 => .bad 2 (c :: k) | n + 1 => recS d n acc k) else .bad 3 (c :: k) := by
  rw [endS_cons] at h
  rw [contS_cons]
  by_cases h1 : c = 10
  · rw [if_pos h1] at h; cases h
  · rw [if_neg h1] at h
    by_cases h2 : c = 13 ∧ k.head? = some 10
    · rw [if_pos h2] at h; cases h
    · rw [if_neg h1, if_neg h2]
      cases n <;> rfl
theorem endS_le {k : Bs} {n : Nat} (h : endS k = some n) : n ≤ k.length := by
  cases k with
  | nil => cases h
  | cons c k =>
    rw [endS_cons] at h
    split at h
    · cases h; simp
    · by_cases h2 : c = 13 ∧ k.head? = some 10
      · rw [if_pos h2] at h
        cases h
        cases k with
        | nil => exact absurd h2.2 (by simp)
        | cons e k => simp
      · rw [if_neg h2] at h; cases h
theorem line_k {s : ByteArray} {p : Nat} {u k : Bs} (h : s.data.toList.drop p = u ++ k) (hu : (10 : UInt8) ∉ u) : lnP s (p + u.length) = lnP s p := by
  rw [lnP_app s h, List.count_eq_zero.2 hu, Nat.add_zero]
/-- What a record leaves in the reference. -/
def RerR (s : ByteArray) (d : UInt8) (b : Nat) (r : Rr) (w : World) (e : Ending) (w' : World) : Prop := match r with
  | .ok fs k => ∃ A c, e = .returned (.tuple #[.slice A fs.length c, .int .i64 0]) ∧ w'.ownsRow w.heap.size tStr 1 (.slice A fs.length c) fs.length (fs.map sV) ∧ fs ≠ [] ∧ Upd b (rrC s d (s.size - k.length)) rrT w w'
  | .bad x k => e = .returned (.tuple #[.slice none 0 0, .int .i64 x]) ∧ (x = 2 ∨ x = 3) ∧ Upd b (rrC s d (s.size - k.length)) rrT w w'

set_option maxRecDepth 100000 in
set_option maxHeartbeats 4000000 in
theorem rrecord_any (s : ByteArray) (d : UInt8) (p b : Nat) (w : World) (h : Cb w b (rrC s d p) rrT) (hp : p ≤ s.size) (hs : s.size ≤ 65536) (hd : isD d = true) :
    Calls Tryd.prog 23 #[.pointer (some ⟨b, 0, none⟩)] w (RerR s d b (recS d 31 [] (s.data.toList.drop p)) w) := by
  have hb : Hid (b < w.heap.size) := Lib.hid h.lt
  have hU := Lib.hid (Upd.refl h)
  have hF : Hid (∀ i W, i ≤ s.size → Upd b (rrC s d i) rrT w W → Calls Tryd.prog 35 #[.pointer (some ⟨b, 0, none⟩)] W (QuoR s d b (fS d (s.data.toList.drop i)) W)) := Lib.hid fun i W hi hu => rfield_any s d i b W hu.here hi hs
  have hE : Hid (∀ i W, i ≤ s.size → Upd b (rrC s d i) rrT w W → Calls Tryd.prog 36 #[.pointer (some ⟨b, 0, none⟩)] W fun e w' => match endS (s.data.toList.drop i) with
      | some n => e = .returned (.bool true) ∧ Upd b (rrC s d (i + n)) rrT W w'
      | none => e = .returned (.bool false) ∧ Upd b (rrC s d i) rrT W w') := Lib.hid fun i W hi hu => rend_any s d i b W hu.here hi hs
  have hsh := Lib.hid hs
  have hph := Lib.hid hp
  have hdo := Lib.hid (dOk_of hd)
  have hdl := Lib.hid (sz s)
  generalize hr0 : recS d 31 [] (s.data.toList.drop p) = r0
  generalize hR : RerR s d b r0 w = R
  have hq1 : Hid (∀ fs k A c w', r0 = .ok fs k → w'.ownsRow w.heap.size tStr 1 (.slice A fs.length c) fs.length (fs.map sV) → fs ≠ [] → Upd b (rrC s d (s.size - k.length)) rrT w w' → R (.returned (.tuple #[.slice A fs.length c, .int .i64 0])) w') := Lib.hid fun fs k A c w' e h1 h2 h3 => by
    subst e; rw [← hR]; exact ⟨A, c, rfl, h1, h2, h3⟩
  have hq2 : Hid (∀ x k w', r0 = .bad x k → (x = 2 ∨ x = 3) → Upd b (rrC s d (s.size - k.length)) rrT w w' → R (.returned (.tuple #[.slice none 0 0, .int .i64 x])) w') := Lib.hid fun x k w' e hx h1 => by
    subst e; rw [← hR]; exact ⟨rfl, hx, h1⟩
  have hr1 : Hid (r0 = recS d (31 - 0) [] (s.data.toList.drop p)) := Lib.hid hr0.symm
  obtain ⟨i0, hi, hz0, hz1, hz2⟩ := info_parts (show (Tryd.prog.info? tStr).map (fun i => (i.zero, i.size, i.bytes)) = some (some (.string ⟨#[]⟩), 1, 16) by kernel_rfl)
  replace hi := Lib.hid hi; replace hz0 := Lib.hid hz0; replace hz1 := Lib.hid hz1; replace hz2 := Lib.hid hz2
  clear hr0 hR h hd hs hp
  go_enter Tryd.func23, Tryd.ntmps23
  go_wp2
  go_loopw [4] (fun fv wr => ∃ (i : Nat) (fs : List Bs), i ≤ s.size ∧ fs.length ≤ 31 ∧ wr.ownsRow w.heap.size tStr 1 fv fs.length (fs.map sV) ∧ Upd b (rrC s d i) rrT w wr ∧ r0 = recS d (31 - fs.length) fs (s.data.toList.drop i)) (fun _ wr => s.size - posR wr b)
  case atStart => exact ⟨p, [], hph.out, Nat.zero_le _, World.ownsRow_nil _ _ _ _, hU.out, hr1.out⟩
  case round =>
    clear hU hr1
    obtain ⟨i, fs, his, hf31, hown, hu, hr⟩ := hrel
    obtain ⟨A, c, rfl⟩ := own_slice hown
    have hF1 := Lib.hid (hF.out i wr his hu)
    have hmeas := Lib.hid (posR_of hu.here)
    have hr2 : Hid (r0 = match fS d (s.data.toList.drop i) with
      | none => .bad 3 []
      | some (v, k) => contS d (31 - fs.length) (fs ++ [v]) k) := Lib.hid (hr.trans (recS_eq _ _ _ _))
    replace hown := Lib.hid hown
    replace hu := Lib.hid hu
    have hish := Lib.hid his
    have hfh := Lib.hid hf31
    clear hr his hf31
    go_wp2_with fail
    refine hF1.out.mono ?_
    intro e w1 hf
    clear hF1
    cases hfs : fS d (s.data.toList.drop i) with
    | none =>
      rw [hfs] at hf hr2
      obtain ⟨rfl, hu1⟩ := hf
      have hq := Lib.hid (hq2.out 3 [] w1 hr2.out (.inr rfl) (hu.out.trans hu1))
      clear hq1 hq2 hF hE hu1 hu
      go_wp2
      exact hq.out
    | some r =>
      obtain ⟨v, k⟩ := r
      rw [hfs] at hf hr2
      obtain ⟨rfl, hu1⟩ := hf
      obtain ⟨u0, hu0, _⟩ := fS_some hfs
      have hk0 : Hid (s.data.toList.drop (s.size - k.length) = k) := Lib.hid (by
        have := drop_len (t := s.data.toList) (x := s.data.toList.take i ++ u0) (k := k) (by rw [List.append_assoc, ← hu0, List.take_append_drop])
        rw [sz] at this
        exact this)
      have hkl : Hid (k.length ≤ s.size - i) := Lib.hid (by
        have h1 := congrArg List.length hu0
        rw [List.length_drop, sz, List.length_append] at h1
        omega)
      have hu4 := Lib.hid (hu.out.trans hu1)
      have hown4 := Lib.hid (own_upd hown.out hu1 hb.out)
      have hsz3 : Hid (w.heap.size ≤ w1.heap.size) := Lib.hid hu4.out.size
      clear hu1 hown hu hfs hu0
      go_wp2_with (at_builtin; refine wpList_append_own _ rfl _ _ 34 rfl w.heap.size tStr i0 (.string ⟨#[]⟩) 1 16 Tryd.underlying34 hi.out hz0.out hz1.out hz2.out rfl (by decide) _ _ _ rfl (hown4.out.alloc (.cells #[.string (bA v)] tStr)) ⟨w1.heap.size, 0, none⟩ 1 1 [.string (bA v)] rfl rfl (cell_one_new _ _ _) (fun x hx => by simp at hx; subst hx; rfl) (by have := hfh.out; unfold maxLen; omega) (by have := hfh.out; omega) (by have := hsz3.out; simp; omega) ?_)
      intro v' w5 hown5 hgrow _
      have hu5 := Lib.hid ((hu4.out.bel ((Below.refl _ _).alloc (Nat.le_refl _) (.cells #[.string (bA v)] tStr))).grown hgrow (fun k hk => (hown4.out.lt k hk).1) hb.out)
      have hown6 : Hid (w5.ownsRow w.heap.size tStr 1 v' (fs ++ [v]).length ((fs ++ [v]).map sV)) := Lib.hid (by rw [List.length_append, List.map_append]; exact hown5)
      clear hown5 hgrow hu4 hown4
      obtain ⟨A6, c6, rfl⟩ := own_slice hown6.out
      have hfl : Hid ((fs ++ [v]).length = fs.length + 1) := Lib.hid (by rw [List.length_append]; rfl)
      have hne : Hid (fs ++ [v] ≠ []) := Lib.hid (by simp)
      generalize hfs2 : fs ++ [v] = fs2 at *
      clear hfs2
      obtain ⟨j, hj⟩ : ∃ j, j = s.size - k.length := ⟨_, rfl⟩
      rw [← hj] at hk0 hu5
      have hjs : Hid (j ≤ s.size) := Lib.hid (by omega)
      have hij : Hid (i ≤ j) := Lib.hid (by have := hkl.out; have := hish.out; omega)
      have hkj : Hid (k.length = s.size - j) := Lib.hid (by have := hkl.out; omega)
      replace hj := Lib.hid hj
      have c0 := rr0 hu5.out.here
      have c1 := rr1 hu5.out.here
      have hj0 : (0 : Int) ≤ (j : Int) := by omega
      have hjz : (j : Int) ≤ 65536 := by have := hjs.out; have := hsh.out; omega
      cases hkk : k with
      | nil =>
        have g1 : ((j : Int) == (s.size : Int)) = true := by have := hkj.out; rw [hkk] at this; have := hjs.out; simp at *; omega
        have g2 : j = s.size := by have := beq_iff_eq.1 g1; omega
        have hr3 : Hid (r0 = .ok fs2 []) := Lib.hid (by rw [hr2.out, hkk]; rfl)
        have hux : Hid (∀ W, Upd b (rrC s d j) rrT w W → Upd b (rrC s d (s.size - ([] : Bs).length)) rrT w W) := Lib.hid fun W h => by rw [show s.size - ([] : Bs).length = j by rw [g2]; rfl]; exact h
        clear hr2 hkk hF hE
        replace g2 := Lib.hid g2
        go_wp2
        go_quiet (fail)
        have hq := Lib.hid (hq1.out fs2 [] A6 c6 _ hr3.out (own_drewN hown6.out nq) hne.out (hux.out _ (hu5.out.drewN nq)))
        generalize w5.drewN nq = w6 at *
        clear hq1 hq2
        go_wp2
        exact hq.out
      | cons e k2 =>
        have hjlt : j < s.size := by have := hkj.out; rw [hkk, List.length_cons] at this; have := hjs.out; omega
        have g1 : ((j : Int) == (s.size : Int)) = false := by simp; omega
        have hE1 := Lib.hid (fun W h => hE.out j W hjs.out h)
        rw [hk0.out] at hE1
        have hdj : Hid (s.data.toList.drop j = e :: k2) := Lib.hid (hk0.out.trans hkk)
        have hjh := Lib.hid hjlt
        go_wp2
        go_still_tail 12, (by kernel_rfl)
        change wpList _ _ _ _ _ w5.drew
        have hu6 := Lib.hid (hu5.out.bel ((Below.refl _ _).drew))
        have hown7 := Lib.hid (own_bel hown6.out ((Below.refl w5.heap.size w5).drew))
        generalize w5.drew = w6 at *
        clear hu5 hown6 c0 c1
        go_wp2_with fail
        refine (hE1.out _ hu6.out).mono ?_
        intro e2 w7 hf
        cases hen : endS k with
        | some m =>
          rw [hen] at hf
          obtain ⟨rfl, hu7⟩ := hf
          have hr3 : Hid (r0 = .ok fs2 (k.drop m)) := Lib.hid (hr2.out.trans (contS_end _ _ hen))
          have hml := endS_le hen
          have hq := Lib.hid (hq1.out fs2 _ A6 c6 w7 hr3.out (own_upd hown7.out hu7 hb.out) hne.out (by rw [List.length_drop, hkj.out, show s.size - (s.size - j - m) = j + m by have := hkj.out; omega]; exact hu6.out.trans hu7))
          clear hq1 hq2 hr2 hen hml hu7 hkk
          go_wp2
          exact hq.out
        | none =>
          rw [hen] at hf
          obtain ⟨rfl, hu7⟩ := hf
          have hr3 : Hid (r0 = if e = d then (match 31 - fs.length with | 0 => .bad 2 (e :: k2) | n + 1 => recS d n fs2 k2) else .bad 3 (e :: k2)) := Lib.hid (by
            rw [hr2.out, hkk]
            rw [hkk] at hen
            refine (contS_no _ _ hen).trans ?_
            cases 31 - fs.length <;> rfl)
          have hu8 := Lib.hid (hu6.out.trans hu7)
          have hown8 := Lib.hid (own_upd hown7.out hu7 hb.out)
          have hpos : Hid (s.size - (e :: k2).length = j) := Lib.hid (by rw [← hkk, hkj.out]; omega)
          obtain ⟨hlt2, he2, hk2⟩ := at_drop hdj.out
          have c0 := rr0 hu8.out.here
          have c1 := rr1 hu8.out.here
          have c3 := rr3 hu8.out.here
          clear hr2 hen hu7 hown7 hu6 hkk hE1
          by_cases hed : e = d
          · have g2 := u8eq' hed
            have hl1 : Hid (lnP s (j + 1) = lnP s j) := Lib.hid (by
              have := line_k (u := [e]) (k := k2) hdj.out (fun hm => hdo.out.2.2 (by rw [← hed]; exact (List.mem_singleton.1 hm).symm))
              exact this)
            replace hk2 := Lib.hid hk2
            go_wp2
            go_quiet (fail)
            have hu9 := Lib.hid (hu8.out.drewN nq)
            have hown9 := Lib.hid (own_drewN hown8.out nq)
            generalize w7.drewN nq = w8 at *
            have c1 := rr1 hu9.out.here
            have f1 := hu9.out.here.frozen 1
            by_cases hfull : fs.length = 31
            · have g3 : ((fs2.length : Int) == 32) = true := by rw [hfl.out, hfull]; rfl
              have hq := Lib.hid (hq2.out 2 (e :: k2) w8 (by have h1 := hr3.out; rw [if_pos hed, hfull] at h1; exact h1) (.inl rfl) (by rw [hpos.out]; exact hu9.out))
              clear hq1 hq2 hfull hr3 c0 c3 hu8 hown8
              go_wp2
              exact hq.out
            · have g3 : ((fs2.length : Int) == 32) = false := by rw [beq_eq_false_iff_ne, hfl.out]; omega
              have hr4 : Hid (r0 = recS d (31 - fs2.length) fs2 (s.data.toList.drop (j + 1))) := Lib.hid (by
                have h1 := hr3.out
                have := hfh.out
                rw [if_pos hed, show 31 - fs.length = (30 - fs.length) + 1 by omega] at h1
                rw [hk2.out, hfl.out, show 31 - (fs.length + 1) = 30 - fs.length by omega]
                exact h1)
              have hu10 := Lib.hid (upd_at hu9.out hl1.out)
              have hown10 := Lib.hid (own_set hown9.out ⟨b, 1, none⟩ (.int .i64 ((j : Int) + 1)) hb.out)
              have hf2 : Hid (fs2.length ≤ 31) := Lib.hid (by rw [hfl.out]; have := hfh.out; omega)
              clear hfull hr3 c0 c3 hu8 hown8 hu9 hown9
              go_wp2
              go_roundw
              case rel => exact ⟨j + 1, fs2, by have := hjh.out; omega, hf2.out, hown10.out, hu10.out, hr4.out⟩
              case measure => rw [posR_of hu10.out.here, hmeas.out]; have := hij.out; have := hjh.out; omega
          · have g2 := u8ne' hed
            have hq := Lib.hid (fun W hu => hq2.out 3 (e :: k2) W (by have h1 := hr3.out; rw [if_neg hed] at h1; exact h1) (.inr rfl) (by rw [hpos.out]; exact hu))
            clear hed hr3 hq1 hq2 hk2
            go_wp2
            go_quiet (fail)
            have hqq := Lib.hid (hq.out _ (hu8.out.drewN nq))
            generalize w7.drewN nq = w8 at *
            clear hq c0 c1 c3 hu8 hown8
            go_wp2
            exact hqq.out
end Go.Proofs.YtanipgjojacbfaaDoor
