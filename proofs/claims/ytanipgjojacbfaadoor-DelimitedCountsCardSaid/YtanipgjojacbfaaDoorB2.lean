/- All records. -/
import Derived.Test.YtanipgjojacbfaaDoorB1
namespace Go.Proofs.YtanipgjojacbfaaDoor
open Go.RowKit
set_option linter.unusedVariables false

/-- A record in memory. -/
structure Row where
  A : Option Addr
  c : Nat
  fs : List Bs
abbrev Row.val (r : Row) : Value := .slice r.A r.fs.length r.c
abbrev tLst : Nat := 34
/-- The records lie in memory of the call's own. -/
def Rows' (W : World) (base : Nat) (R : List Row) : Prop := ∀ r ∈ R, W.ownsRow base tStr 1 r.val r.fs.length (r.fs.map sV) ∧ r.fs ≠ []
section
variable {W W' : World} {base b t : Nat} {cs : Array Value} {R : List Row} {v : Value} {n : Nat} {xs : List Value}
theorem Rows'.bel (h : Rows' W base R) (hb : Below W.heap.size W W') : Rows' W' base R := fun r hr => ⟨own_bel (h r hr).1 hb, (h r hr).2⟩
theorem Rows'.upd (h : Rows' W base R) (hu : Upd b cs t W W') (hb : b < base) : Rows' W' base R := fun r hr => ⟨own_upd (h r hr).1 hu hb, (h r hr).2⟩
theorem own_other {e e2 size size2 base2 n2 : Nat} {v2 : Value} {xs2 : List Value} (h : W.ownsRow base e size v n xs) (h2 : W.ownsRow base2 e2 size2 v2 n2 xs2) (hne : e ≠ e2) (hg : W.grownBy W' v2.ownBlock) : W'.ownsRow base e size v n xs := by
  refine own_keep h fun k hk h1 h3 => hg.block k h3 fun e1 => ?_
  rcases h.2 with ⟨rfl, _⟩ | ⟨g, cap, cur, rfl, _, h4, _⟩
  · cases hk
  · rcases h2.2 with ⟨rfl, _⟩ | ⟨g2, cap2, cur2, rfl, _, h5, _⟩
    · cases e1
    · cases hk
      cases e1
      rw [h4] at h5
      injection h5 with h5
      injection h5 with _ h5 _
      exact hne h5
theorem Rows'.grown (h : Rows' W base R) (h2 : W.ownsRow base tLst 1 v n xs) (hg : W.grownBy W' v.ownBlock) : Rows' W' base R := fun r hr => ⟨own_other (h r hr).1 h2 (by decide) hg, (h r hr).2⟩
theorem Rows'.snoc (h : Rows' W base R) {r : Row} (hr : W.ownsRow base tStr 1 r.val r.fs.length (r.fs.map sV)) (hn : r.fs ≠ []) : Rows' W base (R ++ [r]) := fun q hq => by
  rcases List.mem_append.1 hq with hq | hq
  · exact h q hq
  · obtain rfl : q = r := by simpa using hq
    exact ⟨hr, hn⟩
end
/-- What the reading of all records leaves. -/
def RecsR (s : ByteArray) (d : UInt8) (b : Nat) (r : Res) (w : World) (e : Ending) (w' : World) : Prop := match r with
  | .ok l => ∃ R A c, e = .returned (.slice A R.length c) ∧ w'.ownsRow w.heap.size tLst 1 (.slice A R.length c) R.length (R.map Row.val) ∧ Rows' w' w.heap.size R ∧ R.map Row.fs = l ∧ ∃ p', Upd b (rdC s d p') rdT w w'
  | .bad x k => e = PanE x (s.size - k.length) ∧ ∃ p', Upd b (rdC s d p') rdT w w'
theorem recsS_nil (d : UInt8) (n : Nat) (acc : List (List Bs)) : recsS d n acc [] = .ok acc := by cases n <;> rfl
theorem recsS_zero (d : UInt8) (acc : List (List Bs)) {r : Bs} (h : r ≠ []) : recsS d 0 acc r = .bad 2 r := by
  obtain ⟨c, r, rfl⟩ := List.exists_cons_of_ne_nil h; rfl
theorem recsS_succ (d : UInt8) (n : Nat) (acc : List (List Bs)) {r : Bs} (h : r ≠ []) : recsS d (n + 1) acc r = match recS d 31 [] r with
    | .ok fs k => recsS d n (acc ++ [fs]) k
    | .bad e k => .bad e k := by
  obtain ⟨c, r, rfl⟩ := List.exists_cons_of_ne_nil h; rfl
theorem contS_lt {d : UInt8} : ∀ (n : Nat) (acc : List Bs) (k : Bs) fs q, contS d n acc k = .ok fs q → q.length < k.length ∨ q = [] := by
  intro n
  cases n with
  | zero =>
    intro acc k fs q h
    cases k with
    | nil => cases h; exact .inr rfl
    | cons c k =>
      rw [contS_cons] at h
      split at h
      · cases h; exact .inl (by simp)
      · split at h
        · cases h; exact .inl (by simp; omega)
        · split at h <;> cases h
  | succ n =>
    intro acc k fs q h
    cases k with
    | nil => cases h; exact .inr rfl
    | cons c k =>
      rw [contS_cons] at h
      split at h
      · cases h; exact .inl (by simp)
      · split at h
        · cases h; exact .inl (by simp; omega)
        · split at h
          · exact .inl (by have := (recS_le h).1; rw [List.length_cons]; omega)
          · cases h
theorem recS_lt {d : UInt8} {n : Nat} {acc fs : List Bs} {r q : Bs} (hr : r ≠ []) (h : recS d n acc r = .ok fs q) : q.length < r.length := by
  have hr' := List.length_pos_iff.2 hr
  rw [recS_eq] at h
  cases hf : fS d r with
  | none => rw [hf] at h; cases h
  | some p =>
    obtain ⟨v, k2⟩ := p
    rw [hf] at h
    obtain ⟨u, hu, _⟩ := fS_some hf
    have h3 : k2.length ≤ r.length := by rw [hu, List.length_append]; omega
    rcases contS_lt _ _ _ _ _ h with h1 | h1
    · omega
    · rw [h1]; exact hr'

set_option maxRecDepth 100000 in
set_option maxHeartbeats 2000000 in
theorem records_any (s : ByteArray) (d : UInt8) (b : Nat) (w : World) (h : Cb w b (rdC s d 0) rdT) (hs : s.size ≤ 65536) (hd : isD d = true) (hm : Mx w) :
    Calls Tryd.prog 21 #[.pointer (some ⟨b, 0, none⟩)] w (RecsR s d b (parseS d s.data.toList) w) := by
  have hM : Hid (∀ W cs, Upd b cs rdT w W → Mx W) := Lib.hid fun W cs hu => hm.upd hu h (fun m => by simp)
  have hb : Hid (b < w.heap.size) := Lib.hid h.lt
  have hU := Lib.hid (Upd.refl h)
  have hF : Hid (∀ i W, i ≤ s.size → Upd b (rdC s d i) rdT w W → Calls Tryd.prog 34 #[.pointer (some ⟨b, 0, none⟩)] W (RecR s d b (recS d 31 [] (s.data.toList.drop i)) W)) := Lib.hid fun i W hi hu => record_any s d i b W hu.here hi hs hd (hM.out _ _ hu)
  have hsh := Lib.hid hs
  generalize hr0 : parseS d s.data.toList = r0
  generalize hR : RecsR s d b r0 w = Q
  have hq1 : Hid (∀ l R A c p' w', r0 = .ok l → w'.ownsRow w.heap.size tLst 1 (.slice A R.length c) R.length (R.map Row.val) → Rows' w' w.heap.size R → R.map Row.fs = l → Upd b (rdC s d p') rdT w w' → Q (.returned (.slice A R.length c)) w') := Lib.hid fun l R A c p' w' e h1 h2 h3 h4 => by
    subst e; rw [← hR]; exact ⟨R, A, c, rfl, h1, h2, h3, p', h4⟩
  have hq2 : Hid (∀ x k p' w', r0 = .bad x k → Upd b (rdC s d p') rdT w w' → Q (PanE x (s.size - k.length)) w') := Lib.hid fun x k p' w' e h1 => by
    subst e; rw [← hR]; exact ⟨rfl, p', h1⟩
  have hr1 : Hid (r0 = recsS d (1024 - 0) [] (s.data.toList.drop 0)) := Lib.hid (by rw [← hr0]; rfl)
  obtain ⟨i0, hi, hz0, hz1, hz2⟩ := info_parts (show (Tryd.prog.info? tLst).map (fun i => (i.zero, i.size, i.bytes)) = some (some (.slice none 0 0), 1, 24) by kernel_rfl)
  replace hi := Lib.hid hi; replace hz0 := Lib.hid hz0; replace hz1 := Lib.hid hz1; replace hz2 := Lib.hid hz2
  clear hr0 hR h hm hd hs
  have hPu : Hid (∀ x q, PanE x q = .panicked [{ v := .iface (if x = 3 then tMis else tExc) (.int .i64 ((q : Nat) : Int)), recovered := false }]) := Lib.hid fun _ _ => rfl
  go_enter Tryd.func21, Tryd.ntmps21
  go_wp2
  go_loopw [3] (fun lv wr => ∃ (i : Nat) (R : List Row), i ≤ s.size ∧ R.length ≤ 1024 ∧ wr.ownsRow w.heap.size tLst 1 lv R.length (R.map Row.val) ∧ Rows' wr w.heap.size R ∧ Upd b (rdC s d i) rdT w wr ∧ r0 = recsS d (1024 - R.length) (R.map Row.fs) (s.data.toList.drop i)) (fun _ wr => s.size - posOf wr b)
  case atStart => exact ⟨0, [], Nat.zero_le _, Nat.zero_le _, World.ownsRow_nil _ _ _ _, (fun r hr => by cases hr), hU.out, hr1.out⟩
  case round =>
    clear hU hr1
    obtain ⟨i, R, his, hf32, hown, hrows, hu, hr⟩ := hrel
    obtain ⟨A, c, rfl⟩ := own_slice hown
    have c0 := rd0 hu.here
    have c2 := rd2 hu.here
    have hmeas := Lib.hid (posOf_of hu.here)
    replace hown := Lib.hid hown
    replace hrows := Lib.hid hrows
    replace hu := Lib.hid hu
    replace hr := Lib.hid hr
    have hish := Lib.hid his
    have hfh := Lib.hid hf32
    have hrl : Hid ((s.data.toList.drop i).length = s.size - i) := Lib.hid (by rw [List.length_drop, sz])
    by_cases hlt : i < s.size
    · have g1 : (i : Int) < (s.size : Int) := by omega
      have hne : Hid (s.data.toList.drop i ≠ []) := Lib.hid (fun e => by have := hrl.out; rw [e] at this; simp at this; omega)
      by_cases hfull : R.length = 1024
      · have g2 : ((R.length : Int) == 1024) = true := by rw [hfull]; rfl
        have hr2 : Hid (r0 = .bad 2 (s.data.toList.drop i)) := Lib.hid (by rw [hr.out, hfull]; exact recsS_zero _ _ hne.out)
        have hpos : Hid (s.size - (s.data.toList.drop i).length = i) := Lib.hid (by rw [hrl.out]; omega)
        clear hfull hlt his hf32
        go_wp2
        go_quiet (fail)
        have hu1 := Lib.hid (hu.out.drewN nq)
        generalize wr.drewN nq = w1 at *
        have c2 := rd2 hu1.out.here
        have hq := Lib.hid (hq2.out 2 _ i w1 hr2.out hu1.out)
        rw [hpos.out] at hq
        have hP2 : Hid (PanE 2 i = .panicked [{ v := .iface tExc (.int .i64 ((i : Nat) : Int)), recovered := false }]) := Lib.hid rfl
        rw [hP2.out] at hq
        clear hq1 hq2 hr
        go_wp2
        exact ⟨rfl, hq.out⟩
      · have g2 : ((R.length : Int) == 1024) = false := by simp; omega
        have hr2 : Hid (r0 = match recS d 31 [] (s.data.toList.drop i) with
          | .ok fs k => recsS d (1023 - R.length) (R.map Row.fs ++ [fs]) k
          | .bad e k => .bad e k) := Lib.hid (by
          rw [hr.out, show 1024 - R.length = (1023 - R.length) + 1 by omega]
          exact recsS_succ _ _ _ hne.out)
        replace hfull := Lib.hid hfull
        replace hlt := Lib.hid hlt
        clear his hf32
        go_wp2
        go_quiet (fail)
        have hu1 := Lib.hid (hu.out.drewN nq)
        have hown1 := Lib.hid (own_drewN hown.out nq)
        have hrows1 := Lib.hid (hrows.out.bel (below_drewN (Below.refl _ _) nq))
        generalize wr.drewN nq = w1 at *
        clear hu hown hrows c0 c2 hr
        have hF1 := Lib.hid (hF.out i w1 hish.out hu1.out)
        go_wp2_with fail
        refine hF1.out.mono ?_
        intro e w2 hf
        clear hF1
        cases hfs : recS d 31 [] (s.data.toList.drop i) with
        | bad x k =>
          rw [hfs] at hf hr2
          obtain ⟨rfl, p', hu⟩ := hf
          have hq := Lib.hid (hq2.out x k p' w2 hr2.out (hu1.out.trans hu))
          rw [hPu.out] at hq ⊢
          clear hq1 hq2 hu hF
          generalize (if x = 3 then tMis else tExc) = tt at *
          go_wp2
          exact ⟨rfl, hq.out⟩
        | ok fs k =>
          rw [hfs] at hf hr2
          obtain ⟨A2, c2, rfl, hrow, hfne, hu⟩ := hf
          obtain ⟨hkl, x, hx⟩ := recS_le hfs
          have hkl2 := Lib.hid (recS_lt hne.out hfs)
          have hk0 : Hid (s.data.toList.drop (s.size - k.length) = k) := Lib.hid (by
            have := drop_len (t := s.data.toList) (x := s.data.toList.take i ++ x) (k := k) (by rw [List.append_assoc, ← hx, List.take_append_drop])
            rw [sz] at this
            exact this)
          have hu4 := Lib.hid (hu1.out.trans hu)
          have hown4 := Lib.hid (own_upd hown1.out hu hb.out)
          have hrow4 := Lib.hid (own_less hrow hu1.out.size)
          have hrows4 := Lib.hid ((hrows1.out.upd hu hb.out).snoc (r := ⟨A2, c2, fs⟩) hrow4.out hfne)
          have hr5 : Hid (r0 = recsS d (1024 - (R ++ [(⟨A2, c2, fs⟩ : Row)]).length) ((R ++ [(⟨A2, c2, fs⟩ : Row)]).map Row.fs) (s.data.toList.drop (s.size - k.length))) := Lib.hid (by
            rw [hk0.out, List.length_append, List.map_append, show 1024 - (R.length + [(⟨A2, c2, fs⟩ : Row)].length) = 1023 - R.length by show 1024 - (R.length + 1) = _; omega]
            exact hr2.out)
          clear hr2 hu hown1 hu1 hfs hx hk0 hrows1 hrow hrow4 hkl
          replace hfne := Lib.hid hfne
          have hsz3 : Hid (w.heap.size ≤ w2.heap.size) := Lib.hid hu4.out.size
          have hn63 : Hid (R.length + 1 ≤ 1024) := Lib.hid (by have := hfh.out; have := hfull.out; omega)
          go_wp2_with (at_builtin; refine wpList_append_own _ rfl _ _ 23 rfl w.heap.size tLst i0 (.slice none 0 0) 1 24 Tryd.underlying23 hi.out hz0.out hz1.out hz2.out rfl (by decide) _ _ _ rfl (hown4.out.alloc (.cells #[.slice A2 fs.length c2] tLst)) ⟨w2.heap.size, 0, none⟩ 1 1 [.slice A2 fs.length c2] rfl rfl (cell_one_new _ _ _) (fun x hx => by simp at hx; subst hx; rfl) (by have := hn63.out; unfold maxLen; omega) (by have := hn63.out; omega) (by have := hsz3.out; simp; omega) ?_)
          intro v' w5 hown5 hgrow _
          have hba := (Below.refl w2.heap.size w2).alloc (Nat.le_refl _) (.cells #[.slice A2 fs.length c2] tLst)
          have hu5 := Lib.hid ((hu4.out.bel hba).grown hgrow (fun k hk => (hown4.out.lt k hk).1) hb.out)
          have hown6 : Hid (w5.ownsRow w.heap.size tLst 1 v' (R ++ [(⟨A2, c2, fs⟩ : Row)]).length ((R ++ [(⟨A2, c2, fs⟩ : Row)]).map Row.val)) := Lib.hid (by rw [List.length_append, List.map_append]; exact hown5)
          have hrows5 := Lib.hid ((hrows4.out.bel hba).grown (own_bel hown4.out hba) hgrow)
          clear hown5 hgrow hu4 hown4 hba hrows4
          go_wp2
          go_roundw
          case rel => exact ⟨s.size - k.length, R ++ [⟨A2, c2, fs⟩], Nat.sub_le _ _, by rw [List.length_append]; exact hn63.out, hown6.out, hrows5.out, hu5.out, hr5.out⟩
          case measure => rw [posOf_of hu5.out.here, hmeas.out]; have := hkl2.out; have := hrl.out; have := hlt.out; omega
    · have g1 : ¬ (i : Int) < (s.size : Int) := by omega
      have hnil : s.data.toList.drop i = [] := List.eq_nil_of_length_eq_zero (by rw [hrl.out]; omega)
      have hr2 : Hid (r0 = .ok (R.map Row.fs)) := Lib.hid (by rw [hr.out, hnil, recsS_nil])
      clear hnil hlt his hf32 hr
      go_wp2
      go_quiet (fail)
      have hq := Lib.hid (hq1.out _ R A c i _ hr2.out (own_drewN hown.out nq) (hrows.out.bel (below_drewN (Below.refl _ _) nq)) rfl (hu.out.drewN nq))
      generalize wr.drewN nq = w1 at *
      clear hq1 hq2
      go_wp2
      exact hq.out
end Go.Proofs.YtanipgjojacbfaaDoor
