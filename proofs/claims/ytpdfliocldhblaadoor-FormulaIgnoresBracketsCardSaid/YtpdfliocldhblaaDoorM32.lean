/- Brackets around the whole right side, and blanks, change nothing. -/
import Derived.Test.YtpdfliocldhblaaDoorM25
namespace Go.Proofs.YtpdfliocldhblaaDoor
open Go.RowKit
set_option linter.unusedVariables false

theorem rdR_of (r : F9.Bs) (tr : F9.Tr) (hw : tr.wf) (hc : F9.To (.bin 1) r (.ok (tr, []))) : ∃ t', F9.rdR (6 * r.length + 5) r = .ok t' ∧ t'.pre = tr.pre := by
  obtain ⟨c, hc⟩ := hc
  have hbig : F9.rdR (6 * r.length + 5 + c) r = .ok tr := by
    unfold F9.rdR
    rw [hc (6 * r.length + 5)]
    rfl
  obtain ⟨c1, h1⟩ := (F9.both (6 * r.length + 5 + c) r).1 tr hbig
  have hfu := F9.fuel (6 * r.length + 5) (.bin 1) r (fun k e => by injection e; omega) (fun _ _ e => by cases e) trivial (Nat.le_refl _)
  have hb := F9.both (6 * r.length + 5) r
  have hno : ∀ e : F9.Er, F9.rdR (6 * r.length + 5) r = .error e → e.1 ≠ 0 → False := fun e he hne => by
    obtain ⟨c2, h2⟩ := hb.2 e he hne
    have a := h1 c2
    have b := h2 c1
    rw [Nat.add_comm] at b
    rw [a] at b
    cases b
  cases hx : F9.rdR (6 * r.length + 5) r with
  | error e =>
    refine (hno e hx ?_).elim
    unfold F9.rdR at hx
    cases hz : F9.run (6 * r.length + 5) (.bin 1) r with
    | error y => rw [hz] at hx; simp only at hx; injection hx with hx; subst hx; exact hfu.1 _ hz
    | ok y =>
      obtain ⟨t1, r3⟩ := y
      rw [hz] at hx
      simp only at hx
      by_cases hn : F9.fw r3 = []
      · rw [if_pos hn] at hx; cases hx
      · rw [if_neg hn] at hx; injection hx with hx; subst hx; simp
  | ok t' =>
    refine ⟨t', rfl, ?_⟩
    have hw' : t'.wf := by
      unfold F9.rdR at hx
      cases hz : F9.run (6 * r.length + 5) (.bin 1) r with
      | error y => rw [hz] at hx; cases hx
      | ok y =>
        obtain ⟨t1, r3⟩ := y
        rw [hz] at hx
        simp only at hx
        by_cases hn : F9.fw r3 = []
        · rw [if_pos hn] at hx; injection hx with hx; subst hx; exact (hfu.2 t1 r3 hz).1
        · rw [if_neg hn] at hx; cases hx
    obtain ⟨c2, h2⟩ := hb.1 t' hx
    have a := h1 c2
    have b := h2 c1
    rw [Nat.add_comm] at b
    rw [a] at b
    injection b with b
    have p1 := F9.po_post tr hw []
    have p2 := F9.po_post t' hw' []
    rw [b, p2] at p1
    simpa using p1
/-- So many brackets around. -/
def brk (x : F9.Bs) : Nat → F9.Bs
  | 0 => x
  | k + 1 => [40, 32] ++ brk x k ++ [32, 41, 32, 32]
theorem brk_beg {tr : F9.Tr} (hw : tr.wf) : ∀ k, F9.beg (brk tr.wr k)
  | 0 => F9.beg_wr tr hw
  | k + 1 => ⟨40, _, rfl, by decide⟩
theorem brk_reads {tr : F9.Tr} (hw : tr.wf) : ∀ (k : Nat) (s : F9.Bs), F9.sep s → F9.Reads tr (brk tr.wr k) s 1
  | 0, s, hs => F9.reads tr hw s hs 1 (by omega) (by omega) (F9.rank_pos tr hw)
  | k + 1, s, hs => by
    refine F9.reads_to 4 (Nat.le_refl _) ?_ (by omega)
    intro X _ h2
    refine F9.to_four (t := tr) (r1 := F9.trm s) ?_ h2
    have e : brk tr.wr (k + 1) ++ s = 40 :: 32 :: (brk tr.wr k ++ (32 :: 41 :: 32 :: 32 :: s)) := by simp [brk]
    have f1 : F9.fw (40 :: 32 :: (brk tr.wr k ++ (32 :: 41 :: 32 :: 32 :: s))) = [40] := F9.fw_sign rfl rfl _
    have n1 : F9.nx (40 :: 32 :: (brk tr.wr k ++ (32 :: 41 :: 32 :: 32 :: s))) = brk tr.wr k ++ (32 :: 41 :: 32 :: 32 :: s) := by
      rw [F9.nx_sign rfl rfl, F9.trm_sp, F9.beg_trm (brk_beg hw k)]
    have t1 : F9.trm (32 :: 41 :: 32 :: 32 :: s) = 41 :: 32 :: 32 :: s := by rw [F9.trm_sp, F9.trm_ne (by decide)]
    have f2 : F9.fw (41 :: 32 :: 32 :: s) = [41] := F9.fw_sign rfl rfl _
    have n2 : F9.nx (41 :: 32 :: 32 :: s) = F9.trm s := by rw [F9.nx_sign rfl rfl, F9.trm_sp, F9.trm_sp]
    have st : ∀ j, F9.stp j (41 :: 32 :: 32 :: s) := fun j => ⟨by rw [f2]; simp, fun op h => by unfold F9.bop at h; rw [f2] at h; simp at h⟩
    obtain ⟨c, hc⟩ := brk_reads hw k (32 :: 41 :: 32 :: 32 :: s) (fun c hc => by simp at hc; subst hc; rfl) (.ok (tr, 41 :: 32 :: 32 :: s)) (fun _ => by rw [t1]; exact st _) (by rw [t1]; exact F9.to_stop (st 1))
    refine ⟨c + 1, fun g => ?_⟩
    rw [e, ← Nat.add_assoc, F9.run, if_pos f1, n1, hc]
    simp only [f2, if_true, n2]
/-- The text with blanks and brackets is read as the formula. -/
theorem parV_brk {n : F9.Bs} {tr : F9.Tr} {k : Nat} (hn : nameL n = true) (hw : tr.wf) (hl : ([32, 32] ++ n ++ [32, 32, 126] ++ brk tr.wr k).length ≤ 65536) (h64 : tr.pre.length ≤ 64) : parV ([32, 32] ++ n ++ [32, 32, 126] ++ brk tr.wr k) = (0, 0, ⟨n.toArray⟩, tr.pre.map toNd) := by
  obtain ⟨ch, tl, hnc, hlet, _, _⟩ := F9.name_parts hn
  have e0 : [32, 32] ++ n ++ [32, 32, 126] ++ brk tr.wr k = 32 :: 32 :: (n ++ (32 :: 32 :: 126 :: brk tr.wr k)) := by simp
  have t0 : F9.trm (32 :: 32 :: (n ++ (32 :: 32 :: 126 :: brk tr.wr k))) = n ++ (32 :: 32 :: 126 :: brk tr.wr k) := by
    rw [F9.trm_sp, F9.trm_sp, hnc]
    exact F9.trm_ne (F9.let_ne hlet).1 _
  have f0 : F9.fw (n ++ (32 :: 32 :: 126 :: brk tr.wr k)) = n := F9.fw_name hn (fun c hc => by simp at hc; subst hc; rfl)
  have n0 : F9.nx (n ++ (32 :: 32 :: 126 :: brk tr.wr k)) = 126 :: brk tr.wr k := by
    rw [F9.nx_app f0, F9.trm_sp, F9.trm_sp, F9.trm_ne (by decide)]
  have f1 : F9.fw (126 :: brk tr.wr k) = [126] := F9.fw_sign rfl rfl _
  have n1 : F9.nx (126 :: brk tr.wr k) = brk tr.wr k := by
    rw [F9.nx_sign rfl rfl]
    have := F9.beg_trm (brk_beg hw k) []
    rwa [List.append_nil] at this
  have st : ∀ j, F9.stp j [] := fun j => ⟨by decide, fun op h => by cases h⟩
  have hto := brk_reads hw k [] (fun c hc => by simp at hc) (.ok (tr, [])) (fun _ => st _) (F9.to_stop (st 1))
  rw [List.append_nil] at hto
  obtain ⟨t', h1, h2⟩ := rdR_of (brk tr.wr k) tr hw hto
  have hr : rdT ([32, 32] ++ n ++ [32, 32, 126] ++ brk tr.wr k) = .ok (n, t') := by
    unfold rdT
    rw [e0, t0, f0, if_pos hn, n0, f1, if_pos rfl, n1, h1]
  unfold parV
  rw [if_neg (by omega), hr]
  simp only
  rw [h2, if_neg (by omega)]
theorem brk_len (x : F9.Bs) : ∀ k, (brk x k).length = x.length + 6 * k
  | 0 => rfl
  | k + 1 => by
    show ([40, 32] ++ brk x k ++ [32, 41, 32, 32]).length = _
    rw [List.length_append, List.length_append, brk_len x k]
    simp
    omega
end Go.Proofs.YtpdfliocldhblaaDoor
