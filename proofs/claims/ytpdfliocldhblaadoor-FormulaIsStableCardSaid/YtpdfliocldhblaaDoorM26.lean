/- Names are no longer than the text; what is read is valid. -/
import Derived.Test.YtpdfliocldhblaaDoorM25
namespace Go.Proofs.YtpdfliocldhblaaDoor
open Go.RowKit
set_option linter.unusedVariables false

theorem pw_nm {r : F9.Bs} {x : F9.Nd} {r1 : F9.Bs} (h : F9.pw r = .ok (x, r1)) : x.nm.length ≤ r.length := by
  unfold F9.pw at h
  split at h
  · split at h
    · split at h
      · split at h
        · cases h
        · split at h
          · injection h with h
            injection h with h1 h2
            subst h1
            have a := fw_len (F9.nx r)
            have b := F9.nx_le r
            show (F9.fw (F9.nx r)).length ≤ r.length
            omega
          · cases h
      · cases h
    · cases h
  · cases h
theorem leaf_nm {r : F9.Bs} {x : F9.Nd} {r1 : F9.Bs} (h : F9.leaf r = .ok (x, r1)) : x.nm.length ≤ r.length := by
  unfold F9.leaf at h
  split at h
  · injection h with h; injection h with h1 h2; subst h1; exact Nat.zero_le _
  · split at h
    · injection h with h; injection h with h1 h2; subst h1; exact Nat.zero_le _
    · split at h
      · have a := pw_nm h
        have b := F9.nx_le r
        omega
      · split at h
        · injection h with h; injection h with h1 h2; subst h1; exact fw_len r
        · cases h
def smT (B : Nat) (t : F9.Tr) : Prop := ∀ x ∈ t.pre, x.nm.length ≤ B
def smM (B : Nat) : F9.Md → Prop
  | .loop _ a => smT B a
  | .hats a => smT B a
  | _ => True
theorem smT_hat {B k : Nat} {a : F9.Tr} (h : smT B a) : smT B (.hat k a) := fun x hx => by
  rcases List.mem_cons.1 hx with rfl | hx
  · exact Nat.zero_le _
  · exact h x hx
theorem smT_bin {B op : Nat} {a b : F9.Tr} (h : smT B a) (h' : smT B b) : smT B (.bin op a b) := fun x hx => by
  rcases List.mem_cons.1 hx with rfl | hx
  · exact Nat.zero_le _
  · rcases List.mem_append.1 hx with hx | hx
    · exact h x hx
    · exact h' x hx
theorem run_nm (B : Nat) : ∀ (f : Nat) (m : F9.Md) (r : F9.Bs) (t : F9.Tr) (r' : F9.Bs), smM B m → r.length ≤ B → F9.run f m r = .ok (t, r') → smT B t ∧ r'.length ≤ B
  | 0, m, r, t, r', _, _, h => by cases h
  | f + 1, .bin k, r, t, r', hm, hr, h => by
    simp only [F9.run] at h
    split at h
    · cases hx : F9.run f .prim r with
      | error e => rw [hx] at h; cases h
      | ok y =>
        obtain ⟨a, r1⟩ := y
        rw [hx] at h
        obtain ⟨h1, h2⟩ := run_nm B f .prim r a r1 trivial hr hx
        exact run_nm B f (.hats a) r1 t r' h1 h2 h
    · cases hx : F9.run f (.bin (k + 1)) r with
      | error e => rw [hx] at h; cases h
      | ok y =>
        obtain ⟨a, r1⟩ := y
        rw [hx] at h
        obtain ⟨h1, h2⟩ := run_nm B f (.bin (k + 1)) r a r1 trivial hr hx
        exact run_nm B f (.loop k a) r1 t r' h1 h2 h
  | f + 1, .loop k a, r, t, r', hm, hr, h => by
    simp only [F9.run] at h
    split at h
    · injection h with h; injection h with h1 h2; subst h1 h2; exact ⟨hm, hr⟩
    · rename_i op hop
      split at h
      · have b := F9.nx_le r
        cases hx : F9.run f (.bin (k + 1)) (F9.nx r) with
        | error e => rw [hx] at h; cases h
        | ok y =>
          obtain ⟨c, r1⟩ := y
          rw [hx] at h
          obtain ⟨h1, h2⟩ := run_nm B f (.bin (k + 1)) (F9.nx r) c r1 trivial (by omega) hx
          exact run_nm B f (.loop k (.bin op a c)) r1 t r' (smT_bin hm h1) h2 h
      · injection h with h; injection h with h1 h2; subst h1 h2; exact ⟨hm, hr⟩
  | f + 1, .hats a, r, t, r', hm, hr, h => by
    simp only [F9.run] at h
    split at h
    · have b := F9.nx_le r
      cases hx : F9.expo 1 6 (F9.nx r) with
      | error e => rw [hx] at h; cases h
      | ok y =>
        obtain ⟨k, r1⟩ := y
        rw [hx] at h
        have c := (F9.expo_ok hx).1
        exact run_nm B f (.hats (.hat k a)) r1 t r' (smT_hat hm) (by omega) h
    · injection h with h; injection h with h1 h2; subst h1 h2; exact ⟨hm, hr⟩
  | f + 1, .prim, r, t, r', hm, hr, h => by
    simp only [F9.run] at h
    split at h
    · have b := F9.nx_le r
      cases hx : F9.run f (.bin 1) (F9.nx r) with
      | error e => rw [hx] at h; cases h
      | ok y =>
        obtain ⟨a, r1⟩ := y
        rw [hx] at h
        obtain ⟨h1, h2⟩ := run_nm B f (.bin 1) (F9.nx r) a r1 trivial (by omega) hx
        simp only at h
        split at h
        · injection h with h; injection h with h3 h4; subst h3 h4
          have c := F9.nx_le r1
          exact ⟨h1, by omega⟩
        · cases h
    · cases hx : F9.leaf r with
      | error e => rw [hx] at h; cases h
      | ok y =>
        obtain ⟨x, r1⟩ := y
        rw [hx] at h
        simp only at h
        injection h with h; injection h with h3 h4; subst h3 h4
        have a := leaf_nm hx
        have b := (F9.leaf_ok hx).1
        exact ⟨fun z hz => by rw [List.mem_singleton.1 hz]; omega, by omega⟩
/-- What has been read without an error. -/
theorem par_ok {l : F9.Bs} {q : Nat} {s : ByteArray} {L : List Nd} (h : parV l = (0, q, s, L)) : frmB s L = true ∧ s.size ≤ l.length ∧ ∀ x ∈ L, x.s.size ≤ l.length := by
  unfold parV at h
  split at h
  · simp at h
  · cases hx : rdT l with
    | error e =>
      rw [hx] at h
      simp only [Prod.mk.injEq] at h
      have := rdT_err hx
      exact absurd h.1 (by omega)
    | ok y =>
      obtain ⟨n, tr⟩ := y
      rw [hx] at h
      simp only at h
      split at h
      · simp at h
      · simp only [Prod.mk.injEq] at h
        obtain ⟨_, _, h3, h4⟩ := h
        obtain ⟨hw, hnl⟩ := rdT_wf hx
        subst h3 h4
        have hnb : nameB (⟨n.toArray⟩ : ByteArray) = true := by unfold nameB; simpa using hnl
        refine ⟨tree_frm hw hnb (by omega), ?_, ?_⟩
        · show (bsA n).size ≤ _
          rw [bsA_size]
          unfold rdT at hx
          split at hx
          · split at hx
            · split at hx
              · cases hx
              · injection hx with hx; injection hx with h1 h2; subst h1
                have a := fw_len (F9.trm l)
                have b := F9.drop_len (· == 32) l
                exact Nat.le_trans a b
            · cases hx
          · cases hx
        · intro x hx'
          obtain ⟨y, hy, rfl⟩ := List.mem_map.1 hx'
          show (bsA y.nm).size ≤ _
          rw [bsA_size]
          unfold rdT at hx
          split at hx
          · split at hx
            · generalize hr2 : F9.nx (F9.nx (F9.trm l)) = r2 at hx
              have hrl : r2.length ≤ l.length := by
                rw [← hr2]
                have a := F9.nx_le (F9.nx (F9.trm l))
                have b := F9.nx_le (F9.trm l)
                have c := F9.drop_len (· == 32) l
                exact Nat.le_trans a (Nat.le_trans b c)
              unfold F9.rdR at hx
              cases hz : F9.run (6 * r2.length + 5) (.bin 1) r2 with
              | error e => rw [hz] at hx; cases hx
              | ok z =>
                obtain ⟨t1, r3⟩ := z
                rw [hz] at hx
                simp only at hx
                by_cases hc : F9.fw r3 = []
                · rw [if_pos hc] at hx
                  simp only at hx
                  injection hx with hx; injection hx with h1 h2; subst h2
                  exact (run_nm l.length _ (.bin 1) r2 t1 r3 trivial hrl hz).1 y hy
                · rw [if_neg hc] at hx; cases hx
            · cases hx
          · cases hx
end Go.Proofs.YtpdfliocldhblaaDoor
