/- Under way. -/
import Derived.Test.YtekmoaedidigpaaGreatDoorQYaz
namespace Go.Proofs.YtekmoaedidigpaaGreatDoor
open Go.RowKit

end Go.Proofs.YtekmoaedidigpaaGreatDoor

namespace Go.Proofs.YtekmoaedidigpaaGreatDoor
open Go.RowKit
theorem nDigits_le : ∀ (k u : Nat), u < 10 ^ (k + 1) → Lib.nDigits u ≤ k + 1
  | 0, u, h => by rw [Lib.nDigits_small (by simpa using h)]; omega
  | k + 1, u, h => by
    by_cases hu : u < 10
    · rw [Lib.nDigits_small hu]; omega
    · rw [Nat.pow_succ] at h
      rw [Lib.nDigits_big hu]
      have := nDigits_le k (u / 10) (by omega)
      omega
theorem digits_bn {u n : Nat} (h : u < 4294967296 ^ n) : (Lib.decDigits u).length ≤ 10 * n + 1 := by
  rw [Lib.decDigits_length]
  apply nDigits_le (10 * n)
  have h1 : 4294967296 ^ n ≤ (10 ^ 10) ^ n := Nat.pow_le_pow_left (by decide) _
  rw [← Nat.pow_mul] at h1
  have h2 : 10 ^ (10 * n) ≤ 10 ^ (10 * n + 1) := Nat.pow_le_pow_right (by decide) (by omega)
  omega
theorem digits_bd {u n : Nat} (h : u < 4294967296 ^ n) (hn : n ≤ 1000) : (Lib.decDigits u).length ≤ 10001 := by
  have := digits_bn h
  omega
end Go.Proofs.YtekmoaedidigpaaGreatDoor

namespace Go.Proofs.YtekmoaedidigpaaGreatDoor
open Go.RowKit

/-- The k low digits of u, padded with zeros. -/
def pad (k u : Nat) : List UInt8 := (List.range k).map fun t => Lib.dg u (k - 1 - t)
theorem pad_zero (u : Nat) : pad 0 u = [] := rfl
theorem pad_succ (k u : Nat) : pad (k + 1) u = pad k (u / 10) ++ [UInt8.ofNat (48 + u % 10)] := by
  unfold pad
  rw [List.range_succ, List.map_append]
  congr 1
  · refine List.map_congr_left fun t ht => ?_
    have ht' : t < k := List.mem_range.1 ht
    rw [show k + 1 - 1 - t = (k - 1 - t) + 1 by omega, Lib.dg_succ]
  · simp [Lib.dg]
theorem dec_pad : ∀ (k x c : Nat), 0 < x → c < 10 ^ k → Lib.decDigits (x * 10 ^ k + c) = Lib.decDigits x ++ pad k c
  | 0, x, c, _, hc => by
    have : c = 0 := by simpa using hc
    subst this
    simp [pad_zero]
  | k + 1, x, c, hx, hc => by
    have hp : 0 < 10 ^ k := Nat.pow_pos (by decide)
    have e1 : (x * 10 ^ (k + 1) + c) / 10 = x * 10 ^ k + c / 10 := by rw [Nat.pow_succ, ← Nat.mul_assoc]; omega
    have e2 : (x * 10 ^ (k + 1) + c) % 10 = c % 10 := by rw [Nat.pow_succ, ← Nat.mul_assoc]; omega
    have hge : ¬ x * 10 ^ (k + 1) + c < 10 := by
      have : 1 * 10 ^ (k + 1) ≤ x * 10 ^ (k + 1) := Nat.mul_le_mul_right _ hx
      rw [Nat.pow_succ] at this ⊢
      omega
    rw [Lib.decDigits, dif_neg hge, e1, e2, dec_pad k x (c / 10) hx (by rw [Nat.pow_succ] at hc; omega), pad_succ, List.append_assoc]
/-- Itoa(10^9 + c)[1:]. -/
theorem pad9 {c : Nat} (h : c < 1000000000) : (Lib.decDigits (1000000000 + c)).drop 1 = pad 9 c := by
  have := dec_pad 9 1 c (by decide) h
  rw [show 1 * 10 ^ 9 + c = 1000000000 + c by omega] at this
  rw [this, Lib.decDigits_one (by decide)]
  rfl
theorem pad_len (k u : Nat) : (pad k u).length = k := by simp [pad]

/-- The number whose chunks, the lowest first, are cs. -/
def cval : List Nat → Nat
  | [] => 0
  | c :: r => c + 1000000000 * cval r
theorem cval_snoc (cs : List Nat) (c : Nat) : cval (cs ++ [c]) = cval cs + 1000000000 ^ cs.length * c := by
  induction cs with
  | nil => simp [cval]
  | cons a r ih => simp only [List.cons_append, cval, ih, List.length_cons, Nat.pow_succ]; rw [Nat.mul_add, Nat.mul_comm (1000000000 ^ r.length) 1000000000, Nat.mul_assoc]; omega
/-- The text of the chunks from k on. -/
theorem cval_drop {cs : List Nat} {k : Nat} (hk : k < cs.length) : cval (cs.drop k) = cs.getD k 0 + 1000000000 * cval (cs.drop (k + 1)) := by
  rw [List.drop_eq_getElem_cons hk, cval]
  simp [List.getD_eq_getElem?_getD, hk]
/-- One more chunk of the text. -/
theorem text_step {cs : List Nat} {k c : Nat} (hk : k < cs.length) (hc : cs.getD k 0 = c) (hb : c < 1000000000) (h0 : 0 < cval (cs.drop (k + 1))) :
    Lib.decDigits (cval (cs.drop k)) = Lib.decDigits (cval (cs.drop (k + 1))) ++ (Lib.decDigits (1000000000 + c)).drop 1 := by
  rw [cval_drop hk, hc, pad9 hb, ← dec_pad 9 _ _ h0 hb]
  congr 1
  omega

set_option maxHeartbeats 1000000 in
theorem appendUint_any (u : Nat) (w : World) (hu : u < 4294967296) (htab : Lib.TabIs Tryz.prog w "internal/strconv.uint64pow10" .u64 Lib.pow10Tab) :
    Calls Tryz.prog 137 #[.slice none 0 0, .int .u64 u, .int .i64 10] w fun e w' => ∃ v', e = .returned v' ∧ w'.ownsRow w.heap.size 5 1 v' (Lib.decDigits u).length (Lib.byteCells (Lib.decDigits u)) ∧ Below w.heap.size w w' := by
  have hc := Tryz.internal_strconv_AppendUint_10 w.heap.size 0 u (by omega) (.slice none 0 0) [] w (World.ownsRow_nil _ _ _ _) (Nat.le_refl _) (by omega) htab
  rw [Nat.zero_add, List.nil_append] at hc
  replace hc := Lib.hid hc
  replace htab := Lib.hid htab
  go_enter Tryz.func137, Tryz.ntmps137
  go_wp2_with (go_at_call 166; refine hc.out.mono ?_; rintro e w1 ⟨v', rfl, hown, hB, hk⟩; refine Hid.out ?_)
  refine Lib.hid ?_
  replace hown := Lib.hid hown
  clear hk
  go_wp2
  go_ret
  exact ⟨v', rfl, hown.out, hB⟩
end Go.Proofs.YtekmoaedidigpaaGreatDoor
