/- The grammar on lists of bytes: reading from above and from the left say the same; what is written is read. -/
import Derived.Test.YthbkdjbmkhmlnaaDoorB04
namespace Go.Proofs.YthbkdjbmkhmlnaaDoor
namespace F9
set_option linter.unusedVariables false
abbrev Bs := List UInt8
/-- Spaces are passed. -/
def trm (r : Bs) : Bs := r.dropWhile (· == 32)
/-- The word or sign at the beginning. -/
def fw : Bs → Bs
  | [] => []
  | c :: t => if letB c then c :: t.takeWhile innB else if digB c then c :: t.takeWhile digB else [c]
/-- What is behind it. -/
def nx (r : Bs) : Bs := trm (r.drop (fw r).length)
/-- A node: operation, name, number. -/
structure Nd where
  op : Nat
  nm : Bs
  k : Nat
inductive Tr where
  | leaf (x : Nd)
  | hat (k : Nat) (a : Tr)
  | bin (op : Nat) (a b : Tr)
def Tr.pre : Tr → List Nd
  | .leaf x => [x]
  | .hat k a => ⟨10, [], k⟩ :: a.pre
  | .bin op a b => ⟨op, [], 0⟩ :: (a.pre ++ b.pre)
def Tr.post : Tr → List Nd
  | .leaf x => [x]
  | .hat k a => a.post ++ [⟨10, [], k⟩]
  | .bin op a b => a.post ++ b.post ++ [⟨op, [], 0⟩]
/-- An error: its number and what is left where it stands; number 0: no fuel. -/
abbrev Er := Nat × Bs
abbrev Rs (α : Type) := Except Er α
/-- Binary signs. -/
def bop (r : Bs) : Option Nat := match fw r with
  | [43] => some 5
  | [45] => some 6
  | [58] => some 7
  | [42] => some 8
  | [47] => some 9
  | _ => none
/-- How tight an operation is; 0 is an open bracket. -/
def rul : Nat → Nat
  | 5 => 1
  | 6 => 1
  | 8 => 2
  | 9 => 2
  | 7 => 3
  | _ => 0
/-- An exponent from lo to hi. -/
def expo (lo hi : Nat) (r : Bs) : Rs (Nat × Bs) := match fw r with
  | [d] => if digB d then (if lo ≤ d.toNat - 48 ∧ d.toNat - 48 ≤ hi then .ok (d.toNat - 48, nx r) else .error (1, r)) else .error (3, r)
  | _ => .error (3, r)
/-- Behind the word power. -/
def pw (r : Bs) : Rs (Nd × Bs) :=
  if fw r = [40] then
    if nameL (fw (nx r)) then
      if fw (nx (nx r)) = [44] then
        match expo 2 8 (nx (nx (nx r))) with
        | .error e => .error e
        | .ok (k, r1) => if fw r1 = [41] then .ok (⟨2, fw (nx r), k⟩, nx r1) else .error (3, r1)
      else .error (3, nx (nx r))
    else .error (3, nx r)
  else .error (3, r)
/-- A primary without brackets. -/
def leaf (r : Bs) : Rs (Nd × Bs) :=
  if fw r = [48] then .ok (⟨4, [], 0⟩, nx r)
  else if fw r = [49] then .ok (⟨3, [], 0⟩, nx r)
  else if fw r = [112, 111, 119, 101, 114] then pw (nx r)
  else if nameL (fw r) then .ok (⟨1, fw r, 0⟩, nx r)
  else .error (3, r)
/-- From above: what is read. -/
inductive Md where
  | bin (k : Nat)
  | loop (k : Nat) (a : Tr)
  | hats (a : Tr)
  | prim
def run : Nat → Md → Bs → Rs (Tr × Bs)
  | 0, _, r => .error (0, r)
  | f + 1, .bin k, r =>
    if k = 4 then
      match run f .prim r with
      | .error e => .error e
      | .ok (a, r1) => run f (.hats a) r1
    else
      match run f (.bin (k + 1)) r with
      | .error e => .error e
      | .ok (a, r1) => run f (.loop k a) r1
  | f + 1, .loop k a, r =>
    match bop r with
    | none => .ok (a, r)
    | some op =>
      if rul op = k then
        match run f (.bin (k + 1)) (nx r) with
        | .error e => .error e
        | .ok (b, r1) => run f (.loop k (.bin op a b)) r1
      else .ok (a, r)
  | f + 1, .hats a, r =>
    if fw r = [94] then
      match expo 1 6 (nx r) with
      | .error e => .error e
      | .ok (k, r1) => run f (.hats (.hat k a)) r1
    else .ok (a, r)
  | f + 1, .prim, r =>
    if fw r = [40] then
      match run f (.bin 1) (nx r) with
      | .error e => .error e
      | .ok (a, r1) => if fw r1 = [41] then .ok (a, nx r1) else .error (3, r1)
    else
      match leaf r with
      | .error e => .error e
      | .ok (x, r1) => .ok (.leaf x, r1)
/-- From the left: the operations that wait are added, as far as they are this tight. -/
def fin (k : Nat) : List Nd → List Nat → List Nd × List Nat
  | N, [] => (N, [])
  | N, w :: ws => if k ≤ rul w then fin k (N ++ [⟨w, [], 0⟩]) ws else (N, w :: ws)
/-- From the left: tl says whether an operand has been read. -/
def mach : Nat → Bool → List Nd → List Nat → Bs → Rs (List Nd)
  | 0, _, _, _, r => .error (0, r)
  | f + 1, false, N, W, r =>
    if fw r = [40] then mach f false N (0 :: W) (nx r)
    else
      match leaf r with
      | .error e => .error e
      | .ok (x, r1) => mach f true (N ++ [x]) W r1
  | f + 1, true, N, W, r =>
    if fw r = [94] then
      match expo 1 6 (nx r) with
      | .error e => .error e
      | .ok (k, r1) => mach f true (N ++ [⟨10, [], k⟩]) W r1
    else if fw r = [41] then
      match (fin 1 N W).2 with
      | [] => .error (3, r)
      | _ :: W1 => mach f true (fin 1 N W).1 W1 (nx r)
    else
      match bop r with
      | some op => mach f false (fin (rul op) N W).1 (op :: (fin (rul op) N W).2) (nx r)
      | none => if fw r = [] ∧ (fin 1 N W).2 = [] then .ok (fin 1 N W).1 else .error (3, r)
def lo (k : Nat) (W : List Nat) : Prop := ∀ w ∈ W.head?, rul w < k
def nds (P : List Nat) : List Nd := P.map fun w => ⟨w, [], 0⟩
theorem fin_all (k : Nat) (W : List Nat) (hW : lo k W) : ∀ (P : List Nat) (N : List Nd), (∀ p ∈ P, k ≤ rul p) → fin k N (P ++ W) = (N ++ nds P, W)
  | [], N, _ => by
    cases W with
    | nil => simp [fin, nds]
    | cons w ws =>
      have : ¬ k ≤ rul w := by have := hW w rfl; omega
      simp [fin, nds, this]
  | p :: P, N, h => by
    have h1 : k ≤ rul p := h p List.mem_cons_self
    have ih := fin_all k W hW P (N ++ [⟨p, [], 0⟩]) (fun q hq => h q (List.mem_cons_of_mem _ hq))
    show fin k N (p :: (P ++ W)) = _
    rw [fin, if_pos h1, ih]
    simp [nds]
theorem bop_not {r : Bs} {op : Nat} (h : bop r = some op) : fw r ≠ [94] ∧ fw r ≠ [41] ∧ 1 ≤ rul op ∧ rul op ≤ 3 := by
  unfold bop at h
  split at h <;> simp_all <;> subst h <;> simp [rul]
/-- Where reading stops at a level. -/
def stp (k : Nat) (r : Bs) : Prop := fw r ≠ [94] ∧ ∀ op, bop r = some op → rul op < k
/-- Both ways of reading. -/
def Goes (k : Nat) (N : List Nd) (W : List Nat) (t : Tr) (s : Bool) (N0 : List Nd) (W0 : List Nat) (r r' : Bs) : Prop :=
  ∃ c N' P, (∀ g, mach (g + c) s N0 W0 r = mach g true N' (P ++ W) r') ∧ (∀ p ∈ P, k ≤ rul p) ∧ N' ++ nds P = N ++ t.post
def Fails (s : Bool) (N0 : List Nd) (W0 : List Nat) (r : Bs) (e : Er) : Prop := ∃ c, ∀ g, mach (g + c) s N0 W0 r = .error e
/-- What a mode starts from. -/
def Claim (f : Nat) (m : Md) (r : Bs) : Prop := match m with
  | .bin k => 1 ≤ k → k ≤ 4 → ∀ N W, lo k W → (∀ t r', run f (.bin k) r = .ok (t, r') → Goes k N W t false N W r r' ∧ stp k r') ∧ ∀ e, run f (.bin k) r = .error e → e.1 ≠ 0 → Fails false N W r e
  | .loop k a => 1 ≤ k → k ≤ 3 → ∀ N W, lo k W → ∀ N1 P, (∀ p ∈ P, k ≤ rul p) → N1 ++ nds P = N ++ a.post → stp (k + 1) r → (∀ t r', run f (.loop k a) r = .ok (t, r') → Goes k N W t true N1 (P ++ W) r r' ∧ stp k r') ∧ ∀ e, run f (.loop k a) r = .error e → e.1 ≠ 0 → Fails true N1 (P ++ W) r e
  | .hats a => ∀ N W, lo 4 W → (∀ t r', run f (.hats a) r = .ok (t, r') → Goes 4 N W t true (N ++ a.post) W r r' ∧ stp 4 r') ∧ ∀ e, run f (.hats a) r = .error e → e.1 ≠ 0 → Fails true (N ++ a.post) W r e
  | .prim => ∀ N W, lo 4 W → (∀ t r', run f .prim r = .ok (t, r') → ∃ c, ∀ g, mach (g + c) false N W r = mach g true (N ++ t.post) W r') ∧ ∀ e, run f .prim r = .error e → e.1 ≠ 0 → Fails false N W r e
theorem lo_mono {k k' : Nat} {W : List Nat} (h : lo k W) (hk : k ≤ k') : lo k' W := fun w hw => by have := h w hw; omega
theorem claim : ∀ (f : Nat) (m : Md) (r : Bs), Claim f m r
  | 0, m, r => by
    cases m with
    | bin k => exact fun _ _ N W _ => ⟨fun t r' h => by simp [run] at h, fun e h => by simp [run] at h; subst h; simp⟩
    | loop k a => exact fun _ _ N W _ N1 P _ _ _ => ⟨fun t r' h => by simp [run] at h, fun e h => by simp [run] at h; subst h; simp⟩
    | hats a => exact fun N W _ => ⟨fun t r' h => by simp [run] at h, fun e h => by simp [run] at h; subst h; simp⟩
    | prim => exact fun N W _ => ⟨fun t r' h => by simp [run] at h, fun e h => by simp [run] at h; subst h; simp⟩
  | f + 1, .prim, r => by
    intro N W hW
    by_cases hb : fw r = [40]
    · have hr : run (f + 1) .prim r = match run f (.bin 1) (nx r) with
        | .error e => .error e
        | .ok (a, r1) => if fw r1 = [41] then .ok (a, nx r1) else .error (3, r1) := by rw [run, if_pos hb]
      have hm : ∀ g, mach (g + 1) false N W r = mach g false N (0 :: W) (nx r) := fun g => by rw [mach, if_pos hb]
      have ih := claim f (.bin 1) (nx r) (by omega) (by omega) N (0 :: W) (fun w hw => by simp at hw; subst hw; simp [rul])
      rw [hr]
      cases h : run f (.bin 1) (nx r) with
      | error e1 =>
        refine ⟨fun t r' h2 => by simp at h2, fun e h2 he => ?_⟩
        simp at h2; subst h2
        obtain ⟨c, hc⟩ := ih.2 e1 h he
        exact ⟨c + 1, fun g => by rw [← Nat.add_assoc, hm]; exact hc g⟩
      | ok p =>
        obtain ⟨a, r1⟩ := p
        obtain ⟨⟨c, N', P, h1, h2, h3⟩, h4⟩ := ih.1 a r1 h
        have hf := fin_all 1 (0 :: W) (fun w hw => by simp at hw; subst hw; simp [rul]) P N' h2
        by_cases hc : fw r1 = [41]
        · refine ⟨fun t r' h5 => ?_, fun e h5 => by simp [hc] at h5⟩
          simp [hc] at h5
          obtain ⟨rfl, rfl⟩ := h5
          refine ⟨c + 2, fun g => ?_⟩
          rw [show g + (c + 2) = (g + 1 + c) + 1 by omega, hm, h1]
          have hn : fw r1 ≠ [94] := by rw [hc]; simp
          rw [mach, if_neg hn, if_pos hc, hf, h3]
        · refine ⟨fun t r' h5 => by simp [hc] at h5, fun e h5 he => ?_⟩
          simp [hc] at h5
          subst h5
          refine ⟨c + 2, fun g => ?_⟩
          rw [show g + (c + 2) = (g + 1 + c) + 1 by omega, hm, h1]
          have hbn : bop r1 = none := by
            cases hq : bop r1 with
            | none => rfl
            | some op => have := h4.2 op hq; have := (bop_not hq).2.2.1; omega
          rw [mach, if_neg h4.1, if_neg hc, hbn, hf]
          simp
    · have hr : run (f + 1) .prim r = match leaf r with
        | .error e => .error e
        | .ok (x, r1) => .ok (.leaf x, r1) := by rw [run, if_neg hb]
      have hm : ∀ g, mach (g + 1) false N W r = match leaf r with
        | .error e => .error e
        | .ok (x, r1) => mach g true (N ++ [x]) W r1 := fun g => by rw [mach, if_neg hb]
      rw [hr]
      cases h : leaf r with
      | error e1 =>
        refine ⟨fun t r' h2 => by simp at h2, fun e h2 he => ?_⟩
        simp at h2; subst h2
        exact ⟨1, fun g => by rw [hm, h]⟩
      | ok p =>
        obtain ⟨x, r1⟩ := p
        refine ⟨fun t r' h2 => ?_, fun e h2 => by simp at h2⟩
        simp at h2
        obtain ⟨rfl, rfl⟩ := h2
        exact ⟨1, fun g => by rw [hm, h]; rfl⟩
  | f + 1, .hats a, r => by
    intro N W hW
    by_cases hb : fw r = [94]
    · have hr : run (f + 1) (.hats a) r = match expo 1 6 (nx r) with
        | .error e => .error e
        | .ok (k, r1) => run f (.hats (.hat k a)) r1 := by rw [run, if_pos hb]
      have hm : ∀ g, mach (g + 1) true (N ++ a.post) W r = match expo 1 6 (nx r) with
        | .error e => .error e
        | .ok (k, r1) => mach g true (N ++ a.post ++ [⟨10, [], k⟩]) W r1 := fun g => by rw [mach, if_pos hb]
      rw [hr]
      cases h : expo 1 6 (nx r) with
      | error e1 =>
        refine ⟨fun t r' h2 => by simp at h2, fun e h2 he => ?_⟩
        simp at h2; subst h2
        exact ⟨1, fun g => by rw [hm, h]⟩
      | ok p =>
        obtain ⟨k, r1⟩ := p
        have ih := claim f (.hats (.hat k a)) r1 N W hW
        have e : N ++ (Tr.hat k a).post = N ++ a.post ++ [⟨10, [], k⟩] := by simp [Tr.post]
        rw [e] at ih
        refine ⟨fun t r' h2 => ?_, fun e2 h2 he => ?_⟩
        · obtain ⟨⟨c, N', P, h3, h4⟩, h5⟩ := ih.1 t r' h2
          exact ⟨⟨c + 1, N', P, fun g => by rw [← Nat.add_assoc, hm, h]; exact h3 g, h4⟩, h5⟩
        · obtain ⟨c, h3⟩ := ih.2 e2 h2 he
          exact ⟨c + 1, fun g => by rw [← Nat.add_assoc, hm, h]; exact h3 g⟩
    · have hr : run (f + 1) (.hats a) r = .ok (a, r) := by rw [run, if_neg hb]
      rw [hr]
      refine ⟨fun t r' h2 => ?_, fun e h2 => by simp at h2⟩
      simp at h2
      obtain ⟨rfl, rfl⟩ := h2
      refine ⟨⟨0, N ++ a.post, [], fun g => rfl, by simp, by simp [nds]⟩, hb, fun op h => ?_⟩
      have := (bop_not h).2.2.2; omega
  | f + 1, .loop k a, r => by
    intro hk1 hk3 N W hW N1 P hP hN hs
    have stay : bop r = none ∨ (∃ op, bop r = some op ∧ rul op ≠ k) → run (f + 1) (.loop k a) r = .ok (a, r) → (∀ t r', run (f + 1) (.loop k a) r = .ok (t, r') → Goes k N W t true N1 (P ++ W) r r' ∧ stp k r') ∧ ∀ e, run (f + 1) (.loop k a) r = .error e → e.1 ≠ 0 → Fails true N1 (P ++ W) r e := by
      intro hb hr
      rw [hr]
      refine ⟨fun t r' h2 => ?_, fun e h2 => by simp at h2⟩
      simp at h2
      obtain ⟨rfl, rfl⟩ := h2
      refine ⟨⟨0, N1, P, fun g => rfl, hP, hN⟩, hs.1, fun op h => ?_⟩
      have := hs.2 op h
      rcases hb with hb | ⟨op', hb, hne⟩
      · rw [hb] at h; cases h
      · rw [hb] at h; cases h; omega
    cases hb : bop r with
    | none => exact stay (.inl hb) (by rw [run, hb])
    | some op =>
      by_cases hl : rul op = k
      · have hr : run (f + 1) (.loop k a) r = match run f (.bin (k + 1)) (nx r) with
          | .error e => .error e
          | .ok (b, r1) => run f (.loop k (.bin op a b)) r1 := by rw [run, hb]; simp [hl]
        obtain ⟨q1, q2, _, _⟩ := bop_not hb
        have hf := fin_all k W hW P N1 hP
        have hm : ∀ g, mach (g + 1) true N1 (P ++ W) r = mach g false (N ++ a.post) (op :: W) (nx r) := fun g => by
          rw [mach, if_neg q1, if_neg q2, hb]
          simp only [hl, hf, hN]
        have ih := claim f (.bin (k + 1)) (nx r) (by omega) (by omega) (N ++ a.post) (op :: W) (fun w hw => by simp at hw; subst hw; omega)
        rw [hr]
        cases h : run f (.bin (k + 1)) (nx r) with
        | error e1 =>
          refine ⟨fun t r' h2 => by simp at h2, fun e h2 he => ?_⟩
          simp at h2; subst h2
          obtain ⟨c, hc⟩ := ih.2 e1 h he
          exact ⟨c + 1, fun g => by rw [← Nat.add_assoc, hm]; exact hc g⟩
        | ok p =>
          obtain ⟨b, r1⟩ := p
          obtain ⟨⟨c, N', P', h1, h2, h3⟩, h4⟩ := ih.1 b r1 h
          have ih2 := claim f (.loop k (.bin op a b)) r1 hk1 hk3 N W hW N' (P' ++ [op]) (fun p hp => by
            rcases List.mem_append.1 hp with hp | hp
            · have := h2 p hp; omega
            · simp at hp; subst hp; omega) (by
              have : nds (P' ++ [op]) = nds P' ++ [⟨op, [], 0⟩] := by simp [nds]
              rw [this, ← List.append_assoc, h3]; simp [Tr.post]) h4
          have e : P' ++ op :: W = (P' ++ [op]) ++ W := by simp
          rw [e] at h1
          refine ⟨fun t r' h5 => ?_, fun e2 h5 he => ?_⟩
          · obtain ⟨⟨c2, N2, P2, h6, h7⟩, h8⟩ := ih2.1 t r' h5
            exact ⟨⟨c2 + c + 1, N2, P2, fun g => by rw [← Nat.add_assoc, hm, ← Nat.add_assoc, h1]; exact h6 g, h7⟩, h8⟩
          · obtain ⟨c2, h6⟩ := ih2.2 e2 h5 he
            exact ⟨c2 + c + 1, fun g => by rw [← Nat.add_assoc, hm, ← Nat.add_assoc, h1]; exact h6 g⟩
      · exact stay (.inr ⟨op, hb, hl⟩) (by rw [run, hb]; simp [hl])
  | f + 1, .bin k, r => by
    intro hk1 hk4 N W hW
    by_cases h4 : k = 4
    · subst h4
      have hr : run (f + 1) (.bin 4) r = match run f .prim r with
        | .error e => .error e
        | .ok (a, r1) => run f (.hats a) r1 := by rw [run, if_pos rfl]
      have ih := claim f .prim r N W hW
      rw [hr]
      cases h : run f .prim r with
      | error e1 =>
        refine ⟨fun t r' h2 => by simp at h2, fun e h2 he => ?_⟩
        simp at h2; subst h2
        exact ih.2 e1 h he
      | ok p =>
        obtain ⟨a, r1⟩ := p
        obtain ⟨c, h1⟩ := ih.1 a r1 h
        have ih2 := claim f (.hats a) r1 N W hW
        refine ⟨fun t r' h5 => ?_, fun e2 h5 he => ?_⟩
        · obtain ⟨⟨c2, N2, P2, h6, h7⟩, h8⟩ := ih2.1 t r' h5
          exact ⟨⟨c2 + c, N2, P2, fun g => by rw [← Nat.add_assoc, h1]; exact h6 g, h7⟩, h8⟩
        · obtain ⟨c2, h6⟩ := ih2.2 e2 h5 he
          exact ⟨c2 + c, fun g => by rw [← Nat.add_assoc, h1]; exact h6 g⟩
    · have hr : run (f + 1) (.bin k) r = match run f (.bin (k + 1)) r with
        | .error e => .error e
        | .ok (a, r1) => run f (.loop k a) r1 := by rw [run, if_neg h4]
      have ih := claim f (.bin (k + 1)) r (by omega) (by omega) N W (lo_mono hW (by omega))
      rw [hr]
      cases h : run f (.bin (k + 1)) r with
      | error e1 =>
        refine ⟨fun t r' h2 => by simp at h2, fun e h2 he => ?_⟩
        simp at h2; subst h2
        exact ih.2 e1 h he
      | ok p =>
        obtain ⟨a, r1⟩ := p
        obtain ⟨⟨c, N', P', h1, h2, h3⟩, h4'⟩ := ih.1 a r1 h
        have ih2 := claim f (.loop k a) r1 hk1 (by omega) N W hW N' P' (fun p hp => by have := h2 p hp; omega) h3 h4'
        refine ⟨fun t r' h5 => ?_, fun e2 h5 he => ?_⟩
        · obtain ⟨⟨c2, N2, P2, h6, h7⟩, h8⟩ := ih2.1 t r' h5
          exact ⟨⟨c2 + c, N2, P2, fun g => by rw [← Nat.add_assoc, h1]; exact h6 g, h7⟩, h8⟩
        · obtain ⟨c2, h6⟩ := ih2.2 e2 h5 he
          exact ⟨c2 + c, fun g => by rw [← Nat.add_assoc, h1]; exact h6 g⟩
/-- The right side, read from above. -/
def rdR (f : Nat) (r : Bs) : Rs Tr := match run f (.bin 1) r with
  | .error e => .error e
  | .ok (t, r1) => if fw r1 = [] then .ok t else .error (3, r1)
/-- Both readings say the same. -/
theorem both (f : Nat) (r : Bs) : (∀ t, rdR f r = .ok t → ∃ c, ∀ g, mach (g + c) false [] [] r = .ok t.post) ∧ ∀ e, rdR f r = .error e → e.1 ≠ 0 → ∃ c, ∀ g, mach (g + c) false [] [] r = .error e := by
  have ih := claim f (.bin 1) r (by omega) (by omega) [] [] (fun w hw => by simp at hw)
  unfold rdR
  cases h : run f (.bin 1) r with
  | error e1 =>
    refine ⟨fun t h2 => by simp at h2, fun e h2 he => ?_⟩
    simp at h2; subst h2
    exact ih.2 e1 h he
  | ok p =>
    obtain ⟨t, r1⟩ := p
    obtain ⟨⟨c, N', P, h1, h2, h3⟩, h4⟩ := ih.1 t r1 h
    have hf := fin_all 1 [] (fun w hw => by simp at hw) P N' h2
    rw [h3] at hf
    have hbn : bop r1 = none := by
      cases hq : bop r1 with
      | none => rfl
      | some op => have := h4.2 op hq; have := (bop_not hq).2.2.1; omega
    by_cases hc : fw r1 = []
    · refine ⟨fun t' h5 => ?_, fun e h5 => by simp [hc] at h5⟩
      simp [hc] at h5
      subst h5
      refine ⟨c + 1, fun g => ?_⟩
      rw [show g + (c + 1) = (g + 1) + c by omega, h1, mach, if_neg h4.1, if_neg (by rw [hc]; simp), hbn, hf]
      simp [hc]
    · refine ⟨fun t' h5 => by simp [hc] at h5, fun e h5 he => ?_⟩
      simp [hc] at h5
      subst h5
      refine ⟨c + 1, fun g => ?_⟩
      rw [show g + (c + 1) = (g + 1) + c by omega, h1, mach, if_neg h4.1]
      by_cases h6 : fw r1 = [41]
      · rw [if_pos h6, hf]
      · rw [if_neg h6, hbn, hf]
        simp [hc]
def rk : Md → Nat
  | .bin k => 6 - k
  | _ => 1
theorem drop_len (p : UInt8 → Bool) : ∀ r : Bs, (r.dropWhile p).length ≤ r.length
  | [] => Nat.le_refl _
  | c :: t => by
    rw [List.dropWhile_cons]
    split
    · have := drop_len p t; simp; omega
    · exact Nat.le_refl _
theorem fw_pos {r : Bs} (h : r ≠ []) : 0 < (fw r).length := by
  cases r with
  | nil => exact absurd rfl h
  | cons c t =>
    rw [fw]
    split
    · simp
    · split <;> simp
theorem nx_le (r : Bs) : (nx r).length ≤ r.length := by
  have := drop_len (· == 32) (r.drop (fw r).length)
  rw [List.length_drop] at this
  unfold nx trm; omega
theorem nx_lt {r : Bs} (h : fw r ≠ []) : (nx r).length < r.length := by
  have h0 : r ≠ [] := fun e => h (by rw [e]; rfl)
  have h1 := fw_pos h0
  have h2 : 0 < r.length := List.length_pos_iff.2 h0
  have := drop_len (· == 32) (r.drop (fw r).length)
  rw [List.length_drop] at this
  unfold nx trm; omega
theorem expo_ok {lo hi : Nat} {r : Bs} {k : Nat} {r1 : Bs} (h : expo lo hi r = .ok (k, r1)) : r1.length < r.length ∧ lo ≤ k ∧ k ≤ hi := by
  unfold expo at h
  split at h
  · rename_i d hd
    split at h
    · split at h
      · rename_i h2
        simp at h
        obtain ⟨rfl, rfl⟩ := h
        exact ⟨nx_lt (by rw [hd]; simp), h2⟩
      · simp at h
    · simp at h
  · simp at h
theorem expo_err {lo hi : Nat} {r : Bs} {e : Er} (h : expo lo hi r = .error e) : e.1 ≠ 0 := by
  unfold expo at h
  split at h
  · split at h
    · split at h
      · simp at h
      · simp at h; subst h; simp
    · simp at h; subst h; simp
  · simp at h; subst h; simp
theorem nameL_ne {l : Bs} (h : nameL l = true) : l ≠ [] := by rintro rfl; simp [nameL] at h
theorem pw_ok {r : Bs} {x : Nd} {r1 : Bs} (h : pw r = .ok (x, r1)) : r1.length < r.length ∧ x.op = 2 ∧ nameL x.nm = true ∧ 2 ≤ x.k ∧ x.k ≤ 8 := by
  unfold pw at h
  split at h
  · rename_i h1
    split at h
    · rename_i h2
      split at h
      · rename_i h3
        cases h4 : expo 2 8 (nx (nx (nx r))) with
        | error e => rw [h4] at h; simp at h
        | ok p =>
          obtain ⟨k, r2⟩ := p
          rw [h4] at h
          simp only at h
          split at h
          · rename_i h5
            simp at h
            obtain ⟨rfl, rfl⟩ := h
            have q1 := nx_le r
            have q2 := nx_le (nx r)
            have q3 := nx_le (nx (nx r))
            have q4 := expo_ok h4
            have q5 := nx_le r2
            exact ⟨by omega, rfl, h2, q4.2.1, q4.2.2⟩
          · simp at h
      · simp at h
    · simp at h
  · simp at h
theorem pw_err {r : Bs} {e : Er} (h : pw r = .error e) : e.1 ≠ 0 := by
  unfold pw at h
  split at h
  · split at h
    · split at h
      · cases h4 : expo 2 8 (nx (nx (nx r))) with
        | error e1 => rw [h4] at h; simp at h; subst h; exact expo_err h4
        | ok p =>
          obtain ⟨k, r2⟩ := p
          rw [h4] at h
          simp only at h
          split at h
          · simp at h
          · simp at h; subst h; simp
      · simp at h; subst h; simp
    · simp at h; subst h; simp
  · simp at h; subst h; simp
/-- A node of an operand that stands alone. -/
def lfN (x : Nd) : Prop := (x.op = 1 ∧ nameL x.nm = true ∧ x.k = 0) ∨ (x.op = 2 ∧ nameL x.nm = true ∧ 2 ≤ x.k ∧ x.k ≤ 8) ∨ ((x.op = 3 ∨ x.op = 4) ∧ x.nm = [] ∧ x.k = 0)
theorem leaf_ok {r : Bs} {x : Nd} {r1 : Bs} (h : leaf r = .ok (x, r1)) : r1.length < r.length ∧ lfN x := by
  unfold leaf at h
  split at h
  · rename_i h1
    simp at h; obtain ⟨rfl, rfl⟩ := h
    exact ⟨nx_lt (by rw [h1]; simp), .inr (.inr ⟨.inr rfl, rfl, rfl⟩)⟩
  · split at h
    · rename_i h1
      simp at h; obtain ⟨rfl, rfl⟩ := h
      exact ⟨nx_lt (by rw [h1]; simp), .inr (.inr ⟨.inl rfl, rfl, rfl⟩)⟩
    · split at h
      · obtain ⟨h1, h2, h3, h4⟩ := pw_ok h
        have := nx_le r
        exact ⟨by omega, .inr (.inl ⟨h2, h3, h4⟩)⟩
      · split at h
        · rename_i h1
          simp at h; obtain ⟨rfl, rfl⟩ := h
          exact ⟨nx_lt (nameL_ne h1), .inl ⟨rfl, h1, rfl⟩⟩
        · simp at h
theorem leaf_err {r : Bs} {e : Er} (h : leaf r = .error e) : e.1 ≠ 0 := by
  unfold leaf at h
  split at h
  · simp at h
  · split at h
    · simp at h
    · split at h
      · exact pw_err h
      · split at h
        · simp at h
        · simp at h; subst h; simp
/-- The trees that reading makes. -/
def Tr.wf : Tr → Prop
  | .leaf x => lfN x
  | .hat k a => 1 ≤ k ∧ k ≤ 6 ∧ a.wf
  | .bin op a b => 5 ≤ op ∧ op ≤ 9 ∧ a.wf ∧ b.wf
theorem bop_op {r : Bs} {op : Nat} (h : bop r = some op) : 5 ≤ op ∧ op ≤ 9 ∧ fw r ≠ [] := by
  unfold bop at h
  split at h <;> simp_all <;> omega
def mdwf : Md → Prop
  | .loop _ a => a.wf
  | .hats a => a.wf
  | _ => True
def eats : Md → Bool
  | .bin _ => true
  | .prim => true
  | _ => false
theorem fuel : ∀ (f : Nat) (m : Md) (r : Bs), (∀ k, m = .bin k → 1 ≤ k ∧ k ≤ 4) → (∀ k a, m = .loop k a → 1 ≤ k ∧ k ≤ 3) → mdwf m → 6 * r.length + rk m ≤ f → (∀ e, run f m r = .error e → e.1 ≠ 0) ∧ ∀ t r', run f m r = .ok (t, r') → t.wf ∧ r'.length ≤ r.length ∧ (eats m = true → r'.length < r.length)
  | 0, m, r, hk, _, _, h => by
    cases m with
    | bin k => have := hk k rfl; simp [rk] at h; omega
    | loop k a => simp [rk] at h
    | hats a => simp [rk] at h
    | prim => simp [rk] at h
  | f + 1, .prim, r, _, _, _, h => by
    simp only [rk] at h
    rw [run]
    split
    · rename_i hb
      have h1 := nx_lt (r := r) (by rw [hb]; simp)
      have ih := fuel f (.bin 1) (nx r) (fun k e => by injection e; omega) (fun _ _ e => by cases e) trivial (by simp only [rk]; omega)
      cases h2 : run f (.bin 1) (nx r) with
      | error e1 => exact ⟨fun e h3 => by simp at h3; subst h3; exact ih.1 e1 h2, fun t r' h3 => by simp at h3⟩
      | ok p =>
        obtain ⟨a, r1⟩ := p
        have h3 := ih.2 a r1 h2
        simp only
        split
        · refine ⟨fun e h4 => by simp at h4, fun t r' h4 => ?_⟩
          simp at h4
          obtain ⟨rfl, rfl⟩ := h4
          have := nx_le r1
          exact ⟨h3.1, by omega, fun _ => by omega⟩
        · exact ⟨fun e h4 => by simp at h4; subst h4; simp, fun t r' h4 => by simp at h4⟩
    · cases h2 : leaf r with
      | error e1 => exact ⟨fun e h3 => by simp at h3; subst h3; exact leaf_err h2, fun t r' h3 => by simp at h3⟩
      | ok p =>
        obtain ⟨x, r1⟩ := p
        have h3 := leaf_ok h2
        refine ⟨fun e h4 => by simp at h4, fun t r' h4 => ?_⟩
        simp at h4
        obtain ⟨rfl, rfl⟩ := h4
        exact ⟨h3.2, by omega, fun _ => by omega⟩
  | f + 1, .hats a, r, _, _, ha, h => by
    simp only [rk] at h
    rw [run]
    split
    · rename_i hb
      have h1 := nx_lt (r := r) (by rw [hb]; simp)
      cases h2 : expo 1 6 (nx r) with
      | error e1 => exact ⟨fun e h3 => by simp at h3; subst h3; exact expo_err h2, fun t r' h3 => by simp at h3⟩
      | ok p =>
        obtain ⟨k, r1⟩ := p
        have h3 := expo_ok h2
        have ih := fuel f (.hats (.hat k a)) r1 (fun k e => by cases e) (fun _ _ e => by cases e) ⟨h3.2.1, h3.2.2, ha⟩ (by simp only [rk]; omega)
        refine ⟨ih.1, fun t r' h4 => ?_⟩
        have := ih.2 t r' h4
        exact ⟨this.1, by omega, fun e => by cases e⟩
    · refine ⟨fun e h4 => by simp at h4, fun t r' h4 => ?_⟩
      simp at h4
      obtain ⟨rfl, rfl⟩ := h4
      exact ⟨ha, Nat.le_refl _, fun e => by cases e⟩
  | f + 1, .loop k a, r, _, hl, ha, h => by
    simp only [rk] at h
    have hk := hl k a rfl
    rw [run]
    cases hb : bop r with
    | none =>
      refine ⟨fun e h4 => by simp at h4, fun t r' h4 => ?_⟩
      simp at h4
      obtain ⟨rfl, rfl⟩ := h4
      exact ⟨ha, Nat.le_refl _, fun e => by cases e⟩
    | some op =>
      simp only
      split
      · obtain ⟨o1, o2, o3⟩ := bop_op hb
        have h1 := nx_lt o3
        have ih := fuel f (.bin (k + 1)) (nx r) (fun k e => by injection e; omega) (fun _ _ e => by cases e) trivial (by simp only [rk]; omega)
        cases h2 : run f (.bin (k + 1)) (nx r) with
        | error e1 => exact ⟨fun e h3 => by simp at h3; subst h3; exact ih.1 e1 h2, fun t r' h3 => by simp at h3⟩
        | ok p =>
          obtain ⟨b, r1⟩ := p
          have h3 := ih.2 b r1 h2
          have ih2 := fuel f (.loop k (.bin op a b)) r1 (fun k e => by cases e) (fun k a e => by injection e; omega) ⟨o1, o2, ha, h3.1⟩ (by simp only [rk]; omega)
          refine ⟨ih2.1, fun t r' h4 => ?_⟩
          have := ih2.2 t r' h4
          exact ⟨this.1, by omega, fun e => by cases e⟩
      · refine ⟨fun e h4 => by simp at h4, fun t r' h4 => ?_⟩
        simp at h4
        obtain ⟨rfl, rfl⟩ := h4
        exact ⟨ha, Nat.le_refl _, fun e => by cases e⟩
  | f + 1, .bin k, r, hk0, _, _, h => by
    simp only [rk] at h
    have hk := hk0 k rfl
    rw [run]
    split
    · rename_i h4
      have ih := fuel f .prim r (fun k e => by cases e) (fun _ _ e => by cases e) trivial (by simp only [rk]; omega)
      cases h2 : run f .prim r with
      | error e1 => exact ⟨fun e h3 => by simp at h3; subst h3; exact ih.1 e1 h2, fun t r' h3 => by simp at h3⟩
      | ok p =>
        obtain ⟨a, r1⟩ := p
        have h3 := ih.2 a r1 h2
        have h3' := h3.2.2 rfl
        have ih2 := fuel f (.hats a) r1 (fun k e => by cases e) (fun _ _ e => by cases e) h3.1 (by simp only [rk]; omega)
        refine ⟨ih2.1, fun t r' h4 => ?_⟩
        have := ih2.2 t r' h4
        exact ⟨this.1, by omega, fun _ => by omega⟩
    · have ih := fuel f (.bin (k + 1)) r (fun k e => by injection e; omega) (fun _ _ e => by cases e) trivial (by simp only [rk]; omega)
      cases h2 : run f (.bin (k + 1)) r with
      | error e1 => exact ⟨fun e h3 => by simp at h3; subst h3; exact ih.1 e1 h2, fun t r' h3 => by simp at h3⟩
      | ok p =>
        obtain ⟨a, r1⟩ := p
        have h3 := ih.2 a r1 h2
        have h3' := h3.2.2 rfl
        have ih2 := fuel f (.loop k a) r1 (fun k e => by cases e) (fun k a e => by injection e; omega) h3.1 (by simp only [rk]; omega)
        refine ⟨ih2.1, fun t r' h4 => ?_⟩
        have := ih2.2 t r' h4
        exact ⟨this.1, by omega, fun _ => by omega⟩
/-- How many operands. -/
def ari (op : Nat) : Nat := if 5 ≤ op ∧ op ≤ 9 then 2 else if op = 10 then 1 else 0
/-- A node in postfix order goes ahead of its operands. -/
def po1 (L : List (List Nd)) (x : Nd) : List (List Nd) := L.take (L.length - ari x.op) ++ [x :: (L.drop (L.length - ari x.op)).flatten]
theorem po_post : ∀ (t : Tr), t.wf → ∀ L, t.post.foldl po1 L = L ++ [t.pre]
  | .leaf x, h, L => by
    have : ari x.op = 0 := by
      unfold ari
      rcases h with h | h | h
      · rw [h.1]; rfl
      · rw [h.1]; rfl
      · rcases h.1 with h | h <;> rw [h] <;> rfl
    simp [Tr.post, Tr.pre, po1, this]
  | .hat k a, h, L => by
    rw [Tr.post, List.foldl_append, po_post a h.2.2]
    simp [po1, ari, Tr.pre]
  | .bin op a b, h, L => by
    have : ari op = 2 := by unfold ari; rw [if_pos ⟨h.1, h.2.1⟩]
    rw [Tr.post, List.foldl_append, List.foldl_append, po_post a h.2.2.1, po_post b h.2.2.2]
    simp [po1, this, Tr.pre]
theorem len_post : ∀ t : Tr, t.post.length = t.pre.length
  | .leaf x => rfl
  | .hat k a => by simp [Tr.post, Tr.pre, len_post a]
  | .bin op a b => by simp [Tr.post, Tr.pre, len_post a, len_post b]; omega
/-- The fields of a node are as its operation asks. -/
def okN (x : Nd) : Prop := lfN x ∨ (x.op = 10 ∧ x.nm = [] ∧ 1 ≤ x.k ∧ x.k ≤ 6) ∨ (5 ≤ x.op ∧ x.op ≤ 9 ∧ x.nm = [] ∧ x.k = 0)
/-- So many expressions are still missing. -/
def cntP : Nat → List Nd → Prop
  | m, [] => m = 0
  | m, x :: l => m ≠ 0 ∧ okN x ∧ cntP (m - 1 + ari x.op) l
theorem lf_ari {x : Nd} (h : lfN x) : ari x.op = 0 := by
  unfold ari
  rcases h with h | h | h
  · rw [h.1]; rfl
  · rw [h.1]; rfl
  · rcases h.1 with h | h <;> rw [h] <;> rfl
theorem cnt_tree : ∀ (t : Tr), t.wf → ∀ m l, cntP (m + 1) (t.pre ++ l) ↔ cntP m l
  | .leaf x, h, m, l => by
    have e := lf_ari h
    show (m + 1 ≠ 0 ∧ okN x ∧ cntP (m + 1 - 1 + ari x.op) l) ↔ _
    rw [e]
    exact ⟨fun h => h.2.2, fun h1 => ⟨by omega, .inl h, h1⟩⟩
  | .hat k a, h, m, l => by
    show (m + 1 ≠ 0 ∧ okN ⟨10, [], k⟩ ∧ cntP (m + 1 - 1 + 1) (a.pre ++ l)) ↔ _
    rw [show m + 1 - 1 + 1 = m + 1 by omega, cnt_tree a h.2.2]
    exact ⟨fun h => h.2.2, fun h1 => ⟨by omega, .inr (.inl ⟨rfl, rfl, h.1, h.2.1⟩), h1⟩⟩
  | .bin op a b, h, m, l => by
    have e : ari op = 2 := by unfold ari; rw [if_pos ⟨h.1, h.2.1⟩]
    show (m + 1 ≠ 0 ∧ okN ⟨op, [], 0⟩ ∧ cntP (m + 1 - 1 + ari op) (a.pre ++ b.pre ++ l)) ↔ _
    rw [e, show m + 1 - 1 + 2 = (m + 1) + 1 by omega, List.append_assoc, cnt_tree a h.2.2.1, cnt_tree b h.2.2.2]
    exact ⟨fun h => h.2.2, fun h1 => ⟨by omega, .inr (.inr ⟨h.1, h.2.1, rfl, rfl⟩), h1⟩⟩
theorem cnt_all : ∀ (l : List Nd) (m : Nat), cntP m l → ∃ ts : List Tr, ts.length = m ∧ (∀ t ∈ ts, t.wf) ∧ l = (ts.map Tr.pre).flatten
  | [], m, h => ⟨[], h.symm, by simp, rfl⟩
  | x :: l, m, h => by
    obtain ⟨h0, h1, h2⟩ := h
    obtain ⟨ts, h3, h4, h5⟩ := cnt_all l _ h2
    rcases h1 with h1 | h1 | h1
    · rw [lf_ari h1] at h3
      refine ⟨.leaf x :: ts, by simp; omega, fun t ht => ?_, by rw [h5]; rfl⟩
      rcases List.mem_cons.1 ht with rfl | ht
      · exact h1
      · exact h4 t ht
    · obtain ⟨op, nm, k⟩ := x
      obtain ⟨rfl, rfl, h6, h7⟩ := h1
      have e : ari 10 = 1 := rfl
      cases ts with
      | nil => simp [e] at h3
      | cons a ts =>
        refine ⟨.hat k a :: ts, by simp [e] at h3 ⊢; omega, fun t ht => ?_, by rw [h5]; rfl⟩
        rcases List.mem_cons.1 ht with rfl | ht
        · exact ⟨h6, h7, h4 a List.mem_cons_self⟩
        · exact h4 t (List.mem_cons_of_mem _ ht)
    · obtain ⟨op, nm, k⟩ := x
      obtain ⟨h6, h7, rfl, rfl⟩ := h1
      have e : ari op = 2 := by unfold ari; rw [if_pos ⟨h6, h7⟩]
      simp only [e] at h3
      match ts, h3, h4, h5 with
      | [], h3, _, _ => simp at h3
      | [a], h3, _, _ => simp at h3
      | a :: b :: ts, h3, h4, h5 =>
        refine ⟨.bin op a b :: ts, by simp at h3 ⊢; omega, fun t ht => ?_, by rw [h5]; simp [Tr.pre]⟩
        rcases List.mem_cons.1 ht with rfl | ht
        · exact ⟨h6, h7, h4 a List.mem_cons_self, h4 b (List.mem_cons_of_mem _ List.mem_cons_self)⟩
        · exact h4 t (List.mem_cons_of_mem _ (List.mem_cons_of_mem _ ht))
/-- A right side is an expression exactly if it is a tree's nodes. -/
theorem expr_iff (l : List Nd) : cntP 1 l ↔ ∃ t : Tr, t.wf ∧ l = t.pre := by
  constructor
  · intro h
    obtain ⟨ts, h1, h2, h3⟩ := cnt_all l 1 h
    match ts, h1, h2, h3 with
    | [t], _, h2, h3 => exact ⟨t, h2 t List.mem_cons_self, by simpa using h3⟩
  · rintro ⟨t, h1, rfl⟩
    have := (cnt_tree t h1 0 []).2 rfl
    rwa [List.append_nil] at this
/-- Two expressions joined by an operation. -/
theorem grows {op : Nat} (h1 : 5 ≤ op) (h2 : op ≤ 9) {a b : List Nd} (ha : cntP 1 a) (hb : cntP 1 b) : cntP 1 (⟨op, [], 0⟩ :: (a ++ b)) := by
  obtain ⟨s, h3, rfl⟩ := (expr_iff a).1 ha
  obtain ⟨t, h4, rfl⟩ := (expr_iff b).1 hb
  exact (expr_iff _).2 ⟨.bin op s t, ⟨h1, h2, h3, h4⟩, rfl⟩
/-- What is written. -/
def dg (k : Nat) : Bs := [UInt8.ofNat (48 + k)]
def sgn : Nat → Bs
  | 5 => [32, 43, 32]
  | 6 => [32, 45, 32]
  | 8 => [32, 42, 32]
  | 9 => [32, 47, 32]
  | _ => [58]
def Tr.rank : Tr → Nat
  | .leaf _ => 5
  | .hat _ _ => 4
  | .bin op _ _ => rul op
def encl (p : Bs × Nat) (k : Nat) : Bs := if p.2 < k then 40 :: (p.1 ++ [41]) else p.1
def lfW (x : Nd) : Bs := if x.op = 1 then x.nm else if x.op = 2 then [112, 111, 119, 101, 114, 40] ++ x.nm ++ [44, 32] ++ dg x.k ++ [41] else if x.op = 3 then [49] else [48]
def Tr.wr : Tr → Bs
  | .leaf x => lfW x
  | .hat k a => encl (a.wr, a.rank) 4 ++ [94] ++ dg k
  | .bin op a b => encl (a.wr, a.rank) (rul op) ++ sgn op ++ encl (b.wr, b.rank) (rul op + 1)
/-- A phrase more, from the last node on: the stack's top is its last element. -/
def ph1 (x : Nd) (L : List (Bs × Nat)) : List (Bs × Nat) :=
  if 5 ≤ x.op ∧ x.op ≤ 9 then L.take (L.length - 2) ++ [(encl ((L.drop (L.length - 2)).getD 1 ([], 0)) (rul x.op) ++ sgn x.op ++ encl ((L.drop (L.length - 2)).getD 0 ([], 0)) (rul x.op + 1), rul x.op)]
  else if x.op = 10 then L.take (L.length - 1) ++ [(encl ((L.drop (L.length - 1)).getD 0 ([], 0)) 4 ++ [94] ++ dg x.k, 4)]
  else L ++ [(lfW x, 5)]
theorem ph_pre : ∀ (t : Tr), t.wf → ∀ L, t.pre.foldr ph1 L = L ++ [(t.wr, t.rank)]
  | .leaf x, h, L => by
    have e := lf_ari h
    have h1 : ¬ (5 ≤ x.op ∧ x.op ≤ 9) := fun h => by unfold ari at e; rw [if_pos h] at e; simp at e
    have h2 : ¬ x.op = 10 := fun h => by rw [h] at e; simp [ari] at e
    simp [Tr.pre, ph1, h1, h2, Tr.wr, Tr.rank]
  | .hat k a, h, L => by
    rw [Tr.pre, List.foldr_cons, ph_pre a h.2.2]
    simp [ph1, Tr.wr, Tr.rank]
  | .bin op a b, h, L => by
    rw [Tr.pre, List.foldr_cons, List.foldr_append, ph_pre b h.2.2.2, ph_pre a h.2.2.1]
    simp [ph1, h.1, h.2.1, Tr.wr, Tr.rank]
/-- What stands behind does not go on with the word. -/
def sep (s : Bs) : Prop := ∀ c ∈ s.head?, innB c = false
theorem sep_dig {s : Bs} (h : sep s) : s.takeWhile digB = [] := by
  cases s with
  | nil => rfl
  | cons c t =>
    have := h c rfl
    unfold innB at this
    simp only [Bool.or_eq_false_iff] at this
    rw [List.takeWhile_cons, this.1.1.2]; rfl
theorem sep_inn {s : Bs} (h : sep s) : s.takeWhile innB = [] := by
  cases s with
  | nil => rfl
  | cons c t => rw [List.takeWhile_cons, h c rfl]; rfl
theorem take_all {p : UInt8 → Bool} : ∀ {t s : Bs}, t.all p = true → s.takeWhile p = [] → (t ++ s).takeWhile p = t
  | [], s, _, h => h
  | c :: t, s, h, hs => by
    simp only [List.all_cons, Bool.and_eq_true] at h
    rw [List.cons_append, List.takeWhile_cons, h.1, take_all h.2 hs]; rfl
theorem trm_ne {c : UInt8} (h : c ≠ 32) (s : Bs) : trm (c :: s) = c :: s := by
  unfold trm
  rw [List.dropWhile_cons, if_neg (by simpa using h)]
theorem trm_sp (s : Bs) : trm (32 :: s) = trm s := by
  unfold trm
  rw [List.dropWhile_cons, if_pos (by simp)]
theorem let_ne {c : UInt8} (h : letB c = true) : c ≠ 32 ∧ c ≠ 48 ∧ c ≠ 49 ∧ c ≠ 40 ∧ digB c = false := by
  unfold letB at h
  simp only [Bool.or_eq_true, Bool.and_eq_true, decide_eq_true_eq] at h
  refine ⟨?_, ?_, ?_, ?_, ?_⟩
  · rintro rfl; simp at h
  · rintro rfl; simp at h
  · rintro rfl; simp at h
  · rintro rfl; simp at h
  · unfold digB
    rw [Bool.and_eq_false_iff]
    right
    rw [decide_eq_false_iff_not]
    omega
theorem name_parts {n : Bs} (h : nameL n = true) : ∃ c t, n = c :: t ∧ letB c = true ∧ t.all innB = true ∧ n ≠ [112, 111, 119, 101, 114] := by
  cases n with
  | nil => simp [nameL] at h
  | cons c t =>
    simp only [nameL, Bool.and_eq_true, Bool.not_eq_true', decide_eq_true_eq] at h
    exact ⟨c, t, rfl, h.1.1.2, h.2, by simpa using h.1.2⟩
theorem fw_name {n s : Bs} (h : nameL n = true) (hs : sep s) : fw (n ++ s) = n := by
  obtain ⟨c, t, rfl, h1, h2, _⟩ := name_parts h
  rw [List.cons_append, fw, if_pos h1, take_all h2 (sep_inn hs)]
theorem nx_app {n s : Bs} (h : fw (n ++ s) = n) : nx (n ++ s) = trm s := by
  unfold nx
  rw [h, List.drop_left]
theorem fw_sign {c : UInt8} (h1 : letB c = false) (h2 : digB c = false) (s : Bs) : fw (c :: s) = [c] := by
  rw [fw, if_neg (by rw [h1]; simp), if_neg (by rw [h2]; simp)]
theorem nx_sign {c : UInt8} (h1 : letB c = false) (h2 : digB c = false) (s : Bs) : nx (c :: s) = trm s := nx_app (n := [c]) (fw_sign h1 h2 s)
theorem dig_let {c : UInt8} (h : digB c = true) : letB c = false := by
  unfold digB at h
  simp only [Bool.and_eq_true, decide_eq_true_eq] at h
  unfold letB
  rw [Bool.or_eq_false_iff, Bool.and_eq_false_iff, Bool.and_eq_false_iff]
  simp only [decide_eq_false_iff_not]
  omega
theorem fw_dig {c : UInt8} {s : Bs} (h : digB c = true) (hs : s.takeWhile digB = []) : fw (c :: s) = [c] := by
  rw [fw, if_neg (by rw [dig_let h]; simp), if_pos h, hs]
theorem dg_nat {k : Nat} (h : k ≤ 9) : (UInt8.ofNat (48 + k)).toNat = 48 + k := by
  rw [UInt8.toNat_ofNat']; omega
theorem dg_dig {k : Nat} (h : k ≤ 9) : digB (UInt8.ofNat (48 + k)) = true := by
  unfold digB
  rw [dg_nat h]
  simp only [Bool.and_eq_true, decide_eq_true_eq]; omega
theorem expo_dg {lo hi k : Nat} {s : Bs} (h1 : lo ≤ k) (h2 : k ≤ hi) (h3 : k ≤ 9) (hs : s.takeWhile digB = []) : expo lo hi (dg k ++ s) = .ok (k, trm s) := by
  have e : fw (dg k ++ s) = [UInt8.ofNat (48 + k)] := fw_dig (dg_dig h3) hs
  have e2 : nx (dg k ++ s) = trm s := nx_app (n := dg k) e
  unfold expo
  rw [e, e2]
  simp only [dg_dig h3, if_true, dg_nat h3]
  rw [if_pos ⟨by omega, by omega⟩]
  congr 2
  omega
theorem leaf_wr {x : Nd} (h : lfN x) {s : Bs} (hs : sep s) : leaf (lfW x ++ s) = .ok (x, trm s) ∧ fw (lfW x ++ s) ≠ [40] := by
  obtain ⟨op, nm, k⟩ := x
  rcases h with ⟨h1, h2, h3⟩ | ⟨h1, h2, h3, h4⟩ | ⟨h1, h2, h3⟩
  · simp only at h1 h2 h3
    subst h1; subst h3
    have e : lfW ⟨1, nm, 0⟩ = nm := rfl
    have e1 := fw_name h2 hs
    have e2 := nx_app e1
    obtain ⟨c, t, hc, h4, _, h5⟩ := name_parts h2
    obtain ⟨_, q1, q2, q3, _⟩ := let_ne h4
    rw [e]
    refine ⟨?_, by rw [e1, hc]; intro h; injection h with h; exact q3 h⟩
    unfold leaf
    rw [e1, e2, if_neg (by rw [hc]; intro h; injection h with h; exact q1 h), if_neg (by rw [hc]; intro h; injection h with h; exact q2 h), if_neg h5, if_pos h2]
  · simp only at h1 h2 h3 h4
    subst h1
    obtain ⟨c, t, hc, h5, _, _⟩ := name_parts h2
    obtain ⟨q0, _⟩ := let_ne h5
    have e : lfW ⟨2, nm, k⟩ ++ s = [112, 111, 119, 101, 114] ++ (40 :: (nm ++ (44 :: 32 :: (dg k ++ (41 :: s))))) := by
      simp [lfW]
    have f1 : fw (lfW ⟨2, nm, k⟩ ++ s) = [112, 111, 119, 101, 114] := by rw [e]; rfl
    have n1 : nx (lfW ⟨2, nm, k⟩ ++ s) = 40 :: (nm ++ (44 :: 32 :: (dg k ++ (41 :: s)))) := by
      rw [e] at f1 ⊢
      rw [nx_app f1, trm_ne (by decide)]
    have f2 : fw (40 :: (nm ++ (44 :: 32 :: (dg k ++ (41 :: s))))) = [40] := fw_sign rfl rfl _
    have n2 : nx (40 :: (nm ++ (44 :: 32 :: (dg k ++ (41 :: s))))) = nm ++ (44 :: 32 :: (dg k ++ (41 :: s))) := by
      rw [nx_sign rfl rfl, hc, List.cons_append, trm_ne q0]
    have f3 : fw (nm ++ (44 :: 32 :: (dg k ++ (41 :: s)))) = nm := fw_name h2 (fun c hc => by simp at hc; subst hc; rfl)
    have n3 : nx (nm ++ (44 :: 32 :: (dg k ++ (41 :: s)))) = 44 :: 32 :: (dg k ++ (41 :: s)) := by rw [nx_app f3, trm_ne (by decide)]
    have f4 : fw (44 :: 32 :: (dg k ++ (41 :: s))) = [44] := fw_sign rfl rfl _
    have hd : UInt8.ofNat (48 + k) ≠ 32 := fun h => by have := congrArg UInt8.toNat h; rw [dg_nat (by omega)] at this; simp at this; omega
    have n4 : nx (44 :: 32 :: (dg k ++ (41 :: s))) = dg k ++ (41 :: s) := by
      rw [nx_sign rfl rfl, trm_sp]
      exact trm_ne hd _
    have x5 : expo 2 8 (dg k ++ (41 :: s)) = .ok (k, 41 :: s) := by
      rw [expo_dg h3 h4 (by omega) rfl, trm_ne (by decide)]
    have f6 : fw (41 :: s) = [41] := fw_sign rfl rfl _
    have n6 : nx (41 :: s) = trm s := nx_sign rfl rfl _
    refine ⟨?_, by rw [f1]; simp⟩
    unfold leaf
    rw [f1, if_neg (by simp), if_neg (by simp), if_pos rfl, n1]
    unfold pw
    rw [f2, if_pos rfl, n2, f3, if_pos h2, n3, f4, if_pos rfl, n4, x5]
    simp only [f6, if_true, n6]
  · simp only at h1 h2 h3
    subst h2; subst h3
    rcases h1 with rfl | rfl
    · have f1 : fw (lfW ⟨3, [], 0⟩ ++ s) = [49] := fw_dig (c := 49) rfl (sep_dig hs)
      have n1 : nx (lfW ⟨3, [], 0⟩ ++ s) = trm s := nx_app (n := [49]) f1
      refine ⟨?_, by rw [f1]; simp⟩
      unfold leaf
      rw [f1, n1, if_neg (by simp), if_pos rfl]
    · have f1 : fw (lfW ⟨4, [], 0⟩ ++ s) = [48] := fw_dig (c := 48) rfl (sep_dig hs)
      have n1 : nx (lfW ⟨4, [], 0⟩ ++ s) = trm s := nx_app (n := [48]) f1
      refine ⟨?_, by rw [f1]; simp⟩
      unfold leaf
      rw [f1, n1, if_pos rfl]
/-- A mode comes to this, with fuel enough. -/
def To (m : Md) (r : Bs) (X : Rs (Tr × Bs)) : Prop := ∃ c, ∀ g, run (g + c) m r = X
def cont (j : Nat) (t : Tr) : Md := if j = 4 then .hats t else .loop j t
theorem to_bin {j : Nat} {r : Bs} {t : Tr} {r1 : Bs} {X : Rs (Tr × Bs)} (hj : j ≤ 3) (h1 : To (.bin (j + 1)) r (.ok (t, r1))) (h2 : To (.loop j t) r1 X) : To (.bin j) r X := by
  obtain ⟨c1, h1⟩ := h1
  obtain ⟨c2, h2⟩ := h2
  refine ⟨c1 + c2 + 1, fun g => ?_⟩
  rw [← Nat.add_assoc, run, if_neg (by omega), show g + (c1 + c2) = (g + c2) + c1 by omega, h1]
  show run (g + c2 + c1) _ _ = X
  rw [show g + c2 + c1 = (g + c1) + c2 by omega, h2]
theorem to_four {r : Bs} {t : Tr} {r1 : Bs} {X : Rs (Tr × Bs)} (h1 : To .prim r (.ok (t, r1))) (h2 : To (.hats t) r1 X) : To (.bin 4) r X := by
  obtain ⟨c1, h1⟩ := h1
  obtain ⟨c2, h2⟩ := h2
  refine ⟨c1 + c2 + 1, fun g => ?_⟩
  rw [← Nat.add_assoc, run, if_pos rfl, show g + (c1 + c2) = (g + c2) + c1 by omega, h1]
  show run (g + c2 + c1) _ _ = X
  rw [show g + c2 + c1 = (g + c1) + c2 by omega, h2]
theorem to_stop {j : Nat} {t : Tr} {r : Bs} (h : stp j r) : To (cont j t) r (.ok (t, r)) := by
  refine ⟨1, fun g => ?_⟩
  unfold cont
  split
  · rw [run, if_neg h.1]
  · rw [run]
    cases hb : bop r with
    | none => rfl
    | some op =>
      have := h.2 op hb
      simp only
      rw [if_neg (by omega)]
theorem stp_up {j k : Nat} {r : Bs} (h : stp j r) (hk : j ≤ k) : stp k r := ⟨h.1, fun op ho => by have := h.2 op ho; omega⟩
/-- What is read as far as a level goes on at the levels below. -/
def Reads (t : Tr) (x s : Bs) (j : Nat) : Prop := ∀ X, (j ≤ 3 → stp (j + 1) (trm s)) → To (cont j t) (trm s) X → To (.bin j) (x ++ s) X
theorem reads_down {t : Tr} {x s : Bs} {j : Nat} (hj : j ≤ 3) (h : Reads t x s (j + 1)) : Reads t x s j := by
  intro X h1 h2
  refine to_bin hj (h _ (fun h3 => stp_up (h1 hj) (by omega)) (to_stop (h1 hj))) ?_
  unfold cont at h2
  rwa [if_neg (by omega)] at h2
theorem reads_to {t : Tr} {x s : Bs} {j : Nat} : ∀ (k : Nat), k ≤ 4 → Reads t x s k → j ≤ k → Reads t x s j
  | 0, _, h, hj => by obtain rfl : j = 0 := by omega
                      exact h
  | k + 1, hk, h, hj => by
    by_cases e : j = k + 1
    · rw [e]; exact h
    · exact reads_to k (by omega) (reads_down (by omega) h) (by omega)
/-- A text that begins with no space. -/
def beg (x : Bs) : Prop := ∃ c t, x = c :: t ∧ c ≠ 32
theorem beg_trm {x : Bs} (h : beg x) (s : Bs) : trm (x ++ s) = x ++ s := by
  obtain ⟨c, t, rfl, hc⟩ := h
  exact trm_ne hc _
theorem beg_app {x : Bs} (h : beg x) (s : Bs) : beg (x ++ s) := by
  obtain ⟨c, t, rfl, hc⟩ := h
  exact ⟨c, t ++ s, rfl, hc⟩
theorem beg_encl {p : Bs × Nat} (h : beg p.1) (k : Nat) : beg (encl p k) := by
  unfold encl
  split
  · exact ⟨40, _, rfl, by decide⟩
  · exact h
theorem beg_wr : ∀ (t : Tr), t.wf → beg t.wr
  | .leaf ⟨op, nm, k⟩, h => by
    rcases h with ⟨h1, h2, h3⟩ | ⟨h1, h2, h3, h4⟩ | ⟨h1, h2, h3⟩
    · simp only at h1 h2 h3
      subst h1
      obtain ⟨c, t, hc, h4, _⟩ := name_parts h2
      exact ⟨c, t, hc, (let_ne h4).1⟩
    · simp only at h1; subst h1
      exact ⟨112, _, rfl, by decide⟩
    · simp only at h1
      rcases h1 with rfl | rfl
      · exact ⟨49, [], rfl, by decide⟩
      · exact ⟨48, [], rfl, by decide⟩
  | .hat k a, h => by
    have := beg_encl (p := (a.wr, a.rank)) (beg_wr a h.2.2) 4
    rw [Tr.wr, List.append_assoc]
    exact beg_app this _
  | .bin op a b, h => by
    have := beg_encl (p := (a.wr, a.rank)) (beg_wr a h.2.2.1) (rul op)
    rw [Tr.wr, List.append_assoc]
    exact beg_app this _
theorem rul_rng {op : Nat} (h1 : 5 ≤ op) (h2 : op ≤ 9) : 1 ≤ rul op ∧ rul op ≤ 3 := by
  have : op = 5 ∨ op = 6 ∨ op = 7 ∨ op = 8 ∨ op = 9 := by omega
  rcases this with rfl | rfl | rfl | rfl | rfl <;> simp [rul]
theorem rank_pos : ∀ (t : Tr), t.wf → 1 ≤ t.rank
  | .leaf _, _ => by simp [Tr.rank]
  | .hat _ _, _ => by simp [Tr.rank]
  | .bin op a b, h => (rul_rng h.1 h.2.1).1
/-- In brackets, or tight enough without. -/
theorem reads_encl {a : Tr} (ha : a.wf) (ih : ∀ s, sep s → ∀ j, 1 ≤ j → j ≤ 4 → j ≤ a.rank → Reads a a.wr s j) {s : Bs} (hs : sep s) {k : Nat} (hk1 : 1 ≤ k) (hk4 : k ≤ 4) : Reads a (encl (a.wr, a.rank) k) s k := by
  unfold encl
  split
  · refine reads_to 4 (Nat.le_refl _) ?_ hk4
    intro X _ h2
    refine to_four (t := a) (r1 := trm s) ?_ h2
    have e : (40 :: (a.wr ++ [41])) ++ s = 40 :: (a.wr ++ (41 :: s)) := by simp
    have f1 : fw (40 :: (a.wr ++ (41 :: s))) = [40] := fw_sign rfl rfl _
    have n1 : nx (40 :: (a.wr ++ (41 :: s))) = a.wr ++ (41 :: s) := by rw [nx_sign rfl rfl, beg_trm (beg_wr a ha)]
    have t1 : trm (41 :: s) = 41 :: s := trm_ne (by decide) _
    have f2 : fw (41 :: s) = [41] := fw_sign rfl rfl _
    have n2 : nx (41 :: s) = trm s := nx_sign rfl rfl _
    have st : ∀ j, stp j (41 :: s) := fun j => ⟨by rw [f2]; simp, fun op h => by unfold bop at h; rw [f2] at h; simp at h⟩
    obtain ⟨c, hc⟩ := ih (41 :: s) (fun c hc => by simp at hc; subst hc; rfl) 1 (by omega) (by omega) (rank_pos a ha) (.ok (a, 41 :: s)) (fun _ => by rw [t1]; exact st _) (by rw [t1]; exact to_stop (st 1))
    refine ⟨c + 1, fun g => ?_⟩
    show run (g + (c + 1)) .prim ((40 :: (a.wr ++ [41])) ++ s) = _
    rw [e, ← Nat.add_assoc, run, if_pos f1, n1, hc]
    simp only [f2, if_true, n2]
  · rename_i h
    exact ih s hs k hk1 hk4 (by simp at h; omega)
theorem sgn_parts {op : Nat} (h1 : 5 ≤ op) (h2 : op ≤ 9) {y : Bs} (hy : beg y) : sep (sgn op ++ y) ∧ bop (trm (sgn op ++ y)) = some op ∧ nx (trm (sgn op ++ y)) = y ∧ fw (trm (sgn op ++ y)) ≠ [94] := by
  have ht : trm y = y := by have := beg_trm hy []; simpa using this
  have go : ∀ c : UInt8, letB c = false → digB c = false → c ≠ 32 → trm (32 :: c :: 32 :: y) = c :: 32 :: y ∧ fw (c :: 32 :: y) = [c] ∧ nx (c :: 32 :: y) = y := fun c h1 h2 h3 => ⟨by rw [trm_sp, trm_ne h3], fw_sign h1 h2 _, by rw [nx_sign h1 h2, trm_sp, ht]⟩
  have : op = 5 ∨ op = 6 ∨ op = 7 ∨ op = 8 ∨ op = 9 := by omega
  rcases this with rfl | rfl | rfl | rfl | rfl
  · obtain ⟨e1, e2, e3⟩ := go 43 rfl rfl (by decide)
    refine ⟨fun c hc => by simp [sgn] at hc; subst hc; rfl, ?_⟩
    show bop (trm (32 :: 43 :: 32 :: y)) = _ ∧ nx (trm (32 :: 43 :: 32 :: y)) = _ ∧ fw (trm (32 :: 43 :: 32 :: y)) ≠ _
    rw [e1]; exact ⟨by unfold bop; rw [e2]; rfl, e3, by rw [e2]; simp⟩
  · obtain ⟨e1, e2, e3⟩ := go 45 rfl rfl (by decide)
    refine ⟨fun c hc => by simp [sgn] at hc; subst hc; rfl, ?_⟩
    show bop (trm (32 :: 45 :: 32 :: y)) = _ ∧ nx (trm (32 :: 45 :: 32 :: y)) = _ ∧ fw (trm (32 :: 45 :: 32 :: y)) ≠ _
    rw [e1]; exact ⟨by unfold bop; rw [e2]; rfl, e3, by rw [e2]; simp⟩
  · refine ⟨fun c hc => by simp [sgn] at hc; subst hc; rfl, ?_⟩
    have e1 : trm (58 :: y) = 58 :: y := trm_ne (by decide) _
    have e2 : fw (58 :: y) = [58] := fw_sign rfl rfl _
    have e3 : nx (58 :: y) = y := by rw [nx_sign rfl rfl, ht]
    show bop (trm (58 :: y)) = _ ∧ nx (trm (58 :: y)) = _ ∧ fw (trm (58 :: y)) ≠ _
    rw [e1]; exact ⟨by unfold bop; rw [e2]; rfl, e3, by rw [e2]; simp⟩
  · obtain ⟨e1, e2, e3⟩ := go 42 rfl rfl (by decide)
    refine ⟨fun c hc => by simp [sgn] at hc; subst hc; rfl, ?_⟩
    show bop (trm (32 :: 42 :: 32 :: y)) = _ ∧ nx (trm (32 :: 42 :: 32 :: y)) = _ ∧ fw (trm (32 :: 42 :: 32 :: y)) ≠ _
    rw [e1]; exact ⟨by unfold bop; rw [e2]; rfl, e3, by rw [e2]; simp⟩
  · obtain ⟨e1, e2, e3⟩ := go 47 rfl rfl (by decide)
    refine ⟨fun c hc => by simp [sgn] at hc; subst hc; rfl, ?_⟩
    show bop (trm (32 :: 47 :: 32 :: y)) = _ ∧ nx (trm (32 :: 47 :: 32 :: y)) = _ ∧ fw (trm (32 :: 47 :: 32 :: y)) ≠ _
    rw [e1]; exact ⟨by unfold bop; rw [e2]; rfl, e3, by rw [e2]; simp⟩
/-- What is written is read. -/
theorem reads : ∀ (t : Tr), t.wf → ∀ s, sep s → ∀ j, 1 ≤ j → j ≤ 4 → j ≤ t.rank → Reads t t.wr s j
  | .leaf x, h, s, hs, j, _, hj4, _ => by
    refine reads_to 4 (Nat.le_refl _) ?_ hj4
    intro X _ h2
    refine to_four (t := .leaf x) (r1 := trm s) ?_ h2
    obtain ⟨h3, h4⟩ := leaf_wr h hs
    exact ⟨1, fun g => by
      show run (g + 1) .prim (lfW x ++ s) = _
      rw [run, if_neg h4, h3]⟩
  | .hat k a, h, s, hs, j, _, hj4, _ => by
    refine reads_to 4 (Nat.le_refl _) ?_ hj4
    intro X _ h2
    have hs1 : sep (94 :: (dg k ++ s)) := fun c hc => by simp at hc; subst hc; rfl
    have h3 := reads_encl h.2.2 (fun s hs j h1 h4 h5 => reads a h.2.2 s hs j h1 h4 h5) hs1 (k := 4) (by omega) (by omega) X (by omega) (by
      have t1 : trm (94 :: (dg k ++ s)) = 94 :: (dg k ++ s) := trm_ne (by decide) _
      have f1 : fw (94 :: (dg k ++ s)) = [94] := fw_sign rfl rfl _
      have hd : UInt8.ofNat (48 + k) ≠ 32 := fun e => by have := congrArg UInt8.toNat e; rw [dg_nat (by have := h.2.1; omega)] at this; simp at this; omega
      have n1 : nx (94 :: (dg k ++ s)) = dg k ++ s := by rw [nx_sign rfl rfl]; exact trm_ne hd _
      have x1 := expo_dg (lo := 1) (hi := 6) h.1 h.2.1 (by have := h.2.1; omega) (sep_dig hs)
      obtain ⟨c, hc⟩ := h2
      refine ⟨c + 1, fun g => ?_⟩
      rw [t1, ← Nat.add_assoc]
      show run (g + c + 1) (.hats a) _ = X
      rw [run, if_pos f1, n1, x1]
      exact hc g)
    have e : Tr.wr (.hat k a) ++ s = encl (a.wr, a.rank) 4 ++ 94 :: (dg k ++ s) := by simp [Tr.wr]
    rw [e]; exact h3
  | .bin op a b, h, s, hs, j, hj1, hj4, hjr => by
    obtain ⟨r1, r3⟩ := rul_rng h.1 h.2.1
    refine reads_to (rul op) (by omega) ?_ hjr
    intro X hst h2
    have hy : beg (encl (b.wr, b.rank) (rul op + 1) ++ s) := beg_app (beg_encl (p := (b.wr, b.rank)) (beg_wr b h.2.2.2) _) _
    obtain ⟨p1, p2, p3, p4⟩ := sgn_parts h.1 h.2.1 hy
    have h3 := reads_encl h.2.2.1 (fun s hs j h1 h4 h5 => reads a h.2.2.1 s hs j h1 h4 h5) p1 r1 (by omega) X (fun _ => ⟨p4, fun op' ho => by rw [p2] at ho; cases ho; omega⟩) (by
      obtain ⟨c1, hc1⟩ := reads_encl h.2.2.2 (fun s hs j h1 h4 h5 => reads b h.2.2.2 s hs j h1 h4 h5) hs (k := rul op + 1) (by omega) (by omega) (.ok (b, trm s)) (fun _ => stp_up (hst r3) (by omega)) (to_stop (hst r3))
      unfold cont at h2 ⊢
      rw [if_neg (by omega)] at h2 ⊢
      obtain ⟨c2, hc2⟩ := h2
      refine ⟨c1 + c2 + 1, fun g => ?_⟩
      rw [← Nat.add_assoc, run, p2]
      simp only [if_true, p3]
      rw [show g + (c1 + c2) = (g + c2) + c1 by omega, hc1]
      show run (g + c2 + c1) _ _ = X
      rw [show g + c2 + c1 = (g + c1) + c2 by omega, hc2])
    have e : Tr.wr (.bin op a b) ++ s = encl (a.wr, a.rank) (rul op) ++ (sgn op ++ (encl (b.wr, b.rank) (rul op + 1) ++ s)) := by simp [Tr.wr]
    rw [e]; exact h3
/-- The right side that has been written is read, with what it is. -/
theorem reads_all (t : Tr) (h : t.wf) : To (.bin 1) t.wr (.ok (t, [])) := by
  have st : ∀ j, stp j [] := fun j => ⟨by simp [fw], fun op h => by simp [bop, fw] at h⟩
  have := reads t h [] (fun c hc => by simp at hc) 1 (by omega) (by omega) (rank_pos t h) (.ok (t, [])) (fun _ => st _) (to_stop (st 1))
  rwa [List.append_nil] at this
end F9
end Go.Proofs.YthbkdjbmkhmlnaaDoor
