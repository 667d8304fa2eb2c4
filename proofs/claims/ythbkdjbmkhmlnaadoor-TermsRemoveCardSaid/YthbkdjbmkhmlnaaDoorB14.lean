/- The mathematics of layer 10. -/
import Derived.Test.YthbkdjbmkhmlnaaDoorB08
set_option linter.unusedVariables false
namespace Go.Proofs.YthbkdjbmkhmlnaaDoor
namespace F10
open F9
abbrev Fac := Bs × Nat
def facOf (x : F9.Nd) : Option Fac := if x.op = 1 then some (x.nm, 1) else if x.op = 2 then some (x.nm, x.k) else none
def addF (fs : List Fac) (f : Fac) : List Fac := if f ∈ fs then fs else fs ++ [f]
def addN (fs : List Fac) (x : F9.Nd) : List Fac := match facOf x with
  | some f => addF fs f
  | none => fs
def atoms : Tr → List Fac → List Fac
  | .leaf x, fs => addN fs x
  | .hat _ a, fs => atoms a fs
  | .bin _ a b, fs => atoms b (atoms a fs)
/-- Which trees come in. -/
def shp : Tr → Prop
  | .leaf x => 1 ≤ x.op ∧ x.op ≤ 4
  | .hat _ a => shp a
  | .bin op a b => 5 ≤ op ∧ op ≤ 9 ∧ shp a ∧ shp b
/-- The reference reads the nodes one after the other. -/
theorem atoms_fold : ∀ (t : Tr), shp t → ∀ fs, t.pre.foldl addN fs = atoms t fs
  | .leaf x, _, fs => rfl
  | .hat k a, h, fs => by
    show (a.pre).foldl addN (addN fs ⟨10, [], k⟩) = atoms a fs
    rw [show addN fs ⟨10, [], k⟩ = fs from rfl]
    exact atoms_fold a h fs
  | .bin op a b, h, fs => by
    show (a.pre ++ b.pre).foldl addN (addN fs ⟨op, [], 0⟩) = atoms b (atoms a fs)
    have e : addN fs ⟨op, [], 0⟩ = fs := by
      unfold addN facOf
      rw [if_neg (by have := h.1; show ¬ op = 1; omega), if_neg (by have := h.1; show ¬ op = 2; omega)]
    rw [e, List.foldl_append, atoms_fold a h.2.2.1, atoms_fold b h.2.2.2]
theorem addF_pre (fs : List Fac) (f : Fac) : fs <+: addF fs f := by
  unfold addF; split
  · exact List.prefix_refl _
  · exact List.prefix_append _ _
theorem addN_pre (fs : List Fac) (x : F9.Nd) : fs <+: addN fs x := by
  unfold addN; split
  · exact addF_pre _ _
  · exact List.prefix_refl _
theorem atoms_grow : ∀ (t : Tr) (fs : List Fac), fs <+: atoms t fs
  | .leaf x, fs => addN_pre fs x
  | .hat _ a, fs => atoms_grow a fs
  | .bin _ a b, fs => (atoms_grow a fs).trans (atoms_grow b _)
theorem addF_mem (fs : List Fac) (f : Fac) : f ∈ addF fs f := by
  unfold addF; split
  · assumption
  · simp
theorem idx_pre {fs all : List Fac} {f : Fac} (h : fs <+: all) (hf : f ∈ fs) : all.idxOf f = fs.idxOf f := by
  obtain ⟨r, rfl⟩ := h
  rw [List.idxOf_append, if_pos hf]

/-! Lists of terms. A term is a number whose bits are its factors. -/
def pls (a b : List Nat) : List Nat := b.foldl (fun out t => if t ∈ out then out else out ++ [t]) a
def mns (a b : List Nat) : List Nat := a.filter fun t => !(b.contains t)
def prods (a b : List Nat) : List Nat := a.flatMap fun s => b.map (s ||| ·)
def crs (a b : List Nat) : List Nat := pls [] (prods a b)
def whl (a : List Nat) : Nat := a.foldl (· ||| ·) 0
def str (a b : List Nat) : List Nat := pls (pls a b) (crs a b)
def nst (a b : List Nat) : List Nat := pls a (crs [whl a] b)
def op2 (op : Nat) (a b : List Nat) : List Nat := if op = 5 then pls a b else if op = 6 then mns a b else if op = 7 then crs a b else if op = 8 then str a b else nst a b
def siz (t : Nat) : Nat := ((List.range 64).filter (t.testBit ·)).length
def fts (l : List Nat) : Bool := l.all (fun t => decide (siz t ≤ 6)) && decide (l.length ≤ 32)
theorem pls_app (a b c : List Nat) : pls a (b ++ c) = pls (pls a b) c := by unfold pls; rw [List.foldl_append]
theorem pls_nodup : ∀ (b a : List Nat), a.Nodup → (pls a b).Nodup
  | [], a, h => h
  | t :: b, a, h => by
    show (pls (if t ∈ a then a else a ++ [t]) b).Nodup
    refine pls_nodup b _ ?_
    split
    · exact h
    · rename_i hn
      rw [List.nodup_append]
      exact ⟨h, by simp, fun x hx y hy => by rw [List.mem_singleton.1 hy]; exact fun e => hn (e ▸ hx)⟩
/-- What is new in order is appended. -/
theorem pls_new : ∀ (b a : List Nat), (a ++ b).Nodup → pls a b = a ++ b
  | [], a, _ => by simp [pls]
  | t :: b, a, h => by
    have hn : t ∉ a := fun ht => by
      rw [List.nodup_append] at h
      exact h.2.2 t ht t List.mem_cons_self rfl
    show pls (if t ∈ a then a else a ++ [t]) b = _
    rw [if_neg hn, pls_new b (a ++ [t]) (by simpa using h)]
    simp
theorem pls_nil {a : List Nat} (h : a.Nodup) : pls [] a = a := by have := pls_new a [] (by simpa using h); simpa using this
/-- The program's together of lists. -/
theorem together_two {a : List Nat} (b : List Nat) (h : a.Nodup) : pls [] (a ++ b) = pls a b := by rw [pls_app, pls_nil h]
theorem pls_mem : ∀ (b a : List Nat) (t : Nat), t ∈ pls a b ↔ t ∈ a ∨ t ∈ b
  | [], a, t => by simp [pls]
  | s :: b, a, t => by
    show t ∈ pls (if s ∈ a then a else a ++ [s]) b ↔ _
    rw [pls_mem b]
    split
    · rename_i hs
      constructor
      · rintro (h | h)
        · exact .inl h
        · exact .inr (List.mem_cons_of_mem _ h)
      · rintro (h | h)
        · exact .inl h
        · rcases List.mem_cons.1 h with rfl | h
          · exact .inl hs
          · exact .inr h
    · simp [or_assoc]
theorem mns_nodup {a b : List Nat} (h : a.Nodup) : (mns a b).Nodup := h.filter _
theorem mns_mem {a b : List Nat} {t : Nat} : t ∈ mns a b ↔ t ∈ a ∧ t ∉ b := by simp [mns]
theorem crs_nodup (a b : List Nat) : (crs a b).Nodup := pls_nodup _ _ List.nodup_nil
theorem crs_mem {a b : List Nat} {t : Nat} : t ∈ crs a b ↔ ∃ s ∈ a, ∃ u ∈ b, s ||| u = t := by
  unfold crs prods
  rw [pls_mem]
  simp
theorem op2_nodup {op : Nat} {a b : List Nat} (ha : a.Nodup) : (op2 op a b).Nodup := by
  unfold op2 str nst
  split
  · exact pls_nodup _ _ ha
  · split
    · exact mns_nodup ha
    · split
      · exact crs_nodup _ _
      · split
        · exact pls_nodup _ _ (pls_nodup _ _ ha)
        · exact pls_nodup _ _ ha
theorem siz_zero : siz 0 = 0 := by decide
theorem siz_pow (i : Nat) : siz (2 ^ i) ≤ 1 := by
  unfold siz
  have e : (List.range 64).filter ((2 ^ i).testBit ·) = (List.range 64).filter (fun j => decide (i = j)) := by
    congr 1
    funext j
    rw [Nat.testBit_two_pow]
  rw [e]
  have hnd : ((List.range 64).filter (fun j => decide (i = j))).Nodup := List.nodup_range.filter _
  have hall : ∀ x ∈ (List.range 64).filter (fun j => decide (i = j)), x = i := fun x hx => by simp at hx; exact hx.2.symm
  generalize (List.range 64).filter (fun j => decide (i = j)) = l at hnd hall
  match l, hnd, hall with
  | [], _, _ => simp
  | [_], _, _ => simp
  | x :: y :: r, hnd, hall =>
    have h1 := hall x (by simp)
    have h2 := hall y (by simp)
    rw [h1, h2] at hnd
    simp at hnd
theorem fts_one {t : Nat} (h : siz t ≤ 1) : fts [t] = true := by simp [fts]; omega
theorem fts_sub {a b : List Nat} (h : fts a = true) : fts (mns a b) = true := by
  unfold fts at *
  simp only [Bool.and_eq_true, List.all_eq_true, decide_eq_true_eq] at *
  exact ⟨fun t ht => h.1 t (List.mem_filter.1 ht).1, Nat.le_trans (List.length_filter_le _ _) h.2⟩

/-! The reference. -/
def pow (a : List Nat) : Nat → Option (List Nat)
  | 0 => some a
  | k + 1 => (pow a k).bind fun o => if fts (str o a) then some (str o a) else none
def rl (all : List Fac) : Tr → Option (List Nat)
  | .leaf x => if x.op = 3 then some [0] else if x.op = 4 then some [] else some [2 ^ all.idxOf ((facOf x).getD ([], 0))]
  | .hat k a => (rl all a).bind fun l => pow l (k - 1)
  | .bin op a b => (rl all a).bind fun la => (rl all b).bind fun lb => if fts (op2 op la lb) then some (op2 op la lb) else none
def isZ : Tr → Bool
  | .leaf x => x.op == 4
  | _ => false
/-- A step: an addition (5) or a removal (6) of an operand. -/
def stp (op : Nat) (z : Bool) (before b : List Nat) : Option (List Nat) :=
  if (op == 6) != z then some (mns before (if z then [0] else b)) else if fts (pls before (if z then [0] else b)) then some (pls before (if z then [0] else b)) else none
def rs (all : List Fac) : Tr → Option (List Nat)
  | .bin op a b => if op = 5 ∨ op = 6 then (rs all a).bind fun m => (rl all b).bind fun lb => stp op (isZ b) m lb else (rl all (.bin op a b)).bind fun l => stp 5 false [0] l
  | t => (rl all t).bind fun l => stp 5 (isZ t) [0] l

/-! The program: the factors read so far and whether a limit has been exceeded go along. -/
def jdg (l : List Nat) (e : Bool) : List Nat × Bool := if fts l then (l, e) else ([], true)
def raised (base : List Nat) : Nat → Bool → List Nat × Bool
  | 0, e => (base, e)
  | k + 1, e => jdg (str (raised base k e).1 base) (raised base k e).2
def pe : Tr → List Fac → Bool → List Nat × List Fac × Bool
  | .leaf x, fs, e => if x.op = 3 then ([0], fs, e) else if x.op = 4 then ([], fs, e) else ([2 ^ (addN fs x).idxOf ((facOf x).getD ([], 0))], addN fs x, e)
  | .hat k a, fs, e =>
    let A := pe a fs e
    let l := raised A.1 (k - 1) A.2.2
    let j := jdg l.1 l.2
    (j.1, A.2.1, j.2)
  | .bin op a b, fs, e =>
    let A := pe a fs e
    let B := pe b A.2.1 A.2.2
    let j := jdg (op2 op A.1 B.1) B.2.2
    (j.1, B.2.1, j.2)
theorem jdg_true (l : List Nat) : (jdg l true).2 = true := by unfold jdg; split <;> rfl
theorem raised_true (a : List Nat) : ∀ k, (raised a k true).2 = true
  | 0 => rfl
  | k + 1 => by show (jdg _ _).2 = true; rw [raised_true a k]; exact jdg_true _
theorem pe_true : ∀ (t : Tr) (fs : List Fac), (pe t fs true).2.2 = true
  | .leaf x, fs => by unfold pe; split; rfl; split <;> rfl
  | .hat k a, fs => by
    show (jdg _ (raised _ _ (pe a fs true).2.2).2).2 = true
    rw [pe_true a fs, raised_true]; exact jdg_true _
  | .bin op a b, fs => by
    show (jdg _ (pe b _ (pe a fs true).2.2).2.2).2 = true
    rw [pe_true a fs, pe_true b]; exact jdg_true _
theorem raised_pow {a : List Nat} (ha : a.Nodup) (hf : fts a = true) (e : Bool) : ∀ k, (match pow a k with | some l => raised a k e = (l, e) ∧ l.Nodup ∧ fts l = true | none => (raised a k e).2 = true)
  | 0 => ⟨rfl, ha, hf⟩
  | k + 1 => by
    have ih := raised_pow ha hf e k
    unfold pow
    cases hp : pow a k with
    | none =>
      rw [hp] at ih
      show (jdg _ (raised a k e).2).2 = true
      rw [show (raised a k e).2 = true from ih]; exact jdg_true _
    | some o =>
      rw [hp] at ih
      obtain ⟨h1, h2, h3⟩ := ih
      show match (if fts (str o a) then some (str o a) else none) with | some l => jdg (str (raised a k e).1 a) (raised a k e).2 = (l, e) ∧ l.Nodup ∧ fts l = true | none => (jdg (str (raised a k e).1 a) (raised a k e).2).2 = true
      rw [h1]
      unfold jdg
      split
      · rename_i l hl
        split at hl
        · rename_i hft
          obtain rfl := Option.some.inj hl
          rw [if_pos hft]
          exact ⟨rfl, pls_nodup _ _ (pls_nodup _ _ h2), hft⟩
        · cases hl
      · rename_i hl
        split at hl
        · cases hl
        · rename_i hft
          rw [if_neg hft]
/-- The lists agree, and a limit is met on one side where it is met on the other. -/
theorem pe_rl (all : List Fac) : ∀ (t : Tr), shp t → ∀ (fs : List Fac) (e : Bool), atoms t fs <+: all →
    (pe t fs e).2.1 = atoms t fs ∧ (match rl all t with | some l => (pe t fs e).1 = l ∧ (pe t fs e).2.2 = e ∧ l.Nodup ∧ fts l = true | none => (pe t fs e).2.2 = true)
  | .leaf x, h, fs, e, hp => by
    unfold pe rl
    obtain ⟨h1, h2⟩ := h
    by_cases h3 : x.op = 3
    · have e1 : facOf x = none := by unfold facOf; rw [if_neg (by omega), if_neg (by omega)]
      rw [if_pos h3, if_pos h3]
      exact ⟨by show fs = addN fs x; unfold addN; rw [e1], rfl, rfl, by simp, by decide⟩
    · rw [if_neg h3, if_neg h3]
      by_cases h4 : x.op = 4
      · have e1 : facOf x = none := by unfold facOf; rw [if_neg (by omega), if_neg (by omega)]
        rw [if_pos h4, if_pos h4]
        exact ⟨by show fs = addN fs x; unfold addN; rw [e1], rfl, rfl, by simp, by decide⟩
      · rw [if_neg h4, if_neg h4]
        obtain ⟨f, hf⟩ : ∃ f, facOf x = some f := by
          unfold facOf
          by_cases h5 : x.op = 1
          · exact ⟨_, if_pos h5⟩
          · rw [if_neg h5, if_pos (by omega)]; exact ⟨_, rfl⟩
        have hm : f ∈ addN fs x := by unfold addN; rw [hf]; exact addF_mem fs f
        refine ⟨rfl, ?_, rfl, by simp, fts_one (siz_pow _)⟩
        rw [hf, Option.getD_some, idx_pre (show addN fs x <+: all from hp) hm]
  | .hat k a, h, fs, e, hp => by
    obtain ⟨i1, i2⟩ := pe_rl all a h fs e hp
    refine ⟨i1, ?_⟩
    show match (rl all a).bind (fun l => pow l (k - 1)) with | some l => (jdg (raised (pe a fs e).1 (k - 1) (pe a fs e).2.2).1 (raised (pe a fs e).1 (k - 1) (pe a fs e).2.2).2).1 = l ∧ (jdg (raised (pe a fs e).1 (k - 1) (pe a fs e).2.2).1 (raised (pe a fs e).1 (k - 1) (pe a fs e).2.2).2).2 = e ∧ l.Nodup ∧ fts l = true | none => (jdg (raised (pe a fs e).1 (k - 1) (pe a fs e).2.2).1 (raised (pe a fs e).1 (k - 1) (pe a fs e).2.2).2).2 = true
    cases hr : rl all a with
    | none =>
      rw [hr] at i2
      show (jdg _ (raised _ _ (pe a fs e).2.2).2).2 = true
      rw [show (pe a fs e).2.2 = true from i2, raised_true]; exact jdg_true _
    | some l =>
      rw [hr] at i2
      obtain ⟨j1, j2, j3, j4⟩ := i2
      rw [j1, j2]
      have := raised_pow j3 j4 e (k - 1)
      show match pow l (k - 1) with | some l' => _ | none => _
      cases hq : pow l (k - 1) with
      | none =>
        rw [hq] at this
        show (jdg _ (raised l (k - 1) e).2).2 = true
        rw [show (raised l (k - 1) e).2 = true from this]; exact jdg_true _
      | some o =>
        rw [hq] at this
        obtain ⟨q1, q2, q3⟩ := this
        rw [q1]
        unfold jdg
        rw [if_pos q3]
        exact ⟨rfl, rfl, q2, q3⟩
  | .bin op a b, h, fs, e, hp => by
    obtain ⟨_, _, ha, hb⟩ := h
    have hpa : atoms a fs <+: all := (atoms_grow b (atoms a fs)).trans hp
    obtain ⟨i1, i2⟩ := pe_rl all a ha fs e hpa
    have ib := fun e => pe_rl all b hb (atoms a fs) e hp
    refine ⟨by show (pe b (pe a fs e).2.1 _).2.1 = atoms b (atoms a fs); rw [i1]; exact (ib _).1, ?_⟩
    show match (rl all a).bind (fun la => (rl all b).bind fun lb => if fts (op2 op la lb) then some (op2 op la lb) else none) with | some l => (jdg (op2 op (pe a fs e).1 (pe b (pe a fs e).2.1 (pe a fs e).2.2).1) (pe b (pe a fs e).2.1 (pe a fs e).2.2).2.2).1 = l ∧ (jdg (op2 op (pe a fs e).1 (pe b (pe a fs e).2.1 (pe a fs e).2.2).1) (pe b (pe a fs e).2.1 (pe a fs e).2.2).2.2).2 = e ∧ l.Nodup ∧ fts l = true | none => (jdg (op2 op (pe a fs e).1 (pe b (pe a fs e).2.1 (pe a fs e).2.2).1) (pe b (pe a fs e).2.1 (pe a fs e).2.2).2.2).2 = true
    rw [i1]
    cases hr : rl all a with
    | none =>
      rw [hr] at i2
      show (jdg _ (pe b _ (pe a fs e).2.2).2.2).2 = true
      rw [show (pe a fs e).2.2 = true from i2, pe_true]; exact jdg_true _
    | some la =>
      rw [hr] at i2
      obtain ⟨j1, j2, j3, j4⟩ := i2
      rw [j1, j2]
      have hB := (ib e).2
      show match (rl all b).bind (fun lb => if fts (op2 op la lb) then some (op2 op la lb) else none) with | some l => _ | none => _
      cases hq : rl all b with
      | none =>
        rw [hq] at hB
        show (jdg _ (pe b (atoms a fs) e).2.2).2 = true
        rw [show (pe b (atoms a fs) e).2.2 = true from hB]; exact jdg_true _
      | some lb =>
        rw [hq] at hB
        obtain ⟨q1, q2, q3, q4⟩ := hB
        rw [q1, q2]
        show match (if fts (op2 op la lb) then some (op2 op la lb) else none) with | some l => _ | none => _
        unfold jdg
        by_cases hf : fts (op2 op la lb) = true
        · rw [if_pos hf, if_pos hf]
          exact ⟨rfl, rfl, op2_nodup j3, hf⟩
        · rw [if_neg hf]
          show (if fts (op2 op la lb) = true then (op2 op la lb, e) else ([], true)).2 = true
          rw [if_neg hf]
/-! The right side: its steps. -/
def mdl (op : Nat) (z : Bool) (m o : List Nat) : List Nat := if z then (if op = 5 then mns m [0] else pls m [0]) else op2 op m o
def pst (op : Nat) (t : Tr) (lb mb : List Nat) (fs : List Fac) (e : Bool) : List Nat × List Nat × List Fac × Bool :=
  let A := pe t fs e
  let jm := jdg (mdl op (isZ t) mb A.1) A.2.2
  let jl := jdg (op2 op lb A.1) jm.2
  (jl.1, jm.1, A.2.1, jl.2)
def pr : Tr → List Fac → Bool → List Nat × List Nat × List Fac × Bool
  | .bin op a b, fs, e => if op = 5 ∨ op = 6 then
      let A := pr a fs e
      pst op b A.1 A.2.1 A.2.2.1 A.2.2.2
    else pst 5 (.bin op a b) [] [0] fs e
  | .leaf x, fs, e => pst 5 (.leaf x) [] [0] fs e
  | .hat k a, fs, e => pst 5 (.hat k a) [] [0] fs e
theorem pst_true (op : Nat) (t : Tr) (lb mb : List Nat) (fs : List Fac) : (pst op t lb mb fs true).2.2.2 = true := by
  show (jdg _ (jdg _ (pe t fs true).2.2).2).2 = true
  rw [pe_true, jdg_true, jdg_true]
theorem stp_eq {op : Nat} {z : Bool} {m o : List Nat} (hop : op = 5 ∨ op = 6) (hm : fts m = true) : stp op z m o = if fts (mdl op z m o) then some (mdl op z m o) else none := by
  unfold stp mdl op2
  rcases hop with rfl | rfl <;> cases z <;> simp [fts_sub hm]
theorem mdl_nodup {op : Nat} {z : Bool} {m o : List Nat} (hm : m.Nodup) : (mdl op z m o).Nodup := by
  unfold mdl
  split
  · split
    · exact mns_nodup hm
    · exact pls_nodup _ _ hm
  · exact op2_nodup hm
/-- What two lists that a step makes are on the reference's side. -/
def Ag (P : List Nat × List Nat × List Fac × Bool) (e : Bool) : Option (List Nat) → Option (List Nat) → Prop
  | some l, some m => P.1 = l ∧ P.2.1 = m ∧ P.2.2.2 = e ∧ l.Nodup ∧ m.Nodup ∧ fts l = true ∧ fts m = true
  | _, _ => P.2.2.2 = true
theorem Ag.none_l {P : List Nat × List Nat × List Fac × Bool} {e : Bool} {m : Option (List Nat)} (h : P.2.2.2 = true) : Ag P e none m := by cases m <;> exact h
theorem Ag.none_r {P : List Nat × List Nat × List Fac × Bool} {e : Bool} {l : Option (List Nat)} (h : P.2.2.2 = true) : Ag P e l none := by cases l <;> exact h
theorem pst_ag (all : List Fac) {op : Nat} (hop : op = 5 ∨ op = 6) {t : Tr} (h : shp t) {fs : List Fac} (e : Bool) (hp : atoms t fs <+: all) {lb mb : List Nat} (hl : lb.Nodup) (hm : mb.Nodup) (hfm : fts mb = true) :
    (pst op t lb mb fs e).2.2.1 = atoms t fs ∧ Ag (pst op t lb mb fs e) e ((rl all t).bind fun o => if fts (op2 op lb o) then some (op2 op lb o) else none) ((rl all t).bind fun o => stp op (isZ t) mb o) := by
  obtain ⟨i1, i2⟩ := pe_rl all t h fs e hp
  refine ⟨i1, ?_⟩
  cases hr : rl all t with
  | none =>
    rw [hr] at i2
    refine Ag.none_l ?_
    show (jdg _ (jdg _ (pe t fs e).2.2).2).2 = true
    rw [show (pe t fs e).2.2 = true from i2, jdg_true, jdg_true]
  | some o =>
    rw [hr] at i2
    obtain ⟨j1, j2, j3, j4⟩ := i2
    have e1 : pst op t lb mb fs e = ((jdg (op2 op lb o) (jdg (mdl op (isZ t) mb o) e).2).1, (jdg (mdl op (isZ t) mb o) e).1, (pe t fs e).2.1, (jdg (op2 op lb o) (jdg (mdl op (isZ t) mb o) e).2).2) := by
      unfold pst
      simp only [j1, j2]
    rw [e1]
    show Ag _ e (if fts (op2 op lb o) then some (op2 op lb o) else none) (stp op (isZ t) mb o)
    rw [stp_eq hop hfm]
    by_cases h1 : fts (op2 op lb o) = true
    · rw [if_pos h1]
      by_cases h2 : fts (mdl op (isZ t) mb o) = true
      · rw [if_pos h2]
        unfold jdg
        rw [if_pos h2, if_pos h1]
        exact ⟨rfl, rfl, rfl, op2_nodup hl, mdl_nodup hm, h1, h2⟩
      · rw [if_neg h2]
        refine Ag.none_r ?_
        unfold jdg
        rw [if_neg h2, if_pos h1]
    · rw [if_neg h1]
      refine Ag.none_l ?_
      unfold jdg
      rw [if_neg h1]
theorem fts_zero : fts [0] = true := by decide
theorem base_rl {all : List Fac} {t : Tr} (h : shp t) {fs : List Fac} (hp : atoms t fs <+: all) : ((rl all t).bind fun o => if fts (op2 5 [] o) then some (op2 5 [] o) else none) = rl all t := by
  have := (pe_rl all t h fs false hp).2
  cases hr : rl all t with
  | none => rfl
  | some l =>
    rw [hr] at this
    obtain ⟨_, _, h1, h2⟩ := this
    have e : op2 5 [] l = l := pls_nil h1
    show (if fts (op2 5 [] l) then some (op2 5 [] l) else none) = some l
    rw [e, if_pos h2]
theorem base_rs {all : List Fac} {t : Tr} (h : ∀ op a b, t = .bin op a b → ¬ (op = 5 ∨ op = 6)) : rs all t = (rl all t).bind fun o => stp 5 (isZ t) [0] o := by
  cases t with
  | leaf x => rfl
  | hat k a => rfl
  | bin op a b => unfold rs; rw [if_neg (h op a b rfl)]; rfl
theorem base_pr {t : Tr} (h : ∀ op a b, t = .bin op a b → ¬ (op = 5 ∨ op = 6)) (fs : List Fac) (e : Bool) : pr t fs e = pst 5 t [] [0] fs e := by
  cases t with
  | leaf x => rfl
  | hat k a => rfl
  | bin op a b => unfold pr; rw [if_neg (h op a b rfl)]
theorem pr_base (all : List Fac) {t : Tr} (hb : ∀ op a b, t = .bin op a b → ¬ (op = 5 ∨ op = 6)) (h : shp t) (fs : List Fac) (e : Bool) (hp : atoms t fs <+: all) : (pr t fs e).2.2.1 = atoms t fs ∧ Ag (pr t fs e) e (rl all t) (rs all t) := by
  have := pst_ag all (op := 5) (.inl rfl) h e hp (lb := []) (mb := [0]) List.nodup_nil (by simp) fts_zero
  rw [base_rl h hp, ← base_rs hb, ← base_pr hb] at this
  exact this
/-- Both sides agree: list, model, factors, limits. -/
theorem pr_rs (all : List Fac) : ∀ (t : Tr), shp t → ∀ (fs : List Fac) (e : Bool), atoms t fs <+: all → (pr t fs e).2.2.1 = atoms t fs ∧ Ag (pr t fs e) e (rl all t) (rs all t)
  | .leaf x, h, fs, e, hp => pr_base all (fun _ _ _ h => by cases h) h fs e hp
  | .hat k a, h, fs, e, hp => pr_base all (fun _ _ _ h => by cases h) h fs e hp
  | .bin op a b, h, fs, e, hp => by
    by_cases hop : op = 5 ∨ op = 6
    · have hpa : atoms a fs <+: all := (atoms_grow b (atoms a fs)).trans hp
      obtain ⟨i1, i2⟩ := pr_rs all a h.2.2.1 fs e hpa
      have e1 : pr (.bin op a b) fs e = pst op b (pr a fs e).1 (pr a fs e).2.1 (pr a fs e).2.2.1 (pr a fs e).2.2.2 := by
        show (if op = 5 ∨ op = 6 then _ else _) = _
        rw [if_pos hop]
      have e2 : rs all (.bin op a b) = (rs all a).bind fun m => (rl all b).bind fun lb => stp op (isZ b) m lb := by
        show (if op = 5 ∨ op = 6 then _ else _) = _
        rw [if_pos hop]
      have e3 : rl all (.bin op a b) = (rl all a).bind fun la => (rl all b).bind fun lb => if fts (op2 op la lb) then some (op2 op la lb) else none := rfl
      rw [e1, e2, e3, i1]
      cases hl : rl all a with
      | none =>
        rw [hl] at i2
        have hf : (pr a fs e).2.2.2 = true := by cases h9 : rs all a <;> rw [h9] at i2 <;> exact i2
        rw [hf]
        exact ⟨(pe_rl all b h.2.2.2 (atoms a fs) true hp).1, Ag.none_l (pst_true _ _ _ _ _)⟩
      | some la =>
        cases hm : rs all a with
        | none =>
          rw [hl, hm] at i2
          have hf : (pr a fs e).2.2.2 = true := i2
          rw [hf]
          exact ⟨(pe_rl all b h.2.2.2 (atoms a fs) true hp).1, Ag.none_r (pst_true _ _ _ _ _)⟩
        | some m =>
          rw [hl, hm] at i2
          obtain ⟨q1, q2, q3, q4, q5, q6, q7⟩ := i2
          rw [q1, q2, q3]
          exact pst_ag all hop h.2.2.2 e hp q4 q5 q7
    · exact pr_base all (fun op' a' b' he => by cases he; exact hop) h fs e hp
/-- The reference's verdict and model; the program's. -/
def rex (t : Tr) : Option (List Nat) := match rl (atoms t []) t, rs (atoms t []) t with
  | some _, some m => some m
  | _, _ => none
theorem expand_same (t : Tr) (h : shp t) : (pr t [] false).2.2.1 = atoms t [] ∧ (match rex t with | some m => (pr t [] false).2.2.2 = false ∧ (pr t [] false).2.1 = m ∧ m.Nodup ∧ fts m = true | none => (pr t [] false).2.2.2 = true) := by
  obtain ⟨h1, h2⟩ := pr_rs (atoms t []) t h [] false (List.prefix_refl _)
  refine ⟨h1, ?_⟩
  unfold rex
  cases hl : rl (atoms t []) t with
  | none => rw [hl] at h2; cases hm : rs (atoms t []) t <;> rw [hm] at h2 <;> exact h2
  | some l =>
    cases hm : rs (atoms t []) t with
    | none => rw [hl, hm] at h2; exact h2
    | some m =>
      rw [hl, hm] at h2
      obtain ⟨q1, q2, q3, q4, q5, q6, q7⟩ := h2
      exact ⟨q3, q2, q5, q7⟩
end F10

namespace F10
open F9
/-! The same tree under two lists of factors: terms that have the same factors. -/
def sem (A : List Fac) (t : Nat) (f : Fac) : Prop := ∃ i, A[i]? = some f ∧ t.testBit i = true
structure Rt (A B : List Fac) (s t : Nat) : Prop where
  bs : ∀ i, s.testBit i = true → i < A.length
  bt : ∀ i, t.testBit i = true → i < B.length
  eq : ∀ f, sem A s f ↔ sem B t f
theorem Rt.symm {A B : List Fac} {s t : Nat} (h : Rt A B s t) : Rt B A t s := ⟨h.bt, h.bs, fun f => (h.eq f).symm⟩
theorem sem_inj {B : List Fac} (hB : B.Nodup) {t t' : Nat} (b : ∀ i, t.testBit i = true → i < B.length) (b' : ∀ i, t'.testBit i = true → i < B.length) (h : ∀ f, sem B t f ↔ sem B t' f) : t = t' := by
  refine Nat.eq_of_testBit_eq fun i => ?_
  have key : ∀ {u u' : Nat}, (∀ i, u.testBit i = true → i < B.length) → (∀ f, sem B u f → sem B u' f) → u.testBit i = true → u'.testBit i = true := by
    intro u u' hb hs hu
    have hl := hb i hu
    obtain ⟨j, hj, hu'⟩ := hs B[i] ⟨i, List.getElem?_eq_getElem hl, hu⟩
    have : i = j := (List.getElem?_inj hl hB).1 (by rw [hj, List.getElem?_eq_getElem hl])
    rw [this]; exact hu'
  cases h1 : t.testBit i <;> cases h2 : t'.testBit i
  · rfl
  · have := key b' (fun f => (h f).2) h2; rw [h1] at this; cases this
  · have := key b (fun f => (h f).1) h1; rw [h2] at this; cases this
  · rfl
theorem Rt.inj {A B : List Fac} (hA : A.Nodup) (hB : B.Nodup) {s t s' t' : Nat} (h : Rt A B s t) (h' : Rt A B s' t') : s = s' ↔ t = t' := by
  constructor
  · rintro rfl
    exact sem_inj hB h.bt h'.bt fun f => (h.eq f).symm.trans (h'.eq f)
  · rintro rfl
    exact sem_inj hA h.bs h'.bs fun f => (h.eq f).trans (h'.eq f).symm
theorem sem_or {A : List Fac} {s t : Nat} {f : Fac} : sem A (s ||| t) f ↔ sem A s f ∨ sem A t f := by
  unfold sem
  constructor
  · rintro ⟨i, h1, h2⟩
    rw [Nat.testBit_or, Bool.or_eq_true] at h2
    rcases h2 with h2 | h2
    · exact .inl ⟨i, h1, h2⟩
    · exact .inr ⟨i, h1, h2⟩
  · rintro (⟨i, h1, h2⟩ | ⟨i, h1, h2⟩)
    · exact ⟨i, h1, by rw [Nat.testBit_or, h2]; rfl⟩
    · exact ⟨i, h1, by rw [Nat.testBit_or, h2, Bool.or_true]⟩
theorem Rt.or {A B : List Fac} {s t s' t' : Nat} (h : Rt A B s t) (h' : Rt A B s' t') : Rt A B (s ||| s') (t ||| t') := by
  refine ⟨fun i hi => ?_, fun i hi => ?_, fun f => by rw [sem_or, sem_or, h.eq f, h'.eq f]⟩
  · rw [Nat.testBit_or, Bool.or_eq_true] at hi
    exact hi.elim (h.bs i) (h'.bs i)
  · rw [Nat.testBit_or, Bool.or_eq_true] at hi
    exact hi.elim (h.bt i) (h'.bt i)
theorem Rt.zero (A B : List Fac) : Rt A B 0 0 := ⟨fun i h => by simp at h, fun i h => by simp at h, fun f => by unfold sem; simp⟩
theorem sem_pow {A : List Fac} {f : Fac} (hf : f ∈ A) (g : Fac) : sem A (2 ^ A.idxOf f) g ↔ g = f := by
  have hl : A.idxOf f < A.length := List.idxOf_lt_length_iff.2 hf
  have hg : A[A.idxOf f]? = some f := by rw [List.getElem?_eq_getElem hl, List.getElem_idxOf]
  unfold sem
  constructor
  · rintro ⟨i, h1, h2⟩
    rw [Nat.testBit_two_pow, decide_eq_true_eq] at h2
    rw [← h2, hg] at h1
    exact (Option.some.inj h1).symm
  · rintro rfl
    exact ⟨_, hg, by rw [Nat.testBit_two_pow]; simp⟩
theorem Rt.pow {A B : List Fac} {f : Fac} (hA : f ∈ A) (hB : f ∈ B) : Rt A B (2 ^ A.idxOf f) (2 ^ B.idxOf f) := by
  refine ⟨fun i h => ?_, fun i h => ?_, fun g => by rw [sem_pow hA, sem_pow hB]⟩
  · rw [Nat.testBit_two_pow, decide_eq_true_eq] at h
    rw [← h]; exact List.idxOf_lt_length_iff.2 hA
  · rw [Nat.testBit_two_pow, decide_eq_true_eq] at h
    rw [← h]; exact List.idxOf_lt_length_iff.2 hB
/-- The factors of a term, in order. -/
def fac (A : List Fac) (t : Nat) : List Fac := ((List.range 64).filter (t.testBit ·)).filterMap (A[·]?)
theorem fac_mem {A : List Fac} {t : Nat} {f : Fac} (hA : A.length ≤ 64) : f ∈ fac A t ↔ sem A t f := by
  unfold fac sem
  rw [List.mem_filterMap]
  constructor
  · rintro ⟨i, hi, h⟩
    exact ⟨i, h, (List.mem_filter.1 hi).2⟩
  · rintro ⟨i, h, ht⟩
    have : i < A.length := (List.getElem?_eq_some_iff.1 h).1
    exact ⟨i, List.mem_filter.2 ⟨List.mem_range.2 (by omega), ht⟩, h⟩
theorem fac_nodup {A : List Fac} (hA : A.Nodup) (t : Nat) : (fac A t).Nodup := by
  unfold fac
  have h : ((List.range 64).filter (t.testBit ·)).Nodup := List.nodup_range.filter _
  refine List.Pairwise.filterMap _ (fun i j hij b hb c hc e => hij ?_) h
  subst e
  exact (List.getElem?_inj (List.getElem?_eq_some_iff.1 hb).1 hA).1 (hb.trans hc.symm)
theorem fac_len {A : List Fac} {t : Nat} (hb : ∀ i, t.testBit i = true → i < A.length) : (fac A t).length = siz t := by
  unfold fac siz
  have : ∀ l : List Nat, (∀ i ∈ l, i < A.length) → (l.filterMap (A[·]?)).length = l.length := by
    intro l
    induction l with
    | nil => intro _; rfl
    | cons i l ih =>
      intro h
      rw [List.filterMap_cons, List.getElem?_eq_getElem (h i List.mem_cons_self)]
      show (_ :: _).length = _
      rw [List.length_cons, List.length_cons, ih fun j hj => h j (List.mem_cons_of_mem _ hj)]
  exact this _ fun i hi => hb i (List.mem_filter.1 hi).2
theorem Rt.siz {A B : List Fac} (hA : A.Nodup) (hB : B.Nodup) (lA : A.length ≤ 64) (lB : B.length ≤ 64) {s t : Nat} (h : Rt A B s t) : siz s = siz t := by
  rw [← fac_len h.bs, ← fac_len h.bt]
  exact ((List.perm_ext_iff_of_nodup (fac_nodup hA s) (fac_nodup hB t)).2 fun f => by rw [fac_mem lA, fac_mem lB]; exact h.eq f).length_eq
/-- Lists that are related place by place. -/
inductive LL (R : Nat → Nat → Prop) : List Nat → List Nat → Prop
  | nil : LL R [] []
  | cons {s t : Nat} {a b : List Nat} : R s t → LL R a b → LL R (s :: a) (t :: b)
section
variable {R : Nat → Nat → Prop}
theorem LL.len {a b : List Nat} (h : LL R a b) : a.length = b.length := by
  induction h with
  | nil => rfl
  | cons _ _ ih => rw [List.length_cons, List.length_cons, ih]
theorem LL.app {a b c d : List Nat} (h : LL R a b) (h' : LL R c d) : LL R (a ++ c) (b ++ d) := by
  induction h with
  | nil => exact h'
  | cons hr _ ih => exact .cons hr ih
theorem LL.mem {a b : List Nat} (hi : ∀ {s t s' t'}, R s t → R s' t' → (s = s' ↔ t = t')) (h : LL R a b) {s t : Nat} (hr : R s t) : s ∈ a ↔ t ∈ b := by
  induction h with
  | nil => simp
  | cons hr' _ ih => rw [List.mem_cons, List.mem_cons, ih, hi hr hr']
theorem LL.all {p q : Nat → Bool} (hp : ∀ {s t}, R s t → p s = q t) {a b : List Nat} (h : LL R a b) : a.all p = b.all q := by
  induction h with
  | nil => rfl
  | cons hr _ ih => rw [List.all_cons, List.all_cons, ih, hp hr]
theorem LL.pls (hi : ∀ {s t s' t'}, R s t → R s' t' → (s = s' ↔ t = t')) {c d : List Nat} (h' : LL R c d) : ∀ {a b : List Nat}, LL R a b → LL R (pls a c) (pls b d) := by
  induction h' with
  | nil => exact fun h => h
  | cons hr _ ih =>
    rename_i s t c d _
    intro a b h
    show LL R (F10.pls (if s ∈ a then a else a ++ [s]) c) (F10.pls (if t ∈ b then b else b ++ [t]) d)
    refine ih ?_
    by_cases hm : s ∈ a
    · rw [if_pos hm, if_pos ((h.mem hi hr).1 hm)]; exact h
    · rw [if_neg hm, if_neg fun e => hm ((h.mem hi hr).2 e)]; exact h.app (.cons hr .nil)
theorem LL.mns (hi : ∀ {s t s' t'}, R s t → R s' t' → (s = s' ↔ t = t')) {c d : List Nat} (h' : LL R c d) {a b : List Nat} (h : LL R a b) : LL R (mns a c) (mns b d) := by
  induction h with
  | nil => exact .nil
  | cons hr _ ih =>
    rename_i s t a b _
    have e : c.contains s = d.contains t := by
      have := h'.mem hi hr
      rw [Bool.eq_iff_iff, List.contains_iff_mem, List.contains_iff_mem]; exact this
    unfold F10.mns at *
    rw [List.filter_cons, List.filter_cons, e]
    split
    · exact .cons hr ih
    · exact ih
theorem LL.map_or {c d : List Nat} (h' : LL R c d) (ho : ∀ {s t s' t'}, R s t → R s' t' → R (s ||| s') (t ||| t')) {s t : Nat} (hr : R s t) : LL R (c.map (s ||| ·)) (d.map (t ||| ·)) := by
  induction h' with
  | nil => exact .nil
  | cons hr' _ ih' => exact .cons (ho hr hr') ih'
theorem LL.prods (ho : ∀ {s t s' t'}, R s t → R s' t' → R (s ||| s') (t ||| t')) {c d : List Nat} (h' : LL R c d) {a b : List Nat} (h : LL R a b) : LL R (prods a c) (prods b d) := by
  induction h with
  | nil => exact .nil
  | cons hr _ ih =>
    rename_i s t a b _
    exact (h'.map_or ho hr).app ih
end
end F10

namespace F10
open F9
section
variable {R : Nat → Nat → Prop}
theorem LL.foldl_or (ho : ∀ {s t s' t'}, R s t → R s' t' → R (s ||| s') (t ||| t')) {a b : List Nat} (h : LL R a b) : ∀ {s t : Nat}, R s t → R (a.foldl (· ||| ·) s) (b.foldl (· ||| ·) t) := by
  induction h with
  | nil => exact fun h => h
  | cons hr _ ih => exact fun h => ih (ho h hr)
/-- What is asked of a relation of terms. -/
structure RR (R : Nat → Nat → Prop) : Prop where
  inj : ∀ {s t s' t'}, R s t → R s' t' → (s = s' ↔ t = t')
  or : ∀ {s t s' t'}, R s t → R s' t' → R (s ||| s') (t ||| t')
  zero : R 0 0
  siz : ∀ {s t}, R s t → siz s = siz t
theorem LL.crs (H : RR R) {a b c d : List Nat} (h : LL R a b) (h' : LL R c d) : LL R (crs a c) (crs b d) := LL.pls H.inj (h'.prods H.or h) .nil
theorem LL.op2 (H : RR R) (op : Nat) {a b c d : List Nat} (h : LL R a b) (h' : LL R c d) : LL R (op2 op a c) (op2 op b d) := by
  unfold F10.op2 str nst
  split
  · exact LL.pls H.inj h' h
  · split
    · exact h'.mns H.inj h
    · split
      · exact h.crs H h'
      · split
        · exact LL.pls H.inj (h.crs H h') (LL.pls H.inj h' h)
        · exact LL.pls H.inj ((LL.cons (h.foldl_or H.or H.zero) .nil).crs H h') h
theorem LL.fts (H : RR R) {a b : List Nat} (h : LL R a b) : fts a = fts b := by
  unfold F10.fts
  rw [h.len, h.all (p := fun t => decide (F10.siz t ≤ 6)) (q := fun t => decide (F10.siz t ≤ 6)) (fun hr => by rw [H.siz hr])]
def OR (R : Nat → Nat → Prop) : Option (List Nat) → Option (List Nat) → Prop
  | none, none => True
  | some a, some b => LL R a b
  | _, _ => False
theorem OR.ite {c d : Bool} {a b : List Nat} (hc : c = d) (h : LL R a b) : OR R (if c then some a else none) (if d then some b else none) := by
  subst hc
  cases c
  · exact trivial
  · exact h
theorem OR.bind {x y : Option (List Nat)} {f g : List Nat → Option (List Nat)} (h : OR R x y) (hf : ∀ a b, LL R a b → OR R (f a) (g b)) : OR R (x.bind f) (y.bind g) := by
  cases x <;> cases y <;> first | exact trivial | exact h.elim | exact hf _ _ h
theorem pow_rel (H : RR R) {a b : List Nat} (h : LL R a b) : ∀ k, OR R (pow a k) (pow b k)
  | 0 => h
  | k + 1 => (pow_rel H h k).bind fun o o' ho => by
    have hs : LL R (str o a) (str o' b) := ho.op2 H 8 h
    exact OR.ite (hs.fts H) hs
theorem stp_rel (H : RR R) (op : Nat) (z : Bool) {m m' o o' : List Nat} (hm : LL R m m') (h : LL R o o') : OR R (stp op z m o) (stp op z m' o') := by
  have hb : LL R (if z then [0] else o) (if z then [0] else o') := by
    cases z
    · exact h
    · exact .cons H.zero .nil
  unfold stp
  split
  · exact hb.mns H.inj hm
  · exact OR.ite ((LL.pls H.inj hb hm).fts H) (LL.pls H.inj hb hm)
end
theorem addF_nodup {fs : List Fac} {f : Fac} (h : fs.Nodup) : (addF fs f).Nodup := by
  unfold addF
  split
  · exact h
  · rename_i hn
    rw [List.nodup_append]
    exact ⟨h, by simp, fun x hx y hy => by rw [List.mem_singleton.1 hy]; exact fun e => hn (e ▸ hx)⟩
theorem atoms_nodup : ∀ (t : Tr) {fs : List Fac}, fs.Nodup → (atoms t fs).Nodup
  | .leaf x, fs, h => by
    show (addN fs x).Nodup
    unfold addN; split
    · exact addF_nodup h
    · exact h
  | .hat _ a, fs, h => atoms_nodup a h
  | .bin _ a b, fs, h => atoms_nodup b (atoms_nodup a h)
theorem addF_mem_iff {fs : List Fac} {f g : Fac} : g ∈ addF fs f ↔ g ∈ fs ∨ g = f := by
  unfold addF
  split
  · rename_i h
    exact ⟨.inl, fun h' => h'.elim id fun e => e ▸ h⟩
  · simp
/-- The factors that are named in a tree. -/
def nam : Tr → Fac → Prop
  | .leaf x, f => facOf x = some f
  | .hat _ a, f => nam a f
  | .bin _ a b, f => nam a f ∨ nam b f
theorem atoms_mem : ∀ (t : Tr) (fs : List Fac) (f : Fac), f ∈ atoms t fs ↔ f ∈ fs ∨ nam t f
  | .leaf x, fs, f => by
    show f ∈ addN fs x ↔ f ∈ fs ∨ facOf x = some f
    unfold addN
    cases h : facOf x with
    | none => simp
    | some g =>
      show f ∈ addF fs g ↔ _
      rw [addF_mem_iff]
      constructor
      · rintro (h | rfl)
        · exact .inl h
        · exact .inr rfl
      · rintro (h | h)
        · exact .inl h
        · exact .inr (Option.some.inj h).symm
  | .hat _ a, fs, f => atoms_mem a fs f
  | .bin _ a b, fs, f => by
    show f ∈ atoms b (atoms a fs) ↔ f ∈ fs ∨ nam a f ∨ nam b f
    rw [atoms_mem b, atoms_mem a, or_assoc]
theorem addN_len (fs : List Fac) (x : F9.Nd) : (addN fs x).length ≤ fs.length + 1 := by
  unfold addN
  split
  · unfold addF; split <;> simp
  · omega
theorem atoms_len : ∀ (t : Tr) (fs : List Fac), (atoms t fs).length ≤ fs.length + t.pre.length
  | .leaf x, fs => addN_len fs x
  | .hat k a, fs => by
    have := atoms_len a fs
    show (atoms a fs).length ≤ fs.length + (_ :: a.pre).length
    rw [List.length_cons]; omega
  | .bin op a b, fs => by
    have h1 := atoms_len a fs
    have h2 := atoms_len b (atoms a fs)
    show (atoms b (atoms a fs)).length ≤ fs.length + (_ :: (a.pre ++ b.pre)).length
    rw [List.length_cons, List.length_append]; omega
theorem rt_rr {A B : List Fac} (hA : A.Nodup) (hB : B.Nodup) (lA : A.length ≤ 64) (lB : B.length ≤ 64) : RR (Rt A B) :=
  ⟨fun h h' => h.inj hA hB h', fun h h' => h.or h', Rt.zero A B, fun h => h.siz hA hB lA lB⟩
/-- A tree's list under two lists of factors that hold all that it names. -/
theorem rl_rel {A B : List Fac} (H : RR (Rt A B)) : ∀ (t : Tr), shp t → (∀ f, nam t f → f ∈ A ∧ f ∈ B) → OR (Rt A B) (rl A t) (rl B t)
  | .leaf x, h, hn => by
    unfold rl
    by_cases h3 : x.op = 3
    · rw [if_pos h3, if_pos h3]; exact .cons H.zero .nil
    · rw [if_neg h3, if_neg h3]
      by_cases h4 : x.op = 4
      · rw [if_pos h4, if_pos h4]; exact .nil
      · rw [if_neg h4, if_neg h4]
        obtain ⟨f, hf⟩ : ∃ f, facOf x = some f := by
          unfold facOf
          by_cases h5 : x.op = 1
          · exact ⟨_, if_pos h5⟩
          · rw [if_neg h5, if_pos (by have := h.1; have := h.2; omega)]; exact ⟨_, rfl⟩
        rw [hf, Option.getD_some]
        exact .cons (Rt.pow (hn f hf).1 (hn f hf).2) .nil
  | .hat k a, h, hn => (rl_rel H a h hn).bind fun l l' hl => pow_rel H hl (k - 1)
  | .bin op a b, h, hn => (rl_rel H a h.2.2.1 fun f hf => hn f (.inl hf)).bind fun la la' hla => (rl_rel H b h.2.2.2 fun f hf => hn f (.inr hf)).bind fun lb lb' hlb => OR.ite ((hla.op2 H op hlb).fts H) (hla.op2 H op hlb)
theorem rs_rel {A B : List Fac} (H : RR (Rt A B)) : ∀ (t : Tr), shp t → (∀ f, nam t f → f ∈ A ∧ f ∈ B) → OR (Rt A B) (rs A t) (rs B t)
  | .leaf x, h, hn => (rl_rel H (.leaf x) h hn).bind fun l l' hl => stp_rel H 5 _ (.cons H.zero .nil) hl
  | .hat k a, h, hn => (rl_rel H (.hat k a) h hn).bind fun l l' hl => stp_rel H 5 _ (.cons H.zero .nil) hl
  | .bin op a b, h, hn => by
    unfold rs
    split
    · exact (rs_rel H a h.2.2.1 fun f hf => hn f (.inl hf)).bind fun m m' hm => (rl_rel H b h.2.2.2 fun f hf => hn f (.inr hf)).bind fun lb lb' hlb => stp_rel H op _ hm hlb
    · exact (rl_rel H (.bin op a b) h hn).bind fun l l' hl => stp_rel H 5 _ (.cons H.zero .nil) hl
/-- Two terms without repetitions have the same factors. -/
def SameF (x y : List Fac) : Prop := x.length = y.length ∧ ∀ f ∈ x, f ∈ y
theorem same_fac {A B : List Fac} (hA : A.Nodup) (hB : B.Nodup) (lA : A.length ≤ 64) (lB : B.length ≤ 64) {s t : Nat} (bs : ∀ i, s.testBit i = true → i < A.length) (bt : ∀ i, t.testBit i = true → i < B.length) : SameF (fac A s) (fac B t) ↔ Rt A B s t := by
  constructor
  · rintro ⟨h1, h2⟩
    have hb : ∀ g ∈ fac B t, g ∈ fac A s := fun g hg => by
      by_cases hn : g ∈ fac A s
      · exact hn
      · have : (g :: fac A s).length ≤ (fac B t).length := List.Nodup.length_le_of_subset (List.nodup_cons.2 ⟨hn, fac_nodup hA s⟩) (fun x hx => by
          rcases List.mem_cons.1 hx with rfl | hx
          · exact hg
          · exact h2 x hx)
        rw [List.length_cons] at this
        omega
    exact ⟨bs, bt, fun f => by rw [← fac_mem lA, ← fac_mem lB]; exact ⟨h2 f, hb f⟩⟩
  · intro h
    refine ⟨by rw [fac_len bs, fac_len bt]; exact h.siz hA hB lA lB, fun f hf => ?_⟩
    rw [fac_mem lB, ← h.eq, ← fac_mem lA]; exact hf
end F10

namespace F10
open F9
/-! The laws on models: a model's terms are those of its list but the intercept. -/
theorem LL.fwd {R : Nat → Nat → Prop} {a b : List Nat} (h : LL R a b) {s : Nat} (hs : s ∈ a) : ∃ t ∈ b, R s t := by
  induction h with
  | nil => cases hs
  | cons hr _ ih =>
    rcases List.mem_cons.1 hs with rfl | hs
    · exact ⟨_, List.mem_cons_self, hr⟩
    · obtain ⟨t, h1, h2⟩ := ih hs
      exact ⟨t, List.mem_cons_of_mem _ h1, h2⟩
theorem LL.bwd {R : Nat → Nat → Prop} {a b : List Nat} (h : LL R a b) {t : Nat} (ht : t ∈ b) : ∃ s ∈ a, R s t := by
  induction h with
  | nil => cases ht
  | cons hr _ ih =>
    rcases List.mem_cons.1 ht with rfl | ht
    · exact ⟨_, List.mem_cons_self, hr⟩
    · obtain ⟨s, h1, h2⟩ := ih ht
      exact ⟨s, List.mem_cons_of_mem _ h1, h2⟩
/-- The terms of a model but the intercept. -/
def tms (A : List Fac) (l : List Nat) (x : List Fac) : Prop := ∃ t ∈ l, t ≠ 0 ∧ x = fac A t
def inn (P : List Fac → Prop) (x : List Fac) : Prop := ∃ y, P y ∧ SameF y x
section
variable {A B : List Fac} (hA : A.Nodup) (hB : B.Nodup) (lA : A.length ≤ 64) (lB : B.length ≤ 64)
include hA hB lA lB
theorem rt_same {s t : Nat} (h : Rt A B s t) : SameF (fac A s) (fac B t) ∧ SameF (fac B t) (fac A s) :=
  ⟨(same_fac hA hB lA lB h.bs h.bt).2 h, (same_fac hB hA lB lA h.bt h.bs).2 h.symm⟩
omit lA lB in
theorem rt_zero {s t : Nat} (h : Rt A B s t) : s = 0 ↔ t = 0 := h.inj hA hB (Rt.zero A B)
theorem inn_fwd {l l' : List Nat} (h : LL (Rt A B) l l') {x : List Fac} (hx : tms A l x) : inn (tms B l') x := by
  obtain ⟨s, hs, h0, rfl⟩ := hx
  obtain ⟨t, ht, hr⟩ := h.fwd hs
  exact ⟨fac B t, ⟨t, ht, fun e => h0 ((rt_zero hA hB hr).2 e), rfl⟩, (rt_same hA hB lA lB hr).2⟩
theorem inn_bwd {l l' : List Nat} (h : LL (Rt A B) l l') {x : List Fac} (hx : tms B l' x) : inn (tms A l) x := by
  obtain ⟨t, ht, h0, rfl⟩ := hx
  obtain ⟨s, hs, hr⟩ := h.bwd ht
  exact ⟨fac A s, ⟨s, hs, fun e => h0 ((rt_zero hA hB hr).1 e), rfl⟩, (rt_same hA hB lA lB hr).1⟩
end
theorem inn_mono {P Q : List Fac → Prop} (h : ∀ x, P x → Q x) {x : List Fac} (hx : inn P x) : inn Q x := by
  obtain ⟨y, hy, hs⟩ := hx
  exact ⟨y, h y hy, hs⟩
theorem rl_bin {A : List Fac} {op : Nat} {x y : Tr} {l : List Nat} (h : rl A (.bin op x y) = some l) : ∃ lx ly, rl A x = some lx ∧ rl A y = some ly ∧ l = op2 op lx ly := by
  cases hx : rl A x with
  | none => rw [show rl A (.bin op x y) = (rl A x).bind _ from rfl, hx] at h; cases h
  | some lx =>
    cases hy : rl A y with
    | none =>
      rw [show rl A (.bin op x y) = (rl A x).bind fun la => (rl A y).bind fun lb => if fts (op2 op la lb) then some (op2 op la lb) else none from rfl, hx, hy] at h; cases h
    | some ly =>
      rw [show rl A (.bin op x y) = (rl A x).bind fun la => (rl A y).bind fun lb => if fts (op2 op la lb) then some (op2 op la lb) else none from rfl, hx, hy] at h
      change (if fts (op2 op lx ly) then some (op2 op lx ly) else none) = some l at h
      split at h
      · exact ⟨lx, ly, rfl, rfl, (Option.some.inj h).symm⟩
      · cases h
theorem OR.get {R : Nat → Nat → Prop} {x y : Option (List Nat)} {a : List Nat} (h : OR R x y) (hx : x = some a) : ∃ b, y = some b ∧ LL R a b := by
  subst hx
  cases y with
  | none => exact h.elim
  | some b => exact ⟨b, rfl, h⟩
theorem OR.get' {R : Nat → Nat → Prop} {x y : Option (List Nat)} {b : List Nat} (h : OR R x y) (hy : y = some b) : ∃ a, x = some a ∧ LL R a b := by
  subst hy
  cases x with
  | none => exact h.elim
  | some a => exact ⟨a, rfl, h⟩
theorem rex_some {t : Tr} {m : List Nat} (h : rex t = some m) : (∃ l, rl (atoms t []) t = some l) ∧ rs (atoms t []) t = some m := by
  unfold rex at h
  split at h
  · rename_i l m' h1 h2
    obtain rfl := Option.some.inj h
    exact ⟨⟨l, h1⟩, h2⟩
  · cases h
theorem stp_some {op : Nat} {z : Bool} {m o l : List Nat} (h : stp op z m o = some l) : l = if (op == 6) != z then mns m (if z then [0] else o) else pls m (if z then [0] else o) := by
  unfold stp at h
  generalize (if z then [0] else o) = o' at h ⊢
  by_cases hc : ((op == 6) != z) = true
  · rw [if_pos hc] at h ⊢; exact (Option.some.inj h).symm
  · rw [if_neg hc] at h ⊢
    by_cases hf : fts (pls m o') = true
    · rw [if_pos hf] at h; exact (Option.some.inj h).symm
    · rw [if_neg hf] at h; cases h
def zeroT : Tr := .leaf ⟨4, [], 0⟩
/-- The law TermsRemove, on models. -/
theorem removes {a b : Tr} (ha : shp a) (hb : shp b) (hz : isZ b = false) (hl : a.pre.length + b.pre.length ≤ 64) {m more less own : List Nat}
    (h1 : rex a = some m) (h2 : rex (.bin 5 a b) = some more) (h3 : rex (.bin 6 a b) = some less) (h4 : rex (.bin 5 zeroT b) = some own) :
    let Aa := atoms a []; let AB := atoms b (atoms a []); let O := atoms b []
    (0 ∈ more ↔ 0 ∈ m ∨ 0 ∈ own) ∧ (0 ∈ less ↔ 0 ∈ m ∧ 0 ∉ own) ∧
    (∀ x, tms AB more x → inn (tms Aa m) x ∨ inn (tms O own) x) ∧ (∀ x, tms Aa m x → inn (tms AB more) x) ∧ (∀ x, tms O own x → inn (tms AB more) x) ∧
    (∀ x, tms AB more x → inn (tms AB less) x ∨ inn (tms O own) x) ∧ (∀ x, tms AB less x → inn (tms AB more) x) ∧ (∀ x, tms AB less x → ¬ inn (tms O own) x) := by
  intro Aa AB O
  have nAa : Aa.Nodup := atoms_nodup a List.nodup_nil
  have nAB : AB.Nodup := atoms_nodup b nAa
  have nO : O.Nodup := atoms_nodup b List.nodup_nil
  have lAa : Aa.length ≤ 64 := by have := atoms_len a []; simp only [List.length_nil] at this; show (atoms a []).length ≤ 64; omega
  have lAB : AB.length ≤ 64 := by have h1 := atoms_len a []; have h2 := atoms_len b (atoms a []); simp only [List.length_nil] at h1; show (atoms b (atoms a [])).length ≤ 64; omega
  have lO : O.length ≤ 64 := by have := atoms_len b []; simp only [List.length_nil] at this; show (atoms b []).length ≤ 64; omega
  have Ha := rt_rr nAa nAB lAa lAB
  have Ho := rt_rr nO nAB lO lAB
  have r1 := (rex_some h1).2
  obtain ⟨mm, hmm, Lm⟩ := (rs_rel Ha a ha fun f hf => ⟨(atoms_mem a [] f).2 (.inr hf), (atoms_mem b Aa f).2 (.inl ((atoms_mem a [] f).2 (.inr hf)))⟩).get r1
  have s5 : rs AB (.bin 5 a b) = (rs AB a).bind fun m => (rl AB b).bind fun lb => stp 5 (isZ b) m lb := by
    show (if 5 = 5 ∨ 5 = 6 then _ else _) = _
    rw [if_pos (.inl rfl)]
  have s6 : rs AB (.bin 6 a b) = (rs AB a).bind fun m => (rl AB b).bind fun lb => stp 6 (isZ b) m lb := by
    show (if 6 = 5 ∨ 6 = 6 then _ else _) = _
    rw [if_pos (.inr rfl)]
  have s0 : rs O (.bin 5 zeroT b) = (rl O b).bind fun lb => stp 5 (isZ b) [] lb := rfl
  have r2 : rs AB (.bin 5 a b) = some more := (rex_some h2).2
  have r3 : rs AB (.bin 6 a b) = some less := (rex_some h3).2
  have r4 : rs O (.bin 5 zeroT b) = some own := (rex_some h4).2
  rw [s5, hmm] at r2
  rw [s6, hmm] at r3
  rw [s0] at r4
  obtain ⟨ob, hob, hob2⟩ : ∃ ob, rl O b = some ob ∧ stp 5 (isZ b) [] ob = some own := by
    cases h : rl O b with
    | none => rw [h] at r4; cases r4
    | some ob => rw [h] at r4; exact ⟨ob, rfl, r4⟩
  obtain ⟨lb, hlb, Lo⟩ := (rl_rel Ho b hb fun f hf => ⟨(atoms_mem b [] f).2 (.inr hf), (atoms_mem b Aa f).2 (.inr hf)⟩).get hob
  rw [hlb] at r2 r3
  have e2 := stp_some (show stp 5 (isZ b) mm lb = some more from r2)
  have e3 := stp_some (show stp 6 (isZ b) mm lb = some less from r3)
  have e4 := stp_some hob2
  rw [hz] at e2 e3 e4
  have e2 : more = pls mm lb := e2
  have e3 : less = mns mm lb := e3
  have e4 : own = pls [] ob := e4
  have nob : ob.Nodup := by
    have := (pe_rl O b hb [] false (List.prefix_refl _)).2
    rw [hob] at this
    exact this.2.2.1
  rw [pls_nil nob] at e4
  subst e2 e3 e4
  have z1 : 0 ∈ m ↔ 0 ∈ mm := Lm.mem Ha.inj Ha.zero
  have z2 : 0 ∈ own ↔ 0 ∈ lb := Lo.mem Ho.inj Ho.zero
  refine ⟨by rw [pls_mem, z1, z2], by rw [mns_mem, z1, z2], fun x hx => ?_, fun x hx => ?_, fun x hx => ?_, fun x hx => ?_, fun x hx => ?_, fun x hx hi => ?_⟩
  · obtain ⟨t, ht, h0, rfl⟩ := hx
    rcases (pls_mem _ _ _).1 ht with ht | ht
    · exact .inl (inn_bwd nAa nAB lAa lAB Lm ⟨t, ht, h0, rfl⟩)
    · exact .inr (inn_bwd nO nAB lO lAB Lo ⟨t, ht, h0, rfl⟩)
  · refine inn_mono (fun y hy => ?_) (inn_fwd nAa nAB lAa lAB Lm hx)
    obtain ⟨t, ht, h0, rfl⟩ := hy
    exact ⟨t, (pls_mem _ _ _).2 (.inl ht), h0, rfl⟩
  · refine inn_mono (fun y hy => ?_) (inn_fwd nO nAB lO lAB Lo hx)
    obtain ⟨t, ht, h0, rfl⟩ := hy
    exact ⟨t, (pls_mem _ _ _).2 (.inr ht), h0, rfl⟩
  · obtain ⟨t, ht, h0, rfl⟩ := hx
    by_cases hlb' : t ∈ lb
    · exact .inr (inn_bwd nO nAB lO lAB Lo ⟨t, hlb', h0, rfl⟩)
    · rcases (pls_mem _ _ _).1 ht with ht | ht
      · exact .inl ⟨_, ⟨t, mns_mem.2 ⟨ht, hlb'⟩, h0, rfl⟩, rfl, fun f hf => hf⟩
      · exact absurd ht hlb'
  · obtain ⟨t, ht, h0, rfl⟩ := hx
    exact ⟨_, ⟨t, (pls_mem _ _ _).2 (.inl (mns_mem.1 ht).1), h0, rfl⟩, rfl, fun f hf => hf⟩
  · obtain ⟨t, ht, h0, rfl⟩ := hx
    obtain ⟨y, ⟨s, hs, _, rfl⟩, hsame⟩ := hi
    obtain ⟨t', ht', hr⟩ := Lo.fwd hs
    have hb1 : ∀ i, t.testBit i = true → i < AB.length := by
      obtain ⟨_, _, hr'⟩ := Lm.bwd (mns_mem.1 ht).1
      exact hr'.bt
    have hr2 := (same_fac nO nAB lO lAB hr.bs hb1).1 hsame
    have : t' = t := (hr.inj nO nAB hr2).1 rfl
    exact (mns_mem.1 ht).2 (this ▸ ht')
end F10

namespace F10
open F9
/-! The law TermsFollowLaws, on models. -/
theorem mem_plus {a b : List Nat} {t : Nat} : t ∈ op2 5 a b ↔ t ∈ a ∨ t ∈ b := pls_mem b a t
theorem mem_colon {a b : List Nat} {t : Nat} : t ∈ op2 7 a b ↔ ∃ s ∈ a, ∃ u ∈ b, s ||| u = t := crs_mem
theorem mem_star {a b : List Nat} {t : Nat} : t ∈ op2 8 a b ↔ (t ∈ a ∨ t ∈ b) ∨ ∃ s ∈ a, ∃ u ∈ b, s ||| u = t := by
  show t ∈ str a b ↔ _
  unfold str
  rw [pls_mem, pls_mem, crs_mem]
theorem mem_slash {a b : List Nat} {t : Nat} : t ∈ op2 9 a b ↔ t ∈ a ∨ ∃ u ∈ b, whl a ||| u = t := by
  show t ∈ nst a b ↔ _
  unfold nst
  rw [pls_mem, crs_mem]
  simp
theorem op2_nd {A : List Fac} {t : Tr} (h : shp t) {l : List Nat} (hl : rl A t = some l) (hp : ∀ f, nam t f → f ∈ A) (hA : A.Nodup) (lA : A.length ≤ 64) (la : (atoms t []).length ≤ 64) : l.Nodup := by
  have hn : (atoms t []).Nodup := atoms_nodup t List.nodup_nil
  have H := rt_rr hn hA la lA
  obtain ⟨l', h1, h2⟩ := (rl_rel H t h fun f hf => ⟨(atoms_mem t [] f).2 (.inr hf), hp f hf⟩).get' hl
  have := (pe_rl (atoms t []) t h [] false (List.prefix_refl _)).2
  rw [h1] at this
  have hnd : l'.Nodup := this.2.2.1
  clear this h1 hl
  induction h2 with
  | nil => exact List.nodup_nil
  | cons hr hab ih =>
    rw [List.nodup_cons] at hnd ⊢
    exact ⟨fun hm => hnd.1 ((hab.mem H.inj hr).2 hm), ih hnd.2⟩
theorem LL_cnt {A B : List Fac} (hA : A.Nodup) (hB : B.Nodup) {n q : List Nat} (h : LL (Rt A B) n q) : (q.filter fun t => t != 0).length = (n.filter fun t => t != 0).length := by
  induction h with
  | nil => rfl
  | cons hr _ ih =>
    rename_i s t a b _
    have hz := rt_zero hA hB hr
    rw [List.filter_cons, List.filter_cons]
    by_cases h0 : t = 0
    · have : s = 0 := hz.2 h0
      rw [if_neg (by simp [h0]), if_neg (by simp [this])]; exact ih
    · have : ¬ s = 0 := fun e => h0 (hz.1 e)
      rw [if_pos (by simp [h0]), if_pos (by simp [this]), List.length_cons, List.length_cons, ih]
/-- Two trees whose top is no step, that name the same factors and whose lists have the same members under the factors of the one, have models with the same terms. -/
theorem agrees {x y : Tr} (hy : shp y) (bx : ∀ op a b, x = .bin op a b → ¬ (op = 5 ∨ op = 6)) (bY : ∀ op a b, y = .bin op a b → ¬ (op = 5 ∨ op = 6)) (zx : isZ x = false) (zy : isZ y = false)
    (lx : x.pre.length ≤ 64) (ly : y.pre.length ≤ 64) (hn : ∀ f, nam x f ↔ nam y f) {m n : List Nat} (h1 : rex x = some m) (h2 : rex y = some n)
    (hs : ∀ l l', rl (atoms x []) x = some l → rl (atoms x []) y = some l' → ∀ t, t ∈ l ↔ t ∈ l') :
    0 ∈ m ∧ 0 ∈ n ∧ (m.filter fun t => t != 0).length = (n.filter fun t => t != 0).length ∧ (∀ z, tms (atoms x []) m z → ∃ u, tms (atoms y []) n u ∧ SameF z u) := by
  have nX : (atoms x []).Nodup := atoms_nodup x List.nodup_nil
  have nY : (atoms y []).Nodup := atoms_nodup y List.nodup_nil
  have lX : (atoms x []).length ≤ 64 := by have := atoms_len x []; simp only [List.length_nil] at this; omega
  have lY : (atoms y []).length ≤ 64 := by have := atoms_len y []; simp only [List.length_nil] at this; omega
  have H := rt_rr nY nX lY lX
  obtain ⟨⟨l, hl⟩, r1⟩ := rex_some h1
  obtain ⟨⟨k, hk⟩, r2⟩ := rex_some h2
  rw [base_rs bx, hl] at r1
  rw [base_rs bY, hk] at r2
  have e1 := stp_some (show stp 5 (isZ x) [0] l = some m from r1)
  have e2 := stp_some (show stp 5 (isZ y) [0] k = some n from r2)
  rw [zx] at e1
  rw [zy] at e2
  have e1 : m = pls [0] l := e1
  have e2 : n = pls [0] k := e2
  obtain ⟨k', hk', L⟩ := (rl_rel H y hy fun f hf => ⟨(atoms_mem y [] f).2 (.inr hf), (atoms_mem x [] f).2 (.inr ((hn f).2 hf))⟩).get hk
  have hmem := hs l k' hl hk'
  have L2 : LL (Rt (atoms y []) (atoms x [])) n (pls [0] k') := by rw [e2]; exact LL.pls H.inj L (.cons H.zero .nil)
  have hm2 : ∀ t, t ∈ m ↔ t ∈ pls [0] k' := fun t => by rw [e1, pls_mem, pls_mem, hmem]
  have nm : m.Nodup := by rw [e1]; exact pls_nodup _ _ (by simp)
  have nk : (pls [0] k').Nodup := pls_nodup _ _ (by simp)
  have hp : m.Perm (pls [0] k') := (List.perm_ext_iff_of_nodup nm nk).2 hm2
  have z0 : 0 ∈ m := by rw [e1, pls_mem]; exact .inl (by simp)
  refine ⟨z0, by rw [e2, pls_mem]; exact .inl (by simp), ?_, fun z hz => ?_⟩
  · have h3 : (m.filter fun t => t != 0).length = ((pls [0] k').filter fun t => t != 0).length := (hp.filter _).length_eq
    rw [h3]
    exact LL_cnt nY nX L2
  · obtain ⟨t, ht, h0, rfl⟩ := hz
    obtain ⟨s, hs', hr⟩ := L2.bwd ((hm2 t).1 ht)
    exact ⟨fac _ s, ⟨s, hs', fun e => h0 ((rt_zero nY nX hr).1 e), rfl⟩, (rt_same nY nX lY lX hr).2⟩
def oneT : Tr := .leaf ⟨3, [], 0⟩
theorem rl_one {A : List Fac} : rl A oneT = some [0] := rfl
/-- The seven equations: the lists have the same members. -/
theorem eq_star {A : List Fac} {a b : Tr} {l l' : List Nat} (h : rl A (.bin 8 a b) = some l) (h' : rl A (.bin 7 (.bin 5 (.bin 5 a b) (.bin 7 a b)) oneT) = some l') (t : Nat) : t ∈ l ↔ t ∈ l' := by
  obtain ⟨la, lb, ha, hb, rfl⟩ := rl_bin h
  obtain ⟨p, o, hp, ho, rfl⟩ := rl_bin h'
  obtain ⟨p1, p2, hp1, hp2, rfl⟩ := rl_bin hp
  obtain ⟨a1, b1, ha1, hb1, rfl⟩ := rl_bin hp1
  obtain ⟨a2, b2, ha2, hb2, rfl⟩ := rl_bin hp2
  rw [ha] at ha1 ha2; rw [hb] at hb1 hb2
  obtain rfl := Option.some.inj ha1; obtain rfl := Option.some.inj ha2
  obtain rfl := Option.some.inj hb1; obtain rfl := Option.some.inj hb2
  rw [rl_one] at ho
  obtain rfl := Option.some.inj ho
  rw [mem_star, mem_colon]
  simp only [mem_plus, mem_colon, List.mem_singleton, exists_eq_left, Nat.or_zero, exists_eq_right]
theorem eq_star_comm {A : List Fac} {a b : Tr} {l l' : List Nat} (h : rl A (.bin 8 a b) = some l) (h' : rl A (.bin 8 b a) = some l') (t : Nat) : t ∈ l ↔ t ∈ l' := by
  obtain ⟨la, lb, ha, hb, rfl⟩ := rl_bin h
  obtain ⟨b1, a1, hb1, ha1, rfl⟩ := rl_bin h'
  rw [ha] at ha1; rw [hb] at hb1
  obtain rfl := Option.some.inj ha1; obtain rfl := Option.some.inj hb1
  rw [mem_star, mem_star]
  constructor
  · rintro ((h | h) | ⟨s, hs, u, hu, rfl⟩)
    · exact .inl (.inr h)
    · exact .inl (.inl h)
    · exact .inr ⟨u, hu, s, hs, Nat.or_comm _ _⟩
  · rintro ((h | h) | ⟨s, hs, u, hu, rfl⟩)
    · exact .inl (.inr h)
    · exact .inl (.inl h)
    · exact .inr ⟨u, hu, s, hs, Nat.or_comm _ _⟩
theorem eq_colon_comm {A : List Fac} {a b : Tr} {l l' : List Nat} (h : rl A (.bin 7 a b) = some l) (h' : rl A (.bin 7 b a) = some l') (t : Nat) : t ∈ l ↔ t ∈ l' := by
  obtain ⟨la, lb, ha, hb, rfl⟩ := rl_bin h
  obtain ⟨b1, a1, hb1, ha1, rfl⟩ := rl_bin h'
  rw [ha] at ha1; rw [hb] at hb1
  obtain rfl := Option.some.inj ha1; obtain rfl := Option.some.inj hb1
  rw [mem_colon, mem_colon]
  constructor
  · rintro ⟨s, hs, u, hu, rfl⟩; exact ⟨u, hu, s, hs, Nat.or_comm _ _⟩
  · rintro ⟨s, hs, u, hu, rfl⟩; exact ⟨u, hu, s, hs, Nat.or_comm _ _⟩
theorem eq_colon_assoc {A : List Fac} {a b c : Tr} {l l' : List Nat} (h : rl A (.bin 7 (.bin 7 a b) c) = some l) (h' : rl A (.bin 7 a (.bin 7 b c)) = some l') (t : Nat) : t ∈ l ↔ t ∈ l' := by
  obtain ⟨p, lc, hp, hc, rfl⟩ := rl_bin h
  obtain ⟨la, lb, ha, hb, rfl⟩ := rl_bin hp
  obtain ⟨a1, q, ha1, hq, rfl⟩ := rl_bin h'
  obtain ⟨b1, c1, hb1, hc1, rfl⟩ := rl_bin hq
  rw [ha] at ha1; rw [hb] at hb1; rw [hc] at hc1
  obtain rfl := Option.some.inj ha1; obtain rfl := Option.some.inj hb1; obtain rfl := Option.some.inj hc1
  rw [mem_colon, mem_colon]
  constructor
  · rintro ⟨s, hs, u, hu, rfl⟩
    obtain ⟨x, hx, y, hy, rfl⟩ := mem_colon.1 hs
    exact ⟨x, hx, y ||| u, mem_colon.2 ⟨y, hy, u, hu, rfl⟩, (Nat.or_assoc _ _ _).symm⟩
  · rintro ⟨s, hs, u, hu, rfl⟩
    obtain ⟨x, hx, y, hy, rfl⟩ := mem_colon.1 hu
    exact ⟨s ||| x, mem_colon.2 ⟨s, hs, x, hx, rfl⟩, y, hy, Nat.or_assoc _ _ _⟩
theorem eq_star_assoc {A : List Fac} {a b c : Tr} {l l' : List Nat} (h : rl A (.bin 8 (.bin 8 a b) c) = some l) (h' : rl A (.bin 8 a (.bin 8 b c)) = some l') (t : Nat) : t ∈ l ↔ t ∈ l' := by
  obtain ⟨p, lc, hp, hc, rfl⟩ := rl_bin h
  obtain ⟨la, lb, ha, hb, rfl⟩ := rl_bin hp
  obtain ⟨a1, q, ha1, hq, rfl⟩ := rl_bin h'
  obtain ⟨b1, c1, hb1, hc1, rfl⟩ := rl_bin hq
  rw [ha] at ha1; rw [hb] at hb1; rw [hc] at hc1
  obtain rfl := Option.some.inj ha1; obtain rfl := Option.some.inj hb1; obtain rfl := Option.some.inj hc1
  rw [mem_star (a := op2 8 la lb) (b := lc), mem_star (a := la) (b := op2 8 lb lc)]
  constructor
  · rintro ((h | h) | ⟨s, hs, u, hu, rfl⟩)
    · rcases mem_star.1 h with (h | h) | ⟨x, hx, y, hy, rfl⟩
      · exact .inl (.inl h)
      · exact .inl (.inr (mem_star.2 (.inl (.inl h))))
      · exact .inr ⟨x, hx, y, mem_star.2 (.inl (.inl hy)), rfl⟩
    · exact .inl (.inr (mem_star.2 (.inl (.inr h))))
    · rcases mem_star.1 hs with (h | h) | ⟨x, hx, y, hy, rfl⟩
      · exact .inr ⟨s, h, u, mem_star.2 (.inl (.inr hu)), rfl⟩
      · exact .inl (.inr (mem_star.2 (.inr ⟨s, h, u, hu, rfl⟩)))
      · exact .inr ⟨x, hx, y ||| u, mem_star.2 (.inr ⟨y, hy, u, hu, rfl⟩), (Nat.or_assoc _ _ _).symm⟩
  · rintro ((h | h) | ⟨s, hs, u, hu, rfl⟩)
    · exact .inl (.inl (mem_star.2 (.inl (.inl h))))
    · rcases mem_star.1 h with (h | h) | ⟨x, hx, y, hy, rfl⟩
      · exact .inl (.inl (mem_star.2 (.inl (.inr h))))
      · exact .inl (.inr h)
      · exact .inr ⟨x, mem_star.2 (.inl (.inr hx)), y, hy, rfl⟩
    · rcases mem_star.1 hu with (h | h) | ⟨x, hx, y, hy, rfl⟩
      · exact .inl (.inl (mem_star.2 (.inr ⟨s, hs, u, h, rfl⟩)))
      · exact .inr ⟨s, mem_star.2 (.inl (.inl hs)), u, h, rfl⟩
      · exact .inr ⟨s ||| x, mem_star.2 (.inr ⟨s, hs, x, hx, rfl⟩), y, hy, Nat.or_assoc _ _ _⟩
theorem eq_dist {A : List Fac} {a b c : Tr} {l l' : List Nat} (h : rl A (.bin 7 (.bin 5 a b) c) = some l) (h' : rl A (.bin 7 (.bin 5 (.bin 7 a c) (.bin 7 b c)) oneT) = some l') (t : Nat) : t ∈ l ↔ t ∈ l' := by
  obtain ⟨p, lc, hp, hc, rfl⟩ := rl_bin h
  obtain ⟨la, lb, ha, hb, rfl⟩ := rl_bin hp
  obtain ⟨q, o, hq, ho, rfl⟩ := rl_bin h'
  obtain ⟨q1, q2, hq1, hq2, rfl⟩ := rl_bin hq
  obtain ⟨a1, c1, ha1, hc1, rfl⟩ := rl_bin hq1
  obtain ⟨b1, c2, hb1, hc2, rfl⟩ := rl_bin hq2
  rw [ha] at ha1; rw [hb] at hb1; rw [hc] at hc1 hc2
  obtain rfl := Option.some.inj ha1; obtain rfl := Option.some.inj hb1
  obtain rfl := Option.some.inj hc1; obtain rfl := Option.some.inj hc2
  rw [rl_one] at ho
  obtain rfl := Option.some.inj ho
  rw [mem_colon, mem_colon]
  constructor
  · rintro ⟨s, hs, u, hu, rfl⟩
    refine ⟨s ||| u, ?_, 0, by simp, Nat.or_zero _⟩
    rcases mem_plus.1 hs with h | h
    · exact mem_plus.2 (.inl (mem_colon.2 ⟨s, h, u, hu, rfl⟩))
    · exact mem_plus.2 (.inr (mem_colon.2 ⟨s, h, u, hu, rfl⟩))
  · rintro ⟨s, hs, z, hz, rfl⟩
    obtain rfl := List.mem_singleton.1 hz
    rw [Nat.or_zero]
    rcases mem_plus.1 hs with h | h
    · obtain ⟨x, hx, u, hu, rfl⟩ := mem_colon.1 h
      exact ⟨x, mem_plus.2 (.inl hx), u, hu, rfl⟩
    · obtain ⟨x, hx, u, hu, rfl⟩ := mem_colon.1 h
      exact ⟨x, mem_plus.2 (.inr hx), u, hu, rfl⟩
theorem eq_nest {A : List Fac} {v : F9.Nd} (hv : v.op = 1) {b : Tr} {l l' : List Nat} (h : rl A (.bin 9 (.leaf v) b) = some l) (h' : rl A (.bin 7 (.bin 5 (.leaf v) (.bin 7 (.leaf v) b)) oneT) = some l') (t : Nat) : t ∈ l ↔ t ∈ l' := by
  obtain ⟨lv, lb, hv1, hb, rfl⟩ := rl_bin h
  obtain ⟨p, o, hp, ho, rfl⟩ := rl_bin h'
  obtain ⟨v2, q, hv2, hq, rfl⟩ := rl_bin hp
  obtain ⟨v3, b1, hv3, hb1, rfl⟩ := rl_bin hq
  rw [hv1] at hv2 hv3; rw [hb] at hb1
  obtain rfl := Option.some.inj hv2; obtain rfl := Option.some.inj hv3; obtain rfl := Option.some.inj hb1
  rw [rl_one] at ho
  obtain rfl := Option.some.inj ho
  obtain ⟨i, rfl⟩ : ∃ i, lv = [i] := by
    unfold rl at hv1
    rw [if_neg (by omega), if_neg (by omega)] at hv1
    exact ⟨_, (Option.some.inj hv1).symm⟩
  rw [mem_slash, mem_colon]
  simp only [mem_plus, mem_colon, List.mem_singleton, exists_eq_left, Nat.or_zero, exists_eq_right]
  rw [show whl [i] = i by show 0 ||| i = i; exact Nat.zero_or i]
end F10

namespace F10
open F9
/-! The model that comes back: sizes in order. -/
def mdT (A : List Fac) (m : List Nat) : List (List Fac) := ((List.range 6).map (· + 1)).flatMap fun n => (m.filter fun t => siz t == n).map (fac A)
theorem siz_pos {t : Nat} (h : t ≠ 0) (hb : ∀ i, t.testBit i = true → i < 64) : 1 ≤ siz t := by
  obtain ⟨i, hi⟩ := Nat.exists_testBit_of_ne_zero h
  unfold siz
  exact List.length_pos_of_mem (List.mem_filter.2 ⟨List.mem_range.2 (hb i hi), hi⟩)
theorem mdT_mem {A : List Fac} {m : List Nat} {x : List Fac} (lA : A.length ≤ 64) (hf : fts m = true) (hb : ∀ t ∈ m, ∀ i, t.testBit i = true → i < A.length) : x ∈ mdT A m ↔ tms A m x := by
  unfold mdT tms
  simp only [List.mem_flatMap, List.mem_map, List.mem_filter, List.mem_range]
  constructor
  · rintro ⟨n, ⟨k, hk, rfl⟩, t, ⟨ht, hs⟩, rfl⟩
    refine ⟨t, ht, ?_, rfl⟩
    rintro rfl
    rw [siz_zero] at hs
    exact absurd (eq_of_beq hs) (by omega)
  · rintro ⟨t, ht, h0, rfl⟩
    have h1 := siz_pos h0 fun i hi => by have := hb t ht i hi; omega
    have h6 : siz t ≤ 6 := by
      unfold fts at hf
      rw [Bool.and_eq_true] at hf
      exact of_decide_eq_true (List.all_eq_true.1 hf.1 t ht)
    exact ⟨siz t, ⟨siz t - 1, by omega, by omega⟩, t, ⟨ht, by simp⟩, rfl⟩
theorem pair_flat {α β : Type} {P : β → β → Prop} {f : α → List β} : ∀ {l : List α}, (∀ a ∈ l, (f a).Pairwise P) → l.Pairwise (fun a b => ∀ x ∈ f a, ∀ y ∈ f b, P x y) → (l.flatMap f).Pairwise P
  | [], _, _ => List.Pairwise.nil
  | a :: l, h, hp => by
    rw [List.flatMap_cons, List.pairwise_append]
    rw [List.pairwise_cons] at hp
    refine ⟨h a List.mem_cons_self, pair_flat (fun b hb => h b (List.mem_cons_of_mem _ hb)) hp.2, fun x hx y hy => ?_⟩
    obtain ⟨b, hb, hy⟩ := List.mem_flatMap.1 hy
    exact hp.1 b hb x hx y hy
/-- Sizes in order, no set twice. -/
theorem mdT_pair {A : List Fac} (hA : A.Nodup) (lA : A.length ≤ 64) {m : List Nat} (hm : m.Nodup) (hb : ∀ t ∈ m, ∀ i, t.testBit i = true → i < A.length) : (mdT A m).Pairwise fun x y => x.length ≤ y.length ∧ ¬ SameF x y := by
  refine pair_flat (fun n _ => ?_) ?_
  · rw [List.pairwise_map]
    refine (hm.filter _).imp_of_mem fun {s t} hs ht hst => ?_
    have h1 := List.mem_filter.1 hs
    have h2 := List.mem_filter.1 ht
    have e1 := eq_of_beq h1.2
    have e2 := eq_of_beq h2.2
    refine ⟨by rw [fac_len (hb s h1.1), fac_len (hb t h2.1), e1, e2]; exact Nat.le_refl _, fun hsame => hst ?_⟩
    have hr := (same_fac hA hA lA lA (hb s h1.1) (hb t h2.1)).1 hsame
    exact sem_inj hA (hb s h1.1) (hb t h2.1) hr.eq
  · rw [List.pairwise_map]
    refine List.Pairwise.imp (fun {a b} hab => ?_) (List.pairwise_lt_range (n := 6))
    intro x hx y hy
    obtain ⟨s, hs, rfl⟩ := List.mem_map.1 hx
    obtain ⟨t, ht, rfl⟩ := List.mem_map.1 hy
    have h1 := List.mem_filter.1 hs
    have h2 := List.mem_filter.1 ht
    have e1 := eq_of_beq h1.2
    have e2 := eq_of_beq h2.2
    rw [fac_len (hb s h1.1), fac_len (hb t h2.1), e1, e2]
    refine ⟨by omega, fun hsame => ?_⟩
    have := hsame.1
    rw [fac_len (hb s h1.1), fac_len (hb t h2.1), e1, e2] at this
    omega
theorem cnt_flat (m : List Nat) : ∀ k, (∀ t ∈ m, siz t ≤ k) → (((List.range k).map (· + 1)).flatMap fun n => m.filter fun t => siz t == n).length = (m.filter fun t => siz t != 0).length
  | 0, h => by
    have : (m.filter fun t => siz t != 0) = [] := List.filter_eq_nil_iff.2 fun t ht => by have := h t ht; simp; omega
    rw [this]; rfl
  | k + 1, h => by
    have key : ∀ (m : List Nat) (k : Nat), (∀ t ∈ m, siz t ≤ k + 1) → (((List.range (k + 1)).map (· + 1)).flatMap fun n => m.filter fun t => siz t == n).length = (m.filter fun t => siz t != 0).length := by
      intro m
      induction m with
      | nil => intro k _; exact (List.length_eq_zero_iff.2 (List.flatMap_eq_nil_iff.2 fun n _ => rfl)).trans rfl
      | cons t m ih =>
        intro k hm
        have ih := ih k fun s hs => hm s (List.mem_cons_of_mem _ hs)
        have ht := hm t List.mem_cons_self
        have e : ∀ (l : List Nat), l.Nodup → (l.flatMap fun n => (t :: m).filter fun s => siz s == n).length = (l.flatMap fun n => m.filter fun s => siz s == n).length + (if siz t ∈ l then 1 else 0) := by
          intro l
          induction l with
          | nil => intro _; rfl
          | cons n l il =>
            intro hnd
            rw [List.nodup_cons] at hnd
            rw [List.flatMap_cons, List.flatMap_cons, List.length_append, List.length_append, il hnd.2, List.filter_cons]
            by_cases hn : siz t = n
            · subst hn
              rw [if_pos (by simp), if_neg hnd.1, if_pos List.mem_cons_self, List.length_cons]; omega
            · rw [if_neg (by simpa using hn)]
              by_cases hl : siz t ∈ l
              · rw [if_pos hl, if_pos (List.mem_cons_of_mem _ hl)]; omega
              · rw [if_neg hl, if_neg (by simp [hn, hl])]; omega
        have hnd : ((List.range (k + 1)).map (· + 1)).Nodup := by
          refine List.Pairwise.map _ (fun a b hab h => hab (by omega)) (List.nodup_range (n := k + 1))
        rw [e _ hnd, ih, List.filter_cons]
        by_cases h0 : siz t = 0
        · rw [if_neg (by simp; omega), if_neg (by simp [h0])]; rfl
        · rw [if_pos (by simp; exact ⟨siz t - 1, by omega, by omega⟩), if_pos (by simp [h0]), List.length_cons]
    exact key m k h
theorem mdT_len {A : List Fac} {m : List Nat} (hf : fts m = true) (lA : A.length ≤ 64) (hb : ∀ t ∈ m, ∀ i, t.testBit i = true → i < A.length) : (mdT A m).length = (m.filter fun t => t != 0).length := by
  have h6 : ∀ t ∈ m, siz t ≤ 6 := fun t ht => by
    unfold fts at hf
    rw [Bool.and_eq_true] at hf
    exact of_decide_eq_true (List.all_eq_true.1 hf.1 t ht)
  have e : (mdT A m).length = (((List.range 6).map (· + 1)).flatMap fun n => m.filter fun t => siz t == n).length := by
    unfold mdT
    induction (List.range 6).map (· + 1) with
    | nil => rfl
    | cons n l ih => rw [List.flatMap_cons, List.flatMap_cons, List.length_append, List.length_append, ih, List.length_map]
  rw [e, cnt_flat m 6 h6]
  congr 1
  refine List.filter_congr fun t ht => ?_
  by_cases h0 : t = 0
  · rw [h0, siz_zero]
  · have := siz_pos h0 fun i hi => by have := hb t ht i hi; omega
    rw [bne_iff_ne.2 h0, bne_iff_ne.2 (show siz t ≠ 0 by omega)]
/-! The law TermsOfPowers: a finite matter. -/
def varT (i : Nat) : Tr := .leaf ⟨1, [UInt8.ofNat (97 + i)], 0⟩
def sumT : Nat → Tr
  | 0 => varT 0
  | i + 1 => .bin 5 (sumT i) (varT (i + 1))
def wantN (vars power : Nat) : Nat := ((List.range (2 ^ vars - 1)).map (· + 1)).countP fun s => decide (siz s ≤ power)
def powOk (vars power : Nat) : Bool := match rex (.hat power (sumT (vars - 1))) with
  | none => decide (32 < wantN vars power + 1)
  | some m => decide (wantN vars power + 1 ≤ 32) && m.contains 0 && (m.filter fun t => t != 0).length == wantN vars power
theorem powers : ∀ v p : Fin 6, powOk (v + 1) (p + 1) = true := by decide +kernel
end F10

namespace F10
/-! The number of a term's factors, as both sides count it. -/
def pcn : Nat → Nat → Nat
  | 0, _ => 0
  | n + 1, t => t % 2 + pcn n (t / 2)
theorem pcn_filter : ∀ (n t : Nat), ((List.range n).filter (t.testBit ·)).length = pcn n t
  | 0, t => rfl
  | n + 1, t => by
    have e : ((List.range n).map Nat.succ).filter (t.testBit ·) = ((List.range n).filter ((t / 2).testBit ·)).map Nat.succ := by
      rw [List.filter_map]
      congr 1
      refine List.filter_congr fun i _ => ?_
      show t.testBit (i + 1) = _
      rw [Nat.testBit_succ]
    rw [List.range_succ_eq_map, List.filter_cons, e]
    have h0 : t.testBit 0 = decide (t % 2 = 1) := Nat.testBit_zero t
    by_cases h : t % 2 = 1
    · rw [h0, if_pos (by simp [h]), List.length_cons, List.length_map, pcn_filter n, pcn, h]; omega
    · rw [h0, if_neg (by simp [h]), List.length_map, pcn_filter n, pcn]; omega
theorem siz_pcn (t : Nat) : siz t = pcn 64 t := pcn_filter 64 t
/-- The reference takes the lowest factor away. -/
theorem pcn_low : ∀ (n t : Nat), 0 < t → t < 2 ^ n → pcn n t = pcn n (t &&& (t - 1)) + 1
  | 0, t, h, h2 => by simp at h2; omega
  | n + 1, t, h, h2 => by
    have hm : t &&& (t - 1) = if t % 2 = 1 then 2 * (t / 2) else 2 * ((t / 2) &&& (t / 2 - 1)) := by
      refine Nat.eq_of_testBit_eq fun i => ?_
      rw [Nat.testBit_and]
      by_cases ho : t % 2 = 1
      · rw [if_pos ho]
        cases i with
        | zero => rw [Nat.testBit_zero, Nat.testBit_zero, Nat.testBit_zero]; simp; omega
        | succ i =>
          rw [Nat.testBit_succ, Nat.testBit_succ, Nat.testBit_succ, show (t - 1) / 2 = t / 2 by omega, show 2 * (t / 2) / 2 = t / 2 by omega, Bool.and_self]
      · rw [if_neg ho]
        cases i with
        | zero => rw [Nat.testBit_zero, Nat.testBit_zero, Nat.testBit_zero]; simp; omega
        | succ i =>
          rw [Nat.testBit_succ, Nat.testBit_succ, Nat.testBit_succ, show (t - 1) / 2 = t / 2 - 1 by omega, Nat.mul_div_cancel_left _ (by decide), Nat.testBit_and]
    rw [hm]
    rw [Nat.pow_succ] at h2
    by_cases ho : t % 2 = 1
    · rw [if_pos ho, pcn, pcn, show 2 * (t / 2) % 2 = 0 by omega, show 2 * (t / 2) / 2 = t / 2 by omega]; omega
    · rw [if_neg ho, pcn, pcn, pcn_low n (t / 2) (by omega) (by omega), Nat.mul_div_cancel_left _ (by decide)]; omega
theorem low_lt {t : Nat} (h : 0 < t) : t &&& (t - 1) < t := Nat.lt_of_le_of_lt Nat.and_le_right (by omega)
/-! The program adds in ever longer fields. First within bytes. -/
def mk8 (m : Nat) : Nat → Nat
  | 0 => 0
  | k + 1 => m + 256 * mk8 m k
def f1 (k x : Nat) : Nat := (x / 2 &&& mk8 0x55 k) + (x &&& mk8 0x55 k)
def f2 (k x : Nat) : Nat := (x / 4 &&& mk8 0x33 k) + (x &&& mk8 0x33 k)
def f3 (k x : Nat) : Nat := (x / 16 + x) &&& mk8 0x0f k
theorem and_split {u p : Nat} (v q : Nat) (hu : u < 256) (hp : p < 256) : (u + 256 * v) &&& (p + 256 * q) = (u &&& p) + 256 * (v &&& q) := by
  have h1 : (u &&& p) < 2 ^ 8 := Nat.lt_of_le_of_lt Nat.and_le_left hu
  refine Nat.eq_of_testBit_eq fun i => ?_
  rw [Nat.testBit_and, Nat.add_comm u, Nat.add_comm p, Nat.add_comm (u &&& p), show 256 = 2 ^ 8 from rfl, Nat.testBit_two_pow_mul_add _ (show u < 2 ^ 8 from hu), Nat.testBit_two_pow_mul_add _ (show p < 2 ^ 8 from hp), Nat.testBit_two_pow_mul_add _ h1]
  split
  · rw [Nat.testBit_and]
  · rw [Nat.testBit_and]
theorem t1 : ∀ (a : Fin 256) (b : Fin 2), (a.1 / 2 + 128 * b.1) &&& 0x55 = a.1 / 2 &&& 0x55 := by decide +kernel
theorem t2 : ∀ (a : Fin 256) (b : Fin 4), (a.1 / 4 + 64 * b.1) &&& 0x33 = a.1 / 4 &&& 0x33 := by decide +kernel
theorem t3 : ∀ (a : Fin 69) (b : Fin 5), (a.1 / 16 + a.1 + 16 * b.1) &&& 0x0f = (a.1 / 16 + a.1) &&& 0x0f ∧ a.1 / 16 + a.1 + 16 * b.1 < 256 := by decide +kernel
theorem f1_one : ∀ a : Fin 256, f1 1 a.1 < 256 := by decide +kernel
theorem f2_one : ∀ a : Fin 256, f2 1 (f1 1 a.1) < 69 ∧ f2 1 (f1 1 a.1) % 16 < 5 := by decide +kernel
theorem f3_one : ∀ a : Fin 256, f3 1 (f2 1 (f1 1 a.1)) = pcn 8 a.1 := by decide +kernel
theorem mk_one (m : Nat) : mk8 m 1 = m := by unfold mk8 mk8; omega
theorem f1_split (k a b : Nat) (ha : a < 256) : f1 (k + 1) (a + 256 * b) = f1 1 a + 256 * f1 k b := by
  unfold f1
  rw [mk_one, show mk8 0x55 (k + 1) = 0x55 + 256 * mk8 0x55 k from rfl, show (a + 256 * b) / 2 = (a / 2 + 128 * (b % 2)) + 256 * (b / 2) by omega, and_split _ _ (by omega) (by decide), and_split _ _ ha (by decide)]
  have := t1 ⟨a, ha⟩ ⟨b % 2, by omega⟩
  simp only at this
  rw [this]; omega
theorem f2_split (k a b : Nat) (ha : a < 256) : f2 (k + 1) (a + 256 * b) = f2 1 a + 256 * f2 k b := by
  unfold f2
  rw [mk_one, show mk8 0x33 (k + 1) = 0x33 + 256 * mk8 0x33 k from rfl, show (a + 256 * b) / 4 = (a / 4 + 64 * (b % 4)) + 256 * (b / 4) by omega, and_split _ _ (by omega) (by decide), and_split _ _ ha (by decide)]
  have := t2 ⟨a, ha⟩ ⟨b % 4, by omega⟩
  simp only at this
  rw [this]; omega
theorem f3_split (k a b : Nat) (ha : a < 69) (hb : b % 16 < 5) : f3 (k + 1) (a + 256 * b) = f3 1 a + 256 * f3 k b := by
  unfold f3
  have := t3 ⟨a, ha⟩ ⟨b % 16, hb⟩
  simp only at this
  rw [mk_one, show mk8 0x0f (k + 1) = 0x0f + 256 * mk8 0x0f k from rfl, show (a + 256 * b) / 16 + (a + 256 * b) = (a / 16 + a + 16 * (b % 16)) + 256 * (b / 16 + b) by omega, and_split _ _ this.2 (by decide), this.1]
def F (k x : Nat) : Nat := f3 k (f2 k (f1 k x))
theorem f12_mod : ∀ (k b : Nat), f2 k (f1 k b) % 16 < 5
  | 0, b => by simp [f2, f1, mk8]
  | k + 1, b => by
    have ha : b % 256 < 256 := Nat.mod_lt _ (by decide)
    have e : b = b % 256 + 256 * (b / 256) := by omega
    rw [e, f1_split k _ _ ha, f2_split k _ _ (f1_one ⟨_, ha⟩)]
    have h : f2 1 (f1 1 (b % 256)) % 16 < 5 := (f2_one ⟨_, ha⟩).2
    show (f2 1 (f1 1 (b % 256)) + 256 * f2 k (f1 k (b / 256))) % 16 < 5
    omega
theorem F_split (k a b : Nat) (ha : a < 256) : F (k + 1) (a + 256 * b) = pcn 8 a + 256 * F k b := by
  unfold F
  rw [f1_split k a b ha, f2_split k _ _ (f1_one ⟨a, ha⟩), f3_split k _ _ (f2_one ⟨a, ha⟩).1 (f12_mod k b), f3_one ⟨a, ha⟩]
theorem pcn_add : ∀ (m n a : Nat), pcn (m + n) a = pcn m (a % 2 ^ m) + pcn n (a / 2 ^ m)
  | 0, n, a => by simp [pcn]
  | m + 1, n, a => by
    rw [show m + 1 + n = (m + n) + 1 by omega, pcn, pcn, pcn_add m n, Nat.div_div_eq_div_mul, ← Nat.pow_succ', Nat.pow_succ']
    have e1 : a % (2 * 2 ^ m) % 2 = a % 2 := Nat.mod_mul_right_mod _ _ _
    have e2 : a % (2 * 2 ^ m) / 2 = a / 2 % 2 ^ m := by rw [Nat.mod_mul_right_div_self]
    rw [e1, e2]; omega
theorem pcn8_le : ∀ a : Fin 256, pcn 8 a.1 ≤ 8 := by decide +kernel
theorem F_sum (x : Nat) : ∃ c0 c1 c2 c3 c4 c5 c6 c7, c0 ≤ 8 ∧ c1 ≤ 8 ∧ c2 ≤ 8 ∧ c3 ≤ 8 ∧ c4 ≤ 8 ∧ c5 ≤ 8 ∧ c6 ≤ 8 ∧ c7 ≤ 8 ∧ F 8 x = c0 + 256 * (c1 + 256 * (c2 + 256 * (c3 + 256 * (c4 + 256 * (c5 + 256 * (c6 + 256 * c7)))))) ∧ siz x = c0 + c1 + c2 + c3 + c4 + c5 + c6 + c7 := by
  have step : ∀ (k y : Nat), ∃ c, c ≤ 8 ∧ F (k + 1) y = c + 256 * F k (y / 256) ∧ pcn (8 + 8 * k) y = c + pcn (8 * k) (y / 256) := fun k y => by
    have ha : y % 256 < 256 := Nat.mod_lt _ (by decide)
    refine ⟨pcn 8 (y % 256), pcn8_le ⟨_, ha⟩, ?_, pcn_add 8 (8 * k) y⟩
    have := F_split k (y % 256) (y / 256) ha
    rwa [show y % 256 + 256 * (y / 256) = y by omega] at this
  obtain ⟨c0, h0, e0, p0⟩ := step 7 x
  obtain ⟨c1, h1, e1, p1⟩ := step 6 (x / 256)
  obtain ⟨c2, h2, e2, p2⟩ := step 5 (x / 256 / 256)
  obtain ⟨c3, h3, e3, p3⟩ := step 4 (x / 256 / 256 / 256)
  obtain ⟨c4, h4, e4, p4⟩ := step 3 (x / 256 / 256 / 256 / 256)
  obtain ⟨c5, h5, e5, p5⟩ := step 2 (x / 256 / 256 / 256 / 256 / 256)
  obtain ⟨c6, h6, e6, p6⟩ := step 1 (x / 256 / 256 / 256 / 256 / 256 / 256)
  obtain ⟨c7, h7, e7, p7⟩ := step 0 (x / 256 / 256 / 256 / 256 / 256 / 256 / 256)
  have ez : ∀ y, F 0 y = 0 := fun y => by simp [F, f1, f2, f3, mk8]
  refine ⟨c0, c1, c2, c3, c4, c5, c6, c7, h0, h1, h2, h3, h4, h5, h6, h7, ?_, ?_⟩
  · rw [e0, e1, e2, e3, e4, e5, e6, e7, ez]; rfl
  · have hp : ∀ y, pcn (8 * 0) y = 0 := fun y => rfl
    rw [siz_pcn, show (64 : Nat) = 8 + 8 * 7 from rfl, p0, show 8 * 7 = 8 + 8 * 6 from rfl, p1, show 8 * 6 = 8 + 8 * 5 from rfl, p2, show 8 * 5 = 8 + 8 * 4 from rfl, p3, show 8 * 4 = 8 + 8 * 3 from rfl, p4, show 8 * 3 = 8 + 8 * 2 from rfl, p5, show 8 * 2 = 8 + 8 * 1 from rfl, p6, show 8 * 1 = 8 + 8 * 0 from rfl, p7, hp]
    omega
/-- The last three additions. -/
theorem dv {u s T : Nat} (k : Nat) (h : u = s + k * T) (hs : s < k) : u / k = T := by
  rw [h, Nat.add_mul_div_left _ _ (by omega), Nat.div_eq_of_lt hs, Nat.zero_add]
theorem fold1 {y c0 c1 c2 c3 c4 c5 c6 c7 : Nat} (h0 : c0 ≤ 8) (hy : y = c0 + 256 * (c1 + 256 * (c2 + 256 * (c3 + 256 * (c4 + 256 * (c5 + 256 * (c6 + 256 * c7))))))) :
    y + y / 256 = (c0 + c1) + 256 * ((c1 + c2) + 256 * ((c2 + c3) + 256 * ((c3 + c4) + 256 * ((c4 + c5) + 256 * ((c5 + c6) + 256 * ((c6 + c7) + 256 * c7)))))) := by
  rw [dv 256 hy (by omega), hy]
  clear hy h0
  omega
theorem fold2 {y c0 c1 c2 c3 c4 c5 c6 c7 : Nat} (h0 : c0 ≤ 16) (h1 : c1 ≤ 16) (hy : y = c0 + 256 * (c1 + 256 * (c2 + 256 * (c3 + 256 * (c4 + 256 * (c5 + 256 * (c6 + 256 * c7))))))) :
    y + y / 65536 = (c0 + c2) + 256 * ((c1 + c3) + 256 * ((c2 + c4) + 256 * ((c3 + c5) + 256 * ((c4 + c6) + 256 * ((c5 + c7) + 256 * (c6 + 256 * c7)))))) := by
  have e : y = (c0 + 256 * c1) + 65536 * (c2 + 256 * (c3 + 256 * (c4 + 256 * (c5 + 256 * (c6 + 256 * c7))))) := by rw [hy]; clear hy h0 h1; omega
  rw [dv 65536 e (by clear e hy; omega), hy]
  clear e hy h0 h1
  omega
theorem fold4 {y c0 c1 c2 c3 c4 c5 c6 c7 : Nat} (h0 : c0 ≤ 32) (h1 : c1 ≤ 32) (h2 : c2 ≤ 32) (h3 : c3 ≤ 32) (hy : y = c0 + 256 * (c1 + 256 * (c2 + 256 * (c3 + 256 * (c4 + 256 * (c5 + 256 * (c6 + 256 * c7))))))) :
    y + y / 4294967296 = (c0 + c4) + 256 * ((c1 + c5) + 256 * ((c2 + c6) + 256 * ((c3 + c7) + 256 * (c4 + 256 * (c5 + 256 * (c6 + 256 * c7)))))) := by
  have e : y = (c0 + 256 * (c1 + 256 * (c2 + 256 * c3))) + 4294967296 * (c4 + 256 * (c5 + 256 * (c6 + 256 * c7))) := by rw [hy]; clear hy h0 h1 h2 h3; omega
  rw [dv 4294967296 e (by clear e hy; omega), hy]
  clear e hy h0 h1 h2 h3
  omega
theorem digs_lt {y c0 c1 c2 c3 c4 c5 c6 c7 : Nat} (h0 : c0 ≤ 64) (h1 : c1 ≤ 64) (h2 : c2 ≤ 64) (h3 : c3 ≤ 64) (h4 : c4 ≤ 64) (h5 : c5 ≤ 64) (h6 : c6 ≤ 64) (h7 : c7 ≤ 64) (hy : y = c0 + 256 * (c1 + 256 * (c2 + 256 * (c3 + 256 * (c4 + 256 * (c5 + 256 * (c6 + 256 * c7))))))) : y < 18446744073709551616 := by
  rw [hy]; clear hy; omega
/-- What OnesCount64 gives. -/
def ones (y : Nat) : Nat := ((y + y / 256) + (y + y / 256) / 65536) + ((y + y / 256) + (y + y / 256) / 65536) / 4294967296
theorem mod_low {a b : Nat} (h : a ≤ 64) : (a + 256 * b) % 128 = a := by rw [show 256 * b = 128 * (2 * b) by omega, Nat.add_mul_mod_self_left, Nat.mod_eq_of_lt (by omega)]
theorem ones_ok (x : Nat) : F 8 x < 18446744073709551616 ∧ F 8 x + F 8 x / 256 < 18446744073709551616 ∧ (F 8 x + F 8 x / 256) + (F 8 x + F 8 x / 256) / 65536 < 18446744073709551616 ∧ ones (F 8 x) < 18446744073709551616 ∧ ones (F 8 x) % 128 = siz x := by
  obtain ⟨c0, c1, c2, c3, c4, c5, c6, c7, h0, h1, h2, h3, h4, h5, h6, h7, hF, hs⟩ := F_sum x
  unfold ones
  revert hF hs
  generalize F 8 x = y
  intro hF hs
  have a0 : c0 + c1 ≤ 16 := Nat.add_le_add h0 h1
  have a1 : c1 + c2 ≤ 16 := Nat.add_le_add h1 h2
  have a2 : c2 + c3 ≤ 16 := Nat.add_le_add h2 h3
  have a3 : c3 + c4 ≤ 16 := Nat.add_le_add h3 h4
  have a4 : c4 + c5 ≤ 16 := Nat.add_le_add h4 h5
  have a5 : c5 + c6 ≤ 16 := Nat.add_le_add h5 h6
  have a6 : c6 + c7 ≤ 16 := Nat.add_le_add h6 h7
  have b0 : c0 + c1 + (c2 + c3) ≤ 32 := Nat.add_le_add a0 a2
  have b1 : c1 + c2 + (c3 + c4) ≤ 32 := Nat.add_le_add a1 a3
  have b2 : c2 + c3 + (c4 + c5) ≤ 32 := Nat.add_le_add a2 a4
  have b3 : c3 + c4 + (c5 + c6) ≤ 32 := Nat.add_le_add a3 a5
  have b4 : c4 + c5 + (c6 + c7) ≤ 32 := Nat.add_le_add a4 a6
  have b5 : c5 + c6 + c7 ≤ 24 := Nat.add_le_add a5 h7
  have w8 : (8 : Nat) ≤ 64 := by decide
  have w16 : (16 : Nat) ≤ 64 := by decide
  have w32 : (32 : Nat) ≤ 64 := by decide
  have w24 : (24 : Nat) ≤ 64 := by decide
  have q0 := digs_lt (Nat.le_trans h0 w8) (Nat.le_trans h1 w8) (Nat.le_trans h2 w8) (Nat.le_trans h3 w8) (Nat.le_trans h4 w8) (Nat.le_trans h5 w8) (Nat.le_trans h6 w8) (Nat.le_trans h7 w8) hF
  have e1 := fold1 h0 hF
  have q1 := digs_lt (Nat.le_trans a0 w16) (Nat.le_trans a1 w16) (Nat.le_trans a2 w16) (Nat.le_trans a3 w16) (Nat.le_trans a4 w16) (Nat.le_trans a5 w16) (Nat.le_trans a6 w16) (Nat.le_trans h7 w8) e1
  have e2 := fold2 a0 a1 e1
  have q2 := digs_lt (Nat.le_trans b0 w32) (Nat.le_trans b1 w32) (Nat.le_trans b2 w32) (Nat.le_trans b3 w32) (Nat.le_trans b4 w32) (Nat.le_trans b5 w24) (Nat.le_trans a6 w16) (Nat.le_trans h7 w8) e2
  have e3 := fold4 b0 b1 b2 b3 e2
  have q3 := digs_lt (show c0 + c1 + (c2 + c3) + (c4 + c5 + (c6 + c7)) ≤ 64 from Nat.add_le_add b0 b4) (show c1 + c2 + (c3 + c4) + (c5 + c6 + c7) ≤ 64 from Nat.le_trans (Nat.add_le_add b1 b5) (by decide)) (show c2 + c3 + (c4 + c5) + (c6 + c7) ≤ 64 from Nat.le_trans (Nat.add_le_add b2 a6) (by decide)) (show c3 + c4 + (c5 + c6) + c7 ≤ 64 from Nat.le_trans (Nat.add_le_add b3 h7) (by decide)) (Nat.le_trans b4 w32) (Nat.le_trans b5 w24) (Nat.le_trans a6 w16) (Nat.le_trans h7 w8) e3
  refine ⟨q0, q1, q2, q3, ?_⟩
  rw [e3, hs, mod_low (show c0 + c1 + (c2 + c3) + (c4 + c5 + (c6 + c7)) ≤ 64 from Nat.add_le_add b0 b4)]
  simp only [Nat.add_assoc]
theorem f_masks : mk8 0x55 8 = 6148914691236517205 ∧ mk8 0x33 8 = 3689348814741910323 ∧ mk8 0x0f 8 = 1085102592571150095 := by decide +kernel
end F10

/- A stable sort: sorted by its key, and for each key what has that key is as it was. Core Lean. -/
namespace SS
variable {α : Type} (k : α → Nat)
def Srt (a : List α) : Prop := a.Pairwise fun x y => k x ≤ k y
def Fil (a b : List α) : Prop := ∀ v, a.filter (fun x => k x == v) = b.filter (fun x => k x == v)
variable {k}
theorem Fil.refl (a : List α) : Fil k a a := fun _ => rfl
theorem Fil.symm {a b : List α} (h : Fil k a b) : Fil k b a := fun v => (h v).symm
theorem Fil.trans {a b c : List α} (h : Fil k a b) (h' : Fil k b c) : Fil k a c := fun v => (h v).trans (h' v)
theorem Fil.app {a b c d : List α} (h : Fil k a b) (h' : Fil k c d) : Fil k (a ++ c) (b ++ d) := fun v => by rw [List.filter_append, List.filter_append, h v, h' v]
theorem Fil.mem {a b : List α} (h : Fil k a b) {x : α} : x ∈ a ↔ x ∈ b := by
  have h1 : ∀ l : List α, x ∈ l ↔ x ∈ l.filter (fun y => k y == k x) := fun l => by simp
  rw [h1 a, h (k x), ← h1 b]
theorem Fil.len {a b : List α} (h : Fil k a b) : a.length = b.length := by
  have key : ∀ (n : Nat) (a b : List α), a.length ≤ n → Fil k a b → a.length = b.length := by
    intro n
    induction n with
    | zero =>
      intro a b ha h
      cases a with
      | cons x a => simp at ha
      | nil =>
        cases b with
        | nil => rfl
        | cons y b => have := (h.mem (x := y)).2 List.mem_cons_self; cases this
    | succ n ih =>
      intro a b ha h
      cases a with
      | nil =>
        cases b with
        | nil => rfl
        | cons y b => have := (h.mem (x := y)).2 List.mem_cons_self; cases this
      | cons x a =>
        have h1 : ∀ l : List α, l.length = (l.filter fun y => k y == k x).length + (l.filter fun y => !(k y == k x)).length := fun l => by
          induction l with
          | nil => rfl
          | cons y l ih => rw [List.filter_cons, List.filter_cons, List.length_cons, ih]; cases k y == k x <;> simp <;> omega
        have h2 : Fil k ((x :: a).filter fun y => !(k y == k x)) (b.filter fun y => !(k y == k x)) := fun v => by
          rw [List.filter_filter, List.filter_filter]
          have e : ∀ l : List α, l.filter (fun y => (k y == v) && !(k y == k x)) = if v = k x then [] else l.filter fun y => k y == v := fun l => by
            by_cases hv : v = k x
            · rw [if_pos hv, List.filter_eq_nil_iff]
              intro y _; rw [hv]; cases k y == k x <;> simp
            · rw [if_neg hv]
              refine List.filter_congr fun y _ => ?_
              by_cases hy : k y = v
              · simp [hy, hv]
              · simp [hy]
          rw [e, e, h v]
        have h3 : ((x :: a).filter fun y => !(k y == k x)).length ≤ n := by
          rw [List.filter_cons]
          simp only [beq_self_eq_true, Bool.not_true, Bool.false_eq_true, if_false]
          have := List.length_filter_le (fun y => !(k y == k x)) a
          simp at ha
          omega
        rw [h1 (x :: a), h1 b, h (k x), ih _ _ h3 h2]
  exact key a.length a b (Nat.le_refl _) h
/-- There is only one. -/
theorem uniq : ∀ {a b : List α}, Srt k a → Srt k b → Fil k a b → a = b
  | [], [], _, _, _ => rfl
  | [], y :: b, _, _, h => by have := (h.mem (x := y)).2 List.mem_cons_self; cases this
  | x :: a, [], _, _, h => by have := (h.mem (x := x)).1 List.mem_cons_self; cases this
  | x :: a, y :: b, ha, hb, h => by
    unfold Srt at ha hb
    rw [List.pairwise_cons] at ha hb
    have h1 : k x ≤ k y := by
      rcases List.mem_cons.1 ((h.mem (x := y)).2 List.mem_cons_self) with e | e
      · rw [e]; exact Nat.le_refl _
      · exact ha.1 y e
    have h2 : k y ≤ k x := by
      rcases List.mem_cons.1 ((h.mem (x := x)).1 List.mem_cons_self) with e | e
      · rw [e]; exact Nat.le_refl _
      · exact hb.1 x e
    have hk : k x = k y := Nat.le_antisymm h1 h2
    have hf := h (k x)
    rw [List.filter_cons, List.filter_cons, if_pos (by simp), if_pos (by simp [hk])] at hf
    injection hf with e1 e2
    subst e1
    have h3 : Fil k a b := fun v => by
      have := h v
      rw [List.filter_cons, List.filter_cons] at this
      by_cases hv : (k x == v) = true
      · rw [if_pos hv, if_pos hv] at this; exact List.tail_eq_of_cons_eq this
      · rw [if_neg hv, if_neg hv] at this; exact this
    rw [uniq ha.2 hb.2 h3]
/-- Neighbouring blocks may change places where all of the one are below all of the other. -/
theorem fil_swap {u v : List α} (h : ∀ x ∈ u, ∀ y ∈ v, k y < k x) : Fil k (u ++ v) (v ++ u) := fun z => by
  rw [List.filter_append, List.filter_append]
  by_cases hu : ∃ x ∈ u, k x = z
  · obtain ⟨x, hx, hz⟩ := hu
    have : v.filter (fun y => k y == z) = [] := List.filter_eq_nil_iff.2 fun y hy e => by
      have := h x hx y hy
      have := eq_of_beq e
      omega
    rw [this]; simp
  · have : u.filter (fun y => k y == z) = [] := List.filter_eq_nil_iff.2 fun y hy e => hu ⟨y, hy, eq_of_beq e⟩
    rw [this]; simp
/-- Insertion: x behind a sorted list goes to the left past all that are greater. -/
theorem ins_ok {p q : List α} {x : α} (hs : Srt k (p ++ q)) (hq : ∀ y ∈ q, k x < k y) (hp : ∀ y ∈ p, k y ≤ k x) : Srt k (p ++ x :: q) ∧ Fil k ((p ++ q) ++ [x]) (p ++ x :: q) := by
  unfold Srt at *
  rw [List.pairwise_append] at hs
  refine ⟨?_, ?_⟩
  · rw [List.pairwise_append, List.pairwise_cons]
    refine ⟨hs.1, ⟨fun y hy => Nat.le_of_lt (hq y hy), hs.2.1⟩, fun a ha b hb => ?_⟩
    rcases List.mem_cons.1 hb with rfl | hb
    · exact hp a ha
    · exact hs.2.2 a ha b hb
  · have := (Fil.refl (k := k) p).app (fil_swap (k := k) (u := q) (v := [x]) fun y hy z hz => by rw [List.mem_singleton.1 hz]; exact hq y hy)
    rw [← List.append_assoc] at this
    exact this
/-- A sorted list's last and first tell all. -/
theorem srt_last {p : List α} {x : α} (h : Srt k (p ++ [x])) : ∀ y ∈ p ++ [x], k y ≤ k x := by
  unfold Srt at h
  rw [List.pairwise_append] at h
  intro y hy
  rcases List.mem_append.1 hy with hy | hy
  · exact h.2.2 y hy x (by simp)
  · rw [List.mem_singleton.1 hy]; exact Nat.le_refl _
theorem srt_head {q : List α} {x : α} (h : Srt k (x :: q)) : ∀ y ∈ x :: q, k x ≤ k y := by
  unfold Srt at h
  rw [List.pairwise_cons] at h
  intro y hy
  rcases List.mem_cons.1 hy with rfl | hy
  · exact Nat.le_refl _
  · exact h.1 y hy
/-- One step of the merge: the middle blocks change places, each half is merged. -/
theorem sym_step {X1 X2 Y1 Y2 A B : List α} (hX : Srt k (X1 ++ X2)) (hY : Srt k (Y1 ++ Y2)) (h1 : ∀ x ∈ X1, ∀ y ∈ Y2, k x ≤ k y) (h2 : ∀ y ∈ Y1, ∀ x ∈ X2, k y < k x)
    (hA : Srt k A) (fA : Fil k A (X1 ++ Y1)) (hB : Srt k B) (fB : Fil k B (X2 ++ Y2)) : Srt k (A ++ B) ∧ Fil k (A ++ B) ((X1 ++ X2) ++ (Y1 ++ Y2)) := by
  unfold Srt at *
  rw [List.pairwise_append] at hX hY
  refine ⟨?_, ?_⟩
  · rw [List.pairwise_append]
    refine ⟨hA, hB, fun a ha b hb => ?_⟩
    rcases List.mem_append.1 (fA.mem.1 ha) with ha | ha <;> rcases List.mem_append.1 (fB.mem.1 hb) with hb | hb
    · exact hX.2.2 a ha b hb
    · exact h1 a ha b hb
    · exact Nat.le_of_lt (h2 a ha b hb)
    · exact hY.2.2 a ha b hb
  · refine (fA.app fB).trans ?_
    have := ((Fil.refl (k := k) X1).app (fil_swap (k := k) (u := X2) (v := Y1) fun x hx y hy => h2 y hy x hx)).app (Fil.refl (k := k) Y2)
    refine Fil.trans ?_ (this.symm.trans ?_)
    · rw [List.append_assoc, List.append_assoc, List.append_assoc]; exact Fil.refl _
    · rw [List.append_assoc, List.append_assoc, List.append_assoc]; exact Fil.refl _
/-- The two sides of the cut that the search leaves: what its last looks say. -/
theorem cut_le {X Y : List α} {x y : α} {p q : List α} (hX : Srt k X) (hY : Srt k Y) (ex : X = p ++ [x]) (ey : Y = y :: q) (h : k x ≤ k y) : ∀ a ∈ X, ∀ b ∈ Y, k a ≤ k b := by
  subst ex ey
  exact fun a ha b hb => Nat.le_trans (srt_last hX a ha) (Nat.le_trans h (srt_head hY b hb))
theorem cut_lt {X Y : List α} {x y : α} {p q : List α} (hX : Srt k X) (hY : Srt k Y) (ex : X = p ++ [x]) (ey : Y = y :: q) (h : k x < k y) : ∀ a ∈ X, ∀ b ∈ Y, k a < k b := by
  subst ex ey
  exact fun a ha b hb => Nat.lt_of_le_of_lt (srt_last hX a ha) (Nat.lt_of_lt_of_le h (srt_head hY b hb))
/-- What a stable sort is, written out over the keys. -/
def out (k : α → Nat) (n : Nat) (l : List α) : List α := (List.range n).flatMap fun v => l.filter fun x => k x == v
theorem out_srt (n : Nat) (l : List α) : Srt k (out k n l) := by
  unfold out
  induction n with
  | zero => exact List.Pairwise.nil
  | succ n ih =>
    rw [List.range_succ, List.flatMap_append]
    unfold Srt at *
    rw [List.pairwise_append]
    refine ⟨ih, ?_, fun a ha b hb => ?_⟩
    · simp only [List.flatMap_cons, List.flatMap_nil, List.append_nil]
      refine List.Pairwise.imp_of_mem (R := fun _ _ => True) (fun {x y} hx hy _ => ?_) (List.pairwise_of_forall fun _ _ => trivial)
      rw [eq_of_beq (List.mem_filter.1 hx).2, eq_of_beq (List.mem_filter.1 hy).2]; exact Nat.le_refl _
    · obtain ⟨v, hv, ha⟩ := List.mem_flatMap.1 ha
      simp only [List.flatMap_cons, List.flatMap_nil, List.append_nil] at hb
      rw [eq_of_beq (List.mem_filter.1 ha).2, eq_of_beq (List.mem_filter.1 hb).2]
      exact Nat.le_of_lt (List.mem_range.1 hv)
theorem out_fil {n : Nat} {l : List α} (h : ∀ x ∈ l, k x < n) : Fil k (out k n l) l := by
  intro v
  unfold out
  have e : ∀ m, ((List.range m).flatMap fun v => l.filter fun x => k x == v).filter (fun x => k x == v) = if v < m then l.filter (fun x => k x == v) else [] := by
    intro m
    induction m with
    | zero => simp
    | succ m ih =>
      rw [List.range_succ, List.flatMap_append, List.filter_append, ih]
      simp only [List.flatMap_cons, List.flatMap_nil, List.append_nil, List.filter_filter]
      by_cases h1 : v < m
      · rw [if_pos h1, if_pos (by omega)]
        have : l.filter (fun x => (k x == v) && (k x == m)) = [] := List.filter_eq_nil_iff.2 fun x _ e => by
          simp at e; omega
        rw [this, List.append_nil]
      · rw [if_neg h1]
        by_cases h2 : v = m
        · subst h2
          rw [if_pos (by omega), List.nil_append]
          exact List.filter_congr fun x _ => by simp
        · rw [if_neg (by omega), List.nil_append]
          exact List.filter_eq_nil_iff.2 fun x _ e => by simp at e; omega
  rw [e n]
  by_cases h1 : v < n
  · rw [if_pos h1]
  · rw [if_neg h1]
    exact (List.filter_eq_nil_iff.2 fun x hx e => by have := h x hx; have := eq_of_beq e; omega).symm
/-- So a stable sort's outcome is that. -/
theorem sorted_out {n : Nat} {l a : List α} (h : ∀ x ∈ l, k x < n) (hs : Srt k a) (hf : Fil k a l) : a = out k n l := uniq hs (out_srt n l) (hf.trans (out_fil h).symm)
end SS

end Go.Proofs.YthbkdjbmkhmlnaaDoor
