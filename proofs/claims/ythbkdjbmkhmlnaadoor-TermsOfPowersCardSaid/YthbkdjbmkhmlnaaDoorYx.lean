/- Law 10: powers of sums; what is wanted. -/
import Derived.Test.YthbkdjbmkhmlnaaDoorB28
namespace Go.Proofs.YthbkdjbmkhmlnaaDoor
open Go.RowKit
set_option linter.unusedVariables false

def nmB (i : Nat) : ByteArray := ⟨#[UInt8.ofNat (97 + i)]⟩
theorem sum_zero : (F10.sumT 0).pre.map toNd = [⟨1, nmB 0, 0⟩] := rfl
theorem sum_pre (i : Nat) : (F10.sumT (i + 1)).pre.map toNd = ⟨5, ⟨#[]⟩, 0⟩ :: ((F10.sumT i).pre.map toNd ++ [⟨1, nmB (i + 1), 0⟩]) := by
  show (⟨5, [], 0⟩ :: ((F10.sumT i).pre ++ (F10.varT (i + 1)).pre) : List F9.Nd).map toNd = _
  rw [List.map_cons, List.map_append]; rfl
theorem sum_len : ∀ i, (F10.sumT i).pre.length = 2 * i + 1
  | 0 => rfl
  | i + 1 => by
    show (⟨5, [], 0⟩ :: ((F10.sumT i).pre ++ (F10.varT (i + 1)).pre) : List F9.Nd).length = _
    rw [List.length_cons, List.length_append, sum_len i]
    show 2 * i + 1 + 1 + 1 = _
    omega
theorem sum_wf : ∀ i, i < 6 → (F10.sumT i).wf
  | 0, _ => .inl ⟨rfl, by decide +kernel, rfl⟩
  | i + 1, h => by
    refine ⟨by decide, by decide, sum_wf i (by omega), .inl ⟨rfl, ?_, rfl⟩⟩
    have hc : i = 0 ∨ i = 1 ∨ i = 2 ∨ i = 3 ∨ i = 4 := by omega
    rcases hc with rfl | rfl | rfl | rfl | rfl <;> decide +kernel
theorem hat_pre (p i : Nat) : (F9.Tr.hat p (F10.sumT i)).pre.map toNd = ⟨10, ⟨#[]⟩, (p : Int)⟩ :: (F10.sumT i).pre.map toNd := rfl
theorem hat_wf {p i : Nat} (h1 : 1 ≤ p) (h6 : p ≤ 6) (hi : i < 6) : (F9.Tr.hat p (F10.sumT i)).wf := ⟨h1, h6, sum_wf i hi⟩
theorem y_name : nameB ⟨#[121]⟩ = true := by decide +kernel
theorem hat_frm {p i : Nat} (h1 : 1 ≤ p) (h6 : p ≤ 6) (hi : i < 6) : frmB ⟨#[121]⟩ ((F9.Tr.hat p (F10.sumT i)).pre.map toNd) = true :=
  tree_frm (hat_wf h1 h6 hi) y_name (by
    show ((⟨10, [], p⟩ :: (F10.sumT i).pre : List F9.Nd)).length ≤ 64
    rw [List.length_cons, sum_len]; omega)
/-- What Expand gives of a power of a sum. -/
theorem pow_exp {v p : Nat} (hv1 : v < 6) (hp1 : 1 ≤ p) (hp6 : p ≤ 6) {w w' : World} {e : Ending} (h : ExpV w w' e ⟨#[121]⟩ (F9.Tr.hat p (F10.sumT v))) :
    ∃ sv bz TA tn tc ev, e = .returned (.tuple #[.agg #[.string sv, .bool bz, .slice TA tn tc], .int .i64 ev]) ∧ Below w.heap.size w w' ∧
      ((ev = 2 ∧ 32 < F10.wantN (v + 1) p + 1) ∨ (ev = 0 ∧ ¬ 32 < F10.wantN (v + 1) p + 1 ∧ bz = true ∧ tn = F10.wantN (v + 1) p ∧ ∀ W, Below w'.heap.size w' W → Calls Tryd.prog 14 #[.agg #[.string sv, .bool bz, .slice TA tn tc]] W fun e W' => e = .returned (.bool true) ∧ Below W.heap.size W W')) := by
  have hq := F10.powers ⟨v, hv1⟩ ⟨p - 1, by omega⟩
  rw [show ((⟨p - 1, by omega⟩ : Fin 6) : Nat) + 1 = p by show p - 1 + 1 = p; omega] at hq
  show _
  unfold F10.powOk at hq
  rw [show (((⟨v, hv1⟩ : Fin 6) : Nat) + 1) - 1 = v by show v + 1 - 1 = v; omega] at hq
  unfold ExpV at h
  cases hr : F10.rex (.hat p (F10.sumT v)) with
  | none =>
    rw [hr] at h hq
    obtain ⟨rfl, hb⟩ := h
    exact ⟨_, _, _, _, _, _, rfl, hb, .inl ⟨rfl, of_decide_eq_true hq⟩⟩
  | some m =>
    rw [hr] at h hq
    obtain ⟨A, c, Ts, ob, rfl, hc, S, hI, hmap⟩ := h
    simp only [Bool.and_eq_true, decide_eq_true_eq, beq_iff_eq] at hq
    obtain ⟨⟨q1, q2⟩, q3⟩ := hq
    have hw := hat_wf hp1 hp6 hv1
    have hfr := hat_frm hp1 hp6 hv1
    have hmd := mdl_ok hw hfr hr
    have hsh := wf_shp hw
    have hl : (F9.Tr.hat p (F10.sumT v)).pre.length ≤ 64 := by have := (frm_len hfr).1; rwa [List.length_map] at this
    have lA : (F10.atoms (F9.Tr.hat p (F10.sumT v)) []).length ≤ 64 := by have := F10.atoms_len (F9.Tr.hat p (F10.sumT v)) []; simp only [List.length_nil] at this; omega
    have hb := rex_bits hsh hl hr
    have hsm := F10.expand_same (F9.Tr.hat p (F10.sumT v)) hsh
    rw [hr] at hsm
    have hlen : Ts.length = F10.wantN (v + 1) p := by
      have h1 := congrArg List.length hmap
      rw [List.length_map, List.length_map, F10.mdT_len hsm.2.2.2.2 lA hb] at h1
      omega
    have hT := (hI w ob (fun p hp => hp)).lr S
    rw [← hmap] at hmd
    refine ⟨_, _, _, _, _, _, rfl, S.bel, .inr ⟨rfl, by omega, q2, hlen, fun W hW => ?_⟩⟩
    have := tvalid_any ⟨#[121]⟩ (m.contains 0) Ts A Ts.length c W (hT.bel hW) hc (by omega) (fun z hz => by have := (hmd.2 z.L (List.mem_map_of_mem hz)).1; omega)
    rwa [hmd.1] at this
theorem names_get {W : World} {nb t : Nat} (h : Cb W nb #[.string ⟨#[97]⟩, .string ⟨#[98]⟩, .string ⟨#[99]⟩, .string ⟨#[100]⟩, .string ⟨#[101]⟩, .string ⟨#[102]⟩] t) {i : Nat} (hi : i < 6) : W.cell? ⟨nb, i, none⟩ = some (.string (nmB i)) := by
  have hc : i = 0 ∨ i = 1 ∨ i = 2 ∨ i = 3 ∨ i = 4 ∨ i = 5 := by omega
  rcases hc with rfl | rfl | rfl | rfl | rfl | rfl <;> exact h.cell rfl
/-- The bits of a number below a place. -/
def low (s i : Nat) : Nat := ((List.range i).filter (s.testBit ·)).length
theorem low_succ (s i : Nat) : low s (i + 1) = low s i + (s / 2 ^ i) % 2 := by
  unfold low
  rw [List.range_succ, List.filter_append, List.length_append]
  have : ((List.filter (fun x => s.testBit x) [i]).length) = (s / 2 ^ i) % 2 := by
    rw [List.filter_cons, List.filter_nil, Nat.testBit_eq_decide_div_mod_eq]
    rcases Nat.mod_two_eq_zero_or_one (s / 2 ^ i) with h | h <;> simp [h]
  rw [this]
theorem low_all {s v : Nat} (hs : s < 2 ^ v) (hv : v ≤ 64) : low s v = F10.siz s := by
  unfold low F10.siz
  obtain ⟨d, hd⟩ : ∃ d, 64 = v + d := ⟨64 - v, by omega⟩
  rw [hd, List.range_add, List.filter_append, List.length_append]
  have : ((List.range d).map (v + ·)).filter (s.testBit ·) = [] := by
    rw [List.filter_eq_nil_iff]
    intro x hx
    obtain ⟨k, _, rfl⟩ := List.mem_map.1 hx
    have : s.testBit (v + k) = false := Nat.testBit_lt_two_pow (Nat.lt_of_lt_of_le hs (Nat.pow_le_pow_right (by decide) (by omega)))
    rw [this]; simp
  rw [this]; rfl
theorem low_le (s i : Nat) : low s i ≤ i := by
  unfold low
  exact Nat.le_trans (List.length_filter_le _ _) (by rw [List.length_range]; exact Nat.le_refl _)
/-- How many of the first sets are wanted. -/
def wnt (p j : Nat) : Nat := ((List.range j).map (· + 1)).countP fun s => decide (F10.siz s ≤ p)
theorem wnt_succ (p j : Nat) : wnt p (j + 1) = wnt p j + if F10.siz (j + 1) ≤ p then 1 else 0 := by
  unfold wnt
  rw [List.range_succ, List.map_append, List.countP_append]
  simp [List.countP_cons]
theorem wnt_all (v p : Nat) : F10.wantN v p = wnt p (2 ^ v - 1) := rfl
theorem wnt_le (p j : Nat) : wnt p j ≤ j := by
  unfold wnt
  refine Nat.le_trans (List.countP_le_length) ?_
  rw [List.length_map, List.length_range]; exact Nat.le_refl _
theorem name_siz {s : ByteArray} (h : nameB s = true) : s.size ≤ 32 := by
  rcases Nat.eq_zero_or_pos s.size with h0 | h0
  · omega
  · rw [nameB_cons h0] at h
    simp only [Bool.and_eq_true, decide_eq_true_eq] at h
    exact h.1.1.1
theorem wf_siz {tr : F9.Tr} (h : tr.wf) : ∀ x ∈ tr.pre.map toNd, x.s.size ≤ 100000 := by
  intro x hx
  obtain ⟨y, hy, rfl⟩ := List.mem_map.1 hx
  have hok := wf_node h y hy
  obtain ⟨op, nm, k⟩ := y
  have key : nameL nm = true → (⟨nm.toArray⟩ : ByteArray).size ≤ 100000 := fun hn => Nat.le_trans (name_siz (by rw [nameB_arr]; exact hn)) (by decide)
  show (⟨nm.toArray⟩ : ByteArray).size ≤ 100000
  rcases hok with (h | h | h) | h | h
  · exact key h.2.1
  · exact key h.2.1
  · have : nm = [] := h.2.1
    rw [this]; decide
  · have : nm = [] := h.2.1
    rw [this]; decide
  · have : nm = [] := h.2.2.1
    rw [this]; decide
theorem shl_v {V : Nat} (h : V ≤ 6) : wrap64 (2 ^ min (IntKind.u64.wrap (V : Int)).toNat 64) = ((2 ^ V : Nat) : Int) := by
  have hc : V = 0 ∨ V = 1 ∨ V = 2 ∨ V = 3 ∨ V = 4 ∨ V = 5 ∨ V = 6 := by omega
  rcases hc with rfl | rfl | rfl | rfl | rfl | rfl | rfl <;> (rw [IntKind.wrap_u64, w64, IntKind.wrap_i64]; decide)
theorem bit_i64 (x : Nat) (h : x < 9223372036854775808) : bits .and .i64 (x : Int) 1 = ((x % 2 : Nat) : Int) := by
  show IntKind.i64.wrap ((BitVec.ofInt 64 (x : Int) &&& BitVec.ofInt 64 ((1 : Nat) : Int)).toNat : Int) = _
  rw [BitVec.toNat_and, ofInt_u64 x (by omega), ofInt_u64 1 (by omega), Nat.and_one_is_mod, IntKind.wrap_i64]
  omega
theorem low_step {j k : Nat} (hj : j + 1 ≤ 64) (hk : k ≤ 6) : wrap64 (((low (j + 1) k : Nat) : Int) + bits .and .i64 (((j : Int) + 1) / 2 ^ min (IntKind.u64.wrap (k : Int)).toNat 64) 1) = ((low (j + 1) (k + 1) : Nat) : Int) := by
  have e1 : (IntKind.u64.wrap (k : Int)).toNat = k := by rw [IntKind.wrap_u64]; omega
  have e2 : min k 64 = k := by omega
  have e3 : ((j : Int) + 1) / 2 ^ k = (((j + 1) / 2 ^ k : Nat) : Int) := by rw [Int.natCast_ediv, Int.natCast_pow]; rfl
  have e4 : (j + 1) / 2 ^ k < 9223372036854775808 := Nat.lt_of_le_of_lt (Nat.div_le_self _ _) (by omega)
  rw [e1, e2, e3, bit_i64 _ e4, low_succ, w64, IntKind.wrap_i64]
  have := low_le (j + 1) k
  generalize (j + 1) / 2 ^ k = z
  omega
end Go.Proofs.YthbkdjbmkhmlnaaDoor
