/- The size of a text that is to be written; a field as it is written. -/
import Derived.Test.YtanipgjojacbfaaDoorC7
namespace Go.Proofs.YtanipgjojacbfaaDoor
open Go.RowKit
set_option linter.unusedVariables false

def szF (d : UInt8) (f : Bs) : Nat := f.length + 1 + (if nqS d f then 2 + f.count 34 else 0)
def szR (d : UInt8) (r : List Bs) : Nat := (r.map (szF d)).sum
def szL (d : UInt8) (l : List (List Bs)) : Nat := (l.map (szR d)).sum
theorem wrF_len (d : UInt8) (f : Bs) : (wrF d f).length + 1 = szF d f := by
  unfold wrF szF
  cases h : nqS d f with
  | false => simp
  | true =>
    have := dqS_len f
    simp
    omega
theorem wrFs_len (d : UInt8) {r : List Bs} (h : r ≠ []) : (wrFs d r).length + 1 = szR d r := by
  unfold wrFs szR
  have e : ∀ l : List Bs, (l.flatMap fun f => d :: wrF d f).length = (l.map (szF d)).sum := by
    intro l
    induction l with
    | nil => rfl
    | cons f l ih => rw [List.flatMap_cons, List.length_append, ih, List.map_cons, List.sum_cons, ← wrF_len]; rfl
  obtain ⟨f, r, rfl⟩ := List.exists_cons_of_ne_nil h
  rw [List.length_tail, e]
  simp only [List.map_cons, List.sum_cons, ← wrF_len]
  omega
theorem wrL_len (d : UInt8) : ∀ {l : List (List Bs)}, (∀ r ∈ l, r ≠ []) → (wrL d l).length = szL d l
  | [], _ => rfl
  | r :: l, h => by
    have ih := wrL_len d (l := l) (fun q hq => h q (List.mem_cons_of_mem _ hq))
    have h1 := wrFs_len d (h r List.mem_cons_self)
    unfold wrL szL at *
    rw [List.flatMap_cons, List.length_append, ih, List.map_cons, List.sum_cons]
    unfold wrR
    rw [List.length_append]
    show (wrFs d r).length + 1 + _ = _
    rw [h1]
theorem szF_le (d : UInt8) {f : Bs} (h : f.length ≤ 1000) : szF d f ≤ 2003 := by
  unfold szF
  have : f.count 34 ≤ f.length := List.count_le_length
  split <;> omega
theorem szR_le (d : UInt8) {r : List Bs} {m : Nat} (hm : r.length ≤ m) (h : ∀ f ∈ r, f.length ≤ 1000) : szR d r ≤ m * 2003 := by
  induction r generalizing m with
  | nil => exact Nat.zero_le _
  | cons f r ih =>
    rw [List.length_cons] at hm
    have := ih (m := m - 1) (by omega) (fun q hq => h q (List.mem_cons_of_mem _ hq))
    have h1 := szF_le d (h f List.mem_cons_self)
    have e : szR d (f :: r) = szF d f + szR d r := by unfold szR; rw [List.map_cons, List.sum_cons]
    rw [e]
    obtain ⟨k, rfl⟩ : ∃ k, m = k + 1 := ⟨m - 1, by omega⟩
    rw [Nat.add_sub_cancel] at this
    rw [Nat.add_mul]
    omega
theorem szL_le (d : UInt8) {l : List (List Bs)} {n : Nat} (hn : l.length ≤ n) (h : ∀ r ∈ l, r.length ≤ 32 ∧ ∀ f ∈ r, f.length ≤ 1000) : szL d l ≤ n * 64096 := by
  induction l generalizing n with
  | nil => exact Nat.zero_le _
  | cons r l ih =>
    rw [List.length_cons] at hn
    have := ih (n := n - 1) (by omega) (fun q hq => h q (List.mem_cons_of_mem _ hq))
    have h0 := h r List.mem_cons_self
    have h1 := szR_le d h0.1 h0.2
    have e : szL d (r :: l) = szR d r + szL d l := by unfold szL; rw [List.map_cons, List.sum_cons]
    rw [e]
    obtain ⟨k, rfl⟩ : ∃ k, n = k + 1 := ⟨n - 1, by omega⟩
    rw [Nat.add_sub_cancel] at this
    rw [Nat.add_mul]
    omega
theorem szR_snoc (d : UInt8) (r : List Bs) {j : Nat} {f : Bs} (h : r[j]? = some f) : szR d (r.take (j + 1)) = szR d (r.take j) + szF d f := by
  unfold szR; rw [List.take_add_one, h]; simp
theorem szL_snoc (d : UInt8) (l : List (List Bs)) {j : Nat} {r : List Bs} (h : l[j]? = some r) : szL d (l.take (j + 1)) = szL d (l.take j) + szR d r := by
  unfold szL; rw [List.take_add_one, h]; simp
/-- Few and short fields. -/
def Sm (l : List (List Bs)) : Prop := l.length ≤ 1024 ∧ ∀ r ∈ l, r.length ≤ 32 ∧ ∀ f ∈ r, f.length ≤ 1000
theorem Sm.take {d : UInt8} {l : List (List Bs)} (h : Sm l) (i : Nat) : szL d (l.take i) ≤ 65634304 := by
  have := szL_le d (l := l.take i) (n := 1024) (by rw [List.length_take]; have := h.1; omega) (fun r hr => h.2 r (List.mem_of_mem_take hr))
  omega
theorem Sm.takeR {d : UInt8} {l : List (List Bs)} (h : Sm l) {r : List Bs} (hr : r ∈ l) (i : Nat) : szR d (r.take i) ≤ 64096 := by
  have h0 := h.2 r hr
  have := szR_le d (r := r.take i) (m := 32) (by rw [List.length_take]; omega) (fun f hf => h0.2 f (List.mem_of_mem_take hf))
  omega
theorem count34 (f : Bs) (W : World) : Calls Tryd.prog 33 #[.string (bA f), .string ⟨#[34]⟩] W fun e w' => e = .returned (.int .i64 ((f.count 34 : Nat) : Int)) ∧ w' = W := Tryd.strings_Count_one (bA f) 34 W

set_option maxRecDepth 100000 in
set_option maxHeartbeats 4000000 in
theorem size_any (R : List Row) (A : Option Addr) (c : Nat) (d : UInt8) (w : World) (h : MR w A R.length R) (hd : isD d = true) (hS : Sm (R.map Row.fs)) :
    Calls Tryd.prog 39 #[.slice A R.length c, .int .u8 d.toNat] w fun e w' => e = .returned (.int .i64 ((szL d (R.map Row.fs) : Nat) : Int)) ∧ Below w.heap.size w w' := by
  have hN := Lib.hid (fun f W hf => needsQuotes_any (bA f) d W hd (by rw [bA_size]; exact hf))
  have hC := Lib.hid (fun f W => count34 f W)
  have hSm := Lib.hid hS
  have hRl : R.length ≤ 1024 := by have := hS.1; rw [List.length_map] at this; exact this
  have hRz : (R.length : Int) ≤ 1024 := by omega
  replace h := Lib.hid h
  obtain ⟨n, hn⟩ : ∃ n, n = R.length := ⟨_, rfl⟩
  rw [← hn] at h hRz ⊢
  replace hn := Lib.hid hn
  clear hS hd hRl
  go_enter Tryd.func39, Tryd.ntmps39
  go_wp2
  go_loopw [5, 7, 9, 12] (fun sv _ _ iv wr => ∃ i : Nat, i ≤ n ∧ iv = .int .i64 i ∧ sv = .int .i64 ((szL d ((R.map Row.fs).take i) : Nat) : Int) ∧ Below w.heap.size w wr) (fun _ _ _ iv _ => n - (intOf iv).toNat)
  case atStart => exact ⟨0, Nat.zero_le _, rfl, rfl, Below.refl _ _⟩
  case round =>
    obtain ⟨i, hin, rfl, rfl, hb⟩ := hrel
    by_cases hlt : i < n
    · have hm := h.out.bel hb
      obtain ⟨b1, o1, r, rfl, hx, hrR, e1⟩ := hm.get hlt
      have hrow := Lib.hid (hm.row r hrR)
      have hxf : (R.map Row.fs)[i]? = some r.fs := by rw [List.getElem?_map, hx]; rfl
      have hrm : r.fs ∈ R.map Row.fs := List.mem_map_of_mem hrR
      have hsn := Lib.hid (szL_snoc d _ hxf)
      have hB1 := hSm.out.take (d := d) i
      have hB2 := Lib.hid (fun j => hSm.out.takeR (d := d) hrm j)
      have hfl := Lib.hid (hSm.out.2 r.fs hrm)
      have g2 : (i : Int) < (n : Int) := by omega
      have g3 : (0 : Int) ≤ (i : Int) := by omega
      have hlh := Lib.hid hlt
      have hi63 : (i : Int) ≤ 1024 := by omega
      generalize szL d ((R.map Row.fs).take i) = S at *
      have hSz : (S : Int) ≤ 65634304 := by omega
      have hrl : (r.fs.length : Int) ≤ 32 := by have := hfl.out.1; omega
      replace hb := Lib.hid hb
      replace hB1 := Lib.hid hB1
      clear hin hlt hm hx hrR hxf hrm
      obtain ⟨m, hm⟩ : ∃ m, m = r.fs.length := ⟨_, rfl⟩
      rw [← hm] at hrow hrl e1
      replace hm := Lib.hid hm
      go_wp2
      go_loopw [5, 9, 18] (fun sv _ jv wr => ∃ j : Nat, j ≤ m ∧ jv = .int .i64 j ∧ sv = .int .i64 ((S + szR d (r.fs.take j) : Nat) : Int) ∧ Below w.heap.size w wr ∧ SR wr r.A m r.fs) (fun _ _ jv _ => m - (intOf jv).toNat)
      case atStart => exact ⟨0, Nat.zero_le _, rfl, rfl, hb.out, hrow.out⟩
      case round =>
        clear e1 hrow
        obtain ⟨j, hjn, rfl, rfl, hb2, hsr⟩ := hrel
        replace hb := hb2
        by_cases hjlt : j < m
        · obtain ⟨b2, o2, f, rA, hy, e2⟩ := hsr.get hjlt
          have hfm := hfl.out.2 f (List.mem_of_getElem? hy)
          have hsz : ((bA f).size : Int) = (f.length : Int) := by rw [bA_size]
          have hszl : (f.length : Int) ≤ 1000 := by omega
          have hN1 := Lib.hid (fun W => hN.out f W (by omega))
          rw [bA_list] at hN1
          have hC1 := Lib.hid (fun W => hC.out f W)
          have hsn2 := Lib.hid (szR_snoc d _ hy)
          have hcl : f.count 34 ≤ f.length := List.count_le_length
          have hcz : ((f.count 34 : Nat) : Int) ≤ 1000 := by omega
          have hT := hB2.out j
          generalize hTT : szR d (r.fs.take j) = T at *
          have hTz : ((S + T : Nat) : Int) ≤ 65700000 := by have := hB1.out; omega
          have hT0 : (0 : Int) ≤ ((S + T : Nat) : Int) := by omega
          have k2 : (j : Int) < (m : Int) := by omega
          have k3 : (0 : Int) ≤ (j : Int) := by omega
          have k4 : (j : Int) ≤ 32 := by omega
          have hjh := Lib.hid hjlt
          replace hsr := Lib.hid hsr
          replace hb := Lib.hid hb
          replace hfm := Lib.hid hfm
          replace hTT := Lib.hid hTT
          generalize hSTe : S + T = ST at *
          replace hSTe := Lib.hid hSTe
          clear hb2 hjn hjlt hy hT hcl
          rw [rA] at *
          clear rA
          cases hq : nqS d f with
          | true =>
            have hfs : Hid (szF d f = f.length + 1 + (2 + f.count 34)) := Lib.hid (by unfold szF; rw [hq]; rfl)
            rw [hq] at hN1
            go_wp2_with fail
            refine (hN1.out _).mono ?_
            rintro e w2 ⟨rfl, hb3⟩
            have hb4 := Lib.hid (hb.out.trans (hb3.mono hb.out.size))
            have hsr4 := Lib.hid (hsr.out.bel hb3)
            clear hb3 hN1 hb hsr
            go_wp2_with fail
            refine (hC1.out _).mono ?_
            rintro e w3 ⟨rfl, hw⟩
            subst hw
            clear hC1
            go_wp2
            go_roundw
            case rel => exact ⟨j + 1, by have := hjh.out; omega, by go_num, by rw [hsn2.out, hfs.out, ← Nat.add_assoc, hSTe.out]; (congr 1 <;> omega), hb4.out, hsr4.out⟩
            case measure => simp [intOf]; have := hjh.out; omega
          | false =>
            have hfs : Hid (szF d f = f.length + 1) := Lib.hid (by unfold szF; rw [hq]; rfl)
            rw [hq] at hN1
            go_wp2_with fail
            refine (hN1.out _).mono ?_
            rintro e w2 ⟨rfl, hb3⟩
            have hb4 := Lib.hid (hb.out.trans (hb3.mono hb.out.size))
            have hsr4 := Lib.hid (hsr.out.bel hb3)
            clear hb3 hN1 hb hsr hC1
            go_wp2
            go_roundw
            case rel => exact ⟨j + 1, by have := hjh.out; omega, by go_num, by rw [hsn2.out, hfs.out, ← Nat.add_assoc, hSTe.out]; (congr 1 <;> omega), hb4.out, hsr4.out⟩
            case measure => simp [intOf]; have := hjh.out; omega
        · obtain rfl : j = m := by omega
          have htk : Hid (S + szR d (r.fs.take j) = szL d ((R.map Row.fs).take (i + 1))) := Lib.hid (by rw [hsn.out, hm.out, List.take_length])
          rw [htk.out]
          replace hb := Lib.hid hb
          clear hb2 hsr hjn hjlt
          go_wp2
          go_roundw
          case rel => exact ⟨i + 1, by have := hlh.out; omega, by go_num, rfl, hb.out⟩
          case measure => simp [intOf]; have := hlh.out; omega
    · obtain rfl : i = n := by omega
      have hfin : Hid ((R.map Row.fs).take i = R.map Row.fs) := Lib.hid (List.take_of_length_le (by rw [List.length_map, hn.out]; exact Nat.le_refl _))
      rw [hfin.out]
      replace hb := Lib.hid hb
      clear hin hlt
      go_wp2
      go_ret
      exact ⟨rfl, hb.out⟩
end Go.Proofs.YtanipgjojacbfaaDoor
