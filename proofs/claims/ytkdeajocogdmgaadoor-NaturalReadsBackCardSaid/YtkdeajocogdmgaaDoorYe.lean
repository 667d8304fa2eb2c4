import Derived.Test.YtkdeajocogdmgaaDoorYd
namespace Go.Proofs.YtkdeajocogdmgaaDoor
open Go.RowKit
theorem nDigits_le : ∀ (k u : Nat), u < 10 ^ (k + 1) → Lib.nDigits u ≤ k + 1
  | 0, u, h => by rw [Lib.nDigits_small (by simpa using h)]; omega
  | k + 1, u, h => by
    by_cases hu : u < 10
    · rw [Lib.nDigits_small hu]; omega
    · rw [Nat.pow_succ] at h
      rw [Lib.nDigits_big hu]
      have := nDigits_le k (u / 10) (by omega)
      omega
theorem digits_bn {u n : Nat} (h : u < 4294967296 ^ n) : (Lib.decDigits u).length ≤ 10 * n + 1 := by
  rw [Lib.decDigits_length]
  apply nDigits_le (10 * n)
  have h1 : 4294967296 ^ n ≤ (10 ^ 10) ^ n := Nat.pow_le_pow_left (by decide) _
  rw [← Nat.pow_mul] at h1
  have h2 : 10 ^ (10 * n) ≤ 10 ^ (10 * n + 1) := Nat.pow_le_pow_right (by decide) (by omega)
  omega
theorem digits_bd {u n : Nat} (h : u < 4294967296 ^ n) (hn : n ≤ 1000) : (Lib.decDigits u).length ≤ 10001 := by
  have := digits_bn h
  omega
theorem conv_one (W : World) (d : Nat) (hd : d < 10) : (convert 62 9 (.slice (some ⟨W.heap.size, 0, none⟩) 1 1)).run Tryd.prog (W.alloc (.cells #[.int .u8 (48 + (d : Int))] 5)) =
    .ok (.string ⟨#[UInt8.ofNat (48 + d)]⟩) (W.alloc (.cells #[.int .u8 (48 + (d : Int))] 5)) := by
  refine run_convert_bytes_back (P := Tryd.prog) _ 62 9 5 ⟨W.heap.size, 0, none⟩ 1 [UInt8.ofNat (48 + d)] Tryd.underlying62 Tryd.underlying5 Tryd.underlying9 ?_
  intro j hj
  have hj0 : j = 0 := by simpa using hj
  subst hj0
  have : (⟨W.heap.size, 0, none⟩ : Addr).add 0 = ⟨W.heap.size, 0, none⟩ := rfl
  rw [this, cell_of_row _ W.heap.size 0 #[.int .u8 (48 + (d : Int))] 5 (0, 0) (heap_alloc_new W _)]
  have e : (UInt8.ofNat (48 + d)).toNat = 48 + d := by rw [UInt8.toNat_ofNat']; omega
  simp
  omega

set_option maxHeartbeats 2000000 in
theorem rformat_any (A : Option Addr) (n c : Nat) (xs : List Nat) (w : World) (h : Rd w A n c xs) (hn : n ≤ 1000) :
    Calls Tryd.prog 17 #[.slice A n c] w fun e w' => e = .returned (.string ⟨(Lib.decDigits (num xs)).toArray⟩) ∧ Below w.heap.size w w' := by
  obtain ⟨N, hN⟩ : ∃ N, num xs = N := ⟨_, rfl⟩
  have ht := take_any A n c xs w h (by omega)
  rw [hN] at ht ⊢
  obtain ⟨D, hD⟩ : ∃ D, Lib.decDigits N = D := ⟨_, rfl⟩
  rw [hD]
  have hDl : D.length ≤ 10001 := by
    rw [← hD]
    refine digits_bd (n := n) ?_ hn
    rw [← hN, ← h.len]
    exact num_lt h.sm
  replace hDl := Lib.hid hDl
  replace hD := Lib.hid hD
  replace ht := Lib.hid ht
  replace hN := Lib.hid hN
  replace h := Lib.hid h
  go_enter Tryd.func17, Tryd.ntmps17
  go_wp2_with (go_at_call 64; refine ht.out.mono ?_; rintro e w1 ⟨A1, n1, c1, rfl, R1, B1, l1⟩; refine Hid.out ?_)
  refine Lib.hid ?_
  replace R1 := Lib.hid R1
  replace B1 := Lib.hid B1
  go_wp2
  go_loopg [0, 3] N (fun x av sv wr => ∃ (m k : Nat) (A : Option Addr) (t : ByteArray), av = .slice A m k ∧ m ≤ 1000 ∧ Rd wr A m k (limbs x) ∧ sv = .string t ∧ D = Lib.decDigits x ++ t.data.toList ∧ D.length = (Lib.decDigits x).length + t.size ∧ Below w.heap.size w wr)
  case atStart => exact ⟨_, _, _, _, rfl, by omega, R1.out, rfl, by rw [← hD.out]; simp, by rw [← hD.out]; rfl, B1.out⟩
  case round =>
    obtain ⟨m, k, A2, t, rfl, hm, R, rfl, hdd, hts, hB⟩ := hrel
    have hx0 : (limbs (gk % 10)).getD 0 0 = gk % 10 := by
      rcases Nat.eq_zero_or_pos (gk % 10) with h0 | h0
      · rw [h0, limbs_zero]; rfl
      · rw [limbs_pos h0]; simp; omega
    have hdiv := fun (W : World) (A' : Option Addr) (h1 : Rd W A2 m k (limbs gk)) (h2 : Rd W A' 1 1 [10]) => rdiv_any A2 m k (limbs gk) A' 1 1 [10] W h1 h2 (by omega) (by omega) (by decide)
    rw [num_limbs, show num [10] = 10 from by decide] at hdiv
    replace R := Lib.hid R
    obtain ⟨d, hd⟩ : ∃ d, gk % 10 = d := ⟨_, rfl⟩
    have hd10 : d < 10 := by omega
    rw [hd] at hx0
    replace hd := Lib.hid hd
    replace hB := Lib.hid hB
    replace hdd := Lib.hid hdd
    replace hts := Lib.hid hts
    replace hdiv := Lib.hid hdiv
    replace hx0 := Lib.hid hx0
    go_wp2_with (first
      | (go_at_call 65; refine (hdiv.out _ _ (R.out.alloc _) (lit1 _ _ _ _ rfl rfl (by omega))).mono ?_; rintro e w2 ⟨Aq, nq, cq, Ar, nr, cr, rfl, Q2, R2, B2⟩; refine Hid.out ?_))
    refine Lib.hid ?_
    have hB2 := Lib.hid ((hB.out.alloc hB.out.size _).trans (B2.mono (by have := hB.out.size; simp; omega)))
    clear B2
    rw [hd.out] at R2
    replace Q2 := Lib.hid Q2
    have hnr : nr ≤ 100000 := by
      have := len_of_lt (x := d) (n := 1) (by omega)
      rw [R2.len] at this; omega
    replace R2 := Lib.hid R2
    go_wp2_with (first
      | (go_at_call 66; refine (limb_any Ar nr cr (limbs d) _ 0 0 d R2.out hnr rfl hx0.out).mono ?_; rintro e w3 ⟨rfl, rfl⟩; refine Hid.out ?_))
    refine Lib.hid ?_
    clear hdiv hx0
    have hconv := conv_one w2 d hd10
    obtain ⟨cb, hcb⟩ : ∃ cb, UInt8.ofNat (48 + d) = cb := ⟨_, rfl⟩
    rw [hcb] at hconv
    replace hcb := Lib.hid hcb
    have hsz : ((⟨#[cb]⟩ : ByteArray) ++ t).size ≤ 20000 := by
      have := hts.out
      have := hDl.out
      rw [ByteArray.size_append]
      show 1 + t.size ≤ 20000
      omega
    replace hsz := Lib.hid hsz
    have hts2 : t.size ≤ 10001 := by have := hts.out; have := hDl.out; omega
    replace hts2 := Lib.hid hts2
    have hts3 : ¬ 9223372036854775807 < 1 + t.size := by have := hts2.out; omega
    have hB4 := Lib.hid (hB2.out.alloc hB2.out.size (.cells #[Value.int IntKind.u8 (48 + (d : Int))] 5))
    have hQ4 := Lib.hid (Q2.out.alloc (.cells #[Value.int IntKind.u8 (48 + (d : Int))] 5))
    have hstr : ((⟨#[cb]⟩ : ByteArray) ++ t).data.toList = cb :: t.data.toList := by rw [ByteArray.data_append]; simp
    replace hstr := Lib.hid hstr
    by_cases hq : gk / 10 = 0
    · have hn0 : nq = 0 := by rw [← Q2.out.len, hq, limbs_zero]; rfl
      subst hn0
      have hfin : (⟨#[cb]⟩ : ByteArray) ++ t = ⟨D.toArray⟩ := by
        apply ByteArray.ext
        apply Array.toList_inj.1
        rw [hstr.out, hdd.out, Lib.decDigits_one (by omega), show gk = d by have := hd.out; omega, hcb.out]
        simp
      replace hfin := Lib.hid hfin
      clear hq
      go_wp2
      go_ret
      exact ⟨by rw [← hfin.out]; rfl, hB4.out⟩
    · have hnq : ((nq : Int) == 0) = false := by
        rw [beq_eq_false_iff_ne]
        intro h
        have h1 := Q2.out.len
        have h2 : nq = 0 := by omega
        rw [h2] at h1
        have h3 := congrArg val (List.eq_nil_of_length_eq_zero h1)
        rw [val_limbs] at h3
        exact hq h3
      have hlt : gk / 10 < gk := by omega
      have hdec : D = Lib.decDigits (gk / 10) ++ ((⟨#[cb]⟩ : ByteArray) ++ t).data.toList := by
        rw [hstr.out, hdd.out, Lib.decDigits, dif_neg (by omega), hd.out, hcb.out, List.append_assoc]; rfl
      have hlen : D.length = (Lib.decDigits (gk / 10)).length + ((⟨#[cb]⟩ : ByteArray) ++ t).size := by
        rw [← toList_len, hdec, List.length_append]
      have hnq2 : nq ≤ 1000 := by
        have h1 := Q2.out.len
        have h2 := len_le (x := gk) (y := gk / 10) (by omega)
        rw [R.out.len] at h2
        omega
      replace hdec := Lib.hid hdec
      replace hlen := Lib.hid hlen
      replace hlt := Lib.hid hlt
      clear hq
      go_wp2
      go_roundg (gk / 10)
      case measure => exact hlt.out
      case rel => exact ⟨_, _, _, _, rfl, hnq2, hQ4.out, rfl, hdec.out, hlen.out, hB4.out⟩
end Go.Proofs.YtkdeajocogdmgaaDoor
