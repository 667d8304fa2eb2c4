/- Under way. -/
import Derived.Test.YthlnhmdpimoojaaGreatDoorQYaz
namespace Go.Proofs.YthlnhmdpimoojaaGreatDoor
open Go.RowKit

theorem dval_snoc {s : ByteArray} {k : Nat} (h : k < s.size) : dval (s.data.toList.take (k + 1)) = dval (s.data.toList.take k) * 10 + (s[k].toNat - 48) := by
  rw [List.take_add_one, toList_get h, dval_app]
  simp [dval]

theorem ne_list {s : ByteArray} (h : 0 < s.size) : s.toList.isEmpty = false := by
  rw [ByteArray.toList_eq]
  cases hl : s.data.toList with
  | nil => have := toList_len s; rw [hl] at this; simp at this; omega
  | cons _ _ => rfl
theorem ne_list2 {s : ByteArray} (h : 0 < s.size) : ¬ s.toList = [] := by
  intro h'; have := ne_list h; rw [h'] at this; cases this

theorem retP_no {s : ByteArray} {w w' : World} (h : isDec s = false) (hB : Below w.heap.size w w') : RetP s w (.returned (.tuple #[.slice none 0 0, .bool false])) w' := by
  unfold RetP; rw [h]; exact ⟨none, 0, 0, rfl, Rd.nil_ _ _ _, hB⟩
theorem retP_yes {s : ByteArray} {w w' : World} {A : Option Addr} {n c : Nat} (h : isDec s = true) (R : Rd w' A n c (limbs (dval s.data.toList))) (hB : Below w.heap.size w w') : RetP s w (.returned (.tuple #[.slice A n c, .bool true])) w' := by
  unfold RetP; rw [h]; exact ⟨A, n, c, rfl, R, hB⟩
theorem wrap_dig {x : Nat} (h1 : 48 ≤ x) (h2 : x ≤ 57) : IntKind.u64.wrap (IntKind.u8.wrap ((x : Int) - 48)) = ((x - 48 : Nat) : Int) := by
  have e : IntKind.u8.wrap ((x : Int) - 48) = (x : Int) - 48 := by rw [IntKind.wrap_u8]; omega
  rw [e, IntKind.wrap_u64]; omega
theorem rfromUint_i (z : Int) (v : Nat) (w : World) (hz : z = v) (hv : v < 18446744073709551616) : Calls Tryz.prog 66 #[.int .u64 z] w (RetN v w) := by
  subst hz; exact rfromUint_any v w hv

set_option maxHeartbeats 6000000 in
theorem rparse_yes (s : ByteArray) (w : World) (h0 : 0 < s.size) (h1 : s.size ≤ 4000) (h2 : ¬ (1 < s.size ∧ (s.get! 0).toNat = 48)) : Calls Tryz.prog 21 #[.string s] w (RetP s w) := by
  have hdd := isDec_digs h0 h1 h2
  rw [getBang h0] at h2
  have g2 : (s.size : Int) ≤ 4000 := by omega
  have g0 : (0 : Int) < (s.size : Int) := by omega
  have hsz : (s.size : Int) ≤ 1 ∨ (1 < (s.size : Int) ∧ ((s[0].toNat : Int) == 48) = false) := by
    by_cases h : s.size = 1
    · left; omega
    · right; refine ⟨by omega, ?_⟩
      have : s[0].toNat ≠ 48 := fun h' => h2 ⟨by omega, h'⟩
      rw [beq_eq_false_iff_ne]; omega
  have hse := ne_list h0
  have hse2 := ne_list2 h0
  replace h2 := Lib.hid h2
  replace hdd := Lib.hid hdd
  rcases hsz with g3 | ⟨g3, g4⟩
  all_goals
    go_enter Tryz.func21, Tryz.ntmps21
    go_wp2
    go_loopw [4, 5] (fun cv iv wr => ∃ (k n c : Nat) (A : Option Addr), k ≤ s.size ∧ iv = .int .i64 ((k : Nat) : Int) ∧ allDig (s.data.toList.take k) = true ∧ cv = .slice A n c ∧ Rd wr A n c (limbs (dval (s.data.toList.take k))) ∧ Below w.heap.size w wr)
      (fun _ iv _ => s.size - (intOf iv).toNat)
    case atStart => exact ⟨0, 0, 0, none, by omega, rfl, rfl, rfl, by simp [dval, limbs_zero]; exact Rd.nil_ _ _ _, Below.refl _ _⟩
    case round =>
      obtain ⟨k, n, c, A, hk, rfl, ha, rfl, R, hB⟩ := hrel
      have hn : n ≤ 445 := by
        have := dec_len ha (by rw [List.length_take, toList_len]; omega)
        rw [R.len] at this; exact this
      replace ha := Lib.hid ha
      replace R := Lib.hid R
      replace hB := Lib.hid hB
      by_cases hlt : k < s.size
      · have b1 : (k : Int) < (s.size : Int) := by omega
        have b0 : (0 : Int) ≤ (k : Int) := by omega
        have b2 : (k : Int) ≤ 4000 := by omega
        obtain ⟨d, hc⟩ : ∃ d, s[k] = d := ⟨_, rfl⟩
        by_cases hdg : isDig d = true
        · have hd1 : (48 : Int) ≤ (d.toNat : Int) := by unfold isDig at hdg; simp at hdg; omega
          have hd2 : (d.toNat : Int) ≤ 57 := by unfold isDig at hdg; simp at hdg; omega
          have hst := Lib.hid (dval_snoc hlt)
          have hal := Lib.hid (allDig_step hlt ha.out (by rw [hc]; exact hdg))
          replace hdg := Lib.hid hdg
          rw [← hc] at hd1 hd2
          replace hc := Lib.hid hc
          have hn1 : n ≤ 10000 := by omega
          have hdv : ((s[k].toNat : Int) - 48) = ((s[k].toNat - 48 : Nat) : Int) := by omega
          obtain ⟨N, hN⟩ : ∃ N, dval (s.data.toList.take k) = N := ⟨_, rfl⟩
          rw [hN] at R hst
          replace hN := Lib.hid hN
          replace hdv := Lib.hid hdv
          have hdl : 48 ≤ s[k].toNat := by omega
          have hdu : s[k].toNat ≤ 57 := by omega
          have hz2 : (limbs (s[k].toNat - 48)).length ≤ 10000 := by
            have := len_of_lt (x := s[k].toNat - 48) (n := 1) (by omega)
            omega
          have hz1 : (limbs (N * 10 * 4294967296 ^ 0)).length ≤ 10000 := by
            have h5 := dec_len hal.out (by rw [List.length_take, toList_len]; omega)
            rw [hst.out] at h5
            have := len_le (x := N * 10 + (s[k].toNat - 48)) (y := N * 10 * 4294967296 ^ 0) (by omega)
            omega
          replace hz1 := Lib.hid hz1
          replace hz2 := Lib.hid hz2
          go_wp2_with fail
          go_region_held3 (fun _ => True) (trivial) (first
            | (go_at_call 65; refine (times_any A n c N 10 0 0 10 _ (by exact ⟨R.out.len, R.out.cap, R.out.sm, R.out.mem⟩) hn1 (by omega) (by omega) rfl rfl).mono ?_; rintro e w1 ⟨A1, n1, c1, rfl, R1, B1⟩)
            | (go_at_call 66; refine (rfromUint_i _ (s[k].toNat - 48) _ (wrap_dig hdl hdu) (by omega)).mono ?_; rintro e w2 ⟨A2, n2, c2, rfl, R2, B2⟩)
            | (go_at_call 64; refine (radd_any _ _ _ (limbs (N * 10 * 4294967296 ^ 0)) _ _ _ (limbs (s[k].toNat - 48)) _ (by exact R1.below B2) (by exact R2) (by have := R1.len; have := hz1.out; omega) (by have := R2.len; have := hz2.out; omega)).mono ?_; rintro e w3 ⟨A3, n3, c3, rfl, R3, B3⟩))
          all_goals
            rw [num_limbs, num_limbs, show N * 10 * 4294967296 ^ 0 = N * 10 by omega, ← hst.out] at R3
            have hB3 := (((hB.out.drew).trans (B1.mono hB.out.size)).trans (B2.mono (Nat.le_trans hB.out.size B1.size))).trans (B3.mono (Nat.le_trans hB.out.size (Nat.le_trans B1.size B2.size)))
            clear B1 B2 B3 R1 R2 hz1 hz2
            replace hB3 := Lib.hid hB3
            replace R3 := Lib.hid R3
            have hmes : s.size - (intOf (Value.int IntKind.i64 ((k : Int) + 1))).toNat < s.size - (intOf (Value.int IntKind.i64 (k : Int))).toNat := by simp only [intOf]; omega
            first
              | exact ⟨⟨k + 1, n3, c3, A3, by omega, by congr 1, hal.out, rfl, R3.out, hB3.out⟩, hmes⟩
              | (clear hmes
                 go_wp2
                 first
                   | exact ⟨⟨k + 1, n3, c3, A3, by omega, by congr 1, hal.out, rfl, R3.out, hB3.out⟩, by first | omega | (simp [intOf]; done) | (simp [intOf]; omega)⟩
                   | (go_roundw
                      case rel => exact ⟨k + 1, n3, c3, A3, by omega, by congr 1, hal.out, rfl, R3.out, hB3.out⟩
                      case measure => first | omega | (simp [intOf]; done) | (simp [intOf]; omega)))
        · have hdn : (d.toNat : Int) < 48 ∨ ((48 : Int) ≤ (d.toNat : Int) ∧ 57 < (d.toNat : Int)) := by unfold isDig at hdg; simp at hdg; omega
          have hno : isDec s = false := by rw [hdd.out]; exact allDig_no hlt (by rw [hc]; simpa using hdg)
          replace hno := Lib.hid hno
          clear hdg
          rw [← hc] at hdn
          replace hc := Lib.hid hc
          rcases hdn with hd1 | ⟨hd1, hd2⟩
          all_goals
            go_wp2
            go_ret2
            exact retP_no hno.out hB.out
      · have b1 : (s.size : Int) ≤ (k : Int) := by omega
        have e : s.data.toList.take k = s.data.toList := List.take_of_length_le (by rw [toList_len]; omega)
        have hyes := hdd.out
        have ha1 := ha.out
        have R1 := R.out
        rw [e] at ha1 R1
        rw [ha1] at hyes
        replace hyes := Lib.hid hyes
        replace R1 := Lib.hid R1
        replace hk := Lib.hid hk
        clear hlt e ha1
        go_wp2
        go_ret2
        exact retP_yes hyes.out R1.out hB.out

set_option maxHeartbeats 1000000 in
theorem rparse_no (s : ByteArray) (w : World) (h : s.size = 0 ∨ 4000 < s.size ∨ (1 < s.size ∧ (s.get! 0).toNat = 48)) : Calls Tryz.prog 21 #[.string s] w (RetP s w) := by
  have hno : isDec s = false := by
    rcases h with h | h | ⟨h, h'⟩
    · exact isDec_size (.inl h)
    · exact isDec_size (.inr h)
    · exact isDec_zero h (by rw [← getBang (by omega)]; exact h')
  replace hno := Lib.hid hno
  by_cases h0 : s.size = 0
  · have hs : s = ByteArray.empty := ByteArray.ext (by apply Array.eq_empty_of_size_eq_zero; exact h0)
    subst hs
    go_enter Tryz.func21, Tryz.ntmps21
    go_wp2
    go_ret2
    exact retP_no hno.out (Below.refl _ _)
  have hse := ne_list (s := s) (by omega)
  have hse2 := ne_list2 (s := s) (by omega)
  by_cases h1 : 4000 < s.size
  · have g2 : 4000 < (s.size : Int) := by omega
    go_enter Tryz.func21, Tryz.ntmps21
    go_wp2
    all_goals (go_ret2; exact retP_no hno.out (Below.refl _ _))
  obtain ⟨h2, h3⟩ : 1 < s.size ∧ (s.get! 0).toNat = 48 := by omega
  rw [getBang (by omega)] at h3
  have g2 : (s.size : Int) ≤ 4000 := by omega
  have g3 : 1 < (s.size : Int) := by omega
  have g4 : ((s[0].toNat : Int) == 48) = true := by rw [h3]; rfl
  replace h3 := Lib.hid h3
  clear h
  go_enter Tryz.func21, Tryz.ntmps21
  go_wp2
  all_goals (go_ret2; exact retP_no hno.out (Below.refl _ _))

theorem rparse_any (s : ByteArray) (w : World) : Calls Tryz.prog 21 #[.string s] w (RetP s w) := by
  by_cases h : s.size = 0 ∨ 4000 < s.size ∨ (1 < s.size ∧ (s.get! 0).toNat = 48)
  · exact rparse_no s w h
  · exact rparse_yes s w (by omega) (by omega) (by omega)
end Go.Proofs.YthlnhmdpimoojaaGreatDoor

namespace Go.Proofs.YthlnhmdpimoojaaGreatDoor
open Go.RowKit
theorem nDigits_le : ∀ (k u : Nat), u < 10 ^ (k + 1) → Lib.nDigits u ≤ k + 1
  | 0, u, h => by rw [Lib.nDigits_small (by simpa using h)]; omega
  | k + 1, u, h => by
    by_cases hu : u < 10
    · rw [Lib.nDigits_small hu]; omega
    · rw [Nat.pow_succ] at h
      rw [Lib.nDigits_big hu]
      have := nDigits_le k (u / 10) (by omega)
      omega
theorem digits_bn {u n : Nat} (h : u < 4294967296 ^ n) : (Lib.decDigits u).length ≤ 10 * n + 1 := by
  rw [Lib.decDigits_length]
  apply nDigits_le (10 * n)
  have h1 : 4294967296 ^ n ≤ (10 ^ 10) ^ n := Nat.pow_le_pow_left (by decide) _
  rw [← Nat.pow_mul] at h1
  have h2 : 10 ^ (10 * n) ≤ 10 ^ (10 * n + 1) := Nat.pow_le_pow_right (by decide) (by omega)
  omega
theorem digits_bd {u n : Nat} (h : u < 4294967296 ^ n) (hn : n ≤ 1000) : (Lib.decDigits u).length ≤ 10001 := by
  have := digits_bn h
  omega
theorem conv_one (W : World) (d : Nat) (hd : d < 10) : (convert 92 9 (.slice (some ⟨W.heap.size, 0, none⟩) 1 1)).run Tryz.prog (W.alloc (.cells #[.int .u8 (48 + (d : Int))] 5)) =
    .ok (.string ⟨#[UInt8.ofNat (48 + d)]⟩) (W.alloc (.cells #[.int .u8 (48 + (d : Int))] 5)) := by
  refine run_convert_bytes_back (P := Tryz.prog) _ 92 9 5 ⟨W.heap.size, 0, none⟩ 1 [UInt8.ofNat (48 + d)] Tryz.underlying92 Tryz.underlying5 Tryz.underlying9 ?_
  intro j hj
  have hj0 : j = 0 := by simpa using hj
  subst hj0
  have : (⟨W.heap.size, 0, none⟩ : Addr).add 0 = ⟨W.heap.size, 0, none⟩ := rfl
  rw [this, cell_of_row _ W.heap.size 0 #[.int .u8 (48 + (d : Int))] 5 (0, 0) (heap_alloc_new W _)]
  have e : (UInt8.ofNat (48 + d)).toNat = 48 + d := by rw [UInt8.toNat_ofNat']; omega
  simp
  omega

set_option maxHeartbeats 2000000 in
theorem rformat_any (A : Option Addr) (n c : Nat) (xs : List Nat) (w : World) (h : Rd w A n c xs) (hn : n ≤ 1000) :
    Calls Tryz.prog 31 #[.slice A n c] w fun e w' => e = .returned (.string ⟨(Lib.decDigits (num xs)).toArray⟩) ∧ Below w.heap.size w w' := by
  obtain ⟨N, hN⟩ : ∃ N, num xs = N := ⟨_, rfl⟩
  have ht := take_any A n c xs w h (by omega)
  rw [hN] at ht ⊢
  obtain ⟨D, hD⟩ : ∃ D, Lib.decDigits N = D := ⟨_, rfl⟩
  rw [hD]
  have hDl : D.length ≤ 10001 := by
    rw [← hD]
    refine digits_bd (n := n) ?_ hn
    rw [← hN, ← h.len]
    exact num_lt h.sm
  replace hDl := Lib.hid hDl
  replace hD := Lib.hid hD
  replace ht := Lib.hid ht
  replace hN := Lib.hid hN
  replace h := Lib.hid h
  go_enter Tryz.func31, Tryz.ntmps31
  go_wp2_with (go_at_call 72; refine ht.out.mono ?_; rintro e w1 ⟨A1, n1, c1, rfl, R1, B1, l1⟩; refine Hid.out ?_)
  refine Lib.hid ?_
  replace R1 := Lib.hid R1
  replace B1 := Lib.hid B1
  go_wp2
  go_loopg [0, 3] N (fun x av sv wr => ∃ (m k : Nat) (A : Option Addr) (t : ByteArray), av = .slice A m k ∧ m ≤ 1000 ∧ Rd wr A m k (limbs x) ∧ sv = .string t ∧ D = Lib.decDigits x ++ t.data.toList ∧ D.length = (Lib.decDigits x).length + t.size ∧ Below w.heap.size w wr)
  case atStart => exact ⟨_, _, _, _, rfl, by omega, R1.out, rfl, by rw [← hD.out]; simp, by rw [← hD.out]; rfl, B1.out⟩
  case round =>
    obtain ⟨m, k, A2, t, rfl, hm, R, rfl, hdd, hts, hB⟩ := hrel
    have hx0 : (limbs (gk % 10)).getD 0 0 = gk % 10 := by
      rcases Nat.eq_zero_or_pos (gk % 10) with h0 | h0
      · rw [h0, limbs_zero]; rfl
      · rw [limbs_pos h0]; simp; omega
    have hdiv := fun (W : World) (A' : Option Addr) (h1 : Rd W A2 m k (limbs gk)) (h2 : Rd W A' 1 1 [10]) => rdiv_any A2 m k (limbs gk) A' 1 1 [10] W h1 h2 (by omega) (by omega) (by decide)
    rw [num_limbs, show num [10] = 10 from by decide] at hdiv
    replace R := Lib.hid R
    obtain ⟨d, hd⟩ : ∃ d, gk % 10 = d := ⟨_, rfl⟩
    have hd10 : d < 10 := by omega
    rw [hd] at hx0
    replace hd := Lib.hid hd
    replace hB := Lib.hid hB
    replace hdd := Lib.hid hdd
    replace hts := Lib.hid hts
    replace hdiv := Lib.hid hdiv
    replace hx0 := Lib.hid hx0
    go_wp2_with (first
      | (go_at_call 81; refine (hdiv.out _ _ (R.out.alloc _) (lit1 _ _ _ _ rfl rfl (by omega))).mono ?_; rintro e w2 ⟨Aq, nq, cq, Ar, nr, cr, rfl, Q2, R2, B2⟩; refine Hid.out ?_))
    refine Lib.hid ?_
    have hB2 := Lib.hid ((hB.out.alloc hB.out.size _).trans (B2.mono (by have := hB.out.size; simp; omega)))
    clear B2
    rw [hd.out] at R2
    replace Q2 := Lib.hid Q2
    have hnr : nr ≤ 100000 := by
      have := len_of_lt (x := d) (n := 1) (by omega)
      rw [R2.len] at this; omega
    replace R2 := Lib.hid R2
    go_wp2_with (first
      | (go_at_call 82; refine (limb_any Ar nr cr (limbs d) _ 0 0 d R2.out hnr rfl hx0.out).mono ?_; rintro e w3 ⟨rfl, rfl⟩; refine Hid.out ?_))
    refine Lib.hid ?_
    clear hdiv hx0
    have hconv := conv_one w2 d hd10
    obtain ⟨cb, hcb⟩ : ∃ cb, UInt8.ofNat (48 + d) = cb := ⟨_, rfl⟩
    rw [hcb] at hconv
    replace hcb := Lib.hid hcb
    have hsz : ((⟨#[cb]⟩ : ByteArray) ++ t).size ≤ 20000 := by
      have := hts.out
      have := hDl.out
      rw [ByteArray.size_append]
      show 1 + t.size ≤ 20000
      omega
    replace hsz := Lib.hid hsz
    have hts2 : t.size ≤ 10001 := by have := hts.out; have := hDl.out; omega
    replace hts2 := Lib.hid hts2
    have hts3 : ¬ 9223372036854775807 < 1 + t.size := by have := hts2.out; omega
    have hB4 := Lib.hid (hB2.out.alloc hB2.out.size (.cells #[Value.int IntKind.u8 (48 + (d : Int))] 5))
    have hQ4 := Lib.hid (Q2.out.alloc (.cells #[Value.int IntKind.u8 (48 + (d : Int))] 5))
    have hstr : ((⟨#[cb]⟩ : ByteArray) ++ t).data.toList = cb :: t.data.toList := by rw [ByteArray.data_append]; simp
    replace hstr := Lib.hid hstr
    by_cases hq : gk / 10 = 0
    · have hn0 : nq = 0 := by rw [← Q2.out.len, hq, limbs_zero]; rfl
      subst hn0
      have hfin : (⟨#[cb]⟩ : ByteArray) ++ t = ⟨D.toArray⟩ := by
        apply ByteArray.ext
        apply Array.toList_inj.1
        rw [hstr.out, hdd.out, Lib.decDigits_one (by omega), show gk = d by have := hd.out; omega, hcb.out]
        simp
      replace hfin := Lib.hid hfin
      clear hq
      go_wp2
      go_ret
      exact ⟨by rw [← hfin.out]; rfl, hB4.out⟩
    · have hnq : ((nq : Int) == 0) = false := by
        rw [beq_eq_false_iff_ne]
        intro h
        have h1 := Q2.out.len
        have h2 : nq = 0 := by omega
        rw [h2] at h1
        have h3 := congrArg val (List.eq_nil_of_length_eq_zero h1)
        rw [val_limbs] at h3
        exact hq h3
      have hlt : gk / 10 < gk := by omega
      have hdec : D = Lib.decDigits (gk / 10) ++ ((⟨#[cb]⟩ : ByteArray) ++ t).data.toList := by
        rw [hstr.out, hdd.out, Lib.decDigits, dif_neg (by omega), hd.out, hcb.out, List.append_assoc]; rfl
      have hlen : D.length = (Lib.decDigits (gk / 10)).length + ((⟨#[cb]⟩ : ByteArray) ++ t).size := by
        rw [← toList_len, hdec, List.length_append]
      have hnq2 : nq ≤ 1000 := by
        have h1 := Q2.out.len
        have h2 := len_le (x := gk) (y := gk / 10) (by omega)
        rw [R.out.len] at h2
        omega
      replace hdec := Lib.hid hdec
      replace hlen := Lib.hid hlen
      replace hlt := Lib.hid hlt
      clear hq
      go_wp2
      go_roundg (gk / 10)
      case measure => exact hlt.out
      case rel => exact ⟨_, _, _, _, rfl, hnq2, hQ4.out, rfl, hdec.out, hlen.out, hB4.out⟩
end Go.Proofs.YthlnhmdpimoojaaGreatDoor

namespace Go.Proofs.YthlnhmdpimoojaaGreatDoor
open Go.RowKit

/-- The k low digits of u, padded with zeros. -/
def pad (k u : Nat) : List UInt8 := (List.range k).map fun t => Lib.dg u (k - 1 - t)
theorem pad_zero (u : Nat) : pad 0 u = [] := rfl
theorem pad_succ (k u : Nat) : pad (k + 1) u = pad k (u / 10) ++ [UInt8.ofNat (48 + u % 10)] := by
  unfold pad
  rw [List.range_succ, List.map_append]
  congr 1
  · refine List.map_congr_left fun t ht => ?_
    have ht' : t < k := List.mem_range.1 ht
    rw [show k + 1 - 1 - t = (k - 1 - t) + 1 by omega, Lib.dg_succ]
  · simp [Lib.dg]
theorem dec_pad : ∀ (k x c : Nat), 0 < x → c < 10 ^ k → Lib.decDigits (x * 10 ^ k + c) = Lib.decDigits x ++ pad k c
  | 0, x, c, _, hc => by
    have : c = 0 := by simpa using hc
    subst this
    simp [pad_zero]
  | k + 1, x, c, hx, hc => by
    have hp : 0 < 10 ^ k := Nat.pow_pos (by decide)
    have e1 : (x * 10 ^ (k + 1) + c) / 10 = x * 10 ^ k + c / 10 := by rw [Nat.pow_succ, ← Nat.mul_assoc]; omega
    have e2 : (x * 10 ^ (k + 1) + c) % 10 = c % 10 := by rw [Nat.pow_succ, ← Nat.mul_assoc]; omega
    have hge : ¬ x * 10 ^ (k + 1) + c < 10 := by
      have : 1 * 10 ^ (k + 1) ≤ x * 10 ^ (k + 1) := Nat.mul_le_mul_right _ hx
      rw [Nat.pow_succ] at this ⊢
      omega
    rw [Lib.decDigits, dif_neg hge, e1, e2, dec_pad k x (c / 10) hx (by rw [Nat.pow_succ] at hc; omega), pad_succ, List.append_assoc]
/-- Itoa(10^9 + c)[1:]. -/
theorem pad9 {c : Nat} (h : c < 1000000000) : (Lib.decDigits (1000000000 + c)).drop 1 = pad 9 c := by
  have := dec_pad 9 1 c (by decide) h
  rw [show 1 * 10 ^ 9 + c = 1000000000 + c by omega] at this
  rw [this, Lib.decDigits_one (by decide)]
  rfl
theorem pad_len (k u : Nat) : (pad k u).length = k := by simp [pad]

/-- The number whose chunks, the lowest first, are cs. -/
def cval : List Nat → Nat
  | [] => 0
  | c :: r => c + 1000000000 * cval r
theorem cval_snoc (cs : List Nat) (c : Nat) : cval (cs ++ [c]) = cval cs + 1000000000 ^ cs.length * c := by
  induction cs with
  | nil => simp [cval]
  | cons a r ih => simp only [List.cons_append, cval, ih, List.length_cons, Nat.pow_succ]; rw [Nat.mul_add, Nat.mul_comm (1000000000 ^ r.length) 1000000000, Nat.mul_assoc]; omega
/-- The text of the chunks from k on. -/
theorem cval_drop {cs : List Nat} {k : Nat} (hk : k < cs.length) : cval (cs.drop k) = cs.getD k 0 + 1000000000 * cval (cs.drop (k + 1)) := by
  rw [List.drop_eq_getElem_cons hk, cval]
  simp [List.getD_eq_getElem?_getD, hk]
/-- One more chunk of the text. -/
theorem text_step {cs : List Nat} {k c : Nat} (hk : k < cs.length) (hc : cs.getD k 0 = c) (hb : c < 1000000000) (h0 : 0 < cval (cs.drop (k + 1))) :
    Lib.decDigits (cval (cs.drop k)) = Lib.decDigits (cval (cs.drop (k + 1))) ++ (Lib.decDigits (1000000000 + c)).drop 1 := by
  rw [cval_drop hk, hc, pad9 hb, ← dec_pad 9 _ _ h0 hb]
  congr 1
  omega

set_option maxHeartbeats 1000000 in
theorem appendUint_any (u : Nat) (w : World) (hu : u < 4294967296) (htab : Lib.TabIs Tryz.prog w "internal/strconv.uint64pow10" .u64 Lib.pow10Tab) :
    Calls Tryz.prog 119 #[.slice none 0 0, .int .u64 u, .int .i64 10] w fun e w' => ∃ v', e = .returned v' ∧ w'.ownsRow w.heap.size 5 1 v' (Lib.decDigits u).length (Lib.byteCells (Lib.decDigits u)) ∧ Below w.heap.size w w' := by
  have hc := Tryz.internal_strconv_AppendUint_10 w.heap.size 0 u (by omega) (.slice none 0 0) [] w (World.ownsRow_nil _ _ _ _) (Nat.le_refl _) (by omega) htab
  rw [Nat.zero_add, List.nil_append] at hc
  replace hc := Lib.hid hc
  replace htab := Lib.hid htab
  go_enter Tryz.func119, Tryz.ntmps119
  go_wp2_with (go_at_call 150; refine hc.out.mono ?_; rintro e w1 ⟨v', rfl, hown, hB, hk⟩; refine Hid.out ?_)
  refine Lib.hid ?_
  replace hown := Lib.hid hown
  clear hk
  go_wp2
  go_ret
  exact ⟨v', rfl, hown.out, hB⟩
end Go.Proofs.YthlnhmdpimoojaaGreatDoor
