import Derived.Test.YtkdeajocogdmgaaDoorYb
namespace Go.Proofs.YtkdeajocogdmgaaDoor
open Go.RowKit

def RetP (s : ByteArray) (w : World) (e : Ending) (w' : World) : Prop :=
  ∃ A n c, e = .returned (.tuple #[.slice A n c, .bool (isDec s)]) ∧ Rd w' A n c (if isDec s = true then limbs (dval s.data.toList) else []) ∧ Below w.heap.size w w'

theorem isDec_yes' {s : ByteArray} (h : isDec s = true) : 0 < s.size ∧ s.size ≤ 4000 ∧ allDig s.data.toList = true := by
  unfold isDec at h
  simp only [Bool.and_eq_true, decide_eq_true_eq] at h
  exact ⟨h.1.1.1, h.1.1.2, h.2⟩
theorem dec_len_k {l : List UInt8} {k : Nat} (ha : allDig l = true) (hl : l.length ≤ 9 * k) : (limbs (dval l)).length ≤ k := by
  apply len_of_lt
  have h1 := dval_lt ha
  have h2 : 10 ^ l.length ≤ 10 ^ (9 * k) := Nat.pow_le_pow_right (by decide) hl
  have h3 : (10 : Nat) ^ (9 * k) = (10 ^ 9) ^ k := by rw [Nat.pow_mul]
  have h4 : ((10 : Nat) ^ 9) ^ k ≤ 4294967296 ^ k := Nat.pow_le_pow_left (by decide) _
  omega
theorem dec_len {l : List UInt8} (ha : allDig l = true) (hl : l.length ≤ 4000) : (limbs (dval l)).length ≤ 445 := dec_len_k ha (by omega)

theorem ext_take (t : ByteArray) (m : Nat) : (t.extract 0 m).data.toList = t.data.toList.take m := by
  simp [ByteArray.data_extract]
theorem ext_drop (t : ByteArray) (m : Nat) : (t.extract m t.size).data.toList = t.data.toList.drop m := by
  rw [ByteArray.data_extract, Array.toList_extract, List.extract_eq_take_drop]
  apply List.take_of_length_le
  rw [List.length_drop, toList_len]; omega
theorem ext_take_size {t : ByteArray} {m : Nat} (h : m ≤ t.size) : (t.extract 0 m).size = m := by
  rw [← toList_len, ext_take, List.length_take, toList_len]; omega
theorem ext_drop_size (t : ByteArray) (m : Nat) : (t.extract m t.size).size = t.size - m := by
  rw [← toList_len, ext_drop, List.length_drop, toList_len]
theorem allDig_take {l : List UInt8} (h : allDig l = true) (m : Nat) : allDig (l.take m) = true := by
  unfold allDig at *
  rw [List.all_eq_true] at *
  exact fun c hc => h c (List.mem_of_mem_take hc)

set_option maxHeartbeats 2000000 in
theorem parse_any (s : ByteArray) (w : World) : Calls Tryd.prog 14 #[.string s] w (RetP s w) := by
  by_cases hd : isDec s = true
  · unfold RetP
    obtain ⟨h0, h4, ha⟩ := isDec_yes' hd
    simp only [hd, if_true]
    replace hd := Lib.hid hd
    replace ha := Lib.hid ha
    go_enter Tryd.func14, Tryd.ntmps14
    go_wp2_with (go_at_call 53; refine (isDec_any s _).mono ?_; rintro e w1 ⟨rfl, rfl⟩; rw [hd.out])
    go_loopw [0, 2] (fun sv cv wr => ∃ (p : List UInt8) (t : ByteArray), sv = .string t ∧ s.data.toList = p ++ t.data.toList ∧ (p = [] ∨ t.size % 9 = 0) ∧ Gr wr w1.heap.size cv (limbs (dval p)) ∧ Below w1.heap.size w1 wr)
      (fun sv _ _ => match sv with | .string t => t.size | _ => 0)
    case atStart => exact ⟨[], s, rfl, rfl, .inl rfl, by simp [dval, limbs_zero]; exact Gr.nil_ _ _, Below.refl _ _⟩
    case round =>
      obtain ⟨p, t, rfl, hs, hp, hG, hB⟩ := hrel
      have hlen : s.size = p.length + t.size := by rw [← toList_len, ← toList_len t, hs, List.length_append]
      have hdp : allDig p = true ∧ allDig t.data.toList = true := by
        have := ha.out
        rw [hs] at this
        unfold allDig at *
        rwa [List.all_append, Bool.and_eq_true] at this
      by_cases ht : t.size = 0
      · have hte : t = ByteArray.empty := ByteArray.ext (by apply Array.eq_empty_of_size_eq_zero; exact ht)
        subst hte
        have hps : s.data.toList = p := by rw [hs]; simp
        obtain ⟨A, c, rfl, R, _⟩ := hG.form
        rw [← hps] at R
        replace R := Lib.hid R
        replace hB := Lib.hid hB
        clear hs hp hlen hdp hG
        go_wp2
        go_ret2
        refine ⟨_, _, _, rfl, ?_, hB.out⟩
        have := R.out
        rw [hps] at this ⊢
        exact this
      · obtain ⟨m, hm⟩ : ∃ m, m = (t.size - 1) % 9 + 1 := ⟨_, rfl⟩
        have hm9 : m ≤ 9 := by omega
        have hmt : m ≤ t.size := by omega
        have ht1 : (1 : Int) ≤ (t.size : Int) := by omega
        have htb : (t.size : Int) ≤ 4000 := by omega
        obtain ⟨A, c, rfl, R, _⟩ := hG.form
        have hn : (limbs (dval p)).length ≤ 1000 := by
          have := dec_len hdp.1 (by omega)
          omega
        have hap := append_any w1.heap.size (dval p) (limbs (dval p)).length c A (t.extract 0 ((t.size - 1) % 9 + 1)) wr hG rfl hB.size (by rw [ext_take_size (by omega)]; omega) (by rw [ext_take_size (by omega)]; omega) (by rw [ext_take]; exact allDig_take hdp.2 _) hn
        have he : dval p * 1000000000 + dval (t.extract 0 ((t.size - 1) % 9 + 1)).data.toList = dval (p ++ (t.extract 0 ((t.size - 1) % 9 + 1)).data.toList) := by
          rw [dval_app]
          rcases hp with hp | hp
          · subst hp; simp [dval]
          · rw [ext_take, List.length_take, toList_len, show min ((t.size - 1) % 9 + 1) t.size = 9 by omega]
        rw [he] at hap
        have hs2 : s.data.toList = (p ++ (t.extract 0 ((t.size - 1) % 9 + 1)).data.toList) ++ (t.extract ((t.size - 1) % 9 + 1) t.size).data.toList := by
          rw [hs, ext_take, ext_drop, List.append_assoc, List.take_append_drop]
        have hz2 : (t.extract ((t.size - 1) % 9 + 1) t.size).size % 9 = 0 ∧ (t.extract ((t.size - 1) % 9 + 1) t.size).size < t.size := by rw [ext_drop_size]; omega
        replace hs2 := Lib.hid hs2
        replace hz2 := Lib.hid hz2
        replace hap := Lib.hid hap
        replace hp := Lib.hid hp
        replace hs := Lib.hid hs
        replace hG := Lib.hid hG
        replace hB := Lib.hid hB
        replace hlen := Lib.hid hlen
        clear he R hm hn hdp hm9 hmt ht
        go_wp2_with (go_at_call 54; refine hap.out.mono ?_; rintro e w2 ⟨v', rfl, hG2, hB2⟩; refine Hid.out ?_)
        refine Lib.hid ?_
        replace hG2 := Lib.hid hG2
        replace hB2 := Lib.hid (hB.out.trans hB2)
        go_wp2
        go_roundw
        case rel => exact ⟨_, _, rfl, hs2.out, .inr hz2.out.1, hG2.out, hB2.out⟩
        case measure => exact hz2.out.2
  · have hd0 : isDec s = false := by simpa using hd
    unfold RetP
    simp only [hd0]
    replace hd0 := Lib.hid hd0
    clear hd
    go_enter Tryd.func14, Tryd.ntmps14
    go_wp2_with (go_at_call 53; refine (isDec_any s _).mono ?_; rintro e w1 ⟨rfl, rfl⟩; rw [hd0.out])
    go_ret2
    exact ⟨none, 0, 0, rfl, Rd.nil_ _ _ _, Below.refl _ _⟩
end Go.Proofs.YtkdeajocogdmgaaDoor
