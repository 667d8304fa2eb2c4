import Derived.Test.YtkdeajocogdmgaaDoorYa
import Derived.Test.YtkdeajocogdmgaaDoorWu
namespace Go.Proofs.YtkdeajocogdmgaaDoor
open Go.RowKit

def dval (l : List UInt8) : Nat := l.foldl (fun a c => a * 10 + (c.toNat - 48)) 0
theorem dval_app (l m : List UInt8) : dval (l ++ m) = dval l * 10 ^ m.length + dval m := by
  unfold dval
  rw [List.foldl_append]
  generalize List.foldl _ 0 l = a
  induction m generalizing a with
  | nil => simp
  | cons c r ih =>
    rw [List.foldl_cons, List.foldl_cons, ih, ih (0 * 10 + _), List.length_cons, Nat.pow_succ]
    rw [Nat.zero_mul, Nat.zero_add, Nat.add_mul, Nat.mul_assoc, Nat.mul_comm 10]
    omega
theorem dval_lt {l : List UInt8} (h : allDig l = true) : dval l < 10 ^ l.length := by
  have : ∀ r : List UInt8, dval (r.reverse) < 10 ^ r.length ∨ allDig r.reverse = false := by
    intro r
    induction r with
    | nil => left; simp [dval]
    | cons c r ih =>
      rw [List.reverse_cons, dval_app]
      rcases ih with ih | ih
      · by_cases hc : isDig c = true
        · left
          unfold isDig at hc
          simp only [Bool.and_eq_true, decide_eq_true_eq] at hc
          have : dval [c] = c.toNat - 48 := by simp [dval]
          rw [this, show (c :: r).length = r.length + 1 from rfl, Nat.pow_succ 10 r.length]
          rw [List.length_singleton, Nat.pow_one]
          omega
        · right
          unfold allDig
          rw [List.all_append, List.all_cons]
          simp [hc]
      · right
        unfold allDig at *
        rw [List.all_append, ih]; rfl
  have h2 := this l.reverse
  rw [List.reverse_reverse, List.length_reverse, h] at h2
  rcases h2 with h2 | h2
  · exact h2
  · cases h2

theorem parseM_ok (M : Nat) (hM : M < 18446744073709551616) : ∀ (l : List UInt8) (acc : Nat), allDig l = true → l.foldl (fun a c => a * 10 + (c.toNat - 48)) acc ≤ M →
    Lib.parseUintM M acc l = .ok (l.foldl (fun a c => a * 10 + (c.toNat - 48)) acc)
  | [], acc, _, _ => rfl
  | c :: r, acc, ha, hb => by
    have hge : ∀ (r : List UInt8) (a : Nat), a ≤ r.foldl (fun a c => a * 10 + (c.toNat - 48)) a := by
      intro r
      induction r with
      | nil => intro a; exact Nat.le_refl _
      | cons c r ih => intro a; rw [List.foldl_cons]; have := ih (a * 10 + (c.toNat - 48)); omega
    unfold allDig at ha
    rw [List.all_cons, Bool.and_eq_true] at ha
    obtain ⟨hc, ha⟩ := ha
    unfold isDig at hc
    simp only [Bool.and_eq_true, decide_eq_true_eq] at hc
    rw [List.foldl_cons] at hb ⊢
    have h1 := hge r (acc * 10 + (c.toNat - 48))
    rw [Lib.parseUintM, if_pos hc, if_neg (by omega), if_neg (by omega)]
    exact parseM_ok M hM r _ ha hb

theorem parse32 {l : List UInt8} (h0 : l ≠ []) (ha : allDig l = true) (hl : l.length ≤ 9) : Lib.parseUintB 32 l = .ok (dval l) := by
  unfold Lib.parseUintB
  rw [if_neg h0]
  have h1 := dval_lt ha
  have h2 : 10 ^ l.length ≤ 10 ^ 9 := Nat.pow_le_pow_right (by decide) hl
  exact parseM_ok (2 ^ 32 - 1) (by decide) l 0 ha (by unfold dval at h1; omega)

theorem Gr.set_ {w : World} {base g n c : Nat} {zs : List Nat} (h : Gr w base (.slice (some ⟨g, 0, none⟩) n c) zs) (i x : Nat) (hx : x < 4294967296) :
    Gr (w.setCell ⟨g, i, none⟩ (.int .u32 (x : Int))) base (.slice (some ⟨g, 0, none⟩) n c) (zs.set i x) := by
  refine ⟨?_, sm_set h.sm i x hx⟩
  obtain ⟨h1, h2⟩ := h.own
  refine ⟨by simp, ?_⟩
  rcases h2 with ⟨h2, _⟩ | ⟨g', cap, cur, hv, hb, hh, hn, hm, hs, ht⟩
  · cases h2
  · right
    injection hv with e1 e2 e3
    injection e1 with e1
    injection e1 with e1
    subst e1 e3
    refine ⟨g, c, cur.setIfInBounds i (u32 x), by rw [List.length_set, e2], hb, ?_, by rw [List.length_set]; exact hn, hm, by simpa using hs, ?_⟩
    · simp [World.setCell, Array.getElem?_modify, hh, u32]
    · rw [Array.toList_setIfInBounds, List.length_set, List.take_set, ht, List.map_set]

theorem ac_step {zs zs0 : List Nat} {k n cy d x t : Nat} (hk : k < n) (hl : zs.length = n)
    (h : val (zs.take k) + 4294967296 ^ k * cy = val (zs0.take k) * 1000000000 + d) (hd : zs.drop k = zs0.drop k) (hx : zs.getD k 0 = x) (ht : t = cy + x * 1000000000) :
    val ((zs.set k (t % 4294967296)).take (k + 1)) + 4294967296 ^ (k + 1) * (t / 4294967296) = val (zs0.take (k + 1)) * 1000000000 + d := by
  have hx0 : zs0.getD k 0 = x := by
    rw [← hx]
    have := congrArg (fun l => l.getD 0 0) hd
    simpa [List.getD_eq_getElem?_getD] using this.symm
  rw [val_take_succ_any zs0, hx0, val_take_succ_any, take_set_low _ _ (Nat.le_refl _)]
  have : (zs.set k (t % 4294967296)).getD k 0 = t % 4294967296 := by simp [List.getD_eq_getElem?_getD, hl, hk]
  rw [this, Nat.pow_succ, Nat.mul_assoc, Nat.add_assoc, ← Nat.mul_add, Nat.mod_add_div, ht, Nat.mul_add, ← Nat.add_assoc, h, Nat.add_mul, Nat.mul_assoc]
  omega
theorem ac_drop {zs zs0 : List Nat} {k v : Nat} (hd : zs.drop k = zs0.drop k) : (zs.set k v).drop (k + 1) = zs0.drop (k + 1) := by
  rw [drop_set_succ, ← List.drop_drop, ← List.drop_drop, hd]

theorem vld_of {zs : List Nat} (hs : Sm zs) (h : zs.length = 0 ∨ 4294967296 ^ (zs.length - 1) ≤ val zs) : zs = limbs (val zs) := by
  rcases Nat.eq_zero_or_pos zs.length with h0 | h0
  · have := List.eq_nil_of_length_eq_zero h0; subst this; simp [val, limbs_zero]
  rw [trim_take hs, List.take_of_length_le]
  rcases Nat.lt_or_ge (limbs (val zs)).length zs.length with hlt | hge
  · have h1 := limbs_len_le.1 (show (limbs (val zs)).length ≤ zs.length - 1 by omega)
    omega
  · exact hge
theorem ac_same {zs : List Nat} {N d n : Nat} (hs : Sm zs) (hl : zs.length = n) (hN : (limbs N).length = n) (h : val zs = N * 1000000000 + d) : zs = limbs (N * 1000000000 + d) := by
  rw [← h]
  refine vld_of hs ?_
  rcases Nat.eq_zero_or_pos n with h0 | h0
  · left; omega
  · right
    rw [hl, h]
    have := val_ge (vldB_limbs N) (by omega)
    rw [val_limbs, hN] at this
    omega
theorem ac_more {zs : List Nat} {N d n cy : Nat} (hs : Sm zs) (hl : zs.length = n) (hc : cy < 4294967296) (h0 : 0 < cy) (h : val zs + 4294967296 ^ n * cy = N * 1000000000 + d) : zs ++ [cy] = limbs (N * 1000000000 + d) := by
  rw [← h, ← hl, ← val_snoc]
  refine vld_of ?_ (.inr ?_)
  · intro z hz
    rcases List.mem_append.1 hz with hz | hz
    · exact hs z hz
    · rw [List.mem_singleton.1 hz]; exact hc
  · rw [val_snoc, List.length_append]
    show 4294967296 ^ (zs.length + 1 - 1) ≤ _
    rw [Nat.add_sub_cancel]
    have := Nat.mul_le_mul_left (4294967296 ^ zs.length) h0
    omega
theorem ac_end {zs zs0 : List Nat} {n cy d N : Nat} (hl : zs.length = n) (h0 : zs0.length = n) (hN : zs0 = limbs N)
    (h : val (zs.take n) + 4294967296 ^ n * cy = val (zs0.take n) * 1000000000 + d) : val zs + 4294967296 ^ n * cy = N * 1000000000 + d := by
  rw [List.take_of_length_le (by omega), List.take_of_length_le (by omega), hN, val_limbs] at h
  exact h

theorem Gr.below {w w' : World} {base : Nat} {v : Value} {zs : List Nat} (h : Gr w base v zs) (hb : Below w.heap.size w w') : Gr w' base v zs := by
  refine ⟨⟨h.own.1, ?_⟩, h.sm⟩
  rcases h.own.2 with h2 | ⟨g, cap, cur, hv, hbg, hh, hr⟩
  · exact .inl h2
  · have hlt : g < w.heap.size := by
      rcases Nat.lt_or_ge g w.heap.size with h | h
      · exact h
      · rw [Array.getElem?_eq_none h] at hh; cases hh
    exact .inr ⟨g, cap, cur, hv, hbg, by rw [hb.block g hlt]; exact hh, hr⟩

set_option maxHeartbeats 2000000 in
theorem append_any (base N n c : Nat) (A : Option Addr) (s : ByteArray) (w : World) (hG : Gr w base (.slice A n c) (limbs N)) (hl : (limbs N).length = n) (hb : base ≤ w.heap.size)
    (hs0 : 0 < s.size) (hs9 : s.size ≤ 9) (ha : allDig s.data.toList = true) (hn : n ≤ 1000) :
    Calls Tryd.prog 54 #[.slice A n c, .string s] w fun e w' => ∃ v', e = .returned v' ∧ Gr w' base v' (limbs (N * 1000000000 + dval s.data.toList)) ∧ Below base w w' := by
  have hp := parse32 (l := s.data.toList) (by intro h; have := toList_len s; rw [h] at this; simp at this; omega) ha (by rw [toList_len]; exact hs9)
  have hd9 := dval_lt ha
  have : 10 ^ s.data.toList.length ≤ 10 ^ 9 := Nat.pow_le_pow_right (by decide) (by rw [toList_len]; exact hs9)
  obtain ⟨d, hd⟩ : ∃ d, dval s.data.toList = d := ⟨_, rfl⟩
  rw [hd] at hp hd9 ⊢
  have hdb : d < 1000000000 := by omega
  clear this hd9
  replace hd := Lib.hid hd
  replace hp := Lib.hid hp
  replace ha := Lib.hid ha
  replace hG := Lib.hid hG
  replace hl := Lib.hid hl
  replace hb := Lib.hid hb
  go_enter Tryd.func54, Tryd.ntmps54
  go_wp2_with (go_at_call 89; refine (Tryd.strconv_ParseUint_10_at32_ok s (by omega) d hp.out _).mono ?_; rintro e w1 ⟨rfl, hw1⟩; refine Hid.out ?_)
  refine Lib.hid ?_
  have hB1 : Below w.heap.size w w1 := by
    rcases hw1 with rfl | rfl
    · exact Below.refl _ _
    · exact Lib.bytesWorld_below _ _ _
  clear hw1
  have hG1 := Lib.hid (hG.out.below hB1)
  have hb1 := Lib.hid (Nat.le_trans hb.out hB1.size)
  replace hB1 := Lib.hid (hB1.mono hb.out)
  go_wp2
  go_loopw [5, 16] (fun cv iv wr => ∃ (k cy : Nat) (zs : List Nat), k ≤ n ∧ iv = .int .i64 k ∧ cv = .int .u64 cy ∧ cy < 4294967296 ∧ zs.length = n ∧ Gr wr base (.slice A n c) zs ∧ Below base w wr ∧
      val (zs.take k) + 4294967296 ^ k * cy = val ((limbs N).take k) * 1000000000 + d ∧ zs.drop k = (limbs N).drop k)
    (fun _ iv _ => n - (intOf iv).toNat)
  case atStart => exact ⟨0, d, limbs N, Nat.zero_le _, rfl, rfl, by omega, hl.out, hG1.out, hB1.out, by simp [val], rfl⟩
  case round =>
    clear hG1 hB1 hb1
    obtain ⟨k, cy, zs, hk, rfl, rfl, hcy, hlz, hGz, hBz, hv, hdr⟩ := hrel
    replace hdr := Lib.hid hdr
    replace hv := Lib.hid hv
    replace hBz := Lib.hid hBz
    by_cases hlt : k < n
    · obtain ⟨A2, c2, hv2, R, hcase⟩ := hGz.form
      injection hv2 with e1 e2 e3
      subst e1 e3
      clear R e2
      rcases hcase with h0 | ⟨g, rfl, hbg, O⟩
      · omega
      have hcell := O.cell (k := k) (by omega)
      obtain ⟨x, hx⟩ : ∃ x, zs.getD k 0 = x := ⟨_, rfl⟩
      have hxb : x < 4294967296 := by rw [← hx]; exact sm_get hGz.sm _
      rw [hx] at hcell
      have hfz := O.frozen k
      clear O
      obtain ⟨t, ht⟩ : ∃ t, t = cy + x * 1000000000 := ⟨_, rfl⟩
      have htc : (cy : Int) + (x : Int) * 1000000000 = (t : Int) := by rw [ht]; simp
      have htb : (t : Int) ≤ 18446744073709551615 := by omega
      have htd : t / 4294967296 < 4294967296 := by omega
      have hst := Lib.hid (ac_step hlt hlz hv.out hdr.out hx ht)
      have hdd := Lib.hid (ac_drop (v := t % 4294967296) hdr.out)
      have hG2 := Lib.hid (hGz.set_ k (t % 4294967296) (by omega))
      replace htd := Lib.hid htd
      replace hx := Lib.hid hx
      replace hlz := Lib.hid hlz
      replace hGz := Lib.hid hGz
      clear ht
      have hx0 : (0 : Int) ≤ (x : Int) * 1000000000 := by omega
      have hx1 : (x : Int) * 1000000000 ≤ 4294967295000000000 := by omega
      go_wp2
      go_roundw
      case rel =>
        have e : ((t % 4294967296 : Nat) : Int) = (t : Int) % 4294967296 := by omega
        have hG3 := hG2.out
        rw [e] at hG3
        exact ⟨k + 1, t / 4294967296, _, by omega, by go_num, by go_num, htd.out, by rw [List.length_set]; exact hlz.out, hG3, hBz.out.setCell hbg _, hst.out, hdd.out⟩
      case measure => simp [intOf]; omega
    · obtain rfl : k = n := by omega
      have hfin := ac_end hlz hl.out rfl hv.out
      clear hv hdr
      have hwr := Lib.hid (Nat.le_trans hb.out hBz.out.size)
      by_cases hc0 : cy = 0
      · subst hc0
        have he := ac_same hGz.sm hlz hl.out (by rw [← hfin]; simp)
        rw [he] at hGz
        replace hGz := Lib.hid hGz
        replace hlz := Lib.hid hlz
        replace hfin := Lib.hid hfin
        clear he hk hlt
        go_wp2
        go_ret
        exact ⟨_, rfl, hGz.out, hBz.out⟩
      · have he := Lib.hid (ac_more hGz.sm hlz hcy (by omega) hfin)
        have hc1 : (0 : Int) < (cy : Int) := by omega
        have hc2 : (cy : Int) ≤ 4294967295 := by omega
        replace hGz := Lib.hid hGz
        replace hlz := Lib.hid hlz
        replace hfin := Lib.hid hfin
        clear hk hlt hc0
        go_wp2_with (at_builtin; refine wpList_append_u32 _ rfl (.tmp 36) (.tmp 39) rfl base _ zs rfl (hGz.out.alloc _) ⟨wr.heap.size, 0, none⟩ 1 1 [cy] rfl (lit1 _ _ _ _ rfl ?c0 ?c3) ?c1 ?c2 ?_)
        case c0 => omega
        case c3 => omega
        case c1 => rw [hlz.out]; omega
        case c2 => have := hwr.out; simp; omega
        intro v' w' hG' hg
        have hB' := Lib.hid (Below.grown (hBz.out.alloc hwr.out _) hg (by have := hwr.out; simp; omega) (own_ge hGz.out))
        rw [he.out] at hG'
        replace hG' := Lib.hid hG'
        clear hg
        go_wp2
        go_ret
        exact ⟨_, rfl, hG'.out, hB'.out⟩
end Go.Proofs.YtkdeajocogdmgaaDoor
