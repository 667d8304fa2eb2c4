/- What Format writes is read back by Parse. Decimal of rational for every number of digits. What Decimal writes is read by Parse as the number that was rounded. Decimal is near: the mathematics. The reference's Power; made's Mod. What Decimal writes, read by Parse; a drawn region that lays out a row. -/
import Derived.Test.YtekmoaedidigpaaGreatDoorQRnz
import Derived.Test.YtekmoaedidigpaaGreatDoorQWxz
import Derived.Test.YtekmoaedidigpaaGreatDoorQWqz
import Derived.Test.YtekmoaedidigpaaGreatDoorQWjz
import Derived.Test.YtekmoaedidigpaaGreatDoorDr
namespace Go.Proofs.YtekmoaedidigpaaGreatDoor
open Go.RowKit RQ

theorem dl_no {l : List UInt8} (h : allDig l = true) {c : UInt8} (hc : isDig c = false) : ∀ x ∈ l, x ≠ c := by
  intro x hx e
  subst e
  have := List.all_eq_true.1 h x hx
  rw [hc] at this; cases this
theorem hasB_no {l : List UInt8} {c : UInt8} (h : ∀ x ∈ l, x ≠ c) : hasB c l = false := by
  unfold hasB
  rw [Bool.eq_false_iff]
  intro hh
  have := List.contains_iff_mem.1 hh
  exact h c this rfl
theorem hasB_mid (l r : List UInt8) (c : UInt8) : hasB c (l ++ c :: r) = true := by
  unfold hasB; rw [List.contains_iff_mem]; simp
theorem bef_mid {l r : List UInt8} {c : UInt8} (h : ∀ x ∈ l, x ≠ c) : bef c (l ++ c :: r) = l ∧ aft c (l ++ c :: r) = r := by
  have hp : ∀ x ∈ l, (x != c) = true := fun x hx => by simpa using h x hx
  unfold bef aft
  rw [List.takeWhile_append_of_pos hp, List.dropWhile_append_of_pos hp]
  simp
theorem isDec_bs {N : Nat} (h : (Lib.decDigits N).length ≤ 4000) : isDec (bs (Lib.decDigits N)) = true := isDec_txt h
theorem pref_45 {l : List UInt8} (h : ∀ c r, l = c :: r → c ≠ 45) : Lib.hasPrefix l [45] = false := by
  unfold Lib.hasPrefix
  cases l with
  | nil => rfl
  | cons c r =>
    have := h c r rfl
    simp [List.isPrefixOf]
    exact fun e => this e.symm
end Go.Proofs.YtekmoaedidigpaaGreatDoor

namespace Go.Proofs.YtekmoaedidigpaaGreatDoor
open Go.RowKit RQ
theorem repeat_zeros : ∀ c : Nat, Lib.repeatL [48] c = List.replicate c 48
  | 0 => rfl
  | c + 1 => by rw [Lib.repeatL, repeat_zeros c, List.replicate_succ]; rfl
theorem repOk {m : Nat} (h1 : 1 ≤ m) (h2 : m ≤ 5000) : RepOk m := by
  rcases Nat.eq_or_lt_of_le h1 with h | h
  · rw [← h]; exact repeat_one
  · intro w
    have := Tryz.strings_Repeat_main ⟨#[48]⟩ m w (by omega) (by omega) (by show 1 * m ≤ _; omega) (by decide)
    rw [show (⟨#[48]⟩ : ByteArray).data.toList = [48] from rfl, repeat_zeros] at this
    exact this
theorem decimalD (q : Rat) (k : Nat) (A : Option Addr) (n c : Nat) (D : Option Addr) (m d : Nat) (w : World) (h : RR w A n c D m d q) (hn : Rs q 40) (hk : k ≤ 100) (htab : Tab w) :
    Calls Tryz.prog 12 #[.agg #[.bool (ng q.num), .slice A n c, .slice D m d], .int .i64 (k : Int)] w fun e w' => e = .returned (.string (dtxt q k)) ∧ Below w.heap.size w w' := by
  refine decimalQ_any q k A n c D m d w (dtxt q k) h hn hk htab rfl ?_
  rcases Nat.eq_zero_or_pos (k + 1 - (txt (drnd q k)).data.toList.length) with h0 | h0
  · exact .inl h0
  · exact .inr (repOk h0 (by omega))
end Go.Proofs.YtekmoaedidigpaaGreatDoor

namespace Go.Proofs.YtekmoaedidigpaaGreatDoor
open Go.RowKit RQ
theorem dval_zeros : ∀ (m : Nat) (l : List UInt8), dval (List.replicate m 48 ++ l) = dval l
  | 0, l => rfl
  | m + 1, l => by rw [List.replicate_succ, List.cons_append, dval_zero, dval_zeros m l]
theorem allDig_app {l r : List UInt8} (h1 : allDig l = true) (h2 : allDig r = true) : allDig (l ++ r) = true := by
  unfold allDig at *; rw [List.all_append, h1, h2]; rfl
theorem allDig_zeros (m : Nat) : allDig (List.replicate m 48) = true := by
  unfold allDig; rw [List.all_eq_true]; intro x hx; rw [List.eq_of_mem_replicate hx]; decide
theorem allDig_sub {l r : List UInt8} (h : allDig l = true) (hs : ∀ x ∈ r, x ∈ l) : allDig r = true := by
  unfold allDig at *; rw [List.all_eq_true] at *; exact fun x hx => h x (hs x hx)
theorem pad0_dig (N p : Nat) : allDig (pad0 (Lib.decDigits N) p) = true := allDig_app (allDig_zeros _) (dec_all N).1
theorem pad0_val (N p : Nat) : dval (pad0 (Lib.decDigits N) p) = N := by unfold pad0; rw [dval_zeros]; exact (dec_all N).2
theorem isDec_take {N p i : Nat} (hi : (pad0 (Lib.decDigits N) p).length - p = i) (hl : (Lib.decDigits N).length ≤ 3000) (hp : p ≤ 100) : isDec (bs ((pad0 (Lib.decDigits N) p).take i)) = true := by
  obtain ⟨q1, q2⟩ := pad0_len (Lib.decDigits N) p
  have hlen : ((pad0 (Lib.decDigits N) p).take i).length = i := by rw [List.length_take]; omega
  rw [isDec_digs (by rw [bs_size]; omega) (by rw [bs_size]; omega) ?_, bs_list]
  · exact allDig_sub (pad0_dig N p) (fun x hx => List.mem_of_mem_take hx)
  · rintro ⟨h1, h2⟩
    rw [bs_size, hlen] at h1
    have hz : p + 1 - (Lib.decDigits N).length = 0 := by
      have : (pad0 (Lib.decDigits N) p).length = (p + 1 - (Lib.decDigits N).length) + (Lib.decDigits N).length := by unfold pad0; rw [List.length_append, List.length_replicate]
      omega
    have hP : pad0 (Lib.decDigits N) p = Lib.decDigits N := by unfold pad0; rw [hz]; rfl
    rw [hP] at h2 hi
    rcases Nat.eq_zero_or_pos N with h0 | h0
    · subst h0
      rw [Lib.decDigits_one (by decide)] at hi
      simp at hi; omega
    · obtain ⟨c, r, e, hc⟩ := dec_head N h0
      rw [e] at h2
      obtain ⟨j, rfl⟩ : ∃ j, i = j + 1 := ⟨i - 1, by omega⟩
      rw [List.take_succ_cons] at h2
      have : (bs (c :: r.take j)).get! 0 = c := rfl
      rw [this] at h2
      omega
theorem wp_chars (N p : Nat) : ∀ x ∈ wp (Lib.decDigits N) p, isDig x = true ∨ x = 46 := by
  intro x hx
  unfold wp at hx
  split at hx
  · exact .inl (List.all_eq_true.1 (dec_all N).1 x hx)
  · rcases List.mem_append.1 hx with h | h
    · exact .inl (List.all_eq_true.1 (pad0_dig N p) x (List.mem_of_mem_take h))
    · rcases List.mem_cons.1 h with h | h
      · exact .inr h
      · exact .inl (List.all_eq_true.1 (pad0_dig N p) x (List.mem_of_mem_drop h))
theorem wp_no47 (N p : Nat) : hasB 47 (wp (Lib.decDigits N) p) = false := hasB_no fun x hx e => by
  rcases wp_chars N p x hx with h | h <;> subst e <;> revert h <;> decide
theorem wp_noE (N p : Nat) : hasE (wp (Lib.decDigits N) p) = false := by
  unfold hasE
  rw [List.any_eq_false]
  intro x hx
  rw [Bool.not_eq_true]
  have key : ∀ x : UInt8, isE x = true → isDig x = false ∧ x ≠ 46 := by
    intro x hE
    unfold isE at hE
    have hm := List.contains_iff_mem.1 hE
    simp at hm
    rcases hm with rfl | rfl <;> exact ⟨by decide, by decide⟩
  rw [Bool.eq_false_iff]
  intro hE
  obtain ⟨a, b⟩ := key x hE
  rcases wp_chars N p x hx with h | h
  · rw [a] at h; cases h
  · exact b h
theorem wp_read (N p : Nat) (hl : (Lib.decDigits N).length ≤ 3000) (hp : p ≤ 100) :
    pdok (bs (wp (Lib.decDigits N) p)) = true ∧ pdval (bs (wp (Lib.decDigits N) p)) = N ∧ pdpl (bs (wp (Lib.decDigits N) p)) = p := by
  by_cases h0 : p = 0
  · subst h0
    have e : wp (Lib.decDigits N) 0 = Lib.decDigits N := by unfold wp; rw [if_pos rfl]
    rw [e]
    have n46 := dl_no (dec_all N).1 (c := 46) (by decide)
    have hB : pdB (bs (Lib.decDigits N)) = bs (Lib.decDigits N) := by unfold pdB; rw [bs_list, (index_no (hasB_no n46)).2]
    have hA : pdA (bs (Lib.decDigits N)) = ⟨#[]⟩ := by unfold pdA; rw [bs_list, hasB_no n46]; rfl
    have hk : pdok (bs (Lib.decDigits N)) = true := by unfold pdok; rw [hB, isDec_bs (by omega), bs_list, hasB_no n46]; rfl
    refine ⟨hk, ?_, ?_⟩
    · unfold pdval; rw [hk, if_pos rfl, hB, hA, bs_list]
      show dval (Lib.decDigits N ++ []) = _
      rw [List.append_nil]; exact (dec_all _).2
    · unfold pdpl; rw [hk, if_pos rfl, hA]; rfl
  · obtain ⟨q1, q2⟩ := pad0_len (Lib.decDigits N) p
    obtain ⟨i, hi⟩ : ∃ i, (pad0 (Lib.decDigits N) p).length - p = i := ⟨_, rfl⟩
    have e : wp (Lib.decDigits N) p = (pad0 (Lib.decDigits N) p).take i ++ 46 :: (pad0 (Lib.decDigits N) p).drop i := by unfold wp; rw [if_neg h0, hi]
    have hT := allDig_sub (r := (pad0 (Lib.decDigits N) p).take i) (pad0_dig N p) (fun x hx => List.mem_of_mem_take hx)
    have hU := allDig_sub (r := (pad0 (Lib.decDigits N) p).drop i) (pad0_dig N p) (fun x hx => List.mem_of_mem_drop hx)
    have hUl : ((pad0 (Lib.decDigits N) p).drop i).length = p := by rw [List.length_drop]; omega
    have hD := isDec_take hi hl hp
    have hv : dval ((pad0 (Lib.decDigits N) p).take i ++ (pad0 (Lib.decDigits N) p).drop i) = N := by rw [List.take_append_drop]; exact pad0_val N p
    rw [e]
    generalize (pad0 (Lib.decDigits N) p).take i = T at *
    generalize (pad0 (Lib.decDigits N) p).drop i = U at *
    obtain ⟨b1, b2⟩ := bef_mid (r := U) (dl_no hT (c := 46) (by decide))
    have hB : pdB (bs (T ++ 46 :: U)) = bs T := by unfold pdB; rw [bs_list, b1]
    have hA : pdA (bs (T ++ 46 :: U)) = bs U := by unfold pdA; rw [bs_list, hasB_mid, if_pos rfl, b2]
    have hk : pdok (bs (T ++ 46 :: U)) = true := by
      unfold pdok
      rw [hB, hA, hD, bs_list, hasB_mid, bs_list]
      unfold digs
      rw [hU]
      have : U.isEmpty = false := by cases U with
        | nil => simp at hUl; omega
        | cons _ _ => rfl
      rw [this]; rfl
    refine ⟨hk, ?_, ?_⟩
    · unfold pdval; rw [hk, if_pos rfl, hB, hA, bs_list, bs_list]; exact hv
    · unfold pdpl; rw [hk, if_pos rfl, hA, bs_size]; exact hUl
theorem p1_wp (N p : Nat) (hl : (Lib.decDigits N).length ≤ 3000) (hp : p ≤ 100) :
    p1ok (bs (wp (Lib.decDigits N) p)) = true ∧ p1q (bs (wp (Lib.decDigits N) p)) = Rat.divInt (N : Int) ((10 ^ p : Nat) : Int) := by
  obtain ⟨k1, k2, k3⟩ := wp_read N p hl hp
  have hE := wp_noE N p
  have hM : pM (bs (wp (Lib.decDigits N) p)) = bs (wp (Lib.decDigits N) p) := by unfold pM; rw [bs_list, hE]; rfl
  have hx : psx (bs (wp (Lib.decDigits N) p)) = 0 := by unfold psx; rw [bs_list, hE]; rfl
  have hok : psok (bs (wp (Lib.decDigits N) p)) = true := by unfold psok; rw [bs_list, hE, hM, k1]; rfl
  unfold p1ok p1q
  rw [bs_list, wp_no47, if_neg (by simp), if_neg (by simp)]
  refine ⟨hok, ?_⟩
  unfold psq
  rw [hok, if_pos rfl, hM, k2, k3, hx]
  unfold qscale
  rcases Nat.eq_zero_or_pos p with h0 | h0
  · subst h0
    rw [if_pos (by decide)]
    show (((N * 10 ^ 0 : Nat) : Int) : Rat) = _
    rw [Nat.pow_zero, Nat.mul_one]
    exact (over_one _).symm
  · rw [if_neg (by omega), show (-(0 - (p : Int))).toNat = p by omega]
end Go.Proofs.YtekmoaedidigpaaGreatDoor

namespace Go.Proofs.YtekmoaedidigpaaGreatDoor
open Go.RowKit RQ
/-- The number that Decimal writes. -/
def dT (q : Rat) (k : Nat) : Rat := Rat.divInt (drnd q k : Int) ((10 ^ k : Nat) : Int)
def dY (q : Rat) (k : Nat) : Rat := if ng q.num = true ∧ drnd q k ≠ 0 then -(dT q k) else dT q k
theorem p10 (k : Nat) : (0 : Int) < ((10 ^ k : Nat) : Int) := by have := Nat.pow_pos (n := k) (show 0 < 10 by decide); omega
theorem dT_nonneg (q : Rat) (k : Nat) : 0 ≤ (dT q k).num := by
  unfold dT
  rw [(divInt_pos _ (p10 k)).1]
  exact Int.ediv_nonneg (by omega) (by omega)
theorem dT_cross (q : Rat) (k : Nat) : (dT q k).num.natAbs * 10 ^ k = drnd q k * (dT q k).den := by
  have h : (dT q k).num * ((10 ^ k : Nat) : Int) = ((dT q k).den : Int) * (drnd q k : Int) := by
    unfold dT
    have hp := p10 k
    obtain ⟨e1, e2⟩ := divInt_pos (drnd q k : Int) hp
    generalize ((10 ^ k : Nat) : Int) = v at *
    generalize (drnd q k : Int) = u at *
    rw [e1, e2]
    obtain ⟨a, ha⟩ : (Int.gcd u v : Int) ∣ u := Int.gcd_dvd_left ..
    obtain ⟨b, hb⟩ : (Int.gcd u v : Int) ∣ v := Int.gcd_dvd_right ..
    have hg : (Int.gcd u v : Int) ≠ 0 := by intro e; rw [e] at hb; omega
    generalize (Int.gcd u v : Int) = g at *
    subst ha; subst hb
    rw [Int.mul_ediv_cancel_left _ hg, Int.mul_ediv_cancel_left _ hg, Int.mul_comm g b, ← Int.mul_assoc, Int.mul_comm a b, Int.mul_assoc b a g, Int.mul_comm a g]
  have h2 := dT_nonneg q k
  have e : ((dT q k).num.natAbs : Int) = (dT q k).num := by omega
  have : (((dT q k).num.natAbs * 10 ^ k : Nat) : Int) = ((drnd q k * (dT q k).den : Nat) : Int) := by
    rw [Int.natCast_mul, Int.natCast_mul, e, h, Int.mul_comm]
  exact Int.ofNat.inj this
theorem near_mul {N d : Nat} (hd : 0 < d) : near (N * d) d = N := by
  unfold near
  rw [Nat.mul_mod_left, Nat.mul_div_cancel _ hd, if_neg (by omega)]
theorem drnd_T (q : Rat) (k : Nat) : drnd (dT q k) k = drnd q k := by
  show near ((dT q k).num.natAbs * 10 ^ k) (dT q k).den = _
  rw [dT_cross, near_mul (dT q k).den_pos]
theorem drnd_Y (q : Rat) (k : Nat) : drnd (dY q k) k = drnd q k := by
  unfold dY
  split
  · show near ((-(dT q k)).num.natAbs * 10 ^ k) (-(dT q k)).den = _
    rw [Rat.neg_num, Int.natAbs_neg]
    exact drnd_T q k
  · exact drnd_T q k
theorem dY_sign (q : Rat) (k : Nat) : (ng (dY q k).num = true ∧ drnd q k ≠ 0) ↔ (ng q.num = true ∧ drnd q k ≠ 0) := by
  have hn := dT_nonneg q k
  have hc := dT_cross q k
  unfold dY
  split
  · rename_i h
    refine ⟨fun _ => h, fun _ => ⟨?_, h.2⟩⟩
    have : (dT q k).num ≠ 0 := by
      intro e
      rw [e, Int.natAbs_zero, Nat.zero_mul] at hc
      rcases Nat.mul_eq_zero.1 hc.symm with hc | hc
      · exact h.2 hc
      · exact (dT q k).den_nz hc
    show decide ((-(dT q k)).num < 0) = true
    rw [Rat.neg_num]
    exact decide_eq_true (by omega)
  · rename_i h
    constructor
    · rintro ⟨h1, h2⟩
      have : (dT q k).num < 0 := of_decide_eq_true h1
      omega
    · intro h'; exact absurd h' h
theorem dtxt_Y (q : Rat) (k : Nat) : dtxt (dY q k) k = dtxt q k := by
  have e := drnd_Y q k
  have hs := dY_sign q k
  have hb : dbody (dY q k) k = dbody q k := by unfold dbody; rw [e]
  unfold dtxt
  rw [hb, e]
  by_cases h : ng q.num = true ∧ drnd q k ≠ 0
  · rw [if_pos h, if_pos (hs.2 h)]
  · rw [if_neg h, if_neg (fun h' => h (hs.1 h'))]
theorem near_bd {B d : Nat} (hd : 0 < d) : 2 * B ≤ 2 * (near B d * d) + d ∧ 2 * (near B d * d) ≤ 2 * B + d := by
  have h1 := Nat.div_add_mod B d
  have h2 := Nat.mod_lt B hd
  unfold near
  rw [Nat.mul_comm] at h1
  split
  · rename_i h
    rw [Nat.add_mul, Nat.one_mul]
    generalize B / d * d = X at *
    omega
  · rename_i h
    generalize B / d * d = X at *
    omega
theorem den_mul (q : Rat) : q * ((q.den : Int) : Rat) = (q.num : Rat) := by
  have hd : ((q.den : Int) : Rat) ≠ 0 := by
    have := Rat.intCast_pos.2 (den_pos' q)
    exact fun e => Rat.lt_irrefl (e ▸ this)
  have e : q = (q.num : Rat) / ((q.den : Int) : Rat) := by rw [← Rat.divInt_eq_div]; exact (over_eq q).symm
  generalize ((q.den : Int) : Rat) = d at *
  generalize (q.num : Rat) = n at *
  rw [e]; exact Rat.div_mul_cancel hd
theorem dT_mul (q : Rat) (k : Nat) : dT q k * (((10 ^ k : Nat) : Int) : Rat) = ((drnd q k : Int) : Rat) := by
  have hd : (((10 ^ k : Nat) : Int) : Rat) ≠ 0 := by
    have := Rat.intCast_pos.2 (p10 k)
    exact fun e => Rat.lt_irrefl (e ▸ this)
  unfold dT
  rw [Rat.divInt_eq_div]
  exact Rat.div_mul_cancel hd
theorem dY_mul (q : Rat) (k : Nat) : dY q k * (((10 ^ k : Nat) : Int) : Rat) = (((if ng q.num = true then -(drnd q k : Int) else (drnd q k : Int)) : Int) : Rat) := by
  unfold dY
  by_cases h : ng q.num = true
  · rw [if_pos h]
    by_cases h0 : drnd q k = 0
    · rw [if_neg (fun h' => h'.2 h0), dT_mul, h0]; rfl
    · rw [if_pos ⟨h, h0⟩, Rat.neg_mul, dT_mul, Rat.intCast_neg]
  · rw [if_neg h, if_neg (fun h' => h h'.1), dT_mul]
/-- Twice the difference, in units of the last digit. -/
theorem near_int (q : Rat) (k : Nat) : ∃ M : Int, (q - dY q k) * (((10 ^ k : Nat) : Int) : Rat) * ((2 : Int) : Rat) * ((q.den : Int) : Rat) = (M : Rat) ∧ M ≤ q.den ∧ -(q.den : Int) ≤ M := by
  obtain ⟨b1, b2⟩ := near_bd (B := q.num.natAbs * 10 ^ k) q.den_pos
  have hN : near (q.num.natAbs * 10 ^ k) q.den = drnd q k := rfl
  rw [hN] at b1 b2
  refine ⟨(q.num * ((10 ^ k : Nat) : Int) - (if ng q.num = true then -(drnd q k : Int) else (drnd q k : Int)) * (q.den : Int)) * 2, ?_, ?_⟩
  · have e1 := dY_mul q k
    have e2 := den_mul q
    generalize (if ng q.num = true then -(drnd q k : Int) else (drnd q k : Int)) = Z at *
    rw [Rat.intCast_mul, Rat.intCast_sub, Rat.intCast_mul, Rat.intCast_mul, ← e2, ← e1]
    generalize (((10 ^ k : Nat) : Int) : Rat) = t
    generalize ((q.den : Int) : Rat) = d
    generalize dY q k = y
    rw [Rat.sub_eq_add_neg, Rat.sub_eq_add_neg, Rat.add_mul, Rat.neg_mul, Rat.mul_assoc _ ((2 : Int) : Rat) d, Rat.mul_comm ((2 : Int) : Rat) d, ← Rat.mul_assoc, Rat.add_mul, Rat.neg_mul]
    congr 2
    rw [Rat.mul_assoc, Rat.mul_comm t d, ← Rat.mul_assoc]
  · have hB : ((q.num.natAbs * 10 ^ k : Nat) : Int) = (q.num.natAbs : Int) * ((10 ^ k : Nat) : Int) := Int.natCast_mul _ _
    have hX : ((drnd q k * q.den : Nat) : Int) = (drnd q k : Int) * (q.den : Int) := Int.natCast_mul _ _
    generalize hb : q.num.natAbs * 10 ^ k = B at *
    generalize hx : drnd q k * q.den = X at *
    cases hg : ng q.num
    · have h0 : ¬ q.num < 0 := of_decide_eq_false (show decide (q.num < 0) = false from hg)
      have e : (q.num.natAbs : Int) = q.num := by omega
      rw [if_neg (by simp), ← hX, ← e, ← hB]
      omega
    · have h0 : q.num < 0 := of_decide_eq_true (show decide (q.num < 0) = true from hg)
      have e : q.num = -(q.num.natAbs : Int) := by omega
      rw [if_pos rfl, Int.neg_mul, ← hX, e, Int.neg_mul, ← hB]
      omega
theorem near_le1 (q : Rat) (k : Nat) : (q - dY q k).abs * ((((10 ^ k : Nat) : Int) : Rat) * ((2 : Int) : Rat)) ≤ 1 := by
  obtain ⟨M, e, h1, h2⟩ := near_int q k
  have hd : (0 : Rat) < ((q.den : Int) : Rat) := Rat.intCast_pos.2 (den_pos' q)
  refine Rat.le_of_mul_le_mul_right (c := ((q.den : Int) : Rat)) ?_ hd
  rw [Rat.one_mul]
  have ha : (q - dY q k).abs = q - dY q k ∨ (q - dY q k).abs = -(q - dY q k) := by unfold Rat.abs; split; exact .inl rfl; exact .inr rfl
  rw [← Rat.mul_assoc]
  rcases ha with ha | ha
  · rw [ha, e]; exact Rat.intCast_le_intCast.2 h1
  · rw [ha, Rat.neg_mul, Rat.neg_mul, Rat.neg_mul, e, ← Rat.intCast_neg]; exact Rat.intCast_le_intCast.2 (by omega)
end Go.Proofs.YtekmoaedidigpaaGreatDoor

namespace Go.Proofs.YtekmoaedidigpaaGreatDoor
open Go.RowKit RQ
theorem lit_any {z : Nat} (hz : z < 4294967296) (h0 : 0 < z) (w : World) (t : Nat) : Rd (w.alloc (.cells #[.int .u32 (z : Int)] t)) (some ⟨w.heap.size, 0, none⟩) 1 1 (limbs z) := by
  have e : limbs z = [z] := by rw [limbs_pos h0, Nat.mod_eq_of_lt hz, Nat.div_eq_of_lt hz, limbs_zero]
  rw [e]
  refine ⟨rfl, Nat.le_refl _, fun x hx => by rw [List.mem_singleton.1 hx]; exact hz, .inr ⟨w.heap.size, 0, rfl, by simp, fun k hk => ?_⟩⟩
  obtain rfl : k = 0 := by omega
  rw [cell_of_row _ _ _ _ t (0, 0) (heap_alloc_new w _)]
  rfl
set_option maxHeartbeats 2000000 in
theorem rpower3_any (A : Option Addr) (n c : Nat) (xs : List Nat) (k : Int) (w : World) (h1 : Rd w A n c xs) (hn : n ≤ 6) :
    Calls Tryz.prog 16 #[.slice A n c, .int .i64 k] w (RetN (powV (num xs) k) w) := by
  have hxl : num xs < 4294967296 ^ 6 := by
    have := num_lt h1.sm
    rw [h1.len] at this
    exact Nat.lt_of_lt_of_le this (Nat.pow_le_pow_right (by omega) hn)
  obtain ⟨x, hx⟩ : ∃ x, num xs = x := ⟨_, rfl⟩
  rw [hx] at hxl ⊢
  replace hx := Lib.hid hx
  replace h1 := Lib.hid h1
  replace hxl := Lib.hid hxl
  by_cases hk0 : k < 0
  · have e : powV x k = 0 := if_neg (by omega)
    rw [e]
    clear e
    go_enter Tryz.func16, Tryz.ntmps16
    go_wp2
    go_ret
    exact ⟨none, 0, 0, rfl, by rw [limbs_zero]; exact Rd.nil_ _ _ _, Below.refl _ _⟩
  by_cases hk64 : 64 < k
  · have e : powV x k = 0 := if_neg (by omega)
    rw [e]
    clear e
    go_enter Tryz.func16, Tryz.ntmps16
    go_wp2
    go_ret
    exact ⟨none, 0, 0, rfl, by rw [limbs_zero]; exact Rd.nil_ _ _ _, Below.refl _ _⟩
  have e : powV x k = x ^ k.toNat := if_pos (by omega)
  rw [e]
  obtain ⟨m, rfl⟩ := Int.eq_ofNat_of_zero_le (by omega : 0 ≤ k)
  rw [Int.toNat_natCast]
  have hm : m ≤ 64 := by omega
  clear e hk0 hk64
  go_enter Tryz.func16, Tryz.ntmps16
  go_wp2
  go_loopw [5, 6] (fun ov iv wr => ∃ (i : Nat) (A3 : Option Addr) (n3 c3 : Nat), i ≤ m ∧ iv = .int .i64 i ∧ ov = .slice A3 n3 c3 ∧ Rd wr A3 n3 c3 (limbs (x ^ i)) ∧ Below w.heap.size w wr)
    (fun _ iv _ => m - (intOf iv).toNat)
  case atStart => exact ⟨0, _, _, _, Nat.zero_le _, rfl, rfl, by rw [Nat.pow_zero]; exact lit_any (by decide) (by decide) w _, (Below.refl _ _).alloc (Nat.le_refl _) _⟩
  case round =>
    obtain ⟨i, A3, n3, c3, hi, rfl, rfl, R3, hB⟩ := hrel
    have hn3 : n3 ≤ 6 * i + 1 := by rw [← R3.len]; exact len_of_lt (pow_bd hxl.out (by omega))
    replace R3 := Lib.hid R3
    replace hB := Lib.hid hB
    by_cases hlt : i < m
    · have R1a := Lib.hid (h1.out.below hB.out)
      go_wp2_with fail
      refine (rmul_any _ _ _ _ _ _ _ _ _ R3.out R1a.out (by omega) (by omega)).mono ?_
      rintro e w3 ⟨A4, n4, c4, rfl, R4, b4⟩
      rw [num_limbs, hx.out, ← Nat.pow_succ] at R4
      replace R4 := Lib.hid R4
      replace hB := Lib.hid (hB.out.trans (b4.mono hB.out.size))
      clear b4 R3 R1a
      go_wp2
      go_roundw
      case rel => exact ⟨i + 1, _, _, _, by omega, by go_num, rfl, R4.out, hB.out⟩
      case measure => simp [intOf]; omega
    · obtain rfl : i = m := by omega
      go_wp2
      go_ret
      exact ⟨_, _, _, rfl, R3.out, hB.out⟩


set_option maxHeartbeats 1000000 in
theorem mod_any (v : Int) (w : World) (_ : -9223372036854775808 ≤ v) (_ : v ≤ 9223372036854775807) :
    Calls Tryz.prog 15 #[.int .i64 v, .int .i64 101] w fun e w' => ∃ k : Nat, k ≤ 100 ∧ e = .returned (.int .i64 (k : Int)) ∧ Below w.heap.size w w' := by
  have B := Lib.hid (Below.refl w.heap.size w)
  have b1 : -101 < v.tmod 101 := Int.lt_tmod_of_pos v (by decide)
  have b2 : v.tmod 101 < 101 := Int.tmod_lt_of_pos v (by decide)
  have w1' : IntKind.i64.wrap (v.tmod 101) = v.tmod 101 := IntWalk.i64_in _ (by omega)
  have w2' : IntKind.i64.wrap (v.tmod 101 + 101) = v.tmod 101 + 101 := IntWalk.i64_in _ (by omega)
  obtain ⟨r, hr⟩ : ∃ r, r = v.tmod 101 := ⟨_, rfl⟩
  rw [← hr] at w1' w2' b1 b2
  have hr' : v.tmod 101 = r := hr.symm
  by_cases hn : r < 0
  · obtain ⟨k, hk⟩ : ∃ k : Nat, (k : Int) = r + 101 := ⟨(r + 101).toNat, by omega⟩
    have hkb : Hid (k ≤ 100) := Lib.hid (by omega)
    have hg : decide (r < 0) = true := decide_eq_true hn
    rw [← hk] at w2'
    have hk' : r + 101 = (k : Int) := hk.symm
    clear hn b1 b2 hr hk
    go_enter Tryz.func15, Tryz.ntmps15
    go_wp2
    go_ret
    exact ⟨k, hkb.out, rfl, B.out⟩
  · obtain ⟨k, hk⟩ : ∃ k : Nat, (k : Int) = r := ⟨r.toNat, by omega⟩
    have hkb : Hid (k ≤ 100) := Lib.hid (by omega)
    have hg : decide (r < 0) = false := decide_eq_false hn
    subst hk
    clear hn b1 b2 hr w2'
    go_enter Tryz.func15, Tryz.ntmps15
    go_wp2
    go_ret
    exact ⟨k, hkb.out, rfl, B.out⟩
end Go.Proofs.YtekmoaedidigpaaGreatDoor

namespace Go.Proofs.YtekmoaedidigpaaGreatDoor
open Go.RowKit RQ
theorem dbody_eq (q : Rat) (k : Nat) : dbody q k = wp (Lib.decDigits (drnd q k)) k := by unfold dbody; rw [txt_list]
theorem dbody_head (q : Rat) (k : Nat) : ∀ c r, dbody q k = c :: r → c ≠ 45 := by
  intro c r h e
  subst e
  rw [dbody_eq] at h
  rcases wp_chars (drnd q k) k 45 (by rw [h]; exact List.mem_cons_self ..) with h' | h' <;> revert h' <;> decide
theorem rest_d (q : Rat) (k : Nat) : (hm (dtxt q k) = true ↔ (ng q.num = true ∧ drnd q k ≠ 0)) ∧ rest (dtxt q k) = bs (dbody q k) := by
  have hp := pref_45 (dbody_head q k)
  unfold hm rest Lib.trimPrefix dtxt
  by_cases h : ng q.num = true ∧ drnd q k ≠ 0
  · rw [if_pos h]
    have e : (⟨#[45]⟩ ++ bs (dbody q k) : ByteArray) = bs (45 :: dbody q k) := by rw [show (⟨#[45]⟩ : ByteArray) = bs [45] from rfl, ← bs_app]; rfl
    have h1 : Lib.hasPrefix (45 :: dbody q k) [45] = true := by unfold Lib.hasPrefix; simp [List.isPrefixOf]
    rw [e, bs_list, h1]
    exact ⟨⟨fun _ => h, fun _ => rfl⟩, rfl⟩
  · rw [if_neg h, bs_list, hp]
    exact ⟨⟨fun h' => (by cases h'), fun h' => absurd h' h⟩, rfl⟩
theorem drnd_small {q : Rat} {k : Nat} (hq : Rs q 8) : drnd q k < 10 ^ (78 + k + 1) := by
  have h1 := near_le (q.num.natAbs * 10 ^ k) q.den
  have h2 := hq.n
  have h3 : (4294967296 : Nat) ^ 8 < 10 ^ 78 := by decide
  have h4 : q.num.natAbs * 10 ^ k < 10 ^ 78 * 10 ^ k := Nat.mul_lt_mul_of_pos_right (Nat.lt_trans h2 h3) (Nat.pow_pos (by decide))
  rw [← Nat.pow_add] at h4
  rw [Nat.pow_succ]
  show near (q.num.natAbs * 10 ^ k) q.den < _
  generalize (10 : Nat) ^ (78 + k) = T at *
  omega
theorem drnd_digits {q : Rat} {k : Nat} (hq : Rs q 8) : (Lib.decDigits (drnd q k)).length ≤ 78 + k + 1 := dec_len_le (drnd_small hq)
theorem parse_d (q : Rat) (k : Nat) (hq : Rs q 8) (hk : k ≤ 100) : pOk (dtxt q k) = true ∧ pQ (dtxt q k) = dY q k ∧ Asc (dtxt q k) ∧ (dtxt q k).size ≤ 300 ∧ p1q (rest (dtxt q k)) = dT q k := by
  have hl := drnd_digits (k := k) hq
  obtain ⟨r1, r2⟩ := rest_d q k
  obtain ⟨p1, p2⟩ := p1_wp (drnd q k) k (by omega) hk
  rw [← dbody_eq] at p1 p2
  have hw := wp_len (Lib.decDigits (drnd q k)) k
  refine ⟨?_, ?_, ?_, ?_, ?_⟩
  · unfold pOk; rw [r2]; exact p1
  · unfold pQ dY
    by_cases h : ng q.num = true ∧ drnd q k ≠ 0
    · rw [if_pos (r1.2 h), if_pos h, r2, p2]; rfl
    · rw [if_neg (fun h' => h (r1.1 h')), if_neg h, r2, p2]; rfl
  · have hch : (dbody q k).all (fun b => decide (b.toNat < 128)) = true := by
      rw [List.all_eq_true]
      intro x hx
      rw [dbody_eq] at hx
      rcases wp_chars _ _ x hx with h | h
      · simp [isDig] at h ⊢; omega
      · subst h; decide
    refine asc_all ?_
    unfold dtxt
    split
    · rw [app_list, bs_list, List.all_append, hch]; decide
    · rw [bs_list]; exact hch
  · unfold dtxt
    rw [dbody_eq]
    split
    · rw [show (⟨#[45]⟩ : ByteArray) = bs [45] from rfl, ← bs_app, bs_size, List.length_append]; simp; omega
    · rw [bs_size]; omega
  · rw [r2]; exact p2
theorem dT_size {q : Rat} {k : Nat} (hq : Rs q 8) (hk : k ≤ 100) : Rs (dT q k) 30 := by
  have h1 := drnd_small (k := k) hq
  have h2 : (10 : Nat) ^ (78 + k + 1) ≤ 10 ^ 179 := Nat.pow_le_pow_right (by decide) (by omega)
  have h3 : (10 : Nat) ^ 179 < 4294967296 ^ 30 := by decide +kernel
  have h4 : (10 : Nat) ^ k ≤ 10 ^ 179 := Nat.pow_le_pow_right (by decide) (by omega)
  exact Rs.divInt (p10 k) (by rw [Int.natAbs_natCast]; omega) (by rw [Int.natAbs_natCast]; omega)
theorem dY_size {q : Rat} {k : Nat} (hq : Rs q 8) (hk : k ≤ 100) : Rs (dY q k) 30 := by
  unfold dY; split; exact (dT_size hq hk).neg; exact dT_size hq hk
theorem parseD (q : Rat) (k : Nat) (w : World) (hq : Rs q 8) (hk : k ≤ 100) : Calls Tryz.prog 7 #[.string (dtxt q k)] w (RetRE (dY q k) (.bool true) w) := by
  obtain ⟨a, b, c, d, e⟩ := parse_d q k hq hk
  have := parseR_any (dtxt q k) w d c (by rw [e]; exact (dT_size hq hk).mono (by decide))
  rwa [a, b] at this
section
variable {P : Program} {ops : Array Oper} {Q : Exit → Act → World → Prop} {S : World → Prop} {w0 : World} {Z : List Zv} {L : Array Bool} {a : Act} {bs : List (Nat × Array Value × Nat)} {rs : List (Option Addr × Nat × Nat × List Nat)}
/-- A row of one element that is laid out next. -/
theorem RW.row {i : Nat} {oi : Oper} {o : Obj} {xs : List Nat} (dst : Option Nat) (hz : ZOk P ops S w0 Z bs) (hi : ops[i]? = some oi) (hd : oi.dst = dst) (hc : callOk ops Z L i oi = true) (hw : Region.wanted oi (yielded ops a.tmps) = true)
    (hx : ∀ w, (execOp a.eval oi).run P w = .ok (.value (.slice (some ⟨w.heap.size, 0, none⟩) 1 1)) (w.alloc o)) (hr : ∀ w : World, Rd (w.alloc o) (some ⟨w.heap.size, 0, none⟩) 1 1 xs)
    (h : ∀ g : Nat, RW P ops Q S w0 Z (L.setIfInBounds i true) (a.put dst (.slice (some ⟨g, 0, none⟩) 1 1)) bs ((some ⟨g, 0, none⟩, 1, 1, xs) :: rs)) : RW P ops Q S w0 Z L a bs rs := by
  simp only [callOk, Bool.and_eq_true, Bool.not_eq_true', beq_iff_eq] at hc
  obtain ⟨⟨⟨⟨c1, c2⟩, c3⟩, c4⟩, c5⟩ := hc
  have hcz : i ∉ Z.map (·.op) := by simpa using c3
  subst hd
  intro σ w hl hS hst
  generalize hn : σ.count none = n
  induction n using Nat.strongRecOn generalizing σ w with
  | ind n ih =>
    have hcr : i ∈ Region.ready .any ops (mark Z σ L) := ready_mark (by simpa using c2) hcz
    refine Wk.all ⟨i, hcr⟩ fun j hj => ?_
    by_cases hjz : j ∈ Z.map (·.op)
    · refine RW.alloc hz hl hst (mem_ready.1 hj).1 hjz fun σ' w' hl' hc' hS' hst' => ?_
      exact ih _ (by omega) σ' w' hl' hS' hst' rfl
    · have := ready_full hj hjz
      rw [c1] at this
      have := List.mem_singleton.1 this
      subst this
      unfold wpOp
      rw [hi]
      simp only [wanted_fill (ops := ops) oi Z σ a c4, hw, if_true]
      refine .inl ?_
      unfold Oper.wp
      rw [exec_fill (ops := ops) oi (fun cs b => Region.noSelect_spec c5 j oi cs b hi) Z σ a c4, hx]
      show S _ ∧ Wk P ops Q S _ (Act.put _ oi.dst _) _
      have hst' : St w0 (w.alloc o) (blks Z σ ++ bs) ((some ⟨w.heap.size, 0, none⟩, 1, 1, xs) :: rs) := (hst.call ((Below.refl _ _).alloc (Nat.le_refl _) _)).read (hr w)
      have hS' : S (w.alloc o) := hz.keep _ _ hst'.none
      refine ⟨hS', ?_⟩
      rw [← mark_set, ← fill_put Z σ a oi.dst _ (fun z hzm e => by
        have := List.all_eq_true.1 c4 z hzm
        simp only [Bool.and_eq_true, bne_iff_ne] at this
        exact this.2 e)]
      exact h _ σ _ hl hS' hst'
end
end Go.Proofs.YtekmoaedidigpaaGreatDoor
