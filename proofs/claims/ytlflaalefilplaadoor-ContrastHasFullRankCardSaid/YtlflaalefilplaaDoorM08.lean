/- Part of the base. -/
import Derived.Test.YtlflaalefilplaaDoorM07
import Derived.Lib.AppendIntMem
import Derived.Test.YtlflaalefilplaaDoorM01
import Derived.Test.YtlflaalefilplaaDoorM05
import Derived.Lib.IndexAny
import Derived.Lib.CleanWalkFns
namespace Go.Proofs.YtlflaalefilplaaDoor
open Go.RowKit

/-- The k low digits of u, padded with zeros. -/
def pad (k u : Nat) : List UInt8 := (List.range k).map fun t => Lib.dg u (k - 1 - t)
theorem pad_zero (u : Nat) : pad 0 u = [] := rfl
theorem pad_succ (k u : Nat) : pad (k + 1) u = pad k (u / 10) ++ [UInt8.ofNat (48 + u % 10)] := by
  unfold pad
  rw [List.range_succ, List.map_append]
  congr 1
  · refine List.map_congr_left fun t ht => ?_
    have ht' : t < k := List.mem_range.1 ht
    rw [show k + 1 - 1 - t = (k - 1 - t) + 1 by omega, Lib.dg_succ]
  · simp [Lib.dg]
theorem dec_pad : ∀ (k x c : Nat), 0 < x → c < 10 ^ k → Lib.decDigits (x * 10 ^ k + c) = Lib.decDigits x ++ pad k c
  | 0, x, c, _, hc => by
    have : c = 0 := by simpa using hc
    subst this
    simp [pad_zero]
  | k + 1, x, c, hx, hc => by
    have hp : 0 < 10 ^ k := Nat.pow_pos (by decide)
    have e1 : (x * 10 ^ (k + 1) + c) / 10 = x * 10 ^ k + c / 10 := by rw [Nat.pow_succ, ← Nat.mul_assoc]; omega
    have e2 : (x * 10 ^ (k + 1) + c) % 10 = c % 10 := by rw [Nat.pow_succ, ← Nat.mul_assoc]; omega
    have hge : ¬ x * 10 ^ (k + 1) + c < 10 := by
      have : 1 * 10 ^ (k + 1) ≤ x * 10 ^ (k + 1) := Nat.mul_le_mul_right _ hx
      rw [Nat.pow_succ] at this ⊢
      omega
    rw [Lib.decDigits, dif_neg hge, e1, e2, dec_pad k x (c / 10) hx (by rw [Nat.pow_succ] at hc; omega), pad_succ, List.append_assoc]
/-- Itoa(10^9 + c)[1:]. -/
theorem pad9 {c : Nat} (h : c < 1000000000) : (Lib.decDigits (1000000000 + c)).drop 1 = pad 9 c := by
  have := dec_pad 9 1 c (by decide) h
  rw [show 1 * 10 ^ 9 + c = 1000000000 + c by omega] at this
  rw [this, Lib.decDigits_one (by decide)]
  rfl
theorem pad_len (k u : Nat) : (pad k u).length = k := by simp [pad]

/-- The number whose chunks, the lowest first, are cs. -/
def cval : List Nat → Nat
  | [] => 0
  | c :: r => c + 1000000000 * cval r
theorem cval_snoc (cs : List Nat) (c : Nat) : cval (cs ++ [c]) = cval cs + 1000000000 ^ cs.length * c := by
  induction cs with
  | nil => simp [cval]
  | cons a r ih => simp only [List.cons_append, cval, ih, List.length_cons, Nat.pow_succ]; rw [Nat.mul_add, Nat.mul_comm (1000000000 ^ r.length) 1000000000, Nat.mul_assoc]; omega
/-- The text of the chunks from k on. -/
theorem cval_drop {cs : List Nat} {k : Nat} (hk : k < cs.length) : cval (cs.drop k) = cs.getD k 0 + 1000000000 * cval (cs.drop (k + 1)) := by
  rw [List.drop_eq_getElem_cons hk, cval]
  simp [List.getD_eq_getElem?_getD, hk]
/-- One more chunk of the text. -/
theorem text_step {cs : List Nat} {k c : Nat} (hk : k < cs.length) (hc : cs.getD k 0 = c) (hb : c < 1000000000) (h0 : 0 < cval (cs.drop (k + 1))) :
    Lib.decDigits (cval (cs.drop k)) = Lib.decDigits (cval (cs.drop (k + 1))) ++ (Lib.decDigits (1000000000 + c)).drop 1 := by
  rw [cval_drop hk, hc, pad9 hb, ← dec_pad 9 _ _ h0 hb]
  congr 1
  omega

end Go.Proofs.YtlflaalefilplaaDoor
namespace Go.Proofs.YtlflaalefilplaaDoor
open Go.RowKit

theorem Gr.grown {w w' : World} {base g : Nat} {v : Value} {zs : List Nat} (h : Gr w base v zs) (hg : w.grownBy w' (some g)) (hlt : g < base) : Gr w' base v zs := by
  refine ⟨⟨h.own.1, ?_⟩, h.sm⟩
  rcases h.own.2 with h2 | ⟨g', cap, cur, hv, hbg, hh, hr⟩
  · exact .inl h2
  · have hl : g' < w.heap.size := by
      rcases Nat.lt_or_ge g' w.heap.size with h | h
      · exact h
      · rw [Array.getElem?_eq_none h] at hh; cases hh
    exact .inr ⟨g', cap, cur, hv, hbg, by rw [hg.block g' hl (by intro e; injection e with e; omega)]; exact hh, hr⟩
theorem chunk_bn {x l s N n : Nat} (hx : 0 < x) (hN : N = x * 1000000000 ^ l + s) (hb : N < 4294967296 ^ n) : l ≤ 2 * n := by
  rcases Nat.lt_or_ge (2 * n) l with hl | hl
  · exfalso
    have h1 : 1 * 1000000000 ^ l ≤ x * 1000000000 ^ l := Nat.mul_le_mul_right _ hx
    have h2 : (2 ^ 16) ^ l ≤ 1000000000 ^ l := Nat.pow_le_pow_left (by decide) _
    have h4 : (4294967296 : Nat) ^ n = ((2 ^ 16) ^ 2) ^ n := rfl
    rw [← Nat.pow_mul] at h4
    have h5 : ((2 : Nat) ^ 16) ^ (2 * n) ≤ (2 ^ 16) ^ l := Nat.pow_le_pow_right (by decide) (by omega)
    rw [h4] at hb
    omega
  · exact hl
theorem chunk_bd {x l s N n : Nat} (hx : 0 < x) (hN : N = x * 1000000000 ^ l + s) (hb : N < 4294967296 ^ n) (hn : n ≤ 1000) : l ≤ 2000 := by
  have := chunk_bn hx hN hb
  omega
theorem tops_step {cs : List Nat} {x c x' : Nat} (_ : ∀ k, k < cs.length → 0 < x ∨ 0 < cval (cs.drop k)) (hx : x = x' * 1000000000 + c) (h0 : 0 < x) :
    ∀ k, k < (cs ++ [c]).length → 0 < x' ∨ 0 < cval ((cs ++ [c]).drop k) := by
  intro k hk
  rcases Nat.eq_zero_or_pos x' with h1 | h1
  · right
    rw [List.length_append] at hk
    rw [List.drop_append_of_le_length (by simp at hk; omega), cval_snoc]
    have : 0 < c := by subst h1; omega
    have := Nat.mul_pos (Nat.pow_pos (n := (cs.drop k).length) (show 0 < 1000000000 by decide)) this
    omega
  · exact .inl h1

theorem itoa_any (c : Nat) (hc : c < 1000000000) (w : World) (htab : Lib.TabIs Tryd.prog w "internal/strconv.uint64pow10" .u64 Lib.pow10Tab) :
    Calls Tryd.prog 65 #[.int .i64 (1000000000 + (c : Int))] w fun e w' => ∃ S : ByteArray, e = .returned (.string S) ∧ S.data.toList = Lib.decDigits (1000000000 + c) ∧ S.size = 10 ∧ Below w.heap.size w w' := by
  refine (Tryd.strconv_Itoa (1000000000 + (c : Int)) (by omega) (by omega) w htab).mono ?_
  rintro e w' ⟨rfl, k, os, rfl⟩
  have e1 : Lib.itoa (1000000000 + (c : Int)) = Lib.decDigits (1000000000 + c) := by
    unfold Lib.itoa
    rw [if_neg (by omega)]
    congr 1
  have h9 := pad9 hc
  have hl : (Lib.decDigits (1000000000 + c)).length = 10 := by
    have h1 := congrArg List.length h9
    rw [List.length_drop, pad_len] at h1
    omega
  refine ⟨_, rfl, by rw [e1], ?_, Lib.below_grow _ _ (Nat.le_refl _) _ _⟩
  rw [← toList_len, e1]; exact hl
theorem conv_own {W : World} {base : Nat} {tv : Value} {l : List UInt8} (hl : 0 < l.length) (h : W.ownsRow base 5 1 tv l.length (Lib.byteCells l)) :
    (convert 79 9 tv).run Tryd.prog W = .ok (.string ⟨l.toArray⟩) W := by
  rcases h.2 with ⟨_, h0⟩ | ⟨g, cap, cur, rfl, hb, hh, hn, hm, hs, ht⟩
  · omega
  refine run_convert_bytes_back (P := Tryd.prog) _ 79 9 5 ⟨g, 0, none⟩ cap l Tryd.underlying79 Tryd.underlying5 Tryd.underlying9 ?_
  intro j hj
  have e : (⟨g, 0, none⟩ : Addr).add j = ⟨g, j, none⟩ := by
    unfold Addr.add; split
    · rename_i h; subst h; rfl
    · simp
  rw [e, cell_of_row W g j cur 5 (0, 0) hh]
  have h1 : (cur.toList.take (l.length * 1))[j]? = (Lib.byteCells l)[j]? := by rw [ht]
  rw [List.getElem?_take_of_lt (by omega)] at h1
  rw [Array.getElem?_toList] at h1
  rw [h1]
  simp [Lib.byteCells, hj]
theorem dec_pos (u : Nat) : 0 < (Lib.decDigits u).length := by rw [Lib.decDigits_length]; exact Lib.nDigits_pos u
theorem own_below {w w' : World} {base e n : Nat} {v : Value} {xs : List Value} (h : w.ownsRow base e 1 v n xs) (hb : Below w.heap.size w w') : w'.ownsRow base e 1 v n xs := by
  refine ⟨h.1, ?_⟩
  rcases h.2 with h2 | ⟨g, cap, cur, hv, hbg, hh, hr⟩
  · exact .inl h2
  · have hlt : g < w.heap.size := by
      rcases Nat.lt_or_ge g w.heap.size with h | h
      · exact h
      · rw [Array.getElem?_eq_none h] at hh; cases hh
    exact .inr ⟨g, cap, cur, hv, hbg, by rw [hb.block g hlt]; exact hh, hr⟩
theorem own_base {w : World} {base e n : Nat} {v : Value} {xs : List Value} (h : w.ownsRow base e 1 v n xs) : ∀ k, v.ownBlock = some k → base ≤ k := fun k hk => (h.lt k hk).1
theorem info5 : (Tryd.prog.info? 5).map (fun i => (i.zero, i.size, i.bytes)) = some (some (.int .u8 0), 1, 1) := by kernel_rfl

theorem cval_drop_le : ∀ (k : Nat) (cs : List Nat), cval (cs.drop k) ≤ cval cs
  | 0, cs => Nat.le_refl _
  | _ + 1, [] => Nat.le_refl _
  | k + 1, c :: r => by
    have := cval_drop_le k r
    rw [List.drop_succ_cons, cval]; omega
end Go.Proofs.YtlflaalefilplaaDoor
namespace Go.Proofs.YtlflaalefilplaaDoor
open Go.RowKit

theorem dg_ok {u : Nat} (h : u < 10) : isDig (UInt8.ofNat (48 + u)) = true ∧ (UInt8.ofNat (48 + u)).toNat = 48 + u := by
  have e : (UInt8.ofNat (48 + u)).toNat = 48 + u := by rw [UInt8.toNat_ofNat']; omega
  refine ⟨?_, e⟩
  unfold isDig
  rw [e]; simp; omega
theorem dec_all : ∀ (N : Nat), allDig (Lib.decDigits N) = true ∧ dval (Lib.decDigits N) = N := by
  intro N
  induction N using Nat.strongRecOn with
  | _ N ih =>
    by_cases h : N < 10
    · rw [Lib.decDigits_one h]
      obtain ⟨h1, h2⟩ := dg_ok h
      refine ⟨by unfold allDig; rw [List.all_cons, h1]; rfl, ?_⟩
      simp only [dval, List.foldl_cons, List.foldl_nil, h2]; omega
    · rw [Lib.decDigits, dif_neg h]
      obtain ⟨i1, i2⟩ := ih (N / 10) (by omega)
      obtain ⟨h1, h2⟩ := dg_ok (u := N % 10) (by omega)
      refine ⟨?_, ?_⟩
      · unfold allDig at i1 ⊢
        rw [List.all_append, i1, List.all_cons, h1]; rfl
      · rw [dval_app, i2]
        simp only [dval, List.foldl_cons, List.foldl_nil, h2, List.length_singleton]; omega
theorem dec_head : ∀ (N : Nat), 0 < N → ∃ c r, Lib.decDigits N = c :: r ∧ 49 ≤ c.toNat := by
  intro N
  induction N using Nat.strongRecOn with
  | _ N ih =>
    intro h0
    by_cases h : N < 10
    · rw [Lib.decDigits_one h]
      exact ⟨_, [], rfl, by rw [(dg_ok h).2]; omega⟩
    · rw [Lib.decDigits, dif_neg h]
      obtain ⟨c, r, e, hc⟩ := ih (N / 10) (by omega) (by omega)
      exact ⟨c, _, by rw [e]; rfl, hc⟩
theorem dec_len_le {N k : Nat} (h : N < 10 ^ (k + 1)) : (Lib.decDigits N).length ≤ k + 1 := by
  rw [Lib.decDigits_length]
  have : ∀ (k u : Nat), u < 10 ^ (k + 1) → Lib.nDigits u ≤ k + 1 := by
    intro k
    induction k with
    | zero => intro u h; rw [Lib.nDigits_small (by simpa using h)]; omega
    | succ k ih =>
      intro u h
      by_cases hu : u < 10
      · rw [Lib.nDigits_small hu]; omega
      · rw [Nat.pow_succ] at h
        rw [Lib.nDigits_big hu]
        have := ih (u / 10) (by omega)
        omega
  exact this k N h
/-- A number's text. -/
def txt (N : Nat) : ByteArray := ⟨(Lib.decDigits N).toArray⟩
theorem txt_list (N : Nat) : (txt N).data.toList = Lib.decDigits N := rfl
theorem txt_size (N : Nat) : (txt N).size = (Lib.decDigits N).length := by rw [← toList_len, txt_list]
theorem isDec_txt {N : Nat} (h : (Lib.decDigits N).length ≤ 4000) : isDec (txt N) = true := by
  have h0 : 0 < (txt N).size := by rw [txt_size, Lib.decDigits_length]; exact Lib.nDigits_pos N
  rw [isDec_digs h0 (by rw [txt_size]; exact h), txt_list]
  · exact (dec_all N).1
  · rintro ⟨h1, h2⟩
    rw [getBang h0] at h2
    have hg := toList_get h0
    rw [txt_list] at hg
    rcases Nat.eq_zero_or_pos N with hN | hN
    · subst hN
      rw [txt_size, Lib.decDigits_one (by decide)] at h1
      simp at h1
    · obtain ⟨c, r, e, hc⟩ := dec_head N hN
      rw [e] at hg
      simp at hg
      rw [← hg] at h2
      omega
theorem dval_txt (N : Nat) : dval (txt N).data.toList = N := by rw [txt_list]; exact (dec_all N).2
theorem small_bn {N : Nat} {m : Nat} (h : N < 4294967296 ^ m) : (Lib.decDigits N).length ≤ 10 * m + 1 := by
  refine dec_len_le (k := 10 * m) ?_
  have h1 : 4294967296 ^ m ≤ (10 ^ 10) ^ m := Nat.pow_le_pow_left (by decide) _
  rw [← Nat.pow_mul] at h1
  have h2 : 10 ^ (10 * m) ≤ 10 ^ (10 * m + 1) := Nat.pow_le_pow_right (by decide) (by omega)
  omega
theorem small_len {N : Nat} {m : Nat} (h : N < 4294967296 ^ m) (hm : m ≤ 100) : (Lib.decDigits N).length ≤ 1001 := by
  have := small_bn h
  omega

theorem dval_pos {c : UInt8} {r : List UInt8} (ha : allDig (c :: r) = true) (hc : c.toNat ≠ 48) : 0 < dval (c :: r) := by
  have h1 : isDig c = true := by unfold allDig at ha; rw [List.all_cons, Bool.and_eq_true] at ha; exact ha.1
  unfold isDig at h1
  simp only [Bool.and_eq_true, decide_eq_true_eq] at h1
  have e : dval (c :: r) = dval [c] * 10 ^ r.length + dval r := by rw [← dval_app]; rfl
  have e2 : dval [c] = c.toNat - 48 := by simp [dval]
  have := Nat.mul_pos (show 0 < dval [c] by rw [e2]; omega) (Nat.pow_pos (n := r.length) (show 0 < 10 by decide))
  omega
theorem digit_back {c : UInt8} (h : isDig c = true) : UInt8.ofNat (48 + (c.toNat - 48)) = c := by
  unfold isDig at h
  simp only [Bool.and_eq_true, decide_eq_true_eq] at h
  rw [show 48 + (c.toNat - 48) = c.toNat by omega]
  exact UInt8.ofNat_toNat
theorem dec_back : ∀ (n : Nat) (l : List UInt8), l.length = n → allDig l = true → l ≠ [] → (1 < l.length → ∀ c r, l = c :: r → c.toNat ≠ 48) → Lib.decDigits (dval l) = l := by
  intro n
  induction n with
  | zero => intro l hl _ h0; exact absurd (List.eq_nil_of_length_eq_zero hl) h0
  | succ n ih =>
    intro l hl ha h0 hz
    obtain ⟨m, c, rfl⟩ : ∃ m c, l = m ++ [c] := ⟨l.dropLast, l.getLast h0, (List.dropLast_concat_getLast h0).symm⟩
    have hlm : m.length = n := by simpa using hl
    unfold allDig at ha
    rw [List.all_append, Bool.and_eq_true] at ha
    obtain ⟨ham, hac⟩ := ha
    have hc : isDig c = true := by simpa using hac
    have hc2 := hc
    unfold isDig at hc2
    simp only [Bool.and_eq_true, decide_eq_true_eq] at hc2
    have ev : dval (m ++ [c]) = dval m * 10 + (c.toNat - 48) := by rw [dval_app]; simp [dval]
    rw [ev]
    cases hm : m with
    | nil =>
      simp only [dval, List.foldl_nil, List.nil_append, Nat.zero_mul, Nat.zero_add]
      rw [Lib.decDigits_one (by omega), digit_back hc]
    | cons a r =>
      rw [← hm]
      have ham' : allDig m = true := ham
      have ha48 : a.toNat ≠ 48 := hz (by rw [hm]; simp) a (r ++ [c]) (by rw [hm]; rfl)
      have hpos : 0 < dval m := by rw [hm]; exact dval_pos (by rw [← hm]; exact ham') ha48
      rw [Lib.decDigits, dif_neg (by omega)]
      rw [show (dval m * 10 + (c.toNat - 48)) / 10 = dval m by omega, show (dval m * 10 + (c.toNat - 48)) % 10 = c.toNat - 48 by omega, digit_back hc]
      rw [ih m hlm ham' (by rw [hm]; simp) (fun _ c' r' e => by rw [hm] at e; injection e with e1 _; rw [← e1]; exact ha48)]
/-- What Parse takes is what Format writes. -/
theorem txt_back {s : ByteArray} (h : isDec s = true) : txt (dval s.data.toList) = s := by
  obtain ⟨h0, h4, ha⟩ := isDec_yes' h
  have hz : ¬ (1 < s.size ∧ (s.get! 0).toNat = 48) := by
    intro hc
    rw [isDec_zero hc.1 (by rw [← getBang (by omega)]; exact hc.2)] at h
    cases h
  apply ByteArray.ext
  apply Array.toList_inj.1
  show Lib.decDigits _ = _
  refine dec_back _ _ rfl ha (fun e => by have := toList_len s; rw [e] at this; simp at this; omega) ?_
  intro hl c r e hc
  rw [toList_len] at hl
  apply hz
  refine ⟨hl, ?_⟩
  rw [getBang h0]
  have hg := toList_get h0
  rw [e] at hg
  simp at hg
  rw [← hg]; exact hc
end Go.Proofs.YtlflaalefilplaaDoor
namespace Go.Proofs.YtlflaalefilplaaDoor
open Go.RowKit

/-- The list that Parse gives. -/
def plist (s : ByteArray) : List Nat := if isDec s = true then limbs (dval s.data.toList) else []
theorem plist_len (s : ByteArray) : (plist s).length ≤ 445 := by
  unfold plist
  split
  · rename_i h
    obtain ⟨_, h4, ha⟩ := isDec_yes' h
    exact dec_len ha (by rw [toList_len]; exact h4)
  · simp
abbrev Tab (w : World) : Prop := Lib.TabIs Tryd.prog w "internal/strconv.uint64pow10" .u64 Lib.pow10Tab
theorem tab_below {w w' : World} (h : Tab w) (hB : Below w.heap.size w w') : Tab w' := ((Lib.tabBelow_of_tabIs h).on hB).here

end Go.Proofs.YtlflaalefilplaaDoor
namespace Go.Proofs.YtlflaalefilplaaDoor
open Go.RowKit

theorem rformat_n (A : Option Addr) (n c N : Nat) (w : World) (h : Rd w A n c (limbs N)) (hn : n ≤ 1000) :
    Calls Tryd.prog 28 #[.slice A n c] w fun e w' => e = .returned (.string (txt N)) ∧ Below w.heap.size w w' := by
  have := rformat_any A n c (limbs N) w h hn
  rw [num_limbs] at this
  exact this
end Go.Proofs.YtlflaalefilplaaDoor
namespace Go.Proofs.YtlflaalefilplaaDoor
open Go.RowKit

/-- An integer's text. -/
def itxt (z : Int) : ByteArray := if ng z = true then (⟨#[45]⟩ : ByteArray) ++ txt z.natAbs else txt z.natAbs
end Go.Proofs.YtlflaalefilplaaDoor
namespace Go.Proofs.YtlflaalefilplaaDoor
open Go.RowKit RQ

/-- The whole number nearest to N / D; of two, the even one. -/
def near (N D : Nat) : Nat := if D < 2 * (N % D) ∨ (2 * (N % D) = D ∧ N / D % 2 = 1) then N / D + 1 else N / D

theorem len_mono {a b p : Nat} (h : (limbs b).length ≤ p) (hab : a ≤ b) : (limbs a).length ≤ p := limbs_len_le.2 (Nat.lt_of_le_of_lt hab (limbs_len_le.1 h))
theorem len_add {a b p : Nat} (h1 : (limbs a).length ≤ p) (h2 : (limbs b).length ≤ p) : (limbs (a + b)).length ≤ p + 1 := by
  have a1 := limbs_len_le.1 h1
  have a2 := limbs_len_le.1 h2
  refine limbs_len_le.2 ?_
  rw [Nat.pow_succ]; omega
/-- What Format writes. -/
def qtxt (q : Rat) : ByteArray := if q.den = 1 then itxt q.num else itxt q.num ++ ⟨#[47]⟩ ++ itxt (q.den : Int)
theorem itxt_size {z : Int} {p : Nat} (h : (limbs z.natAbs).length ≤ p) (hp : p ≤ 100) : (itxt z).size ≤ 2000 := by
  have := small_len (limbs_len_le.1 h) hp
  have h2 := txt_size z.natAbs
  unfold itxt; split
  · rw [ByteArray.size_append]; have : (⟨#[45]⟩ : ByteArray).size = 1 := rfl; omega
  · omega
end Go.Proofs.YtlflaalefilplaaDoor
namespace Go.Proofs.YtlflaalefilplaaDoor
open Go.RowKit

/-- Does a text begin with a minus sign? What stands behind it. -/
def hm (s : ByteArray) : Bool := Lib.hasPrefix s.data.toList [45]
def rest (s : ByteArray) : ByteArray := ⟨(Lib.trimPrefix s.data.toList [45]).toArray⟩
def pok (s : ByteArray) : Bool := isDec (rest s) && !(hm s && dval (rest s).data.toList == 0)
def pval (s : ByteArray) : Int := if pok s = true then sg (hm s) (dval (rest s).data.toList) else 0
/-- What Parse leaves. -/
def RetP2 (s : ByteArray) (w : World) (e : Ending) (w' : World) : Prop := ∃ A n c, e = .returned (.tuple #[.agg #[.bool (ng (pval s)), .slice A n c], .bool (pok s)]) ∧ Rd w' A n c (limbs (pval s).natAbs) ∧ Below w.heap.size w w' ∧ n ≤ 445
theorem retP2_no {s : ByteArray} {w w' : World} {A : Option Addr} {c : Nat} (h : pok s = false) (hB : Below w.heap.size w w') : RetP2 s w (.returned (.tuple #[.agg #[.bool false, .slice A 0 c], .bool false])) w' := by
  have e : pval s = 0 := by unfold pval; rw [h]; rfl
  unfold RetP2
  rw [h, e]
  exact ⟨A, 0, c, rfl, by rw [show (0 : Int).natAbs = 0 from rfl, limbs_zero]; exact Rd.nil_ _ _ _, hB, by omega⟩
theorem retP2_yes {s : ByteArray} {w w' : World} {A : Option Addr} {n c : Nat} {z : Int} (h : pok s = true) (hz : sg (hm s) (dval (rest s).data.toList) = z) (R : Rd w' A n c (limbs z.natAbs)) (hB : Below w.heap.size w w') (hn : n ≤ 445) : RetP2 s w (.returned (.tuple #[.agg #[.bool (ng z), .slice A n c], .bool true])) w' := by
  have e : pval s = z := by unfold pval; rw [h, if_pos rfl]; exact hz
  unfold RetP2
  rw [h, e]
  exact ⟨A, n, c, rfl, R, hB, hn⟩
theorem hm_no {s : ByteArray} (h : hm s = false) : rest s = s := by
  unfold rest Lib.trimPrefix
  unfold hm at h
  rw [h]
  rfl
theorem hm_size {s : ByteArray} (h : hm s = true) : ∃ (h0 : 0 < s.size), s[0].toNat = 45 := by
  unfold hm Lib.hasPrefix at h
  cases hl : s.data.toList with
  | nil => rw [hl] at h; cases h
  | cons c r =>
    have h0 : 0 < s.size := by rw [← toList_len, hl]; simp
    refine ⟨h0, ?_⟩
    have hg := toList_get h0
    rw [hl] at hg h
    simp at hg
    simp [List.isPrefixOf] at h
    rw [← hg, ← h]; rfl
theorem hm_not {s : ByteArray} (h : hm s = false) (h0 : 0 < s.size) : s[0].toNat ≠ 45 := by
  intro hc
  unfold hm Lib.hasPrefix at h
  cases hl : s.data.toList with
  | nil => have := toList_len s; rw [hl] at this; simp at this; omega
  | cons c r =>
    have hg := toList_get h0
    rw [hl] at hg h
    simp at hg
    rw [← hg] at hc
    have : c = 45 := by apply UInt8.toNat_inj.1; rw [hc]; rfl
    subst this
    simp [List.isPrefixOf] at h
theorem hm_rest {s : ByteArray} (h : hm s = true) : rest s = s.extract 1 s.size := by
  apply ByteArray.ext
  apply Array.toList_inj.1
  rw [ext_drop]
  unfold rest Lib.trimPrefix
  unfold hm at h
  rw [h]
  rfl
end Go.Proofs.YtlflaalefilplaaDoor
namespace Go.Proofs.YtlflaalefilplaaDoor
open Go.RowKit RQ

/-- What stands before the first c, behind it, and whether there is one. -/
def bef (c : UInt8) (l : List UInt8) : List UInt8 := l.takeWhile (· != c)
def aft (c : UInt8) (l : List UInt8) : List UInt8 := (l.dropWhile (· != c)).drop 1
def hasB (c : UInt8) (l : List UInt8) : Bool := l.contains c
theorem index_no {c : UInt8} : ∀ {l : List UInt8}, hasB c l = false → Lib.indexByte l c = -1 ∧ bef c l = l
  | [], _ => ⟨rfl, rfl⟩
  | b :: l, h => by
    unfold hasB at h
    rw [List.contains_cons, Bool.or_eq_false_iff] at h
    obtain ⟨i1, i2⟩ := index_no (l := l) h.2
    have hb : (b == c) = false := by rw [beq_eq_false_iff_ne] at h ⊢; exact fun e => h.1 e.symm
    have hb2 : (b != c) = true := by rw [bne, hb]; rfl
    refine ⟨by simp [Lib.indexByte, hb, i1], ?_⟩
    unfold bef at i2 ⊢
    simp [hb2, i2]
theorem index_yes {c : UInt8} : ∀ {l : List UInt8}, hasB c l = true → Lib.indexByte l c = ((bef c l).length : Int) ∧ l = bef c l ++ c :: aft c l
  | [], h => by simp [hasB] at h
  | b :: l, h => by
    unfold hasB at h
    rw [List.contains_cons, Bool.or_eq_true] at h
    by_cases hb : b = c
    · subst hb
      simp [Lib.indexByte, bef, aft]
    · obtain ⟨i1, i2⟩ := index_yes (l := l) (by rcases h with h | h; exact absurd (by simpa using h) (Ne.symm hb); exact h)
      have hb2 : (b != c) = true := by simp [hb]
      have hb3 : (b == c) = false := by simp [hb]
      have e1 : bef c (b :: l) = b :: bef c l := by simp [bef, hb2]
      have e2 : aft c (b :: l) = aft c l := by simp [aft, hb2]
      rw [e1, e2]
      refine ⟨?_, by rw [List.cons_append, ← i2]⟩
      simp only [Lib.indexByte, hb3, i1]
      have : ((bef c l).length : Int) ≠ -1 := by omega
      simp [this]
/-- A list of bytes as a string. -/
def bs (l : List UInt8) : ByteArray := ⟨l.toArray⟩
theorem bs_list (l : List UInt8) : (bs l).data.toList = l := rfl
theorem bs_size (l : List UInt8) : (bs l).size = l.length := rfl
theorem bs_of (s : ByteArray) : bs s.data.toList = s := rfl
theorem bs_inj {a b : ByteArray} (h : a.data.toList = b.data.toList) : a = b := by
  have : bs a.data.toList = bs b.data.toList := by rw [h]
  exact this
theorem extract_bef (l1 l2 : List UInt8) : (bs (l1 ++ l2)).extract 0 l1.length = bs l1 := by
  apply bs_inj; simp [bs]
theorem extract_aft (l1 l2 : List UInt8) : (bs (l1 ++ l2)).extract l1.length (bs (l1 ++ l2)).size = bs l2 := by
  apply bs_inj; simp [bs, ByteArray.size]
theorem extract_aft1 (l1 l2 : List UInt8) (c : UInt8) : (bs (l1 ++ c :: l2)).extract (l1.length + 1) (bs (l1 ++ c :: l2)).size = bs l2 := by
  have h := extract_aft (l1 ++ [c]) l2
  rw [List.append_assoc, List.singleton_append, List.length_append, List.length_singleton] at h
  exact h

/-- One or more digits. -/
def digs (l : List UInt8) : Bool := allDig l && !l.isEmpty
theorem all_bad {l : List UInt8} {k : Nat} (hk : k < l.length) (h : isDig l[k] = false) : allDig l = false := by
  unfold allDig
  rw [List.all_eq_false]
  exact ⟨l[k], List.getElem_mem hk, by rw [h]; simp⟩
theorem all_take {l : List UInt8} {k : Nat} (hk : k < l.length) (h : allDig (l.take k) = true) (hd : isDig l[k] = true) : allDig (l.take (k + 1)) = true := by
  unfold allDig at *
  rw [List.take_succ_eq_append_getElem hk, List.all_append, h]
  simp [hd]
end Go.Proofs.YtlflaalefilplaaDoor
namespace Go.Proofs.YtlflaalefilplaaDoor
open Go.RowKit RQ

/-- What a string says as a natural number; 0 if it is none. -/
def ndec (s : ByteArray) : Nat := if isDec s = true then dval s.data.toList else 0
theorem hm_dec {s : ByteArray} (h : hm s = true) : isDec s = false := by
  rcases hd : isDec s with _ | _
  · rfl
  obtain ⟨_, _, ha⟩ := isDec_yes' hd
  unfold hm Lib.hasPrefix at h
  cases hq : s.data.toList with
  | nil => rw [hq] at h; simp at h
  | cons c r =>
    rw [hq] at h ha
    simp at h
    subst h
    simp [allDig, isDig] at ha
theorem rest_no {s : ByteArray} (h : hm s = false) : rest s = s := by
  unfold rest Lib.trimPrefix
  have : Lib.hasPrefix s.data.toList [45] = false := h
  rw [this]; rfl
theorem ndec_len (s : ByteArray) : (limbs (ndec s)).length ≤ s.size := by
  unfold ndec
  split
  · rename_i h
    obtain ⟨_, _, ha⟩ := isDec_yes' h
    exact dec_len_k ha (by rw [toList_len]; omega)
  · rw [limbs_zero]; exact Nat.zero_le _
/-- What parseNatural leaves. -/
def RetPN (s : ByteArray) (w : World) (e : Ending) (w' : World) : Prop := ∃ A n c, e = .returned (.tuple #[.agg #[.bool false, .slice A n c], .bool (isDec s)]) ∧ Rd w' A n c (limbs (ndec s)) ∧ Below w.heap.size w w'
/-- What an exponent says, and whether it is one. -/
def xok (s : ByteArray) : Bool := isDec (rest s) && decide (ndec (rest s) ≤ 40)
def xval (s : ByteArray) : Int := if xok s = true then (if hm s = true then -(ndec (rest s) : Int) else (ndec (rest s) : Int)) else 0
theorem xval_bd (s : ByteArray) : -40 ≤ xval s ∧ xval s ≤ 40 := by
  unfold xval xok
  split
  · rename_i h; simp at h; split <;> omega
  · omega
/-- N times 10 to the power p. -/
def qscale (N : Nat) (p : Int) : Rat := if 0 ≤ p then ((N * 10 ^ p.toNat : Nat) : Int) else Rat.divInt (N : Int) ((10 ^ (-p).toNat : Nat) : Int)
end Go.Proofs.YtlflaalefilplaaDoor
namespace Go.Proofs.YtlflaalefilplaaDoor
open Go.RowKit RQ

theorem dval_zero (r : List UInt8) : dval (48 :: r) = dval r := by unfold dval; rw [List.foldl_cons]; rfl
/-- What stands behind the point, if there is one. -/
def pdA (s : ByteArray) : ByteArray := if hasB 46 s.data.toList = true then bs (aft 46 s.data.toList) else ⟨#[]⟩
def pdB (s : ByteArray) : ByteArray := bs (bef 46 s.data.toList)
/-- Is this an integer or a decimal, which number do all its digits make, and how many stand behind the point? -/
def pdok (s : ByteArray) : Bool := isDec (pdB s) && (!(hasB 46 s.data.toList) || digs (pdA s).data.toList)
def pdval (s : ByteArray) : Nat := if pdok s = true then dval ((pdB s).data.toList ++ (pdA s).data.toList) else 0
def pdpl (s : ByteArray) : Nat := if pdok s = true then (pdA s).size else 0
theorem pd_size (s : ByteArray) : (pdB s).size + (pdA s).size ≤ s.size := by
  unfold pdA pdB
  cases h : hasB 46 s.data.toList
  · have := (index_no h).2
    rw [this, bs_of, if_neg (by simp)]; show s.size + 0 ≤ s.size; omega
  · have := congrArg List.length (index_yes h).2
    rw [List.length_append, List.length_cons, toList_len] at this
    simp [bs_size]; omega
theorem pd_all {s : ByteArray} (h : pdok s = true) : allDig ((pdB s).data.toList ++ (pdA s).data.toList) = true := by
  unfold pdok at h
  rw [Bool.and_eq_true, Bool.or_eq_true, Bool.not_eq_true'] at h
  obtain ⟨h1, h2⟩ := h
  obtain ⟨_, _, ha⟩ := isDec_yes' h1
  unfold allDig at ha ⊢
  rw [List.all_append, ha, Bool.true_and]
  rcases h2 with h2 | h2
  · unfold pdA; rw [h2]; rfl
  · unfold digs at h2; rw [Bool.and_eq_true] at h2; exact h2.1
theorem pdval_len (s : ByteArray) : (limbs (pdval s)).length ≤ s.size := by
  unfold pdval
  split
  · rename_i hk
    have := pd_size s
    refine dec_len_k (pd_all hk) ?_
    rw [List.length_append, toList_len, toList_len]; omega
  · rw [limbs_zero]; exact Nat.zero_le _
theorem pdpl_le (s : ByteArray) : pdpl s ≤ s.size := by
  have := pd_size s
  unfold pdpl; split <;> omega
def RetPD (s : ByteArray) (w : World) (e : Ending) (w' : World) : Prop := ∃ A n c, e = .returned (.tuple #[.agg #[.bool false, .slice A n c], .int .i64 (pdpl s : Int), .bool (pdok s)]) ∧ Rd w' A n c (limbs (pdval s)) ∧ Below w.heap.size w w'
theorem app_list (a b : ByteArray) : (a ++ b).data.toList = a.data.toList ++ b.data.toList := by simp
/-- The fraction of two strings, and whether they make one. -/
def fok (s t : ByteArray) : Bool := isDec s && isDec t && !(ndec t == 0)
def fq (s t : ByteArray) : Rat := if fok s t = true then Rat.divInt (ndec s : Int) (ndec t : Int) else 0
end Go.Proofs.YtlflaalefilplaaDoor
namespace Go.Proofs.YtlflaalefilplaaDoor
open Go.RowKit
set_option linter.unusedVariables false

/-- What is decoded: an ASCII byte, or a rune of bytes that are none. -/
theorem decode_cases (s : ByteArray) (i : Nat) (hi : i < s.size) :
    ((Utf8.decode s i).1 < 128 ∧ (Utf8.decode s i).2 = 1 ∧ ∃ x : UInt8, s.data.toList[i]? = some x ∧ x.toNat = (Utf8.decode s i).1) ∨
    (128 ≤ (Utf8.decode s i).1 ∧ 1 ≤ (Utf8.decode s i).2 ∧ i + (Utf8.decode s i).2 ≤ s.size ∧ ∀ j, j < (Utf8.decode s i).2 → ∀ x, s.data.toList[i + j]? = some x → 128 ≤ x.toNat) := by
  have hg : ∀ k x, s.data.toList[k]? = some x → s.get! k = x := by
    intro k x h
    rw [Array.getElem?_toList] at h
    show s.data[k]! = x
    rw [Array.getElem!_eq_getD, Array.getD_eq_getD_getElem?, h]
    rfl
  have h0 : s.data.toList[i]? = some s[i] := by rw [Array.getElem?_toList, Array.getElem?_eq_getElem hi]; rfl
  have e0 := hg _ _ h0
  unfold Utf8.decode
  simp only [Nat.add_zero, e0]
  by_cases hb : (s[i]).toNat < 128
  · left; rw [if_pos hb]; exact ⟨hb, rfl, s[i], h0, rfl⟩
  · right
    simp only [if_neg hb]
    have one : ∀ j, j < 1 → ∀ x, s.data.toList[i + j]? = some x → 128 ≤ x.toNat := by
      intro j hj x hx
      obtain rfl : j = 0 := by omega
      rw [Nat.add_zero, h0] at hx
      cases hx
      omega
    have err : 128 ≤ (Utf8.runeError, 1).1 ∧ 1 ≤ (Utf8.runeError, 1).2 ∧ i + (Utf8.runeError, 1).2 ≤ s.size ∧ ∀ j, j < (Utf8.runeError, 1).2 → ∀ x, s.data.toList[i + j]? = some x → 128 ≤ x.toNat := ⟨by decide, by decide, by show i + 1 ≤ s.size; omega, one⟩
    have more : ∀ k, (i + k < s.size) → (s.get! (i + k)).toNat / 64 = 2 → ∀ x, s.data.toList[i + k]? = some x → 128 ≤ x.toNat := by
      intro k hk h2 x hx
      rw [hg _ _ hx] at h2
      omega
    split
    · rename_i h
      simp only [Bool.and_eq_true, decide_eq_true_eq, beq_iff_eq] at h
      split
      · rename_i hc
        refine ⟨hc, (by decide : 1 ≤ 2), by show i + 2 ≤ s.size; omega, fun j hj x hx => ?_⟩
        have hj : j = 0 ∨ j = 1 := by have : j < 2 := hj; omega
        rcases hj with rfl | rfl
        · exact one 0 (by decide) x hx
        · exact more 1 h.2.1 h.2.2 x hx
      · exact err
    · split
      · rename_i h
        simp only [Bool.and_eq_true, decide_eq_true_eq, beq_iff_eq] at h
        split
        · rename_i hc
          simp only [Bool.and_eq_true, decide_eq_true_eq] at hc
          refine ⟨Nat.le_trans (by decide) hc.1, (by decide : 1 ≤ 3), by show i + 3 ≤ s.size; omega, fun j hj x hx => ?_⟩
          have hj : j = 0 ∨ j = 1 ∨ j = 2 := by have : j < 3 := hj; omega
          rcases hj with rfl | rfl | rfl
          · exact one 0 (by decide) x hx
          · exact more 1 h.1.2.1 h.1.2.2 x hx
          · exact more 2 h.2.1 h.2.2 x hx
        · exact err
      · split
        · rename_i h
          simp only [Bool.and_eq_true, decide_eq_true_eq, beq_iff_eq] at h
          split
          · rename_i hc
            simp only [Bool.and_eq_true, decide_eq_true_eq] at hc
            refine ⟨Nat.le_trans (by decide) hc.1, (by decide : 1 ≤ 4), by show i + 4 ≤ s.size; omega, fun j hj x hx => ?_⟩
            have hj : j = 0 ∨ j = 1 ∨ j = 2 ∨ j = 3 := by have : j < 4 := hj; omega
            rcases hj with rfl | rfl | rfl | rfl
            · exact one 0 (by decide) x hx
            · exact more 1 h.1.1.2.1 h.1.1.2.2 x hx
            · exact more 2 h.1.2.1 h.1.2.2 x hx
            · exact more 3 h.2.1 h.2.2 x hx
          · exact err
        · exact err
theorem iterPos_of {w : World} {k i : Nat} {s : ByteArray} (h : w.heap[k]? = some (.stringIter s i)) : w.iterPos k = i := by simp [World.iterPos, h]
/-- The last byte of a rune that is no ASCII byte. -/
theorem encode_last (r : Int) (h : 128 ≤ r) : ∃ n, ∃ hl : n < (Utf8.encode r).size, (Utf8.encode r).size = n + 1 ∧ 1 ≤ n ∧ n ≤ 3 ∧ 128 ≤ ((Utf8.encode r)[n]).toNat := by
  unfold Utf8.encode
  have hc : 128 ≤ (if Utf8.valid r = true then r.toNat else Utf8.runeError) := by
    split
    · omega
    · decide
  generalize (if Utf8.valid r = true then r.toNat else Utf8.runeError) = c at *
  have hb : ∀ x, 128 ≤ (UInt8.ofNat (128 + x % 64)).toNat := fun x => by simp; omega
  simp only [if_neg (show ¬ c < 128 by omega)]
  split
  · exact ⟨1, (by decide : 1 < 2), rfl, by omega, by omega, hb c⟩
  · split
    · exact ⟨2, (by decide : 2 < 3), rfl, by omega, by omega, hb c⟩
    · exact ⟨3, (by decide : 3 < 4), rfl, by omega, by omega, hb c⟩

/-- All bytes are ASCII. -/
def AscC (c : ByteArray) : Prop := ∀ (i : Nat) (h : i < c.size), (c[i]).toNat < 128
theorem AscC.list {c : ByteArray} (h : AscC c) {x : UInt8} (hx : x ∈ c.data.toList) : x.toNat < 128 := by
  obtain ⟨i, hi⟩ := List.getElem?_of_mem hx
  obtain ⟨hl, e⟩ := List.getElem?_eq_some_iff.1 hi
  have hs : i < c.size := by simpa using hl
  have := h i hs
  rw [← e]
  exact this
theorem idx_none {c : ByteArray} (h : AscC c) (k : Nat) {x : UInt8} (hx : 128 ≤ x.toNat) : Lib.indexByte (c.extract k c.size).data.toList x = -1 := by
  have h1 := Lib.contains_iff_indexByte (c.extract k c.size).data.toList x
  have h2 : (c.extract k c.size).data.toList.contains x = false := by
    rw [Bool.eq_false_iff]
    intro hc
    rw [List.contains_iff_mem, Lib.extract_data] at hc
    have := h.list (List.mem_of_mem_drop (List.mem_of_mem_take hc))
    omega
  rw [h2] at h1
  have := of_decide_eq_false h1.symm
  have := Lib.indexByte_ge (c.extract k c.size).data.toList x
  omega

end Go.Proofs.YtlflaalefilplaaDoor
namespace Go.Proofs.YtlflaalefilplaaDoor
open Go.RowKit RQ

def isE (c : UInt8) : Bool := [101, 69].contains c
def befE (l : List UInt8) : List UInt8 := l.takeWhile (fun c => !isE c)
def aftE (l : List UInt8) : List UInt8 := (l.dropWhile (fun c => !isE c)).drop 1
def hasE (l : List UInt8) : Bool := l.any isE
theorem indexE_no : ∀ {l : List UInt8}, hasE l = false → Lib.indexAny l [101, 69] = -1 ∧ befE l = l
  | [], _ => ⟨rfl, rfl⟩
  | b :: l, h => by
    unfold hasE at h
    rw [List.any_cons, Bool.or_eq_false_iff] at h
    obtain ⟨i1, i2⟩ := indexE_no (l := l) h.2
    have hb : List.contains [101, 69] b = false := h.1
    refine ⟨by rw [Lib.indexAny, hb, i1]; rfl, ?_⟩
    unfold befE at i2 ⊢
    rw [List.takeWhile_cons, h.1]; simp [i2]
theorem indexE_yes : ∀ {l : List UInt8}, hasE l = true → Lib.indexAny l [101, 69] = ((befE l).length : Int) ∧ ∃ c, l = befE l ++ c :: aftE l
  | [], h => by simp [hasE] at h
  | b :: l, h => by
    unfold hasE at h
    rw [List.any_cons, Bool.or_eq_true] at h
    cases hb : isE b
    · obtain ⟨i1, c, i2⟩ := indexE_yes (l := l) (by rcases h with h | h; rw [hb] at h; cases h; exact h)
      have hb3 : List.contains [101, 69] b = false := hb
      have e1 : befE (b :: l) = b :: befE l := by simp [befE, hb]
      have e2 : aftE (b :: l) = aftE l := by simp [aftE, hb]
      rw [e1, e2]
      refine ⟨?_, c, by rw [List.cons_append, ← i2]⟩
      rw [Lib.indexAny, hb3, i1]
      have : ((befE l).length : Int) ≠ -1 := by omega
      simp [this]
    · have hb3 : List.contains [101, 69] b = true := hb
      refine ⟨by rw [Lib.indexAny, hb3]; simp [befE, hb], b, by simp [befE, aftE, hb]⟩
def Asc (s : ByteArray) : Prop := ∀ (j : Nat) b, s.data.toList[j]? = some b → b.toNat < 128
/-- The number without a sign and without a slash, and whether it is one. -/
def pM (s : ByteArray) : ByteArray := if hasE s.data.toList = true then bs (befE s.data.toList) else s
def pX (s : ByteArray) : ByteArray := bs (aftE s.data.toList)
def psok (s : ByteArray) : Bool := (!(hasE s.data.toList) || xok (pX s)) && pdok (pM s)
def psx (s : ByteArray) : Int := if hasE s.data.toList = true then xval (pX s) else 0
def psq (s : ByteArray) : Rat := if psok s = true then qscale (pdval (pM s)) (psx s - pdpl (pM s)) else 0
theorem pM_size (s : ByteArray) : (pM s).size ≤ s.size := by
  unfold pM
  cases h : hasE s.data.toList
  · rw [if_neg (by simp)]; omega
  · obtain ⟨_, c, e⟩ := indexE_yes h
    have := congrArg List.length e
    rw [List.length_append, List.length_cons, toList_len] at this
    rw [if_pos rfl, bs_size]; omega
theorem pX_size (s : ByteArray) (h : hasE s.data.toList = true) : (pX s).size ≤ s.size := by
  obtain ⟨_, c, e⟩ := indexE_yes h
  have := congrArg List.length e
  rw [List.length_append, List.length_cons, toList_len] at this
  unfold pX; rw [bs_size]; omega
theorem rest_size (s : ByteArray) : (rest s).size ≤ s.size := by
  unfold rest Lib.trimPrefix
  split
  · show (s.data.toList.drop 1).length ≤ _; rw [List.length_drop, toList_len]; omega
  · show s.data.toList.length ≤ _; rw [toList_len]; omega
theorem rest_asc {s : ByteArray} (h : Asc s) : Asc (rest s) := by
  intro j b hb
  unfold rest Lib.trimPrefix at hb
  split at hb
  · have : (s.data.toList.drop 1)[j]? = some b := hb
    rw [List.getElem?_drop] at this
    exact h _ b this
  · exact h j b hb
/-- What Parse reads behind the minus sign. -/
def p1ok (s : ByteArray) : Bool := if hasB 47 s.data.toList = true then fok (bs (bef 47 s.data.toList)) (bs (aft 47 s.data.toList)) else psok s
def p1q (s : ByteArray) : Rat := if hasB 47 s.data.toList = true then fq (bs (bef 47 s.data.toList)) (bs (aft 47 s.data.toList)) else psq s
/-- What Parse reads. -/
def pQ (s : ByteArray) : Rat := if hm s = true then -(p1q (rest s)) else p1q (rest s)
def pOk (s : ByteArray) : Bool := p1ok (rest s)
theorem bef_size (c : UInt8) (s : ByteArray) (h : hasB c s.data.toList = true) : (bs (bef c s.data.toList)).size ≤ s.size ∧ (bs (aft c s.data.toList)).size ≤ s.size := by
  have := congrArg List.length (index_yes h).2
  rw [List.length_append, List.length_cons, toList_len] at this
  rw [bs_size, bs_size]; omega
theorem Neg_lens {q : Rat} {w : World} {A : Option Addr} {n c : Nat} (h : Rd w A n c (limbs q.num.natAbs)) (hq : Rs q 600) : n ≤ 600 := by rw [← h.len]; exact limbs_len_le.2 hq.n
end Go.Proofs.YtlflaalefilplaaDoor
namespace Go.Proofs.YtlflaalefilplaaDoor
open Go.RowKit RQ

/-- Zeros ahead, so that p digits and one more are there. -/
def pad0 (l : List UInt8) (p : Nat) : List UInt8 := List.replicate (p + 1 - l.length) 48 ++ l
/-- The point p digits from the end. -/
def wp (l : List UInt8) (p : Nat) : List UInt8 := if p = 0 then l else (pad0 l p).take ((pad0 l p).length - p) ++ 46 :: (pad0 l p).drop ((pad0 l p).length - p)
theorem pad0_len (l : List UInt8) (p : Nat) : p + 1 ≤ (pad0 l p).length ∧ (pad0 l p).length ≤ p + 1 + l.length := by
  unfold pad0; rw [List.length_append, List.length_replicate]; omega
theorem bs_app (a b : List UInt8) : bs (a ++ b) = bs a ++ bs b := by apply bs_inj; simp [bs]
theorem ex_take (l : List UInt8) (k : Nat) (h : k ≤ l.length) : (bs l).extract 0 k = bs (l.take k) := by
  have := extract_bef (l.take k) (l.drop k)
  rwa [List.take_append_drop, List.length_take, Nat.min_eq_left h] at this
theorem ex_drop (l : List UInt8) (k : Nat) (h : k ≤ l.length) : (bs l).extract k (bs l).size = bs (l.drop k) := by
  have := extract_aft (l.take k) (l.drop k)
  rwa [List.take_append_drop, List.length_take, Nat.min_eq_left h] at this
set_option maxHeartbeats 4000000 in
theorem withPoint_tail (S : ByteArray) (p i : Nat) (hp : 0 < p) (hi : i + p = S.size) (hS : S.size ≤ 100000) (l : List UInt8) (hl : S = bs l) : S.extract 0 i ++ ⟨#[46]⟩ ++ S.extract i S.size = bs (l.take i ++ 46 :: l.drop i) := by
  subst hl
  rw [bs_size] at hi
  rw [ex_take l i (by omega), ex_drop l i (by omega), show (⟨#[46]⟩ : ByteArray) = bs [46] from rfl, ← bs_app, ← bs_app, List.append_assoc]; rfl
end Go.Proofs.YtlflaalefilplaaDoor
namespace Go.Proofs.YtlflaalefilplaaDoor
open Go.RowKit RQ

/-- The number that Decimal writes, without its point. -/
def drnd (q : Rat) (d : Nat) : Nat := near (q.num.natAbs * 10 ^ d) q.den
/-- What Decimal writes but for the sign. -/
def dbody (q : Rat) (d : Nat) : List UInt8 := wp (txt (drnd q d)).data.toList d
/-- What Decimal writes. -/
def dtxt (q : Rat) (d : Nat) : ByteArray := if ng q.num = true ∧ drnd q d ≠ 0 then ⟨#[45]⟩ ++ bs (dbody q d) else bs (dbody q d)
theorem near_le (N D : Nat) : near N D ≤ N + 1 := by
  have := Nat.div_le_self N D
  unfold near; split <;> omega
theorem pow10_small {d : Nat} (h : d ≤ 100) : 10 ^ d < 4294967296 ^ 12 := Nat.lt_of_le_of_lt (Nat.pow_le_pow_right (by decide) h) (by decide)
theorem drnd_len {q : Rat} {d : Nat} (h : Rs q 40) (hd : d ≤ 100) : (limbs (drnd q d)).length ≤ 53 := by
  have h1 := mul_lt h.n (pow10_small hd)
  rw [← Nat.pow_add] at h1
  have h2 := near_le (q.num.natAbs * 10 ^ d) q.den
  refine limbs_len_le.2 ?_
  unfold drnd
  have h3 : (4294967296 : Nat) ^ (52 + 1) = 4294967296 ^ 52 * 4294967296 := Nat.pow_succ ..
  rw [show 40 + 12 = 52 from rfl] at h1
  rw [show 53 = 52 + 1 from rfl, h3]
  generalize (4294967296 : Nat) ^ 52 = T at *
  omega
theorem itxt_nat (N : Nat) : itxt (N : Int) = bs (txt N).data.toList := by unfold itxt; rw [ngN]; rfl
theorem txt_len {N : Nat} (h : (limbs N).length ≤ 53) : (txt N).data.toList.length ≤ 600 := by
  have := small_bn (limbs_len_le.1 h)
  rw [txt_list]; omega
theorem txt_pos (N : Nat) : 1 ≤ (txt N).data.toList.length := by
  rcases Nat.eq_zero_or_pos N with h | h
  · subst h; rw [txt_list, Lib.decDigits_one (by decide)]; simp
  · obtain ⟨c, r, e, _⟩ := dec_head N h
    rw [txt_list, e]; simp
theorem wp_len (l : List UInt8) (p : Nat) : (wp l p).length ≤ p + 2 + l.length := by
  have := pad0_len l p
  unfold wp; split
  · omega
  · rw [List.length_append, List.length_cons, List.length_take, List.length_drop]; omega

end Go.Proofs.YtlflaalefilplaaDoor
namespace Go.Proofs.YtlflaalefilplaaDoor
open Go.RowKit RQ

theorem txt_d {N : Nat} (h : N < 10) : (txt N).data.toList = [UInt8.ofNat (48 + N)] := by rw [txt_list, Lib.decDigits_one h]
theorem txt_12 : (txt 12).data.toList = [49, 50] := by
  rw [txt_list, Lib.decDigits_two (by decide) (by decide)]; rfl
theorem qtxt_32 : qtxt (Rat.divInt 6 (-4)) = ⟨#[45, 51, 47, 50]⟩ := by
  have e1 : (Rat.divInt 6 (-4)).num = -3 := by decide +kernel
  have e2 : (Rat.divInt 6 (-4)).den = 2 := by decide +kernel
  unfold qtxt
  rw [e1, e2, if_neg (by decide)]
  apply bs_inj
  have t3 := txt_d (show 3 < 10 by decide)
  have t2 := txt_d (show 2 < 10 by decide)
  rw [app_list, app_list, show ((2 : Nat) : Int) = 2 from rfl, show itxt 2 = txt 2 from rfl, show itxt (-3) = ⟨#[45]⟩ ++ txt 3 from rfl, app_list, t3, t2]
  rfl
theorem qtxt_18 : qtxt (Rat.divInt 1 8) = ⟨#[49, 47, 56]⟩ := by
  have e1 : (Rat.divInt 1 8).num = 1 := by decide +kernel
  have e2 : (Rat.divInt 1 8).den = 8 := by decide +kernel
  unfold qtxt
  rw [e1, e2, if_neg (by decide)]
  apply bs_inj
  have t3 := txt_d (show 1 < 10 by decide)
  have t2 := txt_d (show 8 < 10 by decide)
  rw [app_list, app_list, show ((8 : Nat) : Int) = 8 from rfl, show itxt 8 = txt 8 from rfl, show itxt 1 = txt 1 from rfl, t3, t2]
  rfl
theorem drnd_18 : drnd (Rat.divInt 1 8) 2 = 12 := by decide +kernel
theorem dtxt_18 : dtxt (Rat.divInt 1 8) 2 = ⟨#[48, 46, 49, 50]⟩ := by
  have e1 : ng (Rat.divInt 1 8).num = false := by decide +kernel
  unfold dtxt dbody
  rw [e1, drnd_18, txt_12, if_neg (by simp)]
  rfl
theorem asc_all {s : ByteArray} (h : s.data.toList.all (fun b => decide (b.toNat < 128)) = true) : Asc s := by
  intro j b hb
  have := List.all_eq_true.1 h b (List.mem_of_getElem? hb)
  simpa using this
def s125 : ByteArray := ⟨#[49, 46, 50, 53, 48, 101, 45, 49]⟩
theorem p_125 : pQ s125 = Rat.divInt 1 8 ∧ pOk s125 = true ∧ p1q (rest s125) = Rat.divInt 1 8 := by decide +kernel
theorem rs_18 : Rs (Rat.divInt 1 8) 1 := ⟨by decide +kernel, by decide +kernel⟩
theorem rs_32 : Rs (Rat.divInt 6 (-4)) 1 := ⟨by decide +kernel, by decide +kernel⟩
theorem iv_6 : iv false [6] = 6 ∧ iv true [4] = -4 ∧ mkE (-4) = 0 := by decide +kernel

end Go.Proofs.YtlflaalefilplaaDoor
