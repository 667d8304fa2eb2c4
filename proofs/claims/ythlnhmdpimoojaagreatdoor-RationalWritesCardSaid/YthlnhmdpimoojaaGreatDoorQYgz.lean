/- Decimal digits, plain: what Format writes is what Parse takes, and back. -/
import Derived.Test.YthlnhmdpimoojaaGreatDoorQYdz
import Derived.Test.YthlnhmdpimoojaaGreatDoorQYaz
namespace Go.Proofs.YthlnhmdpimoojaaGreatDoor
open Go.RowKit

theorem Gr.grown {w w' : World} {base g : Nat} {v : Value} {zs : List Nat} (h : Gr w base v zs) (hg : w.grownBy w' (some g)) (hlt : g < base) : Gr w' base v zs := by
  refine ⟨⟨h.own.1, ?_⟩, h.sm⟩
  rcases h.own.2 with h2 | ⟨g', cap, cur, hv, hbg, hh, hr⟩
  · exact .inl h2
  · have hl : g' < w.heap.size := by
      rcases Nat.lt_or_ge g' w.heap.size with h | h
      · exact h
      · rw [Array.getElem?_eq_none h] at hh; cases hh
    exact .inr ⟨g', cap, cur, hv, hbg, by rw [hg.block g' hl (by intro e; injection e with e; omega)]; exact hh, hr⟩
theorem chunk_bn {x l s N n : Nat} (hx : 0 < x) (hN : N = x * 1000000000 ^ l + s) (hb : N < 4294967296 ^ n) : l ≤ 2 * n := by
  rcases Nat.lt_or_ge (2 * n) l with hl | hl
  · exfalso
    have h1 : 1 * 1000000000 ^ l ≤ x * 1000000000 ^ l := Nat.mul_le_mul_right _ hx
    have h2 : (2 ^ 16) ^ l ≤ 1000000000 ^ l := Nat.pow_le_pow_left (by decide) _
    have h4 : (4294967296 : Nat) ^ n = ((2 ^ 16) ^ 2) ^ n := rfl
    rw [← Nat.pow_mul] at h4
    have h5 : ((2 : Nat) ^ 16) ^ (2 * n) ≤ (2 ^ 16) ^ l := Nat.pow_le_pow_right (by decide) (by omega)
    rw [h4] at hb
    omega
  · exact hl
theorem chunk_bd {x l s N n : Nat} (hx : 0 < x) (hN : N = x * 1000000000 ^ l + s) (hb : N < 4294967296 ^ n) (hn : n ≤ 1000) : l ≤ 2000 := by
  have := chunk_bn hx hN hb
  omega
theorem tops_step {cs : List Nat} {x c x' : Nat} (_ : ∀ k, k < cs.length → 0 < x ∨ 0 < cval (cs.drop k)) (hx : x = x' * 1000000000 + c) (h0 : 0 < x) :
    ∀ k, k < (cs ++ [c]).length → 0 < x' ∨ 0 < cval ((cs ++ [c]).drop k) := by
  intro k hk
  rcases Nat.eq_zero_or_pos x' with h1 | h1
  · right
    rw [List.length_append] at hk
    rw [List.drop_append_of_le_length (by simp at hk; omega), cval_snoc]
    have : 0 < c := by subst h1; omega
    have := Nat.mul_pos (Nat.pow_pos (n := (cs.drop k).length) (show 0 < 1000000000 by decide)) this
    omega
  · exact .inl h1

theorem itoa_any (c : Nat) (hc : c < 1000000000) (w : World) (htab : Lib.TabIs Tryz.prog w "internal/strconv.uint64pow10" .u64 Lib.pow10Tab) :
    Calls Tryz.prog 120 #[.int .i64 (1000000000 + (c : Int))] w fun e w' => ∃ S : ByteArray, e = .returned (.string S) ∧ S.data.toList = Lib.decDigits (1000000000 + c) ∧ S.size = 10 ∧ Below w.heap.size w w' := by
  refine (Tryz.strconv_Itoa (1000000000 + (c : Int)) (by omega) (by omega) w htab).mono ?_
  rintro e w' ⟨rfl, k, os, rfl⟩
  have e1 : Lib.itoa (1000000000 + (c : Int)) = Lib.decDigits (1000000000 + c) := by
    unfold Lib.itoa
    rw [if_neg (by omega)]
    congr 1
  have h9 := pad9 hc
  have hl : (Lib.decDigits (1000000000 + c)).length = 10 := by
    have h1 := congrArg List.length h9
    rw [List.length_drop, pad_len] at h1
    omega
  refine ⟨_, rfl, by rw [e1], ?_, Lib.below_grow _ _ (Nat.le_refl _) _ _⟩
  rw [← toList_len, e1]; exact hl
theorem conv_own {W : World} {base : Nat} {tv : Value} {l : List UInt8} (hl : 0 < l.length) (h : W.ownsRow base 5 1 tv l.length (Lib.byteCells l)) :
    (convert 92 9 tv).run Tryz.prog W = .ok (.string ⟨l.toArray⟩) W := by
  rcases h.2 with ⟨_, h0⟩ | ⟨g, cap, cur, rfl, hb, hh, hn, hm, hs, ht⟩
  · omega
  refine run_convert_bytes_back (P := Tryz.prog) _ 92 9 5 ⟨g, 0, none⟩ cap l Tryz.underlying92 Tryz.underlying5 Tryz.underlying9 ?_
  intro j hj
  have e : (⟨g, 0, none⟩ : Addr).add j = ⟨g, j, none⟩ := by
    unfold Addr.add; split
    · rename_i h; subst h; rfl
    · simp
  rw [e, cell_of_row W g j cur 5 (0, 0) hh]
  have h1 : (cur.toList.take (l.length * 1))[j]? = (Lib.byteCells l)[j]? := by rw [ht]
  rw [List.getElem?_take_of_lt (by omega)] at h1
  rw [Array.getElem?_toList] at h1
  rw [h1]
  simp [Lib.byteCells, hj]
theorem dec_pos (u : Nat) : 0 < (Lib.decDigits u).length := by rw [Lib.decDigits_length]; exact Lib.nDigits_pos u
theorem own_below {w w' : World} {base e n : Nat} {v : Value} {xs : List Value} (h : w.ownsRow base e 1 v n xs) (hb : Below w.heap.size w w') : w'.ownsRow base e 1 v n xs := by
  refine ⟨h.1, ?_⟩
  rcases h.2 with h2 | ⟨g, cap, cur, hv, hbg, hh, hr⟩
  · exact .inl h2
  · have hlt : g < w.heap.size := by
      rcases Nat.lt_or_ge g w.heap.size with h | h
      · exact h
      · rw [Array.getElem?_eq_none h] at hh; cases hh
    exact .inr ⟨g, cap, cur, hv, hbg, by rw [hb.block g hlt]; exact hh, hr⟩
theorem own_base {w : World} {base e n : Nat} {v : Value} {xs : List Value} (h : w.ownsRow base e 1 v n xs) : ∀ k, v.ownBlock = some k → base ≤ k := fun k hk => (h.lt k hk).1
theorem info5 : (Tryz.prog.info? 5).map (fun i => (i.zero, i.size, i.bytes)) = some (some (.int .u8 0), 1, 1) := by kernel_rfl

theorem cval_drop_le : ∀ (k : Nat) (cs : List Nat), cval (cs.drop k) ≤ cval cs
  | 0, cs => Nat.le_refl _
  | _ + 1, [] => Nat.le_refl _
  | k + 1, c :: r => by
    have := cval_drop_le k r
    rw [List.drop_succ_cons, cval]; omega
set_option maxHeartbeats 4000000 in
theorem format_any (A : Option Addr) (n c : Nat) (xs : List Nat) (w : World) (h : Rd w A n c xs) (hn : n ≤ 1000) (htab : Lib.TabIs Tryz.prog w "internal/strconv.uint64pow10" .u64 Lib.pow10Tab) :
    Calls Tryz.prog 77 #[.slice A n c] w fun e w' => e = .returned (.string ⟨(Lib.decDigits (num xs)).toArray⟩) ∧ Below w.heap.size w w' := by
  obtain ⟨N, hN⟩ : ∃ N, num xs = N := ⟨_, rfl⟩
  have ht := known_any A n c xs w h (by omega)
  have hNb : N < 4294967296 ^ n := by rw [← hN, ← h.len]; exact num_lt h.sm
  rw [hN] at ht ⊢
  replace ht := Lib.hid ht
  replace hN := Lib.hid hN
  replace hNb := Lib.hid hNb
  replace h := Lib.hid h
  replace htab := Lib.hid htab
  go_enter Tryz.func77, Tryz.ntmps77
  go_wp2_with (go_at_call 116; refine ht.out.mono ?_; rintro e w1 ⟨A1, n1, c1, rfl, rfl, R1, l1⟩; refine Hid.out ?_)
  refine Lib.hid ?_
  have hcl := clone_any A1 n1 c1 (limbs N) w R1 (by omega)
  replace hcl := Lib.hid hcl
  go_wp2_with (go_at_call 62; refine hcl.out.mono ?_; rintro e w2 ⟨A2, c2, rfl, R2, hO2, B2⟩; refine Hid.out ?_)
  refine Lib.hid ?_
  replace R2 := Lib.hid R2
  replace hO2 := Lib.hid hO2
  replace B2 := Lib.hid B2
  clear R1 hcl
  go_wp2
  go_loopg [3, 4] N (fun x rv cv wr => ∃ (m k : Nat) (A : Option Addr) (cs : List Nat), rv = .slice A m k ∧ m ≤ 1000 ∧ Rd wr A m k (limbs x) ∧ (m = 0 ∨ ∃ g, A = some ⟨g, 0, none⟩ ∧ w.heap.size ≤ g ∧ g < w2.heap.size ∧ Own wr g (limbs x)) ∧
      Gr wr w2.heap.size cv cs ∧ N = x * 1000000000 ^ cs.length + cval cs ∧ (∀ y ∈ cs, y < 1000000000) ∧ (∀ k, k < cs.length → 0 < x ∨ 0 < cval (cs.drop k)) ∧ cs.length ≤ 2001 ∧ w2.heap.size ≤ wr.heap.size ∧ Below w.heap.size w wr)
  case atStart =>
    refine ⟨_, _, _, [], rfl, by omega, R2.out, ?_, Gr.nil_ _ _, by simp [cval], by simp, by simp, by simp, Nat.le_refl _, B2.out⟩
    rcases hO2.out with h0 | ⟨g, e, hg, O⟩
    · exact .inl h0
    · exact .inr ⟨g, e, hg, O.lt, O⟩
  case round =>
    obtain ⟨m, k, A3, cs, rfl, hm, R, hO, hG, hNx, hcs, htop, hcl, hsz, hB⟩ := hrel
    replace hB := Lib.hid hB
    replace hcs := Lib.hid hcs
    replace htop := Lib.hid htop
    replace hNx := Lib.hid hNx
    by_cases hm0 : m = 0
    · subst hm0
      have hx : gk = 0 := by
        have h3 := congrArg val (List.eq_nil_of_length_eq_zero R.len)
        rw [val_limbs] at h3; exact h3
      subst hx
      rw [Nat.zero_mul, Nat.zero_add] at hNx
      clear hO R hm
      by_cases hc0 : cs.length = 0
      · have hce := List.eq_nil_of_length_eq_zero hc0
        subst hce
        have hN0 : N = 0 := by have := hNx.out; simpa [cval] using this
        replace hN0 := Lib.hid hN0
        obtain ⟨A5, c5, rfl, R5, _⟩ := hG.form
        clear R5 htop hcs hNx
        go_wp2
        go_ret
        exact ⟨by rw [hN0.out, Lib.decDigits_one (by decide)]; rfl, hB.out⟩
      · have hctop := htop.out (cs.length - 1) (by omega)
        obtain ⟨A5, c5, rfl, R5, hG5⟩ := hG.form
        obtain ⟨g, rfl, hg5, O5⟩ : ∃ g, A5 = some ⟨g, 0, none⟩ ∧ w2.heap.size ≤ g ∧ Own wr g cs := by
          rcases hG5 with h | h
          · exact absurd h hc0
          · exact h
        obtain ⟨l, hl⟩ : ∃ l, cs.length = l + 1 := ⟨cs.length - 1, by omega⟩
        have hcell := O5.cell (k := l) (by omega)
        obtain ⟨y, hy⟩ : ∃ y, cs.getD l 0 = y := ⟨_, rfl⟩
        have hyb : y < 4294967296 := by rw [← hy]; exact sm_get hG.sm l
        rw [hy] at hcell
        rw [hl]
        have hl1 : (l : Int) ≤ 2000 := by omega
        have hl0 : (0 : Int) ≤ (l : Int) := by omega
        have hl2 : (l : Int) < (l : Int) + 1 := by omega
        have htab2 := Lib.hid ((Lib.tabBelow_of_tabIs htab.out).on hB.out)
        have hau := Lib.hid (appendUint_any y wr hyb htab2.out.here)
        have hcs9 := hcs.out
        have hy9 : y < 1000000000 := by
          rw [← hy, List.getD_eq_getElem?_getD, List.getElem?_eq_getElem (show l < cs.length by omega)]
          exact hcs9 _ (List.getElem_mem _)
        have hyt : cval (cs.drop l) = y := by rw [cval_drop (by omega), hy, List.drop_of_length_le (by omega)]; simp [cval]
        replace hl := Lib.hid hl
        replace hyt := Lib.hid hyt
        replace hctop := Lib.hid hctop
        replace hG := Lib.hid hG
        replace R5 := Lib.hid R5
        replace O5 := Lib.hid O5
        clear hG5 hcs9 hc0
        go_wp2_with (go_at_call 119; refine hau.out.mono ?_; rintro e w6 ⟨tv, rfl, hown, B6⟩; refine Hid.out ?_)
        refine Lib.hid ?_
        replace hown := Lib.hid hown
        replace B6 := Lib.hid B6
        clear hcell
        go_wp2
        go_loopw [6, 7] (fun tv iv wx => ∃ (i : Int) (k : Nat), k ≤ l ∧ i + 1 = k ∧ iv = .int .i64 i ∧ wx.ownsRow wr.heap.size 5 1 tv (Lib.decDigits (cval (cs.drop k))).length (Lib.byteCells (Lib.decDigits (cval (cs.drop k)))) ∧ Below wr.heap.size wr wx)
          (fun _ iv _ => (intOf iv + 1).toNat)
        case atStart => exact ⟨_, l, Nat.le_refl _, by omega, rfl, by rw [hyt.out]; exact hown.out, B6.out⟩
        case round =>
          clear hown B6 hau
          obtain ⟨i, q, hq, hiq, rfl, hown, hBx⟩ := hrel
          have htab3 := Lib.hid (htab2.out.on (hBx.mono hB.out.size))
          have hBf := Lib.hid (hB.out.trans (hBx.mono hB.out.size))
          by_cases hq0 : q = 0
          · subst hq0
            obtain rfl : i = -1 := by omega
            clear hiq
            have hcv := conv_own (dec_pos _) hown
            rw [List.drop_zero, ← hNx.out] at hcv
            obtain ⟨T, hT⟩ : ∃ T, (⟨(Lib.decDigits N).toArray⟩ : ByteArray) = T := ⟨_, rfl⟩
            rw [hT] at hcv
            replace hT := Lib.hid hT
            replace hown := Lib.hid hown
            replace hBx := Lib.hid hBx
            go_wp2
            go_ret
            exact ⟨by rw [← hT.out]; rfl, hBf.out⟩
          · obtain ⟨j, rfl⟩ : ∃ j, q = j + 1 := ⟨q - 1, by omega⟩
            obtain rfl : i = j := by omega
            clear hiq hq0
            obtain ⟨z, hz⟩ : ∃ z, cs.getD j 0 = z := ⟨_, rfl⟩
            have hcell := (O5.out.below hBx O5.out.lt).cell (k := j) (by have := hl.out; omega)
            rw [hz] at hcell
            have hz9 : z < 1000000000 := by
              rw [← hz, List.getD_eq_getElem?_getD, List.getElem?_eq_getElem (show j < cs.length by have := hl.out; omega)]
              exact hcs.out _ (List.getElem_mem _)
            have hit := fun W (hT : Lib.TabIs Tryz.prog W "internal/strconv.uint64pow10" .u64 Lib.pow10Tab) => itoa_any z hz9 W hT
            have j0 : (0 : Int) ≤ (j : Int) := by omega
            have j1 : (j : Int) ≤ 2000 := by omega
            have j2 : (j : Int) < (l : Int) + 1 := by omega
            replace hit := Lib.hid hit
            replace hown := Lib.hid hown
            replace hBx := Lib.hid hBx
            replace hz := Lib.hid hz
            go_wp2_with (go_at_call 120; refine (hit.out _ htab3.out.here).mono ?_; rintro e w7 ⟨S, rfl, hS, hS10, B7⟩; refine Hid.out ?_)
            refine Lib.hid ?_
            generalize (1000000000 + (z : Int)) = az
            obtain ⟨i0, hi, hzz⟩ := Option.map_eq_some_iff.1 info5
            simp only [Prod.mk.injEq] at hzz
            obtain ⟨hz0, hz1, hz2⟩ := hzz
            have hB7 := Lib.hid (hBx.out.trans (B7.mono hBx.out.size))
            have hown7 := Lib.hid (own_below hown.out B7)
            clear B7
            have hpos : 0 < cval (cs.drop (j + 1)) := by
              rcases htop.out (j + 1) (by have := hl.out; omega) with h | h
              · omega
              · exact h
            have hts := text_step (by have := hl.out; omega) hz.out hz9 hpos
            have hle : (Lib.decDigits (cval (cs.drop (j + 1)))).length ≤ 20000 := by
              have h1 : cval (cs.drop (j + 1)) ≤ N := by rw [hNx.out]; exact cval_drop_le _ _
              have h2 := digits_bd (u := cval (cs.drop (j + 1))) (n := n) (by have := hNb.out; omega) hn
              omega
            have hx1 : (S.extract 1 S.size).size = 9 := by rw [ext_drop_size]; omega
            have hxc : Lib.strCells (S.extract 1 S.size) = Lib.byteCells ((Lib.decDigits (1000000000 + z)).drop 1) := by
              unfold Lib.strCells Lib.byteCells; rw [ext_drop, hS]
            replace hts := Lib.hid hts
            replace hxc := Lib.hid hxc
            replace hx1 := Lib.hid hx1
            replace hS := Lib.hid hS
            replace hle := Lib.hid hle
            replace hpos := Lib.hid hpos
            replace hi := Lib.hid hi
            replace hz0 := Lib.hid hz0
            replace hz1 := Lib.hid hz1
            replace hz2 := Lib.hid hz2
            have hS1 : (1 : Int) ≤ (S.size : Int) := by omega
            replace hS10 := Lib.hid hS10
            replace hz9 := Lib.hid hz9
            replace hcell := Lib.hid hcell
            have hS2 : ¬ S.size < 1 := by have := hS10.out; omega
            go_wp2_with (at_builtin; refine Lib.wpList_append_own_string _ rfl (.tmp 39) (.tmp 47) 92 9 rfl _ 5 i0 Tryz.underlying92 Tryz.underlying9 hi.out hz0.out hz1.out hz2.out _ _ _ rfl hown7.out (S.extract 1 S.size) rfl ?c1 ?c2 hB7.out.size ?_)
            case c1 => have := hle.out; have := hx1.out; unfold maxLen; omega
            case c2 => have := hle.out; have := hx1.out; omega
            intro v' w' hv' hg' _
            have hBn := Lib.hid (Below.grown hB7.out hg' hB7.out.size (own_base hown7.out))
            rw [hxc.out, show S.size - 1 = 9 by have := hS10.out; omega] at hv'
            have e : Lib.byteCells (Lib.decDigits (cval (List.drop (j + 1) cs)) ++ (Lib.decDigits (1000000000 + z)).drop 1) = Lib.byteCells (Lib.decDigits (cval (List.drop (j + 1) cs))) ++ Lib.byteCells ((Lib.decDigits (1000000000 + z)).drop 1) := by
              unfold Lib.byteCells; rw [List.map_append]
            have e2 : (Lib.decDigits (cval (List.drop (j + 1) cs))).length + 9 = (Lib.decDigits (cval (List.drop (j + 1) cs)) ++ (Lib.decDigits (1000000000 + z)).drop 1).length := by
              rw [List.length_append, show ((Lib.decDigits (1000000000 + z)).drop 1).length = 9 by rw [pad9 hz9.out, pad_len]]
            rw [← e, e2, ← hts.out] at hv'
            have hvn := hv'
            replace hvn := Lib.hid hvn
            clear hv' hg' e e2
            go_wp2
            go_roundw
            case rel => exact ⟨_, j, by omega, by omega, rfl, hvn.out, hBn.out⟩
            case measure => first | (simp [intOf]; done) | (simp [intOf]; omega)
    · obtain ⟨g, rfl, hg1, hg2, O⟩ : ∃ g, A3 = some ⟨g, 0, none⟩ ∧ w.heap.size ≤ g ∧ g < w2.heap.size ∧ Own wr g (limbs gk) := by
        rcases hO with h | h
        · exact absurd h hm0
        · exact h
      have hx0 : 0 < gk := by
        rcases Nat.eq_zero_or_pos gk with h | h
        · exfalso; have := R.len; rw [h, limbs_zero] at this; exact hm0 this.symm
        · exact h
      have hl := Lib.hid (chunk_bd hx0 hNx.out hNb.out hn)
      have hdiv := Lib.hid (divL_any g m k 1000000000 (limbs gk) wr O R.len (by omega) (by omega) (by omega))
      have hcap := Lib.hid R.cap
      have hm1 : (0 : Int) < (m : Int) := by omega
      replace hG := Lib.hid hG
      replace hsz := Lib.hid hsz
      clear hO R O
      go_wp2_with (go_at_call 117; refine hdiv.out.mono ?_; rintro e w3 ⟨r, zs', rfl, hr, O3, l3, v3, g3⟩; refine Hid.out ?_)
      refine Lib.hid ?_
      rw [val_limbs] at v3
      have hG3 := Lib.hid (hG.out.grown g3 hg2)
      have hs3 := Lib.hid (Nat.le_trans hsz.out g3.size)
      have hB3 := Lib.hid (hB.out.grown g3 (Nat.le_trans (by have := B2.out.size; omega) hsz.out) (by intro j hj; injection hj with hj; omega))
      replace O3 := Lib.hid O3
      replace v3 := Lib.hid v3
      replace l3 := Lib.hid l3
      clear g3
      go_wp2_with (at_builtin; refine wpList_append_u32 _ rfl (.tmp 14) (.tmp 17) rfl w2.heap.size _ cs rfl (hG3.out.alloc _) ⟨w3.heap.size, 0, none⟩ 1 1 [r] rfl (lit1 _ _ _ _ rfl ?c0 ?c3) ?c1 ?c2 ?_)
      case c0 => rfl
      case c3 => omega
      case c1 => have := hl.out; omega
      case c2 => have := hs3.out; simp; omega
      intro v' w' hG' hg
      have O4 := Own.grown (O3.out.alloc _) hg (fun e => by have := own_ge hG3.out g e.symm; omega)
      have hB4 := Lib.hid (Below.grown (hB3.out.alloc (Nat.le_trans (by have := B2.out.size; omega) hs3.out) _) hg (by have := hs3.out; have := B2.out.size; simp; omega) (fun j hj => by have := own_ge hG3.out j hj; have := B2.out.size; omega))
      have hs4 := Lib.hid (show w2.heap.size ≤ w'.heap.size by have h1 := hg.size; have h2 := hs3.out; simp at h1; omega)
      have htr := Lib.hid (trim_any (some ⟨g, 0, none⟩) m k zs' w' (O4.rdn l3.out hcap.out) (by omega))
      have O5 := O4.pre (limbs (val zs')).length
      rw [← trim_take O4.sm] at O5
      replace O5 := Lib.hid O5
      replace hG' := Lib.hid hG'
      have hN2 : N = val zs' * 1000000000 ^ (cs ++ [r]).length + cval (cs ++ [r]) := by
        rw [cval_snoc, List.length_append, List.length_singleton, Nat.pow_succ, hNx.out, ← v3.out, Nat.add_mul, Nat.mul_assoc, Nat.mul_comm 1000000000, Nat.mul_comm r]
        omega
      have ht2 := Lib.hid (tops_step htop.out v3.out.symm hx0)
      have hc2 : ∀ y ∈ cs ++ [r], y < 1000000000 := by
        intro y hy
        rcases List.mem_append.1 hy with hy | hy
        · exact hcs.out y hy
        · rw [List.mem_singleton.1 hy]; exact hr
      have hlt : val zs' < gk := by have := v3.out; omega
      have hlen : (limbs (val zs')).length ≤ m := by rw [← l3.out]; exact limbs_len_le.2 (val_lt O4.sm)
      replace hN2 := Lib.hid hN2
      replace hc2 := Lib.hid hc2
      replace hlt := Lib.hid hlt
      replace hlen := Lib.hid hlen
      clear O4 hg
      go_wp2_with (go_at_call 118; refine htr.out.mono ?_; rintro e w5 ⟨n5, rfl, rfl, R5⟩; refine Hid.out ?_)
      refine Lib.hid ?_
      have hn5 : n5 ≤ 1000 := by have := R5.len; have := hlen.out; omega
      replace R5 := Lib.hid R5
      go_wp2
      go_roundg (val zs')
      case measure => exact hlt.out
      case rel => exact ⟨_, _, _, _, rfl, hn5, R5.out, .inr ⟨g, rfl, hg1, hg2, O5.out⟩, hG'.out, hN2.out, hc2.out, ht2.out, by rw [List.length_append, List.length_singleton]; have := hl.out; omega, hs4.out, hB4.out⟩
end Go.Proofs.YthlnhmdpimoojaaGreatDoor

namespace Go.Proofs.YthlnhmdpimoojaaGreatDoor
open Go.RowKit

theorem dg_ok {u : Nat} (h : u < 10) : isDig (UInt8.ofNat (48 + u)) = true ∧ (UInt8.ofNat (48 + u)).toNat = 48 + u := by
  have e : (UInt8.ofNat (48 + u)).toNat = 48 + u := by rw [UInt8.toNat_ofNat']; omega
  refine ⟨?_, e⟩
  unfold isDig
  rw [e]; simp; omega
theorem dec_head : ∀ (N : Nat), 0 < N → ∃ c r, Lib.decDigits N = c :: r ∧ 49 ≤ c.toNat := by
  intro N
  induction N using Nat.strongRecOn with
  | _ N ih =>
    intro h0
    by_cases h : N < 10
    · rw [Lib.decDigits_one h]
      exact ⟨_, [], rfl, by rw [(dg_ok h).2]; omega⟩
    · rw [Lib.decDigits, dif_neg h]
      obtain ⟨c, r, e, hc⟩ := ih (N / 10) (by omega) (by omega)
      exact ⟨c, _, by rw [e]; rfl, hc⟩
theorem dec_len_le {N k : Nat} (h : N < 10 ^ (k + 1)) : (Lib.decDigits N).length ≤ k + 1 := by
  rw [Lib.decDigits_length]
  have : ∀ (k u : Nat), u < 10 ^ (k + 1) → Lib.nDigits u ≤ k + 1 := by
    intro k
    induction k with
    | zero => intro u h; rw [Lib.nDigits_small (by simpa using h)]; omega
    | succ k ih =>
      intro u h
      by_cases hu : u < 10
      · rw [Lib.nDigits_small hu]; omega
      · rw [Nat.pow_succ] at h
        rw [Lib.nDigits_big hu]
        have := ih (u / 10) (by omega)
        omega
  exact this k N h
/-- A number's text. -/
def txt (N : Nat) : ByteArray := ⟨(Lib.decDigits N).toArray⟩
theorem txt_list (N : Nat) : (txt N).data.toList = Lib.decDigits N := rfl
theorem txt_size (N : Nat) : (txt N).size = (Lib.decDigits N).length := by rw [← toList_len, txt_list]
theorem small_bn {N : Nat} {m : Nat} (h : N < 4294967296 ^ m) : (Lib.decDigits N).length ≤ 10 * m + 1 := by
  refine dec_len_le (k := 10 * m) ?_
  have h1 : 4294967296 ^ m ≤ (10 ^ 10) ^ m := Nat.pow_le_pow_left (by decide) _
  rw [← Nat.pow_mul] at h1
  have h2 : 10 ^ (10 * m) ≤ 10 ^ (10 * m + 1) := Nat.pow_le_pow_right (by decide) (by omega)
  omega
theorem small_len {N : Nat} {m : Nat} (h : N < 4294967296 ^ m) (hm : m ≤ 100) : (Lib.decDigits N).length ≤ 1001 := by
  have := small_bn h
  omega

end Go.Proofs.YthlnhmdpimoojaaGreatDoor
