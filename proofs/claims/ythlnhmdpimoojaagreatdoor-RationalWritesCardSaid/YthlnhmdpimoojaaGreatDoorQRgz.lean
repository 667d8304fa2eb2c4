/- isOdd, powerOfTen and divideToNearest of rational. divideToNearest and Format of rational. -/
import Derived.Test.YthlnhmdpimoojaaGreatDoorRe
import Derived.Test.YthlnhmdpimoojaaGreatDoorQIlz
import Derived.Test.YthlnhmdpimoojaaGreatDoorIh
import Derived.Test.YthlnhmdpimoojaaGreatDoorSi
import Derived.Lib.BitFns
import Derived.Test.YthlnhmdpimoojaaGreatDoorQItz
namespace Go.Proofs.YthlnhmdpimoojaaGreatDoor
open Go.RowKit RQ

theorem ngN (N : Nat) : ng (N : Int) = false := decide_eq_false (by omega)
/-- What a function that returns one number without a sign leaves. -/
def RetU (N : Nat) (w : World) (e : Ending) (w' : World) : Prop := ∃ A n c, e = .returned (.agg #[.bool false, .slice A n c]) ∧ Rd w' A n c (limbs N) ∧ Below w.heap.size w w'
theorem RetI.u {N : Nat} {w : World} {e : Ending} {w' : World} (h : RetI (N : Int) w e w') : RetU N w e w' := by
  obtain ⟨A, n, c, he, R, B⟩ := h
  rw [ngN] at he
  rw [Int.natAbs_natCast] at R
  exact ⟨A, n, c, he, R, B⟩
theorem RetU.i {N : Nat} {w : World} {e : Ending} {w' : World} (h : RetU N w e w') : RetI (N : Int) w e w' := by
  obtain ⟨A, n, c, he, R, B⟩ := h
  refine ⟨A, n, c, by rw [ngN]; exact he, by rw [Int.natAbs_natCast]; exact R, B⟩
theorem i64_and1 (n : Int) : bits .and .i64 n 1 = n % 2 := by
  have h127 : (BitVec.ofInt 64 1).toNat = 2 ^ 1 - 1 := by decide
  have key : (BitVec.ofInt 64 n &&& BitVec.ofInt 64 1).toNat = (n % ((2 ^ 64 : Nat) : Int)).toNat % 2 ^ 1 := by
    rw [BitVec.toNat_and, BitVec.toNat_ofInt, h127, Nat.and_two_pow_sub_one_eq_mod]
  show IntKind.i64.wrap ((BitVec.ofInt 64 n &&& BitVec.ofInt 64 1).toNat : Nat) = n % 2
  rw [key, IntKind.wrap_i64]
  omega
theorem pow10_lt (j : Nat) : 10 ^ j < 4294967296 ^ (j + 1) := by
  have h1 : 10 ^ j ≤ 4294967296 ^ j := Nat.pow_le_pow_left (by decide) j
  have h2 : 0 < 4294967296 ^ j := Nat.pow_pos (by decide)
  rw [Nat.pow_succ]; omega
theorem pow10_len (j : Nat) : (limbs (10 ^ j)).length ≤ j + 1 := limbs_len_le.2 (pow10_lt j)

theorem limb_mod2 {N x : Nat} (h : (limbs N).getD 0 0 = x) (hp : 0 < (limbs N).length) : N % 2 = x % 2 := by
  rcases Nat.eq_zero_or_pos N with h0 | h0
  · subst h0; rw [limbs_zero] at hp; simp at hp
  · rw [limbs_pos h0] at h; simp at h; omega
set_option maxHeartbeats 1000000 in
theorem isOdd_any (N : Nat) (b : Bool) (A : Option Addr) (n c : Nat) (w : World) (R : Rd w A n c (limbs N)) :
    Calls Tryz.prog 87 #[.agg #[.bool b, .slice A n c]] w fun e w' => e = .returned (.bool (decide (N % 2 = 1))) ∧ Below w.heap.size w w' := by
  have hl := R.len
  have R' := R.alloc (.cells #[.bool b, .slice A n c] 24)
  have B := Lib.hid ((Below.refl w.heap.size w).alloc (Nat.le_refl _) (.cells #[.bool b, .slice A n c] 24))
  by_cases hn : n = 0
  · have h0 : N = 0 := by
      have := List.eq_nil_of_length_eq_zero (hl.trans hn)
      have h2 := congrArg val this
      rwa [val_limbs] at h2
    subst hn
    rw [decide_eq_false (show ¬ N % 2 = 1 by omega)]
    clear R R' hl h0
    go_enter Tryz.func87, Tryz.ntmps87
    go_wp2
    go_ret
    exact ⟨rfl, B.out⟩
  · have hn1 : (0 : Int) < (n : Int) := by omega
    have hn2 : 0 < n := by omega
    obtain ⟨p, q, x, rfl, _, hx, hget, hc⟩ := R'.at_ (k := 0) (by omega)
    rw [Nat.add_zero] at hc
    have hm := limb_mod2 hget (by omega)
    rw [hm]
    have hx0 : (0 : Int) ≤ (x : Int) := by omega
    rcases Nat.mod_two_eq_zero_or_one x with h1 | h1
    · have hb : (x : Int) % 2 = 0 := by omega
      rw [decide_eq_false (by omega)]
      clear R R' hl hget hm hn h1
      go_enter Tryz.func87, Tryz.ntmps87
      go_wp2
      go_ret
      exact ⟨rfl, B.out⟩
    · have hb : (x : Int) % 2 = 1 := by omega
      rw [decide_eq_true h1]
      clear R R' hl hget hm hn h1
      go_enter Tryz.func87, Tryz.ntmps87
      go_wp2
      go_ret
      exact ⟨rfl, B.out⟩

theorem mulU_any (p q : Nat) (A : Option Addr) (n c : Nat) (A' : Option Addr) (n' c' : Nat) (w : World) (R1 : Rd w A n c (limbs p)) (R2 : Rd w A' n' c' (limbs q)) (hn : n ≤ 1000) (hn' : n' ≤ 1000) :
    Calls Tryz.prog 34 #[.agg #[.bool false, .slice A n c], .agg #[.bool false, .slice A' n' c']] w (RetU (p * q) w) := by
  have := mulI_any false A n c _ false A' n' c' _ w R1 R2 hn hn'
  rw [iv_pos, iv_pos, ← Int.natCast_mul] at this
  exact this.mono fun _ _ h => h.u
theorem fromIntU_any (v : Nat) (w : World) (h1 : v ≤ 9223372036854775807) : Calls Tryz.prog 78 #[.int .i64 (v : Int)] w (RetU v w) :=
  (fromInt_any v w (by omega) (by omega)).mono fun _ _ h => h.u
theorem bitLen_div : ∀ (f x : Nat), x < 2 ^ f → x / 2 ^ Lib.bitLenAux f x = 0 ∧ Lib.bitLenAux f x ≤ f
  | 0, x, h => by simp at h; subst h; simp [Lib.bitLenAux]
  | f + 1, x, h => by
    unfold Lib.bitLenAux
    split
    · rename_i h0; subst h0; simp
    · obtain ⟨a, b⟩ := bitLen_div f (x / 2) (by rw [Nat.pow_succ] at h; omega)
      refine ⟨?_, by omega⟩
      rw [Nat.add_comm 1, Nat.pow_succ, Nat.mul_comm, ← Nat.div_div_eq_div_mul]; exact a
theorem exp_step (k j : Nat) : k / 2 ^ j = 2 * (k / 2 ^ (j + 1)) + k / 2 ^ j % 2 := by
  rw [Nat.pow_succ, ← Nat.div_div_eq_div_mul]; omega
theorem res_pow10 (W : World) (tmps : Array Value) (g t : Nat) {v0 v1 : Value} (ht : tmps.getD 2 undef = .pointer (some ⟨g, 0, none⟩)) (h : Cb W g #[v0, v1] t) :
    (results Tryz.f35 tmps).run Tryz.prog W = .ok (.agg #[v0, v1]) W := by
  have c0 : W.cell? ⟨g, 0, none⟩ = some v0 := h.cell rfl
  have c1 : W.cell? ⟨g, 1, none⟩ = some v1 := h.cell rfl
  have ht' : tmps[2]?.getD undef = .pointer (some ⟨g, 0, none⟩) := by rw [← ht]; simp [Array.getD_eq_getD_getElem?]
  simp [results, Tryz.results35, go_sem, ht', c0, c1]

set_option maxHeartbeats 4000000 in
theorem powerOfTen_any (k : Nat) (w : World) (hk : k ≤ 990) : Calls Tryz.prog 35 #[.int .i64 (k : Int)] w (RetU (10 ^ k) w) := by
  have h10 := Lib.hid (fun W => fromIntU_any 10 W (by decide))
  have h1 := Lib.hid (fun W => fromIntU_any 1 W (by decide))
  have hM := Lib.hid (fun (p q : Nat) A n c A' n' c' W q1 q2 a b => mulU_any p q A n c A' n' c' W q1 q2 a b)
  have k0 : (0 : Int) ≤ (k : Int) := by omega
  have k1 : (k : Int) ≤ 1000 := by omega
  obtain ⟨hb1, hb2⟩ := bitLen_div 64 k (by omega)
  obtain ⟨L, hL⟩ : ∃ L, Lib.bitLen k = L := ⟨_, rfl⟩
  have hBL := fun W => Tryz.bits_Len (k : Int) W (by omega) (by omega)
  rw [Int.toNat_natCast, hL] at hBL
  unfold Lib.bitLen at hL
  rw [hL] at hb1 hb2
  have L0 : (0 : Int) ≤ (L : Int) := by omega
  have L1 : (L : Int) ≤ 64 := by omega
  replace hBL := Lib.hid hBL
  replace hb1 := Lib.hid hb1
  replace hb2 := Lib.hid hb2
  replace hk := Lib.hid hk
  clear hL
  have S : St w _ [(w.heap.size, #[.bool false, .slice none 0 0], 24)] [] := ((St.new w).allocAt (w.heap.size) #[.bool false, .slice none 0 0] 24 (noL2 _ _ _ _) (by simp))
  replace S := Lib.hid S
  go_enter Tryz.func35, Tryz.ntmps35
  go_wp2_with fail
  refine (h10.out _).mono ?_
  rintro e w1 ⟨A1, n1, c1, rfl, Q, bb⟩
  have T := ((S.out.call bb).read Q)
  clear bb S
  have S := T
  clear T
  have c_r0 := S.cl 0 0 rfl rfl
  have f_r0 := S.f 0 0 rfl
  have c_r1 := S.cl 0 1 rfl rfl
  have f_r1 := S.f 0 1 rfl
  have hz : w.heap.size < w1.heap.size := S.lt 0 rfl
  replace S := Lib.hid S
  clear Q h10
  go_wp2_with fail
  refine (h1.out _).mono ?_
  rintro e w2 ⟨A2, n2, c2, rfl, Q, bb⟩
  have T := (((S.out.allocAt (w1.heap.size) #[.bool false, .slice A1 n1 c1] 24 (noL2 _ _ _ _) (by simp)).call bb).read Q)
  clear bb S c_r0 f_r0 c_r1 f_r1 hz
  have S := T
  clear T
  have c_t0 := S.cl 0 0 rfl rfl
  have f_t0 := S.f 0 0 rfl
  have c_t1 := S.cl 0 1 rfl rfl
  have f_t1 := S.f 0 1 rfl
  have c_r0 := S.cl 1 0 rfl rfl
  have f_r0 := S.f 1 0 rfl
  have c_r1 := S.cl 1 1 rfl rfl
  have f_r1 := S.f 1 1 rfl
  have hz : w1.heap.size < w2.heap.size := S.lt 0 rfl
  replace S := Lib.hid S
  clear Q h1
  have hT : Hid (n1 ≤ 1000) := Lib.hid (by have := (S.out.r 1 rfl).len; have h2 : (limbs (10 ^ 1)).length ≤ 2 := pow10_len 1; rw [show 10 ^ 1 = 10 from rfl] at h2; omega)
  have S : St w _ [(w2.heap.size, #[.bool false, .slice A2 n2 c2], 24), (w1.heap.size, #[.bool false, .slice A1 n1 c1], 24), (w.heap.size, #[.bool false, .slice none 0 0], 24)] [(A2, n2, c2, limbs 1), (A1, n1, c1, limbs 10)] := (S.out.allocAt (w2.heap.size) #[.bool false, .slice A2 n2 c2] 24 (noL2 _ _ _ _) (by simp))
  replace S := Lib.hid S
  go_wp2_with fail
  refine (hBL.out _).mono ?_
  rintro e _ ⟨rfl, rfl⟩
  clear hBL c_t0 f_t0 c_t1 f_t1 c_r0 f_r0 c_r1 f_r1 hz
  go_wp2_with fail
  have S : St w _ [(w2.heap.size, #[.bool false, .slice A2 n2 c2], 24), (w1.heap.size, #[.bool false, .slice A1 n1 c1], 24), (w.heap.size, #[.bool false, .slice none 0 0], 24)] [(A2, n2, c2, limbs 1), (A1, n1, c1, limbs 10)] := S.out
  generalize hW3 : (World.alloc w2 (.cells #[.bool false, .slice A2 n2 c2] 24)) = w3 at S ⊢
  clear hW3
  replace S := Lib.hid S
  go_loopw [5] (fun iv wr => ∃ (i : Int) (j : Nat) (A : Option Addr) (n c : Nat), iv = .int .i64 i ∧ i + 1 = (j : Int) ∧ j ≤ 64 ∧ St w wr [(w2.heap.size, #[.bool false, .slice A n c], 24), (w1.heap.size, #[.bool false, .slice A1 n1 c1], 24), (w.heap.size, #[.bool false, .slice none 0 0], 24)] [(A, n, c, limbs (10 ^ (k / 2 ^ j))), (A1, n1, c1, limbs 10)]) (fun iv _ => (intOf iv + 1).toNat)
  case atStart =>
    refine ⟨(L : Int) - 1, L, A2, n2, c2, by go_num, by omega, hb2.out, ?_⟩
    rw [hb1.out]; exact S.out
  case round =>
    obtain ⟨i, j, A, n, c, rfl, hij, hj, T⟩ := hrel
    clear S
    have S := T
    clear T
    have c_p0 := S.cl 0 0 rfl rfl
    have f_p0 := S.f 0 0 rfl
    have c_p1 := S.cl 0 1 rfl rfl
    have f_p1 := S.f 0 1 rfl
    have c_t0 := S.cl 1 0 rfl rfl
    have f_t0 := S.f 1 0 rfl
    have c_t1 := S.cl 1 1 rfl rfl
    have f_t1 := S.f 1 1 rfl
    have c_r0 := S.cl 2 0 rfl rfl
    have f_r0 := S.f 2 0 rfl
    have c_r1 := S.cl 2 1 rfl rfl
    have f_r1 := S.f 2 1 rfl
    have hz : w2.heap.size < wr.heap.size := S.lt 0 rfl
    replace S := Lib.hid S
    have hn : Hid (n ≤ 1000) := Lib.hid (by have := (S.out.r 0 rfl).len; have h2 := pow10_len (k / 2 ^ j); have := Nat.div_le_self k (2 ^ j); have := hk.out; omega)
    by_cases h0 : i < 0
    · have hj0 : j = 0 := by omega
      have he : Hid (k / 2 ^ j = k) := Lib.hid (by rw [hj0]; simp)
      clear hij hj hj0
      have S : St w _ [(w2.heap.size, #[.bool false, .slice A n c], 24), (w1.heap.size, #[.bool false, .slice A1 n1 c1], 24), (w.heap.size, #[.bool false, .slice none 0 0], 24)] [(A, n, c, limbs (10 ^ (k / 2 ^ j))), (A1, n1, c1, limbs 10)] := S.out
      have a_p0 := S.cl 0 0 rfl rfl
      have b_p0 := S.f 0 0 rfl
      have a_p1 := S.cl 0 1 rfl rfl
      have b_p1 := S.f 0 1 rfl
      have a_r0 := S.cl 2 0 rfl rfl
      have b_r0 := S.f 2 0 rfl
      have a_r1 := S.cl 2 1 rfl rfl
      have b_r1 := S.f 2 1 rfl
      replace S := Lib.hid S
      have S2 : St w _ [(w2.heap.size, #[.bool false, .slice A n c], 24), (w1.heap.size, #[.bool false, .slice A1 n1 c1], 24), (w.heap.size, #[.bool false, .slice A n c], 24)] [(A, n, c, limbs (10 ^ (k / 2 ^ j))), (A1, n1, c1, limbs 10)] := ((S.out.set 2 0 (.bool false) rfl (by nofun)).set 2 1 (.slice A n c) rfl (by nofun))
      replace S2 := Lib.hid S2
      go_wp2
      refine bodyPost_ret (res_pow10 _ _ (w.heap.size) 24 rfl (S2.out.bk _ (List.mem_of_getElem? (i := 2) rfl)).1) rfl ?_
      exact ⟨A, n, c, rfl, by have := S2.out.r 0 rfl; rwa [he.out] at this, S2.out.bel⟩
    · obtain ⟨m, hm⟩ : ∃ m : Nat, i = (m : Int) := ⟨i.toNat, by omega⟩
      have hjm : j = m + 1 := by omega
      subst hm hjm
      have i0 : (0 : Int) ≤ (m : Int) := by omega
      have i1 : (m : Int) ≤ 64 := by omega
      have hst := exp_step k m
      have hdv := Nat.div_le_self k (2 ^ m)
      have hbit : bits .and .i64 ((k : Int) / 2 ^ ((m : Int)).toNat) 1 = ((k / 2 ^ m % 2 : Nat) : Int) := by rw [i64_and1, Int.toNat_natCast]; rw [show (2 : Int) ^ m = ((2 ^ m : Nat) : Int) by simp, ← Int.natCast_ediv]; omega
      rw [Int.toNat_natCast] at hbit
      have hsq : Hid (10 ^ (k / 2 ^ (m + 1)) * 10 ^ (k / 2 ^ (m + 1)) = 10 ^ (2 * (k / 2 ^ (m + 1)))) := Lib.hid (by rw [← Nat.pow_add]; congr 1; omega)
      replace hdv := Lib.hid hdv
      replace hj := Lib.hid hj
      clear hij h0
      rcases Nat.mod_two_eq_zero_or_one (k / 2 ^ m) with hb | hb
      · rw [hb] at hst hbit
        replace hst := Lib.hid hst
        clear hb
        go_wp2_with fail
        refine (hM.out (10 ^ (k / 2 ^ (m + 1))) (10 ^ (k / 2 ^ (m + 1))) _ _ _ _ _ _ _ (S.out.r 0 rfl) (S.out.r 0 rfl) hn.out hn.out).mono ?_
        rintro e w4 ⟨A3, n3, c3, rfl, Q3, bb⟩
        have T := ((S.out.call bb).read (hsq.out ▸ Q3))
        clear bb S c_p0 f_p0 c_p1 f_p1 c_t0 f_t0 c_t1 f_t1 c_r0 f_r0 c_r1 f_r1 hz
        have S := T
        clear T
        have c_p0 := S.cl 0 0 rfl rfl
        have f_p0 := S.f 0 0 rfl
        have c_p1 := S.cl 0 1 rfl rfl
        have f_p1 := S.f 0 1 rfl
        have c_t0 := S.cl 1 0 rfl rfl
        have f_t0 := S.f 1 0 rfl
        have c_t1 := S.cl 1 1 rfl rfl
        have f_t1 := S.f 1 1 rfl
        have c_r0 := S.cl 2 0 rfl rfl
        have f_r0 := S.f 2 0 rfl
        have c_r1 := S.cl 2 1 rfl rfl
        have f_r1 := S.f 2 1 rfl
        have hz : w2.heap.size < w4.heap.size := S.lt 0 rfl
        replace S := Lib.hid S
        clear Q3
        have SE := Lib.hid (((S.out.set 0 0 (.bool false) rfl (by nofun)).set 0 1 (.slice A3 n3 c3) rfl (by nofun)))
        go_wp2
        go_roundw
        case rel => exact ⟨(m : Int) - 1, m, A3, n3, c3, by go_num, by omega, by have := hj.out; omega, ⟨SE.out.bel, SE.out.bk, SE.out.nd, by intro r hr; rcases List.mem_cons.1 hr with rfl | hr; exact (by have := SE.out.r 0 rfl; rw [hst.out]; exact this); exact SE.out.rd r (by simp at hr ⊢; simp [hr])⟩⟩
        case measure => simp [intOf]
      · rw [hb] at hst hbit
        replace hst := Lib.hid hst
        clear hb
        go_wp2_with fail
        refine (hM.out (10 ^ (k / 2 ^ (m + 1))) (10 ^ (k / 2 ^ (m + 1))) _ _ _ _ _ _ _ (S.out.r 0 rfl) (S.out.r 0 rfl) hn.out hn.out).mono ?_
        rintro e w4 ⟨A3, n3, c3, rfl, Q3, bb⟩
        have T := ((S.out.call bb).read (hsq.out ▸ Q3))
        clear bb S c_p0 f_p0 c_p1 f_p1 c_t0 f_t0 c_t1 f_t1 c_r0 f_r0 c_r1 f_r1 hz
        have S := T
        clear T
        have c_p0 := S.cl 0 0 rfl rfl
        have f_p0 := S.f 0 0 rfl
        have c_p1 := S.cl 0 1 rfl rfl
        have f_p1 := S.f 0 1 rfl
        have c_t0 := S.cl 1 0 rfl rfl
        have f_t0 := S.f 1 0 rfl
        have c_t1 := S.cl 1 1 rfl rfl
        have f_t1 := S.f 1 1 rfl
        have c_r0 := S.cl 2 0 rfl rfl
        have f_r0 := S.f 2 0 rfl
        have c_r1 := S.cl 2 1 rfl rfl
        have f_r1 := S.f 2 1 rfl
        have hz : w2.heap.size < w4.heap.size := S.lt 0 rfl
        replace S := Lib.hid S
        clear Q3
        have S : St w _ [(w2.heap.size, #[.bool false, .slice A3 n3 c3], 24), (w1.heap.size, #[.bool false, .slice A1 n1 c1], 24), (w.heap.size, #[.bool false, .slice none 0 0], 24)] [(A3, n3, c3, limbs (10 ^ (2 * (k / 2 ^ (m + 1))))), (A, n, c, limbs (10 ^ (k / 2 ^ (m + 1)))), (A1, n1, c1, limbs 10)] := ((S.out.set 0 0 (.bool false) rfl (by nofun)).set 0 1 (.slice A3 n3 c3) rfl (by nofun))
        have a_p0 := S.cl 0 0 rfl rfl
        have b_p0 := S.f 0 0 rfl
        have a_p1 := S.cl 0 1 rfl rfl
        have b_p1 := S.f 0 1 rfl
        have a_t0 := S.cl 1 0 rfl rfl
        have b_t0 := S.f 1 0 rfl
        have a_t1 := S.cl 1 1 rfl rfl
        have b_t1 := S.f 1 1 rfl
        replace S := Lib.hid S
        have h3 : Hid (n3 ≤ 1000) := Lib.hid (by have := (S.out.r 0 rfl).len; have h2 := pow10_len (2 * (k / 2 ^ (m + 1))); have := hst.out; have := hdv.out; have := hk.out; omega)
        have hsr : Hid (10 ^ (2 * (k / 2 ^ (m + 1))) * 10 = 10 ^ (2 * (k / 2 ^ (m + 1)) + 1)) := Lib.hid (Nat.pow_succ ..).symm
        go_wp2_with fail
        refine (hM.out (10 ^ (2 * (k / 2 ^ (m + 1)))) 10 _ _ _ _ _ _ _ (S.out.r 0 rfl) (S.out.r 2 rfl) h3.out hT.out).mono ?_
        rintro e w5 ⟨A4, n4, c4, rfl, Q4, bb⟩
        have T := ((S.out.call bb).read (hsr.out ▸ Q4))
        clear bb S c_p0 f_p0 c_p1 f_p1 c_t0 f_t0 c_t1 f_t1 c_r0 f_r0 c_r1 f_r1 hz a_p0 b_p0 a_p1 b_p1 a_t0 b_t0 a_t1 b_t1
        have S := T
        clear T
        have c_p0 := S.cl 0 0 rfl rfl
        have f_p0 := S.f 0 0 rfl
        have c_p1 := S.cl 0 1 rfl rfl
        have f_p1 := S.f 0 1 rfl
        have c_t0 := S.cl 1 0 rfl rfl
        have f_t0 := S.f 1 0 rfl
        have c_t1 := S.cl 1 1 rfl rfl
        have f_t1 := S.f 1 1 rfl
        have c_r0 := S.cl 2 0 rfl rfl
        have f_r0 := S.f 2 0 rfl
        have c_r1 := S.cl 2 1 rfl rfl
        have f_r1 := S.f 2 1 rfl
        have hz : w2.heap.size < w5.heap.size := S.lt 0 rfl
        replace S := Lib.hid S
        clear Q4
        have SE := Lib.hid (((S.out.set 0 0 (.bool false) rfl (by nofun)).set 0 1 (.slice A4 n4 c4) rfl (by nofun)))
        go_wp2
        go_roundw
        case rel => exact ⟨(m : Int) - 1, m, A4, n4, c4, by go_num, by omega, by have := hj.out; omega, ⟨SE.out.bel, SE.out.bk, SE.out.nd, by intro r hr; rcases List.mem_cons.1 hr with rfl | hr; exact (by have := SE.out.r 0 rfl; rw [hst.out]; exact this); exact SE.out.rd r (by simp at hr ⊢; simp [hr])⟩⟩
        case measure => simp [intOf]
end Go.Proofs.YthlnhmdpimoojaaGreatDoor

namespace Go.Proofs.YthlnhmdpimoojaaGreatDoor
open Go.RowKit RQ

/-- The whole number nearest to N / D; of two, the even one. -/
def near (N D : Nat) : Nat := if D < 2 * (N % D) ∨ (2 * (N % D) = D ∧ N / D % 2 = 1) then N / D + 1 else N / D

theorem divU_any (p q : Nat) (A : Option Addr) (n c : Nat) (A' : Option Addr) (n' c' : Nat) (w : World) (R1 : Rd w A n c (limbs p)) (R2 : Rd w A' n' c' (limbs q)) (hn : n ≤ 500) (hn' : n' ≤ 500) (hq : 0 < q) :
    Calls Tryz.prog 51 #[.agg #[.bool false, .slice A n c], .agg #[.bool false, .slice A' n' c']] w fun e w' => ∃ A n c A' n' c', e = .returned (.tuple #[.agg #[.bool false, .slice A n c], .agg #[.bool false, .slice A' n' c'], .bool true]) ∧ Rd w' A n c (limbs (p / q)) ∧ Rd w' A' n' c' (limbs (p % q)) ∧ Below w.heap.size w w' := by
  have := divI_any false A n c _ false A' n' c' _ w R1 R2 hn hn' (by rw [iv_pos]; omega)
  rw [iv_pos, iv_pos, ← Int.natCast_ediv, ← Int.natCast_emod] at this
  refine this.mono fun e w' h => ?_
  obtain ⟨A, n, c, A', n', c', he, R1, R2, B⟩ := h
  rw [ngN, ngN] at he
  rw [Int.natAbs_natCast] at R1 R2
  exact ⟨A, n, c, A', n', c', he, R1, R2, B⟩
theorem addU_any (p q : Nat) (A : Option Addr) (n c : Nat) (A' : Option Addr) (n' c' : Nat) (w : World) (R1 : Rd w A n c (limbs p)) (R2 : Rd w A' n' c' (limbs q)) (hn : n ≤ 500) (hn' : n' ≤ 500) :
    Calls Tryz.prog 86 #[.agg #[.bool false, .slice A n c], .agg #[.bool false, .slice A' n' c']] w (RetU (p + q) w) := by
  have := addI_any false A n c _ false A' n' c' _ w R1 R2 hn hn'
  rw [iv_pos, iv_pos, ← Int.natCast_add] at this
  exact this.mono fun _ _ h => h.u
theorem compareU_any (p q : Nat) (k : Int) (A : Option Addr) (n c : Nat) (A' : Option Addr) (n' c' : Nat) (w : World) (R1 : Rd w A n c (limbs p)) (R2 : Rd w A' n' c' (limbs q)) (hn : n ≤ 500) (hn' : n' ≤ 500) (hk : cmpi (p : Int) (q : Int) = k) :
    Calls Tryz.prog 85 #[.agg #[.bool false, .slice A n c], .agg #[.bool false, .slice A' n' c']] w fun e w' => e = .returned (.int .i64 k) ∧ Below w.heap.size w w' := by
  have := compareI_any false A n c _ false A' n' c' _ w R1 R2 hn hn'
  rw [iv_pos, iv_pos, hk] at this
  exact this
theorem len_mono {a b p : Nat} (h : (limbs b).length ≤ p) (hab : a ≤ b) : (limbs a).length ≤ p := limbs_len_le.2 (Nat.lt_of_le_of_lt hab (limbs_len_le.1 h))
theorem len_add {a b p : Nat} (h1 : (limbs a).length ≤ p) (h2 : (limbs b).length ≤ p) : (limbs (a + b)).length ≤ p + 1 := by
  have a1 := limbs_len_le.1 h1
  have a2 := limbs_len_le.1 h2
  refine limbs_len_le.2 ?_
  rw [Nat.pow_succ]; omega
theorem res_near (W : World) (tmps : Array Value) (g t : Nat) {v0 v1 : Value} (ht : tmps.getD 4 undef = .pointer (some ⟨g, 0, none⟩)) (h : Cb W g #[v0, v1] t) :
    (results Tryz.f36 tmps).run Tryz.prog W = .ok (.agg #[v0, v1]) W := by
  have c0 : W.cell? ⟨g, 0, none⟩ = some v0 := h.cell rfl
  have c1 : W.cell? ⟨g, 1, none⟩ = some v1 := h.cell rfl
  have ht' : tmps[4]?.getD undef = .pointer (some ⟨g, 0, none⟩) := by rw [← ht]; simp [Array.getD_eq_getD_getElem?]
  simp [results, Tryz.results36, go_sem, ht', c0, c1]

set_option maxHeartbeats 8000000 in
theorem nearest_any (N D : Nat) (A : Option Addr) (n c : Nat) (A' : Option Addr) (n' c' : Nat) (w : World) (R1 : Rd w A n c (limbs N)) (R2 : Rd w A' n' c' (limbs D)) (hn : n ≤ 490) (hn' : n' ≤ 490) (hD : 0 < D) :
    Calls Tryz.prog 36 #[.agg #[.bool false, .slice A n c], .agg #[.bool false, .slice A' n' c']] w (RetU (near N D) w) := by
  have lN : (limbs N).length ≤ 490 := by rw [R1.len]; exact hn
  have lD : (limbs D).length ≤ 490 := by rw [R2.len]; exact hn'
  have lq : Hid ((limbs (N / D)).length ≤ 490) := Lib.hid (len_mono lN (Nat.div_le_self N D))
  have lr : (limbs (N % D)).length ≤ 490 := len_mono lN (Nat.mod_le N D)
  have l2 : Hid ((limbs (N % D + N % D)).length ≤ 491) := Lib.hid (len_add lr lr)
  replace lr := Lib.hid lr
  have hd := Lib.hid (fun W q1 q2 => divU_any N D A n c A' n' c' W q1 q2 (by omega) (by omega) hD)
  have hO := fun b A n c W q => isOdd_any (N / D) b A n c W q
  have h1 := Lib.hid (fun W => fromIntU_any 1 W (by decide))
  have hnr : Hid (near N D = if D < 2 * (N % D) ∨ (2 * (N % D) = D ∧ N / D % 2 = 1) then N / D + 1 else N / D) := Lib.hid rfl
  generalize hQ : N / D = Q at *
  generalize hR : N % D = r at *
  generalize near N D = X at *
  have hA : Hid (∀ W A n c, Rd W A n c (limbs r) → Calls Tryz.prog 86 #[.agg #[.bool false, .slice A n c], .agg #[.bool false, .slice A n c]] W (RetU (r + r) W)) := Lib.hid fun W A n c q => addU_any r r A n c A n c W q q (by rw [← q.len]; have := lr.out; omega) (by rw [← q.len]; have := lr.out; omega)
  have hB : Hid (∀ W A n c A' n' c', Rd W A n c (limbs Q) → Rd W A' n' c' (limbs 1) → Calls Tryz.prog 86 #[.agg #[.bool false, .slice A n c], .agg #[.bool false, .slice A' n' c']] W (RetU (Q + 1) W)) := Lib.hid fun W A n c A' n' c' q1 q2 => addU_any Q 1 A n c A' n' c' W q1 q2 (by rw [← q1.len]; have := lq.out; omega) (by rw [← q2.len, limbs_is1]; decide)
  have hC : ∀ k, cmpi ((r + r : Nat) : Int) (D : Int) = k → ∀ W A n c, Rd W A n c (limbs (r + r)) → Rd W A' n' c' (limbs D) → Calls Tryz.prog 85 #[.agg #[.bool false, .slice A n c], .agg #[.bool false, .slice A' n' c']] W fun e w' => e = .returned (.int .i64 k) ∧ Below W.heap.size W w' := fun k hk W A n c q1 q2 => compareU_any (r + r) D k A n c A' n' c' W q1 q2 (by rw [← q1.len]; have := l2.out; omega) (by omega) hk
  have S : St w _ [(w.heap.size + 1 + 1, #[.bool false, .slice none 0 0], 24), (w.heap.size + 1, #[.bool false, .slice A' n' c'], 24), (w.heap.size, #[.bool false, .slice A n c], 24)] [(A', n', c', limbs D), (A, n, c, limbs N)] := ((((((St.new w).read R1).read R2).allocAt (w.heap.size) #[.bool false, .slice A n c] 24 (noL2 _ _ _ _) (by simp)).allocAt (w.heap.size + 1) #[.bool false, .slice A' n' c'] 24 (noL2 _ _ _ _) (by simp)).allocAt (w.heap.size + 1 + 1) #[.bool false, .slice none 0 0] 24 (noL2 _ _ _ _) (by simp))
  replace S := Lib.hid S
  clear R1 R2 hQ hR lN lD hn hn' lq lr l2
  rcases Nat.lt_trichotomy (2 * r) D with h | h | h
  · have hX : Hid (X = Q) := Lib.hid (by rw [hnr.out, if_neg (by omega)])
    clear hnr hO hB h1 hD
    replace hC := Lib.hid (hC (-1) (by unfold cmpi; rw [if_pos (by omega)]))
    go_enter Tryz.func36, Tryz.ntmps36
    go_wp2_with fail
    refine (hd.out _ (S.out.r 1 rfl) (S.out.r 0 rfl)).mono ?_
    rintro e w1 ⟨A1, n1, c1, A2, n2, c2, rfl, Q1, Q2, bb⟩
    have T := (((S.out.call bb).read Q1).read Q2)
    clear bb S
    have S := T
    clear T
    have c_r0 := S.cl 0 0 rfl rfl
    have f_r0 := S.f 0 0 rfl
    have c_r1 := S.cl 0 1 rfl rfl
    have f_r1 := S.f 0 1 rfl
    have c_y0 := S.cl 1 0 rfl rfl
    have f_y0 := S.f 1 0 rfl
    have c_y1 := S.cl 1 1 rfl rfl
    have f_y1 := S.f 1 1 rfl
    have c_x0 := S.cl 2 0 rfl rfl
    have f_x0 := S.f 2 0 rfl
    have c_x1 := S.cl 2 1 rfl rfl
    have f_x1 := S.f 2 1 rfl
    have hz : w.heap.size + 1 + 1 < w1.heap.size := S.lt 0 rfl
    replace S := Lib.hid S
    clear Q1 Q2 hd
    go_wp2_with fail
    clear c_r0 f_r0 c_r1 f_r1 c_y0 f_y0 c_y1 f_y1 c_x0 f_x0 c_x1 f_x1 hz
    have S : St w _ [(w1.heap.size + 1, #[.bool false, .slice A2 n2 c2], 24), (w1.heap.size, #[.bool false, .slice A1 n1 c1], 24), (w.heap.size + 1 + 1, #[.bool false, .slice none 0 0], 24), (w.heap.size + 1, #[.bool false, .slice A' n' c'], 24), (w.heap.size, #[.bool false, .slice A n c], 24)] [(A2, n2, c2, limbs r), (A1, n1, c1, limbs Q), (A', n', c', limbs D), (A, n, c, limbs N)] := ((S.out.allocAt (w1.heap.size) #[.bool false, .slice A1 n1 c1] 24 (noL2 _ _ _ _) (by simp)).allocAt (w1.heap.size + 1) #[.bool false, .slice A2 n2 c2] 24 (noL2 _ _ _ _) (by simp))
    generalize hW2 : (World.alloc (World.alloc w1 (.cells #[.bool false, .slice A1 n1 c1] 24)) (.cells #[.bool false, .slice A2 n2 c2] 24)) = w2 at S ⊢
    clear hW2
    replace S := Lib.hid S
    have d_s0 := St.cl (S.out) 0 0 rfl rfl
    have d_s1 := St.cl (S.out) 0 1 rfl rfl
    have d_y0 := St.cl (S.out) 3 0 rfl rfl
    have d_y1 := St.cl (S.out) 3 1 rfl rfl
    have SD := Lib.hid (S.out.drew)
    go_region_held3 (fun w' => World.cell? w' ⟨w1.heap.size + 1, 0, none⟩ = some (.bool false) ∧ World.cell? w' ⟨w1.heap.size + 1, 1, none⟩ = some (.slice A2 n2 c2) ∧ World.cell? w' ⟨w.heap.size + 1, 0, none⟩ = some (.bool false) ∧ World.cell? w' ⟨w.heap.size + 1, 1, none⟩ = some (.slice A' n' c'))
      (first | exact ⟨d_s0, d_s1, d_y0, d_y1⟩ | exact ⟨e0_s0, e0_s1, e0_y0, e0_y1⟩ | exact ⟨e1_s0, e1_s1, e1_y0, e1_y1⟩)
      (first
        | (go_at_call 86; refine (hA.out _ _ _ _ (SD.out.r 0 rfl)).mono ?_; rintro e w3 ⟨A3, n3, c3, rfl, Q3, bb0⟩; have S0 : St w w3 [(w1.heap.size + 1, #[.bool false, .slice A2 n2 c2], 24), (w1.heap.size, #[.bool false, .slice A1 n1 c1], 24), (w.heap.size + 1 + 1, #[.bool false, .slice none 0 0], 24), (w.heap.size + 1, #[.bool false, .slice A' n' c'], 24), (w.heap.size, #[.bool false, .slice A n c], 24)] [(A3, n3, c3, limbs (r + r)), (A2, n2, c2, limbs r), (A1, n1, c1, limbs Q), (A', n', c', limbs D), (A, n, c, limbs N)] := ((SD.out.call bb0).read Q3); have e0_s0 := St.cl (S0) 0 0 rfl rfl; have e0_s1 := St.cl (S0) 0 1 rfl rfl; have e0_y0 := St.cl (S0) 3 0 rfl rfl; have e0_y1 := St.cl (S0) 3 1 rfl rfl)
        | (go_at_call 85; refine (hC.out _ _ _ _ (S0.r 0 rfl) (S0.r 3 rfl)).mono ?_; rintro e w4 ⟨rfl, bb1⟩; have S1 : St w w4 [(w1.heap.size + 1, #[.bool false, .slice A2 n2 c2], 24), (w1.heap.size, #[.bool false, .slice A1 n1 c1], 24), (w.heap.size + 1 + 1, #[.bool false, .slice none 0 0], 24), (w.heap.size + 1, #[.bool false, .slice A' n' c'], 24), (w.heap.size, #[.bool false, .slice A n c], 24)] [(A3, n3, c3, limbs (r + r)), (A2, n2, c2, limbs r), (A1, n1, c1, limbs Q), (A', n', c', limbs D), (A, n, c, limbs N)] := (S0.call bb1); have e1_s0 := St.cl (S1) 0 0 rfl rfl; have e1_s1 := St.cl (S1) 0 1 rfl rfl; have e1_y0 := St.cl (S1) 3 0 rfl rfl; have e1_y1 := St.cl (S1) 3 1 rfl rfl))
    all_goals
      have S := S1
      clear d_s0 d_s1 d_y0 d_y1 e0_s0 e0_s1 e0_y0 e0_y1 e1_s0 e1_s1 e1_y0 e1_y1 SD bb0 bb1 S0 S1
      replace S := Lib.hid S
      clear Q3 hA hC
      replace S := S.out
      have c_s0 := S.cl 0 0 rfl rfl
      have f_s0 := S.f 0 0 rfl
      have c_s1 := S.cl 0 1 rfl rfl
      have f_s1 := S.f 0 1 rfl
      have c_q0 := S.cl 1 0 rfl rfl
      have f_q0 := S.f 1 0 rfl
      have c_q1 := S.cl 1 1 rfl rfl
      have f_q1 := S.f 1 1 rfl
      have c_r0 := S.cl 2 0 rfl rfl
      have f_r0 := S.f 2 0 rfl
      have c_r1 := S.cl 2 1 rfl rfl
      have f_r1 := S.f 2 1 rfl
      have c_y0 := S.cl 3 0 rfl rfl
      have f_y0 := S.f 3 0 rfl
      have c_y1 := S.cl 3 1 rfl rfl
      have f_y1 := S.f 3 1 rfl
      have c_x0 := S.cl 4 0 rfl rfl
      have f_x0 := S.f 4 0 rfl
      have c_x1 := S.cl 4 1 rfl rfl
      have f_x1 := S.f 4 1 rfl
      have hz : w1.heap.size + 1 < w4.heap.size := S.lt 0 rfl
      replace S := Lib.hid S
      have S : St w _ [(w1.heap.size + 1, #[.bool false, .slice A2 n2 c2], 24), (w1.heap.size, #[.bool false, .slice A1 n1 c1], 24), (w.heap.size + 1 + 1, #[.bool false, .slice A1 n1 c1], 24), (w.heap.size + 1, #[.bool false, .slice A' n' c'], 24), (w.heap.size, #[.bool false, .slice A n c], 24)] [(A3, n3, c3, limbs (r + r)), (A2, n2, c2, limbs r), (A1, n1, c1, limbs Q), (A', n', c', limbs D), (A, n, c, limbs N)] := ((S.out.set 2 0 (.bool false) rfl (by nofun)).set 2 1 (.slice A1 n1 c1) rfl (by nofun))
      replace S := Lib.hid S
      go_wp2
      refine bodyPost_ret (res_near _ _ (w.heap.size + 1 + 1) 24 rfl (S.out.bk _ (List.mem_of_getElem? (i := 2) rfl)).1) rfl ?_
      exact ⟨_, _, _, rfl, by rw [hX.out]; exact S.out.r 2 rfl, S.out.bel⟩
  · by_cases ho : Q % 2 = 1
    · have hX : Hid (X = Q + 1) := Lib.hid (by rw [hnr.out, if_pos (by omega)])
      rw [decide_eq_true ho] at hO
      replace hO := Lib.hid hO
      clear hnr hD ho
      replace hC := Lib.hid (hC (0) (by unfold cmpi; rw [if_neg (by omega), if_neg (by omega)]))
      go_enter Tryz.func36, Tryz.ntmps36
      go_wp2_with fail
      refine (hd.out _ (S.out.r 1 rfl) (S.out.r 0 rfl)).mono ?_
      rintro e w1 ⟨A1, n1, c1, A2, n2, c2, rfl, Q1, Q2, bb⟩
      have T := (((S.out.call bb).read Q1).read Q2)
      clear bb S
      have S := T
      clear T
      have c_r0 := S.cl 0 0 rfl rfl
      have f_r0 := S.f 0 0 rfl
      have c_r1 := S.cl 0 1 rfl rfl
      have f_r1 := S.f 0 1 rfl
      have c_y0 := S.cl 1 0 rfl rfl
      have f_y0 := S.f 1 0 rfl
      have c_y1 := S.cl 1 1 rfl rfl
      have f_y1 := S.f 1 1 rfl
      have c_x0 := S.cl 2 0 rfl rfl
      have f_x0 := S.f 2 0 rfl
      have c_x1 := S.cl 2 1 rfl rfl
      have f_x1 := S.f 2 1 rfl
      have hz : w.heap.size + 1 + 1 < w1.heap.size := S.lt 0 rfl
      replace S := Lib.hid S
      clear Q1 Q2 hd
      go_wp2_with fail
      clear c_r0 f_r0 c_r1 f_r1 c_y0 f_y0 c_y1 f_y1 c_x0 f_x0 c_x1 f_x1 hz
      have S : St w _ [(w1.heap.size + 1, #[.bool false, .slice A2 n2 c2], 24), (w1.heap.size, #[.bool false, .slice A1 n1 c1], 24), (w.heap.size + 1 + 1, #[.bool false, .slice none 0 0], 24), (w.heap.size + 1, #[.bool false, .slice A' n' c'], 24), (w.heap.size, #[.bool false, .slice A n c], 24)] [(A2, n2, c2, limbs r), (A1, n1, c1, limbs Q), (A', n', c', limbs D), (A, n, c, limbs N)] := ((S.out.allocAt (w1.heap.size) #[.bool false, .slice A1 n1 c1] 24 (noL2 _ _ _ _) (by simp)).allocAt (w1.heap.size + 1) #[.bool false, .slice A2 n2 c2] 24 (noL2 _ _ _ _) (by simp))
      generalize hW2 : (World.alloc (World.alloc w1 (.cells #[.bool false, .slice A1 n1 c1] 24)) (.cells #[.bool false, .slice A2 n2 c2] 24)) = w2 at S ⊢
      clear hW2
      replace S := Lib.hid S
      have d_s0 := St.cl (S.out) 0 0 rfl rfl
      have d_s1 := St.cl (S.out) 0 1 rfl rfl
      have d_y0 := St.cl (S.out) 3 0 rfl rfl
      have d_y1 := St.cl (S.out) 3 1 rfl rfl
      have SD := Lib.hid (S.out.drew)
      go_region_held3 (fun w' => World.cell? w' ⟨w1.heap.size + 1, 0, none⟩ = some (.bool false) ∧ World.cell? w' ⟨w1.heap.size + 1, 1, none⟩ = some (.slice A2 n2 c2) ∧ World.cell? w' ⟨w.heap.size + 1, 0, none⟩ = some (.bool false) ∧ World.cell? w' ⟨w.heap.size + 1, 1, none⟩ = some (.slice A' n' c'))
        (first | exact ⟨d_s0, d_s1, d_y0, d_y1⟩ | exact ⟨e0_s0, e0_s1, e0_y0, e0_y1⟩ | exact ⟨e1_s0, e1_s1, e1_y0, e1_y1⟩)
        (first
          | (go_at_call 86; refine (hA.out _ _ _ _ (SD.out.r 0 rfl)).mono ?_; rintro e w3 ⟨A3, n3, c3, rfl, Q3, bb0⟩; have S0 : St w w3 [(w1.heap.size + 1, #[.bool false, .slice A2 n2 c2], 24), (w1.heap.size, #[.bool false, .slice A1 n1 c1], 24), (w.heap.size + 1 + 1, #[.bool false, .slice none 0 0], 24), (w.heap.size + 1, #[.bool false, .slice A' n' c'], 24), (w.heap.size, #[.bool false, .slice A n c], 24)] [(A3, n3, c3, limbs (r + r)), (A2, n2, c2, limbs r), (A1, n1, c1, limbs Q), (A', n', c', limbs D), (A, n, c, limbs N)] := ((SD.out.call bb0).read Q3); have e0_s0 := St.cl (S0) 0 0 rfl rfl; have e0_s1 := St.cl (S0) 0 1 rfl rfl; have e0_y0 := St.cl (S0) 3 0 rfl rfl; have e0_y1 := St.cl (S0) 3 1 rfl rfl)
          | (go_at_call 85; refine (hC.out _ _ _ _ (S0.r 0 rfl) (S0.r 3 rfl)).mono ?_; rintro e w4 ⟨rfl, bb1⟩; have S1 : St w w4 [(w1.heap.size + 1, #[.bool false, .slice A2 n2 c2], 24), (w1.heap.size, #[.bool false, .slice A1 n1 c1], 24), (w.heap.size + 1 + 1, #[.bool false, .slice none 0 0], 24), (w.heap.size + 1, #[.bool false, .slice A' n' c'], 24), (w.heap.size, #[.bool false, .slice A n c], 24)] [(A3, n3, c3, limbs (r + r)), (A2, n2, c2, limbs r), (A1, n1, c1, limbs Q), (A', n', c', limbs D), (A, n, c, limbs N)] := (S0.call bb1); have e1_s0 := St.cl (S1) 0 0 rfl rfl; have e1_s1 := St.cl (S1) 0 1 rfl rfl; have e1_y0 := St.cl (S1) 3 0 rfl rfl; have e1_y1 := St.cl (S1) 3 1 rfl rfl))
      all_goals
        have S := S1
        clear d_s0 d_s1 d_y0 d_y1 e0_s0 e0_s1 e0_y0 e0_y1 e1_s0 e1_s1 e1_y0 e1_y1 SD bb0 bb1 S0 S1
        replace S := Lib.hid S
        clear Q3 hA hC
        replace S := S.out
        have c_s0 := S.cl 0 0 rfl rfl
        have f_s0 := S.f 0 0 rfl
        have c_s1 := S.cl 0 1 rfl rfl
        have f_s1 := S.f 0 1 rfl
        have c_q0 := S.cl 1 0 rfl rfl
        have f_q0 := S.f 1 0 rfl
        have c_q1 := S.cl 1 1 rfl rfl
        have f_q1 := S.f 1 1 rfl
        have c_r0 := S.cl 2 0 rfl rfl
        have f_r0 := S.f 2 0 rfl
        have c_r1 := S.cl 2 1 rfl rfl
        have f_r1 := S.f 2 1 rfl
        have c_y0 := S.cl 3 0 rfl rfl
        have f_y0 := S.f 3 0 rfl
        have c_y1 := S.cl 3 1 rfl rfl
        have f_y1 := S.f 3 1 rfl
        have c_x0 := S.cl 4 0 rfl rfl
        have f_x0 := S.f 4 0 rfl
        have c_x1 := S.cl 4 1 rfl rfl
        have f_x1 := S.f 4 1 rfl
        have hz : w1.heap.size + 1 < w4.heap.size := S.lt 0 rfl
        replace S := Lib.hid S
        go_wp2_with fail
        refine (hO.out _ _ _ _ _ (S.out.r 2 rfl)).mono ?_
        rintro e w5 ⟨rfl, bb⟩
        have T := (S.out.call bb)
        clear bb S c_s0 f_s0 c_s1 f_s1 c_q0 f_q0 c_q1 f_q1 c_r0 f_r0 c_r1 f_r1 c_y0 f_y0 c_y1 f_y1 c_x0 f_x0 c_x1 f_x1 hz
        have S := T
        clear T
        have c_s0 := S.cl 0 0 rfl rfl
        have f_s0 := S.f 0 0 rfl
        have c_s1 := S.cl 0 1 rfl rfl
        have f_s1 := S.f 0 1 rfl
        have c_q0 := S.cl 1 0 rfl rfl
        have f_q0 := S.f 1 0 rfl
        have c_q1 := S.cl 1 1 rfl rfl
        have f_q1 := S.f 1 1 rfl
        have c_r0 := S.cl 2 0 rfl rfl
        have f_r0 := S.f 2 0 rfl
        have c_r1 := S.cl 2 1 rfl rfl
        have f_r1 := S.f 2 1 rfl
        have c_y0 := S.cl 3 0 rfl rfl
        have f_y0 := S.f 3 0 rfl
        have c_y1 := S.cl 3 1 rfl rfl
        have f_y1 := S.f 3 1 rfl
        have c_x0 := S.cl 4 0 rfl rfl
        have f_x0 := S.f 4 0 rfl
        have c_x1 := S.cl 4 1 rfl rfl
        have f_x1 := S.f 4 1 rfl
        have hz : w1.heap.size + 1 < w5.heap.size := S.lt 0 rfl
        replace S := Lib.hid S
        go_wp2_with fail
        clear c_s0 f_s0 c_s1 f_s1 c_q0 f_q0 c_q1 f_q1 c_r0 f_r0 c_r1 f_r1 c_y0 f_y0 c_y1 f_y1 c_x0 f_x0 c_x1 f_x1 hz
        have S : St w _ [(w1.heap.size + 1, #[.bool false, .slice A2 n2 c2], 24), (w1.heap.size, #[.bool false, .slice A1 n1 c1], 24), (w.heap.size + 1 + 1, #[.bool false, .slice none 0 0], 24), (w.heap.size + 1, #[.bool false, .slice A' n' c'], 24), (w.heap.size, #[.bool false, .slice A n c], 24)] [(A3, n3, c3, limbs (r + r)), (A2, n2, c2, limbs r), (A1, n1, c1, limbs Q), (A', n', c', limbs D), (A, n, c, limbs N)] := S.out
        replace S := Lib.hid S
        have d_q0 := St.cl (S.out) 1 0 rfl rfl
        have d_q1 := St.cl (S.out) 1 1 rfl rfl
        have SD := Lib.hid (S.out.drew)
        go_region_held3 (fun w' => World.cell? w' ⟨w1.heap.size, 0, none⟩ = some (.bool false) ∧ World.cell? w' ⟨w1.heap.size, 1, none⟩ = some (.slice A1 n1 c1))
          (first | exact ⟨d_q0, d_q1⟩ | exact ⟨e0_q0, e0_q1⟩ | exact ⟨e1_q0, e1_q1⟩ | exact ⟨g_q0, g_q1⟩)
          (first
            | (go_at_call 78; refine (h1.out _).mono ?_; rintro e w6 ⟨A4, n4, c4, rfl, Q4, bb0⟩; have S0 : St w w6 [(w1.heap.size + 1, #[.bool false, .slice A2 n2 c2], 24), (w1.heap.size, #[.bool false, .slice A1 n1 c1], 24), (w.heap.size + 1 + 1, #[.bool false, .slice none 0 0], 24), (w.heap.size + 1, #[.bool false, .slice A' n' c'], 24), (w.heap.size, #[.bool false, .slice A n c], 24)] [(A4, n4, c4, limbs 1), (A3, n3, c3, limbs (r + r)), (A2, n2, c2, limbs r), (A1, n1, c1, limbs Q), (A', n', c', limbs D), (A, n, c, limbs N)] := ((SD.out.call bb0).read Q4); have e0_q0 := St.cl (S0) 1 0 rfl rfl; have e0_q1 := St.cl (S0) 1 1 rfl rfl)
            | (go_at_call 86; refine (hB.out _ _ _ _ _ _ _ (S0.r 3 rfl) (S0.r 0 rfl)).mono ?_; rintro e w7 ⟨A5, n5, c5, rfl, Q5, bb1⟩; have S1 : St w w7 [(w1.heap.size + 1, #[.bool false, .slice A2 n2 c2], 24), (w1.heap.size, #[.bool false, .slice A1 n1 c1], 24), (w.heap.size + 1 + 1, #[.bool false, .slice none 0 0], 24), (w.heap.size + 1, #[.bool false, .slice A' n' c'], 24), (w.heap.size, #[.bool false, .slice A n c], 24)] [(A5, n5, c5, limbs (Q + 1)), (A4, n4, c4, limbs 1), (A3, n3, c3, limbs (r + r)), (A2, n2, c2, limbs r), (A1, n1, c1, limbs Q), (A', n', c', limbs D), (A, n, c, limbs N)] := ((S0.call bb1).read Q5); have e1_q0 := St.cl (S1) 1 0 rfl rfl; have e1_q1 := St.cl (S1) 1 1 rfl rfl; have e1r_r0 := St.cl (S1) 2 0 rfl rfl; have e1r_r1 := St.cl (S1) 2 1 rfl rfl; have e1rz_r0 := St.f (S1) 2 0 rfl; have e1rz_r1 := St.f (S1) 2 1 rfl; have SE : St w _ [(w1.heap.size + 1, #[.bool false, .slice A2 n2 c2], 24), (w1.heap.size, #[.bool false, .slice A1 n1 c1], 24), (w.heap.size + 1 + 1, #[.bool false, .slice A5 n5 c5], 24), (w.heap.size + 1, #[.bool false, .slice A' n' c'], 24), (w.heap.size, #[.bool false, .slice A n c], 24)] [(A5, n5, c5, limbs (Q + 1)), (A4, n4, c4, limbs 1), (A3, n3, c3, limbs (r + r)), (A2, n2, c2, limbs r), (A1, n1, c1, limbs Q), (A', n', c', limbs D), (A, n, c, limbs N)] := ((S1.set 2 0 (.bool false) rfl (by nofun)).set 2 1 (.slice A5 n5 c5) rfl (by nofun)); have g_q0 := St.cl (SE) 1 0 rfl rfl; have g_q1 := St.cl (SE) 1 1 rfl rfl))
        all_goals
          have S := SE
          clear d_q0 d_q1 e0_q0 e0_q1 e1_q0 e1_q1 e1r_r0 e1r_r1 e1rz_r0 e1rz_r1 g_q0 g_q1 SD bb0 bb1 SE S0 S1
          replace S := Lib.hid S
          have S : St w _ [(w1.heap.size + 1, #[.bool false, .slice A2 n2 c2], 24), (w1.heap.size, #[.bool false, .slice A1 n1 c1], 24), (w.heap.size + 1 + 1, #[.bool false, .slice A5 n5 c5], 24), (w.heap.size + 1, #[.bool false, .slice A' n' c'], 24), (w.heap.size, #[.bool false, .slice A n c], 24)] [(A5, n5, c5, limbs (Q + 1)), (A4, n4, c4, limbs 1), (A3, n3, c3, limbs (r + r)), (A2, n2, c2, limbs r), (A1, n1, c1, limbs Q), (A', n', c', limbs D), (A, n, c, limbs N)] := S.out
          replace S := Lib.hid S
          go_wp2
          refine bodyPost_ret (res_near _ _ (w.heap.size + 1 + 1) 24 rfl (S.out.bk _ (List.mem_of_getElem? (i := 2) rfl)).1) rfl ?_
          exact ⟨_, _, _, rfl, by rw [hX.out]; exact S.out.r 0 rfl, S.out.bel⟩
    · have hX : Hid (X = Q) := Lib.hid (by rw [hnr.out, if_neg (by omega)])
      rw [decide_eq_false ho] at hO
      replace hO := Lib.hid hO
      clear hnr hD ho h1 hB
      replace hC := Lib.hid (hC (0) (by unfold cmpi; rw [if_neg (by omega), if_neg (by omega)]))
      go_enter Tryz.func36, Tryz.ntmps36
      go_wp2_with fail
      refine (hd.out _ (S.out.r 1 rfl) (S.out.r 0 rfl)).mono ?_
      rintro e w1 ⟨A1, n1, c1, A2, n2, c2, rfl, Q1, Q2, bb⟩
      have T := (((S.out.call bb).read Q1).read Q2)
      clear bb S
      have S := T
      clear T
      have c_r0 := S.cl 0 0 rfl rfl
      have f_r0 := S.f 0 0 rfl
      have c_r1 := S.cl 0 1 rfl rfl
      have f_r1 := S.f 0 1 rfl
      have c_y0 := S.cl 1 0 rfl rfl
      have f_y0 := S.f 1 0 rfl
      have c_y1 := S.cl 1 1 rfl rfl
      have f_y1 := S.f 1 1 rfl
      have c_x0 := S.cl 2 0 rfl rfl
      have f_x0 := S.f 2 0 rfl
      have c_x1 := S.cl 2 1 rfl rfl
      have f_x1 := S.f 2 1 rfl
      have hz : w.heap.size + 1 + 1 < w1.heap.size := S.lt 0 rfl
      replace S := Lib.hid S
      clear Q1 Q2 hd
      go_wp2_with fail
      clear c_r0 f_r0 c_r1 f_r1 c_y0 f_y0 c_y1 f_y1 c_x0 f_x0 c_x1 f_x1 hz
      have S : St w _ [(w1.heap.size + 1, #[.bool false, .slice A2 n2 c2], 24), (w1.heap.size, #[.bool false, .slice A1 n1 c1], 24), (w.heap.size + 1 + 1, #[.bool false, .slice none 0 0], 24), (w.heap.size + 1, #[.bool false, .slice A' n' c'], 24), (w.heap.size, #[.bool false, .slice A n c], 24)] [(A2, n2, c2, limbs r), (A1, n1, c1, limbs Q), (A', n', c', limbs D), (A, n, c, limbs N)] := ((S.out.allocAt (w1.heap.size) #[.bool false, .slice A1 n1 c1] 24 (noL2 _ _ _ _) (by simp)).allocAt (w1.heap.size + 1) #[.bool false, .slice A2 n2 c2] 24 (noL2 _ _ _ _) (by simp))
      generalize hW2 : (World.alloc (World.alloc w1 (.cells #[.bool false, .slice A1 n1 c1] 24)) (.cells #[.bool false, .slice A2 n2 c2] 24)) = w2 at S ⊢
      clear hW2
      replace S := Lib.hid S
      have d_s0 := St.cl (S.out) 0 0 rfl rfl
      have d_s1 := St.cl (S.out) 0 1 rfl rfl
      have d_y0 := St.cl (S.out) 3 0 rfl rfl
      have d_y1 := St.cl (S.out) 3 1 rfl rfl
      have SD := Lib.hid (S.out.drew)
      go_region_held3 (fun w' => World.cell? w' ⟨w1.heap.size + 1, 0, none⟩ = some (.bool false) ∧ World.cell? w' ⟨w1.heap.size + 1, 1, none⟩ = some (.slice A2 n2 c2) ∧ World.cell? w' ⟨w.heap.size + 1, 0, none⟩ = some (.bool false) ∧ World.cell? w' ⟨w.heap.size + 1, 1, none⟩ = some (.slice A' n' c'))
        (first | exact ⟨d_s0, d_s1, d_y0, d_y1⟩ | exact ⟨e0_s0, e0_s1, e0_y0, e0_y1⟩ | exact ⟨e1_s0, e1_s1, e1_y0, e1_y1⟩)
        (first
          | (go_at_call 86; refine (hA.out _ _ _ _ (SD.out.r 0 rfl)).mono ?_; rintro e w3 ⟨A3, n3, c3, rfl, Q3, bb0⟩; have S0 : St w w3 [(w1.heap.size + 1, #[.bool false, .slice A2 n2 c2], 24), (w1.heap.size, #[.bool false, .slice A1 n1 c1], 24), (w.heap.size + 1 + 1, #[.bool false, .slice none 0 0], 24), (w.heap.size + 1, #[.bool false, .slice A' n' c'], 24), (w.heap.size, #[.bool false, .slice A n c], 24)] [(A3, n3, c3, limbs (r + r)), (A2, n2, c2, limbs r), (A1, n1, c1, limbs Q), (A', n', c', limbs D), (A, n, c, limbs N)] := ((SD.out.call bb0).read Q3); have e0_s0 := St.cl (S0) 0 0 rfl rfl; have e0_s1 := St.cl (S0) 0 1 rfl rfl; have e0_y0 := St.cl (S0) 3 0 rfl rfl; have e0_y1 := St.cl (S0) 3 1 rfl rfl)
          | (go_at_call 85; refine (hC.out _ _ _ _ (S0.r 0 rfl) (S0.r 3 rfl)).mono ?_; rintro e w4 ⟨rfl, bb1⟩; have S1 : St w w4 [(w1.heap.size + 1, #[.bool false, .slice A2 n2 c2], 24), (w1.heap.size, #[.bool false, .slice A1 n1 c1], 24), (w.heap.size + 1 + 1, #[.bool false, .slice none 0 0], 24), (w.heap.size + 1, #[.bool false, .slice A' n' c'], 24), (w.heap.size, #[.bool false, .slice A n c], 24)] [(A3, n3, c3, limbs (r + r)), (A2, n2, c2, limbs r), (A1, n1, c1, limbs Q), (A', n', c', limbs D), (A, n, c, limbs N)] := (S0.call bb1); have e1_s0 := St.cl (S1) 0 0 rfl rfl; have e1_s1 := St.cl (S1) 0 1 rfl rfl; have e1_y0 := St.cl (S1) 3 0 rfl rfl; have e1_y1 := St.cl (S1) 3 1 rfl rfl))
      all_goals
        have S := S1
        clear d_s0 d_s1 d_y0 d_y1 e0_s0 e0_s1 e0_y0 e0_y1 e1_s0 e1_s1 e1_y0 e1_y1 SD bb0 bb1 S0 S1
        replace S := Lib.hid S
        clear Q3 hA hC
        replace S := S.out
        have c_s0 := S.cl 0 0 rfl rfl
        have f_s0 := S.f 0 0 rfl
        have c_s1 := S.cl 0 1 rfl rfl
        have f_s1 := S.f 0 1 rfl
        have c_q0 := S.cl 1 0 rfl rfl
        have f_q0 := S.f 1 0 rfl
        have c_q1 := S.cl 1 1 rfl rfl
        have f_q1 := S.f 1 1 rfl
        have c_r0 := S.cl 2 0 rfl rfl
        have f_r0 := S.f 2 0 rfl
        have c_r1 := S.cl 2 1 rfl rfl
        have f_r1 := S.f 2 1 rfl
        have c_y0 := S.cl 3 0 rfl rfl
        have f_y0 := S.f 3 0 rfl
        have c_y1 := S.cl 3 1 rfl rfl
        have f_y1 := S.f 3 1 rfl
        have c_x0 := S.cl 4 0 rfl rfl
        have f_x0 := S.f 4 0 rfl
        have c_x1 := S.cl 4 1 rfl rfl
        have f_x1 := S.f 4 1 rfl
        have hz : w1.heap.size + 1 < w4.heap.size := S.lt 0 rfl
        replace S := Lib.hid S
        go_wp2_with fail
        refine (hO.out _ _ _ _ _ (S.out.r 2 rfl)).mono ?_
        rintro e w5 ⟨rfl, bb⟩
        have T := (S.out.call bb)
        clear bb S c_s0 f_s0 c_s1 f_s1 c_q0 f_q0 c_q1 f_q1 c_r0 f_r0 c_r1 f_r1 c_y0 f_y0 c_y1 f_y1 c_x0 f_x0 c_x1 f_x1 hz
        have S := T
        clear T
        have c_s0 := S.cl 0 0 rfl rfl
        have f_s0 := S.f 0 0 rfl
        have c_s1 := S.cl 0 1 rfl rfl
        have f_s1 := S.f 0 1 rfl
        have c_q0 := S.cl 1 0 rfl rfl
        have f_q0 := S.f 1 0 rfl
        have c_q1 := S.cl 1 1 rfl rfl
        have f_q1 := S.f 1 1 rfl
        have c_r0 := S.cl 2 0 rfl rfl
        have f_r0 := S.f 2 0 rfl
        have c_r1 := S.cl 2 1 rfl rfl
        have f_r1 := S.f 2 1 rfl
        have c_y0 := S.cl 3 0 rfl rfl
        have f_y0 := S.f 3 0 rfl
        have c_y1 := S.cl 3 1 rfl rfl
        have f_y1 := S.f 3 1 rfl
        have c_x0 := S.cl 4 0 rfl rfl
        have f_x0 := S.f 4 0 rfl
        have c_x1 := S.cl 4 1 rfl rfl
        have f_x1 := S.f 4 1 rfl
        have hz : w1.heap.size + 1 < w5.heap.size := S.lt 0 rfl
        replace S := Lib.hid S
        have S : St w _ [(w1.heap.size + 1, #[.bool false, .slice A2 n2 c2], 24), (w1.heap.size, #[.bool false, .slice A1 n1 c1], 24), (w.heap.size + 1 + 1, #[.bool false, .slice A1 n1 c1], 24), (w.heap.size + 1, #[.bool false, .slice A' n' c'], 24), (w.heap.size, #[.bool false, .slice A n c], 24)] [(A3, n3, c3, limbs (r + r)), (A2, n2, c2, limbs r), (A1, n1, c1, limbs Q), (A', n', c', limbs D), (A, n, c, limbs N)] := ((S.out.set 2 0 (.bool false) rfl (by nofun)).set 2 1 (.slice A1 n1 c1) rfl (by nofun))
        replace S := Lib.hid S
        go_wp2
        refine bodyPost_ret (res_near _ _ (w.heap.size + 1 + 1) 24 rfl (S.out.bk _ (List.mem_of_getElem? (i := 2) rfl)).1) rfl ?_
        exact ⟨_, _, _, rfl, by rw [hX.out]; exact S.out.r 2 rfl, S.out.bel⟩
  · have hX : Hid (X = Q + 1) := Lib.hid (by rw [hnr.out, if_pos (by omega)])
    clear hnr hO hD
    replace hC := Lib.hid (hC (1) (by unfold cmpi; rw [if_neg (by omega), if_pos (by omega)]))
    go_enter Tryz.func36, Tryz.ntmps36
    go_wp2_with fail
    refine (hd.out _ (S.out.r 1 rfl) (S.out.r 0 rfl)).mono ?_
    rintro e w1 ⟨A1, n1, c1, A2, n2, c2, rfl, Q1, Q2, bb⟩
    have T := (((S.out.call bb).read Q1).read Q2)
    clear bb S
    have S := T
    clear T
    have c_r0 := S.cl 0 0 rfl rfl
    have f_r0 := S.f 0 0 rfl
    have c_r1 := S.cl 0 1 rfl rfl
    have f_r1 := S.f 0 1 rfl
    have c_y0 := S.cl 1 0 rfl rfl
    have f_y0 := S.f 1 0 rfl
    have c_y1 := S.cl 1 1 rfl rfl
    have f_y1 := S.f 1 1 rfl
    have c_x0 := S.cl 2 0 rfl rfl
    have f_x0 := S.f 2 0 rfl
    have c_x1 := S.cl 2 1 rfl rfl
    have f_x1 := S.f 2 1 rfl
    have hz : w.heap.size + 1 + 1 < w1.heap.size := S.lt 0 rfl
    replace S := Lib.hid S
    clear Q1 Q2 hd
    go_wp2_with fail
    clear c_r0 f_r0 c_r1 f_r1 c_y0 f_y0 c_y1 f_y1 c_x0 f_x0 c_x1 f_x1 hz
    have S : St w _ [(w1.heap.size + 1, #[.bool false, .slice A2 n2 c2], 24), (w1.heap.size, #[.bool false, .slice A1 n1 c1], 24), (w.heap.size + 1 + 1, #[.bool false, .slice none 0 0], 24), (w.heap.size + 1, #[.bool false, .slice A' n' c'], 24), (w.heap.size, #[.bool false, .slice A n c], 24)] [(A2, n2, c2, limbs r), (A1, n1, c1, limbs Q), (A', n', c', limbs D), (A, n, c, limbs N)] := ((S.out.allocAt (w1.heap.size) #[.bool false, .slice A1 n1 c1] 24 (noL2 _ _ _ _) (by simp)).allocAt (w1.heap.size + 1) #[.bool false, .slice A2 n2 c2] 24 (noL2 _ _ _ _) (by simp))
    generalize hW2 : (World.alloc (World.alloc w1 (.cells #[.bool false, .slice A1 n1 c1] 24)) (.cells #[.bool false, .slice A2 n2 c2] 24)) = w2 at S ⊢
    clear hW2
    replace S := Lib.hid S
    have d_s0 := St.cl (S.out) 0 0 rfl rfl
    have d_s1 := St.cl (S.out) 0 1 rfl rfl
    have d_y0 := St.cl (S.out) 3 0 rfl rfl
    have d_y1 := St.cl (S.out) 3 1 rfl rfl
    have SD := Lib.hid (S.out.drew)
    go_region_held3 (fun w' => World.cell? w' ⟨w1.heap.size + 1, 0, none⟩ = some (.bool false) ∧ World.cell? w' ⟨w1.heap.size + 1, 1, none⟩ = some (.slice A2 n2 c2) ∧ World.cell? w' ⟨w.heap.size + 1, 0, none⟩ = some (.bool false) ∧ World.cell? w' ⟨w.heap.size + 1, 1, none⟩ = some (.slice A' n' c'))
      (first | exact ⟨d_s0, d_s1, d_y0, d_y1⟩ | exact ⟨e0_s0, e0_s1, e0_y0, e0_y1⟩ | exact ⟨e1_s0, e1_s1, e1_y0, e1_y1⟩)
      (first
        | (go_at_call 86; refine (hA.out _ _ _ _ (SD.out.r 0 rfl)).mono ?_; rintro e w3 ⟨A3, n3, c3, rfl, Q3, bb0⟩; have S0 : St w w3 [(w1.heap.size + 1, #[.bool false, .slice A2 n2 c2], 24), (w1.heap.size, #[.bool false, .slice A1 n1 c1], 24), (w.heap.size + 1 + 1, #[.bool false, .slice none 0 0], 24), (w.heap.size + 1, #[.bool false, .slice A' n' c'], 24), (w.heap.size, #[.bool false, .slice A n c], 24)] [(A3, n3, c3, limbs (r + r)), (A2, n2, c2, limbs r), (A1, n1, c1, limbs Q), (A', n', c', limbs D), (A, n, c, limbs N)] := ((SD.out.call bb0).read Q3); have e0_s0 := St.cl (S0) 0 0 rfl rfl; have e0_s1 := St.cl (S0) 0 1 rfl rfl; have e0_y0 := St.cl (S0) 3 0 rfl rfl; have e0_y1 := St.cl (S0) 3 1 rfl rfl)
        | (go_at_call 85; refine (hC.out _ _ _ _ (S0.r 0 rfl) (S0.r 3 rfl)).mono ?_; rintro e w4 ⟨rfl, bb1⟩; have S1 : St w w4 [(w1.heap.size + 1, #[.bool false, .slice A2 n2 c2], 24), (w1.heap.size, #[.bool false, .slice A1 n1 c1], 24), (w.heap.size + 1 + 1, #[.bool false, .slice none 0 0], 24), (w.heap.size + 1, #[.bool false, .slice A' n' c'], 24), (w.heap.size, #[.bool false, .slice A n c], 24)] [(A3, n3, c3, limbs (r + r)), (A2, n2, c2, limbs r), (A1, n1, c1, limbs Q), (A', n', c', limbs D), (A, n, c, limbs N)] := (S0.call bb1); have e1_s0 := St.cl (S1) 0 0 rfl rfl; have e1_s1 := St.cl (S1) 0 1 rfl rfl; have e1_y0 := St.cl (S1) 3 0 rfl rfl; have e1_y1 := St.cl (S1) 3 1 rfl rfl))
    all_goals
      have S := S1
      clear d_s0 d_s1 d_y0 d_y1 e0_s0 e0_s1 e0_y0 e0_y1 e1_s0 e1_s1 e1_y0 e1_y1 SD bb0 bb1 S0 S1
      replace S := Lib.hid S
      clear Q3 hA hC
      replace S := S.out
      have c_s0 := S.cl 0 0 rfl rfl
      have f_s0 := S.f 0 0 rfl
      have c_s1 := S.cl 0 1 rfl rfl
      have f_s1 := S.f 0 1 rfl
      have c_q0 := S.cl 1 0 rfl rfl
      have f_q0 := S.f 1 0 rfl
      have c_q1 := S.cl 1 1 rfl rfl
      have f_q1 := S.f 1 1 rfl
      have c_r0 := S.cl 2 0 rfl rfl
      have f_r0 := S.f 2 0 rfl
      have c_r1 := S.cl 2 1 rfl rfl
      have f_r1 := S.f 2 1 rfl
      have c_y0 := S.cl 3 0 rfl rfl
      have f_y0 := S.f 3 0 rfl
      have c_y1 := S.cl 3 1 rfl rfl
      have f_y1 := S.f 3 1 rfl
      have c_x0 := S.cl 4 0 rfl rfl
      have f_x0 := S.f 4 0 rfl
      have c_x1 := S.cl 4 1 rfl rfl
      have f_x1 := S.f 4 1 rfl
      have hz : w1.heap.size + 1 < w4.heap.size := S.lt 0 rfl
      replace S := Lib.hid S
      go_wp2_with fail
      clear c_s0 f_s0 c_s1 f_s1 c_q0 f_q0 c_q1 f_q1 c_r0 f_r0 c_r1 f_r1 c_y0 f_y0 c_y1 f_y1 c_x0 f_x0 c_x1 f_x1 hz
      have S : St w _ [(w1.heap.size + 1, #[.bool false, .slice A2 n2 c2], 24), (w1.heap.size, #[.bool false, .slice A1 n1 c1], 24), (w.heap.size + 1 + 1, #[.bool false, .slice none 0 0], 24), (w.heap.size + 1, #[.bool false, .slice A' n' c'], 24), (w.heap.size, #[.bool false, .slice A n c], 24)] [(A3, n3, c3, limbs (r + r)), (A2, n2, c2, limbs r), (A1, n1, c1, limbs Q), (A', n', c', limbs D), (A, n, c, limbs N)] := S.out
      replace S := Lib.hid S
      have d_q0 := St.cl (S.out) 1 0 rfl rfl
      have d_q1 := St.cl (S.out) 1 1 rfl rfl
      have SD := Lib.hid (S.out.drew)
      go_region_held3 (fun w' => World.cell? w' ⟨w1.heap.size, 0, none⟩ = some (.bool false) ∧ World.cell? w' ⟨w1.heap.size, 1, none⟩ = some (.slice A1 n1 c1))
        (first | exact ⟨d_q0, d_q1⟩ | exact ⟨e0_q0, e0_q1⟩ | exact ⟨e1_q0, e1_q1⟩ | exact ⟨g_q0, g_q1⟩)
        (first
          | (go_at_call 78; refine (h1.out _).mono ?_; rintro e w5 ⟨A4, n4, c4, rfl, Q4, bb0⟩; have S0 : St w w5 [(w1.heap.size + 1, #[.bool false, .slice A2 n2 c2], 24), (w1.heap.size, #[.bool false, .slice A1 n1 c1], 24), (w.heap.size + 1 + 1, #[.bool false, .slice none 0 0], 24), (w.heap.size + 1, #[.bool false, .slice A' n' c'], 24), (w.heap.size, #[.bool false, .slice A n c], 24)] [(A4, n4, c4, limbs 1), (A3, n3, c3, limbs (r + r)), (A2, n2, c2, limbs r), (A1, n1, c1, limbs Q), (A', n', c', limbs D), (A, n, c, limbs N)] := ((SD.out.call bb0).read Q4); have e0_q0 := St.cl (S0) 1 0 rfl rfl; have e0_q1 := St.cl (S0) 1 1 rfl rfl)
          | (go_at_call 86; refine (hB.out _ _ _ _ _ _ _ (S0.r 3 rfl) (S0.r 0 rfl)).mono ?_; rintro e w6 ⟨A5, n5, c5, rfl, Q5, bb1⟩; have S1 : St w w6 [(w1.heap.size + 1, #[.bool false, .slice A2 n2 c2], 24), (w1.heap.size, #[.bool false, .slice A1 n1 c1], 24), (w.heap.size + 1 + 1, #[.bool false, .slice none 0 0], 24), (w.heap.size + 1, #[.bool false, .slice A' n' c'], 24), (w.heap.size, #[.bool false, .slice A n c], 24)] [(A5, n5, c5, limbs (Q + 1)), (A4, n4, c4, limbs 1), (A3, n3, c3, limbs (r + r)), (A2, n2, c2, limbs r), (A1, n1, c1, limbs Q), (A', n', c', limbs D), (A, n, c, limbs N)] := ((S0.call bb1).read Q5); have e1_q0 := St.cl (S1) 1 0 rfl rfl; have e1_q1 := St.cl (S1) 1 1 rfl rfl; have e1r_r0 := St.cl (S1) 2 0 rfl rfl; have e1r_r1 := St.cl (S1) 2 1 rfl rfl; have e1rz_r0 := St.f (S1) 2 0 rfl; have e1rz_r1 := St.f (S1) 2 1 rfl; have SE : St w _ [(w1.heap.size + 1, #[.bool false, .slice A2 n2 c2], 24), (w1.heap.size, #[.bool false, .slice A1 n1 c1], 24), (w.heap.size + 1 + 1, #[.bool false, .slice A5 n5 c5], 24), (w.heap.size + 1, #[.bool false, .slice A' n' c'], 24), (w.heap.size, #[.bool false, .slice A n c], 24)] [(A5, n5, c5, limbs (Q + 1)), (A4, n4, c4, limbs 1), (A3, n3, c3, limbs (r + r)), (A2, n2, c2, limbs r), (A1, n1, c1, limbs Q), (A', n', c', limbs D), (A, n, c, limbs N)] := ((S1.set 2 0 (.bool false) rfl (by nofun)).set 2 1 (.slice A5 n5 c5) rfl (by nofun)); have g_q0 := St.cl (SE) 1 0 rfl rfl; have g_q1 := St.cl (SE) 1 1 rfl rfl))
      all_goals
        have S := SE
        clear d_q0 d_q1 e0_q0 e0_q1 e1_q0 e1_q1 e1r_r0 e1r_r1 e1rz_r0 e1rz_r1 g_q0 g_q1 SD bb0 bb1 SE S0 S1
        replace S := Lib.hid S
        have S : St w _ [(w1.heap.size + 1, #[.bool false, .slice A2 n2 c2], 24), (w1.heap.size, #[.bool false, .slice A1 n1 c1], 24), (w.heap.size + 1 + 1, #[.bool false, .slice A5 n5 c5], 24), (w.heap.size + 1, #[.bool false, .slice A' n' c'], 24), (w.heap.size, #[.bool false, .slice A n c], 24)] [(A5, n5, c5, limbs (Q + 1)), (A4, n4, c4, limbs 1), (A3, n3, c3, limbs (r + r)), (A2, n2, c2, limbs r), (A1, n1, c1, limbs Q), (A', n', c', limbs D), (A, n, c, limbs N)] := S.out
        replace S := Lib.hid S
        go_wp2
        refine bodyPost_ret (res_near _ _ (w.heap.size + 1 + 1) 24 rfl (S.out.bk _ (List.mem_of_getElem? (i := 2) rfl)).1) rfl ?_
        exact ⟨_, _, _, rfl, by rw [hX.out]; exact S.out.r 0 rfl, S.out.bel⟩

/-- What Format writes. -/
def qtxt (q : Rat) : ByteArray := if q.den = 1 then itxt q.num else itxt q.num ++ ⟨#[47]⟩ ++ itxt (q.den : Int)
theorem formatZ_any (z : Int) (A : Option Addr) (n c : Nat) (w : World) (h : Rd w A n c (limbs z.natAbs)) (hn : n ≤ 100) (htab : Tab w) :
    Calls Tryz.prog 27 #[.agg #[.bool (ng z), .slice A n c]] w fun e w' => e = .returned (.string (itxt z)) ∧ Below w.heap.size w w' := by
  have := formatI_any (ng z) A n c _ w h hn htab
  rwa [iv_z] at this
theorem itxt_size {z : Int} {p : Nat} (h : (limbs z.natAbs).length ≤ p) (hp : p ≤ 100) : (itxt z).size ≤ 2000 := by
  have := small_len (limbs_len_le.1 h) hp
  have h2 := txt_size z.natAbs
  unfold itxt; split
  · rw [ByteArray.size_append]; have : (⟨#[45]⟩ : ByteArray).size = 1 := rfl; omega
  · omega
set_option maxHeartbeats 8000000 in
theorem formatR_any (b : Bool) (A : Option Addr) (n c : Nat) (xs : List Nat) (D : Option Addr) (m d : Nat) (ds : List Nat) (w : World) (R1 : Rd w A n c xs) (R2 : Rd w D m d ds) (hn : n ≤ 100) (hm : m ≤ 100) (htab : Tab w) :
    Calls Tryz.prog 8 #[.agg #[.bool b, .slice A n c, .slice D m d]] w fun e w' => e = .returned (.string (qtxt (rv b xs ds))) ∧ Below w.heap.size w w' := by
  have hs := Rs.of (b := b) R1.sm R2.sm (Nat.le_trans (Nat.le_of_eq R1.len) hn) (Nat.le_trans (Nat.le_of_eq R2.len) hm) (by decide)
  have hK := fun W h h' => knownR_any b A n c xs D m d ds W h h' (by omega) (by omega)
  have S : St w _ [(w.heap.size, #[.bool b, .slice A n c, .slice D m d], 26)] [(D, m, d, ds), (A, n, c, xs)] := ((((St.new w).read R1).read R2).allocAt (w.heap.size) #[.bool b, .slice A n c, .slice D m d] 26 (noL3 _ _ _ _ _ _ _) (by simp))
  replace S := Lib.hid S
  generalize rv b xs ds = q at hK hs ⊢
  have hsn : (limbs q.num.natAbs).length ≤ 100 := limbs_len_le.2 hs.n
  have hsd : (limbs q.den).length ≤ 100 := limbs_len_le.2 hs.d
  have z1 := itxt_size hsn (Nat.le_refl _)
  have z2 : (itxt (q.den : Int)).size ≤ 2000 := itxt_size (by rw [Int.natAbs_natCast]; exact hsd) (Nat.le_refl _)
  have z3 : ¬ 9223372036854775807 < (itxt q.num).size + 1 := by omega
  have z4 : ¬ 9223372036854775807 < (itxt q.num).size + 1 + (itxt (q.den : Int)).size := by omega
  replace z1 := Lib.hid z1
  replace z2 := Lib.hid z2
  have hF : Hid (∀ W A n c, Tab W → Rd W A n c (limbs q.num.natAbs) → Calls Tryz.prog 27 #[.agg #[.bool (ng q.num), .slice A n c]] W fun e w' => e = .returned (.string (itxt q.num)) ∧ Below W.heap.size W w') := Lib.hid fun W A n c t h => formatZ_any q.num A n c W h (by rw [← h.len]; exact hsn) t
  have hG : Hid (∀ W A n c, Tab W → Rd W A n c (limbs ((q.den : Int)).natAbs) → Calls Tryz.prog 27 #[.agg #[.bool (ng (q.den : Int)), .slice A n c]] W fun e w' => e = .returned (.string (itxt (q.den : Int))) ∧ Below W.heap.size W w') := Lib.hid fun W A n c t h => formatZ_any (q.den : Int) A n c W h (by rw [← h.len, Int.natAbs_natCast]; exact hsd) t
  have hDn := Lib.hid (fun W A n c D m d h => denominator_any q A n c D m d W h)
  replace htab := Lib.hid htab
  replace hK := Lib.hid hK
  clear R1 R2 hn hm hsn hsd hs
  go_enter Tryz.func8, Tryz.ntmps8
  go_wp2_with fail
  refine (hK.out _ (S.out.r 1 rfl) (S.out.r 0 rfl)).mono ?_
  rintro e w1 ⟨A1, n1, c1, D1, m1, d1, rfl, Q, bb⟩
  have T := (((S.out.call bb).read Q.n).read Q.d)
  clear bb S
  have S := T
  clear T
  have c_x0 := S.cl 0 0 rfl rfl
  have f_x0 := S.f 0 0 rfl
  have c_x1 := S.cl 0 1 rfl rfl
  have f_x1 := S.f 0 1 rfl
  have c_x2 := S.cl 0 2 rfl rfl
  have f_x2 := S.f 0 2 rfl
  have hz : w.heap.size < w1.heap.size := S.lt 0 rfl
  replace S := Lib.hid S
  obtain ⟨e0, e1⟩ := dn_len0 Q.d.len
  clear Q hK
  by_cases hm : m1 = 0
  · have hq : Hid (qtxt q = itxt q.num) := Lib.hid (by unfold qtxt; rw [if_pos (by have := e0 hm; omega)])
    have h2 : ((m1 : Int) == 0) = true := by rw [beq_iff_eq]; omega
    clear e0 e1 hm hDn hG
    have S : St w _ [(w.heap.size, #[.bool (ng q.num), .slice A1 n1 c1, .slice D1 m1 d1], 26)] [(D1, m1, d1, dn q), (A1, n1, c1, limbs q.num.natAbs), (D, m, d, ds), (A, n, c, xs)] := (((S.out.set 0 0 (.bool (ng q.num)) rfl (by nofun)).set 0 1 (.slice A1 n1 c1) rfl (by nofun)).set 0 2 (.slice D1 m1 d1) rfl (by nofun))
    have a_x0 := S.cl 0 0 rfl rfl
    have b_x0 := S.f 0 0 rfl
    have a_x1 := S.cl 0 1 rfl rfl
    have b_x1 := S.f 0 1 rfl
    have a_x2 := S.cl 0 2 rfl rfl
    have b_x2 := S.f 0 2 rfl
    replace S := Lib.hid S
    go_wp2_with fail
    refine (hF.out _ _ _ _ (tab_below htab.out S.out.bel) (S.out.r 1 rfl)).mono ?_
    rintro e w2 ⟨rfl, bb⟩
    have T := (S.out.call bb)
    clear bb S c_x0 f_x0 c_x1 f_x1 c_x2 f_x2 hz a_x0 b_x0 a_x1 b_x1 a_x2 b_x2
    have S := T
    clear T
    have c_x0 := S.cl 0 0 rfl rfl
    have f_x0 := S.f 0 0 rfl
    have c_x1 := S.cl 0 1 rfl rfl
    have f_x1 := S.f 0 1 rfl
    have c_x2 := S.cl 0 2 rfl rfl
    have f_x2 := S.f 0 2 rfl
    have hz : w.heap.size < w2.heap.size := S.lt 0 rfl
    replace S := Lib.hid S
    have S : St w _ [(w.heap.size, #[.bool (ng q.num), .slice A1 n1 c1, .slice D1 m1 d1], 26)] [(D1, m1, d1, dn q), (A1, n1, c1, limbs q.num.natAbs), (D, m, d, ds), (A, n, c, xs)] := S.out
    replace S := Lib.hid S
    go_wp2
    go_ret
    exact ⟨congrArg (fun s => Ending.returned (.string s)) hq.out.symm, S.out.bel⟩
  · have hq : Hid (qtxt q = itxt q.num ++ ⟨#[47]⟩ ++ itxt (q.den : Int)) := Lib.hid (by unfold qtxt; rw [if_neg (fun h => by have h2 := dn_nil.2 h; rw [e1 hm, h, limbs_is1] at h2; cases h2)])
    have h2 : ((m1 : Int) == 0) = false := by rw [beq_eq_false_iff_ne]; omega
    clear e0 e1 hm
    have S : St w _ [(w.heap.size, #[.bool (ng q.num), .slice A1 n1 c1, .slice D1 m1 d1], 26)] [(D1, m1, d1, dn q), (A1, n1, c1, limbs q.num.natAbs), (D, m, d, ds), (A, n, c, xs)] := (((S.out.set 0 0 (.bool (ng q.num)) rfl (by nofun)).set 0 1 (.slice A1 n1 c1) rfl (by nofun)).set 0 2 (.slice D1 m1 d1) rfl (by nofun))
    have a_x0 := S.cl 0 0 rfl rfl
    have b_x0 := S.f 0 0 rfl
    have a_x1 := S.cl 0 1 rfl rfl
    have b_x1 := S.f 0 1 rfl
    have a_x2 := S.cl 0 2 rfl rfl
    have b_x2 := S.f 0 2 rfl
    replace S := Lib.hid S
    go_wp2_with fail
    clear c_x0 f_x0 c_x1 f_x1 c_x2 f_x2 hz a_x0 b_x0 a_x1 b_x1 a_x2 b_x2
    have S : St w _ [(w.heap.size, #[.bool (ng q.num), .slice A1 n1 c1, .slice D1 m1 d1], 26)] [(D1, m1, d1, dn q), (A1, n1, c1, limbs q.num.natAbs), (D, m, d, ds), (A, n, c, xs)] := S.out
    generalize hW2 : (World.setCell (World.setCell (World.setCell w1 ⟨w.heap.size, 0, none⟩ (.bool (ng q.num))) ⟨w.heap.size, 1, none⟩ (.slice A1 n1 c1)) ⟨w.heap.size, 2, none⟩ (.slice D1 m1 d1)) = w2 at S ⊢
    clear hW2
    replace S := Lib.hid S
    have d_x0 := St.cl (S.out) 0 0 rfl rfl
    have d_x1 := St.cl (S.out) 0 1 rfl rfl
    have d_x2 := St.cl (S.out) 0 2 rfl rfl
    have SD := Lib.hid (S.out.drew)
    go_region_held3 (fun w' => World.cell? w' ⟨w.heap.size, 0, none⟩ = some (.bool (ng q.num)) ∧ World.cell? w' ⟨w.heap.size, 1, none⟩ = some (.slice A1 n1 c1) ∧ World.cell? w' ⟨w.heap.size, 2, none⟩ = some (.slice D1 m1 d1))
      (first | exact ⟨d_x0, d_x1, d_x2⟩ | exact ⟨e0_x0, e0_x1, e0_x2⟩ | exact ⟨e1_x0, e1_x1, e1_x2⟩ | exact ⟨e2_x0, e2_x1, e2_x2⟩)
      (first
        | (go_at_call_of 27 (Value.agg #[.bool (ng q.num), .slice A1 n1 c1]); refine (hF.out _ _ _ _ (tab_below htab.out (SD.out).bel) (SD.out.r 1 rfl)).mono ?_; rintro e w3 ⟨rfl, bb0⟩; have S0 : St w w3 [(w.heap.size, #[.bool (ng q.num), .slice A1 n1 c1, .slice D1 m1 d1], 26)] [(D1, m1, d1, dn q), (A1, n1, c1, limbs q.num.natAbs), (D, m, d, ds), (A, n, c, xs)] := (SD.out.call bb0); have e0_x0 := St.cl (S0) 0 0 rfl rfl; have e0_x1 := St.cl (S0) 0 1 rfl rfl; have e0_x2 := St.cl (S0) 0 2 rfl rfl)
        | (go_at_call 28; refine (hDn.out _ _ _ _ _ _ _ ⟨S0.r 1 rfl, S0.r 0 rfl⟩).mono ?_; rintro e w4 ⟨A3, n3, c3, rfl, Q3, bb1⟩; have S1 : St w w4 [(w.heap.size, #[.bool (ng q.num), .slice A1 n1 c1, .slice D1 m1 d1], 26)] [(A3, n3, c3, limbs ((q.den : Int)).natAbs), (D1, m1, d1, dn q), (A1, n1, c1, limbs q.num.natAbs), (D, m, d, ds), (A, n, c, xs)] := ((S0.call bb1).read Q3); have e1_x0 := St.cl (S1) 0 0 rfl rfl; have e1_x1 := St.cl (S1) 0 1 rfl rfl; have e1_x2 := St.cl (S1) 0 2 rfl rfl)
        | (go_at_call 27; refine (hG.out _ _ _ _ (tab_below htab.out (S1).bel) (S1.r 0 rfl)).mono ?_; rintro e w5 ⟨rfl, bb2⟩; have S2 : St w w5 [(w.heap.size, #[.bool (ng q.num), .slice A1 n1 c1, .slice D1 m1 d1], 26)] [(A3, n3, c3, limbs ((q.den : Int)).natAbs), (D1, m1, d1, dn q), (A1, n1, c1, limbs q.num.natAbs), (D, m, d, ds), (A, n, c, xs)] := (S1.call bb2); have e2_x0 := St.cl (S2) 0 0 rfl rfl; have e2_x1 := St.cl (S2) 0 1 rfl rfl; have e2_x2 := St.cl (S2) 0 2 rfl rfl))
    all_goals
      have S := S2
      clear d_x0 d_x1 d_x2 e0_x0 e0_x1 e0_x2 e1_x0 e1_x1 e1_x2 e2_x0 e2_x1 e2_x2 SD bb0 bb1 bb2 S0 S1 S2
      replace S := Lib.hid S
      clear Q3
      have S : St w _ [(w.heap.size, #[.bool (ng q.num), .slice A1 n1 c1, .slice D1 m1 d1], 26)] [(A3, n3, c3, limbs ((q.den : Int)).natAbs), (D1, m1, d1, dn q), (A1, n1, c1, limbs q.num.natAbs), (D, m, d, ds), (A, n, c, xs)] := S.out
      replace S := Lib.hid S
      go_wp2
      go_ret
      exact ⟨congrArg (fun s => Ending.returned (.string s)) hq.out.symm, S.out.bel⟩
end Go.Proofs.YthlnhmdpimoojaaGreatDoor
