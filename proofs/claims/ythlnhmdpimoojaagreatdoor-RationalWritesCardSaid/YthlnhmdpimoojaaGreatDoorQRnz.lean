/- withPoint and Decimal of rational. Decimal of rational. awake of the laws of rational. -/
import Derived.Test.YthlnhmdpimoojaaGreatDoorQRjz
import Derived.Test.YthlnhmdpimoojaaGreatDoorQRlz
namespace Go.Proofs.YthlnhmdpimoojaaGreatDoor
open Go.RowKit RQ

/-- Zeros ahead, so that p digits and one more are there. -/
def pad0 (l : List UInt8) (p : Nat) : List UInt8 := List.replicate (p + 1 - l.length) 48 ++ l
/-- The point p digits from the end. -/
def wp (l : List UInt8) (p : Nat) : List UInt8 := if p = 0 then l else (pad0 l p).take ((pad0 l p).length - p) ++ 46 :: (pad0 l p).drop ((pad0 l p).length - p)
theorem pad0_len (l : List UInt8) (p : Nat) : p + 1 ≤ (pad0 l p).length ∧ (pad0 l p).length ≤ p + 1 + l.length := by
  unfold pad0; rw [List.length_append, List.length_replicate]; omega
theorem bs_app (a b : List UInt8) : bs (a ++ b) = bs a ++ bs b := by apply bs_inj; simp [bs]
theorem ex_take (l : List UInt8) (k : Nat) (h : k ≤ l.length) : (bs l).extract 0 k = bs (l.take k) := by
  have := extract_bef (l.take k) (l.drop k)
  rwa [List.take_append_drop, List.length_take, Nat.min_eq_left h] at this
theorem ex_drop (l : List UInt8) (k : Nat) (h : k ≤ l.length) : (bs l).extract k (bs l).size = bs (l.drop k) := by
  have := extract_aft (l.take k) (l.drop k)
  rwa [List.take_append_drop, List.length_take, Nat.min_eq_left h] at this
/-- strings.Repeat of one zero, as far as it is known. -/
def RepOk (m : Nat) : Prop := ∀ w, Calls Tryz.prog 88 #[.string ⟨#[48]⟩, .int .i64 (m : Int)] w fun e w' => e = .returned (.string (bs (List.replicate m 48))) ∧ Below w.heap.size w w'
set_option maxRecDepth 100000 in
set_option maxHeartbeats 1000000 in
theorem repeat_one : RepOk 1 := by
  intro w
  have B := Lib.hid (Below.refl w.heap.size w)
  go_enter Tryz.func88, Tryz.ntmps88
  go_wp2
  go_ret
  exact ⟨rfl, B.out⟩

set_option maxHeartbeats 4000000 in
theorem withPoint_tail (S : ByteArray) (p i : Nat) (hp : 0 < p) (hi : i + p = S.size) (hS : S.size ≤ 100000) (l : List UInt8) (hl : S = bs l) : S.extract 0 i ++ ⟨#[46]⟩ ++ S.extract i S.size = bs (l.take i ++ 46 :: l.drop i) := by
  subst hl
  rw [bs_size] at hi
  rw [ex_take l i (by omega), ex_drop l i (by omega), show (⟨#[46]⟩ : ByteArray) = bs [46] from rfl, ← bs_app, ← bs_app, List.append_assoc]; rfl
set_option maxHeartbeats 4000000 in
theorem withPoint_any (l : List UInt8) (p : Nat) (w : World) (hl : l.length ≤ 5000) (hl0 : 1 ≤ l.length) (hp : p ≤ 5000) (hR : p + 1 - l.length = 0 ∨ RepOk (p + 1 - l.length)) :
    Calls Tryz.prog 37 #[.string (bs l), .int .i64 (p : Int)] w fun e w' => e = .returned (.string (bs (wp l p))) ∧ Below w.heap.size w w' := by
  have B := Lib.hid (Below.refl w.heap.size w)
  by_cases h0 : p = 0
  · subst h0
    have e : wp l 0 = l := by unfold wp; rw [if_pos rfl]
    rw [e]
    generalize bs l = S
    clear hR hl hl0 hp
    go_enter Tryz.func37, Tryz.ntmps37
    go_wp2
    go_ret
    exact ⟨rfl, B.out⟩
  obtain ⟨q1, q2⟩ := pad0_len l p
  have e : wp l p = (pad0 l p).take ((pad0 l p).length - p) ++ 46 :: (pad0 l p).drop ((pad0 l p).length - p) := by unfold wp; rw [if_neg h0]
  obtain ⟨i, hi⟩ : ∃ i, (pad0 l p).length - p = i := ⟨_, rfl⟩
  rw [hi] at e
  have hp0 : ((p : Int) == 0) = false := by rw [beq_eq_false_iff_ne]; omega
  have hpad := congrArg bs (show pad0 l p = List.replicate (p + 1 - l.length) 48 ++ l from rfl)
  rw [bs_app] at hpad
  have hT := withPoint_tail (bs (pad0 l p)) p i (by omega) (by rw [bs_size]; omega) (by rw [bs_size]; omega) _ rfl
  rw [← e] at hT
  have hsz : (bs (pad0 l p)).size = i + p := by rw [bs_size]; omega
  have hls : (bs l).size = l.length := rfl
  have hi1 : 1 ≤ i := by omega
  have hi2 : i ≤ 5001 := by omega
  generalize bs (wp l p) = X at hT ⊢
  rcases Nat.lt_or_ge l.length (p + 1) with hlt | hge
  · have hR2 : RepOk (p + 1 - l.length) := by rcases hR with h | h; omega; exact h
    obtain ⟨m, hm⟩ : ∃ m, p + 1 - l.length = m := ⟨_, rfl⟩
    rw [hm] at hR2 hpad
    have hrl : (bs (List.replicate m 48)).size = m := by rw [bs_size, List.length_replicate]
    unfold RepOk at hR2
    generalize bs (List.replicate m 48) = Z at hR2 hpad hrl
    have hc : (p : Int) + 1 - (l.length : Int) = (m : Int) := by omega
    rw [hpad] at hT hsz
    generalize bs l = S at *
    have n1 : (1 : Int) ≤ (m : Int) := by omega
    have n2 : ¬ 9223372036854775807 < Z.size + S.size := by omega
    have n3 : (Z.size : Int) + (S.size : Int) - (p : Int) = (i : Int) := by rw [ByteArray.size_append] at hsz; omega
    have n4 : (p : Int) + 1 - (S.size : Int) = (m : Int) := by omega
    have n5 : (0 : Int) ≤ (p : Int) := by omega
    have n6 : (p : Int) ≤ 5000 := by omega
    have n7 : (S.size : Int) ≤ 5000 := by omega
    have n8 : (0 : Int) ≤ (i : Int) := by omega
    have n9 : (i : Int) ≤ (Z.size : Int) + (S.size : Int) := by rw [ByteArray.size_append] at hsz; omega
    have n10 : (Z.size : Int) ≤ 5001 := by omega
    have n11 : (i : Int) ≤ ((Z ++ S).size : Int) := by omega
    have n12 : ¬ 9223372036854775807 < ((Z ++ S).extract 0 i).size + 1 := by rw [ByteArray.size_extract]; omega
    have n13 : ¬ 9223372036854775807 < ((Z ++ S).extract 0 i).size + 1 + ((Z ++ S).extract i (Z ++ S).size).size := by rw [ByteArray.size_extract, ByteArray.size_extract]; omega
    replace hT := Lib.hid hT
    replace hR2 := Lib.hid hR2
    clear hR e q1 q2 hi hpad hsz hls hrl hc hm hlt hl hl0 hp hi1 hi2 h0
    go_enter Tryz.func37, Tryz.ntmps37
    go_wp2_with fail
    refine (hR2.out _).mono ?_
    rintro e w1 ⟨rfl, bb⟩
    replace bb := Lib.hid bb
    go_wp2_with fail
    go_quiet (fail)
    go_wp2
    go_ret
    exact ⟨congrArg (fun s => Ending.returned (.string s)) (by rw [← ByteArray.size_append]; exact hT.out), below_drewN bb.out _⟩
  · have hz : p + 1 - l.length = 0 := by omega
    rw [hz] at hpad
    have hpad2 : bs (pad0 l p) = bs l := by unfold pad0; rw [hz]; rfl
    rw [hpad2] at hT hsz
    generalize bs l = S at *
    have n1 : (p : Int) + 1 ≤ (S.size : Int) := by omega
    have n3 : (S.size : Int) - (p : Int) = (i : Int) := by omega
    have n5 : (0 : Int) ≤ (p : Int) := by omega
    have n6 : (p : Int) ≤ 5000 := by omega
    have n7 : (S.size : Int) ≤ 5000 := by omega
    have n8 : (0 : Int) ≤ (i : Int) := by omega
    have n9 : (i : Int) ≤ (S.size : Int) := by omega
    have n12 : ¬ 9223372036854775807 < (S.extract 0 i).size + 1 := by rw [ByteArray.size_extract]; omega
    have n13 : ¬ 9223372036854775807 < (S.extract 0 i).size + 1 + (S.extract i S.size).size := by rw [ByteArray.size_extract, ByteArray.size_extract]; omega
    replace hT := Lib.hid hT
    clear hR e q1 q2 hi hpad hsz hls hpad2 hz hge hl hl0 hp hi1 hi2 h0
    go_enter Tryz.func37, Tryz.ntmps37
    go_wp2_with fail
    go_quiet (fail)
    go_wp2
    go_ret
    exact ⟨congrArg (fun s => Ending.returned (.string s)) hT.out, below_drewN B.out _⟩
end Go.Proofs.YthlnhmdpimoojaaGreatDoor

namespace Go.Proofs.YthlnhmdpimoojaaGreatDoor
open Go.RowKit RQ

/-- The number that Decimal writes, without its point. -/
def drnd (q : Rat) (d : Nat) : Nat := near (q.num.natAbs * 10 ^ d) q.den
/-- What Decimal writes but for the sign. -/
def dbody (q : Rat) (d : Nat) : List UInt8 := wp (txt (drnd q d)).data.toList d
/-- What Decimal writes. -/
def dtxt (q : Rat) (d : Nat) : ByteArray := if ng q.num = true ∧ drnd q d ≠ 0 then ⟨#[45]⟩ ++ bs (dbody q d) else bs (dbody q d)
theorem near_le (N D : Nat) : near N D ≤ N + 1 := by
  have := Nat.div_le_self N D
  unfold near; split <;> omega
theorem pow10_small {d : Nat} (h : d ≤ 100) : 10 ^ d < 4294967296 ^ 12 := Nat.lt_of_le_of_lt (Nat.pow_le_pow_right (by decide) h) (by decide)
theorem drnd_len {q : Rat} {d : Nat} (h : Rs q 40) (hd : d ≤ 100) : (limbs (drnd q d)).length ≤ 53 := by
  have h1 := mul_lt h.n (pow10_small hd)
  rw [← Nat.pow_add] at h1
  have h2 := near_le (q.num.natAbs * 10 ^ d) q.den
  refine limbs_len_le.2 ?_
  unfold drnd
  have h3 : (4294967296 : Nat) ^ (52 + 1) = 4294967296 ^ 52 * 4294967296 := Nat.pow_succ ..
  rw [show 40 + 12 = 52 from rfl] at h1
  rw [show 53 = 52 + 1 from rfl, h3]
  generalize (4294967296 : Nat) ^ 52 = T at *
  omega
theorem itxt_nat (N : Nat) : itxt (N : Int) = bs (txt N).data.toList := by unfold itxt; rw [ngN]; rfl
theorem txt_len {N : Nat} (h : (limbs N).length ≤ 53) : (txt N).data.toList.length ≤ 600 := by
  have := small_bn (limbs_len_le.1 h)
  rw [txt_list]; omega
theorem txt_pos (N : Nat) : 1 ≤ (txt N).data.toList.length := by
  rcases Nat.eq_zero_or_pos N with h | h
  · subst h; rw [txt_list, Lib.decDigits_one (by decide)]; simp
  · obtain ⟨c, r, e, _⟩ := dec_head N h
    rw [txt_list, e]; simp
theorem wp_len (l : List UInt8) (p : Nat) : (wp l p).length ≤ p + 2 + l.length := by
  have := pad0_len l p
  unfold wp; split
  · omega
  · rw [List.length_append, List.length_cons, List.length_take, List.length_drop]; omega

set_option maxHeartbeats 1000000 in
theorem decimal_no (b : Bool) (A : Option Addr) (n c : Nat) (D : Option Addr) (m d : Nat) (k : Int) (w : World) (h : k < 0 ∨ 100 < k) :
    Calls Tryz.prog 11 #[.agg #[.bool b, .slice A n c, .slice D m d], .int .i64 k] w fun e w' => e = .returned (.string ⟨#[]⟩) ∧ Below w.heap.size w w' := by
  have B := Lib.hid ((Below.refl w.heap.size w).alloc (Nat.le_refl _) (.cells #[.bool b, .slice A n c, .slice D m d] 26))
  rcases h with h | h
  · go_enter Tryz.func11, Tryz.ntmps11
    go_wp2
    go_ret
    exact ⟨rfl, B.out⟩
  · have h2 : (0 : Int) ≤ k := by omega
    go_enter Tryz.func11, Tryz.ntmps11
    go_wp2
    go_ret
    exact ⟨rfl, B.out⟩
set_option maxHeartbeats 16000000 in
theorem decimal_any (b : Bool) (A : Option Addr) (n c : Nat) (xs : List Nat) (D : Option Addr) (m d : Nat) (ds : List Nat) (k : Nat) (w : World) (R1 : Rd w A n c xs) (R2 : Rd w D m d ds) (hn : n ≤ 40) (hm : m ≤ 40) (hk : k ≤ 100) (htab : Tab w)
    (hR : k + 1 - (txt (drnd (rv b xs ds) k)).data.toList.length = 0 ∨ RepOk (k + 1 - (txt (drnd (rv b xs ds) k)).data.toList.length)) :
    Calls Tryz.prog 11 #[.agg #[.bool b, .slice A n c, .slice D m d], .int .i64 (k : Int)] w fun e w' => e = .returned (.string (dtxt (rv b xs ds) k)) ∧ Below w.heap.size w w' := by
  have hs := Rs.of (b := b) R1.sm R2.sm (Nat.le_trans (Nat.le_of_eq R1.len) hn) (Nat.le_trans (Nat.le_of_eq R2.len) hm) (by decide)
  have hK := fun W h h' => knownR_any b A n c xs D m d ds W h h' (by omega) (by omega)
  have S : St w _ [(w.heap.size, #[.bool b, .slice A n c, .slice D m d], 26)] [(D, m, d, ds), (A, n, c, xs)] := ((((St.new w).read R1).read R2).allocAt (w.heap.size) #[.bool b, .slice A n c, .slice D m d] 26 (noL3 _ _ _ _ _ _ _) (by simp))
  replace S := Lib.hid S
  generalize rv b xs ds = q at hK hs hR ⊢
  have lN : (limbs q.num.natAbs).length ≤ 40 := limbs_len_le.2 hs.n
  have lD : (limbs q.den).length ≤ 40 := limbs_len_le.2 hs.d
  have lT : (limbs (10 ^ k)).length ≤ 12 := limbs_len_le.2 (pow10_small hk)
  have lR := drnd_len hs hk
  have lt1 := txt_len lR
  have lt0 := txt_pos (drnd q k)
  have lP : (limbs (q.num.natAbs * 10 ^ k)).length ≤ 52 := limbs_len_le.2 (by have h1 := mul_lt hs.n (pow10_small hk); rwa [← Nat.pow_add] at h1)
  have hdp := q.den_pos
  have hP := Lib.hid (fun W => powerOfTen_any k W (by omega))
  have hM : Hid (∀ W A n c A' n' c', Rd W A n c (limbs q.num.natAbs) → Rd W A' n' c' (limbs (10 ^ k)) → Calls Tryz.prog 34 #[.agg #[.bool false, .slice A n c], .agg #[.bool false, .slice A' n' c']] W (RetU (q.num.natAbs * 10 ^ k) W)) := Lib.hid fun W A n c A' n' c' q1 q2 => mulU_any _ _ A n c A' n' c' W q1 q2 (by rw [← q1.len]; omega) (by rw [← q2.len]; omega)
  have hDn : Hid (∀ W A n c D m d, RR W A n c D m d q → Calls Tryz.prog 28 #[.agg #[.bool (ng q.num), .slice A n c, .slice D m d]] W (RetU q.den W)) := Lib.hid fun W A n c D m d h => (denominator_any q A n c D m d W h).mono fun _ _ h => h.u
  have hN : Hid (∀ W A n c A' n' c', Rd W A n c (limbs (q.num.natAbs * 10 ^ k)) → Rd W A' n' c' (limbs q.den) → Calls Tryz.prog 36 #[.agg #[.bool false, .slice A n c], .agg #[.bool false, .slice A' n' c']] W (RetU (drnd q k) W)) := Lib.hid fun W A n c A' n' c' q1 q2 => nearest_any _ _ A n c A' n' c' W q1 q2 (by rw [← q1.len]; omega) (by rw [← q2.len]; omega) hdp
  have hF : Hid (∀ W A n c, Tab W → Rd W A n c (limbs (drnd q k)) → Calls Tryz.prog 27 #[.agg #[.bool false, .slice A n c]] W fun e w' => e = .returned (.string (bs (txt (drnd q k)).data.toList)) ∧ Below W.heap.size W w') := Lib.hid fun W A n c t h => by
    have := formatZ_any (drnd q k : Int) A n c W (by rw [Int.natAbs_natCast]; exact h) (by rw [← h.len]; omega) t
    rwa [ngN, itxt_nat] at this
  have hW : Hid (∀ W, Calls Tryz.prog 37 #[.string (bs (txt (drnd q k)).data.toList), .int .i64 (k : Int)] W fun e w' => e = .returned (.string (bs (dbody q k))) ∧ Below W.heap.size W w') := Lib.hid fun W => withPoint_any _ k W (by omega) lt0 (by omega) hR
  have hS : Hid (∀ W A n c, Rd W A n c (limbs (drnd q k)) → Calls Tryz.prog 38 #[.agg #[.bool false, .slice A n c]] W fun e w' => e = .returned (.int .i64 (drnd q k : Int).sign) ∧ Below W.heap.size W w') := Lib.hid fun W A n c h => by
    have := signI_any false A n c _ W h (by rw [← h.len]; omega)
    rwa [iv_pos] at this
  have hz : ¬ 9223372036854775807 < 1 + (bs (dbody q k)).size := by
    have := wp_len (txt (drnd q k)).data.toList k
    rw [bs_size]; unfold dbody; omega
  have hd0 : Hid (dtxt q k = if ng q.num = true ∧ drnd q k ≠ 0 then ⟨#[45]⟩ ++ bs (dbody q k) else bs (dbody q k)) := Lib.hid rfl
  have k0 : (0 : Int) ≤ (k : Int) := by omega
  have k1 : (k : Int) ≤ 100 := by omega
  generalize bs (dbody q k) = X at hW hz hd0
  generalize dtxt q k = Y at hd0 ⊢
  generalize bs (txt (drnd q k)).data.toList = Z at hF hW
  generalize drnd q k = r at *
  generalize q.num.natAbs * 10 ^ k = V at hM hN lP
  generalize 10 ^ k = T at hP hM lT
  replace hK := Lib.hid hK
  replace htab := Lib.hid htab
  clear R1 R2 hn hm hs hR lN lD lT lR lt1 lt0 lP hdp hk
  go_enter Tryz.func11, Tryz.ntmps11
  go_wp2_with fail
  refine (hK.out _ (S.out.r 1 rfl) (S.out.r 0 rfl)).mono ?_
  rintro e w1 ⟨A1, n1, c1, D1, m1, d1, rfl, Q, bb⟩
  have T := (((S.out.call bb).read Q.n).read Q.d)
  clear bb S
  have S := T
  clear T
  have c_x0 := S.cl 0 0 rfl rfl
  have f_x0 := S.f 0 0 rfl
  have c_x1 := S.cl 0 1 rfl rfl
  have f_x1 := S.f 0 1 rfl
  have c_x2 := S.cl 0 2 rfl rfl
  have f_x2 := S.f 0 2 rfl
  have hz : w.heap.size < w1.heap.size := S.lt 0 rfl
  replace S := Lib.hid S
  clear Q hK
  go_upto_region 4 with fail
  clear c_x0 f_x0 c_x1 f_x1 c_x2 f_x2 hz
  have S : St w _ [(w.heap.size, #[.bool (ng q.num), .slice A1 n1 c1, .slice D1 m1 d1], 26)] [(D1, m1, d1, dn q), (A1, n1, c1, limbs q.num.natAbs), (D, m, d, ds), (A, n, c, xs)] := (((S.out.set 0 0 (.bool (ng q.num)) rfl (by nofun)).set 0 1 (.slice A1 n1 c1) rfl (by nofun)).set 0 2 (.slice D1 m1 d1) rfl (by nofun))
  generalize hW2 : (World.setCell (World.setCell (World.setCell w1 ⟨w.heap.size, 0, none⟩ (.bool (ng q.num))) ⟨w.heap.size, 1, none⟩ (.slice A1 n1 c1)) ⟨w.heap.size, 2, none⟩ (.slice D1 m1 d1)) = w2 at S ⊢
  clear hW2
  replace S := Lib.hid S
  go_cut [5] (fun sv5 wx => ∃ (g_s : Nat) (A3 : Option Addr) (n3 : Nat) (c3 : Nat), sv5 = .pointer (some ⟨g_s, 0, none⟩) ∧ St w wx [(g_s, #[.bool false, .slice A3 n3 c3], 24), (w.heap.size, #[.bool (ng q.num), .slice A1 n1 c1, .slice D1 m1 d1], 26)] [(A3, n3, c3, limbs V), (D1, m1, d1, dn q), (A1, n1, c1, limbs q.num.natAbs), (D, m, d, ds), (A, n, c, xs)])
  case first =>
    have SD : Hid (St w (World.drew w2) _ _) := Lib.hid (S.out.drew)
    have y1_x0 := St.cl (SD.out) 0 0 rfl rfl
    have y1_x1 := St.cl (SD.out) 0 1 rfl rfl
    have y1_x2 := St.cl (SD.out) 0 2 rfl rfl
    have y2_x0 := St.cl ((SD.out.allocAt (w2.heap.size) #[.bool false, .slice none 0 0] 24 (noL2 _ _ _ _) (by simp))) 1 0 rfl rfl
    have y2_x1 := St.cl ((SD.out.allocAt (w2.heap.size) #[.bool false, .slice none 0 0] 24 (noL2 _ _ _ _) (by simp))) 1 1 rfl rfl
    have y2_x2 := St.cl ((SD.out.allocAt (w2.heap.size) #[.bool false, .slice none 0 0] 24 (noL2 _ _ _ _) (by simp))) 1 2 rfl rfl
    go_region_held3 (fun w' => World.cell? w' ⟨w.heap.size, 0, none⟩ = some (.bool (ng q.num)) ∧ World.cell? w' ⟨w.heap.size, 1, none⟩ = some (.slice A1 n1 c1) ∧ World.cell? w' ⟨w.heap.size, 2, none⟩ = some (.slice D1 m1 d1))
      (first | exact ⟨y1_x0, y1_x1, y1_x2⟩ | exact ⟨y2_x0, y2_x1, y2_x2⟩ | exact ⟨y3_x0, y3_x1, y3_x2⟩ | exact ⟨y4_x0, y4_x1, y4_x2⟩ | exact ⟨y5_x0, y5_x1, y5_x2⟩ | exact ⟨y6_x0, y6_x1, y6_x2⟩ | exact ⟨y7_x0, y7_x1, y7_x2⟩ | exact ⟨y8_x0, y8_x1, y8_x2⟩ | exact ⟨y9_x0, y9_x1, y9_x2⟩ | exact ⟨y10_x0, y10_x1, y10_x2⟩ | exact ⟨y11_x0, y11_x1, y11_x2⟩ | exact ⟨y12_x0, y12_x1, y12_x2⟩ | exact ⟨y13_x0, y13_x1, y13_x2⟩ | exact ⟨y14_x0, y14_x1, y14_x2⟩)
      (first
        | (go_at_call 35; first
            | (refine (hP.out _).mono ?_; rintro e w3 ⟨A2, n2, c2, rfl, Q1, bb0⟩; have S_0 : St w w3 [(w.heap.size, #[.bool (ng q.num), .slice A1 n1 c1, .slice D1 m1 d1], 26)] [(A2, n2, c2, limbs T), (D1, m1, d1, dn q), (A1, n1, c1, limbs q.num.natAbs), (D, m, d, ds), (A, n, c, xs)] := ((SD.out.call bb0).read Q1); have y3_x0 := St.cl (S_0) 0 0 rfl rfl; have y3_x1 := St.cl (S_0) 0 1 rfl rfl; have y3_x2 := St.cl (S_0) 0 2 rfl rfl; have y4_x0 := St.cl ((S_0.allocAt (w3.heap.size) #[.bool false, .slice none 0 0] 24 (noL2 _ _ _ _) (by simp))) 1 0 rfl rfl; have y4_x1 := St.cl ((S_0.allocAt (w3.heap.size) #[.bool false, .slice none 0 0] 24 (noL2 _ _ _ _) (by simp))) 1 1 rfl rfl; have y4_x2 := St.cl ((S_0.allocAt (w3.heap.size) #[.bool false, .slice none 0 0] 24 (noL2 _ _ _ _) (by simp))) 1 2 rfl rfl)
            | (refine (hP.out _).mono ?_; rintro e w3 ⟨A2, n2, c2, rfl, Q1, bb0⟩; have S_s0 : St w w3 [(w2.heap.size, #[.bool false, .slice none 0 0], 24), (w.heap.size, #[.bool (ng q.num), .slice A1 n1 c1, .slice D1 m1 d1], 26)] [(A2, n2, c2, limbs T), (D1, m1, d1, dn q), (A1, n1, c1, limbs q.num.natAbs), (D, m, d, ds), (A, n, c, xs)] := (((SD.out.allocAt (w2.heap.size) #[.bool false, .slice none 0 0] 24 (noL2 _ _ _ _) (by simp)).call bb0).read Q1); have y6_x0 := St.cl (S_s0) 1 0 rfl rfl; have y6_x1 := St.cl (S_s0) 1 1 rfl rfl; have y6_x2 := St.cl (S_s0) 1 2 rfl rfl; have y6v_s0 := St.cl (S_s0) 0 0 rfl rfl; have y6v_s1 := St.cl (S_s0) 0 1 rfl rfl; have y6vz_s0 := St.f (S_s0) 0 0 rfl; have y6vz_s1 := St.f (S_s0) 0 1 rfl))
        | (go_at_call 34; first
            | (refine (hM.out _ _ _ _ _ _ _ (S_0.r 2 rfl) (S_0.r 0 rfl)).mono ?_; rintro e w4 ⟨A3, n3, c3, rfl, Q2, bb1⟩; have S_01 : St w w4 [(w.heap.size, #[.bool (ng q.num), .slice A1 n1 c1, .slice D1 m1 d1], 26)] [(A3, n3, c3, limbs V), (A2, n2, c2, limbs T), (D1, m1, d1, dn q), (A1, n1, c1, limbs q.num.natAbs), (D, m, d, ds), (A, n, c, xs)] := ((S_0.call bb1).read Q2); have y7_x0 := St.cl (S_01) 0 0 rfl rfl; have y7_x1 := St.cl (S_01) 0 1 rfl rfl; have y7_x2 := St.cl (S_01) 0 2 rfl rfl; have y8_x0 := St.cl ((S_01.allocAt (w4.heap.size) #[.bool false, .slice none 0 0] 24 (noL2 _ _ _ _) (by simp))) 1 0 rfl rfl; have y8_x1 := St.cl ((S_01.allocAt (w4.heap.size) #[.bool false, .slice none 0 0] 24 (noL2 _ _ _ _) (by simp))) 1 1 rfl rfl; have y8_x2 := St.cl ((S_01.allocAt (w4.heap.size) #[.bool false, .slice none 0 0] 24 (noL2 _ _ _ _) (by simp))) 1 2 rfl rfl; have y9_x0 := St.cl ((S_01.allocAt (w4.heap.size) #[.bool false, .slice A3 n3 c3] 24 (noL2 _ _ _ _) (by simp))) 1 0 rfl rfl; have y9_x1 := St.cl ((S_01.allocAt (w4.heap.size) #[.bool false, .slice A3 n3 c3] 24 (noL2 _ _ _ _) (by simp))) 1 1 rfl rfl; have y9_x2 := St.cl ((S_01.allocAt (w4.heap.size) #[.bool false, .slice A3 n3 c3] 24 (noL2 _ _ _ _) (by simp))) 1 2 rfl rfl)
            | (refine (hM.out _ _ _ _ _ _ _ ((S_0.allocAt (w3.heap.size) #[.bool false, .slice none 0 0] 24 (noL2 _ _ _ _) (by simp)).r 2 rfl) ((S_0.allocAt (w3.heap.size) #[.bool false, .slice none 0 0] 24 (noL2 _ _ _ _) (by simp)).r 0 rfl)).mono ?_; rintro e w4 ⟨A3, n3, c3, rfl, Q2, bb1⟩; have S_0s1 : St w w4 [(w3.heap.size, #[.bool false, .slice none 0 0], 24), (w.heap.size, #[.bool (ng q.num), .slice A1 n1 c1, .slice D1 m1 d1], 26)] [(A3, n3, c3, limbs V), (A2, n2, c2, limbs T), (D1, m1, d1, dn q), (A1, n1, c1, limbs q.num.natAbs), (D, m, d, ds), (A, n, c, xs)] := (((S_0.allocAt (w3.heap.size) #[.bool false, .slice none 0 0] 24 (noL2 _ _ _ _) (by simp)).call bb1).read Q2); have y11_x0 := St.cl (S_0s1) 1 0 rfl rfl; have y11_x1 := St.cl (S_0s1) 1 1 rfl rfl; have y11_x2 := St.cl (S_0s1) 1 2 rfl rfl; have y11v_s0 := St.cl (S_0s1) 0 0 rfl rfl; have y11v_s1 := St.cl (S_0s1) 0 1 rfl rfl; have y11vz_s0 := St.f (S_0s1) 0 0 rfl; have y11vz_s1 := St.f (S_0s1) 0 1 rfl; have y12_x0 := St.cl (((S_0s1.set 0 0 (.bool false) rfl (by nofun)).set 0 1 (.slice A3 n3 c3) rfl (by nofun))) 1 0 rfl rfl; have y12_x1 := St.cl (((S_0s1.set 0 0 (.bool false) rfl (by nofun)).set 0 1 (.slice A3 n3 c3) rfl (by nofun))) 1 1 rfl rfl; have y12_x2 := St.cl (((S_0s1.set 0 0 (.bool false) rfl (by nofun)).set 0 1 (.slice A3 n3 c3) rfl (by nofun))) 1 2 rfl rfl)
            | (refine (hM.out _ _ _ _ _ _ _ (S_s0.r 2 rfl) (S_s0.r 0 rfl)).mono ?_; rintro e w4 ⟨A3, n3, c3, rfl, Q2, bb1⟩; have S_s01 : St w w4 [(w2.heap.size, #[.bool false, .slice none 0 0], 24), (w.heap.size, #[.bool (ng q.num), .slice A1 n1 c1, .slice D1 m1 d1], 26)] [(A3, n3, c3, limbs V), (A2, n2, c2, limbs T), (D1, m1, d1, dn q), (A1, n1, c1, limbs q.num.natAbs), (D, m, d, ds), (A, n, c, xs)] := ((S_s0.call bb1).read Q2); have y13_x0 := St.cl (S_s01) 1 0 rfl rfl; have y13_x1 := St.cl (S_s01) 1 1 rfl rfl; have y13_x2 := St.cl (S_s01) 1 2 rfl rfl; have y13v_s0 := St.cl (S_s01) 0 0 rfl rfl; have y13v_s1 := St.cl (S_s01) 0 1 rfl rfl; have y13vz_s0 := St.f (S_s01) 0 0 rfl; have y13vz_s1 := St.f (S_s01) 0 1 rfl; have y14_x0 := St.cl (((S_s01.set 0 0 (.bool false) rfl (by nofun)).set 0 1 (.slice A3 n3 c3) rfl (by nofun))) 1 0 rfl rfl; have y14_x1 := St.cl (((S_s01.set 0 0 (.bool false) rfl (by nofun)).set 0 1 (.slice A3 n3 c3) rfl (by nofun))) 1 1 rfl rfl; have y14_x2 := St.cl (((S_s01.set 0 0 (.bool false) rfl (by nofun)).set 0 1 (.slice A3 n3 c3) rfl (by nofun))) 1 2 rfl rfl)))
    all_goals
      go_wp2_with fail
      go_meet
      first
        | (have T := (S_01.allocAt (w4.heap.size) #[.bool false, .slice A3 n3 c3] 24 (noL2 _ _ _ _) (by simp)); exact ⟨_, _, _, _, rfl, T.pick [0, 1] [0, 2, 3, 4, 5] rfl (by decide) rfl⟩)
        | (have T := ((S_0s1.set 0 0 (.bool false) rfl (by nofun)).set 0 1 (.slice A3 n3 c3) rfl (by nofun)); exact ⟨_, _, _, _, rfl, T.pick [0, 1] [0, 2, 3, 4, 5] rfl (by decide) rfl⟩)
        | (have T := ((S_s01.set 0 0 (.bool false) rfl (by nofun)).set 0 1 (.slice A3 n3 c3) rfl (by nofun)); exact ⟨_, _, _, _, rfl, T.pick [0, 1] [0, 2, 3, 4, 5] rfl (by decide) rfl⟩)
  case rest =>
    clear S
    obtain ⟨g_s, A3, n3, c3, rfl, S⟩ := hcut
    have c_s0 := S.cl 0 0 rfl rfl
    have f_s0 := S.f 0 0 rfl
    have c_s1 := S.cl 0 1 rfl rfl
    have f_s1 := S.f 0 1 rfl
    have c_x0 := S.cl 1 0 rfl rfl
    have f_x0 := S.f 1 0 rfl
    have c_x1 := S.cl 1 1 rfl rfl
    have f_x1 := S.f 1 1 rfl
    have c_x2 := S.cl 1 2 rfl rfl
    have f_x2 := S.f 1 2 rfl
    have hz : g_s < wc.heap.size := S.lt 0 rfl
    replace S := Lib.hid S
    clear hP hM
    go_upto_region 5 with fail
    clear c_s0 f_s0 c_s1 f_s1 c_x0 f_x0 c_x1 f_x1 c_x2 f_x2 hz
    have S : St w _ [(g_s, #[.bool false, .slice A3 n3 c3], 24), (w.heap.size, #[.bool (ng q.num), .slice A1 n1 c1, .slice D1 m1 d1], 26)] [(A3, n3, c3, limbs V), (D1, m1, d1, dn q), (A1, n1, c1, limbs q.num.natAbs), (D, m, d, ds), (A, n, c, xs)] := S.out
    replace S := Lib.hid S
    go_cut [6] (fun sv6 wx => ∃ (g_t : Nat) (A5 : Option Addr) (n5 : Nat) (c5 : Nat), sv6 = .pointer (some ⟨g_t, 0, none⟩) ∧ St w wx [(g_t, #[.bool false, .slice A5 n5 c5], 24), (g_s, #[.bool false, .slice A3 n3 c3], 24), (w.heap.size, #[.bool (ng q.num), .slice A1 n1 c1, .slice D1 m1 d1], 26)] [(A5, n5, c5, limbs r), (A3, n3, c3, limbs V), (D1, m1, d1, dn q), (A1, n1, c1, limbs q.num.natAbs), (D, m, d, ds), (A, n, c, xs)])
    case first =>
      have SD : Hid (St w (World.drew wc) _ _) := Lib.hid (S.out.drew)
      have y1_s0 := St.cl (SD.out) 0 0 rfl rfl
      have y1_s1 := St.cl (SD.out) 0 1 rfl rfl
      have y1_x0 := St.cl (SD.out) 1 0 rfl rfl
      have y1_x1 := St.cl (SD.out) 1 1 rfl rfl
      have y1_x2 := St.cl (SD.out) 1 2 rfl rfl
      have y2_s0 := St.cl ((SD.out.allocAt (wc.heap.size) #[.bool false, .slice none 0 0] 24 (noL2 _ _ _ _) (by simp))) 1 0 rfl rfl
      have y2_s1 := St.cl ((SD.out.allocAt (wc.heap.size) #[.bool false, .slice none 0 0] 24 (noL2 _ _ _ _) (by simp))) 1 1 rfl rfl
      have y2_x0 := St.cl ((SD.out.allocAt (wc.heap.size) #[.bool false, .slice none 0 0] 24 (noL2 _ _ _ _) (by simp))) 2 0 rfl rfl
      have y2_x1 := St.cl ((SD.out.allocAt (wc.heap.size) #[.bool false, .slice none 0 0] 24 (noL2 _ _ _ _) (by simp))) 2 1 rfl rfl
      have y2_x2 := St.cl ((SD.out.allocAt (wc.heap.size) #[.bool false, .slice none 0 0] 24 (noL2 _ _ _ _) (by simp))) 2 2 rfl rfl
      go_region_held3 (fun w' => World.cell? w' ⟨g_s, 0, none⟩ = some (.bool false) ∧ World.cell? w' ⟨g_s, 1, none⟩ = some (.slice A3 n3 c3) ∧ World.cell? w' ⟨w.heap.size, 0, none⟩ = some (.bool (ng q.num)) ∧ World.cell? w' ⟨w.heap.size, 1, none⟩ = some (.slice A1 n1 c1) ∧ World.cell? w' ⟨w.heap.size, 2, none⟩ = some (.slice D1 m1 d1))
        (first | exact ⟨y1_s0, y1_s1, y1_x0, y1_x1, y1_x2⟩ | exact ⟨y2_s0, y2_s1, y2_x0, y2_x1, y2_x2⟩ | exact ⟨y3_s0, y3_s1, y3_x0, y3_x1, y3_x2⟩ | exact ⟨y4_s0, y4_s1, y4_x0, y4_x1, y4_x2⟩ | exact ⟨y5_s0, y5_s1, y5_x0, y5_x1, y5_x2⟩ | exact ⟨y6_s0, y6_s1, y6_x0, y6_x1, y6_x2⟩ | exact ⟨y7_s0, y7_s1, y7_x0, y7_x1, y7_x2⟩ | exact ⟨y8_s0, y8_s1, y8_x0, y8_x1, y8_x2⟩ | exact ⟨y9_s0, y9_s1, y9_x0, y9_x1, y9_x2⟩ | exact ⟨y10_s0, y10_s1, y10_x0, y10_x1, y10_x2⟩ | exact ⟨y11_s0, y11_s1, y11_x0, y11_x1, y11_x2⟩ | exact ⟨y12_s0, y12_s1, y12_x0, y12_x1, y12_x2⟩ | exact ⟨y13_s0, y13_s1, y13_x0, y13_x1, y13_x2⟩ | exact ⟨y14_s0, y14_s1, y14_x0, y14_x1, y14_x2⟩)
        (first
          | (go_at_call 28; first
              | (refine (hDn.out _ _ _ _ _ _ _ ⟨SD.out.r 2 rfl, SD.out.r 1 rfl⟩).mono ?_; rintro e w5 ⟨A4, n4, c4, rfl, Q1, bb0⟩; have S_0 : St w w5 [(g_s, #[.bool false, .slice A3 n3 c3], 24), (w.heap.size, #[.bool (ng q.num), .slice A1 n1 c1, .slice D1 m1 d1], 26)] [(A4, n4, c4, limbs q.den), (A3, n3, c3, limbs V), (D1, m1, d1, dn q), (A1, n1, c1, limbs q.num.natAbs), (D, m, d, ds), (A, n, c, xs)] := ((SD.out.call bb0).read Q1); have y3_s0 := St.cl (S_0) 0 0 rfl rfl; have y3_s1 := St.cl (S_0) 0 1 rfl rfl; have y3_x0 := St.cl (S_0) 1 0 rfl rfl; have y3_x1 := St.cl (S_0) 1 1 rfl rfl; have y3_x2 := St.cl (S_0) 1 2 rfl rfl; have y4_s0 := St.cl ((S_0.allocAt (w5.heap.size) #[.bool false, .slice none 0 0] 24 (noL2 _ _ _ _) (by simp))) 1 0 rfl rfl; have y4_s1 := St.cl ((S_0.allocAt (w5.heap.size) #[.bool false, .slice none 0 0] 24 (noL2 _ _ _ _) (by simp))) 1 1 rfl rfl; have y4_x0 := St.cl ((S_0.allocAt (w5.heap.size) #[.bool false, .slice none 0 0] 24 (noL2 _ _ _ _) (by simp))) 2 0 rfl rfl; have y4_x1 := St.cl ((S_0.allocAt (w5.heap.size) #[.bool false, .slice none 0 0] 24 (noL2 _ _ _ _) (by simp))) 2 1 rfl rfl; have y4_x2 := St.cl ((S_0.allocAt (w5.heap.size) #[.bool false, .slice none 0 0] 24 (noL2 _ _ _ _) (by simp))) 2 2 rfl rfl)
              | (refine (hDn.out _ _ _ _ _ _ _ ⟨(SD.out.allocAt (wc.heap.size) #[.bool false, .slice none 0 0] 24 (noL2 _ _ _ _) (by simp)).r 2 rfl, (SD.out.allocAt (wc.heap.size) #[.bool false, .slice none 0 0] 24 (noL2 _ _ _ _) (by simp)).r 1 rfl⟩).mono ?_; rintro e w5 ⟨A4, n4, c4, rfl, Q1, bb0⟩; have S_t0 : St w w5 [(wc.heap.size, #[.bool false, .slice none 0 0], 24), (g_s, #[.bool false, .slice A3 n3 c3], 24), (w.heap.size, #[.bool (ng q.num), .slice A1 n1 c1, .slice D1 m1 d1], 26)] [(A4, n4, c4, limbs q.den), (A3, n3, c3, limbs V), (D1, m1, d1, dn q), (A1, n1, c1, limbs q.num.natAbs), (D, m, d, ds), (A, n, c, xs)] := (((SD.out.allocAt (wc.heap.size) #[.bool false, .slice none 0 0] 24 (noL2 _ _ _ _) (by simp)).call bb0).read Q1); have y6_s0 := St.cl (S_t0) 1 0 rfl rfl; have y6_s1 := St.cl (S_t0) 1 1 rfl rfl; have y6_x0 := St.cl (S_t0) 2 0 rfl rfl; have y6_x1 := St.cl (S_t0) 2 1 rfl rfl; have y6_x2 := St.cl (S_t0) 2 2 rfl rfl; have y6v_t0 := St.cl (S_t0) 0 0 rfl rfl; have y6v_t1 := St.cl (S_t0) 0 1 rfl rfl; have y6vz_t0 := St.f (S_t0) 0 0 rfl; have y6vz_t1 := St.f (S_t0) 0 1 rfl))
          | (go_at_call 36; first
              | (refine (hN.out _ _ _ _ _ _ _ (S_0.r 1 rfl) (S_0.r 0 rfl)).mono ?_; rintro e w6 ⟨A5, n5, c5, rfl, Q2, bb1⟩; have S_01 : St w w6 [(g_s, #[.bool false, .slice A3 n3 c3], 24), (w.heap.size, #[.bool (ng q.num), .slice A1 n1 c1, .slice D1 m1 d1], 26)] [(A5, n5, c5, limbs r), (A4, n4, c4, limbs q.den), (A3, n3, c3, limbs V), (D1, m1, d1, dn q), (A1, n1, c1, limbs q.num.natAbs), (D, m, d, ds), (A, n, c, xs)] := ((S_0.call bb1).read Q2); have y7_s0 := St.cl (S_01) 0 0 rfl rfl; have y7_s1 := St.cl (S_01) 0 1 rfl rfl; have y7_x0 := St.cl (S_01) 1 0 rfl rfl; have y7_x1 := St.cl (S_01) 1 1 rfl rfl; have y7_x2 := St.cl (S_01) 1 2 rfl rfl; have y8_s0 := St.cl ((S_01.allocAt (w6.heap.size) #[.bool false, .slice none 0 0] 24 (noL2 _ _ _ _) (by simp))) 1 0 rfl rfl; have y8_s1 := St.cl ((S_01.allocAt (w6.heap.size) #[.bool false, .slice none 0 0] 24 (noL2 _ _ _ _) (by simp))) 1 1 rfl rfl; have y8_x0 := St.cl ((S_01.allocAt (w6.heap.size) #[.bool false, .slice none 0 0] 24 (noL2 _ _ _ _) (by simp))) 2 0 rfl rfl; have y8_x1 := St.cl ((S_01.allocAt (w6.heap.size) #[.bool false, .slice none 0 0] 24 (noL2 _ _ _ _) (by simp))) 2 1 rfl rfl; have y8_x2 := St.cl ((S_01.allocAt (w6.heap.size) #[.bool false, .slice none 0 0] 24 (noL2 _ _ _ _) (by simp))) 2 2 rfl rfl; have y9_s0 := St.cl ((S_01.allocAt (w6.heap.size) #[.bool false, .slice A5 n5 c5] 24 (noL2 _ _ _ _) (by simp))) 1 0 rfl rfl; have y9_s1 := St.cl ((S_01.allocAt (w6.heap.size) #[.bool false, .slice A5 n5 c5] 24 (noL2 _ _ _ _) (by simp))) 1 1 rfl rfl; have y9_x0 := St.cl ((S_01.allocAt (w6.heap.size) #[.bool false, .slice A5 n5 c5] 24 (noL2 _ _ _ _) (by simp))) 2 0 rfl rfl; have y9_x1 := St.cl ((S_01.allocAt (w6.heap.size) #[.bool false, .slice A5 n5 c5] 24 (noL2 _ _ _ _) (by simp))) 2 1 rfl rfl; have y9_x2 := St.cl ((S_01.allocAt (w6.heap.size) #[.bool false, .slice A5 n5 c5] 24 (noL2 _ _ _ _) (by simp))) 2 2 rfl rfl)
              | (refine (hN.out _ _ _ _ _ _ _ ((S_0.allocAt (w5.heap.size) #[.bool false, .slice none 0 0] 24 (noL2 _ _ _ _) (by simp)).r 1 rfl) ((S_0.allocAt (w5.heap.size) #[.bool false, .slice none 0 0] 24 (noL2 _ _ _ _) (by simp)).r 0 rfl)).mono ?_; rintro e w6 ⟨A5, n5, c5, rfl, Q2, bb1⟩; have S_0t1 : St w w6 [(w5.heap.size, #[.bool false, .slice none 0 0], 24), (g_s, #[.bool false, .slice A3 n3 c3], 24), (w.heap.size, #[.bool (ng q.num), .slice A1 n1 c1, .slice D1 m1 d1], 26)] [(A5, n5, c5, limbs r), (A4, n4, c4, limbs q.den), (A3, n3, c3, limbs V), (D1, m1, d1, dn q), (A1, n1, c1, limbs q.num.natAbs), (D, m, d, ds), (A, n, c, xs)] := (((S_0.allocAt (w5.heap.size) #[.bool false, .slice none 0 0] 24 (noL2 _ _ _ _) (by simp)).call bb1).read Q2); have y11_s0 := St.cl (S_0t1) 1 0 rfl rfl; have y11_s1 := St.cl (S_0t1) 1 1 rfl rfl; have y11_x0 := St.cl (S_0t1) 2 0 rfl rfl; have y11_x1 := St.cl (S_0t1) 2 1 rfl rfl; have y11_x2 := St.cl (S_0t1) 2 2 rfl rfl; have y11v_t0 := St.cl (S_0t1) 0 0 rfl rfl; have y11v_t1 := St.cl (S_0t1) 0 1 rfl rfl; have y11vz_t0 := St.f (S_0t1) 0 0 rfl; have y11vz_t1 := St.f (S_0t1) 0 1 rfl; have y12_s0 := St.cl (((S_0t1.set 0 0 (.bool false) rfl (by nofun)).set 0 1 (.slice A5 n5 c5) rfl (by nofun))) 1 0 rfl rfl; have y12_s1 := St.cl (((S_0t1.set 0 0 (.bool false) rfl (by nofun)).set 0 1 (.slice A5 n5 c5) rfl (by nofun))) 1 1 rfl rfl; have y12_x0 := St.cl (((S_0t1.set 0 0 (.bool false) rfl (by nofun)).set 0 1 (.slice A5 n5 c5) rfl (by nofun))) 2 0 rfl rfl; have y12_x1 := St.cl (((S_0t1.set 0 0 (.bool false) rfl (by nofun)).set 0 1 (.slice A5 n5 c5) rfl (by nofun))) 2 1 rfl rfl; have y12_x2 := St.cl (((S_0t1.set 0 0 (.bool false) rfl (by nofun)).set 0 1 (.slice A5 n5 c5) rfl (by nofun))) 2 2 rfl rfl)
              | (refine (hN.out _ _ _ _ _ _ _ (S_t0.r 1 rfl) (S_t0.r 0 rfl)).mono ?_; rintro e w6 ⟨A5, n5, c5, rfl, Q2, bb1⟩; have S_t01 : St w w6 [(wc.heap.size, #[.bool false, .slice none 0 0], 24), (g_s, #[.bool false, .slice A3 n3 c3], 24), (w.heap.size, #[.bool (ng q.num), .slice A1 n1 c1, .slice D1 m1 d1], 26)] [(A5, n5, c5, limbs r), (A4, n4, c4, limbs q.den), (A3, n3, c3, limbs V), (D1, m1, d1, dn q), (A1, n1, c1, limbs q.num.natAbs), (D, m, d, ds), (A, n, c, xs)] := ((S_t0.call bb1).read Q2); have y13_s0 := St.cl (S_t01) 1 0 rfl rfl; have y13_s1 := St.cl (S_t01) 1 1 rfl rfl; have y13_x0 := St.cl (S_t01) 2 0 rfl rfl; have y13_x1 := St.cl (S_t01) 2 1 rfl rfl; have y13_x2 := St.cl (S_t01) 2 2 rfl rfl; have y13v_t0 := St.cl (S_t01) 0 0 rfl rfl; have y13v_t1 := St.cl (S_t01) 0 1 rfl rfl; have y13vz_t0 := St.f (S_t01) 0 0 rfl; have y13vz_t1 := St.f (S_t01) 0 1 rfl; have y14_s0 := St.cl (((S_t01.set 0 0 (.bool false) rfl (by nofun)).set 0 1 (.slice A5 n5 c5) rfl (by nofun))) 1 0 rfl rfl; have y14_s1 := St.cl (((S_t01.set 0 0 (.bool false) rfl (by nofun)).set 0 1 (.slice A5 n5 c5) rfl (by nofun))) 1 1 rfl rfl; have y14_x0 := St.cl (((S_t01.set 0 0 (.bool false) rfl (by nofun)).set 0 1 (.slice A5 n5 c5) rfl (by nofun))) 2 0 rfl rfl; have y14_x1 := St.cl (((S_t01.set 0 0 (.bool false) rfl (by nofun)).set 0 1 (.slice A5 n5 c5) rfl (by nofun))) 2 1 rfl rfl; have y14_x2 := St.cl (((S_t01.set 0 0 (.bool false) rfl (by nofun)).set 0 1 (.slice A5 n5 c5) rfl (by nofun))) 2 2 rfl rfl)))
      all_goals
        go_wp2_with fail
        go_meet
        first
          | (have T := (S_01.allocAt (w6.heap.size) #[.bool false, .slice A5 n5 c5] 24 (noL2 _ _ _ _) (by simp)); exact ⟨_, _, _, _, rfl, T.pick [0, 1, 2] [0, 2, 3, 4, 5, 6] rfl (by decide) rfl⟩)
          | (have T := ((S_0t1.set 0 0 (.bool false) rfl (by nofun)).set 0 1 (.slice A5 n5 c5) rfl (by nofun)); exact ⟨_, _, _, _, rfl, T.pick [0, 1, 2] [0, 2, 3, 4, 5, 6] rfl (by decide) rfl⟩)
          | (have T := ((S_t01.set 0 0 (.bool false) rfl (by nofun)).set 0 1 (.slice A5 n5 c5) rfl (by nofun)); exact ⟨_, _, _, _, rfl, T.pick [0, 1, 2] [0, 2, 3, 4, 5, 6] rfl (by decide) rfl⟩)
    case rest =>
      clear S
      obtain ⟨g_t, A5, n5, c5, rfl, S⟩ := hcut
      have c_t0 := S.cl 0 0 rfl rfl
      have f_t0 := S.f 0 0 rfl
      have c_t1 := S.cl 0 1 rfl rfl
      have f_t1 := S.f 0 1 rfl
      have c_s0 := S.cl 1 0 rfl rfl
      have f_s0 := S.f 1 0 rfl
      have c_s1 := S.cl 1 1 rfl rfl
      have f_s1 := S.f 1 1 rfl
      have c_x0 := S.cl 2 0 rfl rfl
      have f_x0 := S.f 2 0 rfl
      have c_x1 := S.cl 2 1 rfl rfl
      have f_x1 := S.f 2 1 rfl
      have c_x2 := S.cl 2 2 rfl rfl
      have f_x2 := S.f 2 2 rfl
      have hz : g_t < wc.heap.size := S.lt 0 rfl
      replace S := Lib.hid S
      clear hDn hN
      go_wp2_with fail
      refine (hF.out _ _ _ _ (tab_below htab.out S.out.bel) (S.out.r 0 rfl)).mono ?_
      rintro e w7 ⟨rfl, bb⟩
      have T := (S.out.call bb)
      clear bb S c_t0 f_t0 c_t1 f_t1 c_s0 f_s0 c_s1 f_s1 c_x0 f_x0 c_x1 f_x1 c_x2 f_x2 hz
      have S := T
      clear T
      have c_t0 := S.cl 0 0 rfl rfl
      have f_t0 := S.f 0 0 rfl
      have c_t1 := S.cl 0 1 rfl rfl
      have f_t1 := S.f 0 1 rfl
      have c_s0 := S.cl 1 0 rfl rfl
      have f_s0 := S.f 1 0 rfl
      have c_s1 := S.cl 1 1 rfl rfl
      have f_s1 := S.f 1 1 rfl
      have c_x0 := S.cl 2 0 rfl rfl
      have f_x0 := S.f 2 0 rfl
      have c_x1 := S.cl 2 1 rfl rfl
      have f_x1 := S.f 2 1 rfl
      have c_x2 := S.cl 2 2 rfl rfl
      have f_x2 := S.f 2 2 rfl
      have hz : g_t < w7.heap.size := S.lt 0 rfl
      replace S := Lib.hid S
      clear hF
      go_wp2_with fail
      refine (hW.out _).mono ?_
      rintro e w8 ⟨rfl, bb⟩
      have T := (S.out.call bb)
      clear bb S c_t0 f_t0 c_t1 f_t1 c_s0 f_s0 c_s1 f_s1 c_x0 f_x0 c_x1 f_x1 c_x2 f_x2 hz
      have S := T
      clear T
      have c_t0 := S.cl 0 0 rfl rfl
      have f_t0 := S.f 0 0 rfl
      have c_t1 := S.cl 0 1 rfl rfl
      have f_t1 := S.f 0 1 rfl
      have c_s0 := S.cl 1 0 rfl rfl
      have f_s0 := S.f 1 0 rfl
      have c_s1 := S.cl 1 1 rfl rfl
      have f_s1 := S.f 1 1 rfl
      have c_x0 := S.cl 2 0 rfl rfl
      have f_x0 := S.f 2 0 rfl
      have c_x1 := S.cl 2 1 rfl rfl
      have f_x1 := S.f 2 1 rfl
      have c_x2 := S.cl 2 2 rfl rfl
      have f_x2 := S.f 2 2 rfl
      have hz : g_t < w8.heap.size := S.lt 0 rfl
      replace S := Lib.hid S
      clear hW
      rcases Bool.eq_false_or_eq_true (ng q.num) with hg | hg
      · have hd1 : Hid (Y = if r ≠ 0 then ⟨#[45]⟩ ++ X else X) := Lib.hid (by rw [hd0.out, hg]; simp)
        clear hd0
        rcases Nat.eq_zero_or_pos r with hr | hr
        · have hsg : (r : Int).sign = 0 := by rw [hr]; rfl
          rw [hsg] at hS
          have hd2 : Hid (Y = X) := Lib.hid (by rw [hd1.out, if_neg (by omega)])
          clear hr hd1
          go_wp2_with fail
          refine (hS.out _ _ _ _ (S.out.r 0 rfl)).mono ?_
          rintro e w9 ⟨rfl, bb⟩
          have T := (S.out.call bb)
          clear bb S c_t0 f_t0 c_t1 f_t1 c_s0 f_s0 c_s1 f_s1 c_x0 f_x0 c_x1 f_x1 c_x2 f_x2 hz
          have S := T
          clear T
          have c_t0 := S.cl 0 0 rfl rfl
          have f_t0 := S.f 0 0 rfl
          have c_t1 := S.cl 0 1 rfl rfl
          have f_t1 := S.f 0 1 rfl
          have c_s0 := S.cl 1 0 rfl rfl
          have f_s0 := S.f 1 0 rfl
          have c_s1 := S.cl 1 1 rfl rfl
          have f_s1 := S.f 1 1 rfl
          have c_x0 := S.cl 2 0 rfl rfl
          have f_x0 := S.f 2 0 rfl
          have c_x1 := S.cl 2 1 rfl rfl
          have f_x1 := S.f 2 1 rfl
          have c_x2 := S.cl 2 2 rfl rfl
          have f_x2 := S.f 2 2 rfl
          have hz : g_t < w9.heap.size := S.lt 0 rfl
          replace S := Lib.hid S
          have S : St w _ [(g_t, #[.bool false, .slice A5 n5 c5], 24), (g_s, #[.bool false, .slice A3 n3 c3], 24), (w.heap.size, #[.bool (ng q.num), .slice A1 n1 c1, .slice D1 m1 d1], 26)] [(A5, n5, c5, limbs r), (A3, n3, c3, limbs V), (D1, m1, d1, dn q), (A1, n1, c1, limbs q.num.natAbs), (D, m, d, ds), (A, n, c, xs)] := S.out
          replace S := Lib.hid S
          go_wp2
          go_ret
          exact ⟨congrArg (fun s => Ending.returned (.string s)) hd2.out.symm, S.out.bel⟩
        · have hsg : (r : Int).sign = 1 := Int.sign_eq_one_of_pos (by omega)
          rw [hsg] at hS
          have hd2 : Hid (Y = ⟨#[45]⟩ ++ X) := Lib.hid (by rw [hd1.out, if_pos (by omega)])
          clear hr hd1
          go_wp2_with fail
          refine (hS.out _ _ _ _ (S.out.r 0 rfl)).mono ?_
          rintro e w9 ⟨rfl, bb⟩
          have T := (S.out.call bb)
          clear bb S c_t0 f_t0 c_t1 f_t1 c_s0 f_s0 c_s1 f_s1 c_x0 f_x0 c_x1 f_x1 c_x2 f_x2 hz
          have S := T
          clear T
          have c_t0 := S.cl 0 0 rfl rfl
          have f_t0 := S.f 0 0 rfl
          have c_t1 := S.cl 0 1 rfl rfl
          have f_t1 := S.f 0 1 rfl
          have c_s0 := S.cl 1 0 rfl rfl
          have f_s0 := S.f 1 0 rfl
          have c_s1 := S.cl 1 1 rfl rfl
          have f_s1 := S.f 1 1 rfl
          have c_x0 := S.cl 2 0 rfl rfl
          have f_x0 := S.f 2 0 rfl
          have c_x1 := S.cl 2 1 rfl rfl
          have f_x1 := S.f 2 1 rfl
          have c_x2 := S.cl 2 2 rfl rfl
          have f_x2 := S.f 2 2 rfl
          have hz : g_t < w9.heap.size := S.lt 0 rfl
          replace S := Lib.hid S
          have S : St w _ [(g_t, #[.bool false, .slice A5 n5 c5], 24), (g_s, #[.bool false, .slice A3 n3 c3], 24), (w.heap.size, #[.bool (ng q.num), .slice A1 n1 c1, .slice D1 m1 d1], 26)] [(A5, n5, c5, limbs r), (A3, n3, c3, limbs V), (D1, m1, d1, dn q), (A1, n1, c1, limbs q.num.natAbs), (D, m, d, ds), (A, n, c, xs)] := S.out
          replace S := Lib.hid S
          go_wp2
          go_ret
          exact ⟨congrArg (fun s => Ending.returned (.string s)) hd2.out.symm, S.out.bel⟩
      · have hd1 : Hid (Y = X) := Lib.hid (by rw [hd0.out, hg]; simp)
        clear hd0 hS
        have S : St w _ [(g_t, #[.bool false, .slice A5 n5 c5], 24), (g_s, #[.bool false, .slice A3 n3 c3], 24), (w.heap.size, #[.bool (ng q.num), .slice A1 n1 c1, .slice D1 m1 d1], 26)] [(A5, n5, c5, limbs r), (A3, n3, c3, limbs V), (D1, m1, d1, dn q), (A1, n1, c1, limbs q.num.natAbs), (D, m, d, ds), (A, n, c, xs)] := S.out
        replace S := Lib.hid S
        go_wp2
        go_ret
        exact ⟨congrArg (fun s => Ending.returned (.string s)) hd1.out.symm, S.out.bel⟩
end Go.Proofs.YthlnhmdpimoojaaGreatDoor

namespace Go.Proofs.YthlnhmdpimoojaaGreatDoor
open Go.RowKit RQ

theorem formatQ_any (q : Rat) (A : Option Addr) (n c : Nat) (D : Option Addr) (m d : Nat) (w : World) (S : ByteArray) (h : RR w A n c D m d q) (hn : Rs q 100) (htab : Tab w) (hS : qtxt q = S) :
    Calls Tryz.prog 8 #[.agg #[.bool (ng q.num), .slice A n c, .slice D m d]] w fun e w' => e = .returned (.string S) ∧ Below w.heap.size w w' := by
  have hl := h.lens hn
  have := formatR_any (ng q.num) A n c _ D m d _ w h.n h.d hl.1 hl.2 htab
  rwa [rv_z, hS] at this
theorem decimalQ_any (q : Rat) (k : Nat) (A : Option Addr) (n c : Nat) (D : Option Addr) (m d : Nat) (w : World) (S : ByteArray) (h : RR w A n c D m d q) (hn : Rs q 40) (hk : k ≤ 100) (htab : Tab w) (hS : dtxt q k = S)
    (hR : k + 1 - (txt (drnd q k)).data.toList.length = 0 ∨ RepOk (k + 1 - (txt (drnd q k)).data.toList.length)) :
    Calls Tryz.prog 11 #[.agg #[.bool (ng q.num), .slice A n c, .slice D m d], .int .i64 (k : Int)] w fun e w' => e = .returned (.string S) ∧ Below w.heap.size w w' := by
  have hl := h.lens hn
  have := decimal_any (ng q.num) A n c _ D m d _ k w h.n h.d hl.1 hl.2 hk htab (by rw [rv_z]; exact hR)
  rwa [rv_z, hS] at this
theorem txt_d {N : Nat} (h : N < 10) : (txt N).data.toList = [UInt8.ofNat (48 + N)] := by rw [txt_list, Lib.decDigits_one h]
theorem txt_12 : (txt 12).data.toList = [49, 50] := by
  rw [txt_list, Lib.decDigits_two (by decide) (by decide)]; rfl
theorem qtxt_32 : qtxt (Rat.divInt 6 (-4)) = ⟨#[45, 51, 47, 50]⟩ := by
  have e1 : (Rat.divInt 6 (-4)).num = -3 := by decide +kernel
  have e2 : (Rat.divInt 6 (-4)).den = 2 := by decide +kernel
  unfold qtxt
  rw [e1, e2, if_neg (by decide)]
  apply bs_inj
  have t3 := txt_d (show 3 < 10 by decide)
  have t2 := txt_d (show 2 < 10 by decide)
  rw [app_list, app_list, show ((2 : Nat) : Int) = 2 from rfl, show itxt 2 = txt 2 from rfl, show itxt (-3) = ⟨#[45]⟩ ++ txt 3 from rfl, app_list, t3, t2]
  rfl
theorem qtxt_18 : qtxt (Rat.divInt 1 8) = ⟨#[49, 47, 56]⟩ := by
  have e1 : (Rat.divInt 1 8).num = 1 := by decide +kernel
  have e2 : (Rat.divInt 1 8).den = 8 := by decide +kernel
  unfold qtxt
  rw [e1, e2, if_neg (by decide)]
  apply bs_inj
  have t3 := txt_d (show 1 < 10 by decide)
  have t2 := txt_d (show 8 < 10 by decide)
  rw [app_list, app_list, show ((8 : Nat) : Int) = 8 from rfl, show itxt 8 = txt 8 from rfl, show itxt 1 = txt 1 from rfl, t3, t2]
  rfl
theorem drnd_18 : drnd (Rat.divInt 1 8) 2 = 12 := by decide +kernel
theorem dtxt_18 : dtxt (Rat.divInt 1 8) 2 = ⟨#[48, 46, 49, 50]⟩ := by
  have e1 : ng (Rat.divInt 1 8).num = false := by decide +kernel
  unfold dtxt dbody
  rw [e1, drnd_18, txt_12, if_neg (by simp)]
  rfl
def s125 : ByteArray := ⟨#[49, 46, 50, 53, 48, 101, 45, 49]⟩
theorem p_125 : pQ s125 = Rat.divInt 1 8 ∧ pOk s125 = true ∧ p1q (rest s125) = Rat.divInt 1 8 := by decide +kernel
theorem rs_18 : Rs (Rat.divInt 1 8) 1 := ⟨by decide +kernel, by decide +kernel⟩
theorem rs_32 : Rs (Rat.divInt 6 (-4)) 1 := ⟨by decide +kernel, by decide +kernel⟩
theorem iv_6 : iv false [6] = 6 ∧ iv true [4] = -4 ∧ mkE (-4) = 0 := by decide +kernel

set_option maxHeartbeats 4000000 in
theorem awakeR_any (w : World) (htab : Tab w) : Calls Tryz.prog 5 #[] w fun e w' => e = .returned (.bool true) ∧ Below w.heap.size w w' := by
  have O1 := (Own.lit w [6] (by intro x hx; simp at hx; omega)).rd0 1 (Nat.le_refl 1)
  have O2 := (Own.lit (w.alloc (.cells #[.int .u32 6] 38)) [4] (by intro x hx; simp at hx; omega)).rd0 1 (Nat.le_refl 1)
  have O3 := Rd.alloc (show Rd (w.alloc (.cells #[.int .u32 6] 38)) (some ⟨w.heap.size, 0, none⟩) 1 1 [6] from O1) (.cells #[.int .u32 4] 38)
  have O4 : Rd ((w.alloc (.cells #[.int .u32 6] 38)).alloc (.cells #[.int .u32 4] 38)) (some ⟨w.heap.size + 1, 0, none⟩) 1 1 [4] := by
    have := O2; rwa [show (w.alloc (.cells #[.int .u32 6] 38)).heap.size = w.heap.size + 1 by simp] at this
  have S := ((St.new w).call (two_bel w (.cells #[.int .u32 6] 38) (.cells #[.int .u32 4] 38)))
  have hM := make_any false _ 1 1 [6] true _ 1 1 [4] _ O3 O4 (by decide) (by decide)
  rw [iv_6.1, iv_6.2.1, iv_6.2.2] at hM
  have hP : ∀ W, Calls Tryz.prog 6 #[.string s125] W (RetRE (Rat.divInt 1 8) (.bool true) W) := fun W => by
    have := parseR_any s125 W (by decide) (by rw [p_125.2.2]; exact rs_18.mono (by decide))
    rwa [p_125.1, p_125.2.1] at this
  have hF1 : Hid (∀ W A n c D m d, RR W A n c D m d (Rat.divInt 6 (-4)) → Tab W → Calls Tryz.prog 8 #[.agg #[.bool (ng (Rat.divInt 6 (-4)).num), .slice A n c, .slice D m d]] W fun e w' => e = .returned (.string ⟨#[45, 51, 47, 50]⟩) ∧ Below W.heap.size W w') := Lib.hid fun W A n c D m d h t => formatQ_any _ A n c D m d W _ h (rs_32.mono (by decide)) t qtxt_32
  have hF2 : Hid (∀ W A n c D m d, RR W A n c D m d (Rat.divInt 1 8) → Tab W → Calls Tryz.prog 8 #[.agg #[.bool (ng (Rat.divInt 1 8).num), .slice A n c, .slice D m d]] W fun e w' => e = .returned (.string ⟨#[49, 47, 56]⟩) ∧ Below W.heap.size W w') := Lib.hid fun W A n c D m d h t => formatQ_any _ A n c D m d W _ h (rs_18.mono (by decide)) t qtxt_18
  have hD2 : Hid (∀ W A n c D m d, RR W A n c D m d (Rat.divInt 1 8) → Tab W → Calls Tryz.prog 11 #[.agg #[.bool (ng (Rat.divInt 1 8).num), .slice A n c, .slice D m d], .int .i64 2] W fun e w' => e = .returned (.string ⟨#[48, 46, 49, 50]⟩) ∧ Below W.heap.size W w') := Lib.hid fun W A n c D m d h t => decimalQ_any _ 2 A n c D m d W _ h (rs_18.mono (by decide)) (by decide) t dtxt_18 (by rw [drnd_18, txt_12]; exact .inr repeat_one)
  unfold s125 at hP
  unfold RetRE at hP hM
  generalize Rat.divInt 6 (-4) = q1 at *
  generalize Rat.divInt 1 8 = q2 at *
  replace hM := Lib.hid hM
  replace hP := Lib.hid hP
  replace htab := Lib.hid htab
  clear O1 O2 O3 O4
  replace S := Lib.hid S
  go_enter Tryz.func5, Tryz.ntmps5
  go_wp2_with fail
  refine (hM.out).mono ?_
  rintro e w1 ⟨A1, n1, c1, D1, m1, d1, rfl, Q, bb⟩
  have T := (((S.out.call bb).read Q.n).read Q.d)
  clear bb S
  have S := T
  clear T
  replace S := Lib.hid S
  clear Q hM
  have S : St w _ [(w1.heap.size, #[.bool (ng q1.num), .slice A1 n1 c1, .slice D1 m1 d1], 26)] [(D1, m1, d1, dn q1), (A1, n1, c1, limbs q1.num.natAbs)] := (S.out.allocAt (w1.heap.size) #[.bool (ng q1.num), .slice A1 n1 c1, .slice D1 m1 d1] 26 (noL3 _ _ _ _ _ _ _) (by simp))
  replace S := Lib.hid S
  go_wp2_with fail
  refine (hP.out _).mono ?_
  rintro e w2 ⟨A2, n2, c2, D2, m2, d2, rfl, Q, bb⟩
  have T := (((S.out.call bb).read Q.n).read Q.d)
  clear bb S
  have S := T
  clear T
  have c_x0 := S.cl 0 0 rfl rfl
  have f_x0 := S.f 0 0 rfl
  have c_x1 := S.cl 0 1 rfl rfl
  have f_x1 := S.f 0 1 rfl
  have c_x2 := S.cl 0 2 rfl rfl
  have f_x2 := S.f 0 2 rfl
  have hz : w1.heap.size < w2.heap.size := S.lt 0 rfl
  replace S := Lib.hid S
  clear Q hP
  have S : St w _ [(w2.heap.size, #[.bool (ng q2.num), .slice A2 n2 c2, .slice D2 m2 d2], 26), (w1.heap.size, #[.bool (ng q1.num), .slice A1 n1 c1, .slice D1 m1 d1], 26)] [(D2, m2, d2, dn q2), (A2, n2, c2, limbs q2.num.natAbs), (D1, m1, d1, dn q1), (A1, n1, c1, limbs q1.num.natAbs)] := (S.out.allocAt (w2.heap.size) #[.bool (ng q2.num), .slice A2 n2 c2, .slice D2 m2 d2] 26 (noL3 _ _ _ _ _ _ _) (by simp))
  have a_x0 := S.cl 1 0 rfl rfl
  have b_x0 := S.f 1 0 rfl
  have a_x1 := S.cl 1 1 rfl rfl
  have b_x1 := S.f 1 1 rfl
  have a_x2 := S.cl 1 2 rfl rfl
  have b_x2 := S.f 1 2 rfl
  replace S := Lib.hid S
  go_wp2_with fail
  refine (hF1.out _ _ _ _ _ _ _ ⟨(S.out.r 3 rfl), (S.out.r 2 rfl)⟩ (tab_below htab.out S.out.bel)).mono ?_
  rintro e w3 ⟨rfl, bb⟩
  have T := (S.out.call bb)
  clear bb S c_x0 f_x0 c_x1 f_x1 c_x2 f_x2 hz a_x0 b_x0 a_x1 b_x1 a_x2 b_x2
  have S := T
  clear T
  have c_y0 := S.cl 0 0 rfl rfl
  have f_y0 := S.f 0 0 rfl
  have c_y1 := S.cl 0 1 rfl rfl
  have f_y1 := S.f 0 1 rfl
  have c_y2 := S.cl 0 2 rfl rfl
  have f_y2 := S.f 0 2 rfl
  have c_x0 := S.cl 1 0 rfl rfl
  have f_x0 := S.f 1 0 rfl
  have c_x1 := S.cl 1 1 rfl rfl
  have f_x1 := S.f 1 1 rfl
  have c_x2 := S.cl 1 2 rfl rfl
  have f_x2 := S.f 1 2 rfl
  have hz : w2.heap.size < w3.heap.size := S.lt 0 rfl
  replace S := Lib.hid S
  clear hF1
  go_wp2_with fail
  refine (hF2.out _ _ _ _ _ _ _ ⟨(S.out.r 1 rfl), (S.out.r 0 rfl)⟩ (tab_below htab.out S.out.bel)).mono ?_
  rintro e w4 ⟨rfl, bb⟩
  have T := (S.out.call bb)
  clear bb S c_y0 f_y0 c_y1 f_y1 c_y2 f_y2 c_x0 f_x0 c_x1 f_x1 c_x2 f_x2 hz
  have S := T
  clear T
  have c_y0 := S.cl 0 0 rfl rfl
  have f_y0 := S.f 0 0 rfl
  have c_y1 := S.cl 0 1 rfl rfl
  have f_y1 := S.f 0 1 rfl
  have c_y2 := S.cl 0 2 rfl rfl
  have f_y2 := S.f 0 2 rfl
  have c_x0 := S.cl 1 0 rfl rfl
  have f_x0 := S.f 1 0 rfl
  have c_x1 := S.cl 1 1 rfl rfl
  have f_x1 := S.f 1 1 rfl
  have c_x2 := S.cl 1 2 rfl rfl
  have f_x2 := S.f 1 2 rfl
  have hz : w2.heap.size < w4.heap.size := S.lt 0 rfl
  replace S := Lib.hid S
  clear hF2
  go_wp2_with fail
  refine (hD2.out _ _ _ _ _ _ _ ⟨(S.out.r 1 rfl), (S.out.r 0 rfl)⟩ (tab_below htab.out S.out.bel)).mono ?_
  rintro e w5 ⟨rfl, bb⟩
  have T := (S.out.call bb)
  clear bb S c_y0 f_y0 c_y1 f_y1 c_y2 f_y2 c_x0 f_x0 c_x1 f_x1 c_x2 f_x2 hz
  have S := T
  clear T
  have c_y0 := S.cl 0 0 rfl rfl
  have f_y0 := S.f 0 0 rfl
  have c_y1 := S.cl 0 1 rfl rfl
  have f_y1 := S.f 0 1 rfl
  have c_y2 := S.cl 0 2 rfl rfl
  have f_y2 := S.f 0 2 rfl
  have c_x0 := S.cl 1 0 rfl rfl
  have f_x0 := S.f 1 0 rfl
  have c_x1 := S.cl 1 1 rfl rfl
  have f_x1 := S.f 1 1 rfl
  have c_x2 := S.cl 1 2 rfl rfl
  have f_x2 := S.f 1 2 rfl
  have hz : w2.heap.size < w5.heap.size := S.lt 0 rfl
  replace S := Lib.hid S
  clear hD2
  have S : St w _ [(w2.heap.size, #[.bool (ng q2.num), .slice A2 n2 c2, .slice D2 m2 d2], 26), (w1.heap.size, #[.bool (ng q1.num), .slice A1 n1 c1, .slice D1 m1 d1], 26)] [(D2, m2, d2, dn q2), (A2, n2, c2, limbs q2.num.natAbs), (D1, m1, d1, dn q1), (A1, n1, c1, limbs q1.num.natAbs)] := S.out
  replace S := Lib.hid S
  go_wp2
  go_ret
  exact ⟨rfl, S.out.bel⟩
end Go.Proofs.YthlnhmdpimoojaaGreatDoor
