/- The reference's reader: digit. -/
import Derived.Test.YtjebpmjbdchdlaaDoorM15
namespace Go.Proofs.YtjebpmjbdchdlaaDoor
open Go.RowKit
set_option linter.unusedVariables false

/-- Is the byte at a place a digit? -/
def nxD (t : ByteArray) (q : Nat) : Bool := match t.data.toList[q]? with
  | some d => digB d
  | Option.none => false
/-- The number of one digit at a place, or -1. -/
def dgV (t : ByteArray) (q : Nat) (er : Int) : Int := if 48 ≤ sgV t q er ∧ sgV t q er ≤ 57 ∧ nxD t (q + 1) = false then (sgV t q er : Int) - 48 else -1

set_option maxRecDepth 100000 in
set_option maxHeartbeats 4000000 in
theorem digit_any (t : ByteArray) (p : Nat) (er : Int) (pl : Nat) (rb : Nat) (bs : List GBk) (rs : List GRd) (w0 w : World) (S0 : St w0 w ((rb, r9C t p er pl, 40) :: bs) rs) (ht : t.size ≤ 100000) (hp : p ≤ 100100) : Calls Tryd.prog 66 #[.pointer (some ⟨rb, 0, none⟩)] w fun E w' => E = .returned (.int .i64 (dgV t (blN t p) er)) ∧ St w0 w' ((rb, r9C t (blN t p) er pl, 40) :: bs) rs := by
  have hG : Hid (∀ W, St w0 W ((rb, r9C t p er pl, 40) :: bs) rs → Calls Tryd.prog 14 #[.pointer (some ⟨rb, 0, none⟩)] W fun E w' => E = .returned (.int .u8 (sgV t (blN t p) er)) ∧ St w0 w' ((rb, r9C t (blN t p) er pl, 40) :: bs) rs) := Lib.hid fun W hW => sign_any t p er pl rb bs rs w0 W hW ht hp
  have hbl := bl_le ht hp
  obtain ⟨v, hdg⟩ : ∃ v, v = dgV t (blN t p) er := ⟨_, rfl⟩
  rw [← hdg]
  unfold dgV at hdg
  have hz5 : sgV t (blN t p) er < 256 := by rw [sg_byte]; exact UInt8.toNat_lt _
  generalize sgV t (blN t p) er = z at *
  generalize blN t p = q at *
  obtain ⟨m, hm⟩ : ∃ m, m = q + 1 := ⟨_, rfl⟩
  rw [← hm] at hdg
  have hm2 : (q : Int) + 1 = (m : Int) := by omega
  have hm5 : m ≤ 100101 := by omega
  have g9 : (0 : Int) ≤ (m : Int) := by omega
  replace S0 := Lib.hid S0
  clear ht hp hbl hm
  by_cases h1 : z < 48
  · rw [if_neg (by omega)] at hdg
    subst hdg
    have g1 : (z : Int) < 48 := by omega
    clear h1
    go_enter Tryd.func66, Tryd.ntmps66
    go_wp2_with fail
    refine (hG.out _ S0.out).mono ?_
    rintro e w1 ⟨rfl, S⟩
    clear S0 hG
    have c_0 := S.cl 0 0 rfl rfl
    have c_1 := S.cl 0 1 rfl rfl
    have hlt0 := S.lt 0 rfl
    replace S := Lib.hid S
    go_upto_region 2 with fail
    have hbase := Lib.hid (St.new w1)
    refine RW.begin (Z := []) (S := (fun W => Below w1.heap.size w1 W)) (by kernel_rfl) ?_ hbase.out ?_
    · exact ⟨by kernel_rfl, zis_nil, by decide, by decide, nol_nil, (fun _ _ h => h.bel)⟩
    intro hzk
    refine RW.t (i := 0) (v := .int .u8 z) (some 6) at0 (hy := fun _ _ => by kernel_rfl) (h := ?_)
    refine RW.t (i := 1) (v := .bool true) (some 7) at1 (hy := fun _ _ => by go_simp) (h := ?_)
    refine RW.t (i := 2) (v := .bool true) (some 8) at2 (hy := fun _ _ => by kernel_rfl) (h := ?_)
    refine RW.u (i := 3) (some 9) at3 (h := ?_)
    refine RW.u (i := 4) (some 10) at4 (h := ?_)
    refine RW.t (i := 5) (v := .bool true) (some 11) at5 (hy := fun _ _ => by kernel_rfl) (h := ?_)
    refine RW.t (i := 6) (v := .bool true) (some 12) at6 (hy := fun _ _ => by kernel_rfl) (h := ?_)
    refine RW.u (i := 7) (some 13) at7 (h := ?_)
    refine RW.u (i := 8) (some 14) at8 (h := ?_)
    refine RW.u (i := 9) (some 15) at9 (h := ?_)
    refine RW.u (i := 10) (some 16) at10 (h := ?_)
    refine RW.u (i := 11) (some 17) at11 (h := ?_)
    refine RW.u (i := 12) (some 18) at12 (h := ?_)
    refine RW.u (i := 13) (some 19) at13 (h := ?_)
    refine RW.u (i := 14) (some 20) at14 (h := ?_)
    refine RW.u (i := 15) (some 21) at15 (h := ?_)
    refine RW.u (i := 16) (some 22) at16 (h := ?_)
    refine RW.u (i := 17) (some 23) at17 (h := ?_)
    refine RW.u (i := 18) (some 24) at18 (h := ?_)
    refine RW.u (i := 19) (some 25) at19 (h := ?_)
    refine RW.u (i := 20) (some 26) at20 (h := ?_)
    refine RW.u (i := 21) (some 27) at21 (h := ?_)
    refine RW.u (i := 22) (some 28) at22 (h := ?_)
    refine RW.u (i := 23) (some 29) at23 (h := ?_)
    refine RW.u (i := 24) (some 30) at24 (h := ?_)
    refine RW.u (i := 25) (some 31) at25 (h := ?_)
    refine RW.u (i := 26) (some 32) at26 (h := ?_)
    refine RW.u (i := 27) (some 33) at27 (h := ?_)
    refine RW.u (i := 28) (some 34) at28 (h := ?_)
    refine RW.u (i := 29) (some 35) at29 (h := ?_)
    refine RW.u (i := 30) (some 36) at30 (h := ?_)
    refine RW.u (i := 31) (some 37) at31 (h := ?_)
    refine RW.u (i := 32) (some 38) at32 (h := ?_)
    refine RW.u (i := 33) (some 39) at33 (h := ?_)
    refine RW.u (i := 34) (some 40) at34 (h := ?_)
    refine RW.u (i := 35) (some 41) at35 (h := ?_)
    refine RW.u (i := 36) (some 42) at36 (h := ?_)
    refine RW.u (i := 37) (some 43) at37 (h := ?_)
    refine RW.u (i := 38) (some 44) at38 (h := ?_)
    refine RW.u (i := 39) (some 45) at39 (h := ?_)
    refine RW.u (i := 40) (some 46) at40 (h := ?_)
    refine RW.u (i := 41) (some 47) at41 (h := ?_)
    refine RW.u (i := 42) (some 48) at42 (h := ?_)
    refine RW.u (i := 43) (some 49) at43 (h := ?_)
    refine RW.t (i := 44) (v := .bool true) (some 50) at44 (hy := fun _ _ => by kernel_rfl) (h := ?_)
    refine RW.tail hzk.out (by kernel_rfl) ?_
    intro gs' w5 hgs' hS Sb
    obtain rfl := len0 hgs'
    simp only [mark, fill, Act.put, List.setIfInBounds_toArray, List.set_cons_zero, List.set_cons_succ]
    refine Wk.done (by kernel_rfl) ?_
    have S5 := Lib.hid (S.out.call hS)
    clear Sb hgs' hzk hbase hS S c_0 c_1 hlt0
    try go_simp
    go_wp2
    go_ret
    exact ⟨by first | rfl | (simp; done) | (simp; omega), S5.out⟩
  · have g1 : ¬ (z : Int) < 48 := by omega
    by_cases h2 : 57 < z
    · rw [if_neg (by omega)] at hdg
      subst hdg
      have g2 : 57 < (z : Int) := by omega
      clear h1 h2
      go_enter Tryd.func66, Tryd.ntmps66
      go_wp2_with fail
      refine (hG.out _ S0.out).mono ?_
      rintro e w1 ⟨rfl, S⟩
      clear S0 hG
      have c_0 := S.cl 0 0 rfl rfl
      have c_1 := S.cl 0 1 rfl rfl
      have hlt0 := S.lt 0 rfl
      replace S := Lib.hid S
      go_upto_region 2 with fail
      have hbase := Lib.hid (St.new w1)
      refine RW.begin (Z := []) (S := (fun W => Below w1.heap.size w1 W)) (by kernel_rfl) ?_ hbase.out ?_
      · exact ⟨by kernel_rfl, zis_nil, by decide, by decide, nol_nil, (fun _ _ h => h.bel)⟩
      intro hzk
      refine RW.t (i := 0) (v := .int .u8 z) (some 6) at0 (hy := fun _ _ => by kernel_rfl) (h := ?_)
      refine RW.t (i := 1) (v := .bool false) (some 7) at1 (hy := fun _ _ => by go_simp) (h := ?_)
      refine RW.t (i := 2) (v := .bool false) (some 8) at2 (hy := fun _ _ => by kernel_rfl) (h := ?_)
      refine RW.t (i := 3) (v := .int .u8 z) (some 9) at3 (hy := fun _ _ => by kernel_rfl) (h := ?_)
      refine RW.t (i := 4) (v := .bool true) (some 10) at4 (hy := fun _ _ => by go_simp) (h := ?_)
      refine RW.t (i := 5) (v := .bool true) (some 11) at5 (hy := fun _ _ => by kernel_rfl) (h := ?_)
      refine RW.t (i := 6) (v := .bool true) (some 12) at6 (hy := fun _ _ => by kernel_rfl) (h := ?_)
      refine RW.u (i := 7) (some 13) at7 (h := ?_)
      refine RW.u (i := 8) (some 14) at8 (h := ?_)
      refine RW.u (i := 9) (some 15) at9 (h := ?_)
      refine RW.u (i := 10) (some 16) at10 (h := ?_)
      refine RW.u (i := 11) (some 17) at11 (h := ?_)
      refine RW.u (i := 12) (some 18) at12 (h := ?_)
      refine RW.u (i := 13) (some 19) at13 (h := ?_)
      refine RW.u (i := 14) (some 20) at14 (h := ?_)
      refine RW.u (i := 15) (some 21) at15 (h := ?_)
      refine RW.u (i := 16) (some 22) at16 (h := ?_)
      refine RW.u (i := 17) (some 23) at17 (h := ?_)
      refine RW.u (i := 18) (some 24) at18 (h := ?_)
      refine RW.u (i := 19) (some 25) at19 (h := ?_)
      refine RW.u (i := 20) (some 26) at20 (h := ?_)
      refine RW.u (i := 21) (some 27) at21 (h := ?_)
      refine RW.u (i := 22) (some 28) at22 (h := ?_)
      refine RW.u (i := 23) (some 29) at23 (h := ?_)
      refine RW.u (i := 24) (some 30) at24 (h := ?_)
      refine RW.u (i := 25) (some 31) at25 (h := ?_)
      refine RW.u (i := 26) (some 32) at26 (h := ?_)
      refine RW.u (i := 27) (some 33) at27 (h := ?_)
      refine RW.u (i := 28) (some 34) at28 (h := ?_)
      refine RW.u (i := 29) (some 35) at29 (h := ?_)
      refine RW.u (i := 30) (some 36) at30 (h := ?_)
      refine RW.u (i := 31) (some 37) at31 (h := ?_)
      refine RW.u (i := 32) (some 38) at32 (h := ?_)
      refine RW.u (i := 33) (some 39) at33 (h := ?_)
      refine RW.u (i := 34) (some 40) at34 (h := ?_)
      refine RW.u (i := 35) (some 41) at35 (h := ?_)
      refine RW.u (i := 36) (some 42) at36 (h := ?_)
      refine RW.u (i := 37) (some 43) at37 (h := ?_)
      refine RW.u (i := 38) (some 44) at38 (h := ?_)
      refine RW.u (i := 39) (some 45) at39 (h := ?_)
      refine RW.u (i := 40) (some 46) at40 (h := ?_)
      refine RW.u (i := 41) (some 47) at41 (h := ?_)
      refine RW.u (i := 42) (some 48) at42 (h := ?_)
      refine RW.u (i := 43) (some 49) at43 (h := ?_)
      refine RW.t (i := 44) (v := .bool true) (some 50) at44 (hy := fun _ _ => by kernel_rfl) (h := ?_)
      refine RW.tail hzk.out (by kernel_rfl) ?_
      intro gs' w5 hgs' hS Sb
      obtain rfl := len0 hgs'
      simp only [mark, fill, Act.put, List.setIfInBounds_toArray, List.set_cons_zero, List.set_cons_succ]
      refine Wk.done (by kernel_rfl) ?_
      have S5 := Lib.hid (S.out.call hS)
      clear Sb hgs' hzk hbase hS S c_0 c_1 hlt0
      try go_simp
      go_wp2
      go_ret
      exact ⟨by first | rfl | (simp; done) | (simp; omega), S5.out⟩
    · have g2 : ¬ 57 < (z : Int) := by omega
      have hz1 : 48 ≤ z := by omega
      have hz2 : z ≤ 57 := by omega
      clear h1 h2
      by_cases hlt : m < t.size
      · have g3 : (m : Int) < (t.size : Int) := by omega
        have hnx : nxD t m = digB t[m] := by unfold nxD; rw [toList_get hlt]
        rw [hnx] at hdg
        clear hnx
        unfold digB at hdg
        by_cases h4 : 48 ≤ t[m].toNat
        · have g4 : (48 : Int) ≤ (t[m].toNat : Int) := by omega
          by_cases h5 : t[m].toNat ≤ 57
          · have g5 : (t[m].toNat : Int) ≤ 57 := by omega
            rw [if_neg (by rw [decide_eq_true h4, decide_eq_true h5]; simp)] at hdg
            subst hdg
            clear h4 h5
            go_enter Tryd.func66, Tryd.ntmps66
            go_wp2_with fail
            refine (hG.out _ S0.out).mono ?_
            rintro e w1 ⟨rfl, S⟩
            clear S0 hG
            have c_0 := S.cl 0 0 rfl rfl
            have c_1 := S.cl 0 1 rfl rfl
            have hlt0 := S.lt 0 rfl
            replace S := Lib.hid S
            go_upto_region 2 with fail
            have hbase := Lib.hid (St.new w1)
            refine RW.begin (Z := []) (S := (fun W => Below w1.heap.size w1 W)) (by kernel_rfl) ?_ hbase.out ?_
            · exact ⟨by kernel_rfl, zis_nil, by decide, by decide, nol_nil, (fun _ _ h => h.bel)⟩
            intro hzk
            refine RW.t (i := 0) (v := .int .u8 z) (some 6) at0 (hy := fun _ _ => by kernel_rfl) (h := ?_)
            refine RW.t (i := 1) (v := .bool false) (some 7) at1 (hy := fun _ _ => by go_simp) (h := ?_)
            refine RW.t (i := 2) (v := .bool false) (some 8) at2 (hy := fun _ _ => by kernel_rfl) (h := ?_)
            refine RW.t (i := 3) (v := .int .u8 z) (some 9) at3 (hy := fun _ _ => by kernel_rfl) (h := ?_)
            refine RW.t (i := 4) (v := .bool false) (some 10) at4 (hy := fun _ _ => by go_simp) (h := ?_)
            refine RW.t (i := 5) (v := .bool false) (some 11) at5 (hy := fun _ _ => by kernel_rfl) (h := ?_)
            refine RW.t (i := 6) (v := .bool false) (some 12) at6 (hy := fun _ _ => by kernel_rfl) (h := ?_)
            refine RW.t (i := 7) (v := .pointer (some ⟨rb, 0, none⟩)) (some 13) at7 (hy := fun _ _ => by kernel_rfl) (h := ?_)
            refine RW.t (i := 8) (v := .pointer (some ⟨rb, 0, none⟩)) (some 14) at8 (hy := fun _ _ => by go_simp) (h := ?_)
            refine RW.t (i := 9) (v := .pointer (some ⟨rb, 1, none⟩)) (some 15) at9 (hy := fun _ _ => by go_simp) (h := ?_)
            refine RW.t (i := 10) (v := .int .i64 q) (some 16) at10 (hy := fun W hS => by (have k0 := bel_cell hS c_1; clear hS; go_simp)) (h := ?_)
            refine RW.t (i := 11) (v := .int .i64 m) (some 17) at11 (hy := fun _ _ => by (go_simp; try rw [IntKind.wrap_i64]; try omega)) (h := ?_)
            refine RW.t (i := 12) (v := .pointer (some ⟨rb, 0, none⟩)) (some 18) at12 (hy := fun _ _ => by kernel_rfl) (h := ?_)
            refine RW.t (i := 13) (v := .pointer (some ⟨rb, 0, none⟩)) (some 19) at13 (hy := fun _ _ => by go_simp) (h := ?_)
            refine RW.t (i := 14) (v := .pointer (some ⟨rb, 0, none⟩)) (some 20) at14 (hy := fun _ _ => by go_simp) (h := ?_)
            refine RW.t (i := 15) (v := .string t) (some 21) at15 (hy := fun W hS => by (have k0 := bel_cell hS c_0; clear hS; go_simp)) (h := ?_)
            refine RW.t (i := 16) (v := .int .i64 t.size) (some 22) at16 (hy := fun _ _ => by go_simp) (h := ?_)
            refine RW.t (i := 17) (v := .bool true) (some 23) at17 (hy := fun _ _ => by go_simp) (h := ?_)
            refine RW.t (i := 18) (v := .bool true) (some 24) at18 (hy := fun _ _ => by kernel_rfl) (h := ?_)
            refine RW.t (i := 19) (v := .pointer (some ⟨rb, 0, none⟩)) (some 25) at19 (hy := fun _ _ => by kernel_rfl) (h := ?_)
            refine RW.t (i := 20) (v := .pointer (some ⟨rb, 0, none⟩)) (some 26) at20 (hy := fun _ _ => by go_simp) (h := ?_)
            refine RW.t (i := 21) (v := .pointer (some ⟨rb, 0, none⟩)) (some 27) at21 (hy := fun _ _ => by go_simp) (h := ?_)
            refine RW.t (i := 22) (v := .string t) (some 28) at22 (hy := fun W hS => by (have k0 := bel_cell hS c_0; clear hS; go_simp)) (h := ?_)
            refine RW.t (i := 23) (v := .pointer (some ⟨rb, 0, none⟩)) (some 29) at23 (hy := fun _ _ => by kernel_rfl) (h := ?_)
            refine RW.t (i := 24) (v := .pointer (some ⟨rb, 0, none⟩)) (some 30) at24 (hy := fun _ _ => by go_simp) (h := ?_)
            refine RW.t (i := 25) (v := .pointer (some ⟨rb, 1, none⟩)) (some 31) at25 (hy := fun _ _ => by go_simp) (h := ?_)
            refine RW.t (i := 26) (v := .int .i64 q) (some 32) at26 (hy := fun W hS => by (have k0 := bel_cell hS c_1; clear hS; go_simp)) (h := ?_)
            refine RW.t (i := 27) (v := .int .i64 m) (some 33) at27 (hy := fun _ _ => by (go_simp; try rw [IntKind.wrap_i64]; try omega)) (h := ?_)
            refine RW.t (i := 28) (v := .int .u8 t[m].toNat) (some 34) at28 (hy := fun _ _ => by (go_simp; try rfl)) (h := ?_)
            refine RW.t (i := 29) (v := .bool true) (some 35) at29 (hy := fun _ _ => by (go_simp; try omega)) (h := ?_)
            refine RW.t (i := 30) (v := .bool true) (some 36) at30 (hy := fun _ _ => by kernel_rfl) (h := ?_)
            refine RW.t (i := 31) (v := .bool true) (some 37) at31 (hy := fun _ _ => by kernel_rfl) (h := ?_)
            refine RW.t (i := 32) (v := .pointer (some ⟨rb, 0, none⟩)) (some 38) at32 (hy := fun _ _ => by kernel_rfl) (h := ?_)
            refine RW.t (i := 33) (v := .pointer (some ⟨rb, 0, none⟩)) (some 39) at33 (hy := fun _ _ => by go_simp) (h := ?_)
            refine RW.t (i := 34) (v := .pointer (some ⟨rb, 0, none⟩)) (some 40) at34 (hy := fun _ _ => by go_simp) (h := ?_)
            refine RW.t (i := 35) (v := .string t) (some 41) at35 (hy := fun W hS => by (have k0 := bel_cell hS c_0; clear hS; go_simp)) (h := ?_)
            refine RW.t (i := 36) (v := .pointer (some ⟨rb, 0, none⟩)) (some 42) at36 (hy := fun _ _ => by kernel_rfl) (h := ?_)
            refine RW.t (i := 37) (v := .pointer (some ⟨rb, 0, none⟩)) (some 43) at37 (hy := fun _ _ => by go_simp) (h := ?_)
            refine RW.t (i := 38) (v := .pointer (some ⟨rb, 1, none⟩)) (some 44) at38 (hy := fun _ _ => by go_simp) (h := ?_)
            refine RW.t (i := 39) (v := .int .i64 q) (some 45) at39 (hy := fun W hS => by (have k0 := bel_cell hS c_1; clear hS; go_simp)) (h := ?_)
            refine RW.t (i := 40) (v := .int .i64 m) (some 46) at40 (hy := fun _ _ => by (go_simp; try rw [IntKind.wrap_i64]; try omega)) (h := ?_)
            refine RW.t (i := 41) (v := .int .u8 t[m].toNat) (some 47) at41 (hy := fun _ _ => by (go_simp; try rfl)) (h := ?_)
            refine RW.t (i := 42) (v := .bool true) (some 48) at42 (hy := fun _ _ => by (go_simp; try omega)) (h := ?_)
            refine RW.t (i := 43) (v := .bool true) (some 49) at43 (hy := fun _ _ => by kernel_rfl) (h := ?_)
            refine RW.t (i := 44) (v := .bool true) (some 50) at44 (hy := fun _ _ => by kernel_rfl) (h := ?_)
            refine RW.tail hzk.out (by kernel_rfl) ?_
            intro gs' w5 hgs' hS Sb
            obtain rfl := len0 hgs'
            simp only [mark, fill, Act.put, List.setIfInBounds_toArray, List.set_cons_zero, List.set_cons_succ]
            refine Wk.done (by kernel_rfl) ?_
            have S5 := Lib.hid (S.out.call hS)
            clear Sb hgs' hzk hbase hS S c_0 c_1 hlt0
            try go_simp
            go_wp2
            go_ret
            exact ⟨by first | rfl | (simp; done) | (simp; omega), S5.out⟩
          · have g5 : ¬ (t[m].toNat : Int) ≤ 57 := by omega
            rw [if_pos ⟨hz1, hz2, by rw [decide_eq_false h5]; simp⟩] at hdg
            subst hdg
            clear h4 h5
            go_enter Tryd.func66, Tryd.ntmps66
            go_wp2_with fail
            refine (hG.out _ S0.out).mono ?_
            rintro e w1 ⟨rfl, S⟩
            clear S0 hG
            have c_0 := S.cl 0 0 rfl rfl
            have c_1 := S.cl 0 1 rfl rfl
            have hlt0 := S.lt 0 rfl
            replace S := Lib.hid S
            go_upto_region 2 with fail
            have hbase := Lib.hid (St.new w1)
            refine RW.begin (Z := []) (S := (fun W => Below w1.heap.size w1 W)) (by kernel_rfl) ?_ hbase.out ?_
            · exact ⟨by kernel_rfl, zis_nil, by decide, by decide, nol_nil, (fun _ _ h => h.bel)⟩
            intro hzk
            refine RW.t (i := 0) (v := .int .u8 z) (some 6) at0 (hy := fun _ _ => by kernel_rfl) (h := ?_)
            refine RW.t (i := 1) (v := .bool false) (some 7) at1 (hy := fun _ _ => by go_simp) (h := ?_)
            refine RW.t (i := 2) (v := .bool false) (some 8) at2 (hy := fun _ _ => by kernel_rfl) (h := ?_)
            refine RW.t (i := 3) (v := .int .u8 z) (some 9) at3 (hy := fun _ _ => by kernel_rfl) (h := ?_)
            refine RW.t (i := 4) (v := .bool false) (some 10) at4 (hy := fun _ _ => by go_simp) (h := ?_)
            refine RW.t (i := 5) (v := .bool false) (some 11) at5 (hy := fun _ _ => by kernel_rfl) (h := ?_)
            refine RW.t (i := 6) (v := .bool false) (some 12) at6 (hy := fun _ _ => by kernel_rfl) (h := ?_)
            refine RW.t (i := 7) (v := .pointer (some ⟨rb, 0, none⟩)) (some 13) at7 (hy := fun _ _ => by kernel_rfl) (h := ?_)
            refine RW.t (i := 8) (v := .pointer (some ⟨rb, 0, none⟩)) (some 14) at8 (hy := fun _ _ => by go_simp) (h := ?_)
            refine RW.t (i := 9) (v := .pointer (some ⟨rb, 1, none⟩)) (some 15) at9 (hy := fun _ _ => by go_simp) (h := ?_)
            refine RW.t (i := 10) (v := .int .i64 q) (some 16) at10 (hy := fun W hS => by (have k0 := bel_cell hS c_1; clear hS; go_simp)) (h := ?_)
            refine RW.t (i := 11) (v := .int .i64 m) (some 17) at11 (hy := fun _ _ => by (go_simp; try rw [IntKind.wrap_i64]; try omega)) (h := ?_)
            refine RW.t (i := 12) (v := .pointer (some ⟨rb, 0, none⟩)) (some 18) at12 (hy := fun _ _ => by kernel_rfl) (h := ?_)
            refine RW.t (i := 13) (v := .pointer (some ⟨rb, 0, none⟩)) (some 19) at13 (hy := fun _ _ => by go_simp) (h := ?_)
            refine RW.t (i := 14) (v := .pointer (some ⟨rb, 0, none⟩)) (some 20) at14 (hy := fun _ _ => by go_simp) (h := ?_)
            refine RW.t (i := 15) (v := .string t) (some 21) at15 (hy := fun W hS => by (have k0 := bel_cell hS c_0; clear hS; go_simp)) (h := ?_)
            refine RW.t (i := 16) (v := .int .i64 t.size) (some 22) at16 (hy := fun _ _ => by go_simp) (h := ?_)
            refine RW.t (i := 17) (v := .bool true) (some 23) at17 (hy := fun _ _ => by go_simp) (h := ?_)
            refine RW.t (i := 18) (v := .bool true) (some 24) at18 (hy := fun _ _ => by kernel_rfl) (h := ?_)
            refine RW.t (i := 19) (v := .pointer (some ⟨rb, 0, none⟩)) (some 25) at19 (hy := fun _ _ => by kernel_rfl) (h := ?_)
            refine RW.t (i := 20) (v := .pointer (some ⟨rb, 0, none⟩)) (some 26) at20 (hy := fun _ _ => by go_simp) (h := ?_)
            refine RW.t (i := 21) (v := .pointer (some ⟨rb, 0, none⟩)) (some 27) at21 (hy := fun _ _ => by go_simp) (h := ?_)
            refine RW.t (i := 22) (v := .string t) (some 28) at22 (hy := fun W hS => by (have k0 := bel_cell hS c_0; clear hS; go_simp)) (h := ?_)
            refine RW.t (i := 23) (v := .pointer (some ⟨rb, 0, none⟩)) (some 29) at23 (hy := fun _ _ => by kernel_rfl) (h := ?_)
            refine RW.t (i := 24) (v := .pointer (some ⟨rb, 0, none⟩)) (some 30) at24 (hy := fun _ _ => by go_simp) (h := ?_)
            refine RW.t (i := 25) (v := .pointer (some ⟨rb, 1, none⟩)) (some 31) at25 (hy := fun _ _ => by go_simp) (h := ?_)
            refine RW.t (i := 26) (v := .int .i64 q) (some 32) at26 (hy := fun W hS => by (have k0 := bel_cell hS c_1; clear hS; go_simp)) (h := ?_)
            refine RW.t (i := 27) (v := .int .i64 m) (some 33) at27 (hy := fun _ _ => by (go_simp; try rw [IntKind.wrap_i64]; try omega)) (h := ?_)
            refine RW.t (i := 28) (v := .int .u8 t[m].toNat) (some 34) at28 (hy := fun _ _ => by (go_simp; try rfl)) (h := ?_)
            refine RW.t (i := 29) (v := .bool true) (some 35) at29 (hy := fun _ _ => by (go_simp; try omega)) (h := ?_)
            refine RW.t (i := 30) (v := .bool true) (some 36) at30 (hy := fun _ _ => by kernel_rfl) (h := ?_)
            refine RW.t (i := 31) (v := .bool true) (some 37) at31 (hy := fun _ _ => by kernel_rfl) (h := ?_)
            refine RW.t (i := 32) (v := .pointer (some ⟨rb, 0, none⟩)) (some 38) at32 (hy := fun _ _ => by kernel_rfl) (h := ?_)
            refine RW.t (i := 33) (v := .pointer (some ⟨rb, 0, none⟩)) (some 39) at33 (hy := fun _ _ => by go_simp) (h := ?_)
            refine RW.t (i := 34) (v := .pointer (some ⟨rb, 0, none⟩)) (some 40) at34 (hy := fun _ _ => by go_simp) (h := ?_)
            refine RW.t (i := 35) (v := .string t) (some 41) at35 (hy := fun W hS => by (have k0 := bel_cell hS c_0; clear hS; go_simp)) (h := ?_)
            refine RW.t (i := 36) (v := .pointer (some ⟨rb, 0, none⟩)) (some 42) at36 (hy := fun _ _ => by kernel_rfl) (h := ?_)
            refine RW.t (i := 37) (v := .pointer (some ⟨rb, 0, none⟩)) (some 43) at37 (hy := fun _ _ => by go_simp) (h := ?_)
            refine RW.t (i := 38) (v := .pointer (some ⟨rb, 1, none⟩)) (some 44) at38 (hy := fun _ _ => by go_simp) (h := ?_)
            refine RW.t (i := 39) (v := .int .i64 q) (some 45) at39 (hy := fun W hS => by (have k0 := bel_cell hS c_1; clear hS; go_simp)) (h := ?_)
            refine RW.t (i := 40) (v := .int .i64 m) (some 46) at40 (hy := fun _ _ => by (go_simp; try rw [IntKind.wrap_i64]; try omega)) (h := ?_)
            refine RW.t (i := 41) (v := .int .u8 t[m].toNat) (some 47) at41 (hy := fun _ _ => by (go_simp; try rfl)) (h := ?_)
            refine RW.t (i := 42) (v := .bool false) (some 48) at42 (hy := fun _ _ => by (go_simp; try omega)) (h := ?_)
            refine RW.t (i := 43) (v := .bool false) (some 49) at43 (hy := fun _ _ => by kernel_rfl) (h := ?_)
            refine RW.t (i := 44) (v := .bool false) (some 50) at44 (hy := fun _ _ => by kernel_rfl) (h := ?_)
            refine RW.tail hzk.out (by kernel_rfl) ?_
            intro gs' w5 hgs' hS Sb
            obtain rfl := len0 hgs'
            simp only [mark, fill, Act.put, List.setIfInBounds_toArray, List.set_cons_zero, List.set_cons_succ]
            refine Wk.done (by kernel_rfl) ?_
            have S5 := Lib.hid (S.out.call hS)
            clear Sb hgs' hzk hbase hS S c_0 c_1 hlt0
            try go_simp
            go_wp2
            go_ret
            exact ⟨by first | rfl | (simp; done) | (simp; omega), S5.out⟩
        · have g4 : ¬ (48 : Int) ≤ (t[m].toNat : Int) := by omega
          rw [if_pos ⟨hz1, hz2, by rw [decide_eq_false h4]; simp⟩] at hdg
          subst hdg
          clear h4
          go_enter Tryd.func66, Tryd.ntmps66
          go_wp2_with fail
          refine (hG.out _ S0.out).mono ?_
          rintro e w1 ⟨rfl, S⟩
          clear S0 hG
          have c_0 := S.cl 0 0 rfl rfl
          have c_1 := S.cl 0 1 rfl rfl
          have hlt0 := S.lt 0 rfl
          replace S := Lib.hid S
          go_upto_region 2 with fail
          have hbase := Lib.hid (St.new w1)
          refine RW.begin (Z := []) (S := (fun W => Below w1.heap.size w1 W)) (by kernel_rfl) ?_ hbase.out ?_
          · exact ⟨by kernel_rfl, zis_nil, by decide, by decide, nol_nil, (fun _ _ h => h.bel)⟩
          intro hzk
          refine RW.t (i := 0) (v := .int .u8 z) (some 6) at0 (hy := fun _ _ => by kernel_rfl) (h := ?_)
          refine RW.t (i := 1) (v := .bool false) (some 7) at1 (hy := fun _ _ => by go_simp) (h := ?_)
          refine RW.t (i := 2) (v := .bool false) (some 8) at2 (hy := fun _ _ => by kernel_rfl) (h := ?_)
          refine RW.t (i := 3) (v := .int .u8 z) (some 9) at3 (hy := fun _ _ => by kernel_rfl) (h := ?_)
          refine RW.t (i := 4) (v := .bool false) (some 10) at4 (hy := fun _ _ => by go_simp) (h := ?_)
          refine RW.t (i := 5) (v := .bool false) (some 11) at5 (hy := fun _ _ => by kernel_rfl) (h := ?_)
          refine RW.t (i := 6) (v := .bool false) (some 12) at6 (hy := fun _ _ => by kernel_rfl) (h := ?_)
          refine RW.t (i := 7) (v := .pointer (some ⟨rb, 0, none⟩)) (some 13) at7 (hy := fun _ _ => by kernel_rfl) (h := ?_)
          refine RW.t (i := 8) (v := .pointer (some ⟨rb, 0, none⟩)) (some 14) at8 (hy := fun _ _ => by go_simp) (h := ?_)
          refine RW.t (i := 9) (v := .pointer (some ⟨rb, 1, none⟩)) (some 15) at9 (hy := fun _ _ => by go_simp) (h := ?_)
          refine RW.t (i := 10) (v := .int .i64 q) (some 16) at10 (hy := fun W hS => by (have k0 := bel_cell hS c_1; clear hS; go_simp)) (h := ?_)
          refine RW.t (i := 11) (v := .int .i64 m) (some 17) at11 (hy := fun _ _ => by (go_simp; try rw [IntKind.wrap_i64]; try omega)) (h := ?_)
          refine RW.t (i := 12) (v := .pointer (some ⟨rb, 0, none⟩)) (some 18) at12 (hy := fun _ _ => by kernel_rfl) (h := ?_)
          refine RW.t (i := 13) (v := .pointer (some ⟨rb, 0, none⟩)) (some 19) at13 (hy := fun _ _ => by go_simp) (h := ?_)
          refine RW.t (i := 14) (v := .pointer (some ⟨rb, 0, none⟩)) (some 20) at14 (hy := fun _ _ => by go_simp) (h := ?_)
          refine RW.t (i := 15) (v := .string t) (some 21) at15 (hy := fun W hS => by (have k0 := bel_cell hS c_0; clear hS; go_simp)) (h := ?_)
          refine RW.t (i := 16) (v := .int .i64 t.size) (some 22) at16 (hy := fun _ _ => by go_simp) (h := ?_)
          refine RW.t (i := 17) (v := .bool true) (some 23) at17 (hy := fun _ _ => by go_simp) (h := ?_)
          refine RW.t (i := 18) (v := .bool true) (some 24) at18 (hy := fun _ _ => by kernel_rfl) (h := ?_)
          refine RW.t (i := 19) (v := .pointer (some ⟨rb, 0, none⟩)) (some 25) at19 (hy := fun _ _ => by kernel_rfl) (h := ?_)
          refine RW.t (i := 20) (v := .pointer (some ⟨rb, 0, none⟩)) (some 26) at20 (hy := fun _ _ => by go_simp) (h := ?_)
          refine RW.t (i := 21) (v := .pointer (some ⟨rb, 0, none⟩)) (some 27) at21 (hy := fun _ _ => by go_simp) (h := ?_)
          refine RW.t (i := 22) (v := .string t) (some 28) at22 (hy := fun W hS => by (have k0 := bel_cell hS c_0; clear hS; go_simp)) (h := ?_)
          refine RW.t (i := 23) (v := .pointer (some ⟨rb, 0, none⟩)) (some 29) at23 (hy := fun _ _ => by kernel_rfl) (h := ?_)
          refine RW.t (i := 24) (v := .pointer (some ⟨rb, 0, none⟩)) (some 30) at24 (hy := fun _ _ => by go_simp) (h := ?_)
          refine RW.t (i := 25) (v := .pointer (some ⟨rb, 1, none⟩)) (some 31) at25 (hy := fun _ _ => by go_simp) (h := ?_)
          refine RW.t (i := 26) (v := .int .i64 q) (some 32) at26 (hy := fun W hS => by (have k0 := bel_cell hS c_1; clear hS; go_simp)) (h := ?_)
          refine RW.t (i := 27) (v := .int .i64 m) (some 33) at27 (hy := fun _ _ => by (go_simp; try rw [IntKind.wrap_i64]; try omega)) (h := ?_)
          refine RW.t (i := 28) (v := .int .u8 t[m].toNat) (some 34) at28 (hy := fun _ _ => by (go_simp; try rfl)) (h := ?_)
          refine RW.t (i := 29) (v := .bool false) (some 35) at29 (hy := fun _ _ => by (go_simp; try omega)) (h := ?_)
          refine RW.t (i := 30) (v := .bool false) (some 36) at30 (hy := fun _ _ => by kernel_rfl) (h := ?_)
          refine RW.t (i := 31) (v := .bool false) (some 37) at31 (hy := fun _ _ => by kernel_rfl) (h := ?_)
          refine RW.u (i := 32) (some 38) at32 (h := ?_)
          refine RW.u (i := 33) (some 39) at33 (h := ?_)
          refine RW.u (i := 34) (some 40) at34 (h := ?_)
          refine RW.u (i := 35) (some 41) at35 (h := ?_)
          refine RW.u (i := 36) (some 42) at36 (h := ?_)
          refine RW.u (i := 37) (some 43) at37 (h := ?_)
          refine RW.u (i := 38) (some 44) at38 (h := ?_)
          refine RW.u (i := 39) (some 45) at39 (h := ?_)
          refine RW.u (i := 40) (some 46) at40 (h := ?_)
          refine RW.u (i := 41) (some 47) at41 (h := ?_)
          refine RW.u (i := 42) (some 48) at42 (h := ?_)
          refine RW.t (i := 43) (v := .bool false) (some 49) at43 (hy := fun _ _ => by kernel_rfl) (h := ?_)
          refine RW.t (i := 44) (v := .bool false) (some 50) at44 (hy := fun _ _ => by kernel_rfl) (h := ?_)
          refine RW.tail hzk.out (by kernel_rfl) ?_
          intro gs' w5 hgs' hS Sb
          obtain rfl := len0 hgs'
          simp only [mark, fill, Act.put, List.setIfInBounds_toArray, List.set_cons_zero, List.set_cons_succ]
          refine Wk.done (by kernel_rfl) ?_
          have S5 := Lib.hid (S.out.call hS)
          clear Sb hgs' hzk hbase hS S c_0 c_1 hlt0
          try go_simp
          go_wp2
          go_ret
          exact ⟨by first | rfl | (simp; done) | (simp; omega), S5.out⟩
      · have g3 : ¬ (m : Int) < (t.size : Int) := by omega
        have hnx : nxD t m = false := by unfold nxD; rw [List.getElem?_eq_none (Nat.le_trans (Nat.le_of_eq (toList_len t)) (Nat.le_of_not_lt hlt))]
        rw [if_pos ⟨hz1, hz2, hnx⟩] at hdg
        subst hdg
        clear hnx hlt
        go_enter Tryd.func66, Tryd.ntmps66
        go_wp2_with fail
        refine (hG.out _ S0.out).mono ?_
        rintro e w1 ⟨rfl, S⟩
        clear S0 hG
        have c_0 := S.cl 0 0 rfl rfl
        have c_1 := S.cl 0 1 rfl rfl
        have hlt0 := S.lt 0 rfl
        replace S := Lib.hid S
        go_upto_region 2 with fail
        have hbase := Lib.hid (St.new w1)
        refine RW.begin (Z := []) (S := (fun W => Below w1.heap.size w1 W)) (by kernel_rfl) ?_ hbase.out ?_
        · exact ⟨by kernel_rfl, zis_nil, by decide, by decide, nol_nil, (fun _ _ h => h.bel)⟩
        intro hzk
        refine RW.t (i := 0) (v := .int .u8 z) (some 6) at0 (hy := fun _ _ => by kernel_rfl) (h := ?_)
        refine RW.t (i := 1) (v := .bool false) (some 7) at1 (hy := fun _ _ => by go_simp) (h := ?_)
        refine RW.t (i := 2) (v := .bool false) (some 8) at2 (hy := fun _ _ => by kernel_rfl) (h := ?_)
        refine RW.t (i := 3) (v := .int .u8 z) (some 9) at3 (hy := fun _ _ => by kernel_rfl) (h := ?_)
        refine RW.t (i := 4) (v := .bool false) (some 10) at4 (hy := fun _ _ => by go_simp) (h := ?_)
        refine RW.t (i := 5) (v := .bool false) (some 11) at5 (hy := fun _ _ => by kernel_rfl) (h := ?_)
        refine RW.t (i := 6) (v := .bool false) (some 12) at6 (hy := fun _ _ => by kernel_rfl) (h := ?_)
        refine RW.t (i := 7) (v := .pointer (some ⟨rb, 0, none⟩)) (some 13) at7 (hy := fun _ _ => by kernel_rfl) (h := ?_)
        refine RW.t (i := 8) (v := .pointer (some ⟨rb, 0, none⟩)) (some 14) at8 (hy := fun _ _ => by go_simp) (h := ?_)
        refine RW.t (i := 9) (v := .pointer (some ⟨rb, 1, none⟩)) (some 15) at9 (hy := fun _ _ => by go_simp) (h := ?_)
        refine RW.t (i := 10) (v := .int .i64 q) (some 16) at10 (hy := fun W hS => by (have k0 := bel_cell hS c_1; clear hS; go_simp)) (h := ?_)
        refine RW.t (i := 11) (v := .int .i64 m) (some 17) at11 (hy := fun _ _ => by (go_simp; try rw [IntKind.wrap_i64]; try omega)) (h := ?_)
        refine RW.t (i := 12) (v := .pointer (some ⟨rb, 0, none⟩)) (some 18) at12 (hy := fun _ _ => by kernel_rfl) (h := ?_)
        refine RW.t (i := 13) (v := .pointer (some ⟨rb, 0, none⟩)) (some 19) at13 (hy := fun _ _ => by go_simp) (h := ?_)
        refine RW.t (i := 14) (v := .pointer (some ⟨rb, 0, none⟩)) (some 20) at14 (hy := fun _ _ => by go_simp) (h := ?_)
        refine RW.t (i := 15) (v := .string t) (some 21) at15 (hy := fun W hS => by (have k0 := bel_cell hS c_0; clear hS; go_simp)) (h := ?_)
        refine RW.t (i := 16) (v := .int .i64 t.size) (some 22) at16 (hy := fun _ _ => by go_simp) (h := ?_)
        refine RW.t (i := 17) (v := .bool false) (some 23) at17 (hy := fun _ _ => by (go_simp; try omega)) (h := ?_)
        refine RW.t (i := 18) (v := .bool false) (some 24) at18 (hy := fun _ _ => by kernel_rfl) (h := ?_)
        refine RW.u (i := 19) (some 25) at19 (h := ?_)
        refine RW.u (i := 20) (some 26) at20 (h := ?_)
        refine RW.u (i := 21) (some 27) at21 (h := ?_)
        refine RW.u (i := 22) (some 28) at22 (h := ?_)
        refine RW.u (i := 23) (some 29) at23 (h := ?_)
        refine RW.u (i := 24) (some 30) at24 (h := ?_)
        refine RW.u (i := 25) (some 31) at25 (h := ?_)
        refine RW.u (i := 26) (some 32) at26 (h := ?_)
        refine RW.u (i := 27) (some 33) at27 (h := ?_)
        refine RW.u (i := 28) (some 34) at28 (h := ?_)
        refine RW.u (i := 29) (some 35) at29 (h := ?_)
        refine RW.t (i := 30) (v := .bool false) (some 36) at30 (hy := fun _ _ => by kernel_rfl) (h := ?_)
        refine RW.t (i := 31) (v := .bool false) (some 37) at31 (hy := fun _ _ => by kernel_rfl) (h := ?_)
        refine RW.u (i := 32) (some 38) at32 (h := ?_)
        refine RW.u (i := 33) (some 39) at33 (h := ?_)
        refine RW.u (i := 34) (some 40) at34 (h := ?_)
        refine RW.u (i := 35) (some 41) at35 (h := ?_)
        refine RW.u (i := 36) (some 42) at36 (h := ?_)
        refine RW.u (i := 37) (some 43) at37 (h := ?_)
        refine RW.u (i := 38) (some 44) at38 (h := ?_)
        refine RW.u (i := 39) (some 45) at39 (h := ?_)
        refine RW.u (i := 40) (some 46) at40 (h := ?_)
        refine RW.u (i := 41) (some 47) at41 (h := ?_)
        refine RW.u (i := 42) (some 48) at42 (h := ?_)
        refine RW.t (i := 43) (v := .bool false) (some 49) at43 (hy := fun _ _ => by kernel_rfl) (h := ?_)
        refine RW.t (i := 44) (v := .bool false) (some 50) at44 (hy := fun _ _ => by kernel_rfl) (h := ?_)
        refine RW.tail hzk.out (by kernel_rfl) ?_
        intro gs' w5 hgs' hS Sb
        obtain rfl := len0 hgs'
        simp only [mark, fill, Act.put, List.setIfInBounds_toArray, List.set_cons_zero, List.set_cons_succ]
        refine Wk.done (by kernel_rfl) ?_
        have S5 := Lib.hid (S.out.call hS)
        clear Sb hgs' hzk hbase hS S c_0 c_1 hlt0
        try go_simp
        go_wp2
        go_ret
        exact ⟨by first | rfl | (simp; done) | (simp; omega), S5.out⟩
end Go.Proofs.YtjebpmjbdchdlaaDoor
