/- The reference's reader: digit. -/
import Derived.Test.YthbkdjbmkhmlnaaDoorB09
namespace Go.Proofs.YthbkdjbmkhmlnaaDoor
open Go.RowKit
set_option linter.unusedVariables false

/-- Is the byte at a place a digit? -/
def nxD (t : ByteArray) (q : Nat) : Bool := match t.data.toList[q]? with
  | some d => digB d
  | Option.none => false
/-- The number of one digit at a place, or -1. -/
def dgV (t : ByteArray) (q : Nat) (er : Int) : Int := if 48 ≤ sgV t q er ∧ sgV t q er ≤ 57 ∧ nxD t (q + 1) = false then (sgV t q er : Int) - 48 else -1

set_option maxRecDepth 100000 in
set_option maxHeartbeats 4000000 in
theorem digit_any (t : ByteArray) (p : Nat) (er : Int) (pl : Nat) (rb : Nat) (bs : List GBk) (rs : List GRd) (w0 w : World) (S0 : St w0 w ((rb, r9C t p er pl, 77) :: bs) rs) (ht : t.size ≤ 100000) (hp : p ≤ 100100) : Calls Tryd.prog 109 #[.pointer (some ⟨rb, 0, none⟩)] w fun E w' => E = .returned (.int .i64 (dgV t (blN t p) er)) ∧ St w0 w' ((rb, r9C t (blN t p) er pl, 77) :: bs) rs := by
  have hG : Hid (∀ W, St w0 W ((rb, r9C t p er pl, 77) :: bs) rs → Calls Tryd.prog 48 #[.pointer (some ⟨rb, 0, none⟩)] W fun E w' => E = .returned (.int .u8 (sgV t (blN t p) er)) ∧ St w0 w' ((rb, r9C t (blN t p) er pl, 77) :: bs) rs) := Lib.hid fun W hW => sign_any t p er pl rb bs rs w0 W hW ht hp
  have hbl := bl_le ht hp
  obtain ⟨v, hdg⟩ : ∃ v, v = dgV t (blN t p) er := ⟨_, rfl⟩
  rw [← hdg]
  unfold dgV at hdg
  have hz5 : sgV t (blN t p) er < 256 := by rw [sg_byte]; exact UInt8.toNat_lt _
  generalize sgV t (blN t p) er = z at *
  generalize blN t p = q at *
  obtain ⟨m, hm⟩ : ∃ m, m = q + 1 := ⟨_, rfl⟩
  rw [← hm] at hdg
  have hm2 : (q : Int) + 1 = (m : Int) := by omega
  have hm5 : m ≤ 100101 := by omega
  have g9 : (0 : Int) ≤ (m : Int) := by omega
  replace S0 := Lib.hid S0
  clear ht hp hbl hm
  by_cases h1 : z < 48
  · rw [if_neg (by omega)] at hdg
    subst hdg
    have g1 : (z : Int) < 48 := by omega
    clear h1
    go_enter Tryd.func109, Tryd.ntmps109
    go_wp2_with fail
    refine (hG.out _ S0.out).mono ?_
    rintro e w1 ⟨rfl, S⟩
    clear S0 hG
    have c_0 := S.cl 0 0 rfl rfl
    have c_1 := S.cl 0 1 rfl rfl
    have hlt0 := S.lt 0 rfl
    replace S := Lib.hid S
    go_upto_region 2 with fail
    have hbase := Lib.hid (St.new w1)
    refine RW.begin (Z := []) (S := (fun W => Below w1.heap.size w1 W)) (by kernel_rfl) ?_ hbase.out ?_
    · exact ⟨by kernel_rfl, zis_nil, by decide, by decide, nol_nil, (fun _ _ h => h.bel)⟩
    intro hzk
    refine RW.t (i := 0) (v := .int .u8 z) (some 6) at0 (hy := fun _ _ => by kernel_rfl) (h := ?_)
    refine RW.t (i := 1) (v := .bool true) (some 7) at1 (hy := fun _ _ => by go_simp) (h := ?_)
    refine RW.t (i := 2) (v := .bool true) (some 8) at2 (hy := fun _ _ => by kernel_rfl) (h := ?_)
    refine RW.u (i := 3) (some 9) at3 (h := ?_)
    refine RW.u (i := 4) (some 10) at4 (h := ?_)
    refine RW.t (i := 5) (v := .bool true) (some 11) at5 (hy := fun _ _ => by kernel_rfl) (h := ?_)
    refine RW.t (i := 6) (v := .bool true) (some 12) at6 (hy := fun _ _ => by kernel_rfl) (h := ?_)
    refine RW.u (i := 7) (some 13) at7 (h := ?_)
    refine RW.u (i := 8) (some 14) at8 (h := ?_)
    refine RW.u (i := 9) (some 15) at9 (h := ?_)
    refine RW.u (i := 10) (some 16) at10 (h := ?_)
    refine RW.u (i := 11) (some 17) at11 (h := ?_)
    refine RW.u (i := 12) (some 18) at12 (h := ?_)
    refine RW.u (i := 13) (some 19) at13 (h := ?_)
    refine RW.u (i := 14) (some 20) at14 (h := ?_)
    refine RW.u (i := 15) (some 21) at15 (h := ?_)
    refine RW.u (i := 16) (some 22) at16 (h := ?_)
    refine RW.u (i := 17) (some 23) at17 (h := ?_)
    refine RW.u (i := 18) (some 24) at18 (h := ?_)
    refine RW.u (i := 19) (some 25) at19 (h := ?_)
    refine RW.u (i := 20) (some 26) at20 (h := ?_)
    refine RW.u (i := 21) (some 27) at21 (h := ?_)
    refine RW.u (i := 22) (some 28) at22 (h := ?_)
    refine RW.u (i := 23) (some 29) at23 (h := ?_)
    refine RW.u (i := 24) (some 30) at24 (h := ?_)
    refine RW.u (i := 25) (some 31) at25 (h := ?_)
    refine RW.u (i := 26) (some 32) at26 (h := ?_)
    refine RW.u (i := 27) (some 33) at27 (h := ?_)
    refine RW.u (i := 28) (some 34) at28 (h := ?_)
    refine RW.u (i := 29) (some 35) at29 (h := ?_)
    refine RW.u (i := 30) (some 36) at30 (h := ?_)
    refine RW.u (i := 31) (some 37) at31 (h := ?_)
    refine RW.u (i := 32) (some 38) at32 (h := ?_)
    refine RW.u (i := 33) (some 39) at33 (h := ?_)
    refine RW.u (i := 34) (some 40) at34 (h := ?_)
    refine RW.u (i := 35) (some 41) at35 (h := ?_)
    refine RW.u (i := 36) (some 42) at36 (h := ?_)
    refine RW.u (i := 37) (some 43) at37 (h := ?_)
    refine RW.u (i := 38) (some 44) at38 (h := ?_)
    refine RW.u (i := 39) (some 45) at39 (h := ?_)
    refine RW.u (i := 40) (some 46) at40 (h := ?_)
    refine RW.u (i := 41) (some 47) at41 (h := ?_)
    refine RW.u (i := 42) (some 48) at42 (h := ?_)
    refine RW.u (i := 43) (some 49) at43 (h := ?_)
    refine RW.t (i := 44) (v := .bool true) (some 50) at44 (hy := fun _ _ => by kernel_rfl) (h := ?_)
    refine RW.tail hzk.out (by kernel_rfl) ?_
    intro gs' w5 hgs' hS Sb
    obtain rfl := len0 hgs'
    simp only [mark, fill, Act.put, List.setIfInBounds_toArray, List.set_cons_zero, List.set_cons_succ]
    refine Wk.done (by kernel_rfl) ?_
    have S5 := Lib.hid (S.out.call hS)
    clear Sb hgs' hzk hbase hS S c_0 c_1 hlt0
    try go_simp
    go_wp2
    go_ret
    exact ⟨by first | rfl | (simp; done) | (simp; omega), S5.out⟩
  · have g1 : ¬ (z : Int) < 48 := by omega
    by_cases h2 : 57 < z
    · rw [if_neg (by omega)] at hdg
      subst hdg
      have g2 : 57 < (z : Int) := by omega
      clear h1 h2
      go_enter Tryd.func109, Tryd.ntmps109
      go_wp2_with fail
      refine (hG.out _ S0.out).mono ?_
      rintro e w1 ⟨rfl, S⟩
      clear S0 hG
      have c_0 := S.cl 0 0 rfl rfl
      have c_1 := S.cl 0 1 rfl rfl
      have hlt0 := S.lt 0 rfl
      replace S := Lib.hid S
      go_upto_region 2 with fail
      have hbase := Lib.hid (St.new w1)
      refine RW.begin (Z := []) (S := (fun W => Below w1.heap.size w1 W)) (by kernel_rfl) ?_ hbase.out ?_
      · exact ⟨by kernel_rfl, zis_nil, by decide, by decide, nol_nil, (fun _ _ h => h.bel)⟩
      intro hzk
      refine RW.t (i := 0) (v := .int .u8 z) (some 6) at0 (hy := fun _ _ => by kernel_rfl) (h := ?_)
      refine RW.t (i := 1) (v := .bool false) (some 7) at1 (hy := fun _ _ => by go_simp) (h := ?_)
      refine RW.t (i := 2) (v := .bool false) (some 8) at2 (hy := fun _ _ => by kernel_rfl) (h := ?_)
      refine RW.t (i := 3) (v := .int .u8 z) (some 9) at3 (hy := fun _ _ => by kernel_rfl) (h := ?_)
      refine RW.t (i := 4) (v := .bool true) (some 10) at4 (hy := fun _ _ => by go_simp) (h := ?_)
      refine RW.t (i := 5) (v := .bool true) (some 11) at5 (hy := fun _ _ => by kernel_rfl) (h := ?_)
      refine RW.t (i := 6) (v := .bool true) (some 12) at6 (hy := fun _ _ => by kernel_rfl) (h := ?_)
      refine RW.u (i := 7) (some 13) at7 (h := ?_)
      refine RW.u (i := 8) (some 14) at8 (h := ?_)
      refine RW.u (i := 9) (some 15) at9 (h := ?_)
      refine RW.u (i := 10) (some 16) at10 (h := ?_)
      refine RW.u (i := 11) (some 17) at11 (h := ?_)
      refine RW.u (i := 12) (some 18) at12 (h := ?_)
      refine RW.u (i := 13) (some 19) at13 (h := ?_)
      refine RW.u (i := 14) (some 20) at14 (h := ?_)
      refine RW.u (i := 15) (some 21) at15 (h := ?_)
      refine RW.u (i := 16) (some 22) at16 (h := ?_)
      refine RW.u (i := 17) (some 23) at17 (h := ?_)
      refine RW.u (i := 18) (some 24) at18 (h := ?_)
      refine RW.u (i := 19) (some 25) at19 (h := ?_)
      refine RW.u (i := 20) (some 26) at20 (h := ?_)
      refine RW.u (i := 21) (some 27) at21 (h := ?_)
      refine RW.u (i := 22) (some 28) at22 (h := ?_)
      refine RW.u (i := 23) (some 29) at23 (h := ?_)
      refine RW.u (i := 24) (some 30) at24 (h := ?_)
      refine RW.u (i := 25) (some 31) at25 (h := ?_)
      refine RW.u (i := 26) (some 32) at26 (h := ?_)
      refine RW.u (i := 27) (some 33) at27 (h := ?_)
      refine RW.u (i := 28) (some 34) at28 (h := ?_)
      refine RW.u (i := 29) (some 35) at29 (h := ?_)
      refine RW.u (i := 30) (some 36) at30 (h := ?_)
      refine RW.u (i := 31) (some 37) at31 (h := ?_)
      refine RW.u (i := 32) (some 38) at32 (h := ?_)
      refine RW.u (i := 33) (some 39) at33 (h := ?_)
      refine RW.u (i := 34) (some 40) at34 (h := ?_)
      refine RW.u (i := 35) (some 41) at35 (h := ?_)
      refine RW.u (i := 36) (some 42) at36 (h := ?_)
      refine RW.u (i := 37) (some 43) at37 (h := ?_)
      refine RW.u (i := 38) (some 44) at38 (h := ?_)
      refine RW.u (i := 39) (some 45) at39 (h := ?_)
      refine RW.u (i := 40) (some 46) at40 (h := ?_)
      refine RW.u (i := 41) (some 47) at41 (h := ?_)
      refine RW.u (i := 42) (some 48) at42 (h := ?_)
      refine RW.u (i := 43) (some 49) at43 (h := ?_)
      refine RW.t (i := 44) (v := .bool true) (some 50) at44 (hy := fun _ _ => by kernel_rfl) (h := ?_)
      refine RW.tail hzk.out (by kernel_rfl) ?_
      intro gs' w5 hgs' hS Sb
      obtain rfl := len0 hgs'
      simp only [mark, fill, Act.put, List.setIfInBounds_toArray, List.set_cons_zero, List.set_cons_succ]
      refine Wk.done (by kernel_rfl) ?_
      have S5 := Lib.hid (S.out.call hS)
      clear Sb hgs' hzk hbase hS S c_0 c_1 hlt0
      try go_simp
      go_wp2
      go_ret
      exact ⟨by first | rfl | (simp; done) | (simp; omega), S5.out⟩
    · have g2 : ¬ 57 < (z : Int) := by omega
      have hz1 : 48 ≤ z := by omega
      have hz2 : z ≤ 57 := by omega
      clear h1 h2
      by_cases hlt : m < t.size
      · have g3 : (m : Int) < (t.size : Int) := by omega
        have hnx : nxD t m = digB t[m] := by unfold nxD; rw [toList_get hlt]
        rw [hnx] at hdg
        clear hnx
        unfold digB at hdg
        by_cases h4 : 48 ≤ t[m].toNat
        · have g4 : (48 : Int) ≤ (t[m].toNat : Int) := by omega
          by_cases h5 : t[m].toNat ≤ 57
          · have g5 : (t[m].toNat : Int) ≤ 57 := by omega
            rw [if_neg (by rw [decide_eq_true h4, decide_eq_true h5]; simp)] at hdg
            subst hdg
            clear h4 h5
            go_enter Tryd.func109, Tryd.ntmps109
            go_wp2_with fail
            refine (hG.out _ S0.out).mono ?_
            rintro e w1 ⟨rfl, S⟩
            clear S0 hG
            have c_0 := S.cl 0 0 rfl rfl
            have c_1 := S.cl 0 1 rfl rfl
            have hlt0 := S.lt 0 rfl
            replace S := Lib.hid S
            go_upto_region 2 with fail
            have hbase := Lib.hid (St.new w1)
            refine RW.begin (Z := []) (S := (fun W => Below w1.heap.size w1 W)) (by kernel_rfl) ?_ hbase.out ?_
            · exact ⟨by kernel_rfl, zis_nil, by decide, by decide, nol_nil, (fun _ _ h => h.bel)⟩
            intro hzk
            refine RW.t (i := 0) (v := .int .u8 z) (some 6) at0 (hy := fun _ _ => by kernel_rfl) (h := ?_)
            refine RW.t (i := 1) (v := .bool false) (some 7) at1 (hy := fun _ _ => by go_simp) (h := ?_)
            refine RW.t (i := 2) (v := .bool false) (some 8) at2 (hy := fun _ _ => by kernel_rfl) (h := ?_)
            refine RW.t (i := 3) (v := .int .u8 z) (some 9) at3 (hy := fun _ _ => by kernel_rfl) (h := ?_)
            refine RW.t (i := 4) (v := .bool false) (some 10) at4 (hy := fun _ _ => by go_simp) (h := ?_)
            refine RW.t (i := 5) (v := .bool false) (some 11) at5 (hy := fun _ _ => by kernel_rfl) (h := ?_)
            refine RW.t (i := 6) (v := .bool false) (some 12) at6 (hy := fun _ _ => by kernel_rfl) (h := ?_)
            refine RW.t (i := 7) (v := .pointer (some ⟨rb, 0, none⟩)) (some 13) at7 (hy := fun _ _ => by kernel_rfl) (h := ?_)
            refine RW.t (i := 8) (v := .pointer (some ⟨rb, 0, none⟩)) (some 14) at8 (hy := fun _ _ => by go_simp) (h := ?_)
            refine RW.t (i := 9) (v := .pointer (some ⟨rb, 1, none⟩)) (some 15) at9 (hy := fun _ _ => by go_simp) (h := ?_)
            refine RW.t (i := 10) (v := .int .i64 q) (some 16) at10 (hy := fun W hS => by (have k0 := bel_cell hS c_1; clear hS; go_simp)) (h := ?_)
            refine RW.t (i := 11) (v := .int .i64 m) (some 17) at11 (hy := fun _ _ => by (go_simp; try rw [IntKind.wrap_i64]; try omega)) (h := ?_)
            refine RW.t (i := 12) (v := .pointer (some ⟨rb, 0, none⟩)) (some 18) at12 (hy := fun _ _ => by kernel_rfl) (h := ?_)
            refine RW.t (i := 13) (v := .pointer (some ⟨rb, 0, none⟩)) (some 19) at13 (hy := fun _ _ => by go_simp) (h := ?_)
            refine RW.t (i := 14) (v := .pointer (some ⟨rb, 0, none⟩)) (some 20) at14 (hy := fun _ _ => by go_simp) (h := ?_)
            refine RW.t (i := 15) (v := .string t) (some 21) at15 (hy := fun W hS => by (have k0 := bel_cell hS c_0; clear hS; go_simp)) (h := ?_)
            refine RW.t (i := 16) (v := .int .i64 t.size) (some 22) at16 (hy := fun _ _ => by go_simp) (h := ?_)
            refine RW.t (i := 17) (v := .bool true) (some 23) at17 (hy := fun _ _ => by go_simp) (h := ?_)
            refine RW.t (i := 18) (v := .bool true) (some 24) at18 (hy := fun _ _ => by kernel_rfl) (h := ?_)
            refine RW.t (i := 19) (v := .pointer (some ⟨rb, 0, none⟩)) (some 25) at19 (hy := fun _ _ => by kernel_rfl) (h := ?_)
            refine RW.t (i := 20) (v := .pointer (some ⟨rb, 0, none⟩)) (some 26) at20 (hy := fun _ _ => by go_simp) (h := ?_)
            refine RW.t (i := 21) (v := .pointer (some ⟨rb, 0, none⟩)) (some 27) at21 (hy := fun _ _ => by go_simp) (h := ?_)
            refine RW.t (i := 22) (v := .string t) (some 28) at22 (hy := fun W hS => by (have k0 := bel_cell hS c_0; clear hS; go_simp)) (h := ?_)
            refine RW.t (i := 23) (v := .pointer (some ⟨rb, 0, none⟩)) (some 29) at23 (hy := fun _ _ => by kernel_rfl) (h := ?_)
            refine RW.t (i := 24) (v := .pointer (some ⟨rb, 0, none⟩)) (some 30) at24 (hy := fun _ _ => by go_simp) (h := ?_)
            refine RW.t (i := 25) (v := .pointer (some ⟨rb, 1, none⟩)) (some 31) at25 (hy := fun _ _ => by go_simp) (h := ?_)
            refine RW.t (i := 26) (v := .int .i64 q) (some 32) at26 (hy := fun W hS => by (have k0 := bel_cell hS c_1; clear hS; go_simp)) (h := ?_)
            refine RW.t (i := 27) (v := .int .i64 m) (some 33) at27 (hy := fun _ _ => by (go_simp; try rw [IntKind.wrap_i64]; try omega)) (h := ?_)
            refine RW.t (i := 28) (v := .int .u8 t[m].toNat) (some 34) at28 (hy := fun _ _ => by (go_simp; try rfl)) (h := ?_)
            refine RW.t (i := 29) (v := .bool true) (some 35) at29 (hy := fun _ _ => by (go_simp; try omega)) (h := ?_)
            refine RW.t (i := 30) (v := .bool true) (some 36) at30 (hy := fun _ _ => by kernel_rfl) (h := ?_)
            refine RW.t (i := 31) (v := .bool true) (some 37) at31 (hy := fun _ _ => by kernel_rfl) (h := ?_)
            refine RW.t (i := 32) (v := .pointer (some ⟨rb, 0, none⟩)) (some 38) at32 (hy := fun _ _ => by kernel_rfl) (h := ?_)
            refine RW.t (i := 33) (v := .pointer (some ⟨rb, 0, none⟩)) (some 39) at33 (hy := fun _ _ => by go_simp) (h := ?_)
            refine RW.t (i := 34) (v := .pointer (some ⟨rb, 0, none⟩)) (some 40) at34 (hy := fun _ _ => by go_simp) (h := ?_)
            refine RW.t (i := 35) (v := .string t) (some 41) at35 (hy := fun W hS => by (have k0 := bel_cell hS c_0; clear hS; go_simp)) (h := ?_)
            refine RW.t (i := 36) (v := .pointer (some ⟨rb, 0, none⟩)) (some 42) at36 (hy := fun _ _ => by kernel_rfl) (h := ?_)
            refine RW.t (i := 37) (v := .pointer (some ⟨rb, 0, none⟩)) (some 43) at37 (hy := fun _ _ => by go_simp) (h := ?_)
            refine RW.t (i := 38) (v := .pointer (some ⟨rb, 1, none⟩)) (some 44) at38 (hy := fun _ _ => by go_simp) (h := ?_)
            refine RW.t (i := 39) (v := .int .i64 q) (some 45) at39 (hy := fun W hS => by (have k0 := bel_cell hS c_1; clear hS; go_simp)) (h := ?_)
            refine RW.t (i := 40) (v := .int .i64 m) (some 46) at40 (hy := fun _ _ => by (go_simp; try rw [IntKind.wrap_i64]; try omega)) (h := ?_)
            refine RW.t (i := 41) (v := .int .u8 t[m].toNat) (some 47) at41 (hy := fun _ _ => by (go_simp; try rfl)) (h := ?_)
            refine RW.t (i := 42) (v := .bool true) (some 48) at42 (hy := fun _ _ => by (go_simp; try omega)) (h := ?_)
            refine RW.t (i := 43) (v := .bool true) (some 49) at43 (hy := fun _ _ => by kernel_rfl) (h := ?_)
            refine RW.t (i := 44) (v := .bool true) (some 50) at44 (hy := fun _ _ => by kernel_rfl) (h := ?_)
            refine RW.tail hzk.out (by kernel_rfl) ?_
            intro gs' w5 hgs' hS Sb
            obtain rfl := len0 hgs'
            simp only [mark, fill, Act.put, List.setIfInBounds_toArray, List.set_cons_zero, List.set_cons_succ]
            refine Wk.done (by kernel_rfl) ?_
            have S5 := Lib.hid (S.out.call hS)
            clear Sb hgs' hzk hbase hS S c_0 c_1 hlt0
            try go_simp
            go_wp2
            go_ret
            exact ⟨by first | rfl | (simp; done) | (simp; omega), S5.out⟩
          · have g5 : ¬ (t[m].toNat : Int) ≤ 57 := by omega
            rw [if_pos ⟨hz1, hz2, by rw [decide_eq_false h5]; simp⟩] at hdg
            subst hdg
            clear h4 h5
            go_enter Tryd.func109, Tryd.ntmps109
            go_wp2_with fail
            refine (hG.out _ S0.out).mono ?_
            rintro e w1 ⟨rfl, S⟩
            clear S0 hG
            have c_0 := S.cl 0 0 rfl rfl
            have c_1 := S.cl 0 1 rfl rfl
            have hlt0 := S.lt 0 rfl
            replace S := Lib.hid S
            go_upto_region 2 with fail
            have hbase := Lib.hid (St.new w1)
            refine RW.begin (Z := []) (S := (fun W => Below w1.heap.size w1 W)) (by kernel_rfl) ?_ hbase.out ?_
            · exact ⟨by kernel_rfl, zis_nil, by decide, by decide, nol_nil, (fun _ _ h => h.bel)⟩
            intro hzk
            refine RW.t (i := 0) (v := .int .u8 z) (some 6) at0 (hy := fun _ _ => by kernel_rfl) (h := ?_)
            refine RW.t (i := 1) (v := .bool false) (some 7) at1 (hy := fun _ _ => by go_simp) (h := ?_)
            refine RW.t (i := 2) (v := .bool false) (some 8) at2 (hy := fun _ _ => by kernel_rfl) (h := ?_)
            refine RW.t (i := 3) (v := .int .u8 z) (some 9) at3 (hy := fun _ _ => by kernel_rfl) (h := ?_)
            refine RW.t (i := 4) (v := .bool false) (some 10) at4 (hy := fun _ _ => by go_simp) (h := ?_)
            refine RW.t (i := 5) (v := .bool false) (some 11) at5 (hy := fun _ _ => by kernel_rfl) (h := ?_)
            refine RW.t (i := 6) (v := .bool false) (some 12) at6 (hy := fun _ _ => by kernel_rfl) (h := ?_)
            refine RW.t (i := 7) (v := .pointer (some ⟨rb, 0, none⟩)) (some 13) at7 (hy := fun _ _ => by kernel_rfl) (h := ?_)
            refine RW.t (i := 8) (v := .pointer (some ⟨rb, 0, none⟩)) (some 14) at8 (hy := fun _ _ => by go_simp) (h := ?_)
            refine RW.t (i := 9) (v := .pointer (some ⟨rb, 1, none⟩)) (some 15) at9 (hy := fun _ _ => by go_simp) (h := ?_)
            refine RW.t (i := 10) (v := .int .i64 q) (some 16) at10 (hy := fun W hS => by (have k0 := bel_cell hS c_1; clear hS; go_simp)) (h := ?_)
            refine RW.t (i := 11) (v := .int .i64 m) (some 17) at11 (hy := fun _ _ => by (go_simp; try rw [IntKind.wrap_i64]; try omega)) (h := ?_)
            refine RW.t (i := 12) (v := .pointer (some ⟨rb, 0, none⟩)) (some 18) at12 (hy := fun _ _ => by kernel_rfl) (h := ?_)
            refine RW.t (i := 13) (v := .pointer (some ⟨rb, 0, none⟩)) (some 19) at13 (hy := fun _ _ => by go_simp) (h := ?_)
            refine RW.t (i := 14) (v := .pointer (some ⟨rb, 0, none⟩)) (some 20) at14 (hy := fun _ _ => by go_simp) (h := ?_)
            refine RW.t (i := 15) (v := .string t) (some 21) at15 (hy := fun W hS => by (have k0 := bel_cell hS c_0; clear hS; go_simp)) (h := ?_)
            refine RW.t (i := 16) (v := .int .i64 t.size) (some 22) at16 (hy := fun _ _ => by go_simp) (h := ?_)
            refine RW.t (i := 17) (v := .bool true) (some 23) at17 (hy := fun _ _ => by go_simp) (h := ?_)
            refine RW.t (i := 18) (v := .bool true) (some 24) at18 (hy := fun _ _ => by kernel_rfl) (h := ?_)
            refine RW.t (i := 19) (v := .pointer (some ⟨rb, 0, none⟩)) (some 25) at19 (hy := fun _ _ => by kernel_rfl) (h := ?_)
            refine RW.t (i := 20) (v := .pointer (some ⟨rb, 0, none⟩)) (some 26) at20 (hy := fun _ _ => by go_simp) (h := ?_)
            refine RW.t (i := 21) (v := .pointer (some ⟨rb, 0, none⟩)) (some 27) at21 (hy := fun _ _ => by go_simp) (h := ?_)
            refine RW.t (i := 22) (v := .string t) (some 28) at22 (hy := fun W hS => by (have k0 := bel_cell hS c_0; clear hS; go_simp)) (h := ?_)
            refine RW.t (i := 23) (v := .pointer (some ⟨rb, 0, none⟩)) (some 29) at23 (hy := fun _ _ => by kernel_rfl) (h := ?_)
            refine RW.t (i := 24) (v := .pointer (some ⟨rb, 0, none⟩)) (some 30) at24 (hy := fun _ _ => by go_simp) (h := ?_)
            refine RW.t (i := 25) (v := .pointer (some ⟨rb, 1, none⟩)) (some 31) at25 (hy := fun _ _ => by go_simp) (h := ?_)
            refine RW.t (i := 26) (v := .int .i64 q) (some 32) at26 (hy := fun W hS => by (have k0 := bel_cell hS c_1; clear hS; go_simp)) (h := ?_)
            refine RW.t (i := 27) (v := .int .i64 m) (some 33) at27 (hy := fun _ _ => by (go_simp; try rw [IntKind.wrap_i64]; try omega)) (h := ?_)
            refine RW.t (i := 28) (v := .int .u8 t[m].toNat) (some 34) at28 (hy := fun _ _ => by (go_simp; try rfl)) (h := ?_)
            refine RW.t (i := 29) (v := .bool true) (some 35) at29 (hy := fun _ _ => by (go_simp; try omega)) (h := ?_)
            refine RW.t (i := 30) (v := .bool true) (some 36) at30 (hy := fun _ _ => by kernel_rfl) (h := ?_)
            refine RW.t (i := 31) (v := .bool true) (some 37) at31 (hy := fun _ _ => by kernel_rfl) (h := ?_)
            refine RW.t (i := 32) (v := .pointer (some ⟨rb, 0, none⟩)) (some 38) at32 (hy := fun _ _ => by kernel_rfl) (h := ?_)
            refine RW.t (i := 33) (v := .pointer (some ⟨rb, 0, none⟩)) (some 39) at33 (hy := fun _ _ => by go_simp) (h := ?_)
            refine RW.t (i := 34) (v := .pointer (some ⟨rb, 0, none⟩)) (some 40) at34 (hy := fun _ _ => by go_simp) (h := ?_)
            refine RW.t (i := 35) (v := .string t) (some 41) at35 (hy := fun W hS => by (have k0 := bel_cell hS c_0; clear hS; go_simp)) (h := ?_)
            refine RW.t (i := 36) (v := .pointer (some ⟨rb, 0, none⟩)) (some 42) at36 (hy := fun _ _ => by kernel_rfl) (h := ?_)
            refine RW.t (i := 37) (v := .pointer (some ⟨rb, 0, none⟩)) (some 43) at37 (hy := fun _ _ => by go_simp) (h := ?_)
            refine RW.t (i := 38) (v := .pointer (some ⟨rb, 1, none⟩)) (some 44) at38 (hy := fun _ _ => by go_simp) (h := ?_)
            refine RW.t (i := 39) (v := .int .i64 q) (some 45) at39 (hy := fun W hS => by (have k0 := bel_cell hS c_1; clear hS; go_simp)) (h := ?_)
            refine RW.t (i := 40) (v := .int .i64 m) (some 46) at40 (hy := fun _ _ => by (go_simp; try rw [IntKind.wrap_i64]; try omega)) (h := ?_)
            refine RW.t (i := 41) (v := .int .u8 t[m].toNat) (some 47) at41 (hy := fun _ _ => by (go_simp; try rfl)) (h := ?_)
            refine RW.t (i := 42) (v := .bool false) (some 48) at42 (hy := fun _ _ => by (go_simp; try omega)) (h := ?_)
            refine RW.t (i := 43) (v := .bool false) (some 49) at43 (hy := fun _ _ => by kernel_rfl) (h := ?_)
            refine RW.t (i := 44) (v := .bool false) (some 50) at44 (hy := fun _ _ => by kernel_rfl) (h := ?_)
            refine RW.tail hzk.out (by kernel_rfl) ?_
            intro gs' w5 hgs' hS Sb
            obtain rfl := len0 hgs'
            simp only [mark, fill, Act.put, List.setIfInBounds_toArray, List.set_cons_zero, List.set_cons_succ]
            refine Wk.done (by kernel_rfl) ?_
            have S5 := Lib.hid (S.out.call hS)
            clear Sb hgs' hzk hbase hS S c_0 c_1 hlt0
            try go_simp
            go_wp2
            go_ret
            exact ⟨by first | rfl | (simp; done) | (simp; omega), S5.out⟩
        · have g4 : ¬ (48 : Int) ≤ (t[m].toNat : Int) := by omega
          rw [if_pos ⟨hz1, hz2, by rw [decide_eq_false h4]; simp⟩] at hdg
          subst hdg
          clear h4
          go_enter Tryd.func109, Tryd.ntmps109
          go_wp2_with fail
          refine (hG.out _ S0.out).mono ?_
          rintro e w1 ⟨rfl, S⟩
          clear S0 hG
          have c_0 := S.cl 0 0 rfl rfl
          have c_1 := S.cl 0 1 rfl rfl
          have hlt0 := S.lt 0 rfl
          replace S := Lib.hid S
          go_upto_region 2 with fail
          have hbase := Lib.hid (St.new w1)
          refine RW.begin (Z := []) (S := (fun W => Below w1.heap.size w1 W)) (by kernel_rfl) ?_ hbase.out ?_
          · exact ⟨by kernel_rfl, zis_nil, by decide, by decide, nol_nil, (fun _ _ h => h.bel)⟩
          intro hzk
          refine RW.t (i := 0) (v := .int .u8 z) (some 6) at0 (hy := fun _ _ => by kernel_rfl) (h := ?_)
          refine RW.t (i := 1) (v := .bool false) (some 7) at1 (hy := fun _ _ => by go_simp) (h := ?_)
          refine RW.t (i := 2) (v := .bool false) (some 8) at2 (hy := fun _ _ => by kernel_rfl) (h := ?_)
          refine RW.t (i := 3) (v := .int .u8 z) (some 9) at3 (hy := fun _ _ => by kernel_rfl) (h := ?_)
          refine RW.t (i := 4) (v := .bool false) (some 10) at4 (hy := fun _ _ => by go_simp) (h := ?_)
          refine RW.t (i := 5) (v := .bool false) (some 11) at5 (hy := fun _ _ => by kernel_rfl) (h := ?_)
          refine RW.t (i := 6) (v := .bool false) (some 12) at6 (hy := fun _ _ => by kernel_rfl) (h := ?_)
          refine RW.t (i := 7) (v := .pointer (some ⟨rb, 0, none⟩)) (some 13) at7 (hy := fun _ _ => by kernel_rfl) (h := ?_)
          refine RW.t (i := 8) (v := .pointer (some ⟨rb, 0, none⟩)) (some 14) at8 (hy := fun _ _ => by go_simp) (h := ?_)
          refine RW.t (i := 9) (v := .pointer (some ⟨rb, 1, none⟩)) (some 15) at9 (hy := fun _ _ => by go_simp) (h := ?_)
          refine RW.t (i := 10) (v := .int .i64 q) (some 16) at10 (hy := fun W hS => by (have k0 := bel_cell hS c_1; clear hS; go_simp)) (h := ?_)
          refine RW.t (i := 11) (v := .int .i64 m) (some 17) at11 (hy := fun _ _ => by (go_simp; try rw [IntKind.wrap_i64]; try omega)) (h := ?_)
          refine RW.t (i := 12) (v := .pointer (some ⟨rb, 0, none⟩)) (some 18) at12 (hy := fun _ _ => by kernel_rfl) (h := ?_)
          refine RW.t (i := 13) (v := .pointer (some ⟨rb, 0, none⟩)) (some 19) at13 (hy := fun _ _ => by go_simp) (h := ?_)
          refine RW.t (i := 14) (v := .pointer (some ⟨rb, 0, none⟩)) (some 20) at14 (hy := fun _ _ => by go_simp) (h := ?_)
          refine RW.t (i := 15) (v := .string t) (some 21) at15 (hy := fun W hS => by (have k0 := bel_cell hS c_0; clear hS; go_simp)) (h := ?_)
          refine RW.t (i := 16) (v := .int .i64 t.size) (some 22) at16 (hy := fun _ _ => by go_simp) (h := ?_)
          refine RW.t (i := 17) (v := .bool true) (some 23) at17 (hy := fun _ _ => by go_simp) (h := ?_)
          refine RW.t (i := 18) (v := .bool true) (some 24) at18 (hy := fun _ _ => by kernel_rfl) (h := ?_)
          refine RW.t (i := 19) (v := .pointer (some ⟨rb, 0, none⟩)) (some 25) at19 (hy := fun _ _ => by kernel_rfl) (h := ?_)
          refine RW.t (i := 20) (v := .pointer (some ⟨rb, 0, none⟩)) (some 26) at20 (hy := fun _ _ => by go_simp) (h := ?_)
          refine RW.t (i := 21) (v := .pointer (some ⟨rb, 0, none⟩)) (some 27) at21 (hy := fun _ _ => by go_simp) (h := ?_)
          refine RW.t (i := 22) (v := .string t) (some 28) at22 (hy := fun W hS => by (have k0 := bel_cell hS c_0; clear hS; go_simp)) (h := ?_)
          refine RW.t (i := 23) (v := .pointer (some ⟨rb, 0, none⟩)) (some 29) at23 (hy := fun _ _ => by kernel_rfl) (h := ?_)
          refine RW.t (i := 24) (v := .pointer (some ⟨rb, 0, none⟩)) (some 30) at24 (hy := fun _ _ => by go_simp) (h := ?_)
          refine RW.t (i := 25) (v := .pointer (some ⟨rb, 1, none⟩)) (some 31) at25 (hy := fun _ _ => by go_simp) (h := ?_)
          refine RW.t (i := 26) (v := .int .i64 q) (some 32) at26 (hy := fun W hS => by (have k0 := bel_cell hS c_1; clear hS; go_simp)) (h := ?_)
          refine RW.t (i := 27) (v := .int .i64 m) (some 33) at27 (hy := fun _ _ => by (go_simp; try rw [IntKind.wrap_i64]; try omega)) (h := ?_)
          refine RW.t (i := 28) (v := .int .u8 t[m].toNat) (some 34) at28 (hy := fun _ _ => by (go_simp; try rfl)) (h := ?_)
          refine RW.t (i := 29) (v := .bool false) (some 35) at29 (hy := fun _ _ => by (go_simp; try omega)) (h := ?_)
          refine RW.t (i := 30) (v := .bool false) (some 36) at30 (hy := fun _ _ => by kernel_rfl) (h := ?_)
          refine RW.t (i := 31) (v := .bool false) (some 37) at31 (hy := fun _ _ => by kernel_rfl) (h := ?_)
          refine RW.u (i := 32) (some 38) at32 (h := ?_)
          refine RW.u (i := 33) (some 39) at33 (h := ?_)
          refine RW.u (i := 34) (some 40) at34 (h := ?_)
          refine RW.u (i := 35) (some 41) at35 (h := ?_)
          refine RW.u (i := 36) (some 42) at36 (h := ?_)
          refine RW.u (i := 37) (some 43) at37 (h := ?_)
          refine RW.u (i := 38) (some 44) at38 (h := ?_)
          refine RW.u (i := 39) (some 45) at39 (h := ?_)
          refine RW.u (i := 40) (some 46) at40 (h := ?_)
          refine RW.u (i := 41) (some 47) at41 (h := ?_)
          refine RW.u (i := 42) (some 48) at42 (h := ?_)
          refine RW.t (i := 43) (v := .bool false) (some 49) at43 (hy := fun _ _ => by kernel_rfl) (h := ?_)
          refine RW.t (i := 44) (v := .bool false) (some 50) at44 (hy := fun _ _ => by kernel_rfl) (h := ?_)
          refine RW.tail hzk.out (by kernel_rfl) ?_
          intro gs' w5 hgs' hS Sb
          obtain rfl := len0 hgs'
          simp only [mark, fill, Act.put, List.setIfInBounds_toArray, List.set_cons_zero, List.set_cons_succ]
          refine Wk.done (by kernel_rfl) ?_
          have S5 := Lib.hid (S.out.call hS)
          clear Sb hgs' hzk hbase hS S c_0 c_1 hlt0
          try go_simp
          go_wp2
          go_ret
          exact ⟨by first | rfl | (simp; done) | (simp; omega), S5.out⟩
      · have g3 : ¬ (m : Int) < (t.size : Int) := by omega
        have hnx : nxD t m = false := by unfold nxD; rw [List.getElem?_eq_none (Nat.le_trans (Nat.le_of_eq (toList_len t)) (Nat.le_of_not_lt hlt))]
        rw [if_pos ⟨hz1, hz2, hnx⟩] at hdg
        subst hdg
        clear hnx hlt
        go_enter Tryd.func109, Tryd.ntmps109
        go_wp2_with fail
        refine (hG.out _ S0.out).mono ?_
        rintro e w1 ⟨rfl, S⟩
        clear S0 hG
        have c_0 := S.cl 0 0 rfl rfl
        have c_1 := S.cl 0 1 rfl rfl
        have hlt0 := S.lt 0 rfl
        replace S := Lib.hid S
        go_upto_region 2 with fail
        have hbase := Lib.hid (St.new w1)
        refine RW.begin (Z := []) (S := (fun W => Below w1.heap.size w1 W)) (by kernel_rfl) ?_ hbase.out ?_
        · exact ⟨by kernel_rfl, zis_nil, by decide, by decide, nol_nil, (fun _ _ h => h.bel)⟩
        intro hzk
        refine RW.t (i := 0) (v := .int .u8 z) (some 6) at0 (hy := fun _ _ => by kernel_rfl) (h := ?_)
        refine RW.t (i := 1) (v := .bool false) (some 7) at1 (hy := fun _ _ => by go_simp) (h := ?_)
        refine RW.t (i := 2) (v := .bool false) (some 8) at2 (hy := fun _ _ => by kernel_rfl) (h := ?_)
        refine RW.t (i := 3) (v := .int .u8 z) (some 9) at3 (hy := fun _ _ => by kernel_rfl) (h := ?_)
        refine RW.t (i := 4) (v := .bool false) (some 10) at4 (hy := fun _ _ => by go_simp) (h := ?_)
        refine RW.t (i := 5) (v := .bool false) (some 11) at5 (hy := fun _ _ => by kernel_rfl) (h := ?_)
        refine RW.t (i := 6) (v := .bool false) (some 12) at6 (hy := fun _ _ => by kernel_rfl) (h := ?_)
        refine RW.t (i := 7) (v := .pointer (some ⟨rb, 0, none⟩)) (some 13) at7 (hy := fun _ _ => by kernel_rfl) (h := ?_)
        refine RW.t (i := 8) (v := .pointer (some ⟨rb, 0, none⟩)) (some 14) at8 (hy := fun _ _ => by go_simp) (h := ?_)
        refine RW.t (i := 9) (v := .pointer (some ⟨rb, 1, none⟩)) (some 15) at9 (hy := fun _ _ => by go_simp) (h := ?_)
        refine RW.t (i := 10) (v := .int .i64 q) (some 16) at10 (hy := fun W hS => by (have k0 := bel_cell hS c_1; clear hS; go_simp)) (h := ?_)
        refine RW.t (i := 11) (v := .int .i64 m) (some 17) at11 (hy := fun _ _ => by (go_simp; try rw [IntKind.wrap_i64]; try omega)) (h := ?_)
        refine RW.t (i := 12) (v := .pointer (some ⟨rb, 0, none⟩)) (some 18) at12 (hy := fun _ _ => by kernel_rfl) (h := ?_)
        refine RW.t (i := 13) (v := .pointer (some ⟨rb, 0, none⟩)) (some 19) at13 (hy := fun _ _ => by go_simp) (h := ?_)
        refine RW.t (i := 14) (v := .pointer (some ⟨rb, 0, none⟩)) (some 20) at14 (hy := fun _ _ => by go_simp) (h := ?_)
        refine RW.t (i := 15) (v := .string t) (some 21) at15 (hy := fun W hS => by (have k0 := bel_cell hS c_0; clear hS; go_simp)) (h := ?_)
        refine RW.t (i := 16) (v := .int .i64 t.size) (some 22) at16 (hy := fun _ _ => by go_simp) (h := ?_)
        refine RW.t (i := 17) (v := .bool false) (some 23) at17 (hy := fun _ _ => by (go_simp; try omega)) (h := ?_)
        refine RW.t (i := 18) (v := .bool false) (some 24) at18 (hy := fun _ _ => by kernel_rfl) (h := ?_)
        refine RW.u (i := 19) (some 25) at19 (h := ?_)
        refine RW.u (i := 20) (some 26) at20 (h := ?_)
        refine RW.u (i := 21) (some 27) at21 (h := ?_)
        refine RW.u (i := 22) (some 28) at22 (h := ?_)
        refine RW.u (i := 23) (some 29) at23 (h := ?_)
        refine RW.u (i := 24) (some 30) at24 (h := ?_)
        refine RW.u (i := 25) (some 31) at25 (h := ?_)
        refine RW.u (i := 26) (some 32) at26 (h := ?_)
        refine RW.u (i := 27) (some 33) at27 (h := ?_)
        refine RW.u (i := 28) (some 34) at28 (h := ?_)
        refine RW.u (i := 29) (some 35) at29 (h := ?_)
        refine RW.t (i := 30) (v := .bool false) (some 36) at30 (hy := fun _ _ => by kernel_rfl) (h := ?_)
        refine RW.t (i := 31) (v := .bool false) (some 37) at31 (hy := fun _ _ => by kernel_rfl) (h := ?_)
        refine RW.u (i := 32) (some 38) at32 (h := ?_)
        refine RW.u (i := 33) (some 39) at33 (h := ?_)
        refine RW.u (i := 34) (some 40) at34 (h := ?_)
        refine RW.u (i := 35) (some 41) at35 (h := ?_)
        refine RW.u (i := 36) (some 42) at36 (h := ?_)
        refine RW.u (i := 37) (some 43) at37 (h := ?_)
        refine RW.u (i := 38) (some 44) at38 (h := ?_)
        refine RW.u (i := 39) (some 45) at39 (h := ?_)
        refine RW.u (i := 40) (some 46) at40 (h := ?_)
        refine RW.u (i := 41) (some 47) at41 (h := ?_)
        refine RW.u (i := 42) (some 48) at42 (h := ?_)
        refine RW.t (i := 43) (v := .bool false) (some 49) at43 (hy := fun _ _ => by kernel_rfl) (h := ?_)
        refine RW.t (i := 44) (v := .bool false) (some 50) at44 (hy := fun _ _ => by kernel_rfl) (h := ?_)
        refine RW.tail hzk.out (by kernel_rfl) ?_
        intro gs' w5 hgs' hS Sb
        obtain rfl := len0 hgs'
        simp only [mark, fill, Act.put, List.setIfInBounds_toArray, List.set_cons_zero, List.set_cons_succ]
        refine Wk.done (by kernel_rfl) ?_
        have S5 := Lib.hid (S.out.call hS)
        clear Sb hgs' hzk hbase hS S c_0 c_1 hlt0
        try go_simp
        go_wp2
        go_ret
        exact ⟨by first | rfl | (simp; done) | (simp; omega), S5.out⟩
end Go.Proofs.YthbkdjbmkhmlnaaDoor
namespace Go.Proofs.YthbkdjbmkhmlnaaDoor
open Go.RowKit
set_option linter.unusedVariables false

/-- What is wrong with a number of one digit: 3 that there is none, 1 that it is out of its range. -/
def exE (v lo hi : Int) : Int := if v < 0 then 3 else if v < lo ∨ hi < v then 1 else 0
def erX (er x : Int) : Int := if er = 0 then x else er
def plX (er x : Int) (q pl : Nat) : Nat := if er = 0 ∧ ¬ x = 0 then q else pl
theorem plX_ne {er x : Int} {q pl : Nat} (h : ¬ x = 0) : plX er x q pl = if er = 0 then q else pl := by
  unfold plX; simp [h]
theorem plX_0 {er : Int} {q pl : Nat} : plX er 0 q pl = pl := by unfold plX; simp
theorem erX_0 {er : Int} : erX er 0 = er := by unfold erX; split <;> simp_all

set_option maxRecDepth 100000 in
set_option maxHeartbeats 4000000 in
theorem exponent_any (t : ByteArray) (p : Nat) (er : Int) (pl : Nat) (rb : Nat) (bs : List GBk) (rs : List GRd) (w0 w : World) (S0 : St w0 w ((rb, r9C t p er pl, 77) :: bs) rs) (ht : t.size ≤ 100000) (hp : p ≤ 100100) (lo hi : Int) : Calls Tryd.prog 98 #[.pointer (some ⟨rb, 0, none⟩), .int .i64 lo, .int .i64 hi] w fun E w' => E = .returned (.int .i64 (dgV t (blN t p) er)) ∧ St w0 w' ((rb, r9C t (blN t p + 1) (erX er (exE (dgV t (blN t p) er) lo hi)) (plX er (exE (dgV t (blN t p) er) lo hi) (blN t p) pl), 77) :: bs) rs := by
  have hD : Hid (∀ W, St w0 W ((rb, r9C t p er pl, 77) :: bs) rs → Calls Tryd.prog 109 #[.pointer (some ⟨rb, 0, none⟩)] W fun E w' => E = .returned (.int .i64 (dgV t (blN t p) er)) ∧ St w0 w' ((rb, r9C t (blN t p) er pl, 77) :: bs) rs) := Lib.hid fun W hW => digit_any t p er pl rb bs rs w0 W hW ht hp
  have hF : Hid (∀ x : Int, ¬ x = 0 → ∀ W, St w0 W ((rb, r9C t (blN t p) er pl, 77) :: bs) rs → Calls Tryd.prog 49 #[.pointer (some ⟨rb, 0, none⟩), .int .i64 x] W fun E w' => E = .returned (.tuple #[]) ∧ St w0 w' ((rb, r9C t (blN t p) (erX er x) (plX er x (blN t p) pl), 77) :: bs) rs) := Lib.hid fun x hx W hW => by
    rw [plX_ne hx]; exact fail_any t (blN t p) er pl rb bs rs w0 W hW x
  have hbl := bl_le ht hp
  generalize dgV t (blN t p) er = v at *
  generalize blN t p = q at *
  have hq5 : q ≤ 100100 := by omega
  replace S0 := Lib.hid S0
  clear ht hp hbl
  by_cases h1 : v < 0
  · rw [show exE v lo hi = 3 by unfold exE; rw [if_pos h1]]
    have hF1 := Lib.hid (hF.out 3 (by decide))
    generalize erX er 3 = e2 at *
    generalize plX er 3 q pl = p2 at *
    clear hF
    go_enter Tryd.func98, Tryd.ntmps98
    go_wp2_with fail
    refine (hD.out _ S0.out).mono ?_
    rintro e w1 ⟨rfl, S⟩
    clear S0 hD
    replace S := Lib.hid S
    go_wp2_with fail
    refine (hF1.out _ S.out).mono ?_
    rintro e w2 ⟨rfl, S2⟩
    clear S hF1
    have S := S2
    clear S2
    have c_1 := S.cl 0 1 rfl rfl
    have f_1 := S.f 0 1 rfl
    have hlt0 := S.lt 0 rfl
    have S6 := Lib.hid (S.set 0 1 (.int .i64 ((q + 1 : Nat) : Int)) rfl (fun _ => by simp))
    replace S := Lib.hid S
    go_wp2
    go_ret
    exact ⟨rfl, S6.out⟩
  · by_cases h2 : v < lo
    · rw [show exE v lo hi = 1 by unfold exE; rw [if_neg h1, if_pos (.inl h2)]]
      have hF1 := Lib.hid (hF.out 1 (by decide))
      generalize erX er 1 = e2 at *
      generalize plX er 1 q pl = p2 at *
      clear hF
      go_enter Tryd.func98, Tryd.ntmps98
      go_wp2_with fail
      refine (hD.out _ S0.out).mono ?_
      rintro e w1 ⟨rfl, S⟩
      clear S0 hD
      replace S := Lib.hid S
      go_wp2_with fail
      refine (hF1.out _ S.out).mono ?_
      rintro e w2 ⟨rfl, S2⟩
      clear S hF1
      have S := S2
      clear S2
      have c_1 := S.cl 0 1 rfl rfl
      have f_1 := S.f 0 1 rfl
      have hlt0 := S.lt 0 rfl
      have S6 := Lib.hid (S.set 0 1 (.int .i64 ((q + 1 : Nat) : Int)) rfl (fun _ => by simp))
      replace S := Lib.hid S
      go_wp2
      go_ret
      exact ⟨rfl, S6.out⟩
    · by_cases h3 : hi < v
      · rw [show exE v lo hi = 1 by unfold exE; rw [if_neg h1, if_pos (.inr h3)]]
        have hF1 := Lib.hid (hF.out 1 (by decide))
        generalize erX er 1 = e2 at *
        generalize plX er 1 q pl = p2 at *
        clear hF
        go_enter Tryd.func98, Tryd.ntmps98
        go_wp2_with fail
        refine (hD.out _ S0.out).mono ?_
        rintro e w1 ⟨rfl, S⟩
        clear S0 hD
        replace S := Lib.hid S
        go_wp2_with fail
        refine (hF1.out _ S.out).mono ?_
        rintro e w2 ⟨rfl, S2⟩
        clear S hF1
        have S := S2
        clear S2
        have c_1 := S.cl 0 1 rfl rfl
        have f_1 := S.f 0 1 rfl
        have hlt0 := S.lt 0 rfl
        have S6 := Lib.hid (S.set 0 1 (.int .i64 ((q + 1 : Nat) : Int)) rfl (fun _ => by simp))
        replace S := Lib.hid S
        go_wp2
        go_ret
        exact ⟨rfl, S6.out⟩
      · rw [show exE v lo hi = 0 by unfold exE; rw [if_neg h1, if_neg (by omega)], erX_0, plX_0]
        clear hF
        go_enter Tryd.func98, Tryd.ntmps98
        go_wp2_with fail
        refine (hD.out _ S0.out).mono ?_
        rintro e w1 ⟨rfl, S⟩
        clear S0 hD
        have c_1 := S.cl 0 1 rfl rfl
        have f_1 := S.f 0 1 rfl
        have hlt0 := S.lt 0 rfl
        have S6 := Lib.hid (S.set 0 1 (.int .i64 ((q + 1 : Nat) : Int)) rfl (fun _ => by simp))
        replace S := Lib.hid S
        go_wp2
        go_ret
        exact ⟨rfl, S6.out⟩
end Go.Proofs.YthbkdjbmkhmlnaaDoor
namespace Go.Proofs.YthbkdjbmkhmlnaaDoor
open Go.RowKit
set_option linter.unusedVariables false

theorem bl_drop (t : ByteArray) (p : Nat) : t.data.toList.drop (blN t p) = F9.trm (t.data.toList.drop p) := by
  unfold blN F9.trm
  rw [← List.drop_drop]
  generalize t.data.toList.drop p = l
  induction l with
  | nil => rfl
  | cons c s ih =>
    rw [List.takeWhile_cons, List.dropWhile_cons]
    split
    · rw [List.length_cons, List.drop_succ_cons]; exact ih
    · rfl
theorem head_drop {α : Type} (l : List α) (q : Nat) : l[q]? = (l.drop q).head? := by rw [List.head?_drop]
/-- The first byte as a number. -/
def hdN (r : F9.Bs) : Nat := (r.head?.map (fun c => c.toNat)).getD 0
theorem sg_hd {t : ByteArray} {q : Nat} {r : F9.Bs} (h : t.data.toList.drop q = r) : sgV t q 0 = hdN r := by
  unfold sgV hdN
  rw [if_pos rfl, head_drop, h]
theorem fw_hd {c : UInt8} (h1 : letB c = false) (h2 : digB c = false) (r : F9.Bs) : F9.fw r = [c] ↔ r.head? = some c := by
  cases r with
  | nil => simp [F9.fw]
  | cons d s =>
    rw [F9.fw]
    split
    · rename_i h
      constructor
      · intro e; injection e with e _; subst e; rw [h1] at h; cases h
      · intro e; simp at e; subst e; rw [h1] at h; cases h
    · split
      · rename_i h
        constructor
        · intro e; injection e with e _; subst e; rw [h2] at h; cases h
        · intro e; simp at e; subst e; rw [h2] at h; cases h
      · simp
theorem hd_is {c : UInt8} (h0 : ¬ c.toNat = 0) (r : F9.Bs) : hdN r = c.toNat ↔ r.head? = some c := by
  unfold hdN
  cases r with
  | nil => simp; omega
  | cons d s =>
    simp only [List.head?_cons, Option.map_some, Option.getD_some, Option.some.injEq]
    exact ⟨fun e => UInt8.toNat_inj.1 e, fun e => by rw [e]⟩
theorem hd_lt (r : F9.Bs) : hdN r < 256 := by
  unfold hdN
  cases r with
  | nil => simp
  | cons d s => exact UInt8.toNat_lt d
/-- A sign that is neither a letter nor a digit. -/
def sgnC (c : UInt8) : Prop := letB c = false ∧ digB c = false ∧ ¬ c.toNat = 0
theorem sg_fw {t : ByteArray} {q : Nat} {r : F9.Bs} (h : t.data.toList.drop q = r) {c : UInt8} (hc : sgnC c) : sgV t q 0 = c.toNat ↔ F9.fw r = [c] := by
  rw [sg_hd h, hd_is hc.2.2, fw_hd hc.1 hc.2.1]
theorem nx_one {t : ByteArray} {q : Nat} {r : F9.Bs} (h : t.data.toList.drop q = r) {k : Nat} (hk : (F9.fw r).length = k) : F9.trm (t.data.toList.drop (q + k)) = F9.nx r := by
  unfold F9.nx
  rw [hk, ← h, List.drop_drop]
theorem drop_len2 {t : ByteArray} {q : Nat} {r : F9.Bs} (h : t.data.toList.drop q = r) (hq : q ≤ t.size) : q = t.size - r.length ∧ q + r.length = t.size := by
  rw [← h, List.length_drop, toList_len]; omega
theorem fw_pos' {r : F9.Bs} {x : F9.Bs} (h : F9.fw r = x) (hx : ¬ x = []) : ¬ r = [] := fun e => hx (by rw [← h, e]; rfl)
/-- A word of one digit. -/
def dgN (r : F9.Bs) : Int := match F9.fw r with
  | [d] => if digB d then (d.toNat : Int) - 48 else -1
  | _ => -1
theorem dg_is {t : ByteArray} {q : Nat} {r : F9.Bs} (h : t.data.toList.drop q = r) : dgV t q 0 = dgN r := by
  unfold dgV dgN
  rw [sg_hd h]
  have hn : nxD t (q + 1) = match r.drop 1 with | d :: _ => digB d | [] => false := by
    unfold nxD
    rw [head_drop, ← List.drop_drop, h]
    cases r.drop 1 <;> rfl
  rw [hn]
  clear hn h
  cases r with
  | nil => rfl
  | cons d s =>
    show (if 48 ≤ d.toNat ∧ d.toNat ≤ 57 ∧ (match s with | d :: _ => digB d | [] => false) = false then (d.toNat : Int) - 48 else -1) = _
    by_cases hd : digB d = true
    · have hl := F9.dig_let hd
      have hd2 : 48 ≤ d.toNat ∧ d.toNat ≤ 57 := by unfold digB at hd; simpa using hd
      have hf : F9.fw (d :: s) = d :: s.takeWhile digB := by rw [F9.fw, if_neg (by rw [hl]; simp), if_pos hd]
      rw [hf]
      cases s with
      | nil => simp [hd, hd2]
      | cons e s =>
        simp only [List.takeWhile_cons]
        by_cases he : digB e = true
        · simp [he]
        · simp [hd, hd2, he]
    · have hd2 : ¬ (48 ≤ d.toNat ∧ d.toNat ≤ 57) := by
        intro h; apply hd; unfold digB; simp [h]
      rw [if_neg (fun h => hd2 ⟨h.1, h.2.1⟩), F9.fw, if_neg hd]
      by_cases hl : letB d = true
      · rw [if_pos hl]
        split
        · rename_i d' e; injection e with e _; subst e; rw [if_neg hd]
        · rfl
      · rw [if_neg hl]
        simp [hd]
/-- A word that begins with a letter. -/
theorem wd_fw {t : ByteArray} {q : Nat} {r : F9.Bs} (h : t.data.toList.drop q = r) : (wdB t q 0).data.toList = if letB (r.head?.getD 0) then F9.fw r else [] := by
  unfold wdB sgC wdL
  rw [if_pos rfl, head_drop, h]
  cases r with
  | nil => simp; rfl
  | cons d s =>
    change (if letB d = true then (⟨((d :: s).takeWhile innB).toArray⟩ : ByteArray) else ByteArray.empty).data.toList = if letB d = true then F9.fw (d :: s) else []
    by_cases hl : letB d = true
    · rw [if_pos hl, if_pos hl, F9.fw, if_pos hl]
      show (d :: s).takeWhile innB = _
      rw [List.takeWhile_cons, if_pos (letB_inn hl)]
    · rw [if_neg hl, if_neg hl]; rfl
theorem wd_name {t : ByteArray} {q : Nat} {r : F9.Bs} (h : t.data.toList.drop q = r) : nameB (wdB t q 0) = nameL (F9.fw r) := by
  unfold nameB
  rw [wd_fw h]
  cases r with
  | nil => rfl
  | cons d s =>
    change nameL (if letB d = true then F9.fw (d :: s) else []) = _
    by_cases hl : letB d = true
    · rw [if_pos hl]
    · rw [if_neg hl, F9.fw, if_neg hl]
      split
      · simp [nameL, hl]
      · simp [nameL, hl]
theorem wd_is {t : ByteArray} {q : Nat} {r : F9.Bs} (h : t.data.toList.drop q = r) {x : F9.Bs} (hx : ∃ c s, x = c :: s ∧ letB c = true) : wdB t q 0 = ⟨x.toArray⟩ ↔ F9.fw r = x := by
  have e := wd_fw h
  obtain ⟨c, s, rfl, hc⟩ := hx
  constructor
  · intro h2
    rw [h2] at e
    split at e
    · rw [← e]
    · simp at e
  · intro h2
    have hd : letB (r.head?.getD 0) = true := by
      cases r with
      | nil => simp [F9.fw] at h2
      | cons d s' =>
        have : d = c := by
          rw [F9.fw] at h2
          split at h2
          · injection h2
          · split at h2
            · injection h2
            · injection h2
        simp [this, hc]
    rw [if_pos hd, h2] at e
    apply ByteArray.ext; apply Array.ext'
    rw [e]
theorem lev_bop (r : F9.Bs) : F9.bop r = if hdN r = 43 then some 5 else if hdN r = 45 then some 6 else if hdN r = 58 then some 7 else if hdN r = 42 then some 8 else if hdN r = 47 then some 9 else none := by
  have e : ∀ c : UInt8, sgnC c → (F9.fw r = [c] ↔ hdN r = c.toNat) := fun c hc => by rw [hd_is hc.2.2, fw_hd hc.1 hc.2.1]
  have e1 := e 43 ⟨rfl, rfl, by decide⟩
  have e2 := e 45 ⟨rfl, rfl, by decide⟩
  have e3 := e 58 ⟨rfl, rfl, by decide⟩
  have e4 := e 42 ⟨rfl, rfl, by decide⟩
  have e5 := e 47 ⟨rfl, rfl, by decide⟩
  have t1 : (43 : UInt8).toNat = 43 := rfl
  have t2 : (45 : UInt8).toNat = 45 := rfl
  have t3 : (58 : UInt8).toNat = 58 := rfl
  have t4 : (42 : UInt8).toNat = 42 := rfl
  have t5 : (47 : UInt8).toNat = 47 := rfl
  rw [t1] at e1; rw [t2] at e2; rw [t3] at e3; rw [t4] at e4; rw [t5] at e5
  simp only [← e1, ← e2, ← e3, ← e4, ← e5]
  clear e1 e2 e3 e4 e5
  unfold F9.bop
  by_cases a1 : F9.fw r = [43]
  · simp [a1]
  by_cases a2 : F9.fw r = [45]
  · simp [a2]
  by_cases a3 : F9.fw r = [58]
  · simp [a3]
  by_cases a4 : F9.fw r = [42]
  · simp [a4]
  by_cases a5 : F9.fw r = [47]
  · simp [a5]
  rw [if_neg a1, if_neg a2, if_neg a3, if_neg a4, if_neg a5]
  split <;> simp_all
/-- The reference's reader where nothing is wrong: what is left; behind an error. -/
def RA (w0 W : World) (rb : Nat) (t : ByteArray) (r : F9.Bs) (bs : List GBk) : Prop :=
  ∃ p, p ≤ t.size ∧ F9.trm (t.data.toList.drop p) = r ∧ St w0 W ((rb, r9C t p 0 0, 77) :: bs) []
def RD (w0 W : World) (rb : Nat) (t : ByteArray) (er : Int) (pl k : Nat) (bs : List GBk) : Prop :=
  ¬ er = 0 ∧ ∃ p, p ≤ t.size + k ∧ St w0 W ((rb, r9C t p er pl, 77) :: bs) []
section
variable {w0 W : World} {rb : Nat} {t : ByteArray} {r : F9.Bs} {bs : List GBk} {er : Int} {pl : Nat}
theorem trm_trm (l : F9.Bs) : F9.trm (F9.trm l) = F9.trm l := by
  unfold F9.trm
  induction l with
  | nil => rfl
  | cons c s ih =>
    rw [List.dropWhile_cons]
    split
    · exact ih
    · rename_i h; rw [List.dropWhile_cons, if_neg h]
theorem RA.st (h : RA w0 W rb t r bs) (ht : t.size ≤ 100000) : ∃ p, p ≤ 100100 ∧ blN t p ≤ t.size ∧ t.data.toList.drop (blN t p) = r ∧ F9.trm r = r ∧ St w0 W ((rb, r9C t p 0 0, 77) :: bs) [] := by
  obtain ⟨p, h1, h2, h3⟩ := h
  exact ⟨p, by omega, (bl_le ht (by omega)).2.2 h1, by rw [bl_drop, h2], by rw [← h2, trm_trm], h3⟩
end
end Go.Proofs.YthbkdjbmkhmlnaaDoor
