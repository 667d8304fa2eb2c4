/- Lists and lists of lists of numbers that are the same. -/
import Derived.Test.YtlflaalefilplaaDoorM16
import Derived.Test.YtlflaalefilplaaDoorM10
import Derived.Shelf.Strconv.Itoa0
import Derived.Shelf.Strconv.Itoa1
import Derived.Shelf.LaysM
import Derived.Shelf.Strconv.Itoa2
import Derived.Shelf.Strconv.Itoa3
import Derived.Test.YtlflaalefilplaaDoorProg
import Derived.Test.YtlflaalefilplaaDoorM07
namespace Go.Proofs.YtlflaalefilplaaDoor
open Go.RowKit RQ
set_option linter.unusedVariables false

theorem bel_cell {w W : World} (h : Below w.heap.size w W) {a : Addr} {v : Value} (hc : w.cell? a = some v) : W.cell? a = some v := by
  have hlt : a.block < w.heap.size := by
    rcases Nat.lt_or_ge a.block w.heap.size with h1 | h1
    · exact h1
    · rw [World.cell?, Array.getElem?_eq_none h1] at hc
      cases hc
  rw [World.cell?_of_block (h.block a.block hlt)]; exact hc
section
variable {w W : World} {A : Option Addr} {n : Nat}
theorem row_get {L : List Rw} (h : LR rwC W A n L) {i : Nat} (hi : i < n) : ∃ b o x, A = some ⟨b, o, none⟩ ∧ L[i]? = some x ∧ x ∈ L ∧ W.cell? ⟨b, o + i * 3, none⟩ = some (.bool x.b) ∧ W.cell? ⟨b, o + i * 3 + 1, none⟩ = some (.slice x.x.A x.x.n x.x.c) ∧ W.cell? ⟨b, o + i * 3 + 2, none⟩ = some (.slice x.y.A x.y.n x.y.c) ∧ Rd W x.x.A x.x.n x.x.c x.x.x ∧ Rd W x.y.A x.y.n x.y.c x.y.x := by
  obtain ⟨b, o, x, h1, h2, h3, h4, h5⟩ := h.get hi
  have q0 := h5 0 _ rfl
  have q1 := h5 1 _ rfl
  have q2 := h5 2 _ rfl
  rw [show rwC.sz = 3 from rfl] at q0 q1 q2
  rw [Nat.add_zero] at q0
  exact ⟨b, o, x, h1, h2, h3, q0, q1, q2, h4.2.1, h4.2.2⟩
theorem mat_get {L : List (Sl Rw)} (h : LR (slC rwC) W A n L) {i : Nat} (hi : i < n) : ∃ b o s, A = some ⟨b, o, none⟩ ∧ L[i]? = some s ∧ s ∈ L ∧ W.cell? ⟨b, o + i, none⟩ = some (.slice s.A s.L.length s.c) ∧ LR rwC W s.A s.L.length s.L := by
  obtain ⟨b, o, s, h1, h2, h3, h4, h5⟩ := h.get hi
  have q0 := h5 0 _ rfl
  rw [show (slC rwC).sz = 1 from rfl, Nat.mul_one, Nat.add_zero] at q0
  exact ⟨b, o, s, h1, h2, h3, q0, h4.1⟩
theorem map_at {α β γ : Type} {f : α → γ} {g : β → γ} {L : List α} {M : List β} (h : L.map f = M.map g) {i : Nat} {x : α} (hx : L[i]? = some x) : ∃ q, M[i]? = some q ∧ q ∈ M ∧ f x = g q := by
  have e := congrArg (fun l => l[i]?) h
  simp only [List.getElem?_map, hx, Option.map_some] at e
  cases hq : M[i]? with
  | none => rw [hq] at e; cases e
  | some q => rw [hq] at e; injection e with e; exact ⟨q, rfl, List.mem_of_getElem? hq, e⟩
theorem rw_rr {x : Rw} {q : Rat} (h : rwV x = qV q) (R1 : Rd W x.x.A x.x.n x.x.c x.x.x) (R2 : Rd W x.y.A x.y.n x.y.c x.y.x) : x.b = ng q.num ∧ RR W x.x.A x.x.n x.x.c x.y.A x.y.n x.y.c q := by
  unfold rwV qV at h
  simp only [Prod.mk.injEq] at h
  obtain ⟨h1, h2, h3⟩ := h
  rw [h2] at R1
  rw [h3] at R2
  exact ⟨h1, ⟨R1, R2⟩⟩
end
set_option maxRecDepth 100000 in
set_option maxHeartbeats 4000000 in
theorem sameRow_yes (M : List Rat) (L L' : List Rw) (A : Option Addr) (n c : Nat) (A' : Option Addr) (c' : Nat) (w : World) (h : LR rwC w A n L) (h' : LR rwC w A' n L') (hM : L.map rwV = M.map qV) (hM' : L'.map rwV = M.map qV) (hs : ∀ q ∈ M, Rs q 200) (hn : n ≤ 100000) : Calls Tryd.prog 27 #[.slice A n c, .slice A' n c'] w fun e w' => e = .returned (.bool true) ∧ Below w.heap.size w w' := by
  have hb := Lib.hid hn
  replace h := Lib.hid h
  replace h' := Lib.hid h'
  replace hM := Lib.hid hM
  replace hM' := Lib.hid hM'
  replace hs := Lib.hid hs
  clear hn
  go_enter Tryd.func27, Tryd.ntmps27
  go_wp2
  go_loopw [5] (fun iv wr => ∃ i : Nat, i ≤ n ∧ iv = .int .i64 i ∧ Below w.heap.size w wr) (fun iv _ => n - (intOf iv).toNat)
  case atStart => exact ⟨0, Nat.zero_le _, rfl, Below.refl _ _⟩
  case round =>
    obtain ⟨i, hin, rfl, B⟩ := hrel
    by_cases hlt : i < n
    · obtain ⟨b, o, x, rfl, hx, _, e0, e1, e2, R1, R2⟩ := row_get (h.out.bel B) hlt
      obtain ⟨b2, o2, y, rfl, hy, _, y0, y1, y2, R3, R4⟩ := row_get (h'.out.bel B) hlt
      obtain ⟨q, hq, hqm, hxq⟩ := map_at hM.out hx
      obtain ⟨q', hq', _, hyq⟩ := map_at hM'.out hy
      obtain rfl : q = q' := by rw [hq] at hq'; exact Option.some.inj hq'
      obtain ⟨xb, X⟩ := rw_rr hxq R1 R2
      obtain ⟨yb, Y⟩ := rw_rr hyq R3 R4
      have hX : Hid (∀ W, Below wr.heap.size wr W → Calls Tryd.prog 18 #[.agg #[.bool x.b, .slice x.x.A x.x.n x.x.c, .slice x.y.A x.y.n x.y.c], .agg #[.bool y.b, .slice y.x.A y.x.n y.x.c, .slice y.y.A y.y.n y.y.c]] W fun e w' => e = .returned (.bool true) ∧ Below W.heap.size W w') := Lib.hid fun W hW => by
        have := sameQ q q x.x.A x.x.n x.x.c x.y.A x.y.n x.y.c y.x.A y.x.n y.x.c y.y.A y.y.n y.y.c W (X.below hW) (Y.below hW) (hs.out q hqm) (hs.out q hqm)
        rw [← xb] at this
        rw [show x.b = y.b from xb.trans yb.symm] at this ⊢
        simpa using this
      have hih := Lib.hid hlt
      have g1 : (i : Int) < (n : Int) := by omega
      have g2 : (0 : Int) ≤ (i : Int) := by omega
      replace B := Lib.hid B
      replace e0 := Lib.hid e0
      replace e1 := Lib.hid e1
      replace e2 := Lib.hid e2
      replace y0 := Lib.hid y0
      replace y1 := Lib.hid y1
      replace y2 := Lib.hid y2
      clear hlt hin hx hy hq hq' hqm hxq hyq R1 R2 R3 R4 xb yb X Y
      go_upto_region 6 with fail
      have hbase := Lib.hid (St.new wr)
      refine RW.begin (Z := []) (S := (fun W => Below wr.heap.size wr W)) (by kernel_rfl) ?_ hbase.out ?_
      · exact ⟨by kernel_rfl, zis_nil, by decide, by decide, nol_nil, (fun _ _ h => h.bel)⟩
      intro hzk
      refine RW.t (i := 0) (v := .slice (some ⟨b, o, none⟩) n c) (some 17) at0 (hy := fun _ _ => by kernel_rfl) (h := ?_)
      refine RW.t (i := 1) (v := .int .i64 i) (some 18) at1 (hy := fun _ _ => by kernel_rfl) (h := ?_)
      refine RW.t (i := 2) (v := .pointer (some ⟨b, o + i * 3, none⟩)) (some 19) at2 (hy := fun _ _ => by go_simp) (h := ?_)
      refine RW.t (i := 3) (v := .agg #[.bool x.b, .slice x.x.A x.x.n x.x.c, .slice x.y.A x.y.n x.y.c]) (some 20) at3 (hy := fun W hS => by (have k0 := bel_cell hS e0.out; have k1 := bel_cell hS e1.out; have k2 := bel_cell hS e2.out; clear hS; go_simp)) (h := ?_)
      refine RW.t (i := 4) (v := .slice (some ⟨b2, o2, none⟩) n c') (some 21) at4 (hy := fun _ _ => by kernel_rfl) (h := ?_)
      refine RW.t (i := 5) (v := .int .i64 i) (some 22) at5 (hy := fun _ _ => by kernel_rfl) (h := ?_)
      refine RW.t (i := 6) (v := .pointer (some ⟨b2, o2 + i * 3, none⟩)) (some 23) at6 (hy := fun _ _ => by go_simp) (h := ?_)
      refine RW.t (i := 7) (v := .agg #[.bool y.b, .slice y.x.A y.x.n y.x.c, .slice y.y.A y.y.n y.y.c]) (some 24) at7 (hy := fun W hS => by (have k0 := bel_cell hS y0.out; have k1 := bel_cell hS y1.out; have k2 := bel_cell hS y2.out; clear hS; go_simp)) (h := ?_)
      refine RW.c (i := 8) (args := #[.agg #[.bool x.b, .slice x.x.A x.x.n x.x.c, .slice x.y.A x.y.n x.y.c], .agg #[.bool y.b, .slice y.x.A y.x.n y.x.c, .slice y.y.A y.y.n y.y.c]]) (some 25) hzk.out at8 (hx := fun _ => by kernel_rfl) (h := fun W S => (hX.out W S.bel).mono ?_)
      rintro e w7 ⟨rfl, bb⟩
      refine ⟨bb, _, [], rfl, rd_nil, ?_⟩
      refine RW.t (i := 9) (v := .bool false) (some 26) at9 (hy := fun _ _ => by kernel_rfl) (h := ?_)
      refine RW.tail hzk.out (by kernel_rfl) ?_
      intro gs' w5 hgs' hS Sb
      obtain rfl := len0 hgs'
      simp only [mark, fill, Act.put, List.setIfInBounds_toArray, List.set_cons_zero, List.set_cons_succ]
      refine Wk.done (by kernel_rfl) ?_
      have T := Lib.hid (B.out.trans (hS.mono B.out.size))
      clear Sb hgs' hzk hbase hS B hX
      try go_simp
      have hlt := hih.out
      have hbb := hb.out
      go_wp2
      go_roundw
      case rel => exact ⟨i + 1, by omega, by go_num, T.out⟩
      case measure => simp [intOf]; omega
    · obtain rfl : n = i := by omega
      replace B := Lib.hid B
      clear hin hlt
      go_wp2
      go_ret
      exact ⟨rfl, B.out⟩
set_option maxRecDepth 100000 in
set_option maxHeartbeats 4000000 in
theorem sameMat_yes (M : List (List Rat)) (L L' : List (Sl Rw)) (A : Option Addr) (n c : Nat) (A' : Option Addr) (c' : Nat) (w : World) (h : LR (slC rwC) w A n L) (h' : LR (slC rwC) w A' n L') (hM : MatV L M) (hM' : MatV L' M) (hs : ∀ r ∈ M, r.length ≤ 100000 ∧ ∀ q ∈ r, Rs q 200) (hn : n ≤ 100000) : Calls Tryd.prog 10 #[.slice A n c, .slice A' n c'] w fun e w' => e = .returned (.bool true) ∧ Below w.heap.size w w' := by
  have hb := Lib.hid hn
  unfold MatV at hM hM'
  replace h := Lib.hid h
  replace h' := Lib.hid h'
  replace hM := Lib.hid hM
  replace hM' := Lib.hid hM'
  replace hs := Lib.hid hs
  clear hn
  go_enter Tryd.func10, Tryd.ntmps10
  go_wp2
  go_loopw [5] (fun iv wr => ∃ i : Nat, i ≤ n ∧ iv = .int .i64 i ∧ Below w.heap.size w wr) (fun iv _ => n - (intOf iv).toNat)
  case atStart => exact ⟨0, Nat.zero_le _, rfl, Below.refl _ _⟩
  case round =>
    obtain ⟨i, hin, rfl, B⟩ := hrel
    by_cases hlt : i < n
    · obtain ⟨b, o, x, rfl, hx, _, e0, R1⟩ := mat_get (h.out.bel B) hlt
      obtain ⟨b2, o2, y, rfl, hy, _, y0, R2⟩ := mat_get (h'.out.bel B) hlt
      obtain ⟨q, hq, hqm, hxq⟩ := map_at hM.out hx
      obtain ⟨q', hq', _, hyq⟩ := map_at hM'.out hy
      obtain rfl : q = q' := by rw [hq] at hq'; exact Option.some.inj hq'
      have hl1 : x.L.length = q.length := by have := congrArg List.length hxq; simpa using this
      have hl : y.L.length = x.L.length := by have := congrArg List.length hyq; rw [List.length_map, List.length_map] at this; omega
      rw [hl] at y0 R2
      have hX : Hid (∀ W, Below wr.heap.size wr W → Calls Tryd.prog 27 #[.slice x.A x.L.length x.c, .slice y.A x.L.length y.c] W fun e w' => e = .returned (.bool true) ∧ Below W.heap.size W w') := Lib.hid fun W hW => sameRow_yes q x.L y.L x.A x.L.length x.c y.A y.c W (R1.bel hW) (R2.bel hW) hxq hyq (fun r hr => (hs.out q hqm).2 r hr) (by rw [hl1]; exact (hs.out q hqm).1)
      have hih := Lib.hid hlt
      have g1 : (i : Int) < (n : Int) := by omega
      have g2 : (0 : Int) ≤ (i : Int) := by omega
      replace B := Lib.hid B
      replace e0 := Lib.hid e0
      replace y0 := Lib.hid y0
      clear hlt hin hx hy hq hq' hqm hxq hyq R1 R2 hl hl1
      generalize x.L.length = m at *
      go_upto_region 6 with fail
      have hbase := Lib.hid (St.new wr)
      refine RW.begin (Z := []) (S := (fun W => Below wr.heap.size wr W)) (by kernel_rfl) ?_ hbase.out ?_
      · exact ⟨by kernel_rfl, zis_nil, by decide, by decide, nol_nil, (fun _ _ h => h.bel)⟩
      intro hzk
      refine RW.t (i := 0) (v := .slice (some ⟨b, o, none⟩) n c) (some 17) at0 (hy := fun _ _ => by kernel_rfl) (h := ?_)
      refine RW.t (i := 1) (v := .int .i64 i) (some 18) at1 (hy := fun _ _ => by kernel_rfl) (h := ?_)
      refine RW.t (i := 2) (v := .pointer (some ⟨b, o + i, none⟩)) (some 19) at2 (hy := fun _ _ => by go_simp) (h := ?_)
      refine RW.t (i := 3) (v := .slice x.A m x.c) (some 20) at3 (hy := fun W hS => by (have k0 := bel_cell hS e0.out; clear hS; go_simp)) (h := ?_)
      refine RW.t (i := 4) (v := .slice (some ⟨b2, o2, none⟩) n c') (some 21) at4 (hy := fun _ _ => by kernel_rfl) (h := ?_)
      refine RW.t (i := 5) (v := .int .i64 i) (some 22) at5 (hy := fun _ _ => by kernel_rfl) (h := ?_)
      refine RW.t (i := 6) (v := .pointer (some ⟨b2, o2 + i, none⟩)) (some 23) at6 (hy := fun _ _ => by go_simp) (h := ?_)
      refine RW.t (i := 7) (v := .slice y.A m y.c) (some 24) at7 (hy := fun W hS => by (have k0 := bel_cell hS y0.out; clear hS; go_simp)) (h := ?_)
      refine RW.c (i := 8) (args := #[.slice x.A m x.c, .slice y.A m y.c]) (some 25) hzk.out at8 (hx := fun _ => by kernel_rfl) (h := fun W S => (hX.out W S.bel).mono ?_)
      rintro e w7 ⟨rfl, bb⟩
      refine ⟨bb, _, [], rfl, rd_nil, ?_⟩
      refine RW.t (i := 9) (v := .bool false) (some 26) at9 (hy := fun _ _ => by kernel_rfl) (h := ?_)
      refine RW.tail hzk.out (by kernel_rfl) ?_
      intro gs' w5 hgs' hS Sb
      obtain rfl := len0 hgs'
      simp only [mark, fill, Act.put, List.setIfInBounds_toArray, List.set_cons_zero, List.set_cons_succ]
      refine Wk.done (by kernel_rfl) ?_
      have T := Lib.hid (B.out.trans (hS.mono B.out.size))
      clear Sb hgs' hzk hbase hS B hX
      try go_simp
      have hlt := hih.out
      have hbb := hb.out
      go_wp2
      go_roundw
      case rel => exact ⟨i + 1, by omega, by go_num, T.out⟩
      case measure => simp [intOf]; omega
    · obtain rfl : n = i := by omega
      replace B := Lib.hid B
      clear hin hlt
      go_wp2
      go_ret
      exact ⟨rfl, B.out⟩
end Go.Proofs.YtlflaalefilplaaDoor
namespace Go.Proofs
open Go.Shelf
def Tryd.lays171_ren : Go.Shelf.Ren := ⟨fun | 171 => 65 | 243 => 81 | 246 => 84 | 283 => 85 | 284 => 86 | 285 => 87 | 286 => 88 | 129 => 90 | 317 => 89 | 318 => 91 | 319 => 92 | 320 => 93 | 337 => 94 | 338 => 95 | n => n, fun | 3 => 3 | 9 => 9 | 2 => 2 | 4 => 4 | 171 => 105 | 0 => 0 | 53 => 60 | 37 => 79 | 5 => 5 | 173 => 108 | 212 => 111 | 51 => 77 | 20 => 20 | 213 => 112 | 46 => 80 | 232 => 116 | 233 => 117 | n => n, fun | 17 => 0 | 18 => 1 | 19 => 2 | n => n⟩
theorem Tryd.lays171 : Go.Proofs.Lays.n171 Tryd.prog Tryd.lays171_ren := {
  mixed := by kernel_rfl
  f129 := Tryd.func90.trans (congrArg some (by kernel_rfl))
  f171 := Tryd.func65.trans (congrArg some (by kernel_rfl))
  f243 := Tryd.func81.trans (congrArg some (by kernel_rfl))
  f246 := Tryd.func84.trans (congrArg some (by kernel_rfl))
  f283 := Tryd.func85.trans (congrArg some (by kernel_rfl))
  f284 := Tryd.func86.trans (congrArg some (by kernel_rfl))
  f285 := Tryd.func87.trans (congrArg some (by kernel_rfl))
  f286 := Tryd.func88.trans (congrArg some (by kernel_rfl))
  f317 := Tryd.func89.trans (congrArg some (by kernel_rfl))
  f318 := Tryd.func91.trans (congrArg some (by kernel_rfl))
  f319 := Tryd.func92.trans (congrArg some (by kernel_rfl))
  f320 := Tryd.func93.trans (congrArg some (by kernel_rfl))
  f337 := Tryd.func94.trans (congrArg some (by kernel_rfl))
  f338 := Tryd.func95.trans (congrArg some (by kernel_rfl))
  t0 := Tryd.underlying0
  a0 := Tryd.isAgg0
  z0 := Tryd.sizeOf0
  v0 := Tryd.zeroValue0
  t2 := Tryd.underlying2
  a2 := Tryd.isAgg2
  z2 := Tryd.sizeOf2
  v2 := Tryd.zeroValue2
  t3 := Tryd.underlying3
  a3 := Tryd.isAgg3
  z3 := Tryd.sizeOf3
  v3 := Tryd.zeroValue3
  t4 := Tryd.underlying4
  a4 := Tryd.isAgg4
  z4 := Tryd.sizeOf4
  v4 := Tryd.zeroValue4
  t5 := Tryd.underlying5
  a5 := Tryd.isAgg5
  z5 := Tryd.sizeOf5
  v5 := Tryd.zeroValue5
  t9 := Tryd.underlying9
  a9 := Tryd.isAgg9
  z9 := Tryd.sizeOf9
  v9 := Tryd.zeroValue9
  t20 := Tryd.underlying20
  a20 := Tryd.isAgg20
  z20 := Tryd.sizeOf20
  v20 := Tryd.zeroValue20
  t37 := Tryd.underlying79
  a37 := Tryd.isAgg79
  z37 := Tryd.sizeOf79
  v37 := Tryd.zeroValue79
  t46 := Tryd.underlying80
  a46 := Tryd.isAgg80
  z46 := Tryd.sizeOf80
  v46 := Tryd.zeroValue80
  t51 := Tryd.underlying77
  a51 := Tryd.isAgg77
  z51 := Tryd.sizeOf77
  v51 := Tryd.zeroValue77
  t53 := Tryd.underlying60
  a53 := Tryd.isAgg60
  z53 := Tryd.sizeOf60
  v53 := Tryd.zeroValue60
  t171 := Tryd.underlying105
  a171 := Tryd.isAgg105
  z171 := Tryd.sizeOf105
  v171 := Tryd.zeroValue105
  t173 := Tryd.underlying108
  a173 := Tryd.isAgg108
  z173 := Tryd.sizeOf108
  v173 := Tryd.zeroValue108
  t212 := Tryd.underlying111
  a212 := Tryd.isAgg111
  z212 := Tryd.sizeOf111
  v212 := Tryd.zeroValue111
  t213 := Tryd.underlying112
  a213 := Tryd.isAgg112
  z213 := Tryd.sizeOf112
  t232 := Tryd.underlying116
  a232 := Tryd.isAgg116
  z232 := Tryd.sizeOf116
  v232 := Tryd.zeroValue116
  t233 := Tryd.underlying117
  a233 := Tryd.isAgg117
  z233 := Tryd.sizeOf117
  v233 := Tryd.zeroValue117
  g17 := by kernel_rfl
  g18 := by kernel_rfl
  g19 := by kernel_rfl }
open Go.RowKit Go.Sort Go.Lib in
theorem Tryd.strconv_Itoa_small (i : Nat) (hi : i < 100) (w : World) :
    Calls Tryd.prog 65 #[.int .i64 i] w fun e w' => e = .returned (.string ⟨(Lib.decDigits i).toArray⟩) ∧ w' = w := Any.strconv_Itoa_small Tryd.lays171 i hi w
end Go.Proofs
