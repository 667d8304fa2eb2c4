/- Law 10: Valid is what it should be. -/
import Derived.Test.YthbkdjbmkhmlnaaDoorB27
import Derived.Test.YthbkdjbmkhmlnaaDoorB23
namespace Go.Proofs.YthbkdjbmkhmlnaaDoor
open Go.RowKit
set_option linter.unusedVariables false

set_option maxRecDepth 100000 in
set_option maxHeartbeats 4000000 in
theorem check_any (s : ByteArray) (bz : Bool) (Ls : List (Sl Fa)) (A : Option Addr) (n c : Nat) (w : World) (h : LR (slC faC) w A n Ls) (hc : n ≤ c) (hO : Og w) : Calls Tryd.prog 4 #[.agg #[.string s, .bool bz, .slice A n c]] w fun e w' => e = .returned (.bool true) ∧ Below w.heap.size w w' := by
  have S1 := Lib.hid ((St.new w).alloc #[.string s, .bool bz, .slice A n c] 29 (noLof rfl))
  obtain ⟨bx, hbx⟩ : ∃ b, b = w.heap.size := ⟨_, rfl⟩
  obtain ⟨w1, hw1⟩ : ∃ W, W = w.alloc (.cells #[.string s, .bool bz, .slice A n c] 29) := ⟨_, rfl⟩
  rw [← hbx, ← hw1] at S1
  have b0 : w1.cell? ⟨bx, 0, none⟩ = some (.string s) := S1.out.cl 0 0 rfl rfl
  have b1 : w1.cell? ⟨bx, 1, none⟩ = some (.bool bz) := S1.out.cl 0 1 rfl rfl
  have b2 : w1.cell? ⟨bx, 2, none⟩ = some (.slice A n c) := S1.out.cl 0 2 rfl rfl
  have hbl := Lib.hid (S1.out.lt 0 rfl)
  have hb0 : Hid (w1.cell? ⟨bx, 0, none⟩ = some (.string s)) := Lib.hid b0
  have hb1 : Hid (w1.cell? ⟨bx, 1, none⟩ = some (.bool bz)) := Lib.hid b1
  have hb2 : Hid (w1.cell? ⟨bx, 2, none⟩ = some (.slice A n c)) := Lib.hid b2
  have h1 := Lib.hid (h.bel S1.out.bel)
  have hO1 := Lib.hid (hO.bel S1.out.bel)
  have hcc := Lib.hid hc
  have hw0 := Lib.hid S1.out.bel
  have hlen := Lib.hid h.len
  by_cases h40 : 40 < n
  · have g1 : (40 : Int) < (n : Int) := by omega
    have hA := Lib.hid (awake_any w1 hO1.out)
    clear h hO hc S1 h40
    go_enter Tryd.func4, Tryd.ntmps4
    go_wp2_with fail
    rw [← hbx, ← hw1]
    clear hbx hw1
    refine hA.out.mono ?_
    rintro e w2 ⟨rfl, bb⟩
    have T := Lib.hid (hw0.out.trans (bb.mono hw0.out.size))
    clear bb hA
    go_wp2
    go_ret
    exact ⟨rfl, T.out⟩
  · have g1 : ¬ (40 : Int) < (n : Int) := by omega
    have hn40 := Lib.hid (show n ≤ 40 by omega)
    clear h hO hc S1 h40
    go_enter Tryd.func4, Tryd.ntmps4
    go_upto_region 1 with fail
    rw [← hbx, ← hw1]
    clear hbx hw1
    go_wp2
    clear g1 b0 b1 b2
    go_loopw [3] (fun iv wr => ∃ i : Nat, i ≤ n ∧ iv = .int .i64 i ∧ Below w1.heap.size w1 wr ∧ ∀ x ∈ Ls.take i, x.L.length ≤ 10) (fun iv _ => n - (intOf iv).toNat)
    case atStart => exact ⟨0, Nat.zero_le _, rfl, Below.refl _ _, fun x hx => by cases hx⟩
    case round =>
      obtain ⟨i, hin, rfl, B, hsm⟩ := hrel
      replace hsm := Lib.hid hsm
      have c2 : wr.cell? ⟨bx, 2, none⟩ = some (.slice A n c) := (World.cell?_of_block (B.block _ hbl.out)).trans hb2.out
      by_cases hlt : i < n
      · obtain ⟨b, o, x, rfl, hx, hxm, e0, hxl, hxc⟩ := fs_get (h1.out.bel B) hlt
        have g1 : (i : Int) < (n : Int) := by omega
        have g2 : (0 : Int) ≤ (i : Int) := by omega
        have hih := Lib.hid hlt
        have htk := Lib.hid (take_snoc_of hx)
        have B2 := Lib.hid B
        by_cases h10 : 10 < x.L.length
        · have g3 : (10 : Int) < (x.L.length : Int) := by omega
          have hA := Lib.hid (awake_any wr (hO1.out.bel B))
          clear hlt hin hx hxm hxl hxc B h10
          go_wp2_with fail
          refine hA.out.mono ?_
          rintro e w2 ⟨rfl, bb⟩
          have T := Lib.hid (hw0.out.trans ((B2.out.trans (bb.mono B2.out.size)).mono hw0.out.size))
          clear bb hA
          go_wp2
          go_ret
          exact ⟨rfl, T.out⟩
        · have g3 : ¬ (10 : Int) < (x.L.length : Int) := by omega
          have hsm2 := Lib.hid (show ∀ x ∈ Ls.take (i + 1), x.L.length ≤ 10 by
            intro z hz
            rw [htk.out] at hz
            rcases List.mem_append.1 hz with hz | hz
            · exact hsm.out z hz
            · rw [List.mem_singleton.1 hz]; omega)
          have g4 : i ≤ 40 := by have := hn40.out; omega
          clear hin hx hxm hxl hxc B h10
          go_wp2
          go_roundw
          case rel => exact ⟨i + 1, by omega, by go_num, B2.out, hsm2.out⟩
          case measure => simp [intOf]; omega
      · obtain rfl : i = n := by omega
        have B2 := Lib.hid B
        have d0 : Hid (wr.cell? ⟨bx, 0, none⟩ = some (.string s)) := Lib.hid ((World.cell?_of_block (B.block _ hbl.out)).trans hb0.out)
        have d1 : Hid (wr.cell? ⟨bx, 1, none⟩ = some (.bool bz)) := Lib.hid ((World.cell?_of_block (B.block _ hbl.out)).trans hb1.out)
        have d2 : Hid (wr.cell? ⟨bx, 2, none⟩ = some (.slice A i c)) := Lib.hid ((World.cell?_of_block (B.block _ hbl.out)).trans hb2.out)
        have hsz := Lib.hid (show ∀ x ∈ Ls, x.L.length ≤ 100000 by
          intro z hz
          have := hsm.out z (by rw [List.take_of_length_le (by rw [hlen.out]; exact Nat.le_refl _)]; exact hz)
          omega)
        have hAw := Lib.hid (fun W (hW : Below wr.heap.size wr W) => awake_any W ((hO1.out.bel B).bel hW))
        have hV := Lib.hid (fun W (hW : Below wr.heap.size wr W) => tvalid_any s bz Ls A i c W ((h1.out.bel B).bel hW) hcc.out (by have := hn40.out; omega) hsz.out)
        have hR := Lib.hid (fun W (hW : Below wr.heap.size wr W) => rtvalid_any s bz Ls A i c W ((h1.out.bel B).bel hW) hcc.out (by have := hn40.out; omega) hsz.out)
        obtain ⟨bv, hbv⟩ : ∃ z, z = modB s (Ls.map fun x => x.L) := ⟨_, rfl⟩
        rw [← hbv] at hV hR
        clear hin hlt B hbv
        go_upto_region 8 with fail
        clear c2
        have hbase := Lib.hid (St.new wr)
        refine RW.begin (Z := []) (S := (fun W => Below wr.heap.size wr W)) (by kernel_rfl) ?_ hbase.out ?_
        · exact ⟨by kernel_rfl, zis_nil, by decide, by decide, nol_nil, (fun _ _ h => h.bel)⟩
        intro hzk
        refine RW.c (i := 0) (args := #[]) (some 24) hzk.out at0 (hx := fun _ => by kernel_rfl) (h := fun W T9 => (hAw.out W T9.bel).mono ?_)
        rintro e w9 ⟨rfl, hB9⟩
        refine ⟨hB9, _, [], rfl, (fun r hr => by cases hr), ?_⟩
        clear hB9
        refine RW.t (i := 1) (v := .bool true) (some 25) at1 (hy := fun _ _ => by go_simp) (h := ?_)
        refine RW.t (i := 2) (v := .agg #[.string s, .bool bz, .slice A i c]) (some 26) at2 (hy := fun W hS => by (have k0 := bel_cell hS d0.out; have k1 := bel_cell hS d1.out; have k2 := bel_cell hS d2.out; clear hS; go_simp)) (h := ?_)
        refine RW.t (i := 4) (v := .agg #[.string s, .bool bz, .slice A i c]) (some 28) at4 (hy := fun W hS => by (have k0 := bel_cell hS d0.out; have k1 := bel_cell hS d1.out; have k2 := bel_cell hS d2.out; clear hS; go_simp)) (h := ?_)
        refine RW.c (i := 3) (args := #[.agg #[.string s, .bool bz, .slice A i c]]) (some 27) hzk.out at3 (hx := fun _ => by kernel_rfl) (h := fun W T9 => (hV.out W T9.bel).mono ?_)
        rintro e w9 ⟨rfl, hB9⟩
        refine ⟨hB9, _, [], rfl, (fun r hr => by cases hr), ?_⟩
        clear hB9
        refine RW.c (i := 5) (args := #[.agg #[.string s, .bool bz, .slice A i c]]) (some 29) hzk.out at5 (hx := fun _ => by kernel_rfl) (h := fun W T9 => (hR.out W T9.bel).mono ?_)
        rintro e w9 ⟨rfl, hB9⟩
        refine ⟨hB9, _, [], rfl, (fun r hr => by cases hr), ?_⟩
        clear hB9
        refine RW.t (i := 6) (v := .bool true) (some 30) at6 (hy := fun _ _ => by cases bv <;> kernel_rfl) (h := ?_)
        refine RW.t (i := 7) (v := .bool true) (some 31) at7 (hy := fun _ _ => by go_simp) (h := ?_)
        refine RW.t (i := 8) (v := .bool true) (some 2) at8 (hy := fun _ _ => by go_simp) (h := ?_)
        refine RW.tail hzk.out (by kernel_rfl) ?_
        intro gs' w5 hgs' hS Sb
        obtain rfl := len0 hgs'
        simp only [mark, fill, Act.put, List.setIfInBounds_toArray, List.set_cons_zero, List.set_cons_succ]
        refine Wk.done (by kernel_rfl) ?_
        have T := Lib.hid (B2.out.trans (hS.mono B2.out.size))
        clear Sb hgs' hzk hbase hS d0 d1 d2 hV hR hAw
        try go_simp
        try go_wp2
        go_ret
        exact ⟨rfl, hw0.out.trans (T.out.mono hw0.out.size)⟩
end Go.Proofs.YthbkdjbmkhmlnaaDoor
namespace Go.Proofs.YthbkdjbmkhmlnaaDoor
open Go.RowKit
set_option linter.unusedVariables false

theorem nam_node : ∀ (t : F9.Tr) (f : F10.Fac), F10.nam t f → ∃ x ∈ t.pre, F10.facOf x = some f
  | .leaf x, f, h => ⟨x, by simp [F9.Tr.pre], h⟩
  | .hat k a, f, h => by
    obtain ⟨x, hx, e⟩ := nam_node a f h
    exact ⟨x, by simp [F9.Tr.pre, hx], e⟩
  | .bin op a b, f, h => by
    rcases h with h | h
    · obtain ⟨x, hx, e⟩ := nam_node a f h
      exact ⟨x, by simp [F9.Tr.pre, hx], e⟩
    · obtain ⟨x, hx, e⟩ := nam_node b f h
      exact ⟨x, by simp [F9.Tr.pre, hx], e⟩
theorem wf_node : ∀ {t : F9.Tr}, t.wf → ∀ x ∈ t.pre, F9.okN x
  | .leaf x, h, y, hy => by
    have hy : y ∈ [x] := hy
    rw [List.mem_singleton.1 hy]; exact .inl h
  | .hat k a, h, y, hy => by
    have hy : y ∈ ⟨10, [], k⟩ :: a.pre := hy
    rcases List.mem_cons.1 hy with rfl | hy
    · exact .inr (.inl ⟨rfl, rfl, h.1, h.2.1⟩)
    · exact wf_node (t := a) h.2.2 y hy
  | .bin op a b, h, y, hy => by
    have hy : y ∈ ⟨op, [], 0⟩ :: (a.pre ++ b.pre) := hy
    rcases List.mem_cons.1 hy with rfl | hy
    · exact .inr (.inr ⟨h.1, h.2.1, rfl, rfl⟩)
    · rcases List.mem_append.1 hy with hy | hy
      · exact wf_node (t := a) h.2.2.1 y hy
      · exact wf_node (t := b) h.2.2.2 y hy
theorem nameB_arr (nm : List UInt8) : nameB (⟨nm.toArray⟩ : ByteArray) = nameL nm := by unfold nameB; simp
theorem fac_node {x : F9.Nd} {f : F10.Fac} (h : F9.okN x) (hf : F10.facOf x = some f) : facB (toFa f) = true := by
  unfold F10.facOf at hf
  obtain ⟨op, nm, k⟩ := x
  simp only at hf
  by_cases h1 : op = 1
  · rw [if_pos h1] at hf
    injection hf with hf
    subst hf h1
    have hn : nameL nm = true := by
      rcases h with (h | h | h) | h | h
      · exact h.2.1
      · exact h.2.1
      · have := h.1; simp at this
      · have := h.1; simp at this
      · have := h.1; simp at this
    show (nameB (⟨nm.toArray⟩ : ByteArray) && decide ((1 : Int) ≤ ((1 : Nat) : Int)) && decide (((1 : Nat) : Int) ≤ 8)) = true
    rw [nameB_arr, hn]; decide
  · rw [if_neg h1] at hf
    by_cases h2 : op = 2
    · rw [if_pos h2] at hf
      injection hf with hf
      subst hf h2
      have hn : nameL nm = true ∧ 2 ≤ k ∧ k ≤ 8 := by
        rcases h with (h | h | h) | h | h
        · have := h.1; simp at this
        · exact ⟨h.2.1, h.2.2.1, h.2.2.2⟩
        · have := h.1; simp at this
        · have := h.1; simp at this
        · have := h.1; simp at this
      show (nameB (⟨nm.toArray⟩ : ByteArray) && decide ((1 : Int) ≤ (k : Int)) && decide ((k : Int) ≤ 8)) = true
      rw [nameB_arr, hn.1, decide_eq_true (by omega), decide_eq_true (by omega)]; rfl
    · rw [if_neg h2] at hf; cases hf
theorem trmG_ok : ∀ (l p : List Fa), (∀ f ∈ l, facB f = true) → (p ++ l).Nodup → trmG p l = true
  | [], p, _, _ => rfl
  | f :: l, p, h, hn => by
    have hf : f ∉ p := fun hp => by
      rw [List.nodup_append] at hn
      exact hn.2.2 f hp f List.mem_cons_self rfl
    show (facB f && !decide (f ∈ p) && trmG (p ++ [f]) l) = true
    rw [h f List.mem_cons_self, decide_eq_false hf, trmG_ok l (p ++ [f]) (fun g hg => h g (List.mem_cons_of_mem _ hg)) (by simpa using hn)]; rfl
theorem modG_ok : ∀ (l p : List (List Fa)), (∀ t ∈ l, trmB t = true) → (p ++ l).Pairwise (fun x y => x.length ≤ y.length ∧ sfB x y = false) → modG p l = true
  | [], p, _, _ => by unfold modG; rfl
  | t :: l, p, h, hn => by
    have hq : ∀ q ∈ p, q.length ≤ t.length ∧ sfB q t = false := fun q hp => (List.pairwise_append.1 hn).2.2 q hp t List.mem_cons_self
    have hp : prevOk p t = true := by
      unfold prevOk
      cases hg : p.getLast? with
      | none => rfl
      | some q => exact decide_eq_true (hq q (List.mem_of_getLast? hg)).1
    have ha : (p.any fun s => sfB s t) = false := by
      rw [List.any_eq_false]
      intro q hp
      rw [(hq q hp).2]; simp
    unfold modG
    rw [h t List.mem_cons_self, hp, ha, modG_ok l (p ++ [t]) (fun s hs => h s (List.mem_cons_of_mem _ hs)) (by simpa using hn)]; rfl
theorem sfB_map {x y : List F10.Fac} (h : sfB (x.map toFa) (y.map toFa) = true) : F10.SameF x y := by
  unfold sfB at h
  rw [Bool.and_eq_true, decide_eq_true_eq, List.length_map, List.length_map] at h
  refine ⟨h.1, fun f hf => ?_⟩
  have := List.all_eq_true.1 h.2 (toFa f) (List.mem_map_of_mem hf)
  exact toFa_mem.1 (of_decide_eq_true this)
theorem LL_self {R : Nat → Nat → Prop} : ∀ {m m' : List Nat}, F10.LL R m m' → ∀ t ∈ m, ∃ t', R t t' := by
  intro m m' h
  induction h with
  | nil => intro t ht; cases ht
  | cons hr _ ih =>
    intro t ht
    rcases List.mem_cons.1 ht with rfl | ht
    · exact ⟨_, hr⟩
    · exact ih t ht
theorem rex_bits {tr : F9.Tr} (hs : F10.shp tr) (hl : tr.pre.length ≤ 64) {m : List Nat} (h : F10.rex tr = some m) : ∀ t ∈ m, ∀ i, t.testBit i = true → i < (F10.atoms tr []).length := by
  have nA : (F10.atoms tr []).Nodup := F10.atoms_nodup tr List.nodup_nil
  have lA : (F10.atoms tr []).length ≤ 64 := by have := F10.atoms_len tr []; simp only [List.length_nil] at this; omega
  have H := F10.rs_rel (F10.rt_rr nA nA lA lA) tr hs (fun f hf => ⟨(F10.atoms_mem tr [] f).2 (.inr hf), (F10.atoms_mem tr [] f).2 (.inr hf)⟩)
  obtain ⟨m', hm', L⟩ := H.get (F10.rex_some h).2
  intro t ht
  obtain ⟨t', hr⟩ := LL_self L t ht
  exact hr.bs
/-- Is a factor named by some node? -/
def hitB (x : Fa) (y : Nd) : Bool := (y.s.toList == x.s.toList) && ((y.o == 1 && x.k == 1) || (y.o == 2 && x.k == y.k))
/-- A model's terms are terms, in order, and their factors those of the tree. -/
theorem mdl_ok {s : ByteArray} {tr : F9.Tr} (hw : tr.wf) (hf : frmB s (tr.pre.map toNd) = true) {m : List Nat} (h : F10.rex tr = some m) :
    modB s ((F10.mdT (F10.atoms tr []) m).map fun l => l.map toFa) = true ∧ ∀ t ∈ (F10.mdT (F10.atoms tr []) m).map (fun l => l.map toFa), t.length ≤ 6 ∧ ∀ x ∈ t, ((tr.pre.map toNd).any (hitB x)) = true := by
  have hsh := wf_shp hw
  have hl : tr.pre.length ≤ 64 := by have := (frm_len hf).1; rwa [List.length_map] at this
  have nA : (F10.atoms tr []).Nodup := F10.atoms_nodup tr List.nodup_nil
  have lA : (F10.atoms tr []).length ≤ 64 := by have := F10.atoms_len tr []; simp only [List.length_nil] at this; omega
  have hb := rex_bits hsh hl h
  have hsm := F10.expand_same tr hsh
  rw [h] at hsm
  obtain ⟨_, _, _, hnd, hft⟩ := hsm
  have h6 : ∀ t ∈ m, F10.siz t ≤ 6 := fun t ht => by
    unfold F10.fts at hft
    rw [Bool.and_eq_true] at hft
    exact of_decide_eq_true (List.all_eq_true.1 hft.1 t ht)
  have h32 : m.length ≤ 32 := by
    unfold F10.fts at hft
    rw [Bool.and_eq_true] at hft
    exact of_decide_eq_true hft.2
  have hT : ∀ x ∈ F10.mdT (F10.atoms tr []) m, 1 ≤ x.length ∧ x.length ≤ 6 ∧ x.Nodup ∧ ∀ f ∈ x, f ∈ F10.atoms tr [] := by
    intro x hx
    obtain ⟨t, ht, h0, rfl⟩ := (F10.mdT_mem lA hft hb).1 hx
    rw [F10.fac_len (hb t ht)]
    refine ⟨F10.siz_pos h0 fun i hi => by have := hb t ht i hi; omega, h6 t ht, F10.fac_nodup nA t, fun f hf => ?_⟩
    obtain ⟨i, hi, _⟩ := (F10.fac_mem lA).1 hf
    exact List.mem_of_getElem? hi
  have hnode : ∀ f ∈ F10.atoms tr [], ∃ x ∈ tr.pre, F10.facOf x = some f := fun f hf => by
    rcases (F10.atoms_mem tr [] f).1 hf with h | h
    · cases h
    · exact nam_node tr f h
  refine ⟨?_, ?_⟩
  · unfold modB
    have hlen : ((F10.mdT (F10.atoms tr []) m).map fun l => l.map toFa).length ≤ 32 := by
      rw [List.length_map, F10.mdT_len hft lA hb]
      exact Nat.le_trans (List.length_filter_le _ _) h32
    rw [(frm_len hf).2, decide_eq_true hlen, modG_ok _ [] ?_ ?_]
    · rfl
    · intro t ht
      obtain ⟨x, hx, rfl⟩ := List.mem_map.1 ht
      obtain ⟨h1, h2, h3, h4⟩ := hT x hx
      unfold trmB
      rw [List.length_map, decide_eq_true h1, decide_eq_true h2, trmG_ok _ [] ?_ ?_]
      · rfl
      · intro f hf
        obtain ⟨g, hg, rfl⟩ := List.mem_map.1 hf
        obtain ⟨y, hy, e⟩ := hnode g (h4 g hg)
        exact fac_node (wf_node hw y hy) e
      · rw [List.nil_append]
        exact List.Pairwise.map _ (fun a b hab h => hab (toFa_inj.1 h)) h3
    · rw [List.nil_append, List.pairwise_map]
      refine (F10.mdT_pair nA lA hnd hb).imp fun {x y} hxy => ⟨by rw [List.length_map, List.length_map]; exact hxy.1, ?_⟩
      cases hs : sfB (x.map toFa) (y.map toFa) with
      | false => rfl
      | true => exact absurd (sfB_map hs) hxy.2
  · intro t ht
    obtain ⟨x, hx, rfl⟩ := List.mem_map.1 ht
    obtain ⟨h1, h2, h3, h4⟩ := hT x hx
    refine ⟨by rw [List.length_map]; exact h2, fun f hf => ?_⟩
    obtain ⟨g, hg, rfl⟩ := List.mem_map.1 hf
    obtain ⟨y, hy, e⟩ := hnode g (h4 g hg)
    rw [List.any_eq_true]
    refine ⟨toNd y, List.mem_map_of_mem hy, ?_⟩
    unfold F10.facOf at e
    unfold hitB
    by_cases h1 : y.op = 1
    · rw [if_pos h1] at e
      injection e with e
      subst e
      simp [toNd, toFa, h1]
    · rw [if_neg h1] at e
      by_cases h2 : y.op = 2
      · rw [if_pos h2] at e
        injection e with e
        subst e
        simp [toNd, toFa, h2]
      · rw [if_neg h2] at e; cases e
end Go.Proofs.YthbkdjbmkhmlnaaDoor
namespace Go.Proofs.YthbkdjbmkhmlnaaDoor
open Go.RowKit
set_option linter.unusedVariables false

set_option maxRecDepth 100000 in
set_option maxHeartbeats 4000000 in
theorem rhas_any (L : List Nat) (A : Option Addr) (n c t : Nat) (w : World) (h : LR uC w A n L) (hn : n ≤ 100000) : Calls Tryd.prog 30 #[.slice A n c, .int .u64 (t : Int)] w fun e w' => e = .returned (.bool (L.contains t)) ∧ w' = w := by
  have hb := Lib.hid hn
  have hlen := Lib.hid h.len
  obtain ⟨bc, hbc⟩ : ∃ q, q = L.contains t := ⟨_, rfl⟩
  rw [← hbc]
  replace hbc := Lib.hid hbc
  replace h := Lib.hid h
  clear hn
  go_enter Tryd.func30, Tryd.ntmps30
  go_wp2
  go_loopw [5] (fun iv wr => ∃ i : Nat, i ≤ n ∧ iv = .int .i64 i ∧ wr = w ∧ (∀ j s, j < i → L[j]? = some s → ¬ s = t)) (fun iv _ => n - (intOf iv).toNat)
  case atStart => exact ⟨0, Nat.zero_le _, rfl, rfl, fun j s h0 => absurd h0 (Nat.not_lt_zero _)⟩
  case round =>
    obtain ⟨i, hin, rfl, rfl, hall⟩ := hrel
    by_cases hlt : i < n
    · obtain ⟨b, o, x, rfl, hx, hxm, e0⟩ := u_get h.out hlt
      have hih := Lib.hid hlt
      have g1 : (i : Int) < (n : Int) := by omega
      have g2 : (0 : Int) ≤ (i : Int) := by omega
      replace hall := Lib.hid hall
      replace hx := Lib.hid hx
      clear hlt hin hxm
      by_cases hv : x = t
      · have g3 : ((x : Int) == (t : Int)) = true := by rw [beq_iff_eq]; omega
        have hz : Hid (bc = true) := Lib.hid (by
          rw [hbc.out]
          refine List.elem_eq_true_of_mem ?_
          rw [← hv]; exact List.mem_of_getElem? hx.out)
        replace hv := Lib.hid hv
        go_wp2
        go_ret
        exact ⟨by rw [hz.out]; rfl, rfl⟩
      · have g3 : ((x : Int) == (t : Int)) = false := by rw [beq_eq_false_iff_ne]; omega
        replace hv := Lib.hid hv
        have hlt := hih.out
        have hbb := hb.out
        go_wp2
        go_roundw
        case rel => exact ⟨i + 1, by omega, by go_num, (by first | rfl | trivial), fun j' s h1 h2 => (by rcases Nat.lt_or_ge j' i with h3 | h3; exact hall.out j' s h3 h2; obtain rfl : j' = i := (by omega); rw [hx.out] at h2; injection h2 with h2; subst h2; exact hv.out)⟩
        case measure => simp [intOf]; omega
    · obtain rfl : i = n := by omega
      have hfin : Hid (bc = false) := Lib.hid (by
        rw [hbc.out]
        refine Bool.eq_false_iff.2 fun hc => ?_
        obtain ⟨k, hk⟩ := List.getElem?_of_mem (List.mem_of_elem_eq_true hc)
        exact hall k t (by rw [← hlen.out]; exact (List.getElem?_eq_some_iff.1 hk).1) hk rfl)
      clear hall hin hlt
      go_wp2
      go_ret
      exact ⟨by rw [hfin.out]; rfl, rfl⟩
theorem pcn_le2 : ∀ (n t : Nat), F10.pcn n t ≤ n
  | 0, t => Nat.le_refl _
  | n + 1, t => by have := pcn_le2 n (t / 2); rw [F10.pcn]; omega
theorem pcn_zero : ∀ (n : Nat), F10.pcn n 0 = 0
  | 0 => rfl
  | n + 1 => by rw [F10.pcn, Nat.zero_div, pcn_zero n]
set_option maxRecDepth 100000 in
set_option maxHeartbeats 4000000 in
theorem rsize_any (t : Nat) (w : World) (ht : t < 18446744073709551616) : Calls Tryd.prog 31 #[.int .u64 (t : Int)] w fun e w' => e = .returned (.int .i64 ((F10.siz t : Nat) : Int)) ∧ w' = w := by
  obtain ⟨z, hz⟩ : ∃ z, z = F10.siz t := ⟨_, rfl⟩
  rw [← hz]
  have hz2 := Lib.hid (show z = F10.pcn 64 t by rw [hz, F10.siz_pcn])
  have hz3 := Lib.hid (show z ≤ 64 by rw [hz2.out]; exact pcn_le2 64 t)
  replace ht := Lib.hid ht
  clear hz
  go_enter Tryd.func31, Tryd.ntmps31
  go_wp2
  go_loopw [0, 3] (fun tv kv wr => ∃ u k : Nat, Hid (u < 18446744073709551616 ∧ k + F10.pcn 64 u = z) ∧ tv = .int .u64 (u : Int) ∧ kv = .int .i64 (k : Int) ∧ wr = w) (fun tv _ _ => (intOf tv).toNat)
  case atStart => exact ⟨t, 0, Lib.hid ⟨ht.out, by rw [hz2.out, Nat.zero_add]⟩, rfl, rfl, rfl⟩
  case round =>
    obtain ⟨u, k, hk, rfl, rfl, rfl⟩ := hrel
    have hk64 : k ≤ 64 := by have := hk.out.2; have := hz3.out; omega
    by_cases hu : u = 0
    · subst hu
      have hkz : k = z := by have := hk.out.2; rw [pcn_zero] at this; exact this
      subst hkz
      go_wp2
      go_ret
      exact ⟨rfl, rfl⟩
    · obtain ⟨u1, hu1⟩ : ∃ x, x = u - 1 := ⟨_, rfl⟩
      obtain ⟨v, hv⟩ : ∃ x, x = u &&& u1 := ⟨_, rfl⟩
      have hlow := Lib.hid (F10.pcn_low 64 u (by omega) hk.out.1)
      have hlt := Lib.hid (F10.low_lt (show 0 < u by omega))
      rw [← hu1, ← hv] at hlow hlt
      have g1 : ((u : Int) != 0) = true := by rw [bne_iff_ne]; omega
      have e1 : (u : Int) - 1 = (u1 : Int) := by omega
      have e2 : IntKind.u64.wrap (u1 : Int) = (u1 : Int) := by have := hk.out.1; rw [IntKind.wrap_u64]; omega
      have e3 : bits .and .u64 (u : Int) (u1 : Int) = (v : Int) := by rw [hv]; exact u64_and_nat u u1 hk.out.1 (by have := hk.out.1; omega)
      have hun := Lib.hid hu
      clear hu hu1 hv
      go_wp2
      go_roundw
      case rel => exact ⟨v, k + 1, Lib.hid (by have := hlow.out; have := hlt.out; have := hk.out; omega), rfl, by go_num, trivial⟩
      case measure => have := hlt.out; simp [intOf]; omega
end Go.Proofs.YthbkdjbmkhmlnaaDoor
namespace Go.Proofs.YthbkdjbmkhmlnaaDoor
open Go.RowKit
set_option linter.unusedVariables false

theorem pls_snoc2 (a T : List Nat) (x : Nat) : F10.pls a (T ++ [x]) = if x ∈ F10.pls a T then F10.pls a T else F10.pls a T ++ [x] := by
  unfold F10.pls
  rw [List.foldl_append]; rfl
set_option maxRecDepth 100000 in
set_option maxHeartbeats 4000000 in
theorem rplus_any (L M : List Nat) (A : Option Addr) (n c : Nat) (B : Option Addr) (m d : Nat) (w : World) (h : LR uC w A n L) (hB : LR uC w B m M) (hn : n ≤ 40000) (hm : m ≤ 40000) : Calls Tryd.prog 62 #[.slice A n c, .slice B m d] w fun e w' => ∃ v, e = .returned v ∧ Gro uC w w' [] [] 64 v (F10.pls L M) := by
  have e1 := Lib.hid h.len
  have e2 := Lib.hid hB.len
  have hG0 := Lib.hid (Gro.nil_ uC (St.new w) 64)
  have hn1 := e1.out
  subst hn1
  have hnb := Lib.hid hn
  have hmb := Lib.hid hm
  replace h := Lib.hid h
  replace hB := Lib.hid hB
  clear hn hm
  go_enter Tryd.func62, Tryd.ntmps62
  go_wp2_with (at_builtin; refine Gro.wpm rfl (.const (.slice none 0 0)) (.tmp 7) 60 rfl (.int .u64 0) 8 Tryd.underlying60 (by kernel_rfl) rfl (fun v hv z e => by simp [Value.cells] at hv; subst e; simp at hv) rfl hG0.out L A c rfl h.out (fun y _ => trivial) (by have := hnb.out; simp; omega) (by have := hnb.out; unfold maxLen; simp; omega) ?_)
  intro v0 w1 G0

  replace G0 := Lib.hid G0
  clear hG0
  go_wp2
  go_loopw [5, 6] (fun av iv wr => ∃ i : Nat, i ≤ m ∧ iv = .int .i64 i ∧ Gro uC w wr [] [] 64 av (F10.pls L (M.take i))) (fun _ iv _ => m - (intOf iv).toNat)
  case atStart => exact ⟨0, Nat.zero_le _, rfl, G0.out⟩
  case round =>
    clear G0
    obtain ⟨i, hin, rfl, G⟩ := hrel
    by_cases hlt : i < m
    · obtain ⟨b, o, x, rfl, hx, hxm, e0⟩ := u_get (hB.out.bel G.st.bel) hlt
      obtain ⟨A1, c1, rfl, hl1, hc1⟩ := G.lrc
      have hle := pls_len (M.take i) L
      have hsn := pls_snoc2 L (M.take i) x
      rw [← take_snoc_of hx] at hsn
      have hlm : (F10.pls L (M.take i)).length ≤ 80000 := by
        rw [List.length_take] at hle
        have := hnb.out
        have := hmb.out
        omega
      have hQ := Lib.hid (rhas_any _ A1 _ c1 x wr hl1 (by omega))
      have hih := Lib.hid hlt
      have g1 : (i : Int) < (m : Int) := by omega
      have g2 : (0 : Int) ≤ (i : Int) := by omega
      replace hsn := Lib.hid hsn
      have hlmh := Lib.hid hlm
      replace G := Lib.hid G
      clear hlt hin hx hxm hl1 hc1 hle hlm
      generalize F10.pls L (M.take i) = N at *
      go_wp2_with fail
      refine hQ.out.mono ?_
      rintro e wr ⟨rfl, rfl⟩
      clear hQ
      cases hv : N.contains x
      · have hnm : ¬ x ∈ N := fun hm => by rw [show N.contains x = true from List.elem_eq_true_of_mem hm] at hv; cases hv
        have hnew : Hid (F10.pls L (M.take (i + 1)) = N ++ [x]) := Lib.hid (by rw [hsn.out, if_neg hnm])
        have GA := Lib.hid (G.out.alloc #[.int .u64 (x : Int)] 64 (noLof rfl))
        clear G hsn hv hnm
        go_wp2_with (at_builtin; refine Gro.wp2 rfl (.tmp 22) (.tmp 27) 60 rfl (.int .u64 0) 8 Tryd.underlying60 (by kernel_rfl) rfl (fun v hv z e => by simp [Value.cells] at hv; subst e; simp at hv) rfl GA.out wr.heap.size x rfl (GA.out.st.cb 0 rfl) trivial (by have := hlmh.out; omega) (by have := hlmh.out; unfold maxLen; omega) ?_)
        intro av1 w6 G2 hmk
        replace G2 := Lib.hid (G2.sub (fun _ _ => trivial))
        rw [← hnew.out] at G2
        clear GA hmk hnew e0
        have hlt := hih.out
        have hbb := hmb.out
        go_wp2
        go_roundw
        case rel => exact ⟨i + 1, by omega, by go_num, G2.out⟩
        case measure => simp [intOf]; omega
      · have hnm : x ∈ N := List.mem_of_elem_eq_true hv
        have hnew : Hid (F10.pls L (M.take (i + 1)) = N) := Lib.hid (by rw [hsn.out, if_pos hnm])
        clear hsn hv hnm e0
        have hlt := hih.out
        have hbb := hmb.out
        go_wp2
        go_roundw
        case rel => exact ⟨i + 1, by omega, by go_num, by rw [hnew.out]; exact G.out⟩
        case measure => simp [intOf]; omega
    · obtain rfl : i = m := by omega
      rw [List.take_of_length_le (by rw [e2.out]; exact Nat.le_refl _)] at G
      replace G := Lib.hid G
      clear hlt hin
      go_wp2
      go_ret
      exact ⟨_, rfl, G.out⟩
end Go.Proofs.YthbkdjbmkhmlnaaDoor
namespace Go.Proofs.YthbkdjbmkhmlnaaDoor
open Go.RowKit
set_option linter.unusedVariables false

theorem mns_snoc (T M : List Nat) (x : Nat) : F10.mns (T ++ [x]) M = if x ∈ M then F10.mns T M else F10.mns T M ++ [x] := by
  unfold F10.mns
  rw [List.filter_append]
  by_cases h : x ∈ M
  · rw [if_pos h]; simp [h]
  · rw [if_neg h]; simp [h]
set_option maxRecDepth 100000 in
set_option maxHeartbeats 4000000 in
theorem rminus_any (L M : List Nat) (A : Option Addr) (n c : Nat) (B : Option Addr) (m d : Nat) (w : World) (h : LR uC w A n L) (hB : LR uC w B m M) (hn : n ≤ 90000) (hm : m ≤ 90000) : Calls Tryd.prog 61 #[.slice A n c, .slice B m d] w fun e w' => ∃ v, e = .returned v ∧ Gro uC w w' [] [] 64 v (F10.mns L M) := by
  have e1 := Lib.hid h.len
  have hG0 := Lib.hid (Gro.nil_ uC (St.new w) 64)
  have hnb := Lib.hid hn
  have hmb := Lib.hid hm
  replace h := Lib.hid h
  replace hB := Lib.hid hB
  clear hn hm
  go_enter Tryd.func61, Tryd.ntmps61
  go_wp2
  go_loopw [5, 6] (fun av iv wr => ∃ i : Nat, i ≤ n ∧ iv = .int .i64 i ∧ Gro uC w wr [] [] 64 av (F10.mns (L.take i) M)) (fun _ iv _ => n - (intOf iv).toNat)
  case atStart => exact ⟨0, Nat.zero_le _, rfl, hG0.out⟩
  case round =>
    clear hG0
    obtain ⟨i, hin, rfl, G⟩ := hrel
    by_cases hlt : i < n
    · obtain ⟨b, o, x, rfl, hx, hxm, e0⟩ := u_get (h.out.bel G.st.bel) hlt
      obtain ⟨A1, c1, rfl, hl1, hc1⟩ := G.lrc
      have hsn := mns_snoc (L.take i) M x
      rw [← take_snoc_of hx] at hsn
      have hlm : (F10.mns (L.take i) M).length ≤ 90000 := by
        have h1 : (F10.mns (L.take i) M).length ≤ (L.take i).length := List.length_filter_le _ _
        rw [List.length_take] at h1
        have := hnb.out
        omega
      have hQ := Lib.hid (rhas_any M B m d x wr (hB.out.bel G.st.bel) (by have := hmb.out; omega))
      have hih := Lib.hid hlt
      have g1 : (i : Int) < (n : Int) := by omega
      have g2 : (0 : Int) ≤ (i : Int) := by omega
      replace hsn := Lib.hid hsn
      have hlmh := Lib.hid hlm
      replace G := Lib.hid G
      clear hlt hin hx hxm hl1 hc1 hlm
      generalize F10.mns (L.take i) M = N at *
      go_wp2_with fail
      refine hQ.out.mono ?_
      rintro e wr ⟨rfl, rfl⟩
      clear hQ
      cases hv : M.contains x
      · have hnm : ¬ x ∈ M := fun hm => by rw [show M.contains x = true from List.elem_eq_true_of_mem hm] at hv; cases hv
        have hnew : Hid (F10.mns (L.take (i + 1)) M = N ++ [x]) := Lib.hid (by rw [hsn.out, if_neg hnm])
        have GA := Lib.hid (G.out.alloc #[.int .u64 (x : Int)] 64 (noLof rfl))
        clear G hsn hv hnm
        go_wp2_with (at_builtin; refine Gro.wp2 rfl (.tmp 20) (.tmp 25) 60 rfl (.int .u64 0) 8 Tryd.underlying60 (by kernel_rfl) rfl (fun v hv z e => by simp [Value.cells] at hv; subst e; simp at hv) rfl GA.out wr.heap.size x rfl (GA.out.st.cb 0 rfl) trivial (by have := hlmh.out; omega) (by have := hlmh.out; unfold maxLen; omega) ?_)
        intro av1 w6 G2 hmk
        replace G2 := Lib.hid (G2.sub (fun _ _ => trivial))
        rw [← hnew.out] at G2
        clear GA hmk hnew e0
        have hlt := hih.out
        have hbb := hnb.out
        go_wp2
        go_roundw
        case rel => exact ⟨i + 1, by omega, by go_num, G2.out⟩
        case measure => simp [intOf]; omega
      · have hnm : x ∈ M := List.mem_of_elem_eq_true hv
        have hnew : Hid (F10.mns (L.take (i + 1)) M = N) := Lib.hid (by rw [hsn.out, if_pos hnm])
        clear hsn hv hnm e0
        have hlt := hih.out
        have hbb := hnb.out
        go_wp2
        go_roundw
        case rel => exact ⟨i + 1, by omega, by go_num, by rw [hnew.out]; exact G.out⟩
        case measure => simp [intOf]; omega
    · obtain rfl : i = n := by omega
      rw [List.take_of_length_le (by rw [e1.out]; exact Nat.le_refl _)] at G
      replace G := Lib.hid G
      clear hlt hin
      go_wp2
      go_ret
      exact ⟨_, rfl, G.out⟩
end Go.Proofs.YthbkdjbmkhmlnaaDoor
namespace Go.Proofs.YthbkdjbmkhmlnaaDoor
open Go.RowKit
set_option linter.unusedVariables false

set_option maxRecDepth 100000 in
set_option maxHeartbeats 4000000 in
theorem rfits_any (L : List Nat) (A : Option Addr) (n c : Nat) (w : World) (h : LR uC w A n L) (hn : n ≤ 100000) (hu : U64 L) : Calls Tryd.prog 63 #[.slice A n c] w fun e w' => e = .returned (.bool (F10.fts L)) ∧ w' = w := by
  have e1 := Lib.hid h.len
  have hnb := Lib.hid hn
  obtain ⟨bc, hbc⟩ : ∃ q, q = F10.fts L := ⟨_, rfl⟩
  rw [← hbc]
  have hbc2 : Hid (bc = ((L.all fun t => decide (F10.siz t ≤ 6)) && decide (n ≤ 32))) := Lib.hid (by rw [hbc, ← e1.out]; rfl)
  replace h := Lib.hid h
  replace hu := Lib.hid hu
  clear hn hbc
  go_enter Tryd.func63, Tryd.ntmps63
  go_wp2
  go_loopw [3] (fun iv wr => ∃ i : Nat, i ≤ n ∧ iv = .int .i64 i ∧ wr = w ∧ (L.all fun t => decide (F10.siz t ≤ 6)) = ((L.drop i).all fun t => decide (F10.siz t ≤ 6))) (fun iv _ => n - (intOf iv).toNat)
  case atStart => exact ⟨0, Nat.zero_le _, rfl, rfl, rfl⟩
  case round =>
    obtain ⟨i, hin, rfl, rfl, hall⟩ := hrel
    by_cases hlt : i < n
    · obtain ⟨b, o, x, rfl, hx, hxm, e0⟩ := u_get h.out hlt
      have hdr := Lib.hid (drop_cons_of hx)
      have hQ := Lib.hid (rsize_any x wr (hu.out x hxm))
      have hih := Lib.hid hlt
      have g1 : (i : Int) < (n : Int) := by omega
      have g2 : (0 : Int) ≤ (i : Int) := by omega
      obtain ⟨z, hz⟩ : ∃ z, z = F10.siz x := ⟨_, rfl⟩
      rw [← hz] at hQ
      replace hall := Lib.hid hall
      replace hz := Lib.hid hz
      clear hlt hin hx hxm
      go_upto_region 4 with fail
      by_cases h6 : 6 < z
      · have g3 : (6 : Int) < (z : Int) := by omega
        have hfx : Hid (bc = false) := Lib.hid (by rw [hbc2.out, hall.out, hdr.out, List.all_cons, decide_eq_false (by rw [← hz.out]; omega)]; rfl)
        clear h6
        go_wp2_with fail
        refine hQ.out.mono ?_
        rintro e w2 ⟨rfl, rfl⟩
        clear hQ
        go_wp2
        go_ret
        exact ⟨by rw [hfx.out]; rfl, rfl⟩
      · have g3 : ¬ (6 : Int) < (z : Int) := by omega
        have hnx := Lib.hid (show (L.all fun t => decide (F10.siz t ≤ 6)) = ((L.drop (i + 1)).all fun t => decide (F10.siz t ≤ 6)) by rw [hall.out, hdr.out, List.all_cons, decide_eq_true (by rw [← hz.out]; omega)]; rfl)
        clear h6
        go_wp2_with fail
        refine hQ.out.mono ?_
        rintro e w2 ⟨rfl, rfl⟩
        clear hQ
        have hlt := hih.out
        have hbb := hnb.out
        go_wp2
        go_roundw
        case rel => exact ⟨i + 1, by omega, by go_num, (by first | rfl | trivial), hnx.out⟩
        case measure => simp [intOf]; omega
    · obtain rfl : i = n := by omega
      have hfin : Hid (bc = decide (i ≤ 32)) := Lib.hid (by rw [hbc2.out, hall, List.drop_eq_nil_of_le (by rw [e1.out]; exact Nat.le_refl _)]; rfl)
      clear hall hin hlt
      have hq : decide ((i : Int) ≤ 32) = decide (i ≤ 32) := decide_eq_decide.2 (by omega)
      rw [← hq] at hfin
      replace hq := Lib.hid hq
      go_wp2
      go_ret
      exact ⟨by rw [hfin.out]; rfl, rfl⟩
end Go.Proofs.YthbkdjbmkhmlnaaDoor
namespace Go.Proofs.YthbkdjbmkhmlnaaDoor
open Go.RowKit
set_option linter.unusedVariables false

/-- A slice that reads as a list of terms, wherever it lies. -/
def SlU (w W : World) (v : Value) (L : List Nat) : Prop := ∃ A c, v = .slice A L.length c ∧ L.length ≤ c ∧ LR uC W A L.length L ∧ Below w.heap.size w W
theorem Gro.slu {w W : World} {t : Nat} {v : Value} {L : List Nat} (G : Gro uC w W [] [] t v L) : SlU w W v L := by
  obtain ⟨A, c, rfl, h1, h2⟩ := G.lrc
  exact ⟨A, c, rfl, h2, h1, G.st.bel⟩
theorem SlU.rebase {w w1 W : World} {v : Value} {L : List Nat} (hb : Below w.heap.size w w1) (h : SlU w1 W v L) : SlU w W v L := by
  obtain ⟨A, c, rfl, h1, h2, h3⟩ := h
  exact ⟨A, c, rfl, h1, h2, hb.trans (h3.mono hb.size)⟩
theorem SlU.bel {w W W' : World} {v : Value} {L : List Nat} (h : SlU w W v L) (hb : Below W.heap.size W W') : SlU w W' v L := by
  obtain ⟨A, c, rfl, h1, h2, h3⟩ := h
  exact ⟨A, c, rfl, h1, h2.bel hb, h3.trans (hb.mono h3.size)⟩
theorem rplus_u (L M : List Nat) (A : Option Addr) (n c : Nat) (B : Option Addr) (m d : Nat) (w : World) (h : LR uC w A n L) (hB : LR uC w B m M) (hn : n ≤ 40000) (hm : m ≤ 40000) : Calls Tryd.prog 62 #[.slice A n c, .slice B m d] w fun e w' => ∃ v, e = .returned v ∧ SlU w w' v (F10.pls L M) :=
  (rplus_any L M A n c B m d w h hB hn hm).mono fun e w' ⟨v, he, G⟩ => ⟨v, he, G.slu⟩
theorem rminus_u (L M : List Nat) (A : Option Addr) (n c : Nat) (B : Option Addr) (m d : Nat) (w : World) (h : LR uC w A n L) (hB : LR uC w B m M) (hn : n ≤ 90000) (hm : m ≤ 90000) : Calls Tryd.prog 61 #[.slice A n c, .slice B m d] w fun e w' => ∃ v, e = .returned v ∧ SlU w w' v (F10.mns L M) :=
  (rminus_any L M A n c B m d w h hB hn hm).mono fun e w' ⟨v, he, G⟩ => ⟨v, he, G.slu⟩

set_option maxRecDepth 100000 in
set_option maxHeartbeats 4000000 in
theorem rcross_any (a b : List Nat) (A : Option Addr) (n c : Nat) (B : Option Addr) (m d : Nat) (w : World) (h : LR uC w A n a) (hB : LR uC w B m b) (hn : n ≤ 100) (hm : m ≤ 100) (ha : U64 a) (hb : U64 b) : Calls Tryd.prog 66 #[.slice A n c, .slice B m d] w fun e w' => ∃ v, e = .returned v ∧ SlU w w' v (F10.crs a b) := by
  have hlen := Lib.hid h.len
  have hlem := Lib.hid hB.len
  replace h := Lib.hid h
  replace hB := Lib.hid hB
  have hnn := Lib.hid hn
  have hmm := Lib.hid hm
  replace ha := Lib.hid ha
  replace hb := Lib.hid hb
  have hpl : Hid (∀ i, (F10.prods (a.take i) b).length ≤ 10000) := Lib.hid fun i => by
    rw [prods_len, List.length_take, hlem.out]
    exact Nat.le_trans (Nat.mul_le_mul (Nat.le_trans (Nat.min_le_right _ _) (by rw [hlen.out]; exact hn)) hm) (by decide)
  clear hn hm
  go_enter Tryd.func66, Tryd.ntmps66
  go_wp2
  go_loopw [5, 6] (fun av iv wr => ∃ i : Nat, i ≤ n ∧ iv = .int .i64 i ∧ SlU w wr av (F10.pls [] (F10.prods (a.take i) b))) (fun _ iv _ => n - (intOf iv).toNat)
  case atStart => exact ⟨0, Nat.zero_le _, rfl, none, 0, rfl, Nat.le_refl _, LR.nil_ _ _ _, Below.refl _ _⟩
  case round =>
    obtain ⟨i, hin, rfl, G⟩ := hrel
    by_cases hlt : i < n
    · have Bi : Below w.heap.size w wr := by obtain ⟨_, _, _, _, _, h3⟩ := G; exact h3
      obtain ⟨q, o, x, rfl, hx, hxm, e0⟩ := u_get (h.out.bel Bi) hlt
      have hih := Lib.hid hlt
      have g1 : (i : Int) < (n : Int) := by omega
      have g2 : (0 : Int) ≤ (i : Int) := by omega
      have hx64 := Lib.hid (ha.out x hxm)
      have hpt := Lib.hid (prods_take (b := b) hx)
      have hpli := Lib.hid (hpl.out i)
      have hx0 : Hid (w.cell? ⟨q, o + i, none⟩ = some (.int .u64 (x : Int))) := Lib.hid (by
        obtain ⟨q', o', x', hA', hx', _, e1⟩ := u_get h.out hlt
        injection hA' with hA'
        injection hA' with k1 k2
        subst k1 k2
        rw [hx] at hx'
        injection hx' with hx'
        subst hx'
        exact e1)
      replace G := Lib.hid G
      clear hlt hin hx hxm e0 Bi
      go_wp2
      go_loopw [5, 7] (fun av iv wr => ∃ k : Nat, k ≤ m ∧ iv = .int .i64 k ∧ SlU w wr av (F10.pls [] (F10.prods (a.take i) b ++ (b.take k).map (x ||| ·)))) (fun _ iv _ => m - (intOf iv).toNat)
      case atStart => exact ⟨0, Nat.zero_le _, rfl, by rw [List.take_zero, List.map_nil, List.append_nil]; exact G.out⟩
      case round =>
        clear G
        obtain ⟨k, hkm, rfl, G⟩ := hrel
        by_cases hkt : k < m
        · obtain ⟨A1, c1, rfl, hc1, hl1, B1⟩ := G
          obtain ⟨q2, o2, y, rfl, hy, hym, y0⟩ := u_get (hB.out.bel B1) hkt
          have hkh := Lib.hid hkt
          have k1 : (k : Int) < (m : Int) := by omega
          have k2 : (0 : Int) ≤ (k : Int) := by omega
          have hor := u64_or_nat x y hx64.out (hb.out y hym)
          have hnew : Hid (F10.pls [] (F10.prods (a.take i) b ++ (b.take (k + 1)).map (x ||| ·)) = F10.pls (F10.pls [] (F10.prods (a.take i) b ++ (b.take k).map (x ||| ·))) [x ||| y]) := Lib.hid (by rw [take_snoc_of hy, ← F10.pls_app]; simp)
          have hll : Hid ((F10.pls [] (F10.prods (a.take i) b ++ (b.take k).map (x ||| ·))).length ≤ 10200) := Lib.hid (by
            refine Nat.le_trans (pls_len _ _) ?_
            rw [List.length_append, List.length_map, List.length_take]
            have := hpli.out
            have := hmm.out
            simp; omega)
          have x0 : Hid (wr.cell? ⟨q, o + i, none⟩ = some (.int .u64 (x : Int))) := Lib.hid (bel_cell B1 hx0.out)
          replace y0 := Lib.hid y0
          replace B1 := Lib.hid B1
          replace hl1 := Lib.hid hl1
          replace hc1 := Lib.hid hc1
          have hkm2 := Lib.hid hkm
          clear hkt hkm hy hym
          generalize F10.pls [] (F10.prods (a.take i) b ++ (b.take k).map (x ||| ·)) = M at *
          obtain ⟨mn, hmn⟩ : ∃ k, k = M.length := ⟨_, rfl⟩
          rw [← hmn] at hl1 hc1 hll
          rw [← hmn]
          replace hmn := Lib.hid hmn
          have hg1 := hih.out
          have g1 : (i : Int) < (n : Int) := by omega
          have g2 : (0 : Int) ≤ (i : Int) := by omega
          clear hg1
          go_upto_region 8 with fail
          refine Wl.start (fun V => Below wr.heap.size wr V) [] (by kernel_rfl) ?_
          have hS : Below wr.heap.size wr wr.drew := (Below.refl _ wr).drew
          generalize wr.drew = w7 at *
          refine Wl.t (i := 0) (v := .slice A1 mn c1) (some 20) at0 (hy := fun _ _ => by go_simp) (hS := hS) (h := ?_)
          refine Wl.t (i := 1) (v := .slice (some ⟨q, o, none⟩) n c) (some 21) at1 (hy := fun _ _ => by go_simp) (hS := hS) (h := ?_)
          refine Wl.t (i := 2) (v := .int .i64 (i : Nat)) (some 22) at2 (hy := fun _ _ => by go_simp) (hS := hS) (h := ?_)
          refine Wl.t (i := 3) (v := .pointer (some ⟨q, o + i, none⟩)) (some 23) at3 (hy := fun _ _ => by go_simp) (hS := hS) (h := ?_)
          refine Wl.t (i := 4) (v := .int .u64 (x : Int)) (some 24) at4 (hy := fun V h => by (have k0 := bel_cell h x0.out; clear h; go_simp)) (hS := hS) (h := ?_)
          refine Wl.t (i := 5) (v := .slice (some ⟨q2, o2, none⟩) m d) (some 25) at5 (hy := fun _ _ => by go_simp) (hS := hS) (h := ?_)
          refine Wl.t (i := 6) (v := .int .i64 (k : Nat)) (some 26) at6 (hy := fun _ _ => by go_simp) (hS := hS) (h := ?_)
          refine Wl.t (i := 7) (v := .pointer (some ⟨q2, o2 + k, none⟩)) (some 27) at7 (hy := fun _ _ => by go_simp) (hS := hS) (h := ?_)
          refine Wl.t (i := 8) (v := .int .u64 (y : Int)) (some 28) at8 (hy := fun V h => by (have k0 := bel_cell h y0.out; clear h; go_simp)) (hS := hS) (h := ?_)
          refine Wl.t (i := 9) (v := .int .u64 ((x ||| y : Nat) : Int)) (some 29) at9 (hy := fun _ _ => by go_simp) (hS := hS) (h := ?_)
          try simp only [Act.put, List.setIfInBounds_toArray, List.set_cons_zero, List.set_cons_succ]
          refine Wl.g (i := 10) at10 (by kernel_rfl) (by kernel_rfl) fun K' hK => ?_
          go_simp
          have SA := Lib.hid ((St.new w7).alloc #[.int .u64 ((x ||| y : Nat) : Int)] 64 (noLof rfl))
          have hS8 := hS.trans (SA.out.bel.mono hS.size)
          have hone := Lib.hid (St_glr (C := uC) (L := [x ||| y]) SA.out 1 rfl (fun _ _ => trivial))
          refine hK.out _ _ hS8 ?_
          clear hK K' SA
          try simp only [Act.put, List.setIfInBounds_toArray, List.set_cons_zero, List.set_cons_succ]
          refine Wl.g (i := 11) at11 (by kernel_rfl) (by kernel_rfl) fun K' hK => ?_
          refine oper_call (f := 62) (args := #[.slice A1 mn c1, .slice (some ⟨w7.heap.size, 0, none⟩) 1 1]) rfl (by kernel_rfl) ((rplus_u M [x ||| y] A1 mn c1 (some ⟨w7.heap.size, 0, none⟩) 1 1 _ (hl1.out.bel hS8) hone.out (by have := hll.out; omega) (by decide)).mono ?_)
          rintro e w9 ⟨v, rfl, hU⟩
          have hU2 := Lib.hid (hU.rebase (B1.out.trans (hS8.mono B1.out.size)))
          have hS9 : Below wr.heap.size wr w9 := by obtain ⟨_, _, _, _, _, h3⟩ := hU; exact hS8.trans (h3.mono hS8.size)
          refine ⟨_, rfl, hK.out _ _ hS9 ?_⟩
          clear hK K' hU hone hS8
          try simp only [Act.put, List.setIfInBounds_toArray, List.set_cons_zero, List.set_cons_succ]
          refine Wl.g (i := 12) at12 (by kernel_rfl) (by kernel_rfl) fun K' hK => ?_
          go_simp
          refine hK.out _ _ hS9 ?_
          clear hK K'
          try simp only [Act.put, List.setIfInBounds_toArray, List.set_cons_zero, List.set_cons_succ]
          refine Wl.done (by kernel_rfl) ?_
          rw [← hnew.out] at hU2
          have hkt := hkh.out
          have hbb := hmm.out
          clear hS9 hS x0 y0 hl1 hc1 hnew hll hor
          try go_simp
          try go_wp2
          go_roundw
          case rel => exact ⟨k + 1, by omega, by go_num, hU2.out⟩
          case measure => simp [intOf]; omega
        · obtain rfl : k = m := by omega
          have hfin : F10.prods (a.take i) b ++ (b.take k).map (x ||| ·) = F10.prods (a.take (i + 1)) b := by
            rw [hpt.out, List.take_of_length_le (l := b) (by rw [hlem.out]; exact Nat.le_refl _)]
          rw [hfin] at G
          replace G := Lib.hid G
          clear hkt hkm hfin
          have hlt := hih.out
          have hbb := hnn.out
          go_wp2
          go_roundw
          case rel => exact ⟨i + 1, by omega, by go_num, G.out⟩
          case measure => simp [intOf]; omega
    · obtain rfl : i = n := by omega
      have hfin : F10.prods (a.take i) b = F10.prods a b := by rw [List.take_of_length_le (by rw [hlen.out]; exact Nat.le_refl _)]
      rw [hfin] at G
      replace G := Lib.hid G
      clear hlt hin hfin
      go_wp2
      go_ret
      exact ⟨_, rfl, G.out⟩
end Go.Proofs.YthbkdjbmkhmlnaaDoor
namespace Go.Proofs.YthbkdjbmkhmlnaaDoor
open Go.RowKit
set_option linter.unusedVariables false

/-- A slice that reads as nodes, wherever it lies. -/
def SlN (w W : World) (v : Value) (L : List Nd) : Prop := ∃ A c, v = .slice A L.length c ∧ L.length ≤ c ∧ LR ndC W A L.length L ∧ Below w.heap.size w W
theorem SlN.rebase {w w1 W : World} {v : Value} {L : List Nd} (hb : Below w.heap.size w w1) (h : SlN w1 W v L) : SlN w W v L := by
  obtain ⟨A, c, rfl, h1, h2, h3⟩ := h
  exact ⟨A, c, rfl, h1, h2, hb.trans (h3.mono hb.size)⟩
theorem SlN.bel {w W W' : World} {v : Value} {L : List Nd} (h : SlN w W v L) (hb : Below W.heap.size W W') : SlN w W' v L := by
  obtain ⟨A, c, rfl, h1, h2, h3⟩ := h
  exact ⟨A, c, rfl, h1, h2.bel hb, h3.trans (hb.mono h3.size)⟩
theorem SlN.old {w W : World} {v : Value} {L : List Nd} (h : SlN w W v L) : Below w.heap.size w W := by
  obtain ⟨A, c, _, _, _, h3⟩ := h
  exact h3
theorem Gro.sln {w W : World} {t : Nat} {v : Value} {L : List Nd} (G : Gro ndC w W [] [] t v L) : SlN w W v L := by
  obtain ⟨A, c, rfl, h1, h2⟩ := G.lrc
  exact ⟨A, c, rfl, h2, h1, G.st.bel⟩

set_option maxRecDepth 100000 in
set_option maxHeartbeats 4000000 in
theorem join_any (op : Int) (L M : List Nd) (A : Option Addr) (n c : Nat) (B : Option Addr) (m d : Nat) (w : World) (h : LR ndC w A n L) (hB : LR ndC w B m M) (hn : n ≤ 1000) (hm : m ≤ 1000) : Calls Tryd.prog 19 #[.int .i64 op, .slice A n c, .slice B m d] w fun e w' => ∃ v, e = .returned v ∧ SlN w w' v (⟨op, ⟨#[]⟩, 0⟩ :: (L ++ M)) := by
  have e1 := h.len
  have e2 := hB.len
  subst e1 e2
  have S1 := Lib.hid ((St.new w).alloc #[.int .i64 op, .string ⟨#[]⟩, .int .i64 0] 39 (noLof rfl))
  have G1 : Hid (Gro ndC w (w.alloc (.cells #[.int .i64 op, .string ⟨#[]⟩, .int .i64 0] 39)) [] [] 39 (.slice (some ⟨w.heap.size, 0, none⟩) 1 1) [⟨op, ⟨#[]⟩, 0⟩]) := Lib.hid (Gro.one (C := ndC) (y := ⟨op, ⟨#[]⟩, 0⟩) S1.out (nd_in _))
  have h1 := Lib.hid (h.bel S1.out.bel)
  have hB1 := Lib.hid hB
  have hnb := Lib.hid hn
  have hmb := Lib.hid hm
  clear h hB hn hm
  go_enter Tryd.func19, Tryd.ntmps19
  go_wp2_with (at_builtin; refine Gro.wpm rfl (.tmp 9) (.tmp 10) 22 rfl (.agg #[.int .i64 0, .string ⟨#[]⟩, .int .i64 0]) 32 Tryd.underlying22 (by kernel_rfl) rfl (fun v hv z e => by simp [Value.cells] at hv; subst e; simp at hv) rfl G1.out L A c rfl h1.out (fun y _ => nd_in y) (by have := hnb.out; simp; omega) (by have := hnb.out; unfold maxLen; simp; omega) ?_)
  intro v1 w1 G2
  replace G2 := Lib.hid G2
  have hB2 := Lib.hid (hB1.out.bel G2.out.st.bel)
  clear G1 S1 h1
  go_wp2_with (at_builtin; refine Gro.wpm rfl (.tmp 11) (.tmp 12) 22 rfl (.agg #[.int .i64 0, .string ⟨#[]⟩, .int .i64 0]) 32 Tryd.underlying22 (by kernel_rfl) rfl (fun v hv z e => by simp [Value.cells] at hv; subst e; simp at hv) rfl G2.out M B d rfl hB2.out (fun y _ => nd_in y) (by have := hnb.out; have := hmb.out; simp; omega) (by have := hnb.out; have := hmb.out; unfold maxLen; simp; omega) ?_)
  intro v2 w2 G3
  have G4 := Lib.hid G3.sln
  clear G2 hB2 G3
  go_wp2
  go_ret
  exact ⟨_, rfl, G4.out⟩
end Go.Proofs.YthbkdjbmkhmlnaaDoor
