/- Contracts of known and signed. -/
import Derived.Test.YtlflaalefilplaaDoorM02
import Derived.Test.YtlflaalefilplaaDoorM01
import Derived.Deep.DeepCutAuto
import Derived.Deep.Upon
namespace Go.Proofs.YtlflaalefilplaaDoor
open Go.RowKit

theorem Bx.two (w : World) (b : Bool) (A : Option Addr) (n c : Nat) (b' : Bool) (A' : Option Addr) (n' c' : Nat) :
    Bx ((w.alloc (.cells #[.bool b, .slice A n c] 42)).alloc (.cells #[.bool b', .slice A' n' c'] 42)) w.heap.size b A n c ∧
    Bx ((w.alloc (.cells #[.bool b, .slice A n c] 42)).alloc (.cells #[.bool b', .slice A' n' c'] 42)) (w.heap.size + 1) b' A' n' c' := by
  refine ⟨(Bx.new w b A n c).alloc _, ?_⟩
  have := Bx.new (w.alloc (.cells #[.bool b, .slice A n c] 42)) b' A' n' c'
  rwa [show (w.alloc (.cells #[.bool b, .slice A n c] 42)).heap.size = w.heap.size + 1 by simp] at this
theorem two_bel (w : World) (o o' : Obj) : Below w.heap.size w ((w.alloc o).alloc o') := ((Below.refl _ _).alloc (Nat.le_refl _) _).alloc (by simp) _
theorem two_size (w : World) (o o' : Obj) : ((w.alloc o).alloc o').heap.size = w.heap.size + 1 + 1 := by simp
theorem res_signed (W : World) (tmps : Array Value) (g : Nat) {b : Bool} {A : Option Addr} {n c : Nat} (ht : tmps.getD 4 undef = .pointer (some ⟨g, 0, none⟩)) (h : Bx W g b A n c) :
    (results Tryd.f66 tmps).run Tryd.prog W = .ok (.agg #[.bool b, .slice A n c]) W := by
  obtain ⟨c0, c1, _⟩ := h.at_
  have ht' : tmps[4]?.getD undef = .pointer (some ⟨g, 0, none⟩) := by rw [← ht]; simp [Array.getD_eq_getD_getElem?]
  simp [results, Tryd.results66, go_sem, ht', c0, c1]
theorem ret_zero {z : Int} {w w' : World} {A : Option Addr} {c : Nat} (hz : z = 0) (hB : Below w.heap.size w w') : RetI z w (.returned (.agg #[.bool false, .slice A 0 c])) w' := by
  subst hz; exact ⟨A, 0, c, rfl, by rw [show limbs (0 : Int).natAbs = [] from limbs_zero]; exact Rd.nil_ _ _ _, hB⟩
theorem ret_I {z : Int} {w w' : World} {b : Bool} {A : Option Addr} {n c : Nat} (hb : b = ng z) (R : Rd w' A n c (limbs z.natAbs)) (hB : Below w.heap.size w w') : RetI z w (.returned (.agg #[.bool b, .slice A n c])) w' := by
  subst hb; exact ⟨A, n, c, rfl, R, hB⟩

set_option maxHeartbeats 1000000 in
theorem signedI_any (b : Bool) (A : Option Addr) (n c N : Nat) (w : World) (h : Rd w A n c (limbs N)) :
    Calls Tryd.prog 66 #[.bool b, .slice A n c] w (RetI (sg b N) w) := by
  have x2 := Bx.new w false none 0 0
  have Bw := (Below.refl w.heap.size w).alloc (Nat.le_refl _) (.cells #[.bool false, .slice none 0 0] 42)
  obtain ⟨c0, c1, f0, f1⟩ := x2.at_
  replace Bw := Lib.hid Bw
  by_cases h0 : n = 0
  · subst h0
    have hN : Hid (sg b N = 0) := by
      have := List.eq_nil_of_length_eq_zero h.len
      have h2 := congrArg val this
      rw [val_limbs] at h2
      show sg b N = 0
      rw [h2]; exact sg_zero b
    have y3 := Lib.hid (Bx.new w false none 0 0)
    clear x2
    replace h := Lib.hid h
    go_enter Tryd.func66, Tryd.ntmps66
    go_wp2
    refine bodyPost_ret (res_signed _ _ w.heap.size rfl y3.out) rfl ?_
    exact ret_zero hN.out ((Below.refl w.heap.size w).alloc (Nat.le_refl _) _)
  · have hN : Hid (0 < N) := by
      rcases Nat.eq_zero_or_pos N with h1 | h1
      · have := h.len; rw [h1, limbs_zero] at this; exact absurd this.symm h0
      · exact h1
    have hn : ((n : Int) == 0) = false := by rw [beq_eq_false_iff_ne]; omega
    have y3 := Lib.hid (Bx.new w b A n c)
    clear x2
    replace h := Lib.hid h
    replace h0 := Lib.hid h0
    go_enter Tryd.func66, Tryd.ntmps66
    go_wp2
    refine bodyPost_ret (res_signed _ _ w.heap.size rfl y3.out) rfl ?_
    refine ret_I (ng_sg hN.out).symm ?_ ((Below.refl w.heap.size w).alloc (Nat.le_refl _) _)
    rw [abs_sg]
    exact h.out.alloc _
end Go.Proofs.YtlflaalefilplaaDoor
namespace Go.Proofs.YtlflaalefilplaaDoor
open Go.RowKit

/-- Three blocks of pairs that a call has made. -/
structure B3 (w W : World) (b1 : Bool) (A1 : Option Addr) (n1 c1 : Nat) (b2 : Bool) (A2 : Option Addr) (n2 c2 : Nat) (b3 : Bool) (A3 : Option Addr) (n3 c3 : Nat) : Prop where
  x1 : Bx W w.heap.size b1 A1 n1 c1
  x2 : Bx W (w.heap.size + 1) b2 A2 n2 c2
  x3 : Bx W (w.heap.size + 1 + 1) b3 A3 n3 c3
  bel : Below w.heap.size w W
  sz : w.heap.size + 1 + 1 + 1 ≤ W.heap.size
section
variable {w W W' : World} {b1 b2 b3 b' : Bool} {A1 A2 A3 A' : Option Addr} {n1 n2 n3 n' c1 c2 c3 c' : Nat}
theorem B3.new (w : World) (b1 : Bool) (A1 : Option Addr) (n1 c1 : Nat) (b2 : Bool) (A2 : Option Addr) (n2 c2 : Nat) (b3 : Bool) (A3 : Option Addr) (n3 c3 : Nat) :
    B3 w (((w.alloc (.cells #[.bool b1, .slice A1 n1 c1] 42)).alloc (.cells #[.bool b2, .slice A2 n2 c2] 42)).alloc (.cells #[.bool b3, .slice A3 n3 c3] 42)) b1 A1 n1 c1 b2 A2 n2 c2 b3 A3 n3 c3 := by
  obtain ⟨h1, h2⟩ := Bx.two w b1 A1 n1 c1 b2 A2 n2 c2
  refine ⟨h1.alloc _, h2.alloc _, ?_, (two_bel w _ _).alloc (by simp; omega) _, by simp⟩
  have := Bx.new ((w.alloc (.cells #[.bool b1, .slice A1 n1 c1] 42)).alloc (.cells #[.bool b2, .slice A2 n2 c2] 42)) b3 A3 n3 c3
  rwa [two_size] at this
theorem B3.on (h : B3 w W b1 A1 n1 c1 b2 A2 n2 c2 b3 A3 n3 c3) (hb : Below W.heap.size W W') : B3 w W' b1 A1 n1 c1 b2 A2 n2 c2 b3 A3 n3 c3 :=
  ⟨h.x1.bel hb, h.x2.bel hb, h.x3.bel hb, h.bel.trans (hb.mono h.bel.size), Nat.le_trans h.sz hb.size⟩
theorem B3.drew (h : B3 w W b1 A1 n1 c1 b2 A2 n2 c2 b3 A3 n3 c3) : B3 w W.drew b1 A1 n1 c1 b2 A2 n2 c2 b3 A3 n3 c3 := ⟨h.x1, h.x2, h.x3, h.bel.drew, h.sz⟩
theorem B3.put1 (h : B3 w W b1 A1 n1 c1 b2 A2 n2 c2 b3 A3 n3 c3) (b' : Bool) (A' : Option Addr) (n' c' : Nat) :
    B3 w ((W.setCell ⟨w.heap.size, 0, none⟩ (.bool b')).setCell ⟨w.heap.size, 1, none⟩ (.slice A' n' c')) b' A' n' c' b2 A2 n2 c2 b3 A3 n3 c3 :=
  ⟨h.x1.put _ _ _ _, (h.x2.far (Nat.ne_of_gt (Nat.lt_succ_self _)) _).far (Nat.ne_of_gt (Nat.lt_succ_self _)) _, (h.x3.far (Nat.ne_of_gt (Nat.lt_succ_of_lt (Nat.lt_succ_self _))) _).far (Nat.ne_of_gt (Nat.lt_succ_of_lt (Nat.lt_succ_self _))) _, put_below _ _ h.bel (Nat.le_refl _), by simpa using h.sz⟩
theorem B3.put2 (h : B3 w W b1 A1 n1 c1 b2 A2 n2 c2 b3 A3 n3 c3) (b' : Bool) (A' : Option Addr) (n' c' : Nat) :
    B3 w ((W.setCell ⟨w.heap.size + 1, 0, none⟩ (.bool b')).setCell ⟨w.heap.size + 1, 1, none⟩ (.slice A' n' c')) b1 A1 n1 c1 b' A' n' c' b3 A3 n3 c3 :=
  ⟨(h.x1.far (Nat.ne_of_lt (Nat.lt_succ_self _)) _).far (Nat.ne_of_lt (Nat.lt_succ_self _)) _, h.x2.put _ _ _ _, (h.x3.far (Nat.ne_of_gt (Nat.lt_succ_self _)) _).far (Nat.ne_of_gt (Nat.lt_succ_self _)) _, put_below _ _ h.bel (Nat.le_succ _), by simpa using h.sz⟩
theorem B3.put3 (h : B3 w W b1 A1 n1 c1 b2 A2 n2 c2 b3 A3 n3 c3) (b' : Bool) (A' : Option Addr) (n' c' : Nat) :
    B3 w ((W.setCell ⟨w.heap.size + 1 + 1, 0, none⟩ (.bool b')).setCell ⟨w.heap.size + 1 + 1, 1, none⟩ (.slice A' n' c')) b1 A1 n1 c1 b2 A2 n2 c2 b' A' n' c' :=
  ⟨(h.x1.far (Nat.ne_of_lt (Nat.lt_succ_of_lt (Nat.lt_succ_self _))) _).far (Nat.ne_of_lt (Nat.lt_succ_of_lt (Nat.lt_succ_self _))) _, (h.x2.far (Nat.ne_of_lt (Nat.lt_succ_self _)) _).far (Nat.ne_of_lt (Nat.lt_succ_self _)) _, h.x3.put _ _ _ _, put_below _ _ h.bel (Nat.le_succ_of_le (Nat.le_succ _)), by simpa using h.sz⟩
theorem B3.two_puts (h : B3 w W b1 A1 n1 c1 b2 A2 n2 c2 b3 A3 n3 c3) (b' : Bool) (A' : Option Addr) (n' c' : Nat) (b'' : Bool) (A'' : Option Addr) (n'' c'' : Nat) :
    B3 w ((((W.setCell ⟨w.heap.size, 0, none⟩ (.bool b')).setCell ⟨w.heap.size, 1, none⟩ (.slice A' n' c')).setCell ⟨w.heap.size + 1, 0, none⟩ (.bool b'')).setCell ⟨w.heap.size + 1, 1, none⟩ (.slice A'' n'' c'')) b' A' n' c' b'' A'' n'' c'' b3 A3 n3 c3 :=
  (h.put1 b' A' n' c').put2 b'' A'' n'' c''
end
theorem Rd.drew1 {w : World} {A : Option Addr} {n c : Nat} {xs : List Nat} (h : Rd w A n c xs) : Rd w.drew A n c xs := ⟨h.len, h.cap, h.sm, h.mem⟩
/-- A pair's block holds no limbs: what reads as limbs is left alone by a store into it. -/
theorem Rd.put {W : World} {g : Nat} {b : Bool} {A' : Option Addr} {n' c' : Nat} {A : Option Addr} {n c : Nat} {xs : List Nat} (h : Rd W A n c xs) (x : Bx W g b A' n' c') (v0 v1 : Value) :
    Rd ((W.setCell ⟨g, 0, none⟩ v0).setCell ⟨g, 1, none⟩ v1) A n c xs := by
  refine ⟨h.len, h.cap, h.sm, ?_⟩
  rcases h.mem with h0 | ⟨bk, o, hA, hlt, hc⟩
  · exact .inl h0
  · rcases Nat.eq_zero_or_pos n with hn | hn
    · exact .inl hn
    have hne : bk ≠ g := by
      rintro rfl
      have h1 := hc 0 hn
      rw [Nat.add_zero, cell_of_row W bk o _ 42 (0, 0) x] at h1
      match o, h1 with
      | 0, h1 => simp at h1
      | 1, h1 => simp at h1
      | k + 2, h1 => simp at h1
    refine .inr ⟨bk, o, hA, by simpa using hlt, fun k hk => ?_⟩
    rw [World.cell?_of_block (Below.heap_setCell _ _ _ _ hne), World.cell?_of_block (Below.heap_setCell _ _ _ _ hne)]
    exact hc k hk

theorem sg_mul (x y : Int) : sg (ng x != ng y) (x.natAbs * y.natAbs) = x * y := by
  have hx := sg_ng x
  have hy := sg_ng y
  generalize x.natAbs = a at *
  generalize y.natAbs = b at *
  generalize ng x = p at *
  generalize ng y = q at *
  subst hx hy
  cases p <;> cases q <;> simp [sg, Int.neg_mul, Int.mul_neg]
end Go.Proofs.YtlflaalefilplaaDoor
namespace Go.Proofs.YtlflaalefilplaaDoor
open Go.RowKit

/-- No cell of the row is a limb. -/
def NoL (cs : Array Value) : Prop := ∀ (i : Nat) (z : Int), cs[i]? ≠ some (Value.int .u32 z)
/-- A block that holds the cells cs. -/
def Cb (W : World) (g : Nat) (cs : Array Value) (t : Nat) : Prop := W.heap[g]? = some (.cells cs t (0, 0))
section
variable {w W W' : World} {g t : Nat} {cs : Array Value}
theorem Cb.lt (h : Cb W g cs t) : g < W.heap.size := by
  rcases Nat.lt_or_ge g W.heap.size with hlt | hge
  · exact hlt
  · unfold Cb at h; rw [Array.getElem?_eq_none hge] at h; cases h
theorem Cb.keep (h : Cb W g cs t) (hk : W'.heap[g]? = W.heap[g]?) : Cb W' g cs t := hk.trans h
theorem Cb.new (W : World) (cs : Array Value) (t : Nat) : Cb (W.alloc (.cells cs t)) W.heap.size cs t := heap_alloc_new W _
theorem Cb.alloc (h : Cb W g cs t) (o : Obj) : Cb (W.alloc o) g cs t := h.keep (Below.heap_alloc W o g h.lt)
theorem Cb.bel (h : Cb W g cs t) (hb : Below W.heap.size W W') : Cb W' g cs t := h.keep (hb.block g h.lt)
theorem Cb.drew (h : Cb W g cs t) : Cb W.drew g cs t := h
theorem Cb.cell (h : Cb W g cs t) {i : Nat} {v : Value} (hv : cs[i]? = some v) : W.cell? ⟨g, i, none⟩ = some v := by
  rw [cell_of_row W g i _ t (0, 0) h]; exact hv
theorem Cb.frozen (h : Cb W g cs t) (i : Nat) : W.frozen? ⟨g, i, none⟩ = false := by
  unfold Cb at h; simp [World.frozen?, h]
theorem Cb.set (h : Cb W g cs t) (i : Nat) (v : Value) : Cb (W.setCell ⟨g, i, none⟩ v) g (cs.setIfInBounds i v) t := by
  unfold Cb at *; simp [World.setCell, Array.getElem?_modify, h]
theorem Cb.far (h : Cb W g cs t) {p : Addr} (hp : g ≠ p.block) (u : Value) : Cb (W.setCell p u) g cs t := h.keep (Below.heap_setCell W p u g hp)
end
/-- A block without limbs: what reads as limbs is left alone by a store into it. -/
theorem Rd.set {W : World} {g t : Nat} {cs : Array Value} {A : Option Addr} {n c : Nat} {xs : List Nat} (h : Rd W A n c xs) (x : Cb W g cs t) (hn : NoL cs) (i : Nat) (v : Value) :
    Rd (W.setCell ⟨g, i, none⟩ v) A n c xs := by
  refine ⟨h.len, h.cap, h.sm, ?_⟩
  rcases h.mem with h0 | ⟨bk, o, hA, hlt, hc⟩
  · exact .inl h0
  · rcases Nat.eq_zero_or_pos n with hn0 | hn0
    · exact .inl hn0
    have hne : bk ≠ g := by
      rintro rfl
      have h1 := hc 0 hn0
      rw [Nat.add_zero, cell_of_row W bk o _ t (0, 0) x] at h1
      exact hn _ _ h1
    refine .inr ⟨bk, o, hA, by simpa using hlt, fun k hk => ?_⟩
    rw [World.cell?_of_block (Below.heap_setCell _ _ _ _ hne)]
    exact hc k hk

/-- What a call knows: the blocks of its own and the numbers that it can read. -/
structure St (w W : World) (bs : List (Nat × Array Value × Nat)) (rs : List (Option Addr × Nat × Nat × List Nat)) : Prop where
  bel : Below w.heap.size w W
  bk : ∀ p ∈ bs, Cb W p.1 p.2.1 p.2.2 ∧ NoL p.2.1 ∧ w.heap.size ≤ p.1
  nd : bs.Pairwise (fun p q => p.1 ≠ q.1)
  rd : ∀ r ∈ rs, Rd W r.1 r.2.1 r.2.2.1 r.2.2.2
section
variable {w W W' : World} {bs : List (Nat × Array Value × Nat)} {rs : List (Option Addr × Nat × Nat × List Nat)} {A : Option Addr} {n c : Nat} {xs : List Nat}
theorem St.new (w : World) : St w w [] [] := ⟨Below.refl _ _, by simp, List.Pairwise.nil, by simp⟩
theorem St.call (h : St w W bs rs) (hb : Below W.heap.size W W') : St w W' bs rs :=
  ⟨h.bel.trans (hb.mono h.bel.size), fun p hp => ⟨(h.bk p hp).1.bel hb, (h.bk p hp).2⟩, h.nd, fun r hr => (h.rd r hr).below hb⟩
theorem St.read (h : St w W bs rs) (R : Rd W A n c xs) : St w W bs ((A, n, c, xs) :: rs) :=
  ⟨h.bel, h.bk, h.nd, fun r hr => by rcases List.mem_cons.1 hr with rfl | hr; exact R; exact h.rd r hr⟩
theorem St.alloc (h : St w W bs rs) (cs : Array Value) (t : Nat) (hn : NoL cs) : St w (W.alloc (.cells cs t)) ((W.heap.size, cs, t) :: bs) rs := by
  refine ⟨h.bel.alloc h.bel.size _, ?_, ?_, fun r hr => (h.rd r hr).alloc _⟩
  · intro p hp
    rcases List.mem_cons.1 hp with rfl | hp
    · exact ⟨Cb.new _ _ _, hn, h.bel.size⟩
    · exact ⟨(h.bk p hp).1.alloc _, (h.bk p hp).2⟩
  · refine List.pairwise_cons.2 ⟨fun p hp => ?_, h.nd⟩
    have := (h.bk p hp).1.lt
    show W.heap.size ≠ p.1
    omega
theorem St.allocAt (h : St w W bs rs) (g : Nat) (cs : Array Value) (t : Nat) (hn : NoL cs) (hg : W.heap.size = g) : St w (W.alloc (.cells cs t)) ((g, cs, t) :: bs) rs := by
  subst hg; exact h.alloc cs t hn
theorem St.drew (h : St w W bs rs) : St w W.drew bs rs := ⟨h.bel.drew, h.bk, h.nd, fun r hr => Rd.drew1 (h.rd r hr)⟩
theorem St.drewN (h : St w W bs rs) (k : Nat) : St w (W.drewN k) bs rs := by
  exact ⟨below_drewN h.bel k, h.bk, h.nd, fun r hr => (h.rd r hr).drewN k⟩
theorem NoL.set {cs : Array Value} (h : NoL cs) (i : Nat) {v : Value} (hv : ∀ z, v ≠ .int .u32 z) : NoL (cs.setIfInBounds i v) := by
  intro j z
  rw [Array.getElem?_setIfInBounds]
  split
  · split
    · intro e; injection e with e; exact hv z e
    · simp
  · exact h j z
/-- A store into the k-th block. -/
theorem St.set (h : St w W bs rs) (k i : Nat) (v : Value) {g t : Nat} {cs : Array Value} (hk : bs[k]? = some (g, cs, t)) (hv : ∀ z, v ≠ .int .u32 z) :
    St w (W.setCell ⟨g, i, none⟩ v) (bs.set k (g, cs.setIfInBounds i v, t)) rs := by
  obtain ⟨hlt, hk'⟩ := List.getElem?_eq_some_iff.1 hk
  have hm : (g, cs, t) ∈ bs := hk' ▸ List.getElem_mem hlt
  obtain ⟨hb, hn, hw⟩ := h.bk _ hm
  have hpw : ∀ j, (hj : j < bs.length) → j ≠ k → bs[j].1 ≠ g := by
    intro j hj hjk
    have e : g = bs[k].1 := by rw [hk']
    rw [e]
    rcases Nat.lt_or_gt_of_ne hjk with hl | hl
    · exact List.pairwise_iff_getElem.1 h.nd j k hj hlt hl
    · exact (List.pairwise_iff_getElem.1 h.nd k j hlt hj hl).symm
  refine ⟨h.bel.setCell hw _, ?_, ?_, fun r hr => (h.rd r hr).set hb hn i v⟩
  · intro p hp
    obtain ⟨j, hj, rfl⟩ := List.mem_iff_getElem.1 hp
    rw [List.length_set] at hj
    by_cases hjk : k = j
    · subst hjk
      rw [List.getElem_set_self]
      exact ⟨hb.set i v, hn.set i hv, hw⟩
    · rw [List.getElem_set_ne hjk]
      obtain ⟨q1, q2, q3⟩ := h.bk bs[j] (List.getElem_mem hj)
      exact ⟨q1.far (hpw j hj (Ne.symm hjk)) _, q2, q3⟩
  · refine List.pairwise_iff_getElem.2 fun a b ha hb' hab => ?_
    rw [List.length_set] at ha hb'
    have := List.pairwise_iff_getElem.1 h.nd a b ha hb' hab
    rw [List.getElem_set, List.getElem_set]
    split
    · subst_vars
      rw [if_neg (by omega)]
      rw [hk'] at this; exact this
    · split
      · subst_vars
        rw [hk'] at this; exact this
      · exact this
theorem St.cl (h : St w W bs rs) (k i : Nat) {g t : Nat} {cs : Array Value} (hk : bs[k]? = some (g, cs, t)) {v : Value} (hv : cs[i]? = some v) : W.cell? ⟨g, i, none⟩ = some v :=
  (h.bk _ (List.mem_of_getElem? hk)).1.cell hv
theorem St.f (h : St w W bs rs) (k i : Nat) {g t : Nat} {cs : Array Value} (hk : bs[k]? = some (g, cs, t)) : W.frozen? ⟨g, i, none⟩ = false :=
  (h.bk _ (List.mem_of_getElem? hk)).1.frozen i
/-- The same blocks and numbers in another order. -/
theorem St.pick (h : St w W bs rs) (is js : List Nat) {bs' : List (Nat × Array Value × Nat)} {rs' : List (Option Addr × Nat × Nat × List Nat)} (hi : is.map (fun i => bs[i]?) = bs'.map some) (hd : is.Nodup) (hj : js.map (fun i => rs[i]?) = rs'.map some) : St w W bs' rs' := by
  have hm : ∀ k, k < bs'.length → ∃ i : Nat, is[k]? = some i ∧ bs[i]? = bs'[k]? := by
    intro k hk
    have hl : is.length = bs'.length := by have := congrArg List.length hi; simpa using this
    have e : (is.map (fun i => bs[i]?))[k]? = (bs'.map some)[k]? := by rw [hi]
    rw [List.getElem?_map, List.getElem?_map, List.getElem?_eq_getElem (by omega), List.getElem?_eq_getElem hk] at e
    refine ⟨is[k], List.getElem?_eq_getElem (by omega), ?_⟩
    rw [List.getElem?_eq_getElem hk]
    simpa using e
  have hr : ∀ k, k < rs'.length → ∃ i : Nat, rs[i]? = rs'[k]? := by
    intro k hk
    have hl : js.length = rs'.length := by have := congrArg List.length hj; simpa using this
    have e : (js.map (fun i => rs[i]?))[k]? = (rs'.map some)[k]? := by rw [hj]
    rw [List.getElem?_map, List.getElem?_map, List.getElem?_eq_getElem (by omega), List.getElem?_eq_getElem hk] at e
    refine ⟨js[k], ?_⟩
    rw [List.getElem?_eq_getElem hk]
    simpa using e
  refine ⟨h.bel, ?_, ?_, ?_⟩
  · intro p hp
    obtain ⟨k, hk, rfl⟩ := List.mem_iff_getElem.1 hp
    obtain ⟨i, _, e⟩ := hm k hk
    rw [List.getElem?_eq_getElem hk] at e
    exact h.bk _ (List.mem_of_getElem? e)
  · refine List.pairwise_iff_getElem.2 fun a b ha hb hab => ?_
    obtain ⟨i, ei, e1⟩ := hm a ha
    obtain ⟨j, ej, e2⟩ := hm b hb
    rw [List.getElem?_eq_getElem ha] at e1
    rw [List.getElem?_eq_getElem hb] at e2
    obtain ⟨li, e1'⟩ := List.getElem?_eq_some_iff.1 e1
    obtain ⟨lj, e2'⟩ := List.getElem?_eq_some_iff.1 e2
    have hij : i ≠ j := by
      intro e; subst e
      obtain ⟨la, ea⟩ := List.getElem?_eq_some_iff.1 ei
      obtain ⟨lb, eb⟩ := List.getElem?_eq_some_iff.1 ej
      have := List.pairwise_iff_getElem.1 hd a b la lb hab
      rw [ea, eb] at this; exact this rfl
    rw [← e1', ← e2']
    rcases Nat.lt_or_gt_of_ne hij with hl | hl
    · exact List.pairwise_iff_getElem.1 h.nd i j li lj hl
    · exact (List.pairwise_iff_getElem.1 h.nd j i lj li hl).symm
  · intro r hr'
    obtain ⟨k, hk, rfl⟩ := List.mem_iff_getElem.1 hr'
    obtain ⟨i, e⟩ := hr k hk
    rw [List.getElem?_eq_getElem hk] at e
    exact h.rd _ (List.mem_of_getElem? e)
theorem St.r (h : St w W bs rs) (k : Nat) (hk : rs[k]? = some (A, n, c, xs)) : Rd W A n c xs := h.rd _ (List.mem_of_getElem? hk)
theorem St.lt (h : St w W bs rs) (k : Nat) {g t : Nat} {cs : Array Value} (hk : bs[k]? = some (g, cs, t)) : g < W.heap.size := (h.bk _ (List.mem_of_getElem? hk)).1.lt
end
theorem noL2 (b : Bool) (A : Option Addr) (n c : Nat) : NoL #[.bool b, .slice A n c] := by
  intro i z; match i with
  | 0 => simp
  | 1 => simp
  | k + 2 => simp
theorem noL3 (b : Bool) (A : Option Addr) (n c : Nat) (D : Option Addr) (m d : Nat) : NoL #[.bool b, .slice A n c, .slice D m d] := by
  intro i z; match i with
  | 0 => simp
  | 1 => simp
  | 2 => simp
  | k + 3 => simp
theorem noLi (x y : Int) : NoL #[.int .i64 x, .int .i64 y] := by
  intro i z; match i with
  | 0 => simp
  | 1 => simp
  | k + 2 => simp
end Go.Proofs.YtlflaalefilplaaDoor
namespace Go.Proofs.YtlflaalefilplaaDoor
open Go.RowKit

/-- No value of the list is a limb. -/
def NoLl (xs : List Value) : Prop := ∀ v ∈ xs, ∀ z : Int, v ≠ Value.int .u32 z
theorem NoLl.arr {xs : List Value} (h : NoLl xs) : NoL xs.toArray := by
  intro i z e
  rw [List.getElem?_toArray] at e
  exact h _ (List.mem_of_getElem? e) z rfl
theorem NoL.lst {cs : Array Value} (h : NoL cs) : NoLl cs.toList := by
  intro v hv z e
  obtain ⟨i, hi⟩ := List.getElem?_of_mem hv
  rw [Array.getElem?_toList] at hi
  subst e
  exact h i z hi
theorem NoLl.app {xs ys : List Value} (h : NoLl xs) (h' : NoLl ys) : NoLl (xs ++ ys) := fun v hv => (List.mem_append.1 hv).elim (h v) (h' v)
theorem NoLl.take {xs : List Value} (h : NoLl xs) (k : Nat) : NoLl (xs.take k) := fun v hv => h v (List.mem_of_mem_take hv)
theorem NoLl.drop {xs : List Value} (h : NoLl xs) (k : Nat) : NoLl (xs.drop k) := fun v hv => h v (List.mem_of_mem_drop hv)
theorem NoLl.nil : NoLl [] := fun v hv => by cases hv
theorem NoLl.zeros {z : Array Value} (h : NoLl z.toList) (n : Nat) : NoLl (Builtin.zeroCells z n).toList := by
  intro v hv
  unfold Builtin.zeroCells at hv
  rw [Array.toList_map, List.mem_map] at hv
  obtain ⟨i, hi, rfl⟩ := hv
  have hlt : i < n * z.size := by simpa using hi
  have hz : 0 < z.size := Nat.pos_of_ne_zero (fun e => by rw [e] at hlt; omega)
  have hm := Nat.mod_lt i hz
  rw [getElem!_pos z _ hm]
  exact h _ (by rw [Array.mem_toList_iff]; exact Array.getElem_mem hm)
section
variable {w W W' : World} {bs : List (Nat × Array Value × Nat)} {rs : List (Option Addr × Nat × Nat × List Nat)} {g t : Nat} {cs cs' : Array Value}
theorem St.sub (h : St w W ((g, cs, t) :: bs) rs) : St w W bs rs := ⟨h.bel, fun p hp => h.bk p (List.mem_cons_of_mem _ hp), (List.pairwise_cons.1 h.nd).2, h.rd⟩
theorem Below.setRow {B : Nat} {a W : World} (h : Below B a W) (hg : B ≤ g) : Below B a (W.setRow g cs) := by
  refine ⟨h.os, h.tape, h.output, ?_, fun k hk => ?_⟩
  · have : (W.setRow g cs).heap.size = W.heap.size := by simp [World.setRow]
    rw [this]; exact h.size
  · rw [setRow_other W g k cs (by omega)]; exact h.block k hk
theorem St.setRow (h : St w W ((g, cs, t) :: bs) rs) (hn : NoL cs') : St w (W.setRow g cs') ((g, cs', t) :: bs) rs := by
  obtain ⟨hb, hl, hw⟩ := h.bk (g, cs, t) List.mem_cons_self
  obtain ⟨hd, hp⟩ := List.pairwise_cons.1 h.nd
  refine ⟨Below.setRow h.bel hw, ?_, List.pairwise_cons.2 ⟨hd, hp⟩, ?_⟩
  · intro p hp
    rcases List.mem_cons.1 hp with rfl | hp
    · exact ⟨setRow_heap W g cs cs' t (0, 0) hb, hn, hw⟩
    · obtain ⟨q1, q2, q3⟩ := h.bk p (List.mem_cons_of_mem _ hp)
      exact ⟨q1.keep (setRow_other W g p.1 cs' (hd p hp).symm), q2, q3⟩
  · intro r hr
    have R := h.rd r hr
    refine ⟨R.len, R.cap, R.sm, ?_⟩
    rcases R.mem with h0 | ⟨bk, o, hA, hlt, hc⟩
    · exact .inl h0
    · rcases Nat.eq_zero_or_pos r.2.1 with hn0 | hn0
      · exact .inl hn0
      have hne : bk ≠ g := by
        rintro rfl
        have h1 := hc 0 hn0
        rw [Nat.add_zero, cell_of_row W bk o _ t (0, 0) hb] at h1
        exact hl _ _ h1
      refine .inr ⟨bk, o, hA, by simpa [World.setRow] using hlt, fun k hk => ?_⟩
      rw [World.cell?_of_block (setRow_other W g _ cs' hne)]
      exact hc k hk
end

/-- A slice of the call's own with n elements of so many cells each, whose cells are xs; its block stands ahead of the others. -/
def Apd (w W : World) (bs : List (Nat × Array Value × Nat)) (rs : List (Option Addr × Nat × Nat × List Nat)) (e size : Nat) (v : Value) (n : Nat) (xs : List Value) : Prop :=
  xs.length = n * size ∧ NoLl xs ∧ ((v = .slice none 0 0 ∧ n = 0 ∧ St w W bs rs) ∨ ∃ g cap cur, v = .slice (some ⟨g, 0, none⟩) n cap ∧ n ≤ cap ∧ cap ≤ maxLen ∧ cur.size = cap * size ∧ cur.toList.take (n * size) = xs ∧ St w W ((g, cur, e) :: bs) rs)
section
variable {w W W' : World} {bs : List (Nat × Array Value × Nat)} {rs : List (Option Addr × Nat × Nat × List Nat)} {e size : Nat} {v : Value} {n : Nat} {xs : List Value}
theorem Apd.nil_ (h : St w W bs rs) (e size : Nat) : Apd w W bs rs e size (.slice none 0 0) 0 [] := ⟨by simp, NoLl.nil, .inl ⟨rfl, rfl, h⟩⟩
theorem Apd.st (h : Apd w W bs rs e size v n xs) : St w W bs rs := by
  obtain ⟨_, _, h | ⟨g, cap, cur, _, _, _, _, _, h⟩⟩ := h
  · exact h.2.2
  · exact h.sub
theorem Apd.mp (h : Apd w W bs rs e size v n xs) {rs' : List (Option Addr × Nat × Nat × List Nat)} (f : ∀ bs', St w W bs' rs → St w W' bs' rs') : Apd w W' bs rs' e size v n xs := by
  obtain ⟨h1, h2, h | ⟨g, cap, cur, k1, k2, k3, k4, k5, h⟩⟩ := h
  · exact ⟨h1, h2, .inl ⟨h.1, h.2.1, f _ h.2.2⟩⟩
  · exact ⟨h1, h2, .inr ⟨g, cap, cur, k1, k2, k3, k4, k5, f _ h⟩⟩
theorem Apd.call (h : Apd w W bs rs e size v n xs) (hb : Below W.heap.size W W') : Apd w W' bs rs e size v n xs := h.mp fun _ S => S.call hb
theorem Apd.read (h : Apd w W bs rs e size v n xs) {A : Option Addr} {n' c : Nat} {ys : List Nat} (R : Rd W A n' c ys) : Apd w W bs ((A, n', c, ys) :: rs) e size v n xs := h.mp fun _ S => S.read R
theorem Apd.drew (h : Apd w W bs rs e size v n xs) : Apd w W.drew bs rs e size v n xs := h.mp fun _ S => S.drew
theorem St.swap {p q : Nat × Array Value × Nat} (h : St w W (p :: q :: bs) rs) : St w W (q :: p :: bs) rs := by
  obtain ⟨hd, hp⟩ := List.pairwise_cons.1 h.nd
  obtain ⟨hd', hp'⟩ := List.pairwise_cons.1 hp
  refine ⟨h.bel, fun r hr => h.bk r ?_, List.pairwise_cons.2 ⟨fun r hr => ?_, List.pairwise_cons.2 ⟨fun r hr => hd r (List.mem_cons_of_mem _ hr), hp'⟩⟩, h.rd⟩
  · rcases List.mem_cons.1 hr with rfl | hr
    · exact List.mem_cons_of_mem _ List.mem_cons_self
    · rcases List.mem_cons.1 hr with rfl | hr
      · exact List.mem_cons_self
      · exact List.mem_cons_of_mem _ (List.mem_cons_of_mem _ hr)
  · rcases List.mem_cons.1 hr with rfl | hr
    · exact (hd q List.mem_cons_self).symm
    · exact hd' r hr
theorem Apd.alloc (h : Apd w W bs rs e size v n xs) (cs : Array Value) (t : Nat) (hn : NoL cs) : Apd w (W.alloc (.cells cs t)) ((W.heap.size, cs, t) :: bs) rs e size v n xs := by
  obtain ⟨h1, h2, h | ⟨g, cap, cur, k1, k2, k3, k4, k5, h⟩⟩ := h
  · exact ⟨h1, h2, .inl ⟨h.1, h.2.1, h.2.2.alloc cs t hn⟩⟩
  · exact ⟨h1, h2, .inr ⟨g, cap, cur, k1, k2, k3, k4, k5, (h.alloc cs t hn).swap⟩⟩
theorem Apd.sub {p : Nat × Array Value × Nat} (h : Apd w W (p :: bs) rs e size v n xs) : Apd w W bs rs e size v n xs := by
  obtain ⟨h1, h2, h | ⟨g, cap, cur, k1, k2, k3, k4, k5, h⟩⟩ := h
  · exact ⟨h1, h2, .inl ⟨h.1, h.2.1, h.2.2.sub⟩⟩
  · exact ⟨h1, h2, .inr ⟨g, cap, cur, k1, k2, k3, k4, k5, h.swap.sub⟩⟩
/-- The cells of the slice. -/
theorem Apd.cells (h : Apd w W bs rs e size v n xs) (hn : 0 < n) : ∃ g cap, v = .slice (some ⟨g, 0, none⟩) n cap ∧ n ≤ cap ∧ g < W.heap.size ∧ ∀ j u, xs[j]? = some u → W.cell? ⟨g, j, none⟩ = some u := by
  obtain ⟨h1, h2, h | ⟨g, cap, cur, k1, k2, k3, k4, k5, h⟩⟩ := h
  · omega
  · have hb := (h.bk _ List.mem_cons_self).1
    refine ⟨g, cap, k1, k2, hb.lt, fun j u hu => hb.cell ?_⟩
    rw [← k5, List.getElem?_take] at hu
    split at hu
    · simpa using hu
    · cases hu
end
section
variable {w W : World} {bs bs' : List (Nat × Array Value × Nat)} {rs rs' : List (Option Addr × Nat × Nat × List Nat)} {e size : Nat} {v : Value} {n : Nat} {xs : List Value}
theorem St.prm (h : St w W bs rs) (p : bs.Perm bs') : St w W bs' rs :=
  ⟨h.bel, fun q hq => h.bk q (p.mem_iff.2 hq), (p.pairwise_iff (fun h e => h e.symm)).1 h.nd, h.rd⟩
theorem St.pickr (h : St w W bs rs) (js : List Nat) (hj : js.map (fun i => rs[i]?) = rs'.map some) : St w W bs rs' := by
  refine ⟨h.bel, h.bk, h.nd, fun r hr => ?_⟩
  have : some r ∈ js.map (fun i => rs[i]?) := by rw [hj]; exact List.mem_map_of_mem hr
  obtain ⟨i, _, hi⟩ := List.mem_map.1 this
  exact h.rd r (List.mem_of_getElem? hi)
/-- The block of such a slice, if there is one. -/
def OB (ob : List (Nat × Array Value × Nat)) (e size : Nat) (v : Value) (n : Nat) (xs : List Value) : Prop :=
  (v = .slice none 0 0 ∧ n = 0 ∧ ob = []) ∨ ∃ g cap cur, v = .slice (some ⟨g, 0, none⟩) n cap ∧ n ≤ cap ∧ cap ≤ maxLen ∧ cur.size = cap * size ∧ cur.toList.take (n * size) = xs ∧ ob = [(g, cur, e)]
theorem Apd.open_ (h : Apd w W bs rs e size v n xs) : ∃ ob, (xs.length = n * size ∧ NoLl xs ∧ OB ob e size v n xs) ∧ St w W (bs ++ ob) rs := by
  obtain ⟨h1, h2, h | ⟨g, cap, cur, k1, k2, k3, k4, k5, h⟩⟩ := h
  · exact ⟨[], ⟨h1, h2, .inl ⟨h.1, h.2.1, rfl⟩⟩, by rw [List.append_nil]; exact h.2.2⟩
  · exact ⟨[(g, cur, e)], ⟨h1, h2, .inr ⟨g, cap, cur, k1, k2, k3, k4, k5, rfl⟩⟩, h.prm (List.perm_append_comm (l₁ := [(g, cur, e)]))⟩
theorem Apd.close {ob : List (Nat × Array Value × Nat)} (h : xs.length = n * size ∧ NoLl xs ∧ OB ob e size v n xs) (S : St w W (bs ++ ob) rs) : Apd w W bs rs e size v n xs := by
  obtain ⟨h1, h2, ⟨rfl, rfl, rfl⟩ | ⟨g, cap, cur, k1, k2, k3, k4, k5, rfl⟩⟩ := h
  · exact ⟨h1, h2, .inl ⟨rfl, rfl, by rw [List.append_nil] at S; exact S⟩⟩
  · exact ⟨h1, h2, .inr ⟨g, cap, cur, k1, k2, k3, k4, k5, S.prm List.perm_append_comm⟩⟩
end
section
variable {P : Program} {w W : World} {bs : List (Nat × Array Value × Nat)} {rs : List (Option Addr × Nat × Nat × List Nat)} {e size : Nat} {v : Value} {n : Nat} {xs : List Value}
theorem Apd.run (t ty : TypeId) (i : TypeInfo) (z : Value) (bytes : Nat) (ht : P.underlying t = some (.slice e)) (hi : P.info? e = some i) (hz : i.zero = some z)
    (hsize : i.size = size) (hby : i.bytes = bytes) (hzs : z.cells.size = size) (hzn : NoLl z.cells.toList)
    (h : Apd w W bs rs e size v n xs) (a : Addr) (m c : Nat) (news : List Value) (hl : news.length = m * size) (hnews : ∀ j u, news[j]? = some u → W.cell? (a.add j) = some u) (h1 : ∀ u ∈ news, u.oneCell' = true) (hnn : NoLl news) (hm : 0 < m)
    (h63 : n + m ≤ maxLen) (hbytes : (n + m) * bytes ≤ 140737488355328) :
    ∃ v' W', (Builtin.append_ #[t, t] ty #[v, .slice (some a) m c]).run P W = .ok v' W' ∧ Apd w W' bs rs e size v' (n + m) (xs ++ news) := by
  subst hsize
  subst hby
  have hsmall : n + m ≤ 9223372036854775807 := by simp only [maxLen] at h63; omega
  obtain ⟨hx, hxn, h⟩ := h
  have hlen : (xs ++ news).length = (n + m) * i.size := by rw [List.length_append, hx, hl, Nat.add_mul]
  have hall := hxn.app hnn
  have made : ∀ (old : Nat) (bs' : List (Nat × Array Value × Nat)), St w W bs' rs → ∀ bs, (∀ W' p, St w W' (p :: bs') rs → St w W' (p :: bs) rs) → old < n + m →
      Apd w (W.drew.alloc (.cells (xs.toArray ++ news.toArray ++ Builtin.zeroCells z.cells (grownCap W (n + m) old e - (n + m))) e)) bs rs e i.size (.slice (some ⟨W.heap.size, 0, none⟩) (n + m) (grownCap W (n + m) old e)) (n + m) (xs ++ news) := by
    intro old bs' S bs hbs ho
    have hge := grownCap_ge W (n + m) old e
    have hcm := grownCap_le_maxLen W (n + m) old e h63
    have hno : NoL (xs.toArray ++ news.toArray ++ Builtin.zeroCells z.cells (grownCap W (n + m) old e - (n + m))) := by
      have := (hall.app (NoLl.zeros hzn (grownCap W (n + m) old e - (n + m)))).arr
      rwa [show ((xs ++ news) ++ (Builtin.zeroCells z.cells (grownCap W (n + m) old e - (n + m))).toList).toArray = xs.toArray ++ news.toArray ++ Builtin.zeroCells z.cells (grownCap W (n + m) old e - (n + m)) from Array.ext' (by simp)] at this
    refine ⟨hlen, hall, .inr ⟨W.heap.size, _, _, rfl, hge, hcm, ?_, ?_, hbs _ _ (S.drew.alloc _ e hno)⟩⟩
    · simp only [Array.size_append, List.size_toArray, size_zeroCells, hzs, hx, hl, ← Nat.add_mul]
      congr 1
      omega
    · simp only [Array.toList_append, List.append_assoc]
      rw [← List.append_assoc, ← hlen]
      exact List.take_left
  rcases h with ⟨rfl, rfl, S⟩ | ⟨g, cap, cur, rfl, hnc, hcm, hcs, htake, S⟩
  · have hx0 : xs = [] := List.eq_nil_of_length_eq_zero (by simpa using hx)
    subst hx0
    have hr := run_append_nil (P := P) W t ty e i z ht hi hz a m c news hl hnews hm (by omega) (by have hb := hbytes; simp only [Nat.zero_add] at hb; omega)
    have hgr := made 0 bs S bs (fun _ _ h => h) (by omega)
    simp only [Nat.zero_add, List.nil_append, Array.empty_append] at hgr ⊢
    exact ⟨_, _, hr, hgr⟩
  · have hb := (S.bk _ List.mem_cons_self).1
    by_cases hroom : n + m ≤ cap
    · have hfit : n * i.size + news.length ≤ cur.size := by rw [hl, hcs, ← Nat.add_mul]; exact Nat.mul_le_mul_right _ hroom
      have hr := run_append_room (P := P) W t ty e i ht hi g n cap cur hb a m c news hl hnews h1 hroom hfit
      have hcn := (S.bk _ List.mem_cons_self).2.1
      refine ⟨_, _, hr, hlen, hall, .inr ⟨g, cap, _, rfl, hroom, hcm, ?_, ?_, S.setRow (((hcn.lst.take _).app hnn).app (hcn.lst.drop _)).arr⟩⟩
      · simp only [List.size_toArray, List.length_append, List.length_take, List.length_drop, Array.length_toList]
        omega
      · rw [htake, ← hlen]
        exact List.take_left
    · have holds : ∀ j u, xs[j]? = some u → W.cell? ((⟨g, 0, none⟩ : Addr).add j) = some u := by
        intro j u hu
        have hadd : (⟨g, 0, none⟩ : Addr).add j = ⟨g, j, none⟩ := by unfold Addr.add; split <;> simp_all
        rw [hadd]
        refine hb.cell ?_
        rw [← htake, List.getElem?_take] at hu
        split at hu
        · simpa using hu
        · cases hu
      have hr := run_append_grow (P := P) W t ty e i z ht hi hz ⟨g, 0, none⟩ n cap xs hx holds a m c news hl hnews (by omega) (by omega) (growslice_fits (by omega) hbytes)
      exact ⟨_, _, hr, made cap _ S bs (fun W' p h => h.swap.sub) (by omega)⟩
/-- v = append(v, x..) where the walk stands. -/
theorem Apd.wp {ops : Array Oper} {rest : List Oper} {o : Oper} {a : Act} {Q : Exit → Act → World → Prop} (hgd : o.guard = none) (s x : Operand) (t : TypeId)
    (ho : o.op = .call { callee := .builtin .append, args := #[s, x], argTypes := #[t, t] })
    (i : TypeInfo) (z : Value) (bytes : Nat) (ht : P.underlying t = some (.slice e)) (hi : P.info? e = some i) (hz : i.zero = some z)
    (hsize : i.size = size) (hby : i.bytes = bytes) (hzs : z.cells.size = size) (hzn : NoLl z.cells.toList)
    (hs : a.eval s = v) (h : Apd w W bs rs e size v n xs) (ad : Addr) (m c : Nat) (news : List Value) (hx : a.eval x = .slice (some ad) m c) (hl : news.length = m * size) (hnews : ∀ j u, news[j]? = some u → W.cell? (ad.add j) = some u) (h1 : ∀ u ∈ news, u.oneCell' = true) (hnn : NoLl news) (hm : 0 < m)
    (h63 : n + m ≤ maxLen) (hbytes : (n + m) * bytes ≤ 140737488355328)
    (hk : ∀ v' W', Apd w W' bs rs e size v' (n + m) (xs ++ news) → wpList P ops Q rest (a.put o.dst v') W') : wpList P ops Q (o :: rest) a W := by
  refine wpList_plain hgd fun _ hK => ?_
  obtain ⟨v', W', hr, h2⟩ := Apd.run (P := P) t o.type i z bytes ht hi hz hsize hby hzs hzn h ad m c news hl hnews h1 hnn hm h63 hbytes
  unfold Oper.wp execOp
  simp only [ho, resolve, invoke, builtin, Sem.run_bind, Sem.run_pure, Result.andThen_ok, List.map_toArray, List.map_cons, List.map_nil, hs, hx, hr]
  exact hK _ _ (hk v' W' h2)
end
end Go.Proofs.YtlflaalefilplaaDoor
namespace Go.Proofs.YtlflaalefilplaaDoor
open Go.RowKit
set_option linter.unusedVariables false

abbrev GBk := Nat × Array Value × Nat
abbrev GRd := Option Addr × Nat × Nat × List Nat
/-- How an element lies in memory: its cells; what else is asked of a world (At), or of what a call knows (In). -/
structure Cod (α : Type) where
  sz : Nat
  cs : α → List Value
  At : World → α → Prop
  In : World → List GBk → List GRd → α → Prop
  pos : 0 < sz
  len : ∀ a, (cs a).length = sz
  noL : ∀ a, NoLl (cs a)
  one : ∀ a, ∀ v ∈ cs a, v.oneCell' = true
  bel : ∀ {W W' : World} {a : α}, At W a → Below W.heap.size W W' → At W' a
  mono : ∀ {w : World} {bs bs' : List GBk} {rs rs' : List GRd} {a : α}, In w bs rs a → (∀ p ∈ bs, p ∈ bs') → (∀ p ∈ rs, p ∈ rs') → In w bs' rs' a
  at_ : ∀ {w W : World} {bs : List GBk} {rs : List GRd} {a : α}, St w W bs rs → In w bs rs a → At W a
  old : ∀ {w : World} {a : α} (bs : List GBk) (rs : List GRd), At w a → In w bs rs a
/-- The cells of a list. -/
def Cod.all {α : Type} (C : Cod α) (L : List α) : List Value := L.flatMap C.cs
section
variable {α β : Type} {C : Cod α} {w W W' : World} {A : Option Addr} {n c e g t : Nat} {L : List α} {bs bs' : List GBk} {rs rs' : List GRd}
theorem all_len (C : Cod α) (L : List α) : (C.all L).length = L.length * C.sz := by
  induction L with
  | nil => simp [Cod.all]
  | cons x l ih =>
    have : C.all (x :: l) = C.cs x ++ C.all l := rfl
    rw [this, List.length_append, C.len, ih, List.length_cons, Nat.add_mul, Nat.one_mul, Nat.add_comm]
theorem all_app (C : Cod α) (L M : List α) : C.all (L ++ M) = C.all L ++ C.all M := List.flatMap_append
theorem all_noL (C : Cod α) (L : List α) : NoLl (C.all L) := by
  intro v hv
  obtain ⟨x, _, hx⟩ := List.mem_flatMap.1 hv
  exact C.noL x v hx
theorem all_one (C : Cod α) (x : α) : C.all [x] = C.cs x := by show C.cs x ++ [] = _; rw [List.append_nil]
theorem all_get {x : α} (C : Cod α) : ∀ {L : List α} {i : Nat}, L[i]? = some x → ∀ k v, (C.cs x)[k]? = some v → (C.all L)[i * C.sz + k]? = some v
  | [], _, h, _, _, _ => by simp at h
  | y :: l, 0, h, k, v, hv => by
    have : y = x := by simpa using h
    subst this
    have hk := (List.getElem?_eq_some_iff.1 hv).1
    show (C.cs y ++ C.all l)[0 * C.sz + k]? = _
    rw [Nat.zero_mul, Nat.zero_add, List.getElem?_append_left hk]; exact hv
  | y :: l, i + 1, h, k, v, hv => by
    have h : l[i]? = some x := by simpa using h
    show (C.cs y ++ C.all l)[(i + 1) * C.sz + k]? = _
    rw [List.getElem?_append_right (by rw [C.len, Nat.add_mul, Nat.one_mul]; omega), C.len, show (i + 1) * C.sz + k - C.sz = i * C.sz + k by rw [Nat.add_mul, Nat.one_mul]; omega]
    exact all_get C h k v hv
/-- A slice that reads as a list. -/
structure LR (C : Cod α) (W : World) (A : Option Addr) (n : Nat) (L : List α) : Prop where
  len : L.length = n
  mem : n = 0 ∨ ∃ b o, A = some ⟨b, o, none⟩ ∧ b < W.heap.size ∧ ∀ (i : Nat) (x : α), L[i]? = some x → ∀ k v, (C.cs x)[k]? = some v → W.cell? ⟨b, o + i * C.sz + k, none⟩ = some v
  el : ∀ x ∈ L, C.At W x
theorem LR.bel (h : LR C W A n L) (hb : Below W.heap.size W W') : LR C W' A n L := by
  refine ⟨h.len, ?_, fun x hx => C.bel (h.el x hx) hb⟩
  rcases h.mem with h0 | ⟨b, o, hA, hlt, hc⟩
  · exact .inl h0
  · exact .inr ⟨b, o, hA, Nat.lt_of_lt_of_le hlt hb.size, fun i x hi k v hv => (World.cell?_of_block (hb.block b hlt)).trans (hc i x hi k v hv)⟩
theorem LR.get (h : LR C W A n L) {i : Nat} (hi : i < n) : ∃ b o x, A = some ⟨b, o, none⟩ ∧ L[i]? = some x ∧ x ∈ L ∧ C.At W x ∧ ∀ k v, (C.cs x)[k]? = some v → W.cell? ⟨b, o + i * C.sz + k, none⟩ = some v := by
  have hl := h.len
  rcases h.mem with h0 | ⟨b, o, hA, _, hc⟩
  · omega
  · have e : L[i]? = some L[i] := List.getElem?_eq_getElem (by omega)
    have hm : L[i] ∈ L := List.getElem_mem _
    exact ⟨b, o, L[i], hA, e, hm, h.el _ hm, hc i _ e⟩
theorem LR.nil_ (C : Cod α) (W : World) (A : Option Addr) : LR C W A 0 [] := ⟨rfl, .inl rfl, fun x hx => by cases hx⟩
/-- A part of such a slice. -/
theorem LR.sub {b o m : Nat} (h : LR C W (some ⟨b, o, none⟩) n L) (hm : m ≤ n) : LR C W (some ⟨b, o + m * C.sz, none⟩) (n - m) (L.drop m) := by
  refine ⟨by rw [List.length_drop, h.len], ?_, fun x hx => h.el x (List.mem_of_mem_drop hx)⟩
  rcases h.mem with h0 | ⟨b', o', hA, hlt, hc⟩
  · exact .inl (by omega)
  · injection hA with hA; injection hA with h1 h2; subst h1; subst h2
    refine .inr ⟨b, o + m * C.sz, rfl, hlt, fun i x hi k v hv => ?_⟩
    rw [List.getElem?_drop] at hi
    have := hc (m + i) x hi k v hv
    rwa [Nat.add_mul, ← Nat.add_assoc] at this
theorem LR.take_ {m : Nat} (h : LR C W A n L) (hm : m ≤ n) : LR C W A m (L.take m) := by
  refine ⟨by rw [List.length_take, h.len]; omega, ?_, fun x hx => h.el x (List.mem_of_mem_take hx)⟩
  rcases h.mem with h0 | ⟨b, o, hA, hlt, hc⟩
  · exact .inl (by omega)
  · refine .inr ⟨b, o, hA, hlt, fun i x hi k v hv => hc i x ?_ k v hv⟩
    rw [List.getElem?_take] at hi
    split at hi
    · exact hi
    · cases hi
/-- A slice that lies where a call knows of it. -/
structure LI (C : Cod α) (w : World) (bs : List GBk) (rs : List GRd) (A : Option Addr) (n : Nat) (L : List α) : Prop where
  len : L.length = n
  mem : n = 0 ∨ (∃ b o, A = some ⟨b, o, none⟩ ∧ b < w.heap.size ∧ ∀ (i : Nat) (x : α), L[i]? = some x → ∀ k v, (C.cs x)[k]? = some v → w.cell? ⟨b, o + i * C.sz + k, none⟩ = some v) ∨
    ∃ (g : Nat) (cur : Array Value) (t : Nat), A = some ⟨g, 0, none⟩ ∧ (g, cur, t) ∈ bs ∧ ∀ (j : Nat) v, (C.all L)[j]? = some v → cur[j]? = some v
  el : ∀ x ∈ L, C.In w bs rs x
theorem LI.mono (h : LI C w bs rs A n L) (hb : ∀ p ∈ bs, p ∈ bs') (hr : ∀ p ∈ rs, p ∈ rs') : LI C w bs' rs' A n L := by
  refine ⟨h.len, ?_, fun x hx => C.mono (h.el x hx) hb hr⟩
  rcases h.mem with h0 | h1 | ⟨g, cur, t, h1, h2, h3⟩
  · exact .inl h0
  · exact .inr (.inl h1)
  · exact .inr (.inr ⟨g, cur, t, h1, hb _ h2, h3⟩)
theorem LI.lr (h : LI C w bs rs A n L) (S : St w W bs rs) : LR C W A n L := by
  refine ⟨h.len, ?_, fun x hx => C.at_ S (h.el x hx)⟩
  rcases h.mem with h0 | ⟨b, o, hA, hlt, hc⟩ | ⟨g, cur, t, h1, h2, h3⟩
  · exact .inl h0
  · exact .inr ⟨b, o, hA, Nat.lt_of_lt_of_le hlt S.bel.size, fun i x hi k v hv => (World.cell?_of_block (S.bel.block b hlt)).trans (hc i x hi k v hv)⟩
  · have hb := (S.bk _ h2).1
    refine .inr ⟨g, 0, h1, hb.lt, fun i x hi k v hv => ?_⟩
    rw [Nat.zero_add]
    exact hb.cell (h3 _ _ (all_get (i := i) C hi k v hv))
theorem LI.old (bs : List GBk) (rs : List GRd) (h : LR C w A n L) : LI C w bs rs A n L := by
  refine ⟨h.len, ?_, fun x hx => C.old bs rs (h.el x hx)⟩
  rcases h.mem with h0 | h1
  · exact .inl h0
  · exact .inr (.inl h1)
theorem LI.nil_ (C : Cod α) (w : World) (bs : List GBk) (rs : List GRd) (A : Option Addr) : LI C w bs rs A 0 [] := ⟨rfl, .inl rfl, fun x hx => by cases hx⟩
theorem LI.blk (hb : (g, (C.all L).toArray, t) ∈ bs) (hr : ∀ x ∈ L, C.In w bs rs x) : LI C w bs rs (some ⟨g, 0, none⟩) L.length L :=
  ⟨rfl, .inr (.inr ⟨g, _, t, rfl, hb, fun j v hv => by rw [List.getElem?_toArray]; exact hv⟩), hr⟩
/-- A slice as an element. -/
structure Sl (α : Type) where
  A : Option Addr
  c : Nat
  L : List α
def Sl.v {α : Type} (s : Sl α) : Value := .slice s.A s.L.length s.c
def slC (C : Cod α) : Cod (Sl α) where
  sz := 1
  cs s := [s.v]
  At W s := LR C W s.A s.L.length s.L ∧ s.L.length ≤ s.c
  In w bs rs s := LI C w bs rs s.A s.L.length s.L ∧ s.L.length ≤ s.c
  pos := by decide
  len _ := rfl
  noL s := fun v hv z e => by rw [List.mem_singleton.1 hv] at e; cases e
  one s := fun v hv => by rw [List.mem_singleton.1 hv]; rfl
  bel h hb := ⟨h.1.bel hb, h.2⟩
  mono h hb hr := ⟨h.1.mono hb hr, h.2⟩
  at_ S h := ⟨h.1.lr S, h.2⟩
  old bs rs h := ⟨LI.old bs rs h.1, h.2⟩
/-- Elements of one cell, without more. -/
def cellC (f : α → Value) (h1 : ∀ a z, f a ≠ .int .u32 z) (h2 : ∀ a, (f a).oneCell' = true) : Cod α where
  sz := 1
  cs a := [f a]
  At _ _ := True
  In _ _ _ _ := True
  pos := by decide
  len _ := rfl
  noL a := fun v hv z e => by rw [List.mem_singleton.1 hv] at e; exact h1 a z e
  one a := fun v hv => by rw [List.mem_singleton.1 hv]; exact h2 a
  bel _ _ := trivial
  mono _ _ _ := trivial
  at_ _ _ := trivial
  old _ _ _ := trivial
def boolC : Cod Bool := cellC Value.bool (fun _ _ e => by cases e) (fun _ => rfl)
def intC : Cod Int := cellC (Value.int .i64) (fun _ _ e => by cases e) (fun _ => rfl)
def strC : Cod ByteArray := cellC Value.string (fun _ _ e => by cases e) (fun _ => rfl)
/-- A slice of limbs. -/
structure Nl where
  A : Option Addr
  n : Nat
  c : Nat
  x : List Nat
def limC : Cod Nl where
  sz := 1
  cs s := [.slice s.A s.n s.c]
  At W s := Rd W s.A s.n s.c s.x
  In w bs rs s := (s.A, s.n, s.c, s.x) ∈ rs ∨ Rd w s.A s.n s.c s.x
  pos := by decide
  len _ := rfl
  noL s := fun v hv z e => by rw [List.mem_singleton.1 hv] at e; cases e
  one s := fun v hv => by rw [List.mem_singleton.1 hv]; rfl
  bel h hb := h.below hb
  mono h _ hr := h.imp (hr _) id
  at_ S h := h.elim (fun h => S.rd _ h) (fun h => h.below S.bel)
  old _ _ h := .inr h
/-- One behind the other. -/
def proC (C : Cod α) (D : Cod β) : Cod (α × β) where
  sz := C.sz + D.sz
  cs a := C.cs a.1 ++ D.cs a.2
  At W a := C.At W a.1 ∧ D.At W a.2
  In w bs rs a := C.In w bs rs a.1 ∧ D.In w bs rs a.2
  pos := Nat.add_pos_left C.pos _
  len a := by rw [List.length_append, C.len, D.len]
  noL a := (C.noL a.1).app (D.noL a.2)
  one a := fun v hv => (List.mem_append.1 hv).elim (C.one a.1 v) (D.one a.2 v)
  bel h hb := ⟨C.bel h.1 hb, D.bel h.2 hb⟩
  mono h hb hr := ⟨C.mono h.1 hb hr, D.mono h.2 hb hr⟩
  at_ S h := ⟨C.at_ S h.1, D.at_ S h.2⟩
  old bs rs h := ⟨C.old bs rs h.1, D.old bs rs h.2⟩
/-- Seen through a map. -/
def Cod.via (C : Cod β) (f : α → β) : Cod α where
  sz := C.sz
  cs a := C.cs (f a)
  At W a := C.At W (f a)
  In w bs rs a := C.In w bs rs (f a)
  pos := C.pos
  len a := C.len (f a)
  noL a := C.noL (f a)
  one a := C.one (f a)
  bel h hb := C.bel h hb
  mono h hb hr := C.mono h hb hr
  at_ S h := C.at_ S h
  old bs rs h := C.old bs rs h
/-- A number with a sign; a fraction, as they lie in memory. -/
structure Iw where
  b : Bool
  x : Nl
def iwC : Cod Iw := (proC boolC limC).via fun a => (a.b, a.x)
structure Rw where
  b : Bool
  x : Nl
  y : Nl
def rwC : Cod Rw := (proC boolC (proC limC limC)).via fun a => (a.b, a.x, a.y)
def Rw.vs (r : Rw) : Array Value := #[.bool r.b, .slice r.x.A r.x.n r.x.c, .slice r.y.A r.y.n r.y.c]
theorem rw_cs (r : Rw) : rwC.cs r = [.bool r.b, .slice r.x.A r.x.n r.x.c, .slice r.y.A r.y.n r.y.c] := rfl
end
section
variable {α : Type} {C : Cod α} {w W W' : World} {A : Option Addr} {n c e g t : Nat} {L : List α} {bs bs' : List GBk} {rs rs' : List GRd} {v : Value}
/-- A slice of the call's own that reads as a list, and may grow. -/
def Gro (C : Cod α) (w W : World) (bs : List GBk) (rs : List GRd) (e : Nat) (v : Value) (L : List α) : Prop :=
  Apd w W bs rs e C.sz v L.length (C.all L) ∧ ∀ x ∈ L, C.In w bs rs x
theorem Gro.nil_ (C : Cod α) (S : St w W bs rs) (e : Nat) : Gro C w W bs rs e (.slice none 0 0) [] := ⟨Apd.nil_ S e _, fun x hx => by cases hx⟩
theorem Gro.st (h : Gro C w W bs rs e v L) : St w W bs rs := h.1.st
/-- What is known of it when it has been made: its block is one of those at hand. -/
theorem Gro.done (h : Gro C w W bs rs e v L) : ∃ A c bs', v = .slice A L.length c ∧ St w W bs' rs ∧ (∀ p ∈ bs, p ∈ bs') ∧ LI C w bs' rs A L.length L := by
  obtain ⟨⟨h1, h2, ⟨rfl, h3, S⟩ | ⟨g, cap, cur, rfl, h3, h4, h5, h6, S⟩⟩, hx⟩ := h
  · have : L = [] := List.length_eq_zero_iff.1 h3
    subst this
    exact ⟨none, 0, bs, rfl, S, fun _ h => h, LI.nil_ _ _ _ _ _⟩
  · refine ⟨_, _, _, rfl, S, fun _ h => List.mem_cons_of_mem _ h, rfl, .inr (.inr ⟨g, cur, e, rfl, List.mem_cons_self, fun j u hu => ?_⟩), fun x hxm => C.mono (hx x hxm) (fun _ h => List.mem_cons_of_mem _ h) (fun _ h => h)⟩
    rw [← h6, List.getElem?_take] at hu
    split at hu
    · simpa using hu
    · cases hu
theorem Gro.lr (h : Gro C w W bs rs e v L) : ∃ A c, v = .slice A L.length c ∧ LR C W A L.length L := by
  obtain ⟨A, c, bs', hv, S, _, hl⟩ := h.done
  exact ⟨A, c, hv, hl.lr S⟩
theorem Gro.call (h : Gro C w W bs rs e v L) (hb : Below W.heap.size W W') : Gro C w W' bs rs e v L := ⟨h.1.call hb, h.2⟩
theorem Gro.drew (h : Gro C w W bs rs e v L) : Gro C w W.drew bs rs e v L := ⟨h.1.drew, h.2⟩
theorem Gro.read {A : Option Addr} {n c : Nat} {ys : List Nat} (h : Gro C w W bs rs e v L) (R : Rd W A n c ys) : Gro C w W bs ((A, n, c, ys) :: rs) e v L := ⟨h.1.read R, fun x hx => C.mono (h.2 x hx) (fun _ h => h) (fun _ h => List.mem_cons_of_mem _ h)⟩
theorem Gro.alloc (h : Gro C w W bs rs e v L) (cs : Array Value) (t : Nat) (hn : NoL cs) : Gro C w (W.alloc (.cells cs t)) ((W.heap.size, cs, t) :: bs) rs e v L := ⟨h.1.alloc cs t hn, fun x hx => C.mono (h.2 x hx) (fun _ h => List.mem_cons_of_mem _ h) (fun _ h => h)⟩
theorem Gro.sub {p : GBk} (h : Gro C w W (p :: bs) rs e v L) (hx : ∀ x ∈ L, C.In w bs rs x) : Gro C w W bs rs e v L := ⟨h.1.sub, hx⟩
/-- v = append(v, x) where the walk stands: the element lies in a block of its own. -/
theorem Gro.wp {P : Program} {ops : Array Oper} {rest : List Oper} {o : Oper} {a : Act} {Q : Exit → Act → World → Prop} (hgd : o.guard = none) (s x : Operand) (ty : TypeId)
    (ho : o.op = .call { callee := .builtin .append, args := #[s, x], argTypes := #[ty, ty] })
    (z : Value) (bytes : Nat) (ht : P.underlying ty = some (.slice e)) (hi : (P.info? e).map (fun i => (i.zero, i.size, i.bytes)) = some (some z, C.sz, bytes))
    (hzs : z.cells.size = C.sz) (hzn : NoLl z.cells.toList) (hs : a.eval s = v) (h : Gro C w W bs rs e v L)
    (g : Nat) (y : α) {t : Nat} (hx : a.eval x = .slice (some ⟨g, 0, none⟩) 1 1) (hc : Cb W g (C.cs y).toArray t) (hy : C.In w bs rs y)
    (hn : (L.length + 1) * bytes ≤ 140737488355328) (h63 : L.length + 1 ≤ maxLen)
    (hk : ∀ v' W', Gro C w W' bs rs e v' (L ++ [y]) → wpList P ops Q rest (a.put o.dst v') W') : wpList P ops Q (o :: rest) a W := by
  obtain ⟨i0, hi0, hzz⟩ := Option.map_eq_some_iff.1 hi
  simp only [Prod.mk.injEq] at hzz
  obtain ⟨hz0, hz1, hz2⟩ := hzz
  refine Apd.wp hgd s x ty ho i0 z bytes ht hi0 hz0 hz1 hz2 hzs hzn hs h.1 ⟨g, 0, none⟩ 1 1 (C.cs y) hx (by rw [C.len, Nat.one_mul]) ?_ (C.one y) (C.noL y) (by decide) h63 hn fun v' W' hA => hk v' W' ⟨?_, fun x hx => ?_⟩
  · intro j u hu
    have hadd : (⟨g, 0, none⟩ : Addr).add j = ⟨g, j, none⟩ := by unfold Addr.add; split <;> simp_all
    rw [hadd]
    exact hc.cell (by rw [List.getElem?_toArray]; exact hu)
  · rw [all_app, all_one, List.length_append]; exact hA
  · rcases List.mem_append.1 hx with hx | hx
    · exact h.2 x hx
    · rw [List.mem_singleton.1 hx]; exact hy
/-- A block that holds a list: what is laid of its place i; its cells after a store of an element. -/
theorem St_gcl (h : St w W ((g, (C.all L).toArray, t) :: bs) rs) {i : Nat} {x : α} (hi : L[i]? = some x) : (∀ k v, (C.cs x)[k]? = some v → W.cell? ⟨g, i * C.sz + k, none⟩ = some v) ∧ ∀ j, W.frozen? ⟨g, j, none⟩ = false := by
  have hb := (h.bk _ List.mem_cons_self).1
  exact ⟨fun k v hv => hb.cell (by rw [List.getElem?_toArray]; exact all_get (i := i) C hi k v hv), fun j => hb.frozen j⟩
theorem all_inv (C : Cod α) : ∀ {L : List α} {j : Nat} {u : Value}, (C.all L)[j]? = some u → ∃ i x k, L[i]? = some x ∧ (C.cs x)[k]? = some u ∧ j = i * C.sz + k
  | [], j, u, h => by simp [Cod.all] at h
  | y :: l, j, u, h => by
    have h : (C.cs y ++ C.all l)[j]? = some u := h
    rcases Nat.lt_or_ge j C.sz with hj | hj
    · rw [List.getElem?_append_left (by rw [C.len]; exact hj)] at h
      exact ⟨0, y, j, rfl, h, by omega⟩
    · rw [List.getElem?_append_right (by rw [C.len]; exact hj), C.len] at h
      obtain ⟨i, x, k, h1, h2, h3⟩ := all_inv C h
      exact ⟨i + 1, x, k, by simpa using h1, h2, by rw [Nat.add_mul, Nat.one_mul]; omega⟩
/-- v = append(v, l..) where the walk stands: l reads as a list. -/
theorem Gro.wpm {P : Program} {ops : Array Oper} {rest : List Oper} {o : Oper} {a : Act} {Q : Exit → Act → World → Prop} (hgd : o.guard = none) (s x : Operand) (ty : TypeId)
    (ho : o.op = .call { callee := .builtin .append, args := #[s, x], argTypes := #[ty, ty] })
    (z : Value) (bytes : Nat) (ht : P.underlying ty = some (.slice e)) (hi : (P.info? e).map (fun i => (i.zero, i.size, i.bytes)) = some (some z, C.sz, bytes))
    (hzs : z.cells.size = C.sz) (hzn : NoLl z.cells.toList) (hs : a.eval s = v) (h : Gro C w W bs rs e v L)
    (M : List α) (B : Option Addr) (c' : Nat) (hx : a.eval x = .slice B M.length c') (hM : LR C W B M.length M) (hMi : ∀ y ∈ M, C.In w bs rs y)
    (hn : (L.length + M.length) * bytes ≤ 140737488355328) (h63 : L.length + M.length ≤ maxLen)
    (hk : ∀ v' W', Gro C w W' bs rs e v' (L ++ M) → wpList P ops Q rest (a.put o.dst v') W') : wpList P ops Q (o :: rest) a W := by
  obtain ⟨i0, hi0, hzz⟩ := Option.map_eq_some_iff.1 hi
  simp only [Prod.mk.injEq] at hzz
  obtain ⟨hz0, hz1, hz2⟩ := hzz
  rcases Nat.eq_zero_or_pos M.length with h0 | h0
  · have hM0 : M = [] := List.length_eq_zero_iff.1 h0
    subst hM0
    have hx : a.eval x = .slice B 0 c' := hx
    obtain ⟨A, n, cp, hv, hle⟩ : ∃ A n cp, v = .slice A n cp ∧ n ≤ cp := by
      obtain ⟨⟨_, _, ⟨hv, _, _⟩ | ⟨g, cap, cur, hv, hh, _⟩⟩, _⟩ := h
      · exact ⟨_, _, _, hv, Nat.le_refl _⟩
      · exact ⟨_, _, _, hv, hh⟩
    have hr : (Builtin.append_ #[ty, ty] o.type #[v, .slice B 0 c']).run P W = .ok v W := by
      rw [hv]
      refine run_append_nothing W ty ty o.type e i0 ht hi0 A n cp hle _ ⟨.inl ⟨e, ht⟩, fun w' => rfl, ?_, ?_, by simp, by simp⟩ <;> cases B <;> simp [Builtin.firstCells, loadCells, loadCellsFrom]
    refine wpList_plain hgd fun _ hK => ?_
    unfold Oper.wp
    simp [execOp, ho, resolve, invoke, builtin, hs, hx, hr, Result.andThen]
    exact hK _ _ (hk v W (by rw [List.append_nil]; exact h))
  · rcases hM.mem with hm | ⟨b, q, hB, hlt, hc⟩
    · omega
    · subst hB
      refine Apd.wp hgd s x ty ho i0 z bytes ht hi0 hz0 hz1 hz2 hzs hzn hs h.1 ⟨b, q, none⟩ M.length c' (C.all M) hx (all_len C M) ?_ ?_ (all_noL C M) h0 h63 hn fun v' W' hA => hk v' W' ⟨?_, fun y hy => ?_⟩
      · intro j u hu
        obtain ⟨i, y, k, h1, h2, h3⟩ := all_inv C hu
        have hadd : (⟨b, q, none⟩ : Addr).add j = ⟨b, q + i * C.sz + k, none⟩ := by unfold Addr.add; split <;> simp_all <;> omega
        rw [hadd]
        exact hc i y h1 k u h2
      · intro u hu
        obtain ⟨y, _, hy⟩ := List.mem_flatMap.1 hu
        exact C.one y u hy
      · rw [all_app, List.length_append]; exact hA
      · rcases List.mem_append.1 hy with hy | hy
        · exact h.2 y hy
        · exact hMi y hy
/-- Cells, one behind the other, in a row and in a world. -/
def rset (cs : Array Value) (o : Nat) : Nat → List Value → Array Value
  | _, [] => cs
  | k, v :: vs => rset (cs.setIfInBounds (o + k) v) o (k + 1) vs
def wset (W : World) (g o : Nat) : Nat → List Value → World
  | _, [] => W
  | k, v :: vs => wset (W.setCell ⟨g, o + k, none⟩ v) g o (k + 1) vs
theorem St_wset {cs : Array Value} (g o : Nat) : ∀ (vs : List Value) (k : Nat) {W : World} {cs : Array Value}, NoLl vs → St w W ((g, cs, t) :: bs) rs → St w (wset W g o k vs) ((g, rset cs o k vs, t) :: bs) rs
  | [], _, _, _, _, h => h
  | v :: vs, k, W, cs, hn, h => St_wset (cs := cs) g o vs (k + 1) (fun u hu => hn u (List.mem_cons_of_mem _ hu)) (h.set 0 (o + k) v rfl (hn v List.mem_cons_self))
theorem rset_list (o : Nat) : ∀ (vs : List Value) (k : Nat) (xs : List Value), o + k + vs.length ≤ xs.length → (rset xs.toArray o k vs) = (xs.take (o + k) ++ vs ++ xs.drop (o + k + vs.length)).toArray
  | [], k, xs, h => by simp [rset]
  | v :: vs, k, xs, h => by
    rw [List.length_cons] at h
    have e : (xs.toArray.setIfInBounds (o + k) v) = (xs.set (o + k) v).toArray := by simp
    rw [rset, e, rset_list o vs (k + 1) _ (by rw [List.length_set]; omega)]
    congr 1
    have hlt : o + k < xs.length := by omega
    rw [List.set_eq_take_append_cons_drop, if_pos hlt]
    have hl : (xs.take (o + k)).length = o + k := by rw [List.length_take]; omega
    have e2 : (xs.take (o + k) ++ v :: xs.drop (o + k + 1)).take (o + (k + 1)) = xs.take (o + k) ++ [v] := by
      rw [List.take_append, List.take_of_length_le (by omega), hl, show o + (k + 1) - (o + k) = 1 by omega]; rfl
    have e3 : (xs.take (o + k) ++ v :: xs.drop (o + k + 1)).drop (o + (k + 1) + vs.length) = xs.drop (o + k + (v :: vs).length) := by
      rw [List.drop_append, List.drop_eq_nil_of_le (by omega), List.nil_append, hl, show o + (k + 1) + vs.length - (o + k) = vs.length + 1 by omega, List.drop_succ_cons, List.drop_drop, List.length_cons]
      congr 1; omega
    rw [e2, e3]
    simp
theorem all_set (C : Cod α) : ∀ {L : List α} {i : Nat} (x : α), i < L.length → C.all (L.set i x) = (C.all L).take (i * C.sz) ++ C.cs x ++ (C.all L).drop (i * C.sz + C.sz)
  | [], _, _, h => by simp at h
  | y :: l, 0, x, _ => by
    show C.cs x ++ C.all l = (C.cs y ++ C.all l).take (0 * C.sz) ++ C.cs x ++ (C.cs y ++ C.all l).drop (0 * C.sz + C.sz)
    rw [Nat.zero_mul, Nat.zero_add, List.take_zero, List.nil_append, List.drop_append, List.drop_eq_nil_of_le (by rw [C.len]; exact Nat.le_refl _), C.len, Nat.sub_self]; rfl
  | y :: l, i + 1, x, h => by
    have ih := all_set C (L := l) (i := i) x (by simpa using h)
    show C.cs y ++ C.all (l.set i x) = (C.cs y ++ C.all l).take ((i + 1) * C.sz) ++ C.cs x ++ (C.cs y ++ C.all l).drop ((i + 1) * C.sz + C.sz)
    have e : (i + 1) * C.sz = C.sz + i * C.sz := by rw [Nat.add_mul, Nat.one_mul, Nat.add_comm]
    rw [ih, e, List.take_append, List.drop_append, C.len, List.take_of_length_le (l := C.cs y) (by rw [C.len]; omega), show (C.cs y).drop (C.sz + i * C.sz + C.sz) = [] from List.drop_eq_nil_of_le (by rw [C.len]; omega), List.nil_append]
    rw [show C.sz + i * C.sz - C.sz = i * C.sz by omega, show C.sz + i * C.sz + C.sz - C.sz = i * C.sz + C.sz by omega]
    simp
/-- An element is stored at place i of a block that holds a list. -/
theorem St_gset (h : St w W ((g, (C.all L).toArray, t) :: bs) rs) {i : Nat} (x : α) (hi : i < L.length) : St w (wset W g (i * C.sz) 0 (C.cs x)) ((g, (C.all (L.set i x)).toArray, t) :: bs) rs := by
  have h1 := St_wset (cs := (C.all L).toArray) g (i * C.sz) (C.cs x) 0 (C.noL x) h
  have hle : i * C.sz + C.sz ≤ L.length * C.sz := by
    have := Nat.mul_le_mul_right C.sz (show i + 1 ≤ L.length by omega)
    rwa [Nat.add_mul, Nat.one_mul] at this
  rw [rset_list (i * C.sz) (C.cs x) 0 (C.all L) (by rw [all_len, C.len]; omega)] at h1
  rw [all_set C x hi]
  rw [Nat.add_zero, C.len] at h1
  exact h1
/-- What make leaves, as a list of one element. -/
theorem all_rep (C : Cod α) (x : α) (n : Nat) : madeCells (C.cs x).toArray (n * C.sz) = (C.all (List.replicate n x)).toArray := by
  apply Array.ext'
  apply List.ext_getElem?
  intro j
  have hp := C.pos
  rcases Nat.lt_or_ge j (n * C.sz) with hj | hj
  · have h3 := Nat.div_add_mod j C.sz
    have hm := Nat.mod_lt j hp
    have hi : j / C.sz < n := (Nat.div_lt_iff_lt_mul hp).2 hj
    have hk : j % C.sz < (C.cs x).length := by rw [C.len]; exact hm
    have := all_get (L := List.replicate n x) (i := j / C.sz) C (by rw [List.getElem?_replicate, if_pos hi]) (j % C.sz) _ (List.getElem?_eq_getElem hk)
    rw [List.toList_toArray]
    rw [show j / C.sz * C.sz + j % C.sz = j by rw [Nat.mul_comm]; exact h3] at this
    rw [this]
    unfold madeCells
    simp only [Array.toList_map, Array.toList_range, List.getElem?_map, List.size_toArray, C.len]
    rw [List.getElem?_range hj]
    simp [List.getElem?_eq_getElem hk]
  · rw [List.getElem?_eq_none (by simpa [size_madeCells] using hj), List.getElem?_eq_none (by rw [List.toList_toArray, all_len, List.length_replicate]; exact hj)]
end
end Go.Proofs.YtlflaalefilplaaDoor
