/- A region whose order is open, where what is known of the memory holds until the late stores. -/
import Derived.Test.YtlflaalefilplaaDoorM27
namespace Go.Proofs.YtlflaalefilplaaDoor
open Go.RowKit RQ
set_option linter.unusedVariables false

section
variable {P : Program} {ops : Array Oper} {Q : Exit → Act → World → Prop} {S : World → Prop} {K : List Nat}
/-- None of the late ones has come up. -/
def early (K : List Nat) (L : Array Bool) : Bool := K.all fun k => !(L.getD k false)
def wpL (P : Program) (ops : Array Oper) (Q : Exit → Act → World → Prop) (S : World → Prop) (K : List Nat) : Nat → Array Bool → Act → World → Prop
  | 0, L, a, w => Region.ready .any ops L = [] ∧ Q .normal a w
  | n + 1, L, a, w => (Region.ready .any ops L = [] → Q .normal a w) ∧
    ∀ i ∈ Region.ready .any ops L, wpOp P ops Q i (fun a' w' => (early K (L.setIfInBounds i true) = true → S w') ∧ wpL P ops Q S K n (L.setIfInBounds i true) a' w') a w
theorem wpAny_of_L : ∀ (fuel : Nat) (L : Array Bool) (a : Act) (w : World), wpL P ops Q S K fuel L a w → wpAny P .any ops Q fuel L a w
  | 0, _, _, _, h => h
  | n + 1, _, _, _, h => ⟨h.1, fun i hi => wpOp_mono (fun a' w' h' => wpAny_of_L n _ a' w' h'.2) (h.2 i hi)⟩
/-- Whatever has come up had all before it that it waits for. -/
def clos (ops : Array Oper) (L : Array Bool) : Prop := ∀ j o, ops[j]? = some o → L.getD j false = true → ∀ e ∈ o.after, Region.binds .any e = true → L.getD e.on false = true
def closB (ops : Array Oper) (L : Array Bool) : Bool := (List.range ops.size).all fun j => !(L.getD j false) || match ops[j]? with
  | some o => o.after.toList.all fun e => !(Region.binds .any e) || L.getD e.on false
  | none => true
theorem clos_of {L : Array Bool} (h : closB ops L = true) : clos ops L := by
  intro j o ho hj e he hb
  have hlt : j < ops.size := (Array.getElem?_eq_some_iff.1 ho).1
  have := List.all_eq_true.1 h j (List.mem_range.2 hlt)
  rw [ho, hj] at this
  simp only [Bool.not_true, Bool.false_or] at this
  have := List.all_eq_true.1 this e (by simpa using he)
  rw [hb] at this
  simpa using this
/-- k waits for i, perhaps by way of others. -/
def waits (ops : Array Oper) (i : Nat) : Nat → Nat → Bool
  | 0, _ => false
  | n + 1, k => match ops[k]? with
    | some o => o.after.toList.any fun e => Region.binds .any e && (e.on == i || waits ops i n e.on)
    | none => false
theorem waits_done {i : Nat} {L : Array Bool} (hc : clos ops L) : ∀ (n k : Nat) (o : Oper), ops[k]? = some o → (∀ e ∈ o.after, Region.binds .any e = true → L.getD e.on false = true) → waits ops i n k = true → L.getD i false = true := by
  intro n
  induction n with
  | zero => intro k o _ _ h; cases h
  | succ n ih =>
    intro k o ho hd h
    unfold waits at h
    rw [ho] at h
    obtain ⟨e, he, h⟩ := List.any_eq_true.1 h
    rw [Bool.and_eq_true, Bool.or_eq_true] at h
    obtain ⟨hb, h⟩ := h
    have hde := hd e (by simpa using he) hb
    rcases h with h | h
    · rw [← eq_of_beq h]; exact hde
    · cases hn : ops[e.on]? with
      | none => cases n with
        | zero => cases h
        | succ n => unfold waits at h; rw [hn] at h; cases h
      | some o' => exact ih e.on o' hn (fun e' he' hb' => hc _ o' hn hde e' he' hb') h
theorem clos_set {j : Nat} {L : Array Bool} (hc : clos ops L) (hj : j ∈ Region.ready .any ops L) : clos ops (L.setIfInBounds j true) := by
  intro k o ho hk e he hb
  obtain ⟨hju, oj, hoj, hall⟩ := mem_ready.1 hj
  by_cases hkj : j = k
  · subst hkj
    rw [ho] at hoj
    obtain rfl := Option.some.inj hoj
    exact getD_set_true (hall e he hb)
  · have : L.getD k false = true := by
      rwa [getD_set_ne false hkj] at hk
    exact getD_set_true (hc k o ho this e he hb)
theorem early_set {j : Nat} {L : Array Bool} (h : early K L = true) (hj : j ∉ K) : early K (L.setIfInBounds j true) = true := by
  refine List.all_eq_true.2 fun k hk => ?_
  have := List.all_eq_true.1 h k hk
  rwa [getD_set_ne false (show j ≠ k from fun e => hj (by rw [e]; exact hk))]
theorem wpL_first {i : Nat} {oi : Oper} {v : Value} (hi : ops[i]? = some oi) (hsel : ∀ (j : Nat) (o : Oper) cs b, ops[j]? = some o → o.op ≠ .select cs b)
    (hQ : ∀ c a w, Q (.panic c) (a.put oi.dst v) w → Q (.panic c) a w) (hiK : i ∉ K) (hw : ∀ k ∈ K, ∃ n, waits ops i n k = true) :
    ∀ (fuel : Nat) (L : Array Bool) (a : Act) (w : World), clos ops L → early K L = true →
      (∀ j oj, ops[j]? = some oj → j ≠ i → L.getD j true = false → (∀ e ∈ oj.after, Region.binds .any e = true → e.on ≠ i) → oi.apart ops oj = true) →
      i ∈ Region.ready .any ops L → YieldsIf P ops S oi v a → S w →
      wpL P ops Q S K fuel (L.setIfInBounds i true) (a.put oi.dst v) w → wpL P ops Q S K (fuel + 1) L a w := by
  intro fuel
  induction fuel with
  | zero =>
    intro L a w _ _ _ hr hy hS H
    refine ⟨fun h => (by rw [h] at hr; cases hr), fun j hj => ?_⟩
    by_cases hji : j = i
    · subst hji; exact hy.wpOp hi hS ⟨fun _ => hS, H⟩
    · have := ready_mono hj hji
      rw [H.1] at this
      cases this
  | succ fuel ih =>
    intro L a w hcl hea hfree hr hy hS H
    refine ⟨fun h => (by rw [h] at hr; cases hr), fun j hj => ?_⟩
    by_cases hji : j = i
    · subst hji; exact hy.wpOp hi hS ⟨fun _ => hS, H⟩
    · have h1 := H.2 j (ready_mono hj hji)
      obtain ⟨hjun, oj, hoj, hall⟩ := mem_ready.1 hj
      have hiun : ¬ L.getD i false = true := fun h1 => by
        have h0 := (mem_ready.1 hr).1
        rcases Nat.lt_or_ge i L.size with h' | h'
        · simp [h'] at h0 h1; rw [h0] at h1; cases h1
        · simp [Array.getElem?_eq_none h'] at h1
      have hnot : ∀ e ∈ oj.after, Region.binds .any e = true → e.on ≠ i := fun e he hb heq => by
        have h1 := hall e he hb
        rw [heq] at h1
        exact hiun h1
      have hjK : j ∉ K := fun hk => by
        obtain ⟨n, hn⟩ := hw j hk
        exact hiun (waits_done hcl n j oj hoj hall hn)
      have h2 := wpOp_putIf hoj (hfree j oj hoj hji hjun hnot) (fun cs b => hsel i oi cs b hi) (fun cs b => hsel j oj cs b hoj) hQ hy h1
      have hfree' : ∀ k ok, ops[k]? = some ok → k ≠ i → (L.setIfInBounds j true).getD k true = false →
          (∀ e ∈ ok.after, Region.binds .any e = true → e.on ≠ i) → oi.apart ops ok = true := fun k ok hk hki hun hno => by
        refine hfree k ok hk hki ?_ hno
        by_cases hjk : j = k
        · subst hjk; exact hjun
        · rw [getD_set_ne true hjk] at hun; exact hun
      have hej : early K (L.setIfInBounds j true) = true := early_set hea hjK
      refine wpOp_mono (fun a' w' h3 => ⟨fun _ => h3.2.1 (by rw [Array.setIfInBounds_comm _ _ (Ne.symm hji)]; exact early_set hej hiK), ih (L.setIfInBounds j true) a' w' (clos_set hcl hj) hej hfree' (ready_mono hr (Ne.symm hji)) h3.1 (h3.2.1 (by rw [Array.setIfInBounds_comm _ _ (Ne.symm hji)]; exact early_set hej hiK)) ?_⟩) h2
      rw [Array.setIfInBounds_comm _ _ hji]
      exact h3.2.2
/-- What is left of such a region. -/
def Wl (P : Program) (ops : Array Oper) (Q : Exit → Act → World → Prop) (S : World → Prop) (K : List Nat) (L : Array Bool) (a : Act) (w : World) : Prop := wpL P ops Q S K (lft L) L a w
theorem Wl.start {id : Nat} {a : Act} {w : World} (S : World → Prop) (K : List Nat) (hm : P.follows .mixedOrders = true) (h : Wl P ops Q S K (Array.replicate ops.size false) a w.drew) : (Code.region id ops true).wp P Q a w := by
  unfold Wl at h
  rw [show lft (Array.replicate ops.size false) = ops.size by simp [lft]] at h
  exact wp_region_any hm (wpAny_of_L _ _ _ _ h)
def lateOk (ops : Array Oper) (K : List Nat) (L : Array Bool) (i : Nat) : Bool :=
  Region.noSelect ops && Region.free .any ops L i && (Region.ready .any ops L).contains i && closB ops L && early K L && !(K.contains i) && K.all (waits ops i 20)
/-- A step that only looks. -/
theorem Wl.t {L : Array Bool} {a : Act} {w : World} {i : Nat} {oi : Oper} {v : Value} (dst : Option Nat) (hi : ops[i]? = some oi) (hd : oi.dst = dst := by rfl) (hc : lateOk ops K L i = true := by kernel_rfl) (hw : Region.wanted oi (yielded ops a.tmps) = true := by kernel_rfl)
    (hQ : ∀ c a w, Q (.panic c) (Act.put a dst v) w → Q (.panic c) a w := by exact fun _ _ _ h => h) (hy : ∀ w, S w → (execOp a.eval oi).run P w = .ok (.value v) w) (hS : S w)
    (h : Wl P ops Q S K (L.setIfInBounds i true) (a.put dst v) w) : Wl P ops Q S K L a w := by
  simp only [lateOk, Bool.and_eq_true, Bool.not_eq_true'] at hc
  obtain ⟨⟨⟨⟨⟨⟨c1, c2⟩, c3⟩, c4⟩, c5⟩, c6⟩, c7⟩ := hc
  subst hd
  have hm : i ∈ Region.ready .any ops L := by simpa using c3
  unfold Wl at *
  rw [lft_set (mem_ready.1 hm).1]
  exact wpL_first hi (Region.noSelect_spec c1) hQ (by simpa using c6) (fun k hk => ⟨20, List.all_eq_true.1 c7 k hk⟩) _ _ _ _ (clos_of c4) c5 (Region.free_spec hi c2) hm (.inl ⟨hw, hy⟩) hS h
theorem Wl.one {i : Nat} {o : Oper} {L : Array Bool} {a : Act} {w : World} (hr : (Region.ready .any ops L == [i]) = true) (ho : ops[i]? = some o) (hw : Region.wanted o (yielded ops a.tmps) = true)
    (h : ∀ K' : Act → World → Prop, Shut (∀ a w, (early K (L.setIfInBounds i true) = true → S w) → Wl P ops Q S K (L.setIfInBounds i true) a w → K' a w) → Oper.wp P o a w K' Q) : Wl P ops Q S K L a w := by
  have hr : Region.ready .any ops L = [i] := by simpa using hr
  have hm : i ∈ Region.ready .any ops L := by rw [hr]; exact List.mem_singleton.2 rfl
  unfold Wl at *
  rw [lft_set (mem_ready.1 hm).1]
  refine ⟨fun h0 => (by rw [h0] at hr; cases hr), fun j hj => ?_⟩
  rw [hr] at hj
  have := List.mem_singleton.1 hj
  subst this
  exact wpOp_step ho (fun K' hK => by rw [if_pos hw]; exact h K' (fun a w hS hW => hK a w ⟨hS, hW⟩))
/-- The operation that comes next, before the late ones; a late one. -/
theorem Wl.g {i : Nat} {o : Oper} {L : Array Bool} {a : Act} {w : World} (ho : ops[i]? = some o) (hr : (Region.ready .any ops L == [i]) = true) (hw : Region.wanted o (yielded ops a.tmps) = true)
    (h : ∀ K' : Act → World → Prop, Shut (∀ a w, S w → Wl P ops Q S K (L.setIfInBounds i true) a w → K' a w) → Oper.wp P o a w K' Q) : Wl P ops Q S K L a w := by
  refine Wl.one hr ho hw fun K' hK => h K' ?_
  exact fun a w hS hW => hK.out a w (fun _ => hS) hW
theorem Wl.s {i : Nat} {o : Oper} {L : Array Bool} {a : Act} {w : World} (ho : ops[i]? = some o) (hr : (Region.ready .any ops L == [i]) = true) (hw : Region.wanted o (yielded ops a.tmps) = true) (hk : early K (L.setIfInBounds i true) = false)
    (h : ∀ K' : Act → World → Prop, Shut (∀ a w, Wl P ops Q S K (L.setIfInBounds i true) a w → K' a w) → Oper.wp P o a w K' Q) : Wl P ops Q S K L a w := by
  refine Wl.one hr ho hw fun K' hK => h K' ?_
  exact fun a w hW => hK.out a w (fun h => by rw [hk] at h; cases h) hW
theorem Wl.done {L : Array Bool} {a : Act} {w : World} (hr : Region.ready .any ops L = []) (h : Q .normal a w) : Wl P ops Q S K L a w := by
  unfold Wl
  cases lft L with
  | zero => exact ⟨hr, h⟩
  | succ n => exact ⟨fun _ => h, by rw [hr]; simp⟩
end
end Go.Proofs.YtlflaalefilplaaDoor
namespace Go.Proofs.YtlflaalefilplaaDoor
open Go.RowKit RQ
set_option linter.unusedVariables false

theorem fquoQ (q r : Rat) (A : Option Addr) (n c : Nat) (D : Option Addr) (m d : Nat) (A' : Option Addr) (n' c' : Nat) (D' : Option Addr) (m' d' : Nat) (W : World) (X : RR W A n c D m d q) (Y : RR W A' n' c' D' m' d' r) (hs : Rs q 99) (hs' : Rs r 99) (h0 : r ≠ 0) : Calls Tryd.prog 75 #[.agg #[.bool (ng q.num), .slice A n c, .slice D m d], .agg #[.bool (ng r.num), .slice A' n' c', .slice D' m' d']] W (RetR (q / r) W) := by
  have l := X.lens hs
  have l' := Y.lens hs'
  have := Fquo_any (ng q.num) A n c _ D m d _ (ng r.num) A' n' c' _ D' m' d' _ W X.n X.d Y.n Y.d l.1 l.2 l'.1 l'.2 (by rw [rv_z]; exact h0)
  rwa [rv_z, rv_z] at this
theorem fnegQ (q : Rat) (A : Option Addr) (n c : Nat) (D : Option Addr) (m d : Nat) (W : World) (X : RR W A n c D m d q) (hs : Rs q 99) : Calls Tryd.prog 73 #[.agg #[.bool (ng q.num), .slice A n c, .slice D m d]] W (RetR (-q) W) := by
  have l := X.lens hs
  have := Fneg_any (ng q.num) A n c _ D m d _ W X.n X.d l.1 l.2
  rwa [rv_z] at this
/-- A matrix of the call's own comes back. -/
def RowsO (M : List (List Rat)) (w : World) (e : Ending) (w' : World) : Prop := ∃ v bs rs L, e = .returned v ∧ Gro (slC rwC) w w' bs rs 33 v L ∧ (∀ s ∈ L, RowI bs rs s) ∧ MatV L M
set_option maxRecDepth 100000 in
set_option maxHeartbeats 4000000 in
theorem takeM_any (M : List (List Rat)) (L : List (Sl Rw)) (A : Option Addr) (n c : Nat) (w : World) (h : LR (slC rwC) w A n L) (hM : MatV L M) (hs : ∀ r ∈ M, r.length ≤ 1000 ∧ ∀ q ∈ r, Rs q 99) (hn : n ≤ 1000) : Calls Tryd.prog 71 #[.slice A n c] w (RowsO M w) := by
  have hML : M.length = n := by have := hM.len; rw [h.len] at this; omega
  have hb := Lib.hid hn
  replace h := Lib.hid h
  replace hM := Lib.hid hM
  replace hs := Lib.hid hs
  have S := Lib.hid (St.new w)
  replace hML := Lib.hid hML
  clear hn
  go_enter Tryd.func71, Tryd.ntmps71
  go_wp2
  go_loopw [3, 4] (fun rv iv wr => ∃ (i : Nat) (bs : List GBk) (rs : List GRd) (R : List (Sl Rw)), i ≤ n ∧ iv = .int .i64 i ∧ Gro (slC rwC) w wr bs rs 33 rv R ∧ (∀ s ∈ R, RowI bs rs s) ∧ MatV R (M.take i)) (fun _ iv _ => n - (intOf iv).toNat)
  case atStart => exact ⟨0, [], [], [], Nat.zero_le _, rfl, Gro.nil_ (slC rwC) S.out _, fun s hs => (by cases hs), rfl⟩
  case round =>
    clear S
    obtain ⟨i, bs, rs, R, hin, rfl, GR, hR, hV⟩ := hrel
    by_cases hlt : i < n
    · have g1 : (i : Int) < (n : Int) := by omega
      have g2 : (0 : Int) ≤ (i : Int) := by omega
      have hih := Lib.hid hlt
      obtain ⟨b, o, x, rfl, hx, _, e0, hrow⟩ := mat_get (h.out.bel GR.st.bel) hlt
      obtain ⟨q, hq, hqm, hxq⟩ := map_at hM.out hx
      have hRl : Hid (R.length = i) := Lib.hid (by have := hV.len; rw [List.length_take] at this; have := hML.out; omega)
      have hT : Hid (Calls Tryd.prog 83 #[.slice x.A x.L.length x.c] wr (RowO q wr)) := Lib.hid (takeL_any q x.L x.A x.L.length x.c wr hrow hxq (hs.out q hqm).2 (by have := congrArg List.length hxq; rw [List.length_map, List.length_map] at this; have := (hs.out q hqm).1; omega))
      have hV2 : Hid (∀ y : Sl Rw, y.L.map rwV = q.map qV → MatV (R ++ [y]) (M.take (i + 1))) := Lib.hid fun y hy => by
        rw [List.take_add_one, hq]
        exact hV.snoc hy
      replace GR := Lib.hid GR
      replace hR := Lib.hid hR
      replace hrow := Lib.hid hrow
      clear hlt hin hx hq hqm hxq hV
      go_wp2_with fail
      refine hT.out.mono ?_
      rintro e w4 ⟨A3, c3, Lr, bs3, rs3, rfl, S3, hI3, hL3⟩
      have GJ := GR.out.joinr S3
      have hR2 : Hid (∀ s ∈ R, RowI (bs ++ bs3) (rs ++ rs3) s) := Lib.hid fun s hs => (hR.out s hs).mono (fun p hp => List.mem_append_left _ hp) (fun p hp => List.mem_append_left _ hp)
      have hI4 : Hid (RowI (bs ++ bs3) (rs ++ rs3) ⟨A3, c3, Lr⟩) := Lib.hid (hI3.mono (fun p hp => List.mem_append_right _ hp) (fun p hp => List.mem_append_right _ hp))
      have hyV := Lib.hid (hV2.out ⟨A3, c3, Lr⟩ hL3)
      have GA := Lib.hid (GJ.alloc #[.slice A3 Lr.length c3] 33 (noLof rfl))
      clear GJ GR S3 hI3 hL3 hT hV2 hR e0
      go_wp2_with (at_builtin; refine Gro.wp rfl (.tmp 11) (.tmp 17) 22 rfl (.slice none 0 0) 24 Tryd.underlying22 (by kernel_rfl) rfl (fun v hv z e => by simp [Value.cells] at hv; subst hv; cases e) rfl GA.out w4.heap.size ⟨A3, c3, Lr⟩ rfl ((GA.out.st).cb 0 rfl) ((hI4.out.mono (fun p hp => List.mem_cons_of_mem _ hp) (fun p hp => hp)).in_ _) (by have := hRl.out; have := hih.out; have := hb.out; omega) (by have := hRl.out; have := hih.out; have := hb.out; unfold maxLen; omega) ?_)
      intro v' w5 G5
      have hL6 : Hid (∀ s ∈ R ++ [⟨A3, c3, Lr⟩], RowI (bs ++ bs3) (rs ++ rs3) s) := Lib.hid fun s hs => by
        rcases List.mem_append.1 hs with hs | hs
        · exact hR2.out s hs
        · rw [List.mem_singleton.1 hs]; exact hI4.out
      have G6 := Lib.hid (Gro.sub G5 (fun x hx => (hL6.out x hx).in_ _))
      clear G5 GA hR2 hI4 hRl
      have hlt := hih.out
      have hbb := hb.out
      go_wp2
      go_roundw
      case rel => exact ⟨i + 1, _, _, _, by omega, by go_num, G6.out, hL6.out, hyV.out⟩
      case measure => simp [intOf]; omega
    · obtain rfl : n = i := by omega
      rw [List.take_of_length_le (by rw [hML.out]; exact Nat.le_refl _)] at hV
      have hres := Lib.hid (show RowsO M w (.returned _) wr from ⟨_, bs, rs, R, rfl, GR, hR, hV⟩)
      clear GR hR hV hin hlt
      go_wp2
      go_ret
      exact hres.out
theorem columnsM_any (L : List (Sl Rw)) (A : Option Addr) (n c k : Nat) (w : World) (h : LR (slC rwC) w A n L) (hk : ∀ s ∈ L, s.L.length = k) (n0 : 1 ≤ n) : Calls Tryd.prog 72 #[.slice A n c] w fun e w' => e = .returned (.int .i64 k) ∧ w' = w := by
  obtain ⟨b, o, x, rfl, hx, hm, e0, _⟩ := mat_get h (show 0 < n by omega)
  rw [hk x hm] at e0
  rw [Nat.add_zero] at e0
  have g1 : (0 : Int) < (n : Int) := by omega
  have g2 : ¬ (n : Int) = 0 := by omega
  clear h hk hx hm n0
  go_enter Tryd.func72, Tryd.ntmps72
  go_wp2
  go_ret
  exact ⟨rfl, rfl⟩
end Go.Proofs.YtlflaalefilplaaDoor
namespace Go.Proofs.YtlflaalefilplaaDoor
open Go.RowKit RQ
set_option linter.unusedVariables false

set_option maxRecDepth 100000 in
set_option maxHeartbeats 4000000 in
theorem formed_yes (L : List (Sl Rw)) (A : Option Addr) (n c k : Nat) (w : World) (h : LR (slC rwC) w A n L) (hk : ∀ s ∈ L, s.L.length = k) (n0 : 1 ≤ n) (n1 : n ≤ 96) (k0 : 1 ≤ k) (k1 : k ≤ 96) : Calls Tryd.prog 53 #[.slice A n c] w fun e w' => e = .returned (.bool true) ∧ Below w.heap.size w w' := by
  obtain ⟨b, o, x0, rfl, hx0, hm0, z0, _⟩ := mat_get h (show 0 < n by omega)
  rw [hk x0 hm0] at z0
  rw [Nat.add_zero] at z0
  have g1 : ¬ ((96 : Int) < (n : Int)) := by omega
  have g3 : ¬ ((k : Int) < 1) := by omega
  have g4 : ¬ ((96 : Int) < (k : Int)) := by omega
  have g5 : (0 : Int) < (n : Int) := by omega
  have g8 : ¬ (n = 0) := by omega
  have hb := Lib.hid n1
  replace h := Lib.hid h
  replace hk := Lib.hid hk
  replace z0 := Lib.hid z0
  clear hx0 hm0 n0 n1 k0 k1
  go_enter Tryd.func53, Tryd.ntmps53
  go_wp2
  go_loopw [3] (fun iv wr => ∃ i : Nat, i ≤ n ∧ iv = .int .i64 i ∧ Below w.heap.size w wr) (fun iv _ => n - (intOf iv).toNat)
  case atStart => exact ⟨0, Nat.zero_le _, rfl, Below.refl _ _⟩
  case round =>
    obtain ⟨i, hin, rfl, B⟩ := hrel
    rename World => W0
    by_cases hlt : i < n
    · have g6 : (i : Int) < (n : Int) := by omega
      have g7 : (0 : Int) ≤ (i : Int) := by omega
      have hih := Lib.hid hlt
      have H1 := h.out.bel B
      obtain ⟨b', o', x, hA, hx, hm, e0, _⟩ := mat_get H1 hlt
      obtain ⟨rfl, rfl⟩ : b = b' ∧ o = o' := by simp only [Option.some.injEq, Addr.mk.injEq] at hA; exact ⟨hA.1, hA.2.1⟩
      rw [hk.out x hm] at e0
      have z1 := bel_cell B z0.out
      replace e0 := Lib.hid e0
      replace z1 := Lib.hid z1
      replace B := Lib.hid B
      clear hlt hin hx hm hA H1
      go_upto_region 6 with fail
      have hbase := Lib.hid (St.new W0)
      refine RW.begin (Z := []) (S := (fun W => Below W0.heap.size W0 W)) (by kernel_rfl) ?_ hbase.out ?_
      · exact ⟨by kernel_rfl, zis_nil, by decide, by decide, nol_nil, (fun _ _ h => h.bel)⟩
      intro hzk
      refine RW.t (i := 0) (v := .slice (some ⟨b, o, none⟩) n c) (some 13) at0 (hy := fun _ _ => by kernel_rfl) (h := ?_)
      refine RW.t (i := 1) (v := .int .i64 i) (some 14) at1 (hy := fun _ _ => by kernel_rfl) (h := ?_)
      refine RW.t (i := 2) (v := .pointer (some ⟨b, o + i, none⟩)) (some 15) at2 (hy := fun _ _ => by go_simp) (h := ?_)
      refine RW.t (i := 3) (v := .slice x.A k x.c) (some 16) at3 (hy := fun W hS => by (have k0 := bel_cell hS e0.out; clear hS; go_simp)) (h := ?_)
      refine RW.t (i := 4) (v := .int .i64 k) (some 17) at4 (hy := fun _ _ => by go_simp) (h := ?_)
      refine RW.t (i := 5) (v := .bool false) (some 18) at5 (hy := fun _ _ => by go_simp) (h := ?_)
      refine RW.t (i := 6) (v := .bool false) (some 19) at6 (hy := fun _ _ => by kernel_rfl) (h := ?_)
      refine RW.t (i := 7) (v := .slice (some ⟨b, o, none⟩) n c) (some 20) at7 (hy := fun _ _ => by kernel_rfl) (h := ?_)
      refine RW.t (i := 8) (v := .int .i64 i) (some 21) at8 (hy := fun _ _ => by kernel_rfl) (h := ?_)
      refine RW.t (i := 9) (v := .pointer (some ⟨b, o + i, none⟩)) (some 22) at9 (hy := fun _ _ => by go_simp) (h := ?_)
      refine RW.t (i := 10) (v := .slice x.A k x.c) (some 23) at10 (hy := fun W hS => by (have k0 := bel_cell hS e0.out; clear hS; go_simp)) (h := ?_)
      refine RW.t (i := 11) (v := .int .i64 k) (some 24) at11 (hy := fun _ _ => by go_simp) (h := ?_)
      refine RW.t (i := 12) (v := .bool false) (some 25) at12 (hy := fun _ _ => by go_simp) (h := ?_)
      refine RW.t (i := 13) (v := .bool false) (some 26) at13 (hy := fun _ _ => by go_simp) (h := ?_)
      refine RW.t (i := 14) (v := .bool false) (some 27) at14 (hy := fun _ _ => by kernel_rfl) (h := ?_)
      refine RW.t (i := 15) (v := .slice (some ⟨b, o, none⟩) n c) (some 28) at15 (hy := fun _ _ => by kernel_rfl) (h := ?_)
      refine RW.t (i := 16) (v := .int .i64 i) (some 29) at16 (hy := fun _ _ => by kernel_rfl) (h := ?_)
      refine RW.t (i := 17) (v := .pointer (some ⟨b, o + i, none⟩)) (some 30) at17 (hy := fun _ _ => by go_simp) (h := ?_)
      refine RW.t (i := 18) (v := .slice x.A k x.c) (some 31) at18 (hy := fun W hS => by (have k0 := bel_cell hS e0.out; clear hS; go_simp)) (h := ?_)
      refine RW.t (i := 19) (v := .int .i64 k) (some 32) at19 (hy := fun _ _ => by go_simp) (h := ?_)
      refine RW.t (i := 20) (v := .slice (some ⟨b, o, none⟩) n c) (some 33) at20 (hy := fun _ _ => by kernel_rfl) (h := ?_)
      refine RW.t (i := 21) (v := .pointer (some ⟨b, o, none⟩)) (some 34) at21 (hy := fun _ _ => by go_simp) (h := ?_)
      refine RW.t (i := 22) (v := .slice x0.A k x0.c) (some 35) at22 (hy := fun W hS => by (have k0 := bel_cell hS z1.out; clear hS; go_simp)) (h := ?_)
      refine RW.t (i := 23) (v := .int .i64 k) (some 36) at23 (hy := fun _ _ => by go_simp) (h := ?_)
      refine RW.t (i := 24) (v := .bool false) (some 37) at24 (hy := fun _ _ => by go_simp) (h := ?_)
      refine RW.t (i := 25) (v := .bool false) (some 38) at25 (hy := fun _ _ => by go_simp) (h := ?_)
      refine RW.tail hzk.out (by kernel_rfl) ?_
      intro gs' w5 hgs' hS Sb
      obtain rfl := len0 hgs'
      simp only [mark, fill, Act.put, List.setIfInBounds_toArray, List.set_cons_zero, List.set_cons_succ]
      refine Wk.done (by kernel_rfl) ?_
      have T := Lib.hid (B.out.trans (hS.mono B.out.size))
      clear Sb hgs' hzk hbase hS B
      try go_simp
      have hlt := hih.out
      have hbb := hb.out
      go_wp2
      go_roundw
      case rel => exact ⟨i + 1, by omega, by go_num, T.out⟩
      case measure => simp [intOf]; omega
    · obtain rfl : n = i := by omega
      replace B := Lib.hid B
      clear hin hlt
      go_wp2
      go_ret
      exact ⟨rfl, B.out⟩
end Go.Proofs.YtlflaalefilplaaDoor
