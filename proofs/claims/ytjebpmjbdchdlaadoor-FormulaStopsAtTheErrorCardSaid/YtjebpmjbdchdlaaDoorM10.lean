/- slices.Grow of nil, slices.Concat. -/
import Derived.Test.YtjebpmjbdchdlaaDoorM09
import Derived.Lib.AppendZeros
import Derived.Test.YtjebpmjbdchdlaaDoorM08
namespace Go.Proofs.YtjebpmjbdchdlaaDoor
open Go.RowKit
set_option linter.unusedVariables false

theorem run_nil_zeros {P : Program} (w : World) (t tn ty e : TypeId) (z : Value) (sz bytes : Nat) (k kn : IntKind) (ht : P.underlying t = some (.slice e)) (htn : P.underlying tn = some (.int kn)) (hi : (P.info? e).map (fun i => (i.zero, i.size, i.bytes)) = some (some z, sz, bytes))
    (n : Nat) (h0 : 0 < n) (hs : 0 < sz) (h48 : n * bytes ≤ 140737488355328 ∧ n ≤ 9223372036854775807) :
    (Builtin.append_ #[t, tn] ty #[.slice none 0 0, .int k n]).run P w =
      .ok (.slice (some ⟨w.heap.size, 0, none⟩) n (grownCap w n 0 e)) (w.drew.alloc (.cells (Builtin.zeroCells z.cells n ++ Builtin.zeroCells z.cells (grownCap w n 0 e - n)) e)) := by
  obtain ⟨i0, hi0, hzz⟩ := Option.map_eq_some_iff.1 hi
  simp only [Prod.mk.injEq] at hzz
  obtain ⟨hz0, hz1, hz2⟩ := hzz
  exact Lib.run_append_nil_zeros w t tn ty e i0 z k kn ht htn hi0 hz0 n h0 (by omega) (by have := h48.2; omega) (by rw [hz2]; have := h48.1; omega)

set_option maxRecDepth 100000 in
set_option maxHeartbeats 4000000 in
theorem ngrow_any (n : Nat) (w : World) (hn : n ≤ 100000) : Calls Tryd.prog 44 #[.slice none 0 0, .int .i64 n] w fun e w' => ∃ v, e = .returned v ∧ Gro ndC w w' [] [] 53 v [] := by
  rcases Nat.eq_zero_or_pos n with h0 | h0
  · subst h0
    have G := Lib.hid (Gro.nil_ ndC (St.new w) 53)
    go_enter Tryd.func44, Tryd.ntmps44
    go_wp2
    go_ret
    exact ⟨_, rfl, G.out⟩
  · have hge := grownCap_ge w n 0 53
    have hle := grownCap_le_maxLen w n 0 53 (by unfold maxLen; omega)
    obtain ⟨cp, hcp⟩ : ∃ cp, cp = grownCap w n 0 53 := ⟨_, rfl⟩
    have hr := Lib.hid (fun rt => run_nil_zeros (P := Tryd.prog) w 23 3 rt 53 (.agg #[.int .i64 0, .string ⟨#[]⟩, .int .i64 0]) 3 32 .i64 .i64 Tryd.underlying23 Tryd.underlying3 (by kernel_rfl) n h0 (by decide) (by omega))
    rw [← hcp] at hge hle hr
    obtain ⟨cur, hcur⟩ : ∃ cur, cur = Builtin.zeroCells ((.agg #[.int .i64 0, .string ⟨#[]⟩, .int .i64 0]) : Value).cells n ++ Builtin.zeroCells ((.agg #[.int .i64 0, .string ⟨#[]⟩, .int .i64 0]) : Value).cells (cp - n) := ⟨_, rfl⟩
    rw [← hcur] at hr
    have G : Hid (Gro ndC w (w.drew.alloc (.cells cur 53)) [] [] 53 (.slice (some ⟨w.heap.size, 0, none⟩) 0 cp) []) := Lib.hid (by
      have hz : NoLl ((.agg #[.int .i64 0, .string ⟨#[]⟩, .int .i64 0]) : Value).cells.toList := (fun v hv z e => by simp [Value.cells] at hv; subst e; simp at hv)
      refine ⟨⟨rfl, NoLl.nil, .inr ⟨w.heap.size, cp, cur, rfl, Nat.zero_le _, hle, ?_, rfl, ?_⟩⟩, fun x hx => by cases hx⟩
      · rw [hcur, Array.size_append, size_zeroCells, size_zeroCells]
        show n * 3 + (cp - n) * 3 = cp * 3
        omega
      · refine (St.new w).drew.allocAt _ cur 53 ?_ rfl
        rw [hcur]
        have := ((NoLl.zeros hz n).app (NoLl.zeros hz (cp - n))).arr
        rwa [show ((Builtin.zeroCells ((.agg #[.int .i64 0, .string ⟨#[]⟩, .int .i64 0]) : Value).cells n).toList ++ (Builtin.zeroCells ((.agg #[.int .i64 0, .string ⟨#[]⟩, .int .i64 0]) : Value).cells (cp - n)).toList).toArray = Builtin.zeroCells ((.agg #[.int .i64 0, .string ⟨#[]⟩, .int .i64 0]) : Value).cells n ++ Builtin.zeroCells ((.agg #[.int .i64 0, .string ⟨#[]⟩, .int .i64 0]) : Value).cells (cp - n) from Array.ext' (by simp)] at this)
    have g1 : ¬ (n : Int) < 0 := by omega
    have g2 : (0 : Int) < (n : Int) := by omega
    have g3 : (0 : Int) ≤ (cp : Int) := by omega
    have hn5 : n ≤ 100000 := hn
    clear hn hge hle hcp hcur
    go_enter Tryd.func44, Tryd.ntmps44
    go_wp2_with (at_builtin; refine Lib.wpList_append_run w rfl (.tmp 20) (.tmp 21) 23 3 rfl (.slice none 0 0) (.int .i64 n) rfl rfl _ _ (hr.out _) ?_)
    clear hr
    go_wp2
    go_ret
    exact ⟨_, rfl, G.out⟩

/-- The lists, one behind the other. -/
def ncatL (Ls : List (Sl Nd)) (i : Nat) : List Nd := ((Ls.take i).map (fun l => l.L)).flatten
theorem ncat_succ {Ls : List (Sl Nd)} {i : Nat} {x : Sl Nd} (h : Ls[i]? = some x) : ncatL Ls (i + 1) = ncatL Ls i ++ x.L := by
  unfold ncatL
  rw [List.take_add_one, h]; simp
theorem ncat_le (Ls : List (Sl Nd)) (i : Nat) : (ncatL Ls i).length ≤ ((Ls.map (fun l => l.L)).flatten).length := by
  unfold ncatL
  have e : (Ls.map (fun l => l.L)).flatten = ((Ls.take i).map (fun l => l.L)).flatten ++ ((Ls.drop i).map (fun l => l.L)).flatten := by
    rw [← List.flatten_append, ← List.map_append, List.take_append_drop]
  rw [e, List.length_append]
  exact Nat.le_add_right _ _
set_option maxRecDepth 100000 in
set_option maxHeartbeats 4000000 in
theorem nconcat_any (Ls : List (Sl Nd)) (A : Option Addr) (n c : Nat) (w : World) (h : LR (slC ndC) w A n Ls) (hn : n ≤ 100000) (hb : ((Ls.map (fun l => l.L)).flatten).length ≤ 100000) : Calls Tryd.prog 24 #[.slice A n c] w fun e w' => ∃ v, e = .returned v ∧ Gro ndC w w' [] [] 53 v ((Ls.map (fun l => l.L)).flatten) := by
  have hlen := Lib.hid h.len
  have hfull : Hid (ncatL Ls n = (Ls.map (fun l => l.L)).flatten) := Lib.hid (by unfold ncatL; rw [List.take_of_length_le (by rw [h.len]; exact Nat.le_refl _)])
  have hle := Lib.hid (ncat_le Ls)
  have hG := Lib.hid (fun k (hk : k ≤ 100000) => ngrow_any k w hk)
  obtain ⟨T, hT⟩ : ∃ T, T = (Ls.map (fun l => l.L)).flatten := ⟨_, rfl⟩
  rw [← hT] at hfull hb ⊢
  rw [← hT] at hle
  replace hT := Lib.hid hT
  replace h := Lib.hid h
  have hbb := Lib.hid hb
  replace hn := Lib.hid hn
  clear hb
  go_enter Tryd.func24, Tryd.ntmps24
  go_wp2
  go_loopw [3, 11] (fun sv iv wr => ∃ i : Nat, i ≤ n ∧ iv = .int .i64 i ∧ sv = .int .i64 ((ncatL Ls i).length : Nat) ∧ wr = w) (fun _ iv _ => n - (intOf iv).toNat)
  case atStart => exact ⟨0, Nat.zero_le _, rfl, rfl, rfl⟩
  case round =>
    obtain ⟨i, hin, rfl, rfl, rfl⟩ := hrel
    have hs5 : (ncatL Ls i).length ≤ 100000 := Nat.le_trans (hle.out i) hbb.out
    by_cases hlt : i < n
    · obtain ⟨b, o, x, rfl, hx, _, hat, hcs⟩ := h.out.get hlt
      have e0 : wr.cell? ⟨b, o + i, none⟩ = some (.slice x.A x.L.length x.c) := by
        have := hcs 0 _ rfl
        rwa [show o + i * (slC ndC).sz + 0 = o + i by show o + i * 1 + 0 = o + i; omega] at this
      have hsu := ncat_succ hx
      have hs6 : (ncatL Ls i).length + x.L.length ≤ 100000 := by
        have h1 := hle.out (i + 1)
        rw [hsu, List.length_append] at h1
        exact Nat.le_trans h1 hbb.out
      have hnx : Hid (((ncatL Ls i).length : Int) + (x.L.length : Int) = (((ncatL Ls (i + 1)).length : Nat) : Int)) := Lib.hid (by rw [hsu, List.length_append]; omega)
      have g1 : (i : Int) < (n : Int) := by omega
      have g2 : (0 : Int) ≤ (i : Int) := by omega
      have hih := Lib.hid hlt
      have hbn := hn.out
      clear hcs hat hx hsu hin
      generalize (ncatL Ls i).length = s0 at *
      generalize x.L.length = s1 at *
      have g3 : ¬ ((s0 : Int) + (s1 : Int) < 0) := by omega
      have g4 : (s0 : Int) + (s1 : Int) ≤ 100000 := by omega
      clear hlt
      have hlt := hih.out
      go_wp2
      go_roundw
      case rel => exact ⟨i + 1, by omega, by go_num, by rw [← hnx.out]; try go_num, (by first | rfl | trivial)⟩
      case measure => simp [intOf]; omega
    · obtain rfl : n = i := by omega
      have hf := hfull.out
      rw [hf] at hs5 ⊢
      have hGG := Lib.hid (hG.out _ hs5)
      have g1 : ¬ (n : Int) < (n : Int) := by omega
      clear hin hlt hf hG
      go_wp2_with fail
      refine hGG.out.mono ?_
      rintro e w1 ⟨v0, rfl, G⟩
      replace G := Lib.hid G
      clear hGG
      go_wp2
      go_loopw [6, 27] (fun av iv wr2 => ∃ i : Nat, i ≤ n ∧ iv = .int .i64 i ∧ Gro ndC wr wr2 [] [] 53 av (ncatL Ls i)) (fun _ iv _ => n - (intOf iv).toNat)
      case atStart => exact ⟨0, Nat.zero_le _, rfl, G.out⟩
      case round =>
        clear G
        obtain ⟨i, hin, rfl, G⟩ := hrel
        by_cases hlt : i < n
        · have hW := h.out.bel G.st.bel
          obtain ⟨b, o, x, rfl, hx, _, hat, hcs⟩ := hW.get hlt
          have e0 : wr.cell? ⟨b, o + i, none⟩ = some (.slice x.A x.L.length x.c) := by
            have := hcs 0 _ rfl
            rwa [show o + i * (slC ndC).sz + 0 = o + i by show o + i * 1 + 0 = o + i; omega] at this
          have hsu := ncat_succ hx
          have hs6 : Hid ((ncatL Ls i).length + x.L.length ≤ 100000) := Lib.hid (by
            have h1 := hle.out (i + 1)
            rw [hsu, List.length_append] at h1
            exact Nat.le_trans h1 hbb.out)
          have hat1 := Lib.hid hat.1
          replace hsu := Lib.hid hsu
          have g1 : (i : Int) < (n : Int) := by omega
          have g2 : (0 : Int) ≤ (i : Int) := by omega
          have hih := Lib.hid hlt
          have hbn := hn.out
          replace G := Lib.hid G
          clear hcs hat hx hin hlt hW
          go_wp2_with (at_builtin; refine Gro.wpm rfl (.tmp 31) (.tmp 32) 23 rfl (.agg #[.int .i64 0, .string ⟨#[]⟩, .int .i64 0]) 32 Tryd.underlying23 (by kernel_rfl) rfl (fun v hv z e => by simp [Value.cells] at hv; subst e; simp at hv) rfl G.out x.L x.A x.c rfl hat1.out (fun y _ => nd_in y) (by have := hs6.out; omega) (by have := hs6.out; unfold maxLen; omega) ?_)
          intro av1 w6 G2
          rw [← hsu.out] at G2
          replace G2 := Lib.hid G2
          clear G hat1 hs6 hsu e0
          have hlt := hih.out
          go_wp2
          go_roundw
          case rel => exact ⟨i + 1, by omega, by go_num, G2.out⟩
          case measure => simp [intOf]; omega
        · obtain rfl : n = i := by omega
          have hf := hfull.out
          rw [hf] at G
          replace G := Lib.hid G
          have g1 : ¬ (n : Int) < (n : Int) := by omega
          clear hin hlt hf
          go_wp2
          go_ret
          exact ⟨_, rfl, G.out⟩

end Go.Proofs.YtjebpmjbdchdlaaDoor
namespace Go.Proofs.YtjebpmjbdchdlaaDoor
open Go.RowKit
set_option linter.unusedVariables false

/-- Each operation of a list finds its operands. -/
def okP : List F9.Nd → Nat → Prop
  | [], _ => True
  | x :: l, m => F9.ari x.op ≤ m ∧ okP l (m - F9.ari x.op + 1)
theorem ari_lf {x : F9.Nd} (h : F9.lfN x) : F9.ari x.op = 0 := by
  unfold F9.ari
  rcases h with h | h | h
  · rw [h.1]; rfl
  · rw [h.1]; rfl
  · rcases h.1 with h | h <;> rw [h] <;> rfl
theorem okP_post : ∀ (t : F9.Tr), t.wf → ∀ (l : List F9.Nd) (m : Nat), okP l (m + 1) → okP (t.post ++ l) m
  | .leaf x, h, l, m, hl => by
    have e := ari_lf h
    show F9.ari x.op ≤ m ∧ okP l (m - F9.ari x.op + 1)
    rw [e]; exact ⟨Nat.zero_le _, hl⟩
  | .hat k a, h, l, m, hl => by
    rw [F9.Tr.post, List.append_assoc]
    refine okP_post a h.2.2 _ _ ?_
    exact ⟨by show 1 ≤ m + 1; omega, by show okP l (m + 1 - 1 + 1); rw [Nat.add_sub_cancel]; exact hl⟩
  | .bin op a b, h, l, m, hl => by
    have e : F9.ari op = 2 := by unfold F9.ari; rw [if_pos ⟨h.1, h.2.1⟩]
    rw [F9.Tr.post, List.append_assoc, List.append_assoc]
    refine okP_post a h.2.2.1 _ _ (okP_post b h.2.2.2 _ _ ?_)
    refine ⟨by show F9.ari op ≤ _; rw [e]; omega, ?_⟩
    show okP l (m + 1 + 1 - F9.ari op + 1)
    rw [e]
    exact hl
theorem po1_len (L : List (List F9.Nd)) (x : F9.Nd) : (F9.po1 L x).flatten.length = L.flatten.length + 1 := by
  unfold F9.po1
  have e : L.flatten = (L.take (L.length - F9.ari x.op)).flatten ++ (L.drop (L.length - F9.ari x.op)).flatten := by
    rw [← List.flatten_append, List.take_append_drop]
  rw [List.flatten_append, List.length_append]
  conv => rhs; rw [e]
  rw [List.length_append]
  simp
  omega
theorem po1_cnt (L : List (List F9.Nd)) (x : F9.Nd) : (F9.po1 L x).length = L.length - F9.ari x.op + 1 := by
  unfold F9.po1
  rw [List.length_append, List.length_take]
  simp
/-- Nodes of a tree. -/
theorem post_op : ∀ (t : F9.Tr), t.wf → ∀ x ∈ t.post, 1 ≤ x.op ∧ x.op ≤ 10
  | .leaf x, h, y, hy => by
    obtain rfl := List.mem_singleton.1 hy
    rcases h with h | h | h
    · omega
    · omega
    · omega
  | .hat k a, h, y, hy => by
    rcases List.mem_append.1 hy with hy | hy
    · exact post_op a h.2.2 y hy
    · obtain rfl := List.mem_singleton.1 hy
      exact ⟨by show 1 ≤ 10; decide, by show 10 ≤ 10; decide⟩
  | .bin op a b, h, y, hy => by
    rcases List.mem_append.1 hy with hy | hy
    · rcases List.mem_append.1 hy with hy | hy
      · exact post_op a h.2.2.1 y hy
      · exact post_op b h.2.2.2 y hy
    · obtain rfl := List.mem_singleton.1 hy
      have h1 := h.1
      have h2 := h.2.1
      exact ⟨by show 1 ≤ op; omega, by show op ≤ 10; omega⟩
theorem ari_eq {q : Nat} (h1 : 1 ≤ q) (h2 : q ≤ 10) : ariB (q : Int) = (F9.ari q : Nat) := by
  have hc : q = 1 ∨ q = 2 ∨ q = 3 ∨ q = 4 ∨ q = 5 ∨ q = 6 ∨ q = 7 ∨ q = 8 ∨ q = 9 ∨ q = 10 := by omega
  rcases hc with rfl | rfl | rfl | rfl | rfl | rfl | rfl | rfl | rfl | rfl <;> rfl
section
variable {α : Type} {C : Cod α} {w W W' : World} {bs ob : List GBk} {rs : List GRd} {e : Nat} {v : Value} {L : List α}
theorem Gro.one {g : Nat} {y : α} (S : St w W ((g, (C.cs y).toArray, e) :: bs) rs) (hy : C.In w bs rs y) : Gro C w W bs rs e (.slice (some ⟨g, 0, none⟩) 1 1) [y] := by
  refine ⟨⟨by rw [all_one, C.len]; simp, all_noL C _, .inr ⟨g, 1, (C.cs y).toArray, rfl, Nat.le_refl _, by decide, by simp [C.len], ?_, S⟩⟩, fun x hx => by rw [List.mem_singleton.1 hx]; exact hy⟩
  rw [all_one]
  show (C.cs y).take (1 * C.sz) = C.cs y
  exact List.take_of_length_le (by rw [C.len]; omega)
theorem Gro.cut {A : Option Addr} {n c m : Nat} (h : Gro C w W bs rs e (.slice A n c) L) (hn : L.length = n) (hm : m ≤ n) : Gro C w W bs rs e (.slice A m c) (L.take m) := by
  subst hn
  have hl : (L.take m).length = m := by rw [List.length_take]; omega
  obtain ⟨⟨h1, h2, h3⟩, h4⟩ := h
  refine ⟨⟨all_len C _, all_noL C _, ?_⟩, fun x hx => h4 x (List.mem_of_mem_take hx)⟩
  rw [hl]
  rcases h3 with ⟨hv, h0, S⟩ | ⟨g, cap, cur, hv, hle, hcap, hcs, htk, S⟩
  · injection hv with hA hn0 hc
    exact .inl ⟨by rw [hA, hc, show m = 0 by omega], by omega, S⟩
  · injection hv with hA _ hc
    refine .inr ⟨g, cap, cur, by rw [hA, hc], by omega, hcap, hcs, ?_, S⟩
    have := all_take C L m
    rw [← htk, List.take_take] at this
    rw [← this]
    congr 1
    have := Nat.mul_le_mul_right C.sz hm
    omega
theorem Gro.join {bs' : List GBk} (h : Gro C w W bs [] e v L) (S : St W W' bs' []) : Gro C w W' (bs ++ bs') [] e v L := by
  obtain ⟨ob, h1, h2⟩ := h.1.open_
  refine ⟨Apd.close h1 ?_, fun x hx => C.mono (h.2 x hx) (fun p hp => List.mem_append_left _ hp) (fun p hp => hp)⟩
  have h3 := h2.join S
  refine h3.prm ?_
  rw [List.append_assoc, List.append_assoc]
  exact List.Perm.append_left bs List.perm_append_comm
theorem Gro.lenc {A : Option Addr} {n c : Nat} (h : Gro C w W bs rs e (.slice A n c) L) : LR C W A n L ∧ n ≤ c ∧ L.length = n := by
  obtain ⟨A1, c1, hv, hl⟩ := h.lr
  injection hv with h1 h2 h3
  subst h1 h2 h3
  refine ⟨hl, ?_, rfl⟩
  obtain ⟨⟨_, _, ⟨hv, h0, _⟩ | ⟨g, cap, cur, hv, hle, _⟩⟩, _⟩ := h
  · omega
  · injection hv with _ _ h5; omega
end
theorem OBn.li {w : World} {bs ob : List GBk} {rs : List GRd} {l : Sl Nd} (h : OBn ob l) (hm : ∀ p ∈ ob, p ∈ bs) : LI ndC w bs rs l.A l.L.length l.L := by
  obtain ⟨h1, h2, ⟨hv, h3, rfl⟩ | ⟨g, cap, cur, hv, h3, h4, h5, h6, rfl⟩⟩ := h
  · exact ⟨rfl, .inl h3, fun x _ => nd_in x⟩
  · injection hv with hA _ _
    refine ⟨rfl, .inr (.inr ⟨g, cur, _, hA, hm _ List.mem_cons_self, fun j u hu => ?_⟩), fun x _ => nd_in x⟩
    rw [← h6, List.getElem?_take] at hu
    split at hu
    · simpa using hu
    · cases hu
theorem OBn.cap {ob : List GBk} {l : Sl Nd} (h : OBn ob l) : l.L.length ≤ l.c := by
  obtain ⟨h1, h2, ⟨hv, h3, rfl⟩ | ⟨g, cap, cur, hv, h3, h4, h5, h6, rfl⟩⟩ := h
  · omega
  · injection hv with _ _ hc; omega

set_option maxRecDepth 100000 in
set_option maxHeartbeats 4000000 in
theorem order_any (tr : F9.Tr) (hw : tr.wf) (A : Option Addr) (n c : Nat) (w : World) (h : LR ndC w A n (tr.post.map toNd)) (hn : n ≤ 100000) (hO : Og w) : Calls Tryd.prog 10 #[.slice A n c] w fun e w' => ∃ l : Sl Nd, e = .returned l.v ∧ l.L = tr.pre.map toNd ∧ l.L.length ≤ l.c ∧ LR ndC w' l.A l.L.length l.L ∧ Below w.heap.size w w' := by
  have hlen := Lib.hid h.len
  have hok := okP_post tr hw [] 0 trivial
  rw [List.append_nil] at hok
  have hpo := Lib.hid (F9.po_post tr hw [])
  have hop := Lib.hid (post_op tr hw)
  have hC := Lib.hid (fun Ls A n c W (h : LR (slC ndC) W A n Ls) hn hb => nconcat_any Ls A n c W h hn hb)
  obtain ⟨N, hN⟩ : ∃ N, N = tr.post := ⟨_, rfl⟩
  rw [← hN] at h hlen hok hpo hop
  have hln : Hid (N.length = n) := Lib.hid (by have := hlen.out; rwa [List.length_map] at this)
  replace hok := Lib.hid hok
  replace h := Lib.hid h
  replace hO := Lib.hid hO
  replace hn := Lib.hid hn
  replace hN := Lib.hid hN
  clear hw
  go_enter Tryd.func10, Tryd.ntmps10
  go_wp2
  go_loopw [3, 10] (fun v iv wr => ∃ (i : Nat) (L : List (List F9.Nd)) (Ls : List (Sl Nd)) (A' : Option Addr) (n' c' : Nat) (bs : List GBk), i ≤ n ∧ iv = .int .i64 i ∧ v = .slice A' n' c' ∧ Gro (slC ndC) w wr bs [] 23 v Ls ∧ Ls.map (fun l => l.L) = L.map (fun l => l.map toNd) ∧ L = (N.take i).foldl F9.po1 [] ∧ okP (N.drop i) L.length ∧ L.flatten.length = i ∧ n' ≤ i) (fun _ iv _ => n - (intOf iv).toNat)
  case atStart => exact ⟨0, [], [], none, 0, 0, [], Nat.zero_le _, rfl, rfl, Gro.nil_ _ (St.new w) _, rfl, rfl, hok.out, rfl, Nat.le_refl _⟩
  case round =>
    clear hok
    obtain ⟨i, L, Ls, A', n', c', bs, hin, rfl, rfl, G, hmap, hL, hok, hfl, hni⟩ := hrel
    obtain ⟨hLR, hnc, hn'⟩ := G.lenc
    have hLl : L.length = n' := by
      have := congrArg List.length hmap
      rw [List.length_map, List.length_map] at this
      omega
    by_cases hlt : i < n
    · have h' := h.out.bel G.st.bel
      obtain ⟨b, o, y, rfl, hx, hxm, e0, e1, e2⟩ := nd_get h' hlt
      rw [List.getElem?_map] at hx
      obtain ⟨q, hq, hqy⟩ := Option.map_eq_some_iff.1 hx
      have hqm := hop.out q (List.mem_of_getElem? hq)
      have hyo : y.o = (q.op : Int) := by rw [← hqy]; rfl
      rw [hyo] at e0
      have hdr := drop_one hq
      rw [hdr] at hok
      have hOr := hO.out.bel G.st.bel
      have hae := ari_eq hqm.1 hqm.2
      obtain ⟨f1, hf1⟩ : ∃ f1, f1 = n' - F9.ari q.op := ⟨_, rfl⟩
      have hf2 : (n' : Int) - ((F9.ari q.op : Nat) : Int) = (f1 : Int) := by have := hok.1; omega
      have hf3 : f1 ≤ n' := by omega
      have hf4 : f1 ≤ 100000 := by have := hn.out; omega
      have hf5 : n' ≤ 100000 := by have := hn.out; omega
      have hbn : Hid (i < n ∧ n ≤ 100000) := Lib.hid ⟨hlt, hn.out⟩
      have g1 : (i : Int) < (n : Int) := by omega
      have g2 : (0 : Int) ≤ (i : Int) := by omega
      have hA' : (A' = none ∧ n' = 0 ∧ c' = 0) ∨ ∃ b, A' = some ⟨b, 0, none⟩ := by
        obtain ⟨⟨_, _, ⟨hv, h0, _⟩ | ⟨g, cap, cur, hv, _⟩⟩, _⟩ := G
        · injection hv with a1 a2 a3; exact .inl ⟨a1, a2, a3⟩
        · injection hv with a1 _ _; exact .inr ⟨g, a1⟩
      obtain ⟨A2, hA2, hLR2⟩ : ∃ A2 : Option Addr, ((A' = none ∧ n' = 0 ∧ c' = 0 ∧ f1 = 0 ∧ A2 = none) ∨ (∃ b, A' = some ⟨b, 0, none⟩ ∧ c' = f1 ∧ n' = f1 ∧ A2 = some ⟨b, 0, none⟩) ∨ (∃ b, A' = some ⟨b, 0, none⟩ ∧ ¬ c' = f1 ∧ A2 = some ⟨b, f1, none⟩)) ∧ ∀ V, LR (slC ndC) V A' n' Ls → LR (slC ndC) V A2 (n' - f1) (Ls.drop f1) := by
        rcases hA' with ⟨a1, a2, a3⟩ | ⟨b, a1⟩
        · refine ⟨none, .inl ⟨a1, a2, a3, by omega, rfl⟩, fun V hV => ?_⟩
          have e1 : n' - f1 = 0 := by omega
          have e2 : Ls.drop f1 = [] := List.drop_eq_nil_of_le (by omega)
          rw [e1, e2]; exact LR.nil_ _ _ _
        · by_cases hcf : c' = f1
          · refine ⟨some ⟨b, 0, none⟩, .inr (.inl ⟨b, a1, hcf, by omega, rfl⟩), fun V hV => ?_⟩
            have e1 : n' - f1 = 0 := by omega
            have e2 : Ls.drop f1 = [] := List.drop_eq_nil_of_le (by omega)
            rw [e1, e2]; exact LR.nil_ _ _ _
          · refine ⟨some ⟨b, f1, none⟩, .inr (.inr ⟨b, a1, hcf, rfl⟩), fun V hV => ?_⟩
            rw [a1] at hV
            have := hV.sub (m := f1) hf3
            rwa [show 0 + f1 * (slC ndC).sz = f1 by show 0 + f1 * 1 = f1; omega] at this
      have hnx : Hid (F9.po1 L q = (N.take (i + 1)).foldl F9.po1 []) := Lib.hid (by rw [List.take_add_one, hq, hL, List.foldl_append]; rfl)
      have hok2 : Hid (okP (N.drop (i + 1)) (F9.po1 L q).length) := Lib.hid (by rw [po1_cnt]; exact hok.2)
      have hfl2 : Hid ((F9.po1 L q).flatten.length = i + 1) := Lib.hid (by rw [po1_len, hfl])
      have hpo1 : F9.po1 L q = L.take f1 ++ [q :: (L.drop f1).flatten] := by unfold F9.po1; rw [hf1, hLl]
      have hmp2 : Hid (∀ l : Sl Nd, l.L = [y] ++ ((Ls.drop f1).map (fun l => l.L)).flatten → (Ls.take f1 ++ [l]).map (fun l => l.L) = (F9.po1 L q).map (fun l => l.map toNd)) := Lib.hid fun l hl => by
        rw [hpo1, List.map_append, List.map_append, List.map_take, List.map_take, hmap]
        congr 1
        show [l.L] = [(q :: (L.drop f1).flatten).map toNd]
        rw [hl, List.map_drop, hmap, ← hqy, List.map_cons, List.map_flatten, List.map_drop]
        rfl
      have htot : Hid (((Ls.drop f1).map (fun l => l.L)).flatten.length ≤ 100000) := Lib.hid (by
        have e1 : (Ls.map (fun l => l.L)).flatten.length = i := by
          rw [hmap, ← List.map_flatten, List.length_map, hfl]
        have e2 : (Ls.map (fun l => l.L)).flatten = ((Ls.take f1).map (fun l => l.L)).flatten ++ ((Ls.drop f1).map (fun l => l.L)).flatten := by
          rw [← List.flatten_append, ← List.map_append, List.take_append_drop]
        rw [e2, List.length_append] at e1
        have := hn.out
        omega)
      have hnn : Hid (n' - f1 ≤ 100000 ∧ f1 ≤ i ∧ f1 ≤ n') := Lib.hid (by have := hn.out; omega)
      replace hA2 := Lib.hid hA2
      have hA5 := Lib.hid hA'
      replace hLR2 := Lib.hid hLR2
      have G1 := G.alloc #[.int .i64 (q.op : Int), .string y.s, .int .i64 y.k] 53 (noLof rfl)
      have hOB := Lib.hid hO.out
      obtain ⟨bx, hbx⟩ : ∃ b, b = wr.heap.size := ⟨_, rfl⟩
      rw [← hbx] at G1
      obtain ⟨W1, hW1⟩ : ∃ V, V = wr.alloc (.cells #[.int .i64 (q.op : Int), .string y.s, .int .i64 y.k] 53) := ⟨_, rfl⟩
      rw [← hW1] at G1
      replace G1 := Lib.hid G1
      replace hyo := Lib.hid hyo
      replace hae := Lib.hid hae
      replace hqm := Lib.hid hqm
      clear h' hx hxm hq hdr hok hOr hf1 hpo1 hmap hL hfl hni hLR hA' G hLl
      go_upto_region 5 with fail
      rw [← hbx, ← hW1]
      clear e0 e1 e2 hW1 hbx
      have b0 := G1.out.st.cl 0 0 rfl rfl
      have bl := G1.out.st.lt 0 rfl
      have hOr := hO.out.bel G1.out.st.bel
      have ga := og_ari hOr hqm.out.2 hqm.out.1
      rw [hae.out] at ga
      have hz0 := hOr.1
      have q1 : (q.op : Int) < 11 := by have := hqm.out; omega
      have q2 : (0 : Int) ≤ (q.op : Int) := by omega
      clear hOr hae
      generalize F9.ari q.op = aq at *
      go_upto_region 6 with fail
      clear ga hz0 q1 q2 b0
      obtain ⟨qo, hqo⟩ : ∃ z : Int, z = (q.op : Int) := ⟨_, rfl⟩
      rw [← hqo] at hyo
      have hyo2 := hyo.out
      rw [← hqo, ← hyo2] at G1
      rw [← hqo, ← hyo2]
      clear hyo2 hyo hqo hqm
      have c_0 := G1.out.st.cl 0 0 rfl rfl
      have c_1 := G1.out.st.cl 0 1 rfl rfl
      have c_2 := G1.out.st.cl 0 2 rfl rfl
      have hbase := Lib.hid (St.new W1)
      refine RW.begin (Z := []) (S := (fun V => Below W1.heap.size W1 V)) (by kernel_rfl) ?_ hbase.out ?_
      · exact ⟨by kernel_rfl, zis_nil, by decide, by decide, nol_nil, (fun _ _ h => h.bel)⟩
      intro hzk
      refine RW.t (i := 0) (v := .agg #[.int .i64 y.o, .string y.s, .int .i64 y.k]) (some 22) at0 (hy := fun V hS => by (have k0 := bel_cell hS c_0; have k1 := bel_cell hS c_1; have k2 := bel_cell hS c_2; clear hS; go_simp)) (h := ?_)
      refine RW.t (i := 2) (v := .slice A' n' c') (some 24) at2 (hy := fun _ _ => by kernel_rfl) (h := ?_)
      refine RW.t (i := 3) (v := .int .i64 (f1 : Int)) (some 25) at3 (hy := fun _ _ => by kernel_rfl) (h := ?_)
      refine RW.t (i := 4) (v := .slice A2 (n' - f1) (c' - f1)) (some 26) at4 (hy := fun _ _ => by (have hA3 := hA2.out; rcases hA3 with ⟨rfl, rfl, rfl, rfl, rfl⟩ | ⟨bb, rfl, rfl, rfl, rfl⟩ | ⟨bb, rfl, hcc, rfl⟩ <;> go_simp)) (h := ?_)
      refine RW.tail hzk.out (by kernel_rfl) ?_
      intro gs' w5 hgs' hS Sb
      obtain rfl := len0 hgs'
      simp only [mark, fill, Act.put, List.setIfInBounds_toArray, List.set_cons_zero, List.set_cons_succ]
      have S5 := Lib.hid ((St.new W1).call hS)
      have hLR5 := Lib.hid (hLR2.out w5 (G1.out.lenc.1.bel hS))
      clear hbase hzk Sb hS hgs' hLR2
      refine Wk.two (i := 1) (j := 5) at1 at5 (by kernel_rfl) (fun K' hK => ?_) (fun K' hK => ?_)
      · go_simp
        have SA := Lib.hid (S5.out.alloc #[.int .i64 y.o, .string y.s, .int .i64 y.k] 53 (noLof rfl))
        clear S5
        refine hK.out _ _ SA.out.bel ?_
        clear hK K'
        try simp only [Act.put, List.setIfInBounds_toArray, List.set_cons_zero, List.set_cons_succ]
        refine Wk.o (i := 5) at5 (by kernel_rfl) fun K' hK => ?_
        refine oper_call (f := 24) (args := #[.slice A2 (n' - f1) (c' - f1)]) rfl (by kernel_rfl) ((hC.out _ _ _ _ _ (hLR5.out.bel ((Below.refl _ _).alloc (Nat.le_refl _) _)) hnn.out.1 htot.out).mono ?_)
        rintro e w7 ⟨vm, rfl, GM⟩
        obtain ⟨lm, obm, hvm, hLm, hOm, SM⟩ := GM.opn
        have hvm2 : vm = .slice lm.A lm.L.length lm.c := hvm
        subst hvm2
        have S8 := Lib.hid (SA.out.join SM)
        clear GM hvm SM SA
        replace hOm := Lib.hid hOm
        replace hLm := Lib.hid hLm
        refine ⟨_, rfl, hK.out _ _ S8.out.bel ?_⟩
        clear hK K'
        try simp only [Act.put, List.setIfInBounds_toArray, List.set_cons_zero, List.set_cons_succ]
        have S9 : St W1 _ ((w5.heap.size, (ndC.cs y).toArray, 53) :: obm) [] := S8.out
        have G6 := Lib.hid (Gro.one (C := ndC) S9 (nd_in y))
        have hM := Lib.hid ((OBn.lr (bs := [(w5.heap.size, (ndC.cs y).toArray, 53)]) hOm.out S9).1)
        have hMl : Hid (lm.L.length ≤ 100000) := Lib.hid (by rw [hLm.out]; exact htot.out)
        clear S9 S8
        refine Wk.o (i := 6) at6 (by kernel_rfl) fun K' hK => ?_
        refine Gro.opm (.tmp 23) (.tmp 27) 23 rfl (.agg #[.int .i64 0, .string ⟨#[]⟩, .int .i64 0]) 32 Tryd.underlying23 (by kernel_rfl) rfl (fun v hv z e => by simp [Value.cells] at hv; subst e; simp at hv) rfl G6.out lm.L lm.A lm.c rfl hM.out (fun y _ => nd_in y) (by have := hMl.out; simp; omega) (by have := hMl.out; unfold maxLen; simp; omega) ?_
        intro av1 w8 G7
        obtain ⟨l2, ob2, hv2, hL2, hO2, S10⟩ := G7.opn
        have hv3 : av1 = .slice l2.A l2.L.length l2.c := hv2
        subst hv3
        have hL3 : Hid (l2.L = [y] ++ ((Ls.drop f1).map (fun l => l.L)).flatten) := Lib.hid (by rw [hL2, hLm.out])
        replace S10 := Lib.hid S10
        clear G6 G7 hv2 hL2 hM hMl hOm hLm
        refine hK.out _ _ S10.out.bel ?_
        clear hK K'
        try simp only [Act.put, List.setIfInBounds_toArray, List.set_cons_zero, List.set_cons_succ]
        refine Wk.o (i := 7) at7 (by kernel_rfl) fun K' hK => ?_
        go_simp
        refine hK.out _ _ S10.out.bel ?_
        clear hK K'
        try simp only [Act.put, List.setIfInBounds_toArray, List.set_cons_zero, List.set_cons_succ]
        refine Wk.done (by kernel_rfl) ?_
        try go_simp
        obtain ⟨BB, hBB⟩ : ∃ BB : List GBk, BB = ((bx, #[.int .i64 y.o, .string y.s, .int .i64 y.k], 53) :: bs) ++ (obm ++ ob2) := ⟨_, rfl⟩
        have G2 := G1.out.join S10.out
        rw [← hBB] at G2
        have hcap := OBn.cap hO2
        have hli : LI ndC w BB [] l2.A l2.L.length l2.L := OBn.li hO2 (fun p hp => by rw [hBB]; exact List.mem_append_right _ (List.mem_append_right _ hp))
        have G3 := (G2.cut G2.lenc.2.2 hf3).alloc #[.slice l2.A l2.L.length l2.c] 23 (noLof rfl)
        have hIn : Hid ((slC ndC).In w ((w8.heap.size, #[.slice l2.A l2.L.length l2.c], 23) :: BB) [] l2) := Lib.hid ⟨hli.mono (fun p hp => List.mem_cons_of_mem (w8.heap.size, #[.slice l2.A l2.L.length l2.c], 23) hp) (fun p hp => hp), hcap⟩
        have hf6 : (f1 : Int) ≤ (c' : Int) := by omega
        have hf7 : (0 : Int) ≤ (f1 : Int) := by omega
        replace G3 := Lib.hid G3
        have htl : Hid ((Ls.take f1).length = f1) := Lib.hid (by rw [List.length_take, G2.lenc.2.2]; omega)
        clear S10 G1 G2 hO2 hcap hli hBB c_0 c_1 c_2 bl hLR5 hA2
        rcases hA5.out with ⟨rfl, rfl, rfl⟩ | ⟨bb, rfl⟩
        · have hf0 : f1 = 0 := by omega
          subst hf0
          clear hA5
          go_wp2_with (at_builtin; refine Gro.wp2 (C := slC ndC) rfl (.tmp 31) (.tmp 33) 51 rfl (.slice none 0 0) 24 Tryd.underlying51 (by kernel_rfl) rfl (fun v hv z e => by simp [Value.cells] at hv; subst hv; cases e) rfl G3.out w8.heap.size l2 rfl (G3.out.st.cb 0 rfl) hIn.out (by have := hnn.out; have := htl.out; omega) (by have := hnn.out; have := htl.out; unfold maxLen; omega) ?_)
          intro av1 w9 G4 hmk
          obtain ⟨A9, c9, hav, _⟩ := G4.lr
          have hav2 : av1 = .slice A9 1 c9 := hav
          subst hav2
          clear hav
          replace G4 := Lib.hid G4
          clear G3 hIn hmk
          have hlt := hbn.out
          go_wp2
          go_roundw
          case rel => exact ⟨i + 1, F9.po1 L q, Ls.take 0 ++ [l2], A9, 1, c9, _, by omega, by go_num, (by first | rfl | trivial), G4.out, hmp2.out l2 hL3.out, hnx.out, hok2.out, hfl2.out, by omega⟩
          case measure => simp [intOf]; omega
        · clear hA5
          go_wp2_with (at_builtin; refine Gro.wp2 (C := slC ndC) rfl (.tmp 31) (.tmp 33) 51 rfl (.slice none 0 0) 24 Tryd.underlying51 (by kernel_rfl) rfl (fun v hv z e => by simp [Value.cells] at hv; subst hv; cases e) rfl G3.out w8.heap.size l2 rfl (G3.out.st.cb 0 rfl) hIn.out (by have := hnn.out; have := htl.out; omega) (by have := hnn.out; have := htl.out; unfold maxLen; omega) ?_)
          intro av1 w9 G4 hmk
          obtain ⟨A9, c9, hav, _⟩ := G4.lr
          have hk9 : Hid ((Ls.take f1 ++ [l2]).length ≤ i + 1) := Lib.hid (by rw [List.length_append, htl.out]; have := hnn.out; simp; omega)
          generalize (Ls.take f1 ++ [l2]).length = k9 at hav hk9
          subst hav
          replace G4 := Lib.hid G4
          clear G3 hIn hmk
          have hlt := hbn.out
          go_wp2
          go_roundw
          case rel => exact ⟨i + 1, F9.po1 L q, Ls.take f1 ++ [l2], A9, k9, c9, _, by omega, by go_num, (by first | rfl | trivial), G4.out, hmp2.out l2 hL3.out, hnx.out, hok2.out, hfl2.out, hk9.out⟩
          case measure => simp [intOf]; omega
      · refine oper_call (f := 24) (args := #[.slice A2 (n' - f1) (c' - f1)]) rfl (by kernel_rfl) ((hC.out _ _ _ _ _ hLR5.out hnn.out.1 htot.out).mono ?_)
        rintro e w7 ⟨vm, rfl, GM⟩
        obtain ⟨lm, obm, hvm, hLm, hOm, SM⟩ := GM.opn
        have hvm2 : vm = .slice lm.A lm.L.length lm.c := hvm
        subst hvm2
        have S7 := Lib.hid (S5.out.join SM)
        clear GM hvm SM S5
        replace hOm := Lib.hid hOm
        replace hLm := Lib.hid hLm
        refine ⟨_, rfl, hK.out _ _ S7.out.bel ?_⟩
        clear hK K'
        try simp only [Act.put, List.setIfInBounds_toArray, List.set_cons_zero, List.set_cons_succ]
        refine Wk.o (i := 1) at1 (by kernel_rfl) fun K' hK => ?_
        go_simp
        have S8 := Lib.hid (S7.out.alloc #[.int .i64 y.o, .string y.s, .int .i64 y.k] 53 (noLof rfl))
        clear S7
        refine hK.out _ _ S8.out.bel ?_
        clear hK K'
        try simp only [Act.put, List.setIfInBounds_toArray, List.set_cons_zero, List.set_cons_succ]
        have S9 : St W1 _ ((w7.heap.size, (ndC.cs y).toArray, 53) :: obm) [] := S8.out
        have G6 := Lib.hid (Gro.one (C := ndC) S9 (nd_in y))
        have hM := Lib.hid ((OBn.lr (bs := [(w7.heap.size, (ndC.cs y).toArray, 53)]) hOm.out S9).1)
        have hMl : Hid (lm.L.length ≤ 100000) := Lib.hid (by rw [hLm.out]; exact htot.out)
        clear S9 S8
        refine Wk.o (i := 6) at6 (by kernel_rfl) fun K' hK => ?_
        refine Gro.opm (.tmp 23) (.tmp 27) 23 rfl (.agg #[.int .i64 0, .string ⟨#[]⟩, .int .i64 0]) 32 Tryd.underlying23 (by kernel_rfl) rfl (fun v hv z e => by simp [Value.cells] at hv; subst e; simp at hv) rfl G6.out lm.L lm.A lm.c rfl hM.out (fun y _ => nd_in y) (by have := hMl.out; simp; omega) (by have := hMl.out; unfold maxLen; simp; omega) ?_
        intro av1 w8 G7
        obtain ⟨l2, ob2, hv2, hL2, hO2, S10⟩ := G7.opn
        have hv3 : av1 = .slice l2.A l2.L.length l2.c := hv2
        subst hv3
        have hL3 : Hid (l2.L = [y] ++ ((Ls.drop f1).map (fun l => l.L)).flatten) := Lib.hid (by rw [hL2, hLm.out])
        replace S10 := Lib.hid S10
        clear G6 G7 hv2 hL2 hM hMl hOm hLm
        refine hK.out _ _ S10.out.bel ?_
        clear hK K'
        try simp only [Act.put, List.setIfInBounds_toArray, List.set_cons_zero, List.set_cons_succ]
        refine Wk.o (i := 7) at7 (by kernel_rfl) fun K' hK => ?_
        go_simp
        refine hK.out _ _ S10.out.bel ?_
        clear hK K'
        try simp only [Act.put, List.setIfInBounds_toArray, List.set_cons_zero, List.set_cons_succ]
        refine Wk.done (by kernel_rfl) ?_
        try go_simp
        obtain ⟨BB, hBB⟩ : ∃ BB : List GBk, BB = ((bx, #[.int .i64 y.o, .string y.s, .int .i64 y.k], 53) :: bs) ++ (obm ++ ob2) := ⟨_, rfl⟩
        have G2 := G1.out.join S10.out
        rw [← hBB] at G2
        have hcap := OBn.cap hO2
        have hli : LI ndC w BB [] l2.A l2.L.length l2.L := OBn.li hO2 (fun p hp => by rw [hBB]; exact List.mem_append_right _ (List.mem_append_right _ hp))
        have G3 := (G2.cut G2.lenc.2.2 hf3).alloc #[.slice l2.A l2.L.length l2.c] 23 (noLof rfl)
        have hIn : Hid ((slC ndC).In w ((w8.heap.size, #[.slice l2.A l2.L.length l2.c], 23) :: BB) [] l2) := Lib.hid ⟨hli.mono (fun p hp => List.mem_cons_of_mem (w8.heap.size, #[.slice l2.A l2.L.length l2.c], 23) hp) (fun p hp => hp), hcap⟩
        have hf6 : (f1 : Int) ≤ (c' : Int) := by omega
        have hf7 : (0 : Int) ≤ (f1 : Int) := by omega
        replace G3 := Lib.hid G3
        have htl : Hid ((Ls.take f1).length = f1) := Lib.hid (by rw [List.length_take, G2.lenc.2.2]; omega)
        clear S10 G1 G2 hO2 hcap hli hBB c_0 c_1 c_2 bl hLR5 hA2
        rcases hA5.out with ⟨rfl, rfl, rfl⟩ | ⟨bb, rfl⟩
        · have hf0 : f1 = 0 := by omega
          subst hf0
          clear hA5
          go_wp2_with (at_builtin; refine Gro.wp2 (C := slC ndC) rfl (.tmp 31) (.tmp 33) 51 rfl (.slice none 0 0) 24 Tryd.underlying51 (by kernel_rfl) rfl (fun v hv z e => by simp [Value.cells] at hv; subst hv; cases e) rfl G3.out w8.heap.size l2 rfl (G3.out.st.cb 0 rfl) hIn.out (by have := hnn.out; have := htl.out; omega) (by have := hnn.out; have := htl.out; unfold maxLen; omega) ?_)
          intro av1 w9 G4 hmk
          obtain ⟨A9, c9, hav, _⟩ := G4.lr
          have hav2 : av1 = .slice A9 1 c9 := hav
          subst hav2
          clear hav
          replace G4 := Lib.hid G4
          clear G3 hIn hmk
          have hlt := hbn.out
          go_wp2
          go_roundw
          case rel => exact ⟨i + 1, F9.po1 L q, Ls.take 0 ++ [l2], A9, 1, c9, _, by omega, by go_num, (by first | rfl | trivial), G4.out, hmp2.out l2 hL3.out, hnx.out, hok2.out, hfl2.out, by omega⟩
          case measure => simp [intOf]; omega
        · clear hA5
          go_wp2_with (at_builtin; refine Gro.wp2 (C := slC ndC) rfl (.tmp 31) (.tmp 33) 51 rfl (.slice none 0 0) 24 Tryd.underlying51 (by kernel_rfl) rfl (fun v hv z e => by simp [Value.cells] at hv; subst hv; cases e) rfl G3.out w8.heap.size l2 rfl (G3.out.st.cb 0 rfl) hIn.out (by have := hnn.out; have := htl.out; omega) (by have := hnn.out; have := htl.out; unfold maxLen; omega) ?_)
          intro av1 w9 G4 hmk
          obtain ⟨A9, c9, hav, _⟩ := G4.lr
          have hk9 : Hid ((Ls.take f1 ++ [l2]).length ≤ i + 1) := Lib.hid (by rw [List.length_append, htl.out]; have := hnn.out; simp; omega)
          generalize (Ls.take f1 ++ [l2]).length = k9 at hav hk9
          subst hav
          replace G4 := Lib.hid G4
          clear G3 hIn hmk
          have hlt := hbn.out
          go_wp2
          go_roundw
          case rel => exact ⟨i + 1, F9.po1 L q, Ls.take f1 ++ [l2], A9, k9, c9, _, by omega, by go_num, (by first | rfl | trivial), G4.out, hmp2.out l2 hL3.out, hnx.out, hok2.out, hfl2.out, hk9.out⟩
          case measure => simp [intOf]; omega
    · obtain rfl : n = i := by omega
      have hL1 : L = [tr.pre] := by
        rw [hL, List.take_of_length_le (by rw [hln.out]; exact Nat.le_refl _)]
        exact hpo.out
      rw [hL1] at hmap hLl
      have hn1 : n' = 1 := hLl.symm
      subst hn1
      obtain ⟨b, o, x, rfl, hx, _, hat, hcs⟩ := hLR.get (i := 0) (by omega)
      have hxl : Hid (x.L = tr.pre.map toNd) := Lib.hid (by
        have h1 := congrArg (fun l => l[0]?) hmap
        simp only [List.getElem?_map, hx] at h1
        injection h1)
      have e0 : wr.cell? ⟨b, o, none⟩ = some (.slice x.A x.L.length x.c) := by
        have := hcs 0 _ rfl
        rwa [show o + 0 * (slC ndC).sz + 0 = o by omega] at this
      have hat2 := Lib.hid hat
      have hbl := Lib.hid G.st.bel
      have g1 : ¬ (n : Int) < (n : Int) := by omega
      clear hcs hat hx hin hlt hL hL1 hmap hLl hok hfl hni hLR G hnc hn'
      go_wp2
      go_ret
      exact ⟨x, rfl, hxl.out, hat2.out.2, hat2.out.1, hbl.out⟩
end Go.Proofs.YtjebpmjbdchdlaaDoor
namespace Go.Proofs.YtjebpmjbdchdlaaDoor
open Go.RowKit
set_option linter.unusedVariables false

/-- What a text is read as: the error, its place, the response, the nodes. -/
def parV (l : F9.Bs) : Int × Nat × ByteArray × List Nd :=
  if 65536 < l.length then (2, 0, ⟨#[]⟩, [])
  else match rdT l with
    | .error x => ((x.1 : Int), l.length - x.2.length, ⟨#[]⟩, [])
    | .ok (n, tr) => if 64 < tr.pre.length then (2, 0, ⟨#[]⟩, []) else (0, 0, ⟨n.toArray⟩, tr.pre.map toNd)
theorem rdT_wf {l : F9.Bs} {n : F9.Bs} {tr : F9.Tr} (h : rdT l = .ok (n, tr)) : tr.wf ∧ nameL n = true := by
  unfold rdT at h
  split at h
  · rename_i h1
    split at h
    · generalize F9.nx (F9.nx (F9.trm l)) = r2 at h
      have hfu := F9.fuel (6 * r2.length + 5) (.bin 1) r2 (fun k e => by injection e; omega) (fun _ _ e => by cases e) trivial (Nat.le_refl _)
      unfold F9.rdR at h
      cases hz : F9.run (6 * r2.length + 5) (.bin 1) r2 with
      | error y => rw [hz] at h; cases h
      | ok y =>
        obtain ⟨t1, r3⟩ := y
        have hw := (hfu.2 t1 r3 hz).1
        rw [hz] at h
        simp only at h
        by_cases hx : F9.fw r3 = []
        · rw [if_pos hx] at h
          simp only at h
          injection h with h
          injection h with ha hb
          subst ha hb
          exact ⟨hw, h1⟩
        · rw [if_neg hx] at h
          cases h
    · cases h
  · cases h
theorem rdT_err {l : F9.Bs} {x : F9.Er} (h : rdT l = .error x) : ¬ x.1 = 0 := by
  unfold rdT at h
  split at h
  · split at h
    · generalize F9.nx (F9.nx (F9.trm l)) = r2 at h
      have hfu := F9.fuel (6 * r2.length + 5) (.bin 1) r2 (fun k e => by injection e; omega) (fun _ _ e => by cases e) trivial (Nat.le_refl _)
      unfold F9.rdR at h
      cases hz : F9.run (6 * r2.length + 5) (.bin 1) r2 with
      | error y => rw [hz] at h; simp only at h; injection h with h; subst h; exact hfu.1 _ hz
      | ok y =>
        obtain ⟨t1, r3⟩ := y
        rw [hz] at h
        simp only at h
        by_cases hx : F9.fw r3 = []
        · rw [if_pos hx] at h; cases h
        · rw [if_neg hx] at h; simp only at h; injection h with h; subst h; simp
    · injection h with h; subst h; simp
  · injection h with h; subst h; simp
theorem LR_far {W : World} {g ty : Nat} {cs : Array Value} {A : Option Addr} {n : Nat} {L : List Nd} (h : LR ndC W A n L) (hc : Cb W g cs ty) (hs : cs.size ≤ 2) (i : Nat) (v : Value) : LR ndC (W.setCell ⟨g, i, none⟩ v) A n L := by
  refine ⟨h.len, ?_, fun x _ => ⟨trivial, trivial, trivial⟩⟩
  rcases h.mem with h0 | ⟨b, o, hA, hlt, hcs⟩
  · exact .inl h0
  · rcases Nat.eq_zero_or_pos n with h0 | h0
    · exact .inl h0
    have hl0 : 0 < L.length := by rw [h.len]; exact h0
    have hx : L[0]? = some L[0] := List.getElem?_eq_getElem hl0
    have hne : b ≠ g := by
      rintro rfl
      have h2 := hcs 0 _ hx 2 _ rfl
      rw [cell_of_row W b _ _ ty (0, 0) hc, Array.getElem?_eq_none (by omega)] at h2
      cases h2
    refine .inr ⟨b, o, hA, by simpa using hlt, fun k x hk j u hu => ?_⟩
    rw [World.cell?_of_block (Below.heap_setCell _ _ _ _ hne)]
    exact hcs k x hk j u hu
/-- What is returned for a text. -/
def ParR (t : ByteArray) (w : World) (e : Ending) (w' : World) : Prop := ∃ (s : ByteArray) (l : Sl Nd) (q : Nat) (er : Int), e = .returned (.tuple #[.agg #[.string s, l.v], .int .i64 q, .int .i64 er]) ∧ parV t.data.toList = (er, q, s, l.L) ∧ l.L.length ≤ l.c ∧ LR ndC w' l.A l.L.length l.L ∧ Below w.heap.size w w'
theorem res_fp (W : World) (tmps : Array Value) (g : Nat) {v0 v1 a b : Value} (h2 : tmps.getD 2 undef = .pointer (some ⟨g, 0, none⟩)) (h3 : tmps.getD 3 undef = a) (h4 : tmps.getD 4 undef = b) (h : Cb W g #[v0, v1] 25) :
    (results Tryd.f5 tmps).run Tryd.prog W = .ok (.tuple #[.agg #[v0, v1], a, b]) W := by
  have c0 : W.cell? ⟨g, 0, none⟩ = some v0 := h.cell rfl
  have c1 : W.cell? ⟨g, 1, none⟩ = some v1 := h.cell rfl
  have h2' : tmps[2]?.getD undef = .pointer (some ⟨g, 0, none⟩) := by rw [← h2]; simp [Array.getD_eq_getD_getElem?]
  have h3' : tmps[3]?.getD undef = a := by rw [← h3]; simp [Array.getD_eq_getD_getElem?]
  have h4' : tmps[4]?.getD undef = b := by rw [← h4]; simp [Array.getD_eq_getD_getElem?]
  simp [results, Tryd.results5, go_sem, h2', h3', h4', c0, c1]

set_option maxRecDepth 100000 in
set_option maxHeartbeats 4000000 in
theorem parse_any (t : ByteArray) (w : World) (ht : t.size ≤ 1000000) (hO : Og w) : Calls Tryd.prog 5 #[.string t] w fun e w' => ParR t w e w' := by
  have hlen : t.data.toList.length = t.size := toList_len t
  by_cases hb : 65536 < t.size
  · have g1 : (65536 : Int) < (t.size : Int) := by omega
    have hp : Hid (parV t.data.toList = (2, 0, ⟨#[]⟩, [])) := Lib.hid (by unfold parV; rw [hlen, if_pos hb])
    have S0 := Lib.hid ((St.new w).alloc #[.string ⟨#[]⟩, .slice none 0 0] 25 (noLof rfl))
    clear hO hlen hb
    go_enter Tryd.func5, Tryd.ntmps5
    go_wp2
    exact bodyPost_ret (res_fp _ _ w.heap.size (v0 := .string ⟨#[]⟩) (v1 := .slice none 0 0) (a := .int .i64 0) (b := .int .i64 2) rfl rfl rfl (S0.out.cb 0 rfl)) rfl ⟨⟨#[]⟩, ⟨none, 0, []⟩, 0, 2, rfl, hp.out, Nat.le_refl _, LR.nil_ _ _ _, S0.out.bel⟩
  · have g1 : ¬ (65536 : Int) < (t.size : Int) := by omega
    have hspec : Hid (parV t.data.toList = match rdT t.data.toList with
      | .error x => ((x.1 : Int), t.size - x.2.length, ⟨#[]⟩, [])
      | .ok (n, tr) => if 64 < tr.pre.length then (2, 0, ⟨#[]⟩, []) else (0, 0, ⟨n.toArray⟩, tr.pre.map toNd)) := Lib.hid (by unfold parV; rw [hlen, if_neg hb])
    have hF := Lib.hid (fun rb fs W (S : St w W ((rb, rdC t ⟨#[]⟩ 0 ⟨#[]⟩ none 0 0 none 0 0, 35) :: fs) []) => formula_any t rb fs w W S hO (by omega))
    have hOo := Lib.hid hO
    have ht2 := Lib.hid (show t.size ≤ 100000 by omega)
    have S1 := ((St.new w).alloc #[.string ⟨#[]⟩, .slice none 0 0] 25 (noLof rfl))
    have S2 := Lib.hid (S1.allocAt (w.heap.size + 1) (rdC t ⟨#[]⟩ 0 ⟨#[]⟩ none 0 0 none 0 0) 35 (noLof rfl) (by simp))
    clear S1 hO hlen hb
    go_enter Tryd.func5, Tryd.ntmps5
    go_wp2_with fail
    obtain ⟨fb, hfb⟩ : ∃ b, b = w.heap.size := ⟨_, rfl⟩
    obtain ⟨rb, hrb⟩ : ∃ b, b = w.heap.size + 1 := ⟨_, rfl⟩
    rw [← hrb, ← hfb] at S2
    rw [← hrb]
    refine (hF.out _ _ _ S2.out).mono ?_
    rw [← hfb]
    clear S2 hF hfb hrb
    rintro e w5 (⟨x, hx, rfl, nm', N, Wt, R⟩ | ⟨rfl, n, tr, r', hx, R⟩)
    · have hps := R.pos
      obtain ⟨xw, p, NA, WA, nc, wc, hRI, hwc, hrb, c_1, c_2, c_4, c_5, hL1, hL2⟩ := R.see
      have hp2 : p = t.size - x.2.length := by have := hRI.rl; omega
      obtain ⟨q, hq⟩ : ∃ q, q = t.size - x.2.length := ⟨_, rfl⟩
      rw [← hq] at hp2
      subst hp2
      obtain ⟨x1, p1, l1, ob1, l2, ob2, k1, k2, k3, k4, k5, S⟩ := R
      have S3 := S.prm (permY _ _ _ _ _).symm
      have hsp : Hid (parV t.data.toList = ((x.1 : Int), p, ⟨#[]⟩, [])) := Lib.hid (by rw [hspec.out, hx]; simp only; rw [← hq])
      have hx1 : Hid ((x.1 : Int) = (x.1 : Int)) := Lib.hid rfl
      have hx0 : ¬ x.1 = 0 := by
        intro h0
        have := rdT_err hx
        exact this h0
      have hxn : ((x.1 : Int) == 0) = false := by rw [beq_eq_false_iff_ne]; omega
      have hxm : ¬ ((x.1 : Int) = 0) := by omega
      obtain ⟨ec, hec⟩ : ∃ ec : Int, ec = (x.1 : Int) := ⟨_, rfl⟩
      rw [← hec] at hxn hxm hsp ⊢
      replace hec := Lib.hid hec
      have f_0 := S3.f 0 0 rfl
      have f_1 := S3.f 0 1 rfl
      have b_0 := S3.cl 0 0 rfl rfl
      have b_1 := S3.cl 0 1 rfl rfl
      have bl := S3.lt 0 rfl
      have S4 := Lib.hid ((S3.set 0 0 (.string ⟨#[]⟩) rfl (fun _ => by simp)).set 0 1 (.slice none 0 0) rfl (fun _ => by simp))
      clear S S3 hx hspec hRI hwc c_1 c_4 c_5 hL1 hL2 hps hq k1 k2 k3 k4 k5 hx0 ht
      go_upto_region 6 with fail
      go_region
      go_wp2
      exact bodyPost_ret (res_fp _ _ fb (v0 := .string ⟨#[]⟩) (v1 := .slice none 0 0) (a := .int .i64 p) (b := .int .i64 ec) rfl rfl rfl (S4.out.drew.cb 0 rfl)) rfl ⟨⟨#[]⟩, ⟨none, 0, []⟩, p, ec, rfl, hsp.out, Nat.le_refl _, LR.nil_ _ _ _, S4.out.bel.drew⟩
    · have hwf := (rdT_wf hx).1
      obtain ⟨xw, p, NA, WA, nc, wc, hRI, hwc, hrb, c_1, c_2, c_4, c_5, hL1, hL2⟩ := R.see
      have c_3 := (R.resp ByteArray.empty).2.2.2
      have hpl : tr.post.length = tr.pre.length := F9.len_post tr
      obtain ⟨x1, p1, l1, ob1, l2, ob2, k1, k2, k3, k4, k5, S⟩ := R
      have S3 := S.prm (permY _ _ _ _ _).symm
      have f_0 := S3.f 0 0 rfl
      have f_1 := S3.f 0 1 rfl
      have b_0 := S3.cl 0 0 rfl rfl
      have b_1 := S3.cl 0 1 rfl rfl
      have bl := S3.lt 0 rfl
      have hO5 := hOo.out.bel S.bel
      by_cases h64 : 64 < tr.pre.length
      · have hsp : Hid (parV t.data.toList = (2, 0, ⟨#[]⟩, [])) := Lib.hid (by rw [hspec.out, hx]; simp only; rw [if_pos h64])
        have g2 : (64 : Int) < (tr.post.length : Int) := by omega
        generalize tr.post.length = pl at *
        have S4 := Lib.hid ((S3.set 0 0 (.string ⟨#[]⟩) rfl (fun _ => by simp)).set 0 1 (.slice none 0 0) rfl (fun _ => by simp))
        clear S S3 hx hspec hRI hwc c_1 c_2 c_5 hL1 hL2 k1 k2 k3 k4 k5 ht hwf c_3 hpl h64 hO5
        go_wp2
        exact bodyPost_ret (res_fp _ _ fb (v0 := .string ⟨#[]⟩) (v1 := .slice none 0 0) (a := .int .i64 0) (b := .int .i64 2) rfl rfl rfl (S4.out.cb 0 rfl)) rfl ⟨⟨#[]⟩, ⟨none, 0, []⟩, 0, 2, rfl, hsp.out, Nat.le_refl _, LR.nil_ _ _ _, S4.out.bel⟩
      · have hsp : Hid (parV t.data.toList = (0, 0, ⟨n.toArray⟩, tr.pre.map toNd)) := Lib.hid (by rw [hspec.out, hx]; simp only; rw [if_neg h64])
        have hOr := Lib.hid (fun V (hV : Below w5.heap.size w5 V) => order_any tr hwf NA tr.post.length nc V (hL1.bel hV) (by omega) (hO5.bel hV))
        have g2 : ¬ (64 : Int) < (tr.post.length : Int) := by omega
        generalize tr.post.length = pl at *
        generalize (⟨n.toArray⟩ : ByteArray) = ns at *
        replace S3 := Lib.hid S3
        clear S hx hspec hRI hwc c_1 c_2 c_5 hL1 hL2 k1 k2 k3 k4 k5 ht hwf hpl h64 hO5
        go_upto_region 9 with fail
        have hne : fb ≠ rb := (List.pairwise_cons.1 S3.out.nd).1 _ List.mem_cons_self
        have hbase := Lib.hid (St.new w5)
        refine RW.begin (Z := []) (S := (fun V => Below w.heap.size w V ∧ V.cell? ⟨rb, 3, none⟩ = some (.string ns) ∧ V.cell? ⟨rb, 4, none⟩ = some (.slice NA pl nc))) (by kernel_rfl) ?_ hbase.out ?_
        · exact ⟨by kernel_rfl, zis_nil, by decide, by decide, nol_nil, (fun _ _ h => ⟨S3.out.bel.trans (h.bel.mono S3.out.bel.size), bel_cell h.bel c_3, bel_cell h.bel c_4⟩)⟩
        intro hzk
        refine RW.t (i := 0) (v := .pointer (some ⟨rb, 3, none⟩)) (some 25) at0 (hy := fun _ _ => by go_simp) (h := ?_)
        refine RW.t (i := 1) (v := .string ns) (some 26) at1 (hy := fun V hS => by (have k0 := hS.2.1; clear hS; go_simp)) (h := ?_)
        refine RW.t (i := 2) (v := .pointer (some ⟨rb, 4, none⟩)) (some 27) at2 (hy := fun _ _ => by go_simp) (h := ?_)
        refine RW.t (i := 3) (v := .slice NA pl nc) (some 28) at3 (hy := fun V hS => by (have k0 := hS.2.2; clear hS; go_simp)) (h := ?_)
        refine RW.tail hzk.out (by kernel_rfl) ?_
        intro gs' w6 hgs' hS Sb
        obtain rfl := len0 hgs'
        simp only [mark, fill, Act.put, List.setIfInBounds_toArray, List.set_cons_zero, List.set_cons_succ]
        have hb6 := Lib.hid Sb.bel
        clear hgs' hzk hbase Sb hS f_0 f_1 b_0 b_1 bl
        refine Wk.o (i := 4) at4 (by kernel_rfl) fun K' hK => ?_
        refine oper_call (f := 10) (args := #[.slice NA pl nc]) rfl (by kernel_rfl) ((hOr.out _ hb6.out).mono ?_)
        rintro e w7 ⟨l, rfl, hl1, hl2, hl3, hb7⟩
        have hb8 := hb6.out.trans (hb7.mono hb6.out.size)
        have S7 := S3.out.call hb8
        have hc7 : w7.cell? ⟨rb, 3, none⟩ = some (.string ns) ∧ w7.cell? ⟨rb, 4, none⟩ = some (.slice NA pl nc) := ⟨bel_cell hb8 c_3, bel_cell hb8 c_4⟩
        refine ⟨.slice l.A l.L.length l.c, rfl, hK.out _ _ ⟨S7.bel, hc7⟩ ?_⟩
        replace hl1 := Lib.hid hl1
        clear hK K' hb8 hb6 hOr hb7 S3 c_3 c_4
        try simp only [Act.put, List.setIfInBounds_toArray, List.set_cons_zero, List.set_cons_succ]
        refine Wk.o (i := 5) at5 (by kernel_rfl) fun K' hK => ?_
        go_simp
        refine hK.out _ _ ⟨S7.bel, hc7⟩ ?_
        clear hK K'
        try simp only [Act.put, List.setIfInBounds_toArray, List.set_cons_zero, List.set_cons_succ]
        have f_0 := S7.f 0 0 rfl
        have f_1 := S7.f 0 1 rfl
        have b_0 := S7.cl 0 0 rfl rfl
        have b_1 := S7.cl 0 1 rfl rfl
        have bl := S7.lt 0 rfl
        have S8 := ((S7.set 0 0 (.string ns) rfl (fun _ => by simp)).set 0 1 (.slice l.A l.L.length l.c) rfl (fun _ => by simp))
        have hlr8 := Lib.hid (LR_far (LR_far hl3 (S7.cb 0 rfl) (Nat.le_refl _) 0 (.string ns)) ((S7.set 0 0 (.string ns) rfl (fun _ => by simp)).cb 0 rfl) (by simp) 1 (.slice l.A l.L.length l.c))
        have hS8 : Hid (Below w.heap.size w ((w7.setCell ⟨fb, 0, none⟩ (.string ns)).setCell ⟨fb, 1, none⟩ (.slice l.A l.L.length l.c)) ∧ ((w7.setCell ⟨fb, 0, none⟩ (.string ns)).setCell ⟨fb, 1, none⟩ (.slice l.A l.L.length l.c)).cell? ⟨rb, 3, none⟩ = some (.string ns) ∧ ((w7.setCell ⟨fb, 0, none⟩ (.string ns)).setCell ⟨fb, 1, none⟩ (.slice l.A l.L.length l.c)).cell? ⟨rb, 4, none⟩ = some (.slice NA pl nc)) := Lib.hid ⟨S8.bel, by rw [World.cell?_setCell_far _ _ _ _ hne, World.cell?_setCell_far _ _ _ _ hne]; exact hc7.1, by rw [World.cell?_setCell_far _ _ _ _ hne, World.cell?_setCell_far _ _ _ _ hne]; exact hc7.2⟩
        replace S8 := Lib.hid S8
        replace hl2 := Lib.hid hl2
        clear S7 hl3 hc7
        refine Wk.o (i := 6) at6 (by kernel_rfl) fun K' hK => ?_
        go_simp
        refine hK.out _ _ hS8.out ?_
        clear hK K'
        try simp only [Act.put, List.setIfInBounds_toArray, List.set_cons_zero, List.set_cons_succ]
        refine Wk.o (i := 7) at7 (by kernel_rfl) fun K' hK => ?_
        go_simp
        refine hK.out _ _ hS8.out ?_
        clear hK K'
        try simp only [Act.put, List.setIfInBounds_toArray, List.set_cons_zero, List.set_cons_succ]
        refine Wk.o (i := 8) at8 (by kernel_rfl) fun K' hK => ?_
        go_simp
        refine hK.out _ _ hS8.out ?_
        clear hK K'
        try simp only [Act.put, List.setIfInBounds_toArray, List.set_cons_zero, List.set_cons_succ]
        refine Wk.done (by kernel_rfl) ?_
        try go_simp
        try go_wp2
        exact bodyPost_ret (res_fp _ _ fb (v0 := .string ns) (v1 := .slice l.A l.L.length l.c) (a := .int .i64 0) (b := .int .i64 0) rfl rfl rfl (S8.out.cb 0 rfl)) rfl ⟨ns, l, 0, 0, rfl, by rw [hl1.out]; exact hsp.out, hl2.out, hlr8.out, S8.out.bel⟩
end Go.Proofs.YtjebpmjbdchdlaaDoor
namespace Go.Proofs.YtjebpmjbdchdlaaDoor
open Go.RowKit
set_option linter.unusedVariables false

/-- Bytes as a text. -/
def bsA (l : F9.Bs) : ByteArray := ⟨l.toArray⟩
theorem bsA_app (a b : F9.Bs) : bsA a ++ bsA b = bsA (a ++ b) := by
  apply ByteArray.ext
  apply Array.ext'
  simp [bsA, ByteArray.data_append]
theorem bsA_size (a : F9.Bs) : (bsA a).size = a.length := by simp [bsA, ByteArray.size]
theorem bsA_lit (a : List UInt8) : (⟨a.toArray⟩ : ByteArray) = bsA a := rfl
theorem dig_dg (k : Nat) (h : k ≤ 9) : Lib.decDigits k = F9.dg k := Lib.decDigits_one (by omega)
theorem og_at {W : World} (h : Og W) (k : Nat) (v : Value) (e : opsC[k]? = some v) : W.cell? ⟨0, k, none⟩ = some v := h.2 k v e

set_option maxRecDepth 100000 in
set_option maxHeartbeats 4000000 in
theorem leaf_any (x : F9.Nd) (w : World) (hx : F9.lfN x) (hs : x.nm.length ≤ 10000) (hO : Og w) : Calls Tryd.prog 53 #[.agg #[.int .i64 (x.op : Nat), .string (bsA x.nm), .int .i64 (x.k : Nat)]] w fun e w' => e = .returned (.string (bsA (F9.lfW x))) ∧ Below w.heap.size w w' := by
  have hsz : (bsA x.nm).size ≤ 10000 := by rw [bsA_size]; exact hs
  obtain ⟨op, nm, k⟩ := x
  obtain ⟨rv, hrv⟩ : ∃ r, r = bsA (F9.lfW ⟨op, nm, k⟩) := ⟨_, rfl⟩
  rw [← hrv]
  obtain ⟨s, hse⟩ : ∃ s, s = bsA nm := ⟨_, rfl⟩
  simp only at hsz ⊢
  rw [← hse] at hsz ⊢
  rcases hx with ⟨h1, _, h3⟩ | ⟨h1, _, h3, h4⟩ | ⟨h1, h2, h3⟩
  · simp only at h1 h3
    subst h1
    subst h3
    have hr : rv = s := by rw [hrv, hse]; rfl
    subst hr
    clear hrv hse hs hO
    go_enter Tryd.func53, Tryd.ntmps53
    go_wp2
    go_ret
    exact ⟨rfl, (Below.refl w.heap.size w).alloc (Nat.le_refl _) _⟩
  · simp only at h1 h3 h4
    subst h1
    obtain ⟨p0, hp0⟩ : ∃ p0 : ByteArray, p0 = ⟨#[112, 111, 119, 101, 114]⟩ := ⟨_, rfl⟩
    obtain ⟨d, hd⟩ : ∃ d : ByteArray, d = bsA (F9.dg k) := ⟨_, rfl⟩
    have hr : rv = ((((p0 ++ ⟨#[40]⟩) ++ s) ++ ⟨#[44, 32]⟩) ++ d) ++ ⟨#[41]⟩ := by
      rw [hrv, hse, hp0, hd, bsA_lit [112, 111, 119, 101, 114], bsA_lit [40], bsA_lit [44, 32], bsA_lit [41], bsA_app, bsA_app, bsA_app, bsA_app, bsA_app]
      simp [F9.lfW]
    have hI : Hid (∀ W, Calls Tryd.prog 55 #[.int .i64 (k : Nat)] W fun e w' => e = .returned (.string d) ∧ w' = W) := Lib.hid fun W => by
      have := Tryd.strconv_Itoa_small k (by omega) W
      rw [dig_dg k (by omega)] at this
      rw [hd]; exact this
    have hp1 : p0.size ≤ 10 := by rw [hp0]; decide
    have hd1 : d.size ≤ 10 := by rw [hd, bsA_size]; simp [F9.dg]
    have o0 : w.cell? ⟨0, 12, none⟩ = some (.string p0) := by rw [hp0]; exact hO.2 12 _ rfl
    have hz0 := hO.1
    have hb := Lib.hid hO
    have S0 := Lib.hid ((St.new w).allocAt w.heap.size #[.int .i64 2, .string s, .int .i64 (k : Nat)] 53 (noLof rfl) rfl)
    obtain ⟨bx, hbx⟩ : ∃ b, b = w.heap.size := ⟨_, rfl⟩
    have ho0 := Lib.hid o0
    rw [← hbx] at S0
    subst hr
    replace hd := Lib.hid hd
    replace hp0 := Lib.hid hp0
    clear hrv hs hO hse o0
    go_enter Tryd.func53, Tryd.ntmps53
    go_upto_region 5 with fail
    rw [← hbx]
    obtain ⟨W1, hW1⟩ : ∃ W1, W1 = w.alloc (.cells #[.int .i64 2, .string s, .int .i64 (k : Nat)] 53) := ⟨_, rfl⟩
    rw [← hW1] at S0 ⊢
    have c_0 := S0.out.cl 0 0 rfl rfl
    have c_1 := S0.out.cl 0 1 rfl rfl
    have c_2 := S0.out.cl 0 2 rfl rfl
    have hlt := S0.out.lt 0 rfl
    have hO1 := hb.out.bel S0.out.bel
    have c_o : W1.cell? ⟨0, 12, none⟩ = some (.string p0) := by rw [hp0.out]; exact hO1.2 12 _ rfl
    clear hW1 hbx
    have hbase := Lib.hid (St.new W1)
    refine RW.begin (Z := []) (S := (fun W => Below W1.heap.size W1 W)) (by kernel_rfl) ?_ hbase.out ?_
    · exact ⟨by kernel_rfl, zis_nil, by decide, by decide, nol_nil, (fun _ _ h => h.bel)⟩
    intro hzk
    refine RW.t (i := 0) (v := .pointer (some ⟨bx, 0, none⟩)) (some 11) at0 (hy := fun _ _ => by go_simp) (h := ?_)
    refine RW.t (i := 1) (v := .int .i64 2) (some 12) at1 (hy := fun W hS => by (have k0 := bel_cell hS c_0; clear hS; go_simp)) (h := ?_)
    refine RW.t (i := 2) (v := .pointer (some ⟨0, 12, none⟩)) (some 13) at2 (hy := fun W hS => by (have g0 : 0 < W.heap.size := Nat.lt_of_lt_of_le hO1.1 hS.size; clear hS; go_simp)) (h := ?_)
    refine RW.t (i := 3) (v := .pointer (some ⟨0, 12, none⟩)) (some 14) at3 (hy := fun _ _ => by go_simp) (h := ?_)
    refine RW.t (i := 4) (v := .string p0) (some 15) at4 (hy := fun W hS => by (have k0 := bel_cell hS c_o; clear hS; go_simp)) (h := ?_)
    refine RW.t (i := 5) (v := .string (p0 ++ ⟨#[40]⟩)) (some 16) at5 (hy := fun _ _ => by (go_simp; try omega)) (h := ?_)
    refine RW.t (i := 6) (v := .pointer (some ⟨bx, 1, none⟩)) (some 17) at6 (hy := fun _ _ => by go_simp) (h := ?_)
    refine RW.t (i := 7) (v := .string s) (some 18) at7 (hy := fun W hS => by (have k0 := bel_cell hS c_1; clear hS; go_simp)) (h := ?_)
    refine RW.t (i := 8) (v := .string ((p0 ++ ⟨#[40]⟩) ++ s)) (some 19) at8 (hy := fun _ _ => by (go_simp; try omega)) (h := ?_)
    refine RW.t (i := 9) (v := .string (((p0 ++ ⟨#[40]⟩) ++ s) ++ ⟨#[44, 32]⟩)) (some 20) at9 (hy := fun _ _ => by (go_simp; try omega)) (h := ?_)
    refine RW.t (i := 10) (v := .pointer (some ⟨bx, 2, none⟩)) (some 21) at10 (hy := fun _ _ => by go_simp) (h := ?_)
    refine RW.t (i := 11) (v := .int .i64 (k : Nat)) (some 22) at11 (hy := fun W hS => by (have k0 := bel_cell hS c_2; clear hS; go_simp)) (h := ?_)
    refine RW.c (i := 12) (args := #[.int .i64 (k : Nat)]) (some 23) hzk.out at12 (hx := fun _ => by kernel_rfl) (h := fun W S => (hI.out W).mono ?_)
    rintro e w9 ⟨rfl, rfl⟩
    refine ⟨Below.refl _ _, _, [], rfl, (fun r hr => by cases hr), ?_⟩
    refine RW.t (i := 13) (v := .string ((((p0 ++ ⟨#[40]⟩) ++ s) ++ ⟨#[44, 32]⟩) ++ d)) (some 24) at13 (hy := fun _ _ => by (go_simp; try omega)) (h := ?_)
    refine RW.t (i := 14) (v := .string (((((p0 ++ ⟨#[40]⟩) ++ s) ++ ⟨#[44, 32]⟩) ++ d) ++ ⟨#[41]⟩)) (some 25) at14 (hy := fun _ _ => by (go_simp; try omega)) (h := ?_)
    refine RW.tail hzk.out (by kernel_rfl) ?_
    intro gs' w5 hgs' hS Sb
    obtain rfl := len0 hgs'
    simp only [mark, fill, Act.put, List.setIfInBounds_toArray, List.set_cons_zero, List.set_cons_succ]
    refine Wk.o (i := 15) at15 (by kernel_rfl) fun K' hK => ?_
    go_simp
    refine hK.out _ _ hS ?_
    clear hK K'
    try simp only [Act.put, List.setIfInBounds_toArray, List.set_cons_zero, List.set_cons_succ]
    refine Wk.done (by kernel_rfl) ?_
    have S5 := Lib.hid ((S0.out.call hS).bel)
    clear Sb hgs' hzk hbase hS S0 c_0 c_1 c_2 c_o hlt hO1 hb
    try go_simp
    go_wp2
    go_ret
    exact ⟨rfl, S5.out⟩
  · simp only at h1 h2 h3
    subst h3
    have hb := Lib.hid hO
    have hz0 := hO.1
    rcases h1 with rfl | rfl
    · obtain ⟨p0, hp0⟩ : ∃ p0 : ByteArray, p0 = ⟨#[49]⟩ := ⟨_, rfl⟩
      have hr : rv = p0 := by rw [hrv, hp0]; rfl
      have o0 : w.cell? ⟨0, 18, none⟩ = some (.string p0) := by rw [hp0]; exact hO.2 18 _ rfl
      subst hr
      clear hrv hse hs hO hp0
      go_enter Tryd.func53, Tryd.ntmps53
      go_wp2
      go_ret
      exact ⟨rfl, (Below.refl w.heap.size w).alloc (Nat.le_refl _) _⟩
    · obtain ⟨p0, hp0⟩ : ∃ p0 : ByteArray, p0 = ⟨#[48]⟩ := ⟨_, rfl⟩
      have hr : rv = p0 := by rw [hrv, hp0]; rfl
      have o0 : w.cell? ⟨0, 24, none⟩ = some (.string p0) := by rw [hp0]; exact hO.2 24 _ rfl
      subst hr
      clear hrv hse hs hO hp0
      go_enter Tryd.func53, Tryd.ntmps53
      go_wp2
      go_ret
      exact ⟨rfl, (Below.refl w.heap.size w).alloc (Nat.le_refl _) _⟩
end Go.Proofs.YtjebpmjbdchdlaaDoor
