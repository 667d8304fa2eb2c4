/- The reference: a quoted field. -/
import Derived.Test.YtanipgjojacbfaaDoorC2
namespace Go.Proofs.YtanipgjojacbfaaDoor
open Go.RowKit
set_option linter.unusedVariables false

theorem upd_line0 {s : ByteArray} {d : UInt8} {b p : Nat} {w W : World} (h : Upd b (rrC s d p) rrT w W) (hl : lnP s (p + 1) = lnP s p + 1) : Upd b (rrC s d (p + 1)) rrT w ((W.setCell ⟨b, 1, none⟩ (.int .i64 ((p : Int) + 1))).setCell ⟨b, 2, none⟩ (.int .i64 (((lnP s p : Nat) : Int) + 1))) := by
  have h1 := ((h.set 1 (.int .i64 ((p + 1 : Nat) : Int))).set 2 (.int .i64 ((lnP s p + 1 : Nat) : Int)))
  have h2 : rrC s d (p + 1) = ((rrC s d p).setIfInBounds 1 (.int .i64 ((p + 1 : Nat) : Int))).setIfInBounds 2 (.int .i64 ((lnP s p + 1 : Nat) : Int)) := by
    unfold rrC
    rw [hl]
    rfl
  rw [h2, show (p : Int) + 1 = ((p + 1 : Nat) : Int) by omega, show ((lnP s p : Nat) : Int) + 1 = ((lnP s p + 1 : Nat) : Int) by omega]
  exact h1
theorem upd_at {s : ByteArray} {d : UInt8} {b p : Nat} {w W : World} (h : Upd b (rrC s d p) rrT w W) (hl : lnP s (p + 1) = lnP s p) : Upd b (rrC s d (p + 1)) rrT w (W.setCell ⟨b, 1, none⟩ (.int .i64 ((p : Int) + 1))) := by
  have h1 := h.set 1 (.int .i64 ((p + 1 : Nat) : Int))
  have h2 : rrC s d (p + 1) = (rrC s d p).setIfInBounds 1 (.int .i64 ((p + 1 : Nat) : Int)) := by
    unfold rrC
    rw [hl]
    rfl
  rw [h2, show (p : Int) + 1 = ((p + 1 : Nat) : Int) by omega]
  exact h1
theorem conv1 (W : World) (g : Nat) (hg : W.heap.size = g) (c : UInt8) : (convert 36 9 (.slice (some ⟨g, 0, none⟩) 1 1)).run Tryd.prog (W.alloc (.cells #[.int .u8 (c.toNat : Int)] 5)) =
    .ok (.string (bA [c])) (W.alloc (.cells #[.int .u8 (c.toNat : Int)] 5)) := by
  subst hg
  refine run_convert_bytes_back (P := Tryd.prog) _ 36 9 5 ⟨W.heap.size, 0, none⟩ 1 [c] Tryd.underlying36 Tryd.underlying5 Tryd.underlying9 ?_
  intro j hj
  have hj0 : j = 0 := by simpa using hj
  subst hj0
  have : (⟨W.heap.size, 0, none⟩ : Addr).add 0 = ⟨W.heap.size, 0, none⟩ := rfl
  rw [this, cell_of_row _ W.heap.size 0 #[.int .u8 (c.toNat : Int)] 5 (0, 0) (heap_alloc_new W _)]
  rfl
/-- Where the reference's reader stands. -/
def posR (W : World) (b : Nat) : Nat := match W.cell? ⟨b, 1, none⟩ with
  | some (.int _ z) => z.toNat
  | _ => 0
theorem posR_of {W : World} {b i : Nat} {s : ByteArray} {d : UInt8} (h : Cb W b (rrC s d i) rrT) : posR W b = i := by
  unfold posR; rw [rr1 h]; simp
theorem bA_app (u v : Bs) : bA u ++ bA v = bA (u ++ v) := by
  apply ByteArray.ext
  show (bA u ++ bA v).data = (u ++ v).toArray
  rw [ByteArray.data_append]
  show u.toArray ++ v.toArray = (u ++ v).toArray
  simp
/-- What a quoted field leaves in the reference. -/
def QuoR (s : ByteArray) (d : UInt8) (b : Nat) (r : Option (Bs × Bs)) (w : World) (e : Ending) (w' : World) : Prop := match r with
  | some (v, k) => e = .returned (.tuple #[.string (bA v), .bool true]) ∧ Upd b (rrC s d (s.size - k.length)) rrT w w'
  | none => e = .returned (.tuple #[.string ⟨#[]⟩, .bool false]) ∧ Upd b (rrC s d s.size) rrT w w'

set_option maxRecDepth 100000 in
set_option maxHeartbeats 2000000 in
theorem rquoted_any (s : ByteArray) (d : UInt8) (p b : Nat) (w : World) (h : Cb w b (rrC s d p) rrT) (hp : p ≤ s.size) (hs : s.size ≤ 65536) :
    Calls Tryd.prog 51 #[.pointer (some ⟨b, 0, none⟩)] w (QuoR s d b (qS (s.data.toList.drop p)) w) := by
  generalize hQ : QuoR s d b (qS (s.data.toList.drop p)) w = Q
  generalize hr0 : qS (s.data.toList.drop p) = r0 at hQ
  have hU := Lib.hid (Upd.refl h)
  have hq1 : Hid (∀ v k w', r0 = some (v, k) → Upd b (rrC s d (s.size - k.length)) rrT w w' → Q (.returned (.tuple #[.string (bA v), .bool true])) w') := Lib.hid fun v k w' e hu => by subst e; rw [← hQ]; exact ⟨rfl, hu⟩
  have hq2 : Hid (∀ w', r0 = none → Upd b (rrC s d s.size) rrT w w' → Q (.returned (.tuple #[.string ⟨#[]⟩, .bool false])) w') := Lib.hid fun w' e hu => by subst e; rw [← hQ]; exact ⟨rfl, hu⟩
  replace hr0 := Lib.hid hr0
  have hsh := Lib.hid hs
  have hph := Lib.hid hp
  clear h hQ hs hp
  go_enter Tryd.func51, Tryd.ntmps51
  go_wp2
  go_loopw [4, 5] (fun sv cv wr => ∃ (i : Nat) (u : Bs), i ≤ s.size ∧ u.length ≤ i ∧ sv = .string (bA u) ∧ Upd b (rrC s d i) rrT w wr ∧ r0 = (qS (s.data.toList.drop i)).map (fun p => (u ++ p.1, p.2))) (fun _ _ wr => s.size - posR wr b)
  case atStart => exact ⟨p, [], hph.out, Nat.zero_le _, rfl, hU.out, by rw [← hr0.out]; cases qS (s.data.toList.drop p) <;> rfl⟩
  case round =>
    clear hU
    obtain ⟨i, u, his, hul, rfl, hu, hr⟩ := hrel
    have c0 := rr0 hu.here
    have c1 := rr1 hu.here
    have hmeas := Lib.hid (posR_of hu.here)
    replace hu := Lib.hid hu
    replace hr := Lib.hid hr
    have hi0 : (0 : Int) ≤ (i : Int) := by omega
    have hiz : (i : Int) ≤ 65536 := by have := hsh.out; omega
    cases hd : s.data.toList.drop i with
    | nil =>
      have he := drop_nil his hd
      have g3 : ¬ i < s.size := by omega
      have hr2 : Hid (r0 = none) := Lib.hid (by rw [hr.out, hd]; rfl)
      have hux : Hid (∀ W, Upd b (rrC s d i) rrT w W → Upd b (rrC s d s.size) rrT w W) := Lib.hid fun W h => by rw [← he]; exact h
      clear hd he hr
      go_wp2
      go_quiet (fail)
      have hq := Lib.hid (hq2.out _ hr2.out (hux.out _ (hu.out.drewN nq)))
      generalize wr.drewN nq = w1 at *
      clear hq1 hq2
      go_wp2
      exact hq.out
    | cons c k =>
      obtain ⟨hlt, hc, hk⟩ := at_drop hd
      have hks : Hid (k.length = s.size - (i + 1)) := Lib.hid (by rw [← hk, List.length_drop, sz])
      have hw : IntKind.i64.wrap ((i : Int) + 1) = (i : Int) + 1 := IntWalk.i64_in _ (by omega)
      by_cases h34 : c = 34
      · have g1 : ((c.toNat : Int) != 34) = false := u8eq' (d := 34) h34
        have g2 : ((c.toNat : Int) == 10) = false := u8ne (d := 10) (by rw [h34]; decide)
        have hl1 : Hid (lnP s (i + 1) = lnP s i) := Lib.hid (by
          have := lnP_app s (u := [c]) (k := k) hd
          rw [List.count_cons_of_ne (by rw [h34]; decide)] at this
          exact this)
        have hih := Lib.hid hlt
        have hulh := Lib.hid hul
        have hdk : Hid (r0 = (qS (34 :: k)).map (fun p => (u ++ p.1, p.2))) := Lib.hid (by rw [hr.out, hd, h34])
        have hkh := Lib.hid hk
        have hpos : Hid (s.size - k.length = i + 1) := Lib.hid (by rw [hks.out]; omega)
        clear hd hr h34 hul his hk
        go_wp2
        go_quiet (fail)
        have hu1 := Lib.hid (hu.out.drewN nq)
        generalize wr.drewN nq = w1 at *
        have c0 := rr0 hu1.out.here
        have c1 := rr1 hu1.out.here
        go_wp2
        go_quiet (fail)
        have hu2 := Lib.hid (hu1.out.drewN nq)
        generalize w1.drewN nq = w2 at *
        have c1 := rr1 hu2.out.here
        have f1 := hu2.out.here.frozen 1
        have hu3 := Lib.hid (upd_at hu2.out hl1.out)
        clear hu1 hu2 c0
        go_wp2
        generalize w2.setCell ⟨b, 1, none⟩ (.int .i64 ((i : Int) + 1)) = w3 at *
        have c0 := rr0 hu3.out.here
        have c1 : w3.cell? ⟨b, 1, none⟩ = some (.int .i64 ((i : Int) + 1)) := rr1 hu3.out.here
        clear f1
        by_cases hke : k.head? = some 34
        · obtain ⟨k2, hkk⟩ : ∃ k2, k = 34 :: k2 := by
            cases k with
            | nil => simp at hke
            | cons e k2 => exact ⟨k2, by rw [show e = 34 by simpa using hke]⟩
          obtain ⟨hlt2, hc2, hk3⟩ := at_drop (hkh.out.trans hkk)
          have g3 : ((i : Int) + 1 == (s.size : Int)) = false := by simp; omega
          have g4 : (((34 : UInt8).toNat : Int) != 34) = false := rfl
          have g5 : ((i : Int) + 1).toNat = i + 1 := by omega
          have g6 : (0 : Int) ≤ (i : Int) + 1 := by omega
          have g7 : (i : Int) + 1 < (s.size : Int) := by omega
          have hl2 : Hid (lnP s (i + 1 + 1) = lnP s (i + 1)) := Lib.hid (lnP_app s (u := [34]) (k := k2) (hkh.out.trans hkk))
          have hr2 : Hid (r0 = (qS (s.data.toList.drop (i + 1 + 1))).map (fun p => (u ++ [34] ++ p.1, p.2))) := Lib.hid (by
            rw [hdk.out, hkk, qS_34, hk3]
            cases qS k2 <;> simp)
          have hih2 := Lib.hid hlt2
          replace hkk := Lib.hid hkk
          clear hke hk3 hdk hkh hpos
          go_quiet (fail)
          have hu4 := Lib.hid (hu3.out.drewN nq)
          generalize w3.drewN nq = w4 at *
          have c1 : w4.cell? ⟨b, 1, none⟩ = some (.int .i64 ((i : Int) + 1)) := rr1 hu4.out.here
          have f1 := hu4.out.here.frozen 1
          have hu5 : Hid (Upd b (rrC s d (i + 1 + 1)) rrT w (w4.setCell ⟨b, 1, none⟩ (.int .i64 ((i : Int) + 1 + 1)))) := Lib.hid (upd_at hu4.out hl2.out)
          have happ : bA u ++ ⟨#[34]⟩ = bA (u ++ [34]) := bA_app u [34]
          have hss : ¬ 9223372036854775807 < (bA u).size + (⟨#[34]⟩ : ByteArray).size := by rw [bA_size]; have := hulh.out; have := hih.out; have := hsh.out; show ¬ _ < u.length + 1; omega
          have hss2 : ¬ 9223372036854775807 < (bA u).size + 1 := hss
          clear hu3 hu4
          go_wp2
          go_roundw
          case rel => exact ⟨i + 1 + 1, u ++ [34], hih2.out, by rw [List.length_append]; have := hulh.out; show u.length + 1 ≤ _; omega, rfl, hu5.out, hr2.out⟩
          case measure => rw [posR_of hu5.out.here, hmeas.out]; have := hih2.out; omega
        · have hr2 : Hid (r0 = some (u, k)) := Lib.hid (by rw [hdk.out, qS_end hke]; simp)
          cases hkk : k with
          | nil =>
            have he : i + 1 = s.size := drop_nil (by have := hih.out; omega) (hkh.out.trans hkk)
            have g3 : ((i : Int) + 1 == (s.size : Int)) = true := by simp; omega
            replace he := Lib.hid he
            replace hkk := Lib.hid hkk
            go_quiet (fail)
            have hu4 := Lib.hid (hu3.out.drewN nq)
            generalize w3.drewN nq = w4 at *
            have hq := Lib.hid (hq1.out u k w4 hr2.out (by rw [hpos.out]; exact hu4.out))
            clear hq1 hq2
            go_wp2
            exact hq.out
          | cons e k2 =>
            obtain ⟨hlt2, hc2, hk3⟩ := at_drop (hkh.out.trans hkk)
            have g3 : ((i : Int) + 1 == (s.size : Int)) = false := by simp; omega
            have g4 : ((e.toNat : Int) != 34) = true := u8ne' (d := 34) (fun x => hke (by rw [hkk, x]; rfl))
            have g5 : ((i : Int) + 1).toNat = i + 1 := by omega
            have g6 : (0 : Int) ≤ (i : Int) + 1 := by omega
            have g7 : (i : Int) + 1 < (s.size : Int) := by omega
            replace hkk := Lib.hid hkk
            clear hke hk3
            go_quiet (fail)
            have hu4 := Lib.hid (hu3.out.drewN nq)
            generalize w3.drewN nq = w4 at *
            have hq := Lib.hid (hq1.out u k w4 hr2.out (by rw [hpos.out]; exact hu4.out))
            clear hq1 hq2
            go_wp2
            exact hq.out
      · have g1 : ((c.toNat : Int) != 34) = true := u8ne' (d := 34) h34
        have hr2 : Hid (r0 = (qS (s.data.toList.drop (i + 1))).map (fun p => (u ++ [c] ++ p.1, p.2))) := Lib.hid (by
          rw [hr.out, hd, qS_cons h34, hk]
          cases qS k <;> simp)
        by_cases h10 : c = 10
        · have g2 : ((c.toNat : Int) == 10) = true := u8eq (d := 10) h10
          have hl1 : Hid (lnP s (i + 1) = lnP s i + 1) := Lib.hid (by rw [h10] at hd; exact lnP_app s (u := [10]) (k := k) hd)
          have hln := lnP_le s i
          have hlz : ((lnP s i : Nat) : Int) ≤ 65537 := by have := hsh.out; omega
          have hl0 : (0 : Int) ≤ ((lnP s i : Nat) : Int) := by omega
          have hw2 : IntKind.i64.wrap (((lnP s i : Nat) : Int) + 1) = ((lnP s i : Nat) : Int) + 1 := IntWalk.i64_in _ (by omega)
          have hih := Lib.hid hlt
          have hulh := Lib.hid hul
          clear hd hk hr h34 h10 hln hul his
          go_wp2
          go_quiet (fail)
          have hu1 := Lib.hid (hu.out.drewN nq)
          generalize wr.drewN nq = w1 at *
          have c0 := rr0 hu1.out.here
          have c1 := rr1 hu1.out.here
          go_wp2
          go_quiet (fail)
          have hu2 := Lib.hid (hu1.out.drewN nq)
          generalize w1.drewN nq = w2 at *
          have c1 := rr1 hu2.out.here
          have c2 := rr2 hu2.out.here
          have f1 := hu2.out.here.frozen 1
          have f2 := hu2.out.here.frozen 2
          have hu3 := Lib.hid ((upd_line0 hu2.out hl1.out).bel ((Below.refl _ _).alloc (Nat.le_refl _) (.cells #[.int .u8 (c.toNat : Int)] 5)))
          have hcv := conv1 ((w2.setCell ⟨b, 1, none⟩ (.int .i64 ((i : Int) + 1))).setCell ⟨b, 2, none⟩ (.int .i64 (((lnP s i : Nat) : Int) + 1))) w2.heap.size (by simp) c
          have happ := bA_app u [c]
          have hss : ¬ 9223372036854775807 < (bA u).size + (bA [c]).size := by rw [bA_size, bA_size]; have := hulh.out; have := hih.out; have := hsh.out; show ¬ _ < u.length + 1; omega
          clear hu1 hu2
          go_wp2
          go_roundw
          case rel => exact ⟨i + 1, u ++ [c], hih.out, by rw [List.length_append]; have := hulh.out; show u.length + 1 ≤ _; omega, rfl, hu3.out, hr2.out⟩
          case measure => rw [posR_of hu3.out.here, hmeas.out]; have := hih.out; omega
        · have g2 : ((c.toNat : Int) == 10) = false := u8ne (d := 10) h10
          have hl1 : Hid (lnP s (i + 1) = lnP s i) := Lib.hid (by
            have := lnP_app s (u := [c]) (k := k) hd
            rw [List.count_cons_of_ne h10] at this
            exact this)
          have hih := Lib.hid hlt
          have hulh := Lib.hid hul
          clear hd hk hr h34 h10 hul his
          go_wp2
          go_quiet (fail)
          have hu1 := Lib.hid (hu.out.drewN nq)
          generalize wr.drewN nq = w1 at *
          have c0 := rr0 hu1.out.here
          have c1 := rr1 hu1.out.here
          go_wp2
          go_quiet (fail)
          have hu2 := Lib.hid (hu1.out.drewN nq)
          generalize w1.drewN nq = w2 at *
          have c1 := rr1 hu2.out.here
          have f1 := hu2.out.here.frozen 1
          have hu3 := Lib.hid ((upd_at hu2.out hl1.out).bel ((Below.refl _ _).alloc (Nat.le_refl _) (.cells #[.int .u8 (c.toNat : Int)] 5)))
          have hcv := conv1 (w2.setCell ⟨b, 1, none⟩ (.int .i64 ((i : Int) + 1))) w2.heap.size (by simp) c
          have happ := bA_app u [c]
          have hss : ¬ 9223372036854775807 < (bA u).size + (bA [c]).size := by rw [bA_size, bA_size]; have := hulh.out; have := hih.out; have := hsh.out; show ¬ _ < u.length + 1; omega
          clear hu1 hu2
          go_wp2
          go_roundw
          case rel => exact ⟨i + 1, u ++ [c], hih.out, by rw [List.length_append]; have := hulh.out; show u.length + 1 ≤ _; omega, rfl, hu3.out, hr2.out⟩
          case measure => rw [posR_of hu3.out.here, hmeas.out]; have := hih.out; omega
end Go.Proofs.YtanipgjojacbfaaDoor
