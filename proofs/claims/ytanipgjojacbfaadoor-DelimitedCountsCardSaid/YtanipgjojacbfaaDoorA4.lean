/- strings.IndexRune at a rune that is no ASCII byte, in a string of ASCII bytes. -/
import Derived.Test.YtanipgjojacbfaaDoorA3
namespace Go.Proofs.YtanipgjojacbfaaDoor
open Go.RowKit
set_option linter.unusedVariables false

/-- All bytes are ASCII. -/
def Asc (c : ByteArray) : Prop := ∀ (i : Nat) (h : i < c.size), (c[i]).toNat < 128
theorem asc_sp {d : UInt8} (h : isD d = true) : Asc (spB d) := by
  intro i hi
  have h4 : i < 4 := hi
  match i, h4 with
  | 0, _ => show (34 : UInt8).toNat < 128; decide
  | 1, _ => show (13 : UInt8).toNat < 128; decide
  | 2, _ => show (10 : UInt8).toNat < 128; decide
  | 3, _ =>
    show d.toNat < 128
    rcases isD_cases h with rfl | rfl | rfl | rfl <;> decide
theorem Asc.list {c : ByteArray} (h : Asc c) {x : UInt8} (hx : x ∈ c.data.toList) : x.toNat < 128 := by
  obtain ⟨i, hi⟩ := List.getElem?_of_mem hx
  obtain ⟨hl, e⟩ := List.getElem?_eq_some_iff.1 hi
  have hs : i < c.size := by simpa using hl
  have := h i hs
  rw [← e]
  exact this
theorem idx_none {c : ByteArray} (h : Asc c) (k : Nat) {x : UInt8} (hx : 128 ≤ x.toNat) : Lib.indexByte (c.extract k c.size).data.toList x = -1 := by
  have h1 := Lib.contains_iff_indexByte (c.extract k c.size).data.toList x
  have h2 : (c.extract k c.size).data.toList.contains x = false := by
    rw [Bool.eq_false_iff]
    intro hc
    rw [List.contains_iff_mem, Lib.extract_data] at hc
    have := h.list (List.mem_of_mem_drop (List.mem_of_mem_take hc))
    omega
  rw [h2] at h1
  have := of_decide_eq_false h1.symm
  have := Lib.indexByte_ge (c.extract k c.size).data.toList x
  omega

theorem idxFar {c : ByteArray} (hc : Asc c) (k : Nat) (x : UInt8) (W : World) (hx : 128 ≤ x.toNat) :
    Calls Tryd.prog 32 #[.string (c.extract k c.size), .int .u8 x.toNat] W fun e w' => e = .returned (.int .i64 (-1)) ∧ w' = W := by
  refine (Tryd.strings_IndexByte (c.extract k c.size) x.toNat W).mono fun e w' h => ⟨?_, h.2⟩
  have e1 : ((x.toNat : Nat) : Int).toNat.toUInt8 = x := by simp
  rw [h.1, e1, idx_none hc k hx]

set_option maxRecDepth 100000 in
set_option maxHeartbeats 1000000 in
theorem runeFar (c : ByteArray) (r : Int) (w : World) (hc : Asc c) (hs : c.size ≤ 100) (hr : 128 ≤ r) (hne : ¬ r = 65533) :
    Calls Tryd.prog 69 #[.string c, .int .i32 r] w fun e w' => e = .returned (.int .i64 (-1)) ∧ ∃ q, w' = w.drewN q := by
  have hV := Lib.hid (fun W => Tryd.utf8_ValidRune r W)
  have hL := Lib.hid (encode_last r hr)
  have hI := Lib.hid (fun k x W hx => idxFar hc k x W hx)
  have hcc := Lib.hid hc
  have g0 : (0 : Int) ≤ r := by omega
  have g1 : ¬ (r < 128) := by omega
  have g2 : (r == 65533) = false := by simpa using hne
  clear hc hr hne
  go_enter Tryd.func69, Tryd.ntmps69
  go_wp2_with fail
  refine (hV.out _).mono ?_
  rintro e w' ⟨rfl, hw⟩
  subst hw
  cases hv : Lib.validRune r
  · go_wp2
    go_ret
    exact ⟨rfl, 0, rfl⟩
  · go_wp2
    obtain ⟨n, hl, hsz, hn1, hn3, hx⟩ := hL.out
    have hsz' : (((Utf8.encode r).size : Nat) : Int) = (n : Int) + 1 := by omega
    obtain ⟨x, hxe⟩ : ∃ x, (Utf8.encode r)[n] = x := ⟨_, rfl⟩
    rw [hxe] at hx
    have hn1' : (1 : Int) ≤ (n : Int) := by omega
    have hn3' : (n : Int) ≤ 3 := by omega
    have hsz := Lib.hid hsz
    have hcs : (c.size : Int) ≤ 100 := by omega
    go_step3
    go_wp2
    go_loopw [9] (fun iv wr => iv = .int .i64 n ∧ wr = w') (fun _ _ => 0)
    case atStart => exact ⟨rfl, rfl⟩
    case round =>
      obtain ⟨rfl, rfl⟩ := hrel
      by_cases hi : n < c.size
      · have hi' : (n : Int) < (c.size : Int) := by omega
        have hcn := hcc.out n hi
        obtain ⟨y, hye⟩ : ∃ y, c[n] = y := ⟨_, rfl⟩
        rw [hye] at hcn
        have hne : ((y.toNat : Int) == (x.toNat : Int)) = false := by simp; omega
        have hne' : ((y.toNat : Int) != (x.toNat : Int)) = true := by simp; omega
        have hn1c : ((n : Int) + 1) ≤ (c.size : Int) := by omega
        have hn0 : (0 : Int) ≤ (n : Int) + 1 := by omega
        have hnt : ((n : Int) + 1).toNat = n + 1 := by omega
        have hnw : IntKind.i64.wrap ((n : Int) + 1) = (n : Int) + 1 := IntWalk.i64_in _ (by omega)
        have hIx := Lib.hid (fun W => hI.out (n + 1) x W hx)
        have hq1 : (n : Int) < (n : Int) + 1 := by omega
        have hq2 : n < n + 1 := by omega
        have hq3 : n < (Utf8.encode r).size := hl
        have hq4 : decide ((n : Int) < (n : Int) + 1) = true := by simp; omega
        go_wp2
        go_step3
        go_wp2
        go_quiet (fail)
        go_wp2
        go_quiet ((go_at_call 32; exact quiet_add_same (hIx.out _)))
        go_wp2
        rw [Exit.noGoto_ret]
        go_wp2
        rw [Exit.noGoto_ret]
        go_wp2
        go_ret
        exact ⟨rfl, _, rfl⟩
      · have hi' : ¬ ((n : Int) < (c.size : Int)) := by omega
        go_wp2
        go_ret
        exact ⟨rfl, 0, rfl⟩

set_option maxRecDepth 100000 in
set_option maxHeartbeats 1000000 in
/-- The rune that stands for what is no rune: the string is gone through. -/
theorem runeErr (c : ByteArray) (w : World) (hc : Asc c) (hs : c.size ≤ 100) :
    Calls Tryd.prog 69 #[.string c, .int .i32 65533] w fun e w' => e = .returned (.int .i64 (-1)) ∧ Below w.heap.size w w' := by
  replace hc := Lib.hid hc
  go_enter Tryd.func69, Tryd.ntmps69
  go_wp2
  go_loopw [5, 6] (fun _ _ wr => ∃ i : Nat, wr = w.iter c i) (fun _ _ wr => c.size - wr.iterPos w.heap.size)
  case atStart => exact ⟨0, rfl⟩
  case round =>
    obtain ⟨i, rfl⟩ := hrel
    by_cases hi : i < c.size
    · obtain ⟨y, hye⟩ : ∃ y, c[i] = y := ⟨_, rfl⟩
      have hy := hc.out i hi
      rw [hye] at hy
      have hnx := fun ty => run_next_ascii (P := Tryd.prog) w c i ty hi (by rw [hye]; exact hy)
      rw [hye] at hnx
      have hne : ((y.toNat : Int) == 65533) = false := by simp; omega
      clear hye
      go_wp2
      go_roundw
      case rel => exact ⟨i + 1, rfl⟩
      case measure => simp; omega
    · have hnx := run_next_end (P := Tryd.prog) w c i
      go_wp2
      go_ret
      exact ⟨rfl, (Below.refl _ _).alloc (Nat.le_refl _) _⟩

/-- IndexRune in a string of ASCII bytes. -/
theorem rune_any (c : ByteArray) (r : Nat) (w : World) (hc : Asc c) (hs : c.size ≤ 100) :
    Calls Tryd.prog 69 #[.string c, .int .i32 r] w fun e w' => e = .returned (.int .i64 (if r < 128 then Lib.indexByte c.data.toList r.toUInt8 else -1)) ∧ Below w.heap.size w w' := by
  by_cases h : r < 128
  · rw [if_pos h]
    refine (Tryd.strings_IndexRune_ascii c r w (by omega) (by omega)).mono fun e w' ⟨h1, h2⟩ => ⟨?_, h2 ▸ Below.refl _ _⟩
    rw [h1]; simp
  · rw [if_neg h]
    by_cases he : r = 65533
    · subst he; exact runeErr c w hc hs
    · exact (runeFar c r w hc hs (by omega) (by omega)).mono fun e w' ⟨h1, q, h2⟩ => ⟨h1, h2 ▸ below_drewN (Below.refl _ _) q⟩

set_option maxRecDepth 100000 in
set_option maxHeartbeats 1000000 in
theorem anyShort (s c : ByteArray) (w : World) (hc : Asc c) (h2 : 2 ≤ c.size) (hs : c.size ≤ 100) (h8 : s.size ≤ 8) :
    Calls Tryd.prog 61 #[.string s, .string c] w fun e w' => e = .returned (.int .i64 (Lib.indexAny s.data.toList c.data.toList)) ∧ Below w.heap.size w w' := by
  have hU := Lib.hid (fun W => Tryd.strings_shouldUseASCIISet s.size W)
  have hR := Lib.hid (fun r W => rune_any c r W hc hs)
  have hemp : c.toList.isEmpty = false := by
    rw [Lib.toList_data]
    cases h : c.data.toList with
    | nil => have := Lib.size_eq c; rw [h, List.length_nil] at this; omega
    | cons _ _ => rfl
  have hn1 : ((c.size : Int) == 1) = false := beq_eq_false_iff_ne.2 (by omega)
  have h8z : decide ((8 : Int) < (s.size : Int)) = false := decide_eq_false (by omega)
  replace hc := Lib.hid hc
  have h8h := Lib.hid h8
  have hse : s.data.toList.length = s.size := by simp
  replace hse := Lib.hid hse
  clear h2 hs h8
  go_enter Tryd.func61, Tryd.ntmps61
  go_wp2_with fail
  refine (hU.out _).mono ?_
  rintro e w' ⟨rfl, hw⟩
  subst hw
  rw [h8z]
  go_wp2
  go_loopw [9, 10] (fun _ _ wr => ∃ i : Nat, i ≤ s.size ∧ wr.heap[w'.heap.size]? = some (.stringIter s i) ∧ Below w'.heap.size w' wr ∧ Lib.NoAny s.data.toList c.data.toList i) (fun _ _ wr => s.size - wr.iterPos w'.heap.size)
  case atStart => exact ⟨0, Nat.zero_le _, World.iter_heap _ _ _, (Below.refl _ _).alloc (Nat.le_refl _) _, Lib.NoAny.zero _ _⟩
  case round =>
    obtain ⟨i, his, hit, hB, hno⟩ := hrel
    replace hno := Lib.hid hno
    replace hB := Lib.hid hB
    by_cases hi : i < s.size
    · have hnx := fun ty => Lib.run_next_any_at (P := Tryd.prog) wr w'.heap.size s i ty hit hi
      have hcas := Lib.hid (decode_cases s i hi)
      have hit2 := Lib.hid (Lib.iterAt_heap wr w'.heap.size s i (i + (Utf8.decode s i).2) hit)
      have hB2 := Lib.hid (Lib.below_iterAt hB.out (Nat.le_refl _) s (i + (Utf8.decode s i).2))
      generalize (Utf8.decode s i).1 = r at *
      generalize (Utf8.decode s i).2 = k at *
      generalize wr.iterAt w'.heap.size s (i + k) = w1 at *
      replace hit := Lib.hid hit
      have hih := Lib.hid hi
      clear his hi
      go_wp2_with fail
      refine (hR.out _ _).mono ?_
      rintro e w2 ⟨rfl, hb⟩
      have hit3 : Hid (w2.heap[w'.heap.size]? = some (.stringIter s (i + k))) := Lib.hid ((hb.block _ (Array.getElem?_eq_some_iff.1 hit2.out).1).trans hit2.out)
      have hB3 := Lib.hid (hB2.out.trans (hb.mono hB2.out.size))
      clear hb
      rcases hcas.out with ⟨h1, h2, x, h3, h4⟩ | ⟨h1, h2, h3, h4⟩
      · have hrx : r.toUInt8 = x := by rw [← h4]; simp
        rw [if_pos h1, hrx]
        have hcx := Lib.hid (Lib.contains_iff_indexByte c.data.toList x)
        subst h2
        replace h3 := Lib.hid h3
        cases hin : c.data.toList.contains x
        · have hf : ¬ ((0 : Int) ≤ Lib.indexByte c.data.toList x) := of_decide_eq_false (by rw [← hcx.out, hin])
          have hno2 := Lib.hid (hno.out.succ h3.out hin)
          generalize Lib.indexByte c.data.toList x = z at *
          clear h4 hrx hin h1 hcas hcx
          go_wp2
          go_roundw
          case rel => exact ⟨i + 1, hih.out, hit3.out, hB3.out, hno2.out⟩
          case measure => rw [iterPos_of hit3.out, iterPos_of hit.out]; have := hih.out; omega
        · have hf : (0 : Int) ≤ Lib.indexByte c.data.toList x := of_decide_eq_true (by rw [← hcx.out, hin])
          have hfin := Lib.hid (Lib.indexAny_hit hno.out h3.out hin)
          generalize Lib.indexByte c.data.toList x = z at *
          clear h4 hrx hin h1 hcas hcx
          go_wp2
          go_ret
          exact ⟨by rw [hfin.out]; rfl, hB3.out⟩
      · rw [if_neg (by omega)]
        have hno2 : Hid (Lib.NoAny s.data.toList c.data.toList (i + k)) := Lib.hid fun j b hj hb => by
          rcases Nat.lt_or_ge j i with hl | hl
          · exact hno.out j b hl hb
          · have h5 := h4 (j - i) (by omega) b (by rw [Nat.add_sub_cancel' hl]; exact hb)
            rw [Bool.eq_false_iff]
            intro hm
            have := hc.out.list (List.contains_iff_mem.1 hm)
            omega
        replace h3 := Lib.hid h3
        replace h2 := Lib.hid h2
        clear h4 h1 hcas
        go_wp2
        go_roundw
        case rel => exact ⟨i + k, h3.out, hit3.out, hB3.out, hno2.out⟩
        case measure => rw [iterPos_of hit3.out, iterPos_of hit.out]; have := hih.out; have := h2.out; omega
    · have hnx := fun ty => Lib.run_next_end_at (P := Tryd.prog) wr w'.heap.size s i ty hit hi
      obtain rfl : i = s.size := by omega
      go_wp2
      go_ret
      exact ⟨by rw [Lib.indexAny_none (by rw [hse.out]; exact hno.out)]; rfl, hB.out⟩
end Go.Proofs.YtanipgjojacbfaaDoor
