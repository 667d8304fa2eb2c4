/- strings.IndexAny at whatever string; what is asked of a field; a plain field. -/
import Derived.Test.YtanipgjojacbfaaDoorA4
namespace Go.Proofs.YtanipgjojacbfaaDoor
open Go.RowKit
set_option linter.unusedVariables false

/-- A list of bytes as a string. -/
def bA (l : Bs) : ByteArray := ⟨l.toArray⟩
theorem bA_list (l : Bs) : (bA l).data.toList = l := rfl
theorem bA_size (l : Bs) : (bA l).size = l.length := by show l.toArray.size = _; simp
theorem bA_of (s : ByteArray) : bA s.data.toList = s := Lib.mk_data s
theorem bA_ext (s : ByteArray) (a b : Nat) : s.extract a b = bA ((s.data.toList.drop a).take (b - a)) := Lib.extract_eq s a b
theorem bA_drop (s : ByteArray) (p : Nat) : s.extract p s.size = bA (s.data.toList.drop p) := by
  rw [bA_ext, List.take_of_length_le]
  rw [List.length_drop, Array.length_toList]; exact Nat.le_refl _
theorem sz (s : ByteArray) : s.data.toList.length = s.size := by simp

theorem spc_mem (d c : UInt8) : (spB d).data.toList.contains c = spc d c := by
  show ([34, 13, 10, d] : List UInt8).contains c = _
  unfold spc
  simp only [List.contains_cons, List.contains_nil, Bool.or_false]
  cases hd : c == d <;> cases h1 : c == 34 <;> cases h2 : c == 13 <;> cases h3 : c == 10 <;> simp_all
theorem plR_nil (d : UInt8) : ∀ l : Bs, plR d l = [] ↔ ∀ x ∈ l, spc d x = false
  | [] => by simp [plR]
  | c :: l => by
    have ih := plR_nil d l
    unfold plR at *
    cases h : spc d c with
    | true => simp [List.dropWhile, h]
    | false => simp [List.dropWhile, h, ih]
theorem ixa (d : UInt8) : ∀ l : Bs, Lib.indexAny l (spB d).data.toList = if plR d l = [] then (-1 : Int) else ((plS d l).length : Int)
  | [] => rfl
  | c :: l => by
    have ih := ixa d l
    unfold Lib.indexAny
    rw [spc_mem, ih]
    cases h : spc d c with
    | true => simp [plR, plS, h]
    | false =>
      have e1 : plR d (c :: l) = plR d l := by unfold plR; rw [List.dropWhile_cons_of_pos (by simp [h])]
      have e2 : plS d (c :: l) = c :: plS d l := by unfold plS; rw [List.takeWhile_cons_of_pos (by simp [h])]
      rw [e1, e2]
      by_cases hn : plR d l = []
      · simp [hn]
      · simp only [hn, if_false, List.length_cons]
        have : ¬ (((plS d l).length : Int) == -1) = true := by
          rw [beq_iff_eq]; omega
        simp [this]
theorem cta (d : UInt8) (l : Bs) : decide ((0 : Int) ≤ Lib.indexAny l (spB d).data.toList) = nqS d l := by
  rw [ixa]
  cases hq : nqS d l with
  | true =>
    unfold nqS at hq
    rw [List.any_eq_true] at hq
    obtain ⟨x, hx, hs⟩ := hq
    have : ¬ plR d l = [] := by
      intro e
      have := (plR_nil d l).1 e x hx
      rw [hs] at this
      cases this
    rw [if_neg this]
    simp
  | false =>
    unfold nqS at hq
    rw [List.any_eq_false] at hq
    have : plR d l = [] := by
      rw [plR_nil]
      intro x hx
      simpa using hq x hx
    rw [if_pos this]
    rfl

theorem indexAny_any (s : ByteArray) (d : UInt8) (w : World) (hd : isD d = true) (hs : s.size ≤ 65536) :
    Calls Tryd.prog 61 #[.string s, .string (spB d)] w fun e w' => e = .returned (.int .i64 (Lib.indexAny s.data.toList (spB d).data.toList)) ∧ Below w.heap.size w w' := by
  have hA := asc_sp hd
  have h4 : (spB d).size = 4 := rfl
  by_cases h8 : s.size ≤ 8
  · exact anyShort s (spB d) w hA (by omega) (by omega) h8
  · refine (Tryd.strings_IndexAny_long (zero_of_info (show (Tryd.prog.info? 91).map (fun i => (i.zero, i.size)) = some (some (.agg (Array.replicate 256 (.bool false))), 256) by kernel_rfl)).1 s (spB d) w (by omega) (by omega) (by omega) (by omega) (fun j b hb => hA.list (List.mem_of_getElem? hb))).mono fun e w' ⟨h1, h2⟩ => ⟨h1, ?_⟩
    rw [h2]
    exact ((Below.refl _ _).alloc (Nat.le_refl _) _).alloc (by simp) _

set_option maxHeartbeats 1000000 in
theorem containsAny_any (s : ByteArray) (d : UInt8) (w : World) (hd : isD d = true) (hs : s.size ≤ 65536) :
    Calls Tryd.prog 53 #[.string s, .string (spB d)] w fun e w' => e = .returned (.bool (nqS d s.data.toList)) ∧ Below w.heap.size w w' := by
  have hH := Lib.hid (fun W => indexAny_any s d W hd hs)
  have hx := Lib.hid (cta d s.data.toList)
  generalize Lib.indexAny s.data.toList (spB d).data.toList = z at *
  go_enter Tryd.func53, Tryd.ntmps53
  go_wp2_with fail
  refine (hH.out _).mono ?_
  rintro e w' ⟨rfl, hb⟩
  replace hb := Lib.hid hb
  go_wp2
  go_ret
  exact ⟨by rw [← hx.out]; rfl, hb.out⟩

set_option maxHeartbeats 1000000 in
theorem needsQuotes_any (s : ByteArray) (d : UInt8) (w : World) (hd : isD d = true) (hs : s.size ≤ 65536) :
    Calls Tryd.prog 41 #[.string s, .int .u8 d.toNat] w fun e w' => e = .returned (.bool (nqS d s.data.toList)) ∧ Below w.heap.size w w' := by
  have hH := Lib.hid (fun W => containsAny_any s d W hd hs)
  have hS := Lib.hid (fun W => special_any d W hd)
  go_enter Tryd.func41, Tryd.ntmps41
  go_wp2_with fail
  refine (hS.out _).mono ?_
  rintro e w' ⟨rfl, hw⟩
  subst hw
  go_wp2_with fail
  refine (hH.out _).mono ?_
  rintro e w1 ⟨rfl, hb⟩
  replace hb := Lib.hid hb
  go_wp2
  go_ret
  exact ⟨rfl, hb.out⟩

theorem plS_le (d : UInt8) (l : Bs) : (plS d l).length ≤ l.length := (List.takeWhile_sublist _).length_le
theorem plS_take (d : UInt8) (l : Bs) : l.take (plS d l).length = plS d l := by
  calc l.take (plS d l).length = (plS d l ++ plR d l).take (plS d l).length := by rw [plS_R]
    _ = plS d l := List.take_left

set_option maxRecDepth 100000 in
set_option maxHeartbeats 2000000 in
theorem plain_any (s : ByteArray) (d : UInt8) (p b : Nat) (w : World) (h : Cb w b (rdC s d p) rdT) (hp : p ≤ s.size) (hs : s.size ≤ 65536) (hd : isD d = true) :
    Calls Tryd.prog 59 #[.pointer (some ⟨b, 0, none⟩)] w fun e w' => e = .returned (.string (bA (plS d (s.data.toList.drop p)))) ∧ Upd b (rdC s d (p + (plS d (s.data.toList.drop p)).length)) rdT w w' := by
  have c0 := rd0 h
  have c2 := rd2 h
  have hx : Hid (s.extract p s.size = bA (s.data.toList.drop p)) := Lib.hid (bA_drop s p)
  have hl : (s.data.toList.drop p).length = s.size - p := by rw [List.length_drop, sz]
  generalize hr : s.data.toList.drop p = r at *
  have hS := Lib.hid (fun W => special_any d W hd)
  have hI := Lib.hid (fun W => indexAny_any (bA r) d W hd (by rw [bA_size]; omega))
  have hC := Lib.hid (fun x W hx => clone_any x W hx)
  have hxa := Lib.hid (ixa d r)
  have hle := plS_le d r
  have htk := Lib.hid (plS_take d r)
  have hU := Lib.hid (Upd.refl h)
  have hpz : (p : Int) ≤ (s.size : Int) := by omega
  have hp0 : (0 : Int) ≤ (p : Int) := by omega
  rw [bA_list] at hI
  replace hr := Lib.hid hr
  clear h
  go_enter Tryd.func59, Tryd.ntmps59
  go_wp2
  go_quiet (fail)
  rw [hx.out]
  have hU1 := Lib.hid (hU.out.drewN nq)
  generalize w.drewN nq = w1 at *
  have c1 := rd1 hU1.out.here
  clear c0 c2
  go_wp2_with fail
  refine (hS.out _).mono ?_
  rintro e w' ⟨rfl, hw⟩
  subst hw
  go_wp2_with fail
  refine (hI.out _).mono ?_
  rintro e w2 ⟨rfl, hb⟩
  have hU2 := Lib.hid (hU1.out.bel hb)
  clear hb c1 hU1 hS hI hU
  rw [hxa.out]
  have c2 := rd2 hU2.out.here
  have f2 := hU2.out.here.frozen 2
  have hres : Hid (∀ x, x = bA (plS d r) → Calls Tryd.prog 67 #[.string x] (w2.setCell ⟨b, 2, none⟩ (.int .i64 ((p : Int) + ((plS d r).length : Nat)))) fun e w' => e = .returned (.string (bA (plS d r))) ∧ Upd b (rdC s d (p + (plS d r).length)) rdT w w') := Lib.hid fun x hx => by
    subst hx
    rw [← Int.natCast_add]
    refine (hC.out _ _ (by rw [bA_size]; omega)).mono fun e w' ⟨h1, h2⟩ => ⟨h1, (hU2.out.set 2 (.int .i64 ((p + (plS d r).length : Nat) : Int))).bel h2⟩
  by_cases hn : plR d r = []
  · rw [if_pos hn]
    have hrr : plS d r = r := by have := plS_R d r; rw [hn, List.append_nil] at this; exact this
    have hsz : ((bA r).size : Int) = ((plS d r).length : Int) := by rw [bA_size, hrr]
    have hre := Lib.hid (hres.out (bA r) (by rw [hrr]))
    have hk : (((plS d r).length : Nat) : Int) ≤ 65536 := by omega
    have hpk : (p : Int) ≤ 65536 := by omega
    generalize hkk : (plS d r).length = k at *
    replace hkk := Lib.hid hkk
    clear hrr hres hn htk hxa hC
    go_wp2_with fail
    refine hre.out.mono ?_
    rintro e w3 ⟨rfl, hu⟩
    replace hu := Lib.hid hu
    go_wp2
    go_ret
    exact ⟨rfl, by rw [hkk.out]; exact hu.out⟩
  · rw [if_neg hn]
    have hk0 : (0 : Int) ≤ (((plS d r).length : Nat) : Int) := by omega
    have hex : Hid ((bA r).extract 0 (plS d r).length = bA (plS d r)) := Lib.hid (by rw [bA_ext, bA_list, List.drop_zero, Nat.sub_zero, htk.out])
    have hsz : (((bA (plS d r)).size : Nat) : Int) = ((plS d r).length : Int) := by rw [bA_size]
    have hsr : (((plS d r).length : Nat) : Int) ≤ (((bA r).size : Nat) : Int) := by rw [bA_size]; omega
    have hre := Lib.hid (hres.out (bA (plS d r)) rfl)
    have hk : (((plS d r).length : Nat) : Int) ≤ 65536 := by omega
    have hpk : (p : Int) ≤ 65536 := by omega
    generalize hvv : bA (plS d r) = v at *
    replace hvv := Lib.hid hvv
    generalize hkk : (plS d r).length = k at *
    replace hkk := Lib.hid hkk
    have hmin : min k (bA r).size = k := Nat.min_eq_left (by omega)
    have hex' := hex.out
    clear hres hn htk hxa hC
    go_wp2_with fail
    refine hre.out.mono ?_
    rintro e w3 ⟨rfl, hu⟩
    replace hu := Lib.hid hu
    go_wp2
    go_ret
    exact ⟨by rw [hvv.out]; rfl, by rw [hkk.out]; exact hu.out⟩
end Go.Proofs.YtanipgjojacbfaaDoor
