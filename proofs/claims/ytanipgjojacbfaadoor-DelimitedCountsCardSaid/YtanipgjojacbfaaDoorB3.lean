/- The deferred function of Parse. -/
import Derived.Test.YtanipgjojacbfaaDoorB2
import Derived.Defers
import Derived.Recover
import Derived.Laws.Pointers
namespace Go.Proofs.YtanipgjojacbfaaDoor
open Go.RowKit
set_option linter.unusedVariables false

theorem tmps18 (a b c x : Value) : (#[a, b, c] ++ (Array.replicate 15 undef).setIfInBounds 2 x : Array Value) = #[a, b, c, undef, undef, x, undef, undef, undef, undef, undef, undef, undef, undef, undef, undef, undef, undef] := rfl
theorem ta_nil (t : Nat) (w : World) (h : t = tMis ∨ t = tExc) : (Instr.typeAssert .nilIface 20 t true).run Tryd.prog w = .ok (.tuple #[.int .i64 0, .bool false]) w := by
  rcases h with rfl | rfl <;> rfl
theorem ta_hit (t : Nat) (z : Int) (w : World) (h : t = tMis ∨ t = tExc) : (Instr.typeAssert (.iface t (.int .i64 z)) 20 t true).run Tryd.prog w = .ok (.tuple #[.int .i64 z, .bool true]) w := by
  rcases h with rfl | rfl <;> rfl
theorem ta_miss (z : Int) (w : World) : (Instr.typeAssert (.iface tExc (.int .i64 z)) 20 tMis true).run Tryd.prog w = .ok (.tuple #[.int .i64 0, .bool false]) w := by
  rfl

set_option maxRecDepth 100000 in
set_option maxHeartbeats 2000000 in
theorem catch_idle (tb lb eb : Nat) (w : World) :
    CallsD Tryd.prog 19 #[.pointer (some ⟨tb, 0, none⟩), .pointer (some ⟨lb, 0, none⟩), .pointer (some ⟨eb, 0, none⟩)] .returning w fun e u' w' => e = .returned (.tuple #[]) ∧ u' = .returning ∧ w' = w := by
  refine callsD_of_wpS Tryd.func19 rfl fun c₀ cs hu => ?_
  apply wpS_seq
  apply wpS_region
  simp [wpOpsS, go_sem, recoverD, hu, Tryd.ntmps19, Exit.thenS]
  refine wpS_of_wp ?_
  rw [tmps18]
  have h1 := fun w => ta_nil tMis w (.inl rfl)
  have h2 := fun w => ta_nil tExc w (.inr rfl)
  go_wp2
  cases c₀
  simp_all [bodyPostS, results, Tryd.results19]

set_option maxRecDepth 100000 in
set_option maxHeartbeats 2000000 in
theorem catch_mis (tb lb eb p : Nat) (s : ByteArray) (older : List PanicEntry) (w : World) (hp : p ≤ s.size) (hs : s.size ≤ 65536) (ht : w.cell? ⟨tb, 0, none⟩ = some (.string s)) (hl : w.frozen? ⟨lb, 0, none⟩ = false) (he : w.frozen? ⟨eb, 0, none⟩ = false) (hlv : ∃ x, w.cell? ⟨lb, 0, none⟩ = some x) (hev : ∃ x, w.cell? ⟨eb, 0, none⟩ = some x) (hne : ¬ eb = lb) :
    CallsD Tryd.prog 19 #[.pointer (some ⟨tb, 0, none⟩), .pointer (some ⟨lb, 0, none⟩), .pointer (some ⟨eb, 0, none⟩)] (.panicking ({ v := .iface tMis (.int .i64 (p : Int)), recovered := false } :: older)) w fun e u' w' =>
      e = .returned (.tuple #[]) ∧ u' = .panicking ({ v := .iface tMis (.int .i64 (p : Int)), recovered := true } :: older) ∧ w' = (w.setCell ⟨lb, 0, none⟩ (.int .i64 ((1 + (s.data.toList.take p).count 10 : Nat) : Int))).setCell ⟨eb, 0, none⟩ (.int .i64 3) := by
  have hL := Lib.hid (fun W => lineOf_any s p W hp hs)
  obtain ⟨lv, hlv⟩ := hlv
  obtain ⟨ev, hev⟩ := hev
  generalize (1 + (s.data.toList.take p).count 10 : Nat) = ln at *
  refine callsD_of_wpS Tryd.func19 rfl fun c₀ cs hu => ?_
  apply wpS_seq
  apply wpS_region
  simp [wpOpsS, go_sem, recoverD, hu, Tryd.ntmps19, Exit.thenS]
  refine wpS_of_wp ?_
  rw [tmps18]
  have h1 := fun w => ta_hit tMis (p : Int) w (.inl rfl)
  go_wp2_with fail
  refine (hL.out _).mono ?_
  rintro e w' ⟨rfl, hw⟩
  subst hw
  go_wp2
  cases c₀
  simp_all [bodyPostS, results, Tryd.results19]

set_option maxRecDepth 100000 in
set_option maxHeartbeats 2000000 in
theorem catch_exc (tb lb eb p : Nat) (s : ByteArray) (older : List PanicEntry) (w : World) (hp : p ≤ s.size) (hs : s.size ≤ 65536) (ht : w.cell? ⟨tb, 0, none⟩ = some (.string s)) (hl : w.frozen? ⟨lb, 0, none⟩ = false) (he : w.frozen? ⟨eb, 0, none⟩ = false) (hlv : ∃ x, w.cell? ⟨lb, 0, none⟩ = some x) (hev : ∃ x, w.cell? ⟨eb, 0, none⟩ = some x) (hne : ¬ eb = lb) :
    CallsD Tryd.prog 19 #[.pointer (some ⟨tb, 0, none⟩), .pointer (some ⟨lb, 0, none⟩), .pointer (some ⟨eb, 0, none⟩)] (.panicking ({ v := .iface tExc (.int .i64 (p : Int)), recovered := false } :: older)) w fun e u' w' =>
      e = .returned (.tuple #[]) ∧ u' = .panicking ({ v := .iface tExc (.int .i64 (p : Int)), recovered := true } :: older) ∧ w' = (w.setCell ⟨lb, 0, none⟩ (.int .i64 ((1 + (s.data.toList.take p).count 10 : Nat) : Int))).setCell ⟨eb, 0, none⟩ (.int .i64 2) := by
  have hL := Lib.hid (fun W => lineOf_any s p W hp hs)
  obtain ⟨lv, hlv⟩ := hlv
  obtain ⟨ev, hev⟩ := hev
  generalize (1 + (s.data.toList.take p).count 10 : Nat) = ln at *
  refine callsD_of_wpS Tryd.func19 rfl fun c₀ cs hu => ?_
  apply wpS_seq
  apply wpS_region
  simp [wpOpsS, go_sem, recoverD, hu, Tryd.ntmps19, Exit.thenS]
  refine wpS_of_wp ?_
  rw [tmps18]
  have h1 := fun w => ta_hit tExc (p : Int) w (.inr rfl)
  have h2 := fun w => ta_miss (p : Int) w
  go_wp2_with fail
  refine (hL.out _).mono ?_
  rintro e w' ⟨rfl, hw⟩
  subst hw
  go_wp2
  cases c₀
  simp_all [bodyPostS, results, Tryd.results19]
end Go.Proofs.YtanipgjojacbfaaDoor
