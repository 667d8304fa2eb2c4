/- The reference's list of an expression: single nodes. -/
import Derived.Test.YthbkdjbmkhmlnaaDoorTc
namespace Go.Proofs.YthbkdjbmkhmlnaaDoor
open Go.RowKit
set_option linter.unusedVariables false

/-- What list leaves. -/
def RlV (w w' : World) (e : Ending) : Option (List Nat) → Prop
  | none => ∃ v, e = .returned (.tuple #[v, .bool false]) ∧ Below w.heap.size w w'
  | some l => ∃ v, e = .returned (.tuple #[v, .bool true]) ∧ SlU w w' v l
/-- list reads a tree wherever it stands. -/
def ListC (tr : F9.Tr) : Prop := ∀ (Fs : List F10.Fac) (Pr Qr : List Nd) (A : Option Addr) (n c : Nat) (FA : Option Addr) (fn fc : Nat) (w : World), Fs.length ≤ 64 → (∀ f, F10.nam tr f → f ∈ Fs) → LR ndC w A n (Pr ++ (tr.pre.map toNd ++ Qr)) → n ≤ 1000 → LR faC w FA fn (Fs.map toFa) →
  Calls Tryd.prog 29 #[.slice A n c, .int .i64 (Pr.length : Nat), .slice FA fn fc] w fun e w' => RlV w w' e (F10.rl Fs tr)
theorem at_len {α : Type} (Pr Qr : List α) (x : α) : (Pr ++ (x :: Qr))[Pr.length]? = some x := by
  rw [List.getElem?_append_right (Nat.le_refl _), Nat.sub_self]; rfl
theorem nd_at {W : World} {A : Option Addr} {n : Nat} {Pr Qr : List Nd} {x : Nd} (h : LR ndC W A n (Pr ++ (x :: Qr))) : ∃ b o, A = some ⟨b, o, none⟩ ∧ Pr.length < n ∧ W.cell? ⟨b, o + Pr.length * 3, none⟩ = some (.int .i64 x.o) ∧ W.cell? ⟨b, o + Pr.length * 3 + 1, none⟩ = some (.string x.s) ∧ W.cell? ⟨b, o + Pr.length * 3 + 2, none⟩ = some (.int .i64 x.k) := by
  have hl := h.len
  rw [List.length_append, List.length_cons] at hl
  obtain ⟨b, o, y, hA, hy, _, a0, a1, a2⟩ := nd_get h (i := Pr.length) (by omega)
  rw [at_len] at hy
  injection hy with hy
  subst hy
  exact ⟨b, o, hA, by omega, a0, a1, a2⟩
theorem facV_leaf {x : F9.Nd} {f : F10.Fac} (hf : F10.facOf x = some f) : facV (toNd x) = toFa f := by
  unfold F10.facOf at hf
  unfold facV
  by_cases h1 : x.op = 1
  · rw [if_pos h1] at hf
    injection hf with hf
    subst hf
    rw [if_pos (show (toNd x).o = 1 by show (x.op : Int) = 1; omega)]; rfl
  · rw [if_neg h1] at hf
    by_cases h2 : x.op = 2
    · rw [if_pos h2] at hf
      injection hf with hf
      subst hf
      rw [if_neg (show ¬ (toNd x).o = 1 by show ¬ (x.op : Int) = 1; omega), if_pos (show (toNd x).o = 2 by show (x.op : Int) = 2; omega)]; rfl
    · rw [if_neg h2] at hf; cases hf
set_option maxRecDepth 100000 in
set_option maxHeartbeats 4000000 in
theorem list_leaf (x : F9.Nd) (hw : (F9.Tr.leaf x).wf) : ListC (.leaf x) := by
  intro Fs Pr Qr A n c FA fn fc w hF hnam h hn hFa
  have hop := lf_op hw
  obtain ⟨b, o, rfl, hlt, a0, a1, a2⟩ := nd_at (x := toNd x) h
  have ea : ariB (toNd x).o = 0 := by
    show ariB (x.op : Int) = 0
    unfold ariB; rw [if_pos (by omega)]
  have g1 : (Pr.length : Int) < (n : Int) := by omega
  have g2 : (0 : Int) ≤ (Pr.length : Int) := by omega
  have S1 := Lib.hid ((St.new w).alloc #[.int .i64 (toNd x).o, .string (toNd x).s, .int .i64 (toNd x).k] 39 (noLof rfl))
  obtain ⟨w1, hw1⟩ : ∃ W, W = w.alloc (.cells #[.int .i64 (toNd x).o, .string (toNd x).s, .int .i64 (toNd x).k] 39) := ⟨_, rfl⟩
  obtain ⟨xb, hxb⟩ : ∃ b, b = w.heap.size := ⟨_, rfl⟩
  rw [← hw1, ← hxb] at S1
  have k0 : w1.cell? ⟨xb, 0, none⟩ = some (.int .i64 (toNd x).o) := S1.out.cl 0 0 rfl rfl
  have k1 : w1.cell? ⟨xb, 1, none⟩ = some (.string (toNd x).s) := S1.out.cl 0 1 rfl rfl
  have k2 : w1.cell? ⟨xb, 2, none⟩ = some (.int .i64 (toNd x).k) := S1.out.cl 0 2 rfl rfl
  have hAr := Lib.hid (arity_any (toNd x).o w1)
  rw [ea] at hAr
  have hB1 := Lib.hid S1.out.bel
  generalize Pr.length = p at *
  by_cases h3 : x.op = 3
  · have hr : Hid (F10.rl Fs (.leaf x) = some [0]) := Lib.hid (by unfold F10.rl; rw [if_pos h3])
    have q3 : ((toNd x).o == 3) = true := by rw [beq_iff_eq]; show (x.op : Int) = 3; omega
    have SA := Lib.hid ((St.new w1).alloc #[.int .u64 0] 64 (noLof rfl))
    have hone := Lib.hid (St_glr (C := uC) (L := [0]) SA.out 1 rfl (fun _ _ => trivial))
    clear h hF hnam hn hFa hop ea hlt h3 S1
    generalize toNd x = y at *
    go_enter Tryd.func29, Tryd.ntmps29
    go_upto_region 2 with fail
    rw [← hw1, ← hxb]
    clear hw1 hxb a0 a1 a2
    go_wp2_with fail
    refine hAr.out.mono ?_
    rintro e w2 ⟨rfl, rfl⟩
    clear hAr
    go_wp2
    go_ret2
    rw [hr.out]
    exact ⟨_, rfl, _, 1, rfl, Nat.le_refl _, hone.out, hB1.out.trans (SA.out.bel.mono hB1.out.size)⟩
  · by_cases h4 : x.op = 4
    · have hr : Hid (F10.rl Fs (.leaf x) = some []) := Lib.hid (by unfold F10.rl; rw [if_neg h3, if_pos h4])
      have q3 : ((toNd x).o == 3) = false := by rw [beq_eq_false_iff_ne]; show ¬ (x.op : Int) = 3; omega
      have q4 : ((toNd x).o == 4) = true := by rw [beq_iff_eq]; show (x.op : Int) = 4; omega
      clear h hF hnam hn hFa hop ea hlt h3 h4 S1
      generalize toNd x = y at *
      go_enter Tryd.func29, Tryd.ntmps29
      go_upto_region 2 with fail
      rw [← hw1, ← hxb]
      clear hw1 hxb a0 a1 a2
      go_wp2_with fail
      refine hAr.out.mono ?_
      rintro e w2 ⟨rfl, rfl⟩
      clear hAr
      go_wp2
      go_ret2
      rw [hr.out]
      exact ⟨_, rfl, none, 0, rfl, Nat.le_refl _, LR.nil_ _ _ _, hB1.out⟩
    · obtain ⟨f, hf⟩ : ∃ f, F10.facOf x = some f := by
        unfold F10.facOf
        by_cases h5 : x.op = 1
        · exact ⟨_, if_pos h5⟩
        · rw [if_neg h5, if_pos (by omega)]; exact ⟨_, rfl⟩
      have hfm := hnam f hf
      obtain ⟨i, hi⟩ : ∃ i, i = Fs.idxOf f := ⟨_, rfl⟩
      have hr : Hid (F10.rl Fs (.leaf x) = some [2 ^ i]) := Lib.hid (by unfold F10.rl; rw [if_neg h3, if_neg h4, hf, hi]; rfl)
      have hi64 : i < 64 := by rw [hi]; exact Nat.lt_of_lt_of_le (List.idxOf_lt_length_iff.2 hfm) hF
      have hF1 := Lib.hid (rfactor_any (toNd x) w1)
      rw [facV_leaf hf] at hF1
      have hPl := Lib.hid (fun W (hW : Below w1.heap.size w1 W) => place_any (Fs.map toFa) FA fn fc (toFa f) W ((hFa.bel hB1.out).bel hW) (by have := hFa.len; rw [List.length_map] at this; omega))
      have hix : Hid (∀ z, Ix (Fs.map toFa) (toFa f) z → z = (i : Nat)) := Lib.hid fun z hz => by
        rcases hz with ⟨_, hz⟩ | ⟨_, hz⟩
        · exact absurd (toFa_mem.2 hfm) hz
        · rw [hz, toFa_idx, ← hi]
      have q3 : ((toNd x).o == 3) = false := by rw [beq_eq_false_iff_ne]; show ¬ (x.op : Int) = 3; omega
      have q4 : ((toNd x).o == 4) = false := by rw [beq_eq_false_iff_ne]; show ¬ (x.op : Int) = 4; omega
      have hihid := Lib.hid hi64
      clear h hF hnam hn hFa hop ea hlt h3 h4 S1 hf hfm hi hi64
      generalize toNd x = y at *
      generalize toFa f = g at *
      go_enter Tryd.func29, Tryd.ntmps29
      go_upto_region 2 with fail
      rw [← hw1, ← hxb]
      clear hw1 hxb a0 a1 a2
      go_wp2_with fail
      refine hAr.out.mono ?_
      rintro e w2 ⟨rfl, rfl⟩
      clear hAr
      go_wp2_with fail
      refine hF1.out.mono ?_
      rintro e w3 ⟨rfl, hb3⟩
      have B3 := Lib.hid hb3
      clear hF1 hb3 k0 k1 k2 q3 q4
      go_wp2_with fail
      refine (hPl.out w3 B3.out).mono ?_
      rintro e w4 ⟨⟨z, rfl, hz⟩, hb4⟩
      obtain rfl := hix.out z hz
      have B4 := Lib.hid (B3.out.trans (hb4.mono B3.out.size))
      have hi64 := hihid.out
      have SA := Lib.hid ((St.new w4).alloc #[.int .u64 ((2 ^ i : Nat) : Int)] 64 (noLof rfl))
      have hone := Lib.hid (St_glr (C := uC) (L := [2 ^ i]) SA.out 1 rfl (fun _ _ => trivial))
      clear hz hb4 hPl hix B3
      have eW : IntKind.u64.wrap (2 ^ i) = ((2 ^ i : Nat) : Int) := by
        have e : (2 : Int) ^ i = ((2 ^ i : Nat) : Int) := by rw [Int.natCast_pow]; rfl
        rw [e]; exact wrap64_nat (two_pow_lt hi64)
      go_wp2
      go_ret2
      rw [hr.out]
      exact ⟨_, rfl, _, 1, rfl, Nat.le_refl _, hone.out, hB1.out.trans ((B4.out.trans (SA.out.bel.mono B4.out.size)).mono hB1.out.size)⟩
end Go.Proofs.YthbkdjbmkhmlnaaDoor
