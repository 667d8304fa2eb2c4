/- Names, of the program and of the reference. -/
import Derived.Test.YthbkdjbmkhmlnaaDoorB02
import Derived.Test.YthbkdjbmkhmlnaaDoorB03
import Derived.Lib.Strings
namespace Go.Proofs.YthbkdjbmkhmlnaaDoor
open Go.RowKit
set_option linter.unusedVariables false

theorem getBang {s : ByteArray} {k : Nat} (h : k < s.size) : s.get! k = s[k] := by
  show s.data[k]! = _
  rw [getElem!_pos]; rfl
theorem toList_len (s : ByteArray) : s.data.toList.length = s.size := Array.length_toList
theorem toList_get {s : ByteArray} {k : Nat} (h : k < s.size) : s.data.toList[k]? = some s[k] := by
  rw [Array.getElem?_toList, Array.getElem?_eq_getElem h]; rfl
/-- Bytes of names. -/
def letB (c : UInt8) : Bool := decide (97 ≤ c.toNat) && decide (c.toNat ≤ 122) || decide (65 ≤ c.toNat) && decide (c.toNat ≤ 90)
def digB (c : UInt8) : Bool := decide (48 ≤ c.toNat) && decide (c.toNat ≤ 57)
def innB (c : UInt8) : Bool := letB c || digB c || c == 95 || c == 46
def powB : ByteArray := ⟨#[112, 111, 119, 101, 114]⟩
/-- Is this a name? -/
def nameL (l : List UInt8) : Bool := match l with
  | [] => false
  | c :: r => decide (l.length ≤ 32) && letB c && !(l == [112, 111, 119, 101, 114]) && r.all innB
def nameB (s : ByteArray) : Bool := nameL s.data.toList
/-- Are all texts different? -/
def seB (a b : ByteArray) : Bool := a.toList == b.toList
def inB (s : ByteArray) (l : List ByteArray) : Bool := l.any (seB s)
theorem seB_eq {a b : ByteArray} : seB a b = true ↔ a = b := by
  unfold seB
  rw [beq_iff_eq, Lib.toList_data, Lib.toList_data]
  constructor
  · intro h
    have := congrArg List.toArray h
    exact ByteArray.ext (by simpa using this)
  · rintro rfl; rfl
theorem inB_mem {s : ByteArray} {l : List ByteArray} : inB s l = true ↔ s ∈ l := by
  unfold inB
  rw [List.any_eq_true]
  constructor
  · rintro ⟨x, hx, h⟩; rw [seB_eq] at h; exact h ▸ hx
  · intro h; exact ⟨s, h, seB_eq.2 rfl⟩
set_option maxRecDepth 100000 in
set_option maxHeartbeats 4000000 in
theorem isLetter_any (c : UInt8) (w : World) : Calls Tryd.prog 68 #[.int .u8 c.toNat] w fun e w' => e = .returned (.bool (letB c)) ∧ w' = w := by
  unfold letB
  generalize c.toNat = n
  by_cases h0 : 97 ≤ n <;> by_cases h1 : n ≤ 122 <;> by_cases h2 : 65 ≤ n <;> by_cases h3 : n ≤ 90
  all_goals try (exfalso; omega)
  all_goals
    (try have g0 : 97 ≤ (n : Int) := by omega)
    (try have g0 : ¬ 97 ≤ (n : Int) := by omega)
    (try have g1 : (n : Int) ≤ 122 := by omega)
    (try have g1 : ¬ (n : Int) ≤ 122 := by omega)
    (try have g2 : 65 ≤ (n : Int) := by omega)
    (try have g2 : ¬ 65 ≤ (n : Int) := by omega)
    (try have g3 : (n : Int) ≤ 90 := by omega)
    (try have g3 : ¬ (n : Int) ≤ 90 := by omega)
    go_enter Tryd.func68, Tryd.ntmps68
    go_wp2
    go_ret
    exact ⟨by simp [*], rfl⟩

set_option maxRecDepth 100000 in
set_option maxHeartbeats 4000000 in
theorem isDigit_any (c : UInt8) (w : World) : Calls Tryd.prog 69 #[.int .u8 c.toNat] w fun e w' => e = .returned (.bool (digB c)) ∧ w' = w := by
  unfold digB
  generalize c.toNat = n
  by_cases h0 : 48 ≤ n <;> by_cases h1 : n ≤ 57
  all_goals try (exfalso; omega)
  all_goals
    (try have g0 : 48 ≤ (n : Int) := by omega)
    (try have g0 : ¬ 48 ≤ (n : Int) := by omega)
    (try have g1 : (n : Int) ≤ 57 := by omega)
    (try have g1 : ¬ (n : Int) ≤ 57 := by omega)
    go_enter Tryd.func69, Tryd.ntmps69
    go_wp2
    go_ret
    exact ⟨by simp [*], rfl⟩

set_option maxRecDepth 100000 in
set_option maxHeartbeats 4000000 in
theorem risLetter_any (c : UInt8) (w : World) : Calls Tryd.prog 74 #[.int .u8 c.toNat] w fun e w' => e = .returned (.bool (letB c)) ∧ w' = w := by
  unfold letB
  generalize c.toNat = n
  by_cases h0 : 97 ≤ n <;> by_cases h1 : n ≤ 122 <;> by_cases h2 : 65 ≤ n <;> by_cases h3 : n ≤ 90
  all_goals try (exfalso; omega)
  all_goals
    (try have g0 : 97 ≤ (n : Int) := by omega)
    (try have g0 : ¬ 97 ≤ (n : Int) := by omega)
    (try have g1 : (n : Int) ≤ 122 := by omega)
    (try have g1 : ¬ (n : Int) ≤ 122 := by omega)
    (try have g2 : 65 ≤ (n : Int) := by omega)
    (try have g2 : ¬ 65 ≤ (n : Int) := by omega)
    (try have g3 : (n : Int) ≤ 90 := by omega)
    (try have g3 : ¬ (n : Int) ≤ 90 := by omega)
    go_enter Tryd.func74, Tryd.ntmps74
    go_wp2
    go_ret
    exact ⟨by simp [*], rfl⟩

theorem nameB_cons {s : ByteArray} (h : 0 < s.size) : nameB s = (decide (s.size ≤ 32) && letB s[0] && !(seB s powB) && s.data.toList.all innB) := by
  unfold nameB nameL
  have h0 := toList_get (k := 0) h
  have hl := toList_len s
  have hse : seB s powB = (s.data.toList == [112, 111, 119, 101, 114]) := by unfold seB; rw [Lib.toList_data, Lib.toList_data]; rfl
  rw [hse]
  generalize s[0] = c at *
  revert h0 hl
  generalize s.data.toList = l
  intro hl h0
  cases l with
  | nil => simp at h0
  | cons a r =>
    obtain rfl : a = c := by simpa using h0
    rw [← hl]
    simp only [List.all_cons]
    cases hb : letB a
    · simp
    · have : innB a = true := by unfold innB; rw [hb]; rfl
      rw [this]; simp
theorem nameB_no {s : ByteArray} (h : 0 < s.size) (h2 : 32 < s.size ∨ seB s powB = true ∨ letB s[0] = false ∨ ∃ i, ∃ (hi : i < s.size), innB s[i] = false) : nameB s = false := by
  rw [nameB_cons h]
  rcases h2 with h2 | h2 | h2 | ⟨i, hi, h2⟩
  · rw [decide_eq_false (by omega)]; rfl
  · rw [h2]; simp
  · rw [h2]; simp
  · have : s.data.toList.all innB = false := by
      rw [List.all_eq_false]
      exact ⟨s[i], List.mem_of_getElem? (toList_get hi), by rw [h2]; simp⟩
    rw [this]; simp
theorem nameB_yes {s : ByteArray} (h : 0 < s.size) (h1 : s.size ≤ 32) (h2 : seB s powB = false) (h3 : letB s[0] = true) (h4 : ∀ i, (hi : i < s.size) → innB s[i] = true) : nameB s = true := by
  rw [nameB_cons h, decide_eq_true h1, h2, h3]
  have : s.data.toList.all innB = true := by
    rw [List.all_eq_true]
    intro x hx
    obtain ⟨i, hi⟩ := List.getElem?_of_mem hx
    have hl : i < s.size := by rw [← toList_len]; exact (List.getElem?_eq_some_iff.1 hi).1
    rw [toList_get hl] at hi
    injection hi with hi
    rw [← hi]; exact h4 i hl
  rw [this]; rfl
theorem nameB_nil {s : ByteArray} (h : s.size = 0) : nameB s = false := by
  have : s = ByteArray.empty := ByteArray.ext (by apply Array.eq_empty_of_size_eq_zero; exact h)
  subst this; rfl
theorem inn_parts {c : UInt8} : innB c = (letB c || (digB c || (c == 95 || c == 46))) := by unfold innB; simp [Bool.or_assoc]
theorem u8_eq (c : UInt8) (k : Nat) (hk : k < 256) : ((c.toNat : Int) == (k : Int)) = (c == UInt8.ofNat k) := by
  rw [Bool.eq_iff_iff, beq_iff_eq, beq_iff_eq]
  constructor
  · intro h
    have : c.toNat = k := by omega
    rw [← this]; simp
  · rintro rfl
    have : (UInt8.ofNat k).toNat = k := by simp; omega
    rw [this]

set_option maxRecDepth 100000 in
set_option maxHeartbeats 4000000 in
theorem name_any (s : ByteArray) (w : World) : Calls Tryd.prog 33 #[.string s] w fun e w' => e = .returned (.bool (nameB s)) ∧ w' = w := by
  by_cases h0 : s.size = 0
  · rw [nameB_nil h0]
    have hs : s = ByteArray.empty := ByteArray.ext (by apply Array.eq_empty_of_size_eq_zero; exact h0)
    subst hs
    go_enter Tryd.func33, Tryd.ntmps33
    go_wp2
    go_ret
    exact ⟨rfl, rfl⟩
  have hz : 0 < s.size := by omega
  have e0 : s.toList.isEmpty = false := by
    rw [Lib.toList_data]
    have := toList_len s
    cases hh : s.data.toList
    · rw [hh] at this; simp at this; omega
    · rfl
  by_cases h1 : 32 < s.size
  · rw [nameB_no hz (.inl h1)]
    have g1 : (32 : Int) < (s.size : Int) := by omega
    go_enter Tryd.func33, Tryd.ntmps33
    go_wp2
    go_ret
    exact ⟨rfl, rfl⟩
  have g1 : ¬ (32 : Int) < (s.size : Int) := by omega
  have g1' : decide ((32 : Int) < (s.size : Int)) = false := decide_eq_false g1
  cases h2 : seB s powB
  rotate_left
  · rw [nameB_no hz (.inr (.inl h2))]
    have g2 : (s.toList == [112, 111, 119, 101, 114]) = true := by have hh := h2; unfold seB at hh; rw [Lib.toList_data powB] at hh; exact hh
    replace h2 := Lib.hid h2
    go_enter Tryd.func33, Tryd.ntmps33
    go_wp2
    go_ret
    exact ⟨rfl, rfl⟩
  have g2 : (s.toList == [112, 111, 119, 101, 114]) = false := by have hh := h2; unfold seB at hh; rw [Lib.toList_data powB] at hh; exact hh
  have hL := Lib.hid (fun c W => isLetter_any c W)
  have hD := Lib.hid (fun c W => isDigit_any c W)
  have gz : (0 : Int) < (s.size : Int) := by omega
  cases h3 : letB s[0]
  · rw [nameB_no hz (.inr (.inr (.inl h3)))]
    have hL0 := hL.out s[0]
    rw [h3] at hL0
    replace hL0 := Lib.hid hL0
    clear hL hD h3
    go_enter Tryd.func33, Tryd.ntmps33
    go_wp2_with fail
    refine (hL0.out _).mono ?_
    rintro e w1 ⟨rfl, rfl⟩
    go_wp2
    go_ret
    exact ⟨rfl, rfl⟩
  have hL0 := hL.out s[0]
  rw [h3] at hL0
  replace hL0 := Lib.hid hL0
  have hyes := Lib.hid (nameB_yes hz (by omega) h2 h3)
  have hno := Lib.hid (fun hh => nameB_no hz (.inr (.inr (.inr hh))))
  obtain ⟨nv, hnv⟩ : ∃ z, z = nameB s := ⟨_, rfl⟩
  rw [← hnv] at hyes hno ⊢
  replace h2 := Lib.hid h2
  have hsz := Lib.hid h1
  clear h0 hnv h3 h1
  go_enter Tryd.func33, Tryd.ntmps33
  go_wp2_with fail
  refine (hL0.out _).mono ?_
  rintro e w1 ⟨rfl, rfl⟩
  clear hL0
  go_wp2
  go_loopw [23] (fun iv wr => ∃ i : Nat, i ≤ s.size ∧ iv = .int .i64 i ∧ wr = w1 ∧ (∀ j, (hj : j < i) → ∀ (h2 : j < s.size), innB s[j] = true)) (fun iv _ => s.size - (intOf iv).toNat)
  case atStart => exact ⟨0, Nat.zero_le _, rfl, rfl, fun j h0 => absurd h0 (Nat.not_lt_zero _)⟩
  case round =>
    obtain ⟨i, hin, rfl, rfl, hall⟩ := hrel
    by_cases hlt : i < s.size
    · have q1 : (i : Int) < (s.size : Int) := by omega
      have q2 : (0 : Int) ≤ (i : Int) := by omega
      have hi63 := Lib.hid hlt
      have hsh := Lib.hid hsz.out
      replace hall := Lib.hid hall
      have hLi := hL.out s[i]
      have hDi := hD.out s[i]
      have hip := inn_parts (c := s[i])
      have u1 := u8_eq s[i] 95 (by decide)
      have u2 := u8_eq s[i] 46 (by decide)
      have hino := Lib.hid (fun h => hno.out ⟨i, hlt, h⟩)
      have hyi := Lib.hid (fun (h : innB s[i] = true) (j : Nat) (hj : j < i + 1) (h2 : j < s.size) => (by rcases Nat.lt_or_ge j i with h3 | h3; exact hall.out j h3 h2; obtain rfl : j = i := (by omega); exact h : innB s[j] = true))
      generalize innB s[i] = v at *
      have u1 : ((s[i].toNat : Int) == 95) = (s[i] == 95) := u1
      have u2 : ((s[i].toNat : Int) == 46) = (s[i] == 46) := u2
      have p1 : ((s[i].toNat : Int) = 95) = ((s[i] == 95) = true) := by rw [← u1, beq_iff_eq]
      have p2 : ((s[i].toNat : Int) = 46) = ((s[i] == 46) = true) := by rw [← u2, beq_iff_eq]
      generalize (s[i] == 95) = b1 at *
      generalize (s[i] == 46) = b2 at *
      generalize letB s[i] = b3 at *
      generalize digB s[i] = b4 at *
      replace hLi := Lib.hid hLi
      replace hDi := Lib.hid hDi
      clear hlt hin hno
      cases b3
      · cases b4
        · cases b1
          · cases b2
            ·
              have n1 : ¬ ((s[i].toNat : Int) = 95) := by intro h; rw [p1] at h; cases h
              have n2 : ¬ ((s[i].toNat : Int) = 46) := by intro h; rw [p2] at h; cases h
              have mh := Lib.hid (And.intro n1 n2)
              simp at hip
              subst hip
              clear p1 p2 u1 u2
              have hlt := hi63.out
              have hs1 := hsh.out
              go_wp2_with fail
              refine (hLi.out _).mono ?_
              rintro e w2 ⟨rfl, rfl⟩
              go_wp2_with fail
              refine (hDi.out _).mono ?_
              rintro e w3 ⟨rfl, rfl⟩
              go_wp2
              all_goals try (exfalso; have mm := mh.out; rename_i ha hb; simp only [bne_iff_ne, bne_eq_false_iff_eq, ne_eq] at hb; omega)
              have hfi := hino.out (by first | rfl | trivial)
              subst hfi
              go_ret
              exact ⟨rfl, rfl⟩
            ·
              have n2 : ((s[i].toNat : Int) = 46) = True := by rw [p2]; simp
              have mh := Lib.hid (of_eq_true n2)
              simp at hip
              subst hip
              clear p1 p2 u1 u2
              have hlt := hi63.out
              have hs1 := hsh.out
              go_wp2_with fail
              refine (hLi.out _).mono ?_
              rintro e w2 ⟨rfl, rfl⟩
              go_wp2_with fail
              refine (hDi.out _).mono ?_
              rintro e w3 ⟨rfl, rfl⟩
              go_wp2
              all_goals try (exfalso; have mm := mh.out; rename_i ha hb; simp only [bne_iff_ne, bne_eq_false_iff_eq, ne_eq] at hb; omega)
              all_goals
                go_roundw
                case rel => exact ⟨i + 1, by omega, by go_num, (by first | rfl | trivial), hyi.out (by first | rfl | trivial)⟩
                case measure => simp [intOf]; omega
          ·
            have n1 : ((s[i].toNat : Int) = 95) = True := by rw [p1]; simp
            have mh := Lib.hid (of_eq_true n1)
            simp at hip
            subst hip
            clear p1 p2 u1 u2
            have hlt := hi63.out
            have hs1 := hsh.out
            go_wp2_with fail
            refine (hLi.out _).mono ?_
            rintro e w2 ⟨rfl, rfl⟩
            go_wp2_with fail
            refine (hDi.out _).mono ?_
            rintro e w3 ⟨rfl, rfl⟩
            go_wp2
            all_goals try (exfalso; have mm := mh.out; rename_i ha hb; simp only [bne_iff_ne, bne_eq_false_iff_eq, ne_eq] at hb; omega)
            all_goals
              go_roundw
              case rel => exact ⟨i + 1, by omega, by go_num, (by first | rfl | trivial), hyi.out (by first | rfl | trivial)⟩
              case measure => simp [intOf]; omega
        ·
          simp at hip
          subst hip
          clear p1 p2 u1 u2
          have hlt := hi63.out
          have hs1 := hsh.out
          go_wp2_with fail
          refine (hLi.out _).mono ?_
          rintro e w2 ⟨rfl, rfl⟩
          go_wp2_with fail
          refine (hDi.out _).mono ?_
          rintro e w3 ⟨rfl, rfl⟩
          go_wp2
          all_goals
            go_roundw
            case rel => exact ⟨i + 1, by omega, by go_num, (by first | rfl | trivial), hyi.out (by first | rfl | trivial)⟩
            case measure => simp [intOf]; omega
      ·
        simp at hip
        subst hip
        clear p1 p2 u1 u2
        have hlt := hi63.out
        have hs1 := hsh.out
        go_wp2_with fail
        refine (hLi.out _).mono ?_
        rintro e w2 ⟨rfl, rfl⟩
        go_wp2
        all_goals
          go_roundw
          case rel => exact ⟨i + 1, by omega, by go_num, (by first | rfl | trivial), hyi.out (by first | rfl | trivial)⟩
          case measure => simp [intOf]; omega
    · obtain rfl : i = s.size := by omega
      have hfin := Lib.hid (hyes.out (fun j hj => hall j hj hj))
      clear hall hin hlt
      go_wp2
      go_ret
      exact ⟨by rw [hfin.out]; rfl, rfl⟩
set_option maxRecDepth 100000 in
set_option maxHeartbeats 4000000 in
theorem rInner_any (c : UInt8) (w : World) : Calls Tryd.prog 75 #[.int .u8 c.toNat] w fun e w' => e = .returned (.bool (innB c)) ∧ w' = w := by
  have hL := Lib.hid (fun W => risLetter_any c W)
  rw [inn_parts]
  have u1 : ((c.toNat : Int) == 95) = (c == 95) := u8_eq c 95 (by decide)
  have u2 : ((c.toNat : Int) == 46) = (c == 46) := u8_eq c 46 (by decide)
  have p1 : ((c.toNat : Int) = 95) = ((c == 95) = true) := by rw [← u1, beq_iff_eq]
  have p2 : ((c.toNat : Int) = 46) = ((c == 46) = true) := by rw [← u2, beq_iff_eq]
  unfold digB
  generalize letB c = b3 at *
  generalize (c == 95) = b1 at *
  generalize (c == 46) = b2 at *
  generalize c.toNat = n at *
  by_cases h1 : 48 ≤ n <;> by_cases h2 : n ≤ 57 <;> cases b1 <;> cases b2
  all_goals try (exfalso; (try simp at p1); (try simp at p2); omega)
  all_goals
    (try have g1 : (48 : Int) ≤ (n : Int) := by omega)
    (try have g1 : ¬ (48 : Int) ≤ (n : Int) := by omega)
    (try have g2 : (n : Int) ≤ (57 : Int) := by omega)
    (try have g2 : ¬ (n : Int) ≤ (57 : Int) := by omega)
    replace p1 := Lib.hid p1
    replace p2 := Lib.hid p2
    have hh := Lib.hid (And.intro h1 h2)
    clear h1 h2
    go_enter Tryd.func75, Tryd.ntmps75
    go_wp2_with fail
    refine (hL.out _).mono ?_
    rintro e w1 ⟨rfl, rfl⟩
    clear hL
    cases b3
  all_goals
    go_wp2
    go_ret
    refine ⟨?_, rfl⟩
    first
    | (simp [*]; done)
    | (have hq := hh.out; simp only [hq]; simp [*]; done)
    | (have hq := hh.out; obtain ⟨hq1, hq2⟩ := hq; simp [*, hq1, hq2]; omega)
    | (have hq := hh.out; obtain ⟨hq1, hq2⟩ := hq; simp [*, hq1, hq2]; done)

set_option maxRecDepth 100000 in
set_option maxHeartbeats 4000000 in
theorem rName_any (s : ByteArray) (w : World) : Calls Tryd.prog 38 #[.string s] w fun e w' => e = .returned (.bool (nameB s)) ∧ w' = w := by
  by_cases h0 : s.size = 0
  · rw [nameB_nil h0]
    have g0 : (s.size : Int) < 1 := by omega
    clear h0
    go_enter Tryd.func38, Tryd.ntmps38
    go_wp2
    go_ret
    exact ⟨rfl, rfl⟩
  have hz : 0 < s.size := by omega
  have g0 : ¬ (s.size : Int) < 1 := by omega
  by_cases h1 : 32 < s.size
  · rw [nameB_no hz (.inl h1)]
    have g1 : (32 : Int) < (s.size : Int) := by omega
    go_enter Tryd.func38, Tryd.ntmps38
    go_wp2
    go_ret
    exact ⟨rfl, rfl⟩
  have g1 : ¬ (32 : Int) < (s.size : Int) := by omega
  have hL := Lib.hid (fun W => risLetter_any s[0] W)
  have hI := Lib.hid (fun c W => rInner_any c W)
  have gz : (0 : Int) < (s.size : Int) := by omega
  cases h3 : letB s[0]
  · rw [nameB_no hz (.inr (.inr (.inl h3)))]
    rw [h3] at hL
    clear h3 hI
    go_enter Tryd.func38, Tryd.ntmps38
    go_wp2_with fail
    refine (hL.out _).mono ?_
    rintro e w1 ⟨rfl, rfl⟩
    go_wp2
    go_ret
    exact ⟨rfl, rfl⟩
  rw [h3] at hL
  cases h2 : seB s powB
  rotate_left
  · rw [nameB_no hz (.inr (.inl h2))]
    have g2 : (s.toList == [112, 111, 119, 101, 114]) = true := by have hh := h2; unfold seB at hh; rw [Lib.toList_data powB] at hh; exact hh
    replace h2 := Lib.hid h2
    clear h3 hI
    go_enter Tryd.func38, Tryd.ntmps38
    go_wp2_with fail
    refine (hL.out _).mono ?_
    rintro e w1 ⟨rfl, rfl⟩
    go_wp2
    go_ret
    exact ⟨rfl, rfl⟩
  have g2 : (s.toList == [112, 111, 119, 101, 114]) = false := by have hh := h2; unfold seB at hh; rw [Lib.toList_data powB] at hh; exact hh
  have hyes := Lib.hid (nameB_yes hz (by omega) h2 h3)
  have hno := Lib.hid (fun hh => nameB_no hz (.inr (.inr (.inr hh))))
  have h30 := Lib.hid (show innB s[0] = true by unfold innB; rw [h3]; rfl)
  obtain ⟨nv, hnv⟩ : ∃ z, z = nameB s := ⟨_, rfl⟩
  rw [← hnv] at hyes hno ⊢
  replace h2 := Lib.hid h2
  have hsz := Lib.hid (And.intro h1 hz)
  clear h0 hnv h3 h1
  go_enter Tryd.func38, Tryd.ntmps38
  go_wp2_with fail
  refine (hL.out _).mono ?_
  rintro e w1 ⟨rfl, rfl⟩
  clear hL
  go_wp2
  go_loopw [3] (fun iv wr => ∃ i : Nat, 1 ≤ i ∧ i ≤ s.size ∧ iv = .int .i64 i ∧ wr = w1 ∧ (∀ j, (hj : j < i) → ∀ (h2 : j < s.size), innB s[j] = true)) (fun iv _ => s.size - (intOf iv).toNat)
  case atStart => exact ⟨1, Nat.le_refl _, hsz.out.2, rfl, rfl, fun j h0 h2 => (by obtain rfl : j = 0 := (by omega); exact h30.out)⟩
  case round =>
    obtain ⟨i, hi1, hin, rfl, rfl, hall⟩ := hrel
    by_cases hlt : i < s.size
    · have q1 : (i : Int) < (s.size : Int) := by omega
      have q2 : (0 : Int) ≤ (i : Int) := by omega
      have hi63 := Lib.hid (And.intro hlt hi1)
      replace hall := Lib.hid hall
      have hIi := hI.out s[i]
      have hino := Lib.hid (fun h => hno.out ⟨i, hlt, h⟩)
      have hyi := Lib.hid (fun (h : innB s[i] = true) (j : Nat) (hj : j < i + 1) (h2 : j < s.size) => (by rcases Nat.lt_or_ge j i with h3 | h3; exact hall.out j h3 h2; obtain rfl : j = i := (by omega); exact h : innB s[j] = true))
      generalize innB s[i] = v at *
      replace hIi := Lib.hid hIi
      clear hin hi1
      go_wp2_with fail
      refine (hIi.out _).mono ?_
      rintro e w2 ⟨rfl, rfl⟩
      cases v
      · have hfi := hino.out rfl
        subst hfi
        go_wp2
        go_ret
        exact ⟨rfl, rfl⟩
      · have hlt := hi63.out
        have hss := hsz.out
        go_wp2
        go_roundw
        case rel => exact ⟨i + 1, by omega, by omega, by go_num, (by first | rfl | trivial), hyi.out (by first | rfl | trivial)⟩
        case measure => simp [intOf]; omega
    · obtain rfl : i = s.size := by omega
      have hy := hyes.out (fun j h2 => hall j h2 h2)
      subst hy
      clear hall hin hlt
      go_wp2
      go_ret
      exact ⟨rfl, rfl⟩

end Go.Proofs.YthbkdjbmkhmlnaaDoor
namespace Go.Proofs.YthbkdjbmkhmlnaaDoor
open Go.RowKit
set_option linter.unusedVariables false

/-- A node as it lies in memory. -/
structure Nd where
  o : Int
  s : ByteArray
  k : Int
def ndC : Cod Nd := (proC intC (proC strC intC)).via fun c => (c.o, c.s, c.k)
theorem nd_sz : ndC.sz = 3 := rfl
theorem nd_cs (c : Nd) : ndC.cs c = [.int .i64 c.o, .string c.s, .int .i64 c.k] := rfl
theorem nd_get {W : World} {A : Option Addr} {n : Nat} {L : List Nd} (h : LR ndC W A n L) {i : Nat} (hi : i < n) : ∃ b o c, A = some ⟨b, o, none⟩ ∧ L[i]? = some c ∧ c ∈ L ∧ W.cell? ⟨b, o + i * 3, none⟩ = some (.int .i64 c.o) ∧ W.cell? ⟨b, o + i * 3 + 1, none⟩ = some (.string c.s) ∧ W.cell? ⟨b, o + i * 3 + 2, none⟩ = some (.int .i64 c.k) := by
  obtain ⟨b, o, c, h1, h2, h3, h4, h5⟩ := h.get hi
  exact ⟨b, o, c, h1, h2, h3, h5 0 _ rfl, h5 1 _ rfl, h5 2 _ rfl⟩
/-- How many operands an operation has; -1 if there is none. -/
def ariB (o : Int) : Int := if 1 ≤ o ∧ o ≤ 4 then 0 else if o = 10 then 1 else if 5 ≤ o ∧ o ≤ 9 then 2 else -1
/-- Are the fields those of the operation? -/
def fldB (x : Nd) : Bool :=
  if x.o = 1 then nameB x.s && decide (0 ≤ x.k) && decide (x.k ≤ 0)
  else if x.o = 2 then nameB x.s && decide (2 ≤ x.k) && decide (x.k ≤ 8)
  else if x.o = 10 then x.s.toList.isEmpty && decide (1 ≤ x.k) && decide (x.k ≤ 6)
  else x.s.toList.isEmpty && decide (0 ≤ x.k) && decide (x.k ≤ 0)
def nodB (x : Nd) : Bool := decide (1 ≤ x.o) && decide (x.o ≤ 10) && fldB x
/-- The table of operations, as the program lays it. -/
def opsC : Array Value := #[.string ⟨#[]⟩, .int .i64 0, .int .i64 0, .bool false, .int .i64 0, .int .i64 0, .string ⟨#[]⟩, .int .i64 5, .int .i64 0, .bool true, .int .i64 0, .int .i64 0, .string ⟨#[112, 111, 119, 101, 114]⟩, .int .i64 5, .int .i64 0, .bool true, .int .i64 2, .int .i64 8, .string ⟨#[49]⟩, .int .i64 5, .int .i64 0, .bool false, .int .i64 0, .int .i64 0, .string ⟨#[48]⟩, .int .i64 5, .int .i64 0, .bool false, .int .i64 0, .int .i64 0, .string ⟨#[43]⟩, .int .i64 1, .int .i64 2, .bool false, .int .i64 0, .int .i64 0, .string ⟨#[45]⟩, .int .i64 1, .int .i64 2, .bool false, .int .i64 0, .int .i64 0, .string ⟨#[58]⟩, .int .i64 3, .int .i64 2, .bool false, .int .i64 0, .int .i64 0, .string ⟨#[42]⟩, .int .i64 2, .int .i64 2, .bool false, .int .i64 0, .int .i64 0, .string ⟨#[47]⟩, .int .i64 2, .int .i64 2, .bool false, .int .i64 0, .int .i64 0, .string ⟨#[94]⟩, .int .i64 4, .int .i64 1, .bool false, .int .i64 1, .int .i64 6]
def Og (W : World) : Prop := 0 < W.heap.size ∧ ∀ (k : Nat) (v : Value), opsC[k]? = some v → W.cell? ⟨0, k, none⟩ = some v
theorem Og.bel {w w' : World} (h : Og w) (hb : Below w.heap.size w w') : Og w' :=
  ⟨Nat.lt_of_lt_of_le h.1 hb.size, fun k v hv => (World.cell?_of_block (hb.block _ h.1)).trans (h.2 k v hv)⟩

set_option maxRecDepth 100000 in
set_option maxHeartbeats 4000000 in
theorem arity_any (o : Int) (w : World) : Calls Tryd.prog 64 #[.int .i64 o] w fun e w' => e = .returned (.int .i64 (ariB o)) ∧ w' = w := by
  unfold ariB
  by_cases h1 : 1 ≤ o
  · by_cases h4 : o ≤ 4
    · rw [if_pos ⟨h1, h4⟩]
      go_enter Tryd.func64, Tryd.ntmps64
      go_wp2
      go_ret
      exact ⟨rfl, rfl⟩
    · rw [if_neg (by omega)]
      by_cases h10 : o = 10
      · rw [if_pos h10]
        subst h10
        clear h1 h4
        go_enter Tryd.func64, Tryd.ntmps64
        go_wp2
        go_ret
        exact ⟨rfl, rfl⟩
      · rw [if_neg h10]
        by_cases h9 : o ≤ 9
        · rw [if_pos ⟨by omega, h9⟩]
          have h5 : 5 ≤ o := by omega
          have e10 : (o == 10) = false := by rw [beq_eq_false_iff_ne]; exact h10
          go_enter Tryd.func64, Tryd.ntmps64
          go_wp2
          go_ret
          exact ⟨rfl, rfl⟩
        · rw [if_neg (by omega)]
          have h5 : 5 ≤ o := by omega
          have e10 : (o == 10) = false := by rw [beq_eq_false_iff_ne]; exact h10
          go_enter Tryd.func64, Tryd.ntmps64
          go_wp2
          go_ret
          exact ⟨rfl, rfl⟩
  · rw [if_neg (by omega), if_neg (by omega), if_neg (by omega)]
    have h5 : ¬ 5 ≤ o := by omega
    have e10 : (o == 10) = false := by rw [beq_eq_false_iff_ne]; omega
    go_enter Tryd.func64, Tryd.ntmps64
    go_wp2
    go_ret
    exact ⟨rfl, rfl⟩
end Go.Proofs.YthbkdjbmkhmlnaaDoor
