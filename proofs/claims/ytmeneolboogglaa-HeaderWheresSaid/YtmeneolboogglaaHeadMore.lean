/- Package header: Gone, Where, Free, Held, Owner are as the document says. Condition: numbers are not below 0; Owner is asked of a word that Held or Free made. -/
import Derived.Test.YtmeneolboogglaaHead
namespace Go.Proofs.Ytmeneolboogglaa
open Go.ChangeShapes Go.WideShapes Go.ChangeAt Go.RowKit

set_option linter.unusedSimpArgs false
set_option linter.unusedVariables false

/-- What Gone tells of a place. -/
def mayGo (n : Nat) : Bool := decide (1 ≤ n ∧ n ≤ 131072)
def goneN (n : Nat) : Nat := if mayGo n then 2 + n * 4 else 0

set_option maxHeartbeats 1000000 in
theorem gone_any (n : Nat) (hn : n < 4611686018427387904) (w : World) :
    Calls Try.prog 10 #[.int .i64 n] w fun e w' => e = .returned (.tuple #[.int .u64 (goneN n : Nat), .bool (mayGo n)]) ∧ Below w.heap.size w w' := by
  have hL := lay_2_64 n hn (by omega)
  have o1 : bits .or .u64 2 _ = _ := or_val 2 (n * 4) 2 n (by omega) (by omega) (by omega) (by omega)
  by_cases h1 : 1 ≤ n
  · by_cases h2 : n ≤ 131072
    · rw [show goneN n = 2 + n * 4 from by simp [goneN, mayGo, h1, h2], show mayGo n = true from decide_eq_true ⟨h1, h2⟩]
      have i1 : decide ((n : Int) < 1) = false := decide_eq_false (by omega)
      have i2 : decide ((131072 : Int) < (n : Int)) = false := decide_eq_false (by omega)
      generalize 2 + n * 4 = v at *
      generalize n * 4 = u at *
      go_enter Try.func10, Try.ntmps10
      go_wp2_with fail
      refine (lay_one_1_2 _).mono ?_
      rintro e x ⟨rfl, hb⟩
      go_wp2_with fail
      refine (hL _).mono ?_
      rintro e y ⟨rfl, hb2⟩
      go_wp2
      go_ret2
      exact ⟨rfl, hb.trans (hb2.mono hb.size)⟩
    · rw [show goneN n = 0 from by simp [goneN, mayGo, h1, h2], show mayGo n = false from decide_eq_false fun h => h2 h.2]
      have i1 : decide ((n : Int) < 1) = false := decide_eq_false (by omega)
      have i2 : decide ((131072 : Int) < (n : Int)) = true := decide_eq_true (by omega)
      go_enter Try.func10, Try.ntmps10
      go_wp2
      go_ret2
      exact ⟨rfl, Below.refl _ _⟩
  · rw [show goneN n = 0 from by simp [goneN, mayGo, h1], show mayGo n = false from decide_eq_false fun h => h1 h.1]
    have i1 : decide ((n : Int) < 1) = true := decide_eq_true (by omega)
    go_enter Try.func10, Try.ntmps10
    go_wp2
    go_ret2
    exact ⟨rfl, Below.refl _ _⟩

/-- Whether a word is a Gone. -/
def isGone (a : Nat) : Bool := mayGo (a / 4) && decide (goneN (a / 4) = a)

set_option maxHeartbeats 1000000 in
theorem where_any (a : Nat) (ha : a < 18446744073709551616) (w : World) :
    Calls Try.prog 11 #[.int .u64 a] w fun e w' => e = .returned (.tuple #[.int .i64 (if isGone a then (a / 4 : Nat) else 0 : Nat), .bool (isGone a)]) ∧ Below w.heap.size w w' := by
  have hR := read_2_64 a ha
  rw [show a / 4 % 4611686018427387904 = a / 4 from by omega] at hR
  have hG := gone_any (a / 4) (by omega)
  unfold isGone
  generalize a / 4 = n at *
  generalize mayGo n = ok at *
  generalize goneN n = v at *
  go_enter Try.func11, Try.ntmps11
  go_wp2_with fail
  refine (hR _).mono ?_
  rintro e x ⟨rfl, hb⟩
  go_wp2_with fail
  refine (hG _).mono ?_
  rintro e y ⟨rfl, hb2⟩
  have hB := hb.trans (hb2.mono hb.size)
  clear hb hb2 hR hG
  cases ok
  · go_wp2
    go_ret2
    exact ⟨by simp, hB⟩
  · by_cases hva : v = a
    · subst hva
      go_wp2
      go_ret2
      exact ⟨by simp, hB⟩
    · have n1 : ((v : Int) = (a : Int)) = False := by simp; omega
      go_wp2
      all_goals
        go_ret2
        exact ⟨by simp [hva], hB⟩

theorem held_any (n : Nat) (hn : n ≤ 1099511627776) (w : World) :
    Calls Try.prog 13 #[.int .i64 n] w fun e w' => e = .returned (.tuple #[.int .u64 (if n ≤ 7 then 1 + n * 2 else 0 : Nat), .bool (decide (n ≤ 7))]) ∧ Below w.heap.size w w' := by
  have i1 : decide ((n : Int) < 0) = false := decide_eq_false (by omega)
  by_cases h : n ≤ 7
  · rw [if_pos h, decide_eq_true h]
    have hL := lay_1_64 n (by omega) (by omega)
    have o1 : bits .or .u64 1 _ = _ := or_val 1 (n * 2) 1 n (by omega) (by omega) (by omega) (by omega)
    have i2 : decide ((8 : Int) ≤ (n : Int)) = false := decide_eq_false (by omega)
    generalize 1 + n * 2 = v at *
    generalize n * 2 = u at *
    go_enter Try.func13, Try.ntmps13
    go_wp2_with fail
    refine (lay_one_0_1 _).mono ?_
    rintro e x ⟨rfl, hb⟩
    go_wp2_with fail
    refine (hL _).mono ?_
    rintro e y ⟨rfl, hb2⟩
    go_wp2
    go_ret2
    exact ⟨rfl, hb.trans (hb2.mono hb.size)⟩
  · rw [if_neg h, decide_eq_false h]
    have i2 : decide ((8 : Int) ≤ (n : Int)) = true := decide_eq_true (by omega)
    go_enter Try.func13, Try.ntmps13
    go_wp2
    go_ret2
    exact ⟨rfl, Below.refl _ _⟩

theorem free_any (n : Nat) (hn : n ≤ 1099511627776) (w : World) :
    Calls Try.prog 14 #[.int .i64 n] w fun e w' => e = .returned (.tuple #[.int .u64 (n * 2 : Nat), .bool true]) ∧ Below w.heap.size w w' := by
  have i1 : decide ((n : Int) < 0) = false := decide_eq_false (by omega)
  have i2 : decide ((1099511627776 : Int) < (n : Int)) = false := decide_eq_false (by omega)
  have hL := lay_1_64 n (by omega) (by omega)
  generalize n * 2 = u at *
  go_enter Try.func14, Try.ntmps14
  go_wp2_with fail
  refine (hL _).mono ?_
  rintro e y ⟨rfl, hb2⟩
  go_wp2
  go_ret2
  exact ⟨rfl, hb2⟩

theorem owner_held (n : Nat) (hn : n ≤ 7) (w : World) :
    Calls Try.prog 15 #[.int .u64 (1 + n * 2 : Nat)] w fun e w' => e = .returned (.tuple #[.int .i64 n, .int .i64 0, .bool true]) ∧ Below w.heap.size w w' := by
  have hR := read_1_64 (1 + n * 2) (by omega)
  rw [show (1 + n * 2) / 2 % 9223372036854775808 = n from by omega] at hR
  have hH := held_any n (by omega)
  rw [if_pos hn, decide_eq_true hn] at hH
  generalize 1 + n * 2 = a at *
  go_enter Try.func15, Try.ntmps15
  go_wp2_with fail
  refine (hR _).mono ?_
  rintro e x ⟨rfl, hb⟩
  go_wp2_with fail
  refine (hH _).mono ?_
  rintro e y ⟨rfl, hb2⟩
  go_wp2
  refine bodyPost_ret (v := .tuple #[.int .i64 n, .int .i64 0, .bool true]) ?_ rfl ⟨rfl, hb.trans (hb2.mono hb.size)⟩
  simp [results, Try.f15, go_sem]

set_option maxHeartbeats 1000000 in
theorem owner_free (n : Nat) (hn : n ≤ 1099511627776) (w : World) :
    Calls Try.prog 15 #[.int .u64 (n * 2 : Nat)] w fun e w' => e = .returned (.tuple #[.int .i64 0, .int .i64 n, .bool false]) ∧ Below w.heap.size w w' := by
  have hR := read_1_64 (n * 2) (by omega)
  rw [show n * 2 / 2 % 9223372036854775808 = n from by omega] at hR
  have hH := held_any n hn
  have hF := free_any n hn
  have hne : 1 + n * 2 ≠ n * 2 := by omega
  generalize 1 + n * 2 = v at *
  generalize n * 2 = a at *
  by_cases h : n ≤ 7
  · rw [if_pos h, decide_eq_true h] at hH
    have n1 : ((v : Int) == (a : Int)) = false := by simp; omega
    clear hne h
    go_enter Try.func15, Try.ntmps15
    go_wp2_with fail
    refine (hR _).mono ?_
    rintro e x ⟨rfl, hb⟩
    go_wp2_with fail
    refine (hH _).mono ?_
    rintro e y ⟨rfl, hb2⟩
    go_wp2_with fail
    refine (hF _).mono ?_
    rintro e z ⟨rfl, hb3⟩
    go_wp2
    refine bodyPost_ret (v := .tuple #[.int .i64 0, .int .i64 n, .bool false]) ?_ rfl ⟨rfl, (hb.trans (hb2.mono hb.size)).trans (hb3.mono (Nat.le_trans hb.size hb2.size))⟩
    simp [results, Try.f15, go_sem]
  · rw [if_neg h, decide_eq_false h] at hH
    clear hne h
    go_enter Try.func15, Try.ntmps15
    go_wp2_with fail
    refine (hR _).mono ?_
    rintro e x ⟨rfl, hb⟩
    go_wp2_with fail
    refine (hH _).mono ?_
    rintro e y ⟨rfl, hb2⟩
    go_wp2_with fail
    refine (hF _).mono ?_
    rintro e z ⟨rfl, hb3⟩
    go_wp2
    refine bodyPost_ret (v := .tuple #[.int .i64 0, .int .i64 n, .bool false]) ?_ rfl ⟨rfl, (hb.trans (hb2.mono hb.size)).trans (hb3.mono (Nat.le_trans hb.size hb2.size))⟩
    simp [results, Try.f15, go_sem]

end Go.Proofs.Ytmeneolboogglaa
