/- Package header: Gone, Where, Free, Held, Owner are as the document says. Condition: numbers are not below 0; Owner is asked of a word that Held or Free made. -/
import Derived.Test.YtceedbkacbaaiaaHeadFree
namespace Go.Proofs.Ytceedbkacbaaiaa
open Go.ChangeShapes Go.WideShapes Go.ChangeAt Go.RowKit

set_option linter.unusedSimpArgs false
set_option linter.unusedVariables false

/-- What Gone tells of a place. -/
def mayGo (n : Nat) : Bool := decide (1 ≤ n ∧ n ≤ 131072)
def goneN (n : Nat) : Nat := if mayGo n then 2 + n * 4 else 0

set_option maxHeartbeats 1000000 in
theorem gone_any (n : Nat) (hn : n < 4611686018427387904) (w : World) :
    Calls Try.prog 38 #[.int .i64 n] w fun e w' => e = .returned (.tuple #[.int .u64 (goneN n : Nat), .bool (mayGo n)]) ∧ Below w.heap.size w w' := by
  have hL := lay_2_64 n hn (by omega)
  have o1 : bits .or .u64 2 _ = _ := or_val 2 (n * 4) 2 n (by omega) (by omega) (by omega) (by omega)
  by_cases h1 : 1 ≤ n
  · by_cases h2 : n ≤ 131072
    · rw [show goneN n = 2 + n * 4 from by simp [goneN, mayGo, h1, h2], show mayGo n = true from decide_eq_true ⟨h1, h2⟩]
      have i1 : decide ((n : Int) < 1) = false := decide_eq_false (by omega)
      have i2 : decide ((131072 : Int) < (n : Int)) = false := decide_eq_false (by omega)
      generalize 2 + n * 4 = v at *
      generalize n * 4 = u at *
      go_enter Try.func38, Try.ntmps38
      go_wp2_with fail
      refine (lay_one_1_2 _).mono ?_
      rintro e x ⟨rfl, hb⟩
      go_wp2_with fail
      refine (hL _).mono ?_
      rintro e y ⟨rfl, hb2⟩
      go_wp2
      go_ret2
      exact ⟨rfl, hb.trans (hb2.mono hb.size)⟩
    · rw [show goneN n = 0 from by simp [goneN, mayGo, h1, h2], show mayGo n = false from decide_eq_false fun h => h2 h.2]
      have i1 : decide ((n : Int) < 1) = false := decide_eq_false (by omega)
      have i2 : decide ((131072 : Int) < (n : Int)) = true := decide_eq_true (by omega)
      go_enter Try.func38, Try.ntmps38
      go_wp2
      go_ret2
      exact ⟨rfl, Below.refl _ _⟩
  · rw [show goneN n = 0 from by simp [goneN, mayGo, h1], show mayGo n = false from decide_eq_false fun h => h1 h.1]
    have i1 : decide ((n : Int) < 1) = true := decide_eq_true (by omega)
    go_enter Try.func38, Try.ntmps38
    go_wp2
    go_ret2
    exact ⟨rfl, Below.refl _ _⟩

/-- Whether a word is a Gone. -/
def isGone (a : Nat) : Bool := mayGo (a / 4) && decide (goneN (a / 4) = a)

set_option maxHeartbeats 1000000 in
theorem where_any (a : Nat) (ha : a < 18446744073709551616) (w : World) :
    Calls Try.prog 41 #[.int .u64 a] w fun e w' => e = .returned (.tuple #[.int .i64 (if isGone a then (a / 4 : Nat) else 0 : Nat), .bool (isGone a)]) ∧ Below w.heap.size w w' := by
  have hR := read_2_64 a ha
  rw [show a / 4 % 4611686018427387904 = a / 4 from by omega] at hR
  have hG := gone_any (a / 4) (by omega)
  unfold isGone
  generalize a / 4 = n at *
  generalize mayGo n = ok at *
  generalize goneN n = v at *
  go_enter Try.func41, Try.ntmps41
  go_wp2_with fail
  refine (hR _).mono ?_
  rintro e x ⟨rfl, hb⟩
  go_wp2_with fail
  refine (hG _).mono ?_
  rintro e y ⟨rfl, hb2⟩
  have hB := hb.trans (hb2.mono hb.size)
  clear hb hb2 hR hG
  cases ok
  · go_wp2
    go_ret2
    exact ⟨by simp, hB⟩
  · by_cases hva : v = a
    · subst hva
      go_wp2
      go_ret2
      exact ⟨by simp, hB⟩
    · have n1 : ((v : Int) = (a : Int)) = False := by simp; omega
      go_wp2
      all_goals
        go_ret2
        exact ⟨by simp [hva], hB⟩




end Go.Proofs.Ytceedbkacbaaiaa
