/- The laws' pick: which of n things a raw number speaks of. Condition: n is above 0. -/
import Derived.Test.YtceedbkacbaaiaaRows
import Derived.WalkKit
import Derived.ProofKit
import Derived.WalkSmall
import Derived.Lib.Hide
import Derived.OpenShut
import Derived.Below
namespace Go.Proofs.Ytceedbkacbaaiaa
open Go.RowKit

def pickOf (c n : Int) : Int := if c < 0 then (-(c + 1)) % n else c % n
theorem pick_bounds (c n : Int) (hn : 0 < n) : 0 ≤ pickOf c n ∧ pickOf c n < n := by
  unfold pickOf
  split
  · exact ⟨Int.emod_nonneg _ (by omega), Int.emod_lt_of_pos _ hn⟩
  · exact ⟨Int.emod_nonneg _ (by omega), Int.emod_lt_of_pos _ hn⟩
theorem pick_any (c n : Int) (w : World) (h0 : -9223372036854775808 ≤ c) (h1 : c ≤ 9223372036854775807) (h2 : 0 < n) (h3 : n ≤ 9223372036854775807) :
    Calls Try.prog 15 #[.int .i64 c, .int .i64 n] w fun e w' => e = .returned (.int .i64 (pickOf c n)) ∧ w = w' := by
  by_cases h : c < 0
  · have hv : Hid (Int.tmod (-(c + 1)) n = pickOf c n) := Lib.hid (by unfold pickOf; rw [if_pos h, Int.tmod_eq_emod_of_nonneg (by omega)])
    have hd : 0 ≤ -(c + 1) := by omega
    go_enter Try.func15, Try.ntmps15
    go_wp2
    go_ret
    refine ⟨?_, rfl⟩
    rw [← hv.out, Int.neg_tmod]
    rfl
  · have hv : Hid (c % n = pickOf c n) := Lib.hid (by unfold pickOf; rw [if_neg h])
    go_enter Try.func15, Try.ntmps15
    go_wp2
    go_ret
    exact ⟨by rw [← hv.out]; rfl, rfl⟩

/-- A number picked, under a name: from 0 on, below n. -/
theorem pick_nat (c : Int) (n : Nat) (w : World) (h0 : -9223372036854775808 ≤ c) (h1 : c ≤ 9223372036854775807) (h2 : 0 < n) (h3 : (n : Int) ≤ 9223372036854775807) :
    Calls Try.prog 15 #[.int .i64 c, .int .i64 n] w fun e w' => ∃ k : Nat, k < n ∧ e = .returned (.int .i64 k) ∧ w = w' := by
  have p := pick_bounds c n (by omega)
  refine (pick_any c n w h0 h1 (by omega) h3).mono ?_
  rintro e w' ⟨rfl, rfl⟩
  exact ⟨(pickOf c n).toNat, by omega, by rw [Int.toNat_of_nonneg p.1], rfl⟩

end Go.Proofs.Ytceedbkacbaaiaa
