/- The laws of layer 6: their pick, and the right shape that raw numbers speak of. No condition. -/
import Derived.Test.YtceedbkacbaaiaaHead
import Derived.WalkSmall
import Derived.OpenShut
namespace Go.Proofs.Ytceedbkacbaaiaa
open Go.ChangeShapes Go.WideShapes Go.ChangeAt Go.RowKit

set_option linter.unusedSimpArgs false
set_option linter.unusedVariables false

def pick6Of (c n : Int) : Int := if c < 0 then (-(c + 1)) % n else c % n
theorem pick6_bounds (c n : Int) (hn : 0 < n) : 0 ≤ pick6Of c n ∧ pick6Of c n < n := by
  unfold pick6Of
  split
  · exact ⟨Int.emod_nonneg _ (by omega), Int.emod_lt_of_pos _ hn⟩
  · exact ⟨Int.emod_nonneg _ (by omega), Int.emod_lt_of_pos _ hn⟩
theorem pick6_any (c n : Int) (w : World) (h0 : -9223372036854775808 ≤ c) (h1 : c ≤ 9223372036854775807) (h2 : 0 < n) (h3 : n ≤ 9223372036854775807) :
    Calls Try.prog 54 #[.int .i64 c, .int .i64 n] w fun e w' => e = .returned (.int .i64 (pick6Of c n)) ∧ w = w' := by
  by_cases h : c < 0
  · have hv : Hid (Int.tmod (-(c + 1)) n = pick6Of c n) := Lib.hid (by unfold pick6Of; rw [if_pos h, Int.tmod_eq_emod_of_nonneg (by omega)])
    have hd : 0 ≤ -(c + 1) := by omega
    go_enter Try.func54, Try.ntmps54
    go_wp2
    go_ret
    refine ⟨?_, rfl⟩
    rw [← hv.out, Int.neg_tmod]
    rfl
  · have hv : Hid (c % n = pick6Of c n) := Lib.hid (by unfold pick6Of; rw [if_neg h])
    go_enter Try.func54, Try.ntmps54
    go_wp2
    go_ret
    exact ⟨by rw [← hv.out]; rfl, rfl⟩
theorem pick6_nat (c : Int) (n : Nat) (w : World) (h0 : -9223372036854775808 ≤ c) (h1 : c ≤ 9223372036854775807) (h2 : 0 < n) (h3 : (n : Int) ≤ 9223372036854775807) :
    Calls Try.prog 54 #[.int .i64 c, .int .i64 n] w fun e w' => ∃ k : Nat, k < n ∧ e = .returned (.int .i64 k) ∧ w = w' := by
  have p := pick6_bounds c n (by omega)
  refine (pick6_any c n w h0 h1 (by omega) h3).mono ?_
  rintro e w' ⟨rfl, rfl⟩
  exact ⟨(pick6Of c n).toNat, by omega, by rw [Int.toNat_of_nonneg p.1], rfl⟩

theorem sh_of {p d : Nat} {fn : Bool} (hp : p ≤ 8) (hd : d ≤ 8) : shB p d false fn = true := by
  unfold shB cnt
  simp
  omega

/-- The shape that these raw numbers speak of. -/
structure FitIs (a0 a1 a2 : Int) (p d : Nat) (wk fn : Bool) : Prop where
  right : shB p d wk fn = true
  ptrs : p ≤ 8
  data : d ≤ 8
  tells : ∀ w, Calls Try.prog 25 #[.int .i64 a0, .int .i64 a1, .int .i64 a2] w fun e w' => e = .returned (shV p d wk fn) ∧ Below w.heap.size w w'

theorem pick6_det (c : Int) (n : Nat) (h0 : -9223372036854775808 ≤ c) (h1 : c ≤ 9223372036854775807) (h2 : 0 < n) (h3 : (n : Int) ≤ 9223372036854775807) :
    ∃ k : Nat, k < n ∧ ∀ w, Calls Try.prog 54 #[.int .i64 c, .int .i64 n] w fun e w' => e = .returned (.int .i64 k) ∧ w = w' := by
  have p := pick6_bounds c n (by omega)
  refine ⟨(pick6Of c n).toNat, by omega, fun w => ?_⟩
  rw [Int.toNat_of_nonneg p.1]
  exact pick6_any c n w h0 h1 (by omega) h3

set_option maxHeartbeats 1000000 in
theorem fit_sh (a0 a1 a2 : Int) (w0 : -9223372036854775808 ≤ a0 ∧ a0 ≤ 9223372036854775807) (w1 : -9223372036854775808 ≤ a1 ∧ a1 ≤ 9223372036854775807) (w2 : -9223372036854775808 ≤ a2 ∧ a2 ≤ 9223372036854775807) :
    ∃ (p d : Nat) (wk fn : Bool), FitIs a0 a1 a2 p d wk fn := by
  obtain ⟨k, hk, hK⟩ := pick6_det a2 5 w2.1 w2.2 (by omega) (by omega)
  obtain ⟨p, hp, hP⟩ := pick6_det a0 9 w0.1 w0.2 (by omega) (by omega)
  obtain ⟨d, hd, hD⟩ := pick6_det a1 9 w1.1 w1.2 (by omega) (by omega)
  by_cases h4 : k = 4
  · refine ⟨1, 0, true, false, rfl, by omega, by omega, fun w => ?_⟩
    subst h4
    go_enter Try.func25, Try.ntmps25
    go_wp2_with fail
    refine (hK _).mono ?_
    rintro e x ⟨rfl, rfl⟩
    go_wp2
    have hE := ResAt.new w #[.int .i64 1, .int .i64 0, .bool true, .bool false] 51
    refine bodyPost_ret (v := shV 1 0 true false) ?_ rfl ⟨rfl, hE.below⟩
    simp [results, Try.f25, go_sem]
  · have n1 : ((k : Int) = 4) = False := by simp; omega
    refine ⟨p, d, false, (k : Int) == 3, sh_of (by omega) (by omega), by omega, by omega, fun w => ?_⟩
    go_enter Try.func25, Try.ntmps25
    go_wp2_with fail
    refine (hK _).mono ?_
    rintro e x ⟨rfl, rfl⟩
    go_wp2_with fail
    refine (hP _).mono ?_
    rintro e x ⟨rfl, rfl⟩
    go_wp2_with fail
    refine (hD _).mono ?_
    rintro e x ⟨rfl, rfl⟩
    go_wp2_with fail
    refine (hK _).mono ?_
    rintro e x ⟨rfl, rfl⟩
    go_wp2
    have hE := ResAt.new w #[.int .i64 p, .int .i64 d, .bool false, .bool ((k : Int) == 3)] 51
    refine bodyPost_ret (v := shV p d false ((k : Int) == 3)) ?_ rfl ⟨rfl, hE.below⟩
    simp [results, Try.f25, go_sem]

end Go.Proofs.Ytceedbkacbaaiaa
