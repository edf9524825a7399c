/- The laws' own Fit: of two numbers a right part. No condition. -/
import Derived.Test.YtadncljhckakmaaWordAwake
namespace Go.Proofs.Ytadncljhckakmaa
open Go.RowKit
set_option linter.unusedVariables false

theorem fit_right (a b : Int) : 0 ≤ pickOf a 64 ∧ 1 ≤ 1 + pickOf b (64 - pickOf a 64) ∧ pickOf a 64 + (1 + pickOf b (64 - pickOf a 64)) ≤ 64 := by
  have p := pick_bounds a 64 (by decide)
  have q := pick_bounds b (64 - pickOf a 64) (by omega)
  omega

set_option maxHeartbeats 1000000 in
theorem fit_any (a b : Int) (w : World) (h0 : -9223372036854775808 ≤ a) (h1 : a ≤ 9223372036854775807) (h2 : -9223372036854775808 ≤ b) (h3 : b ≤ 9223372036854775807) :
    Calls Try.prog 11 #[.int .i64 a, .int .i64 b] w fun e w' => e = .returned (.agg #[.int .i64 (pickOf a 64), .int .i64 (1 + pickOf b (64 - pickOf a 64))]) ∧ Below w.heap.size w w' := by
  have p := pick_bounds a 64 (by decide)
  have q := pick_bounds b (64 - pickOf a 64) (by omega)
  go_enter Try.func11, Try.ntmps11
  go_wp2_with fail
  refine (pick_any _ _ _ h0 h1 (by decide) (by decide)).mono ?_
  rintro e w2 ⟨rfl, rfl⟩
  go_wp2_with fail
  refine (pick_any _ _ _ h2 h3 (by omega) (by omega)).mono ?_
  rintro e w2 ⟨rfl, rfl⟩
  go_wp2
  exact bodyPost_ret (v := .agg #[.int .i64 (pickOf a 64), .int .i64 (1 + pickOf b (64 - pickOf a 64))]) (by simp [results, Try.results11, go_sem]) rfl ⟨rfl, (Below.refl _ _).alloc (Nat.le_refl _) _⟩

end Go.Proofs.Ytadncljhckakmaa
