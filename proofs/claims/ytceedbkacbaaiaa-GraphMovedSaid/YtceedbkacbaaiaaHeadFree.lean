/- Package header: Free is as the document says. Condition: the number is a version. -/
import Derived.Test.YtceedbkacbaaiaaHead
namespace Go.Proofs.Ytceedbkacbaaiaa
open Go.ChangeShapes Go.WideShapes Go.ChangeAt Go.RowKit

set_option linter.unusedSimpArgs false
set_option linter.unusedVariables false

theorem free_any (n : Nat) (hn : n ≤ 1099511627776) (w : World) :
    Calls Try.prog 53 #[.int .i64 n] w fun e w' => e = .returned (.tuple #[.int .u64 (n * 2 : Nat), .bool true]) ∧ Below w.heap.size w w' := by
  have i1 : decide ((n : Int) < 0) = false := decide_eq_false (by omega)
  have i2 : decide ((1099511627776 : Int) < (n : Int)) = false := decide_eq_false (by omega)
  have hL := lay_1_64 n (by omega) (by omega)
  generalize n * 2 = u at *
  go_enter Try.func53, Try.ntmps53
  go_wp2_with fail
  refine (hL _).mono ?_
  rintro e y ⟨rfl, hb2⟩
  go_wp2
  go_ret2
  exact ⟨rfl, hb2⟩

end Go.Proofs.Ytceedbkacbaaiaa
