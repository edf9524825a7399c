/- Package arena: a new one, under names. No condition. -/
import Derived.Test.YtceedbkacbaaiaaArena
namespace Go.Proofs.Ytceedbkacbaaiaa
open Go.RowKit

set_option linter.unusedSimpArgs false
set_option linter.unusedVariables false

theorem new_any (n : Nat) (w : World) (h0 : 1 ≤ n) (h1 : n ≤ 65536) :
    Calls Try.prog 7 #[.int .i64 n] w fun e w' => ∃ p b, e = .returned (.tuple #[.pointer (some ⟨p, 0, none⟩), .int .i64 0]) ∧ ArenaAt 65 w' p b (List.replicate n 0) ∧ w.heap.size ≤ p ∧ w.heap.size ≤ b ∧ Below w.heap.size w w' := by
  refine (new_yes n w (by omega) (by omega)).mono ?_
  rintro e w' ⟨rfl, ha, hs, hb⟩
  exact ⟨_, _, rfl, by simpa using ha, by omega, by omega, hb⟩

theorem ArenaAt.drew {t : TypeId} {w : World} {p b : Nat} {l : List Int} (h : ArenaAt t w p b l) : ArenaAt t w.drew p b l := ⟨h.head, h.row, h.len, h.fits⟩
theorem ArenaAt.lt {t : TypeId} {w : World} {p b : Nat} {l : List Int} (h : ArenaAt t w p b l) : p < w.heap.size ∧ b < w.heap.size := ⟨h.head.lt, h.row.lt⟩

end Go.Proofs.Ytceedbkacbaaiaa
