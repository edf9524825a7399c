/- The laws' own 'same' at two lists of equal numbers: true, and nothing that lay has turned. Condition: both hold the same numbers. -/
import Derived.Test.YtadncljhckakmaaWordUnpack
namespace Go.Proofs.Ytadncljhckakmaa
open Go.RowKit

set_option linter.unusedSimpArgs false
set_option linter.unusedVariables false

theorem below_drewN {B : Nat} {a w : World} (h : Below B a w) (n : Nat) : Below B a (w.drewN n) := ⟨h.os, h.tape, h.output, h.size, h.block⟩

/-- What a call owns reads as a list of numbers. -/
theorem wordsAt_own {w : World} {z n : Nat} {sv : Value} {l : List Nat} (h : w.ownsRow z 22 1 sv n (l.map fun x : Nat => Value.int .u64 (x : Int))) : l.length = n ∧ WordsAt w.heap.size w sv n (dvOf l) := by
  have hl : l.length = n := by simpa using h.1
  refine ⟨hl, ?_⟩
  rcases h.2 with ⟨rfl, h0⟩ | ⟨g, cap, cur, rfl, hb, hg, _⟩
  · exact .inl ⟨h0, none, 0, rfl⟩
  · refine .inr ⟨g, 0, cap, rfl, (Array.getElem?_eq_some_iff.1 hg).1, fun j hj => ?_⟩
    have hc := h.cells (g := g) rfl j (.int .u64 (dvOf l j)) (by simp [dvOf, List.getD, show j < l.length from by omega])
    by_cases h0 : j = 0
    · subst h0; simpa [Addr.add] using hc
    · simpa [Addr.add, h0] using hc

set_option maxHeartbeats 1000000 in
theorem same_yes (len : Nat) (hlen : len ≤ 1000) (x y : Value) (f : Nat → Int) (w : World) (hx : WordsAt w.heap.size w x len f) (hy : WordsAt w.heap.size w y len f) :
    Calls Try.prog 18 #[x, y] w fun e w' => e = .returned (.bool true) ∧ Below w.heap.size w w' := by
  obtain ⟨a, ca, rfl, hxc⟩ : ∃ a ca, x = .slice a len ca ∧ (0 < len → ∃ b off, a = some ⟨b, off, none⟩ ∧ b < w.heap.size ∧ ∀ j, j < len → w.cell? ⟨b, off + j, none⟩ = some (.int .u64 (f j))) := by
    rcases hx with ⟨h0, a, cap, rfl⟩ | ⟨b, off, cap, rfl, hb, hc⟩
    · exact ⟨a, cap, by rw [h0], fun h => by omega⟩
    · exact ⟨_, cap, rfl, fun _ => ⟨b, off, rfl, hb, hc⟩⟩
  obtain ⟨b, cb, rfl, hyc⟩ : ∃ a ca, y = .slice a len ca ∧ (0 < len → ∃ b off, a = some ⟨b, off, none⟩ ∧ b < w.heap.size ∧ ∀ j, j < len → w.cell? ⟨b, off + j, none⟩ = some (.int .u64 (f j))) := by
    rcases hy with ⟨h0, a, cap, rfl⟩ | ⟨b, off, cap, rfl, hb, hc⟩
    · exact ⟨a, cap, by rw [h0], fun h => by omega⟩
    · exact ⟨_, cap, rfl, fun _ => ⟨b, off, rfl, hb, hc⟩⟩
  have Hx := Lib.hid hxc
  have Hy := Lib.hid hyc
  clear hxc hyc hx hy
  go_enter Try.func18, Try.ntmps18
  go_wp2
  go_loopw [5] (fun i wr => ∃ k : Nat, k ≤ len ∧ i = .int .i64 k ∧ Below w.heap.size w wr) (fun i _ => len - (intOf i).toNat)
  case atStart => exact ⟨0, Nat.zero_le _, rfl, Below.refl _ _⟩
  case round =>
    obtain ⟨k, hk, rfl, hB⟩ := hrel
    by_cases hlt : k < len
    · obtain ⟨b1, o1, rfl, hb1, hc1⟩ := Hx.out (by omega)
      obtain ⟨b2, o2, rfl, hb2, hc2⟩ := Hy.out (by omega)
      have e1 : wr.cell? ⟨b1, o1 + k, none⟩ = some (.int .u64 (f k)) := (hB.cell (p := ⟨b1, o1 + k, none⟩) hb1).trans (hc1 k hlt)
      have e2 : wr.cell? ⟨b2, o2 + k, none⟩ = some (.int .u64 (f k)) := (hB.cell (p := ⟨b2, o2 + k, none⟩) hb2).trans (hc2 k hlt)
      clear hc1 hc2
      have i1 : (0 : Int) ≤ (k : Int) := by omega
      have i2 : (k : Int) < (len : Int) := by omega
      go_wp2
      go_quiet (fail)
      go_wp2
      go_roundw
      case rel => exact ⟨k + 1, by omega, by go_num, below_drewN hB _⟩
      case measure => simp [intOf]; omega
    · obtain rfl : k = len := by omega
      go_wp2
      go_ret
      exact ⟨rfl, hB⟩

end Go.Proofs.Ytadncljhckakmaa
