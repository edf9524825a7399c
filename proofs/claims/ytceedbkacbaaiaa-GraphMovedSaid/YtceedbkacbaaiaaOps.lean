/- An op of a raw list: four numbers and a word. No condition. -/
import Derived.Test.YtceedbkacbaaiaaFlat
namespace Go.Proofs.Ytceedbkacbaaiaa
open Go.RowKit

set_option linter.unusedSimpArgs false
set_option linter.unusedVariables false

abbrev opKinds : List (Option IntKind) := [some .i64, some .i64, some .i64, some .i64, some .u64]

/-- An op of the list, as numbers. -/
structure OpN where
  (k a b n w : Int)
def i64Fits (z : Int) : Prop := -9223372036854775808 ≤ z ∧ z ≤ 9223372036854775807
def u64Fits (z : Int) : Prop := 0 ≤ z ∧ z ≤ 18446744073709551615
def OpAt (w : World) (b o : Nat) (x : OpN) : Prop :=
  w.cell? ⟨b, o, none⟩ = some (.int .i64 x.k) ∧ w.cell? ⟨b, o + 1, none⟩ = some (.int .i64 x.a) ∧ w.cell? ⟨b, o + 2, none⟩ = some (.int .i64 x.b) ∧ w.cell? ⟨b, o + 3, none⟩ = some (.int .i64 x.n) ∧ w.cell? ⟨b, o + 4, none⟩ = some (.int .u64 x.w)
def OpFits (x : OpN) : Prop := i64Fits x.k ∧ i64Fits x.a ∧ i64Fits x.b ∧ i64Fits x.n ∧ u64Fits x.w

/-- The ops of a raw list: without any, or in a block, five cells each. -/
def IsOps (w : World) (a : Option Addr) (len cap : Nat) (f : Nat → OpN) : Prop :=
  (len = 0 ∧ cap = 0) ∨ ∃ b off, a = some ⟨b, off, none⟩ ∧ b < w.heap.size ∧ len ≤ cap ∧ cap ≤ maxLen ∧ ∀ i, i < cap → OpAt w b (off + i * 5) (f i) ∧ OpFits (f i)
theorem IsOps.below {w w' : World} {a : Option Addr} {len cap : Nat} {f : Nat → OpN} (h : IsOps w a len cap f) (hb : Below w.heap.size w w') : IsOps w' a len cap f :=
  h.imp id fun ⟨b, off, e, hlt, h1, h2, hc⟩ => ⟨b, off, e, Nat.lt_of_lt_of_le hlt hb.size, h1, h2, fun i hi => by
    obtain ⟨⟨c0, c1, c2, c3, c4⟩, hf⟩ := hc i hi
    exact ⟨⟨(hb.cell (p := ⟨b, _, none⟩) hlt).trans c0, (hb.cell (p := ⟨b, _, none⟩) hlt).trans c1, (hb.cell (p := ⟨b, _, none⟩) hlt).trans c2, (hb.cell (p := ⟨b, _, none⟩) hlt).trans c3, (hb.cell (p := ⟨b, _, none⟩) hlt).trans c4⟩, hf⟩⟩

theorem isOps_of_flat {w : World} {a : Option Addr} {len cap : Nat} {V : Nat → Nat → Value} (h : IsFlat opKinds w a len cap V) : ∃ f, IsOps w a len cap f := by
  refine ⟨fun i => ⟨numOf (V i 0), numOf (V i 1), numOf (V i 2), numOf (V i 3), numOf (V i 4)⟩, h.imp id ?_⟩
  rintro ⟨b, off, e, hlt, h1, h2, hc⟩
  refine ⟨b, off, e, hlt, h1, h2, fun i hi => ?_⟩
  obtain ⟨c0, k0⟩ := hc i hi 0 (some .i64) rfl
  obtain ⟨c1, k1⟩ := hc i hi 1 (some .i64) rfl
  obtain ⟨c2, k2⟩ := hc i hi 2 (some .i64) rfl
  obtain ⟨c3, k3⟩ := hc i hi 3 (some .i64) rfl
  obtain ⟨c4, k4⟩ := hc i hi 4 (some .u64) rfl
  obtain ⟨e0, f0⟩ := k0.int
  obtain ⟨e1, f1⟩ := k1.int
  obtain ⟨e2, f2⟩ := k2.int
  obtain ⟨e3, f3⟩ := k3.int
  obtain ⟨e4, f4⟩ := k4.int
  rw [e0] at c0
  rw [e1] at c1
  rw [e2] at c2
  rw [e3] at c3
  rw [e4] at c4
  exact ⟨⟨c0, c1, c2, c3, c4⟩, bounds_i64 f0, bounds_i64 f1, bounds_i64 f2, bounds_i64 f3, bounds_u64 f4⟩

end Go.Proofs.Ytceedbkacbaaiaa
