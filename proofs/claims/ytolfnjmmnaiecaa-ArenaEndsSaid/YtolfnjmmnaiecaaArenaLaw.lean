/- What the laws of layer 2 have in common: their look at the chapter's example, a new arena, an op of their raw list. -/
import Derived.Test.YtolfnjmmnaiecaaArenaMove
import Derived.Test.YtolfnjmmnaiecaaPick
import Derived.Test.YtolfnjmmnaiecaaFlat
namespace Go.Proofs.Ytolfnjmmnaiecaa
open Go.RowKit

set_option linter.unusedSimpArgs false
set_option linter.unusedVariables false

abbrev opKinds : List (Option IntKind) := [some .i64, some .i64, some .i64, some .i64, some .u64]

theorem new_any (n : Nat) (w : World) (h0 : 1 ≤ n) (h1 : n ≤ 65536) :
    Calls Try.prog 10 #[.int .i64 n] w fun e w' => ∃ p b, e = .returned (.tuple #[.pointer (some ⟨p, 0, none⟩), .int .i64 0]) ∧ ArenaAt 48 w' p b (List.replicate n 0) ∧ w.heap.size ≤ p ∧ w.heap.size ≤ b ∧ Below w.heap.size w w' := by
  refine (new_yes n w (by omega) (by omega)).mono ?_
  rintro e w' ⟨rfl, ha, hs, hb⟩
  exact ⟨_, _, rfl, by simpa using ha, by omega, by omega, hb⟩

theorem ArenaAt.drew {t : TypeId} {w : World} {p b : Nat} {l : List Int} (h : ArenaAt t w p b l) : ArenaAt t w.drew p b l := ⟨h.head, h.row, h.len, h.fits⟩
theorem ArenaAt.lt {t : TypeId} {w : World} {p b : Nat} {l : List Int} (h : ArenaAt t w p b l) : p < w.heap.size ∧ b < w.heap.size := ⟨h.head.lt, h.row.lt⟩

theorem awake_any (w : World) : Calls Try.prog 9 #[] w fun e w' => e = .returned (.bool true) ∧ Below w.heap.size w w' := by
  go_enter Try.func9, Try.ntmps9
  go_wp2_with fail
  refine (new_any 3 w (by decide) (by decide)).mono ?_
  rintro e w1 ⟨p, b, rfl, h1, hp, hb, hb1⟩
  go_wp2_with fail
  refine (store_any 2 7 _ h1 (by decide) (by decide) (by decide)).mono ?_
  rintro e w2 ⟨rfl, h2, hc2⟩
  rw [show errV (List.replicate 3 (0 : Int)).length 2 1 = 0 from by decide]
  rw [show fillV (List.replicate 3 (0 : Int)) 2 1 7 = [0, 0, 7] from by decide] at h2
  go_wp2_with fail
  refine (move_any 1 0 2 _ h2 (by decide) (by decide) (by decide) (by decide) (by decide) (by decide)).mono ?_
  rintro e w3 ⟨rfl, h3, hc3⟩
  rw [show err2V [(0 : Int), 0, 7].length 1 0 2 = 0 from by decide]
  rw [show moveV [(0 : Int), 0, 7] 1 0 2 = [0, 7, 7] from by decide] at h3
  go_wp2_with fail
  refine (load_any 1 _ h3 (by decide) (by decide)).mono ?_
  rw [show loadV [(0 : Int), 7, 7] 1 = 7 from by decide, show errV [(0 : Int), 7, 7].length 1 1 = 0 from by decide]
  rintro e w4 ⟨rfl, rfl⟩
  go_wp2_with fail
  refine (store_any 3 1 _ h3 (by decide) (by decide) (by decide)).mono ?_
  rintro e w4 ⟨rfl, h4, hc4⟩
  rw [show errV [(0 : Int), 7, 7].length 3 1 = 20 from by decide]
  rw [show fillV [(0 : Int), 7, 7] 3 1 1 = [0, 7, 7] from by decide] at h4
  go_wp2_with fail
  refine (len_any _ h4).mono ?_
  rintro e w5 ⟨rfl, rfl⟩
  have hS : ∀ k, k = b → w.heap.size ≤ k := fun k e => by omega
  have hB : Below w.heap.size w w4 := ((hb1.trans (hc2.below hS hb1.size)).trans (hc3.below hS (Nat.le_trans hb1.size hc2.size))).trans (hc4.below hS (Nat.le_trans hb1.size (Nat.le_trans hc2.size hc3.size)))
  clear hc2 hc3 hc4 hb1 h1 h2 h3 h4 hS
  go_wp2
  go_ret
  exact ⟨rfl, hB⟩

/-- An op of the list, as numbers. -/
structure OpN where
  (k a b n w : Int)
def i64Fits (z : Int) : Prop := -9223372036854775808 ≤ z ∧ z ≤ 9223372036854775807
def u64Fits (z : Int) : Prop := 0 ≤ z ∧ z ≤ 18446744073709551615
def OpAt (w : World) (b o : Nat) (x : OpN) : Prop :=
  w.cell? ⟨b, o, none⟩ = some (.int .i64 x.k) ∧ w.cell? ⟨b, o + 1, none⟩ = some (.int .i64 x.a) ∧ w.cell? ⟨b, o + 2, none⟩ = some (.int .i64 x.b) ∧ w.cell? ⟨b, o + 3, none⟩ = some (.int .i64 x.n) ∧ w.cell? ⟨b, o + 4, none⟩ = some (.int .u64 x.w)
def OpFits (x : OpN) : Prop := i64Fits x.k ∧ i64Fits x.a ∧ i64Fits x.b ∧ i64Fits x.n ∧ u64Fits x.w

/-- The ops of a raw list: without any, or in a block, five cells each. -/
def IsOps (w : World) (a : Option Addr) (len cap : Nat) (f : Nat → OpN) : Prop :=
  (len = 0 ∧ cap = 0) ∨ ∃ b off, a = some ⟨b, off, none⟩ ∧ b < w.heap.size ∧ len ≤ cap ∧ cap ≤ maxLen ∧ ∀ i, i < cap → OpAt w b (off + i * 5) (f i) ∧ OpFits (f i)
theorem IsOps.below {w w' : World} {a : Option Addr} {len cap : Nat} {f : Nat → OpN} (h : IsOps w a len cap f) (hb : Below w.heap.size w w') : IsOps w' a len cap f :=
  h.imp id fun ⟨b, off, e, hlt, h1, h2, hc⟩ => ⟨b, off, e, Nat.lt_of_lt_of_le hlt hb.size, h1, h2, fun i hi => by
    obtain ⟨⟨c0, c1, c2, c3, c4⟩, hf⟩ := hc i hi
    exact ⟨⟨(hb.cell (p := ⟨b, _, none⟩) hlt).trans c0, (hb.cell (p := ⟨b, _, none⟩) hlt).trans c1, (hb.cell (p := ⟨b, _, none⟩) hlt).trans c2, (hb.cell (p := ⟨b, _, none⟩) hlt).trans c3, (hb.cell (p := ⟨b, _, none⟩) hlt).trans c4⟩, hf⟩⟩

theorem isOps_of_flat {w : World} {a : Option Addr} {len cap : Nat} {V : Nat → Nat → Value} (h : IsFlat opKinds w a len cap V) : ∃ f, IsOps w a len cap f := by
  refine ⟨fun i => ⟨numOf (V i 0), numOf (V i 1), numOf (V i 2), numOf (V i 3), numOf (V i 4)⟩, h.imp id ?_⟩
  rintro ⟨b, off, e, hlt, h1, h2, hc⟩
  refine ⟨b, off, e, hlt, h1, h2, fun i hi => ?_⟩
  obtain ⟨c0, k0⟩ := hc i hi 0 (some .i64) rfl
  obtain ⟨c1, k1⟩ := hc i hi 1 (some .i64) rfl
  obtain ⟨c2, k2⟩ := hc i hi 2 (some .i64) rfl
  obtain ⟨c3, k3⟩ := hc i hi 3 (some .i64) rfl
  obtain ⟨c4, k4⟩ := hc i hi 4 (some .u64) rfl
  obtain ⟨e0, f0⟩ := k0.int
  obtain ⟨e1, f1⟩ := k1.int
  obtain ⟨e2, f2⟩ := k2.int
  obtain ⟨e3, f3⟩ := k3.int
  obtain ⟨e4, f4⟩ := k4.int
  rw [e0] at c0
  rw [e1] at c1
  rw [e2] at c2
  rw [e3] at c3
  rw [e4] at c4
  exact ⟨⟨c0, c1, c2, c3, c4⟩, bounds_i64 f0, bounds_i64 f1, bounds_i64 f2, bounds_i64 f3, bounds_u64 f4⟩

end Go.Proofs.Ytolfnjmmnaiecaa
