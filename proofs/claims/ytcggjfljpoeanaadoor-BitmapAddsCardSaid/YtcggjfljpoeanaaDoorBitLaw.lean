/- What the laws of package bitmap share: the example at their head returns true. Condition: the table that package math/bits reads holds what its initialiser lays. -/
import Derived.Test.YtcggjfljpoeanaaDoorBitNext
import Derived.Test.YtcggjfljpoeanaaDoorPick
import Derived.Test.YtcggjfljpoeanaaDoorFlat
namespace Go.Proofs.YtcggjfljpoeanaaDoor
open Go.ChangeShapes Go.WideShapes Go.ChangeAt Go.RowKit

set_option linter.unusedSimpArgs false
set_option linter.unusedVariables false

theorem below_chg {b n : Nat} {w w' : World} (h : Chg (· = b) w w') (hb : n ≤ b) (hn : n ≤ w.heap.size) : Below n w w' := h.below (fun k e => by omega) hn

set_option maxHeartbeats 2000000 in
theorem awake_yes (w : World) (hT : TabW w) : Calls Tryd.prog 8 #[] w fun e w' => e = .returned (.bool true) ∧ Below w.heap.size w w' := by
  go_enter Tryd.func8, Tryd.ntmps8
  go_wp2_with fail
  refine (new_at 100 _ (by decide) hT).mono ?_
  rintro e w1 ⟨p, q, rfl, h1, hp, hq, hb1⟩
  go_wp2_with fail
  refine (set_at 3 _ h1 (by decide)).mono ?_
  rintro e w2 ⟨rfl, h2, hc⟩
  have hb2 := hb1.trans (below_chg hc hq hb1.size)
  rw [show (!Nat.testBit 0 3) = true from by decide]
  clear h1 hc hb1
  go_wp2_with fail
  refine (set_at 70 _ h2 (by decide)).mono ?_
  rintro e w3 ⟨rfl, h3, hc⟩
  have hb3 := hb2.trans (below_chg hc hq hb2.size)
  rw [show (!(Bm.put 0 3).testBit 70) = true from by decide]
  clear h2 hc hb2
  go_wp2_with fail
  refine (set_at 70 _ h3 (by decide)).mono ?_
  rintro e w4 ⟨rfl, h4, hc⟩
  have hb4 := hb3.trans (below_chg hc hq hb3.size)
  rw [show (!(Bm.put (Bm.put 0 3) 70).testBit 70) = false from by decide]
  clear h3 hc hb3
  go_wp2_with fail
  refine (next_any 4 _ h4 (by decide) (by decide)).mono ?_
  rintro e w5 ⟨rfl, hb⟩
  have h5 := h4.below hb h4.lt.1 h4.lt.2.1 h4.lt.2.2
  have hb5 := hb4.trans (hb.mono hb4.size)
  rw [show nextN (Bm.put (Bm.put (Bm.put 0 3) 70) 70) (4 : Int).toNat 100 = 70 from by decide +kernel, show nextB (Bm.put (Bm.put (Bm.put 0 3) 70) 70) (4 : Int).toNat 100 = true from by decide +kernel]
  clear h4 hb hb4
  go_wp2_with fail
  refine (count_any 0 70 _ h5 (by decide) (by decide)).mono ?_
  rintro e w6 ⟨rfl, hb⟩
  have h6 := h5.below hb h5.lt.1 h5.lt.2.1 h5.lt.2.2
  have hb6 := hb5.trans (hb.mono hb5.size)
  rw [show Bm.cnt (Bm.put (Bm.put (Bm.put 0 3) 70) 70) (0 : Int).toNat (70 : Int).toNat = 1 from by decide +kernel]
  clear h5 hb hb5
  go_wp2_with fail
  refine (has_any 3 _ h6 (by decide) (by decide)).mono ?_
  rintro e w7 ⟨rfl, hb⟩
  have h7 := h6.below hb h6.lt.1 h6.lt.2.1 h6.lt.2.2
  have hb7 := hb6.trans (hb.mono hb6.size)
  rw [show hasB (Bm.put (Bm.put (Bm.put 0 3) 70) 70) 3 = true from by decide +kernel]
  clear h6 hb hb6
  go_wp2_with fail
  refine (clear_at 3 _ h7 (by decide)).mono ?_
  rintro e w8 ⟨rfl, h8, hc⟩
  have hb8 := hb7.trans (below_chg hc hq hb7.size)
  rw [show (Bm.put (Bm.put (Bm.put 0 3) 70) 70).testBit 3 = true from by decide +kernel]
  clear h7 hc hb7
  go_wp2_with fail
  refine (has_any 3 _ h8 (by decide) (by decide)).mono ?_
  rintro e w9 ⟨rfl, hb⟩
  have hb9 := hb8.trans (hb.mono hb8.size)
  rw [show hasB (Bm.out (Bm.put (Bm.put (Bm.put 0 3) 70) 70) 3) 3 = false from by decide +kernel]
  clear h8 hb hb8
  go_wp2
  go_ret
  exact ⟨rfl, hb9⟩

/-- The ops of a raw list: without any, or in a block, two cells each: whether it clears, and its number. -/
def opKinds : List (Option IntKind) := [none, some .i64]
def IsOps (w : World) (a : Option Addr) (len cap : Nat) (c : Nat → Bool) (f : Nat → Int) : Prop :=
  (len = 0 ∧ cap = 0) ∨ ∃ b off, a = some ⟨b, off, none⟩ ∧ b < w.heap.size ∧ len ≤ cap ∧ cap ≤ maxLen ∧ ∀ i, i < cap → w.cell? ⟨b, off + i * 2, none⟩ = some (.bool (c i)) ∧ w.cell? ⟨b, off + i * 2 + 1, none⟩ = some (.int .i64 (f i)) ∧ -9223372036854775808 ≤ f i ∧ f i ≤ 9223372036854775807
theorem IsOps.below {w w' : World} {a : Option Addr} {len cap : Nat} {c : Nat → Bool} {f : Nat → Int} (h : IsOps w a len cap c f) (hb : Below w.heap.size w w') : IsOps w' a len cap c f :=
  h.imp id fun ⟨b, off, e, hlt, h1, h2, hc⟩ => ⟨b, off, e, Nat.lt_of_lt_of_le hlt hb.size, h1, h2, fun i hi => by
    obtain ⟨c0, c1, hf⟩ := hc i hi
    exact ⟨(hb.cell (p := ⟨b, _, none⟩) hlt).trans c0, (hb.cell (p := ⟨b, _, none⟩) hlt).trans c1, hf⟩⟩
theorem isOps_of_flat {w : World} {a : Option Addr} {len cap : Nat} {V : Nat → Nat → Value} (h : IsFlat opKinds w a len cap V) : ∃ c f, IsOps w a len cap c f := by
  refine ⟨fun i => boolOf (V i 0), fun i => numOf (V i 1), h.imp id ?_⟩
  rintro ⟨b, off, e, hlt, h1, h2, hc⟩
  refine ⟨b, off, e, hlt, h1, h2, fun i hi => ?_⟩
  obtain ⟨c0, k0⟩ := hc i hi 0 none rfl
  obtain ⟨c1, k1⟩ := hc i hi 1 (some .i64) rfl
  obtain ⟨e1, f1⟩ := k1.int
  rw [k0.bool] at c0
  rw [e1] at c1
  exact ⟨c0, c1, bounds_i64 f1⟩

end Go.Proofs.YtcggjfljpoeanaaDoor
