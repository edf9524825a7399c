/- Contracts of package bitmap: New, Set, Clear, Has; what lies behind a set. Condition: the set is one (BitAt), the table that package math/bits reads holds what its initialiser lays (TabW), the numbers are int's. -/
import Derived.Test.YtcggjfljpoeanaaDoorRows
import Derived.Test.YtcggjfljpoeanaaDoorMem
import Derived.Test.YtcggjfljpoeanaaDoorBitMath
import Derived.WalkKit
import Derived.ProofKit
import Derived.Outline
import Derived.LoopTactic
import Derived.Laws.MakeOwn
import Derived.Deep.RegionHeld3
import Derived.Deep.QuietTactic
import Derived.BigQuiet
import Derived.StillTailTactics
import Derived.Lib.TrailingZeros
import Derived.IntWalk
namespace Go.Proofs.YtcggjfljpoeanaaDoor
open Go.ChangeShapes Go.WideShapes Go.ChangeAt Go.RowKit

set_option linter.unusedSimpArgs false
set_option linter.unusedVariables false

/-- The table of package math/bits. -/
def TabW (w : World) : Prop := ∀ j, j < 64 → w.cell? ⟨0, j, none⟩ = some (.int .u8 ((Lib.deBruijn64tab.getD j 0 : Nat) : Int))
theorem TabW.lt {w : World} (h : TabW w) : 0 < w.heap.size := by
  have := h 0 (by decide)
  by_cases e : 0 < w.heap.size
  · exact e
  · simp [World.cell?, Array.getElem?_eq_none (Nat.le_of_not_lt e)] at this
theorem TabW.chg {S : Nat → Prop} {w w' : World} (h : TabW w) (g : Chg S w w') (hs : ¬ S 0) : TabW w' := fun j hj => (g.cell (p := ⟨0, j, none⟩) h.lt hs).trans (h j hj)
theorem TabW.below {n : Nat} {w w' : World} (h : TabW w) (g : Below n w w') (hn : 0 < n) : TabW w' := fun j hj => (g.cell (p := ⟨0, j, none⟩) hn).trans (h j hj)

def nWords (bound : Nat) : Nat := (bound + 63) / 64
def rowOf (m n : Nat) : List Value := (List.range n).map fun k => Value.int .u64 (Bm.wordOf m k : Int)

/-- Block p is a set below bound, its words lie in block q: i is in where bit i of m is 1. -/
structure BitAt (w : World) (p q bound m : Nat) : Prop where
  head : BlkIs w p #[.int .i64 bound, .slice (some ⟨q, 0, none⟩) (nWords bound) (nWords bound)] 39
  row : BlkIs w q (rowOf m (nWords bound)).toArray 40
  le : bound ≤ 65536
  fits : m < 2 ^ bound
  tab : TabW w
  nq : 0 ≠ q

section
variable {w w' : World} {p q bound m : Nat} {S : Nat → Prop}
theorem BitAt.chg (h : BitAt w p q bound m) (g : Chg S w w') (hp : ¬ S p) (hq : ¬ S q) (h0 : ¬ S 0) : BitAt w' p q bound m := ⟨h.head.chg g hp, h.row.chg g hq, h.le, h.fits, h.tab.chg g h0, h.nq⟩
theorem BitAt.below {n : Nat} (h : BitAt w p q bound m) (g : Below n w w') (hp : p < n) (hq : q < n) (h0 : 0 < n) : BitAt w' p q bound m := ⟨h.head.below g hp, h.row.below g hq, h.le, h.fits, h.tab.below g h0, h.nq⟩
theorem BitAt.drew (h : BitAt w p q bound m) : BitAt w.drew p q bound m := ⟨h.head, h.row, h.le, h.fits, h.tab, h.nq⟩
theorem BitAt.drewN (h : BitAt w p q bound m) (n : Nat) : BitAt (w.drewN n) p q bound m := ⟨h.head, h.row, h.le, h.fits, h.tab, h.nq⟩
theorem BitAt.lt (h : BitAt w p q bound m) : p < w.heap.size ∧ q < w.heap.size ∧ 0 < w.heap.size := ⟨h.head.lt, h.row.lt, h.tab.lt⟩
theorem BitAt.alloc (h : BitAt w p q bound m) (o : Obj) : BitAt (w.alloc o) p q bound m := h.chg ((Chg.refl (fun _ => False) w).alloc o) (fun e => e) (fun e => e) (fun e => e)
theorem BitAt.slot0 (h : BitAt w p q bound m) : w.cell? ⟨p, 0, none⟩ = some (.int .i64 bound) := by rw [h.head.cell]; rfl
theorem BitAt.slot1 (h : BitAt w p q bound m) : w.cell? ⟨p, 1, none⟩ = some (.slice (some ⟨q, 0, none⟩) (nWords bound) (nWords bound)) := by rw [h.head.cell]; rfl
theorem BitAt.word (h : BitAt w p q bound m) {k : Nat} (hk : k < nWords bound) : w.cell? ⟨q, k, none⟩ = some (.int .u64 (Bm.wordOf m k : Int)) := by
  rw [h.row.cell]
  simp [rowOf, hk]
theorem BitAt.ne (h : BitAt w p q bound m) : p ≠ q := by
  rintro rfl
  have h1 := h.head
  have h2 := h.row
  unfold BlkIs at h1 h2
  rw [h1] at h2
  injection h2 with h2
  injection h2 with _ h2
  exact absurd h2 (by decide)
theorem BitAt.set (h : BitAt w p q bound m) {i m' : Nat} (hm : m' < 2 ^ bound) (hi : ∀ k, k ≠ i → Bm.wordOf m' k = Bm.wordOf m k) : BitAt (w.setCell ⟨q, i, none⟩ (.int .u64 (Bm.wordOf m' i : Int))) p q bound m' := by
  refine ⟨h.head.far h.ne _, ?_, h.le, hm, fun j hj => ?_, h.nq⟩
  · have := h.row.set i (.int .u64 (Bm.wordOf m' i : Int))
    rw [List.setIfInBounds_toArray] at this
    unfold rowOf at this ⊢
    rw [Bm.words_set (fun k => Value.int .u64 (Bm.wordOf m k : Int)) (fun k => Value.int .u64 (Bm.wordOf m' k : Int)) _ _ (fun k e => by simp only [hi k e])] at this
    exact this
  · exact (World.cell?_of_block (Below.heap_setCell w ⟨q, i, none⟩ _ _ h.nq)).trans (h.tab j hj)
end
theorem nWords_lt {i bound : Nat} (h : i < bound) : i / 64 < nWords bound := by unfold nWords; omega

theorem below_drewN (w : World) (n : Nat) : Below w.heap.size w (w.drewN n) := ((Chg.refl (fun _ => False) w).drewN n).below (fun _ h => h.elim) (Nat.le_refl _)

/-! TrailingZeros64 -/
theorem tz_core (x k idx : Nat) (w : World) (hx0 : ((x : Int) == 0) = false)
    (key : IntKind.u64.wrap (bits BinOp.and IntKind.u64 (x : Int) (IntKind.u64.wrap (-(x : Int))) * 285870213051353865) / 288230376151711744 = (idx : Int))
    (hi : idx < 64) (hk : k < 64) (hcell : w.cell? ⟨0, idx, none⟩ = some (.int .u8 k)) :
    Calls Tryd.prog 20 #[.int .u64 x] w fun e w' => e = .returned (.int .i64 k) ∧ w = w' := by
  go_enter Tryd.func20, Tryd.ntmps20
  go_wp2_with (simp only [key])
  go_ret
  exact ⟨rfl, rfl⟩
theorem tz_key (x a : Nat) (hx : x < 18446744073709551616) (hx0 : x ≠ 0) (hlow : x &&& (18446744073709551616 - x) = a) :
    IntKind.u64.wrap (bits BinOp.and IntKind.u64 (x : Int) (IntKind.u64.wrap (-(x : Int))) * 285870213051353865) / 288230376151711744 = ((a * 285870213051353865 % 18446744073709551616 / 288230376151711744 : Nat) : Int) := by
  have e1 : IntKind.u64.wrap (-(x : Int)) = ((18446744073709551616 - x : Nat) : Int) := by rw [IntKind.wrap_u64]; omega
  rw [e1, bits_and_u64_nat x _ hx (by omega), hlow, IntKind.wrap_u64]
  omega
theorem tz_any (x : Nat) (hx : x < 18446744073709551616) (hx0 : x ≠ 0) (w : World) (hT : TabW w) :
    Calls Tryd.prog 20 #[.int .u64 x] w fun e w' => e = .returned (.int .i64 (Lib.ctz 64 x : Nat)) ∧ w = w' := by
  obtain ⟨hlow, hk⟩ := Lib.lowest_bit 64 x hx0 hx
  obtain ⟨hi, htab⟩ := Lib.deBruijn64_at _ hk
  have hcell := hT _ hi
  rw [htab] at hcell
  exact tz_core x _ _ w (by simp; omega) (tz_key x _ hx hx0 hlow) hi hk hcell

/-! may, bit -/
/-- The word in which just the bit of a number is 1. -/
def bitV (i : Nat) : Nat := 2 ^ (i % 64)
theorem bitV_lt (i : Nat) : bitV i < 18446744073709551616 := Nat.pow_lt_pow_right (m := i % 64) (n := 64) (by decide) (by omega)
theorem bitV_pos (i : Nat) : 0 < bitV i := Nat.two_pow_pos _
theorem bit_any (i : Nat) (w : World) (hi : i ≤ 9223372036854775807) :
    Calls Tryd.prog 16 #[.int .i64 i] w fun e w' => e = .returned (.int .u64 (bitV i : Int)) ∧ w = w' := by
  have h2 := bitV_lt i
  have h3 : IntKind.u64.wrap ((2 : Int) ^ (i % 64)) = (bitV i : Int) := by
    have h4 : ((2 : Int) ^ (i % 64)) = (bitV i : Int) := by simp [bitV]
    rw [h4, IntKind.wrap_u64]
    exact Int.emod_eq_of_lt (Int.natCast_nonneg _) (by omega)
  go_enter Tryd.func16, Tryd.ntmps16
  go_wp2
  go_ret
  exact ⟨by rw [← h3]; rfl, rfl⟩

/-- Whether a number may be in. -/
def mayB (bound : Nat) (i : Int) : Bool := decide (0 ≤ i) && decide (i < (bound : Int))
theorem may_any {p q bound m : Nat} (i : Int) (w : World) (h : BitAt w p q bound m) :
    Calls Tryd.prog 17 #[.pointer (some ⟨p, 0, none⟩), .int .i64 i] w fun e w' => e = .returned (.bool (mayB bound i)) ∧ w = w' := by
  have hc := h.slot0
  clear h
  unfold mayB
  by_cases h0 : 0 ≤ i
  · have hd : decide (0 ≤ i) = true := by simpa using h0
    go_enter Tryd.func17, Tryd.ntmps17
    go_wp2
    go_ret
    exact ⟨by simp [h0], rfl⟩
  · have hd : decide (0 ≤ i) = false := by simpa using h0
    go_enter Tryd.func17, Tryd.ntmps17
    go_wp2
    go_ret
    exact ⟨by simp [h0], rfl⟩

theorem may_yes {p q bound m : Nat} (i : Int) (w : World) (h : BitAt w p q bound m) (hi : 0 ≤ i ∧ i < (bound : Int)) :
    Calls Tryd.prog 17 #[.pointer (some ⟨p, 0, none⟩), .int .i64 i] w fun e w' => e = .returned (.bool true) ∧ w' = w := by
  refine (may_any i w h).mono ?_
  rintro e w' ⟨rfl, rfl⟩
  unfold mayB
  simp [hi]
theorem may_no {p q bound m : Nat} (i : Int) (w : World) (h : BitAt w p q bound m) (hi : ¬ (0 ≤ i ∧ i < (bound : Int))) :
    Calls Tryd.prog 17 #[.pointer (some ⟨p, 0, none⟩), .int .i64 i] w fun e w' => e = .returned (.bool false) ∧ w' = w := by
  refine (may_any i w h).mono ?_
  rintro e w' ⟨rfl, rfl⟩
  unfold mayB
  by_cases h0 : 0 ≤ i
  · have : ¬ i < (bound : Int) := fun e => hi ⟨h0, e⟩
    simp [this]
  · simp [h0]
theorem bit_same (i : Nat) (w : World) (hi : i ≤ 9223372036854775807) :
    Calls Tryd.prog 16 #[.int .i64 i] w fun e w' => e = .returned (.int .u64 (bitV i : Int)) ∧ w' = w := (bit_any i w hi).mono fun _ _ ⟨h1, h2⟩ => ⟨h1, h2.symm⟩

/-! Has -/
def hasB (m : Nat) (i : Int) : Bool := decide (0 ≤ i) && m.testBit i.toNat
theorem mayB_yes {bound : Nat} {i : Int} (h0 : 0 ≤ i) (h1 : i < (bound : Int)) : mayB bound i = true := by unfold mayB; simp [h0, h1]
theorem mayB_not {bound : Nat} {i : Int} (h : ¬ (0 ≤ i ∧ i < (bound : Int))) : mayB bound i = false := by
  unfold mayB
  by_cases h0 : 0 ≤ i
  · have : ¬ i < (bound : Int) := fun e => h ⟨h0, e⟩
    simp [this]
  · simp [h0]
theorem hasB_not {m bound : Nat} {i : Int} (hm : m < 2 ^ bound) (h : ¬ (0 ≤ i ∧ i < (bound : Int))) : hasB m i = false := by
  unfold hasB
  by_cases h0 : 0 ≤ i
  · rw [Bm.not_in hm (by omega)]; simp
  · simp [h0]
theorem hasB_nat (m i : Nat) : hasB m (i : Int) = m.testBit i := by unfold hasB; simp

theorem word_has_int (m i : Nat) : (bits BinOp.and IntKind.u64 (Bm.wordOf m (i / 64) : Int) (bitV i : Int) != 0) = m.testBit i := by
  have h2 := bitV_lt i
  have p := bitV_pos i
  rw [bits_and_u64_nat _ _ (Bm.wordOf_lt _ _) h2, show bitV i = 2 ^ (i % 64) from rfl, Bm.word_has]
  unfold bitV at p
  cases m.testBit i
  · simp
  · have : ¬ ((2 ^ (i % 64) : Nat) : Int) = 0 := by omega
    simpa using this

theorem has_any {p q bound m : Nat} (i : Int) (w : World) (h : BitAt w p q bound m) (i0 : -9223372036854775808 ≤ i) (i1 : i ≤ 9223372036854775807) :
    Calls Tryd.prog 14 #[.pointer (some ⟨p, 0, none⟩), .int .i64 i] w fun e w' => e = .returned (.bool (hasB m i)) ∧ Below w.heap.size w w' := by
  by_cases hi : 0 ≤ i ∧ i < (bound : Int)
  · obtain ⟨h0, h1⟩ := hi
    obtain ⟨k, rfl⟩ : ∃ k : Nat, i = k := ⟨i.toNat, by omega⟩
    have hy := mayB_yes (bound := bound) h0 h1
    have hc := h.slot1
    have hw := h.word (nWords_lt (i := k) (by omega))
    have hk : k / 64 < nWords bound := nWords_lt (by omega)
    have hle := h.le
    have hn : nWords bound ≤ 1024 := by unfold nWords; omega
    have hq : Int.tdiv (k : Int) 64 = ((k / 64 : Nat) : Int) := Int.ofNat_tdiv k 64 |>.symm
    rw [hasB_nat]
    go_enter Tryd.func14, Tryd.ntmps14
    go_wp2
    go_quiet (first | (go_at_call 17; exact Calls.quiet_of_same (may_yes _ _ (h.drewN _) ⟨h0, h1⟩)) | (go_at_call 16; exact Calls.quiet_of_same (bit_same _ _ (by omega))))
    go_wp2
    go_ret
    exact ⟨by rw [← word_has_int]; rfl, below_drewN w _⟩
  · have hn := mayB_not hi
    rw [hasB_not h.fits hi]
    go_enter Tryd.func14, Tryd.ntmps14
    go_wp2
    go_quiet ((go_at_call 17; exact Calls.quiet_of_same (may_no _ _ (h.drewN _) hi)))
    go_wp2
    go_ret
    exact ⟨rfl, below_drewN w _⟩

/-! Set, Clear -/
theorem word_or_int (m i : Nat) : bits BinOp.or IntKind.u64 (Bm.wordOf m (i / 64) : Int) (bitV i : Int) = (Bm.wordOf (Bm.put m i) (i / 64) : Int) := by
  rw [bits_or_u64_nat _ _ (Bm.wordOf_lt _ _) (bitV_lt i), show bitV i = 2 ^ (i % 64) from rfl, Bm.word_put]
theorem word_andNot_int (m i : Nat) : bits BinOp.andNot IntKind.u64 (Bm.wordOf m (i / 64) : Int) (bitV i : Int) = (Bm.wordOf (Bm.out m i) (i / 64) : Int) := by
  rw [u64_andNot_nat _ _ (Bm.wordOf_lt _ _) (bitV_lt i), show bitV i = 2 ^ (i % 64) from rfl, Bm.word_out]

theorem set_new {p q bound m : Nat} (i : Nat) (w : World) (h : BitAt w p q bound m) (hi : i < bound) (hm : m.testBit i = false) :
    Calls Tryd.prog 12 #[.pointer (some ⟨p, 0, none⟩), .int .i64 i] w fun e w' => e = .returned (.bool true) ∧ BitAt w' p q bound (Bm.put m i) ∧ Chg (· = q) w w' := by
  have hle := h.le
  have hy := mayB_yes (bound := bound) (i := i) (by omega) (by omega)
  have hn : hasB m (i : Int) = false := by rw [hasB_nat]; exact hm
  have hk : i / 64 < nWords bound := nWords_lt hi
  have hb : nWords bound ≤ 1024 := by unfold nWords; omega
  have hq : Int.tdiv (i : Int) 64 = ((i / 64 : Nat) : Int) := Int.ofNat_tdiv i 64 |>.symm
  go_enter Tryd.func12, Tryd.ntmps12
  go_wp2_with fail
  refine (may_yes _ _ h ⟨by omega, by omega⟩).mono ?_
  rintro e w1 ⟨rfl, rfl⟩
  go_wp2_with fail
  refine (has_any _ _ h (by omega) (by omega)).mono ?_
  rintro e w2 ⟨rfl, hbel⟩
  rw [hn]
  have h2 := h.below hbel h.lt.1 h.lt.2.1 h.lt.2.2
  have hc := h2.slot1
  have hw := h2.word hk
  have hf := h2.row.free (i / 64)
  have e1 : IntKind.i64.wrap ((i : Int) / 64) = (i : Int) / 64 := IntWalk.i64_in _ (by omega)
  have e2 : 0 ≤ (i : Int) / 64 := by omega
  have e3 : (i : Int) / 64 < (nWords bound : Int) := by omega
  have e4 : ((i : Int) / 64).toNat = i / 64 := by omega
  go_wp2
  go_still_tail 12, (by kernel_rfl)
  still_call (bit_same _ _ (by omega))
  repeat still_step
  refine wpStill_nil ?_
  change wpList _ _ _ _ _ w2.drew
  have hf : w2.drew.frozen? ⟨q, i / 64, none⟩ = false := hf
  have hS : BitAt (w2.drew.setCell ⟨q, i / 64, none⟩ (.int .u64 (Bm.wordOf (Bm.put m i) (i / 64) : Int))) p q bound (Bm.put m i) := (h2.drew).set (Bm.put_lt h2.fits hi) (fun k hk => Bm.word_put_other hk)
  rw [word_or_int]
  go_wp2
  go_ret
  exact ⟨rfl, hS, ((Chg.of_below (S := (· = q)) hbel (Nat.le_refl _)).setCell (p := ⟨q, i / 64, none⟩) (.inl rfl) _).drew⟩

theorem set_again {p q bound m : Nat} (i : Nat) (w : World) (h : BitAt w p q bound m) (hi : i < bound) (hm : m.testBit i = true) :
    Calls Tryd.prog 12 #[.pointer (some ⟨p, 0, none⟩), .int .i64 i] w fun e w' => e = .returned (.bool false) ∧ BitAt w' p q bound (Bm.put m i) ∧ Chg (· = q) w w' := by
  have hle := h.le
  have hn : hasB m (i : Int) = true := by rw [hasB_nat]; exact hm
  go_enter Tryd.func12, Tryd.ntmps12
  go_wp2_with fail
  refine (may_yes _ _ h ⟨by omega, by omega⟩).mono ?_
  rintro e w1 ⟨rfl, rfl⟩
  go_wp2_with fail
  refine (has_any _ _ h (by omega) (by omega)).mono ?_
  rintro e w2 ⟨rfl, hbel⟩
  rw [hn]
  have h2 := h.below hbel h.lt.1 h.lt.2.1 h.lt.2.2
  go_wp2
  go_ret
  exact ⟨rfl, by rw [Bm.put_in hm]; exact h2, Chg.of_below hbel (Nat.le_refl _)⟩

theorem set_at {p q bound m : Nat} (i : Nat) (w : World) (h : BitAt w p q bound m) (hi : i < bound) :
    Calls Tryd.prog 12 #[.pointer (some ⟨p, 0, none⟩), .int .i64 i] w fun e w' => e = .returned (.bool (!m.testBit i)) ∧ BitAt w' p q bound (Bm.put m i) ∧ Chg (· = q) w w' := by
  cases hm : m.testBit i
  · exact set_new i w h hi hm
  · exact set_again i w h hi hm

theorem set_out {p q bound m : Nat} (i : Int) (w : World) (h : BitAt w p q bound m) (hi : ¬ (0 ≤ i ∧ i < (bound : Int))) :
    Calls Tryd.prog 12 #[.pointer (some ⟨p, 0, none⟩), .int .i64 i] w fun e w' => e = .returned (.bool false) ∧ w = w' := by
  go_enter Tryd.func12, Tryd.ntmps12
  go_wp2_with fail
  refine (may_no _ _ h hi).mono ?_
  rintro e w1 ⟨rfl, rfl⟩
  go_wp2
  go_ret
  exact ⟨rfl, rfl⟩

theorem clear_in {p q bound m : Nat} (i : Nat) (w : World) (h : BitAt w p q bound m) (hi : i < bound) (hm : m.testBit i = true) :
    Calls Tryd.prog 11 #[.pointer (some ⟨p, 0, none⟩), .int .i64 i] w fun e w' => e = .returned (.bool true) ∧ BitAt w' p q bound (Bm.out m i) ∧ Chg (· = q) w w' := by
  have hle := h.le
  have hn : hasB m (i : Int) = true := by rw [hasB_nat]; exact hm
  have hk : i / 64 < nWords bound := nWords_lt hi
  have hb : nWords bound ≤ 1024 := by unfold nWords; omega
  have hq : Int.tdiv (i : Int) 64 = ((i / 64 : Nat) : Int) := Int.ofNat_tdiv i 64 |>.symm
  go_enter Tryd.func11, Tryd.ntmps11
  go_wp2_with fail
  refine (has_any _ _ h (by omega) (by omega)).mono ?_
  rintro e w2 ⟨rfl, hbel⟩
  rw [hn]
  have h2 := h.below hbel h.lt.1 h.lt.2.1 h.lt.2.2
  have hc := h2.slot1
  have hw := h2.word hk
  have hf := h2.row.free (i / 64)
  have e1 : IntKind.i64.wrap ((i : Int) / 64) = (i : Int) / 64 := IntWalk.i64_in _ (by omega)
  have e2 : 0 ≤ (i : Int) / 64 := by omega
  have e3 : (i : Int) / 64 < (nWords bound : Int) := by omega
  have e4 : ((i : Int) / 64).toNat = i / 64 := by omega
  go_wp2
  go_still_tail 12, (by kernel_rfl)
  still_call (bit_same _ _ (by omega))
  repeat still_step
  refine wpStill_nil ?_
  change wpList _ _ _ _ _ w2.drew
  have hf : w2.drew.frozen? ⟨q, i / 64, none⟩ = false := hf
  have hS : BitAt (w2.drew.setCell ⟨q, i / 64, none⟩ (.int .u64 (Bm.wordOf (Bm.out m i) (i / 64) : Int))) p q bound (Bm.out m i) := (h2.drew).set (Bm.out_lt h2.fits) (fun k hk => Bm.word_out_other hk)
  rw [word_andNot_int]
  go_wp2
  go_ret
  exact ⟨rfl, hS, ((Chg.of_below (S := (· = q)) hbel (Nat.le_refl _)).setCell (p := ⟨q, i / 64, none⟩) (.inl rfl) _).drew⟩

theorem clear_at {p q bound m : Nat} (i : Nat) (w : World) (h : BitAt w p q bound m) (hi : (i : Int) ≤ 9223372036854775807) :
    Calls Tryd.prog 11 #[.pointer (some ⟨p, 0, none⟩), .int .i64 i] w fun e w' => e = .returned (.bool (m.testBit i)) ∧ BitAt w' p q bound (Bm.out m i) ∧ Chg (· = q) w w' := by
  cases hm : m.testBit i
  · have hn : hasB m (i : Int) = false := by rw [hasB_nat]; exact hm
    go_enter Tryd.func11, Tryd.ntmps11
    go_wp2_with fail
    refine (has_any _ _ h (by omega) (by omega)).mono ?_
    rintro e w2 ⟨rfl, hbel⟩
    rw [hn]
    have h2 := h.below hbel h.lt.1 h.lt.2.1 h.lt.2.2
    go_wp2
    go_ret
    exact ⟨rfl, by rw [Bm.out_not hm]; exact h2, Chg.of_below hbel (Nat.le_refl _)⟩
  · by_cases hb : i < bound
    · exact clear_in i w h hb hm
    · rw [Bm.not_in h.fits (by omega)] at hm
      cases hm

/-! New -/
theorem infoW : (Tryd.prog.info? 40).map (fun i => (i.zero, i.size, i.bytes)) = some (some (.int .u64 0), 1, 8) := by kernel_rfl

theorem rowOf_zero (n : Nat) : madeCells #[Value.int .u64 0] n = (rowOf 0 n).toArray := by
  have h := made_ints (n := n)
  rw [h]
  congr 1
  refine List.ext_getElem (by simp [rowOf]) fun j h1 h2 => ?_
  simp [rowOf, Bm.wordOf_zero]

theorem new_at (n : Nat) (w : World) (hn : n ≤ 65536) (hT : TabW w) :
    Calls Tryd.prog 9 #[.int .i64 n] w fun e w' => ∃ p q, e = .returned (.pointer (some ⟨p, 0, none⟩)) ∧ BitAt w' p q n 0 ∧ w.heap.size ≤ p ∧ w.heap.size ≤ q ∧ Below w.heap.size w w' := by
  obtain ⟨i0, hi, hz0, hz1, hz2⟩ := info_parts infoW
  have hb : nWords n ≤ 1024 := by unfold nWords; omega
  have hq : ((n : Int) + 64 - 1) / 64 = (nWords n : Int) := by unfold nWords; omega
  have hmk := fun W => make_row (P := Tryd.prog) 37 40 i0 (.int .u64 0) Tryd.underlying37 hi hz0 .i64 .i64 (nWords n) (nWords n) (Nat.le_refl _) (by rw [hz2]; omega) (by omega) W
  simp only [hz1, Nat.mul_one] at hmk
  rw [← hq] at hmk
  clear hq
  go_enter Tryd.func9, Tryd.ntmps9
  go_wp2
  go_ret
  refine ⟨w.heap.size + 1, w.heap.size, rfl, ⟨?_, ?_, hn, Nat.two_pow_pos _, ?_, ?_⟩, by omega, by omega, ((Below.refl _ _).alloc (Nat.le_refl _) _).alloc (by simp) _⟩
  · have := BlkIs.new (w.alloc (.cells (madeCells #[Value.int .u64 0] (nWords n)) 40)) #[.int .i64 n, .slice (some ⟨w.heap.size, 0, none⟩) (nWords n) (nWords n)] 39
    simpa using this
  · have h := BlkIs.new w (madeCells #[Value.int .u64 0] (nWords n)) 40
    rw [← rowOf_zero]
    exact h.alloc _
  · exact hT.below (((Below.refl _ _).alloc (Nat.le_refl _) _).alloc (by simp) _) hT.lt
  · exact Nat.ne_of_lt hT.lt

end Go.Proofs.YtcggjfljpoeanaaDoor
