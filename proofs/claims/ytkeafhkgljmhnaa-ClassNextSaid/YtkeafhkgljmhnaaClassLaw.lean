/- The laws' own look at chapter class's examples: true, and nothing that lay has turned; the laws' own 'same' at two lists of equal numbers. No condition. -/
import Derived.Test.YtkeafhkgljmhnaaClassSizes
import Derived.Test.YtkeafhkgljmhnaaPick
namespace Go.Proofs.Ytkeafhkgljmhnaa
open Go.RowKit

set_option linter.unusedSimpArgs false
set_option linter.unusedVariables false

theorem below_drewN {B : Nat} {a w : World} (h : Below B a w) (n : Nat) : Below B a (w.drewN n) := ⟨h.os, h.tape, h.output, h.size, h.block⟩

set_option maxHeartbeats 1000000 in
theorem same_yes (len : Nat) (hlen : len ≤ 1000) (b1 b2 c1 c2 : Nat) (f : Nat → Int) (w : World) (hb1 : b1 < w.heap.size) (hb2 : b2 < w.heap.size)
    (h1 : ∀ j, j < len → w.cell? ⟨b1, j, none⟩ = some (.int .i64 (f j))) (h2 : ∀ j, j < len → w.cell? ⟨b2, j, none⟩ = some (.int .i64 (f j))) :
    Calls Try.prog 11 #[.slice (some ⟨b1, 0, none⟩) len c1, .slice (some ⟨b2, 0, none⟩) len c2] w fun e w' => e = .returned (.bool true) ∧ Below w.heap.size w w' := by
  have H1 := Lib.hid h1
  have H2 := Lib.hid h2
  clear h1 h2
  go_enter Try.func11, Try.ntmps11
  go_wp2
  go_loopw [5] (fun i wr => ∃ k : Nat, k ≤ len ∧ i = .int .i64 k ∧ Below w.heap.size w wr) (fun i _ => len - (intOf i).toNat)
  case atStart => exact ⟨0, Nat.zero_le _, rfl, Below.refl _ _⟩
  case round =>
    obtain ⟨k, hk, rfl, hB⟩ := hrel
    by_cases hlt : k < len
    · have e1 : wr.cell? ⟨b1, k, none⟩ = some (.int .i64 (f k)) := (hB.cell (p := ⟨b1, k, none⟩) hb1).trans (H1.out k hlt)
      have e2 : wr.cell? ⟨b2, k, none⟩ = some (.int .i64 (f k)) := (hB.cell (p := ⟨b2, k, none⟩) hb2).trans (H2.out k hlt)
      have i1 : (0 : Int) ≤ (k : Int) := by omega
      have i2 : (k : Int) < (len : Int) := by omega
      go_wp2
      go_quiet (fail)
      go_wp2
      go_roundw
      case rel => exact ⟨k + 1, by omega, by go_num, below_drewN hB _⟩
      case measure => simp [intOf]; omega
    · obtain rfl : k = len := by omega
      go_wp2
      go_ret
      exact ⟨rfl, hB⟩

theorem at_5 : Cls.at' 5 = 1 := by decide
theorem at_9 : Cls.at' 9 = 3 := by decide
theorem round_5 : roundN 5 = 6 := by decide
theorem place_5 : placeN 5 = 1 := by decide

set_option maxRecDepth 100000 in
set_option maxHeartbeats 1000000 in
theorem awake_yes (w : World) : Calls Try.prog 7 #[] w fun e w' => e = .returned (.bool true) ∧ Below w.heap.size w w' := by
  go_enter Try.func7, Try.ntmps7
  go_wp2_with fail
  refine (round_any 5 (by omega) (by omega) _).mono ?_
  rintro e x ⟨rfl, hB⟩
  rw [round_5, show okN 5 = true from rfl]
  go_wp2_with fail
  refine (class_any 5 (by omega) (by omega) _).mono ?_
  rintro e x2 ⟨rfl, hB2⟩
  rw [place_5, show okN 5 = true from rfl]
  go_wp2_with fail
  refine (sizes_in 9 (by omega) (by omega) x2).mono ?_
  rintro e x3 ⟨sv, rfl, own, hB3⟩
  rw [at_9] at own
  obtain ⟨g, cap, rfl⟩ := ownsRow_succ own
  have hg : g < x3.heap.size := by
    rcases own.2 with ⟨h, _⟩ | ⟨g', cap', cur, h, _, hg, _⟩
    · cases h
    · cases h
      exact (Array.getElem?_eq_some_iff.1 hg).1
  have hc : ∀ j, j < 4 → x3.cell? ⟨g, j, none⟩ = some (.int .i64 (Cls.sz j)) := fun j hj => by
    have hc := own.cells (g := g) rfl j (.int .i64 (Cls.sz j)) (by unfold szs; rw [List.getElem?_map, List.getElem?_map, List.getElem?_range hj]; rfl)
    by_cases h0 : j = 0
    · subst h0; simpa [Addr.add] using hc
    · simpa [Addr.add, h0] using hc
  have Hc := Lib.hid hc
  clear own hc
  go_wp2_with fail
  refine (same_yes 4 (by omega) g x3.heap.size cap 4 (fun j => Cls.sz j) _ (by simp; omega) (by simp) ?_ ?_).mono ?_
  · intro j hj
    exact (((Below.refl _ x3).alloc (Nat.le_refl _) _).cell (p := ⟨g, j, none⟩) hg).trans (Hc.out j hj)
  · intro j hj
    match j, hj with
    | 0, _ => simp [Cls.sz_0]
    | 1, _ => simp [Cls.sz_1]
    | 2, _ => simp [Cls.sz_2]
    | 3, _ => simp [Cls.sz_3]
  · rintro e x4 ⟨rfl, hB4⟩
    go_wp2
    go_ret
    have s1 := hB.size
    have s2 := hB2.size
    have s3 := hB3.size
    exact ⟨rfl, (hB.trans (hB2.mono s1)).trans ((hB3.mono (by omega)).trans ((((Below.refl _ x3).alloc (Nat.le_refl _) _).mono (by omega)).trans (hB4.mono (by simp; omega))))⟩

theorem round_nat (m : Nat) (h0 : 1 ≤ m) (h1 : m ≤ 65536) (w : World) :
    Calls Try.prog 9 #[.int .i64 m] w fun e w' => e = .returned (.tuple #[.int .i64 (Cls.rd m), .bool true]) ∧ Below w.heap.size w w' := by
  have := round_any m (by omega) (by omega) w
  rwa [roundN_of h0 h1, okN_of (by omega) (by omega)] at this
theorem class_nat (m : Nat) (h0 : 1 ≤ m) (h1 : m ≤ 65536) (w : World) :
    Calls Try.prog 10 #[.int .i64 m] w fun e w' => e = .returned (.tuple #[.int .i64 (Cls.at' m), .bool true]) ∧ Below w.heap.size w w' := by
  have := class_any m (by omega) (by omega) w
  rwa [placeN_of h0 h1, okN_of (by omega) (by omega)] at this
/-- A number picked, and one more on it. -/
theorem picked (b : Nat) (c : Int) (n : Nat) (w : World) (h0 : -9223372036854775808 ≤ c) (h1 : c ≤ 9223372036854775807) (h2 : 0 < n) (h3 : (n : Int) ≤ 65536) :
    Calls Try.prog 8 #[.int .i64 c, .int .i64 n] w fun e w' => ∃ m : Nat, b ≤ m ∧ m < b + n ∧ e = .returned (.int .i64 ((m : Int) - b)) ∧ w = w' := by
  refine (pick_nat c n w h0 h1 h2 (by omega)).mono ?_
  rintro e x ⟨k, hk, rfl, rfl⟩
  exact ⟨b + k, by omega, by omega, by rw [show ((b + k : Nat) : Int) - (b : Int) = (k : Int) from by omega], rfl⟩

end Go.Proofs.Ytkeafhkgljmhnaa
