/- The laws' own look at chapter 1's examples: true, and nothing that lay has turned. No condition. -/
import Derived.Test.YtadncljhckakmaaWordSame
namespace Go.Proofs.Ytadncljhckakmaa
open Go.RowKit

set_option linter.unusedSimpArgs false
set_option linter.unusedVariables false

theorem intsAt_new (w : World) (n : Nat) (hn : w.heap.size < n) (a b : Int) (f : Nat → Int) (h0 : f 0 = a) (h1 : f 1 = b) : IntsAt n (w.alloc (.cells #[.int .i64 a, .int .i64 b] 3)) (.slice (some ⟨w.heap.size, 0, none⟩) 2 2) 2 f :=
  .inr ⟨w.heap.size, 0, 2, rfl, hn, fun j hj => by
    match j, hj with
    | 0, _ => simp [h0]
    | 1, _ => simp [h1]⟩
theorem wordsAt_new (w : World) (n : Nat) (hn : w.heap.size < n) (a b : Int) (f : Nat → Int) (h0 : f 0 = a) (h1 : f 1 = b) : WordsAt n (w.alloc (.cells #[.int .u64 a, .int .u64 b] 22)) (.slice (some ⟨w.heap.size, 0, none⟩) 2 2) 2 f :=
  .inr ⟨w.heap.size, 0, 2, rfl, hn, fun j hj => by
    match j, hj with
    | 0, _ => simp [h0]
    | 1, _ => simp [h1]⟩

theorem IntsAt.mono {n m : Nat} {W : World} {v : Value} {len : Nat} {f : Nat → Int} (h : IntsAt n W v len f) (hnm : n ≤ m) : IntsAt m W v len f :=
  h.imp id fun ⟨b, off, cap, e, hb, hc⟩ => ⟨b, off, cap, e, by omega, hc⟩
theorem WordsAt.mono {n m : Nat} {W : World} {v : Value} {len : Nat} {f : Nat → Int} (h : WordsAt n W v len f) (hnm : n ≤ m) : WordsAt m W v len f :=
  h.imp id fun ⟨b, off, cap, e, hb, hc⟩ => ⟨b, off, cap, e, by omega, hc⟩
theorem fits59 : Hid (∀ k, ([5, 9] : List Nat).getD k 0 < 2 ^ ([3, 4] : List Nat).getD k 0) := fun k => by
  match k with
  | 0 => decide
  | 1 => decide
  | k + 2 => simp [List.getD]

set_option maxHeartbeats 1000000 in
theorem awake_any (w : World) : Calls Try.prog 10 #[] w fun e w' => e = .returned (.bool true) ∧ Below w.heap.size w w' := by
  go_enter Try.func10, Try.ntmps10
  go_wp2_with fail
  have hpk := pack_any [3, 4] [5, 9] (by decide) (by decide) fits59 rfl (by decide) (some ⟨w.heap.size, 0, none⟩) (some ⟨w.heap.size + 1, 0, none⟩) 2 2
    ((w.alloc (.cells #[.int .i64 3, .int .i64 4] 3)).alloc (.cells #[.int .u64 5, .int .u64 9] 22)) (by
      have h := intsAt_new w (w.heap.size + 1) (by omega) 3 4 (dvOf [3, 4]) (by decide) (by decide)
      exact (h.below ((Below.refl _ _).alloc (B := w.heap.size + 1) (by simp) (.cells #[.int .u64 5, .int .u64 9] 22))).mono (by simp)) (by
      have h := wordsAt_new (w.alloc (.cells #[.int .i64 3, .int .i64 4] 3)) (w.heap.size + 2) (by simp) 5 9 (dvOf [5, 9]) (by decide) (by decide)
      simpa using h)
  rw [show ((Wd.acc [3, 4] [5, 9] (List.range [3, 4].length) : Nat) : Int) = 77 from by decide] at hpk
  refine hpk.mono ?_
  clear hpk
  rintro e w1 ⟨rfl, hb1⟩
  have hz1 := hb1.size
  simp only [World.size_alloc] at hz1
  go_wp2_with fail
  refine (unpack_any [3, 4] 77 (by decide) (by decide) (by decide) (by decide) _ _ _ (intsAt_new _ _ (by simp) 3 4 (dvOf [3, 4]) (by decide) (by decide))).mono ?_
  rintro e w2 ⟨sv, rfl, hown, -, hb2⟩
  have hown2 := hown (by decide)
  rw [show decide (77 < 2 ^ [3, 4].sum) = true from by decide]
  obtain ⟨hl, hsv⟩ := wordsAt_own hown2
  rw [show Wd.nums [3, 4] 77 (List.range [3, 4].length) = [5, 9] from by decide] at hsv
  go_wp2_with fail
  refine (same_yes 2 (by decide) _ _ (dvOf [5, 9]) _ ((hsv.below ((Below.refl _ _).alloc (Nat.le_refl _) _)).mono (by simp)) (wordsAt_new w2 _ (by simp) 5 9 (dvOf [5, 9]) (by decide) (by decide))).mono ?_
  rintro e w3 ⟨rfl, hb3⟩
  have hz2 := hb2.size
  have hz3 := hb3.size
  simp only [World.size_alloc] at hz2 hz3
  have hB3 : Below w.heap.size w w3 := (((((((Below.refl _ w).alloc (Nat.le_refl _) _).alloc (by simp) _).trans (hb1.mono (by simp; omega))).alloc (by omega) _).trans (hb2.mono (by simp; omega))).alloc (by omega) _).trans (hb3.mono (by simp; omega))
  clear hb1 hb2 hb3 hown hown2 hsv hl
  go_wp2_with fail
  refine (zig_any _ _ (by decide) (by decide)).mono ?_
  rw [show zigOf (-1) = 1 from by decide]
  rintro e w4 ⟨rfl, rfl⟩
  go_wp2_with fail
  refine (zag_any _ _ (by decide) (by decide)).mono ?_
  rw [show zagOf 1 = -1 from by decide]
  rintro e w4 ⟨rfl, rfl⟩
  go_wp2_with fail
  refine (get_any _ _ _ _ (by decide) (by decide) (by decide) (by decide) (by decide)).mono ?_
  rw [show Wd.get (77 : Int).toNat (3 : Int).toNat (4 : Int).toNat = 9 from by decide]
  rintro e w4 ⟨rfl, hb4⟩
  go_wp2_with fail
  refine (right_yes _ _ _ (by decide) (by decide) (by decide)).mono ?_
  rintro e w5 ⟨rfl, hb5⟩
  go_wp2_with fail
  refine (mask_any _ _ _ (by decide) (by decide) (by decide)).mono ?_
  rw [show Wd.mask (1 : Int).toNat (2 : Int).toNat = 6 from by decide]
  rintro e w6 ⟨rfl, hb6⟩
  have hz4 := hb4.size
  have hz5 := hb5.size
  have hB6 : Below w.heap.size w w6 := ((hB3.trans (hb4.mono (by omega))).trans (hb5.mono (by omega))).trans (hb6.mono (by omega))
  go_wp2
  go_ret
  exact ⟨rfl, hB6⟩

end Go.Proofs.Ytadncljhckakmaa
