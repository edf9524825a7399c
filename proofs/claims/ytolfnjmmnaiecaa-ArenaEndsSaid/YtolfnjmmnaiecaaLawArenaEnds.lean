/- For every size, any places, numbers and words: what goes beyond the last word, or begins ahead of the first one, is an error: the law ArenaEnds returns true and its arguments read as they did. No condition. -/
import Derived.Test.YtolfnjmmnaiecaaArenaLaw
import Derived.Test.YtolfnjmmnaiecaaOpen
namespace Go.Proofs.Ytolfnjmmnaiecaa.arenaEnds
open Go.ChangeShapes Go.WideShapes Go.ChangeAt Go.RowKit
set_option linter.unusedVariables false
set_option linter.unusedSimpArgs false

theorem fill_len (l : List Int) (a n x : Int) : (fillV l a n x).length = l.length := by
  unfold fillV; split <;> simp
theorem move_len (l : List Int) (a c n : Int) : (moveV l a c n).length = l.length := by
  unfold moveV; split <;> simp
theorem load_nought (m : Nat) (a : Int) : loadV (List.replicate m 0) a = 0 := by
  unfold loadV
  split
  · rename_i h
    obtain ⟨h1, _, h3⟩ := fitsB_yes h
    rw [List.length_replicate] at h3
    simp [List.getD, show a.toNat < m from by omega]
  · rfl
theorem err_yes {m : Nat} {a n : Int} (h1 : 0 ≤ a) (h2 : 0 ≤ n) (h3 : a + n ≤ m) : errV m a n = 0 := by
  unfold errV; rw [fitsB_of h1 h2 h3]; rfl
theorem err_no {m : Nat} {a n : Int} (h : ¬ (0 ≤ a ∧ 0 ≤ n ∧ a + n ≤ m)) : errV m a n = 20 := by
  unfold errV; rw [fitsB_not h]; rfl
theorem mov_yes {m : Nat} {a c n : Int} (h1 : 0 ≤ a) (h2 : 0 ≤ n) (h3 : a + n ≤ m) (h4 : 0 ≤ c) (h5 : c + n ≤ m) : err2V m a c n = 0 := err2V_yes (fitsB_of h1 h2 h3) (fitsB_of h4 h2 h5)
theorem mov_no {m : Nat} {a c n : Int} (h : ¬ (0 ≤ a ∧ 0 ≤ n ∧ a + n ≤ m)) : err2V m a c n = 20 := err2V_no (by rw [fitsB_not h]; rfl)
theorem mov_no2 {m : Nat} {a c n : Int} (h : ¬ (0 ≤ c ∧ 0 ≤ n ∧ c + n ≤ m)) : err2V m a c n = 20 := err2V_no (by rw [fitsB_not h]; simp)


set_option maxRecDepth 100000 in
set_option maxHeartbeats 2000000 in
theorem walk (a0 a1 a2 a3 : Int) (w : World) (w0 : -9223372036854775808 ≤ a0 ∧ a0 ≤ 9223372036854775807) (w1 : -9223372036854775808 ≤ a1 ∧ a1 ≤ 9223372036854775807)
    (w2 : -9223372036854775808 ≤ a2 ∧ a2 ≤ 9223372036854775807) (w3 : 0 ≤ a3 ∧ a3 ≤ 18446744073709551615) :
    Calls Try.prog 6 #[.int .i64 a0, .int .i64 a1, .int .i64 a2, .int .u64 a3] w fun e w' => e = .returned (.bool true) ∧ Below w.heap.size w w' := by
  obtain ⟨b0, b1⟩ := w0
  obtain ⟨b2, b3⟩ := w1
  obtain ⟨b4, b5⟩ := w2
  obtain ⟨b6, b7⟩ := w3
  go_enter Try.func6, Try.ntmps6
  go_wp2_with fail
  refine (awake_any _).mono ?_
  rintro e x1 ⟨rfl, hb1⟩
  go_wp2_with fail
  refine (pick_nat _ 40 _ b0 b1 (by decide) (by decide)).mono ?_
  rintro e x2 ⟨k, hk, rfl, rfl⟩
  go_wp2_with fail
  rw [show (1 : Int) + (k : Int) = ((k + 1 : Nat) : Int) from by omega]
  refine (new_any (k + 1) _ (by omega) (by omega)).mono ?_
  rintro e x2 ⟨p, b, rfl, h1, hp, hb, hb2⟩
  have hB2 : Below w.heap.size w x2 := hb1.trans (hb2.mono hb1.size)
  have l2 : w.heap.size ≤ b := Nat.le_trans hb1.size hb
  clear hb1 hb2 hp hb
  have hll : (List.replicate (k + 1) (0 : Int)).length = k + 1 := List.length_replicate ..
  by_cases g0 : 0 ≤ a1
  · have d0 : decide (0 ≤ a1) = true := decide_eq_true g0
    by_cases g1 : a1 < (k : Int) + 1
    · have d1 : decide (a1 < (k : Int) + 1) = true := decide_eq_true g1
      have EL : Hid (errV (List.replicate (k + 1) (0 : Int)).length a1 1 = 0) := by rw [hll]; exact err_yes g0 (by decide) (by omega)
      have d2 : decide (a1 ≤ (k : Int) + 1) = true := decide_eq_true (by omega)
      by_cases g2 : 0 ≤ a2
      · have d3 : decide (0 ≤ a2) = true := decide_eq_true g2
        by_cases g3 : a2 ≤ (k : Int) + 1 - a1
        · have d4 : decide (a2 ≤ (k : Int) + 1 - a1) = true := decide_eq_true g3
          have EF : Hid (errV (List.replicate (k + 1) (0 : Int)).length a1 a2 = 0) := by rw [hll]; exact err_yes g0 g2 (by omega)
          have M1 : Hid (err2V (k + 1) a1 0 a2 = 0) := mov_yes g0 g2 (by omega) (by decide) (by omega)
          have M2 : Hid (err2V (k + 1) 0 a1 a2 = 0) := mov_yes (by decide) g2 (by omega) g0 (by omega)
          clear hll
          go_wp2_with fail
          refine (load_any _ _ h1 b2 b3).mono ?_
          rw [load_nought, EL.out]
          rintro e x3 ⟨rfl, rfl⟩
          go_wp2_with fail
          refine (fill_any _ _ _ _ h1 b2 b3 b4 b5 ⟨b6, b7⟩).mono ?_
          rw [EF.out]
          rintro e x3 ⟨rfl, h2, hc2⟩
          go_wp2_with fail
          refine (move_any _ _ _ _ h2 b2 b3 (by decide) (by decide) b4 b5).mono ?_
          rw [show (fillV (List.replicate (k + 1) 0) a1 a2 a3).length = k + 1 from (fill_len _ _ _ _).trans (List.length_replicate ..), M1.out]
          rintro e x4 ⟨rfl, h3, hc3⟩
          go_wp2_with fail
          refine (move_any _ _ _ _ h3 (by decide) (by decide) b2 b3 b4 b5).mono ?_
          rw [show (moveV (fillV (List.replicate (k + 1) 0) a1 a2 a3) a1 0 a2).length = k + 1 from (move_len _ _ _ _).trans ((fill_len _ _ _ _).trans (List.length_replicate ..)), M2.out]
          rintro e x5 ⟨rfl, h4, hc4⟩
          have hS : ∀ k, k = b → w.heap.size ≤ k := fun k e => by omega
          have hB5 : Below w.heap.size w x5 := ((hB2.trans (hc2.below hS hB2.size)).trans (hc3.below hS (Nat.le_trans hB2.size hc2.size))).trans (hc4.below hS (Nat.le_trans hB2.size (Nat.le_trans hc2.size hc3.size)))
          clear h1 h2 h3 h4 hc2 hc3 hc4 hS
          go_wp2_with fail
          refine (new_no _ _ (.inr (by omega))).mono ?_
          rintro e x6 ⟨rfl, rfl⟩
          go_wp2_with fail
          refine (new_no _ _ (.inl (by omega))).mono ?_
          rintro e x6 ⟨rfl, rfl⟩
          go_wp2
          go_ret
          exact ⟨rfl, hB5⟩
        · have d4 : decide (a2 ≤ (k : Int) + 1 - a1) = false := decide_eq_false g3
          have EF : Hid (errV (List.replicate (k + 1) (0 : Int)).length a1 a2 = 20) := by rw [hll]; exact err_no (by omega)
          have M1 : Hid (err2V (k + 1) a1 0 a2 = 20) := mov_no (by omega)
          have M2 : Hid (err2V (k + 1) 0 a1 a2 = 20) := mov_no2 (by omega)
          clear hll
          go_wp2_with fail
          refine (load_any _ _ h1 b2 b3).mono ?_
          rw [load_nought, EL.out]
          rintro e x3 ⟨rfl, rfl⟩
          go_wp2_with fail
          refine (fill_any _ _ _ _ h1 b2 b3 b4 b5 ⟨b6, b7⟩).mono ?_
          rw [EF.out]
          rintro e x3 ⟨rfl, h2, hc2⟩
          go_wp2_with fail
          refine (move_any _ _ _ _ h2 b2 b3 (by decide) (by decide) b4 b5).mono ?_
          rw [show (fillV (List.replicate (k + 1) 0) a1 a2 a3).length = k + 1 from (fill_len _ _ _ _).trans (List.length_replicate ..), M1.out]
          rintro e x4 ⟨rfl, h3, hc3⟩
          go_wp2_with fail
          refine (move_any _ _ _ _ h3 (by decide) (by decide) b2 b3 b4 b5).mono ?_
          rw [show (moveV (fillV (List.replicate (k + 1) 0) a1 a2 a3) a1 0 a2).length = k + 1 from (move_len _ _ _ _).trans ((fill_len _ _ _ _).trans (List.length_replicate ..)), M2.out]
          rintro e x5 ⟨rfl, h4, hc4⟩
          have hS : ∀ k, k = b → w.heap.size ≤ k := fun k e => by omega
          have hB5 : Below w.heap.size w x5 := ((hB2.trans (hc2.below hS hB2.size)).trans (hc3.below hS (Nat.le_trans hB2.size hc2.size))).trans (hc4.below hS (Nat.le_trans hB2.size (Nat.le_trans hc2.size hc3.size)))
          clear h1 h2 h3 h4 hc2 hc3 hc4 hS
          go_wp2_with fail
          refine (new_no _ _ (.inr (by omega))).mono ?_
          rintro e x6 ⟨rfl, rfl⟩
          go_wp2_with fail
          refine (new_no _ _ (.inl (by omega))).mono ?_
          rintro e x6 ⟨rfl, rfl⟩
          go_wp2
          go_ret
          exact ⟨rfl, hB5⟩
      · have d3 : decide (0 ≤ a2) = false := decide_eq_false g2
        have EF : Hid (errV (List.replicate (k + 1) (0 : Int)).length a1 a2 = 20) := by rw [hll]; exact err_no (by omega)
        have M1 : Hid (err2V (k + 1) a1 0 a2 = 20) := mov_no (by omega)
        have M2 : Hid (err2V (k + 1) 0 a1 a2 = 20) := mov_no2 (by omega)
        clear hll
        go_wp2_with fail
        refine (load_any _ _ h1 b2 b3).mono ?_
        rw [load_nought, EL.out]
        rintro e x3 ⟨rfl, rfl⟩
        go_wp2_with fail
        refine (fill_any _ _ _ _ h1 b2 b3 b4 b5 ⟨b6, b7⟩).mono ?_
        rw [EF.out]
        rintro e x3 ⟨rfl, h2, hc2⟩
        go_wp2_with fail
        refine (move_any _ _ _ _ h2 b2 b3 (by decide) (by decide) b4 b5).mono ?_
        rw [show (fillV (List.replicate (k + 1) 0) a1 a2 a3).length = k + 1 from (fill_len _ _ _ _).trans (List.length_replicate ..), M1.out]
        rintro e x4 ⟨rfl, h3, hc3⟩
        go_wp2_with fail
        refine (move_any _ _ _ _ h3 (by decide) (by decide) b2 b3 b4 b5).mono ?_
        rw [show (moveV (fillV (List.replicate (k + 1) 0) a1 a2 a3) a1 0 a2).length = k + 1 from (move_len _ _ _ _).trans ((fill_len _ _ _ _).trans (List.length_replicate ..)), M2.out]
        rintro e x5 ⟨rfl, h4, hc4⟩
        have hS : ∀ k, k = b → w.heap.size ≤ k := fun k e => by omega
        have hB5 : Below w.heap.size w x5 := ((hB2.trans (hc2.below hS hB2.size)).trans (hc3.below hS (Nat.le_trans hB2.size hc2.size))).trans (hc4.below hS (Nat.le_trans hB2.size (Nat.le_trans hc2.size hc3.size)))
        clear h1 h2 h3 h4 hc2 hc3 hc4 hS
        go_wp2_with fail
        refine (new_no _ _ (.inr (by omega))).mono ?_
        rintro e x6 ⟨rfl, rfl⟩
        go_wp2_with fail
        refine (new_no _ _ (.inl (by omega))).mono ?_
        rintro e x6 ⟨rfl, rfl⟩
        go_wp2
        go_ret
        exact ⟨rfl, hB5⟩
    · have d1 : decide (a1 < (k : Int) + 1) = false := decide_eq_false g1
      have EL : Hid (errV (List.replicate (k + 1) (0 : Int)).length a1 1 = 20) := by rw [hll]; exact err_no (by omega)
      by_cases g2 : 0 ≤ a2
      · have d3 : decide (0 ≤ a2) = true := decide_eq_true g2
        by_cases g4 : a1 ≤ (k : Int) + 1
        · have d2 : decide (a1 ≤ (k : Int) + 1) = true := decide_eq_true g4
          by_cases g3 : a2 ≤ (k : Int) + 1 - a1
          · have d4 : decide (a2 ≤ (k : Int) + 1 - a1) = true := decide_eq_true g3
            have EF : Hid (errV (List.replicate (k + 1) (0 : Int)).length a1 a2 = 0) := by rw [hll]; exact err_yes g0 g2 (by omega)
            have M1 : Hid (err2V (k + 1) a1 0 a2 = 0) := mov_yes g0 g2 (by omega) (by decide) (by omega)
            have M2 : Hid (err2V (k + 1) 0 a1 a2 = 0) := mov_yes (by decide) g2 (by omega) g0 (by omega)
            clear hll
            go_wp2_with fail
            refine (load_any _ _ h1 b2 b3).mono ?_
            rw [load_nought, EL.out]
            rintro e x3 ⟨rfl, rfl⟩
            go_wp2_with fail
            refine (fill_any _ _ _ _ h1 b2 b3 b4 b5 ⟨b6, b7⟩).mono ?_
            rw [EF.out]
            rintro e x3 ⟨rfl, h2, hc2⟩
            go_wp2_with fail
            refine (move_any _ _ _ _ h2 b2 b3 (by decide) (by decide) b4 b5).mono ?_
            rw [show (fillV (List.replicate (k + 1) 0) a1 a2 a3).length = k + 1 from (fill_len _ _ _ _).trans (List.length_replicate ..), M1.out]
            rintro e x4 ⟨rfl, h3, hc3⟩
            go_wp2_with fail
            refine (move_any _ _ _ _ h3 (by decide) (by decide) b2 b3 b4 b5).mono ?_
            rw [show (moveV (fillV (List.replicate (k + 1) 0) a1 a2 a3) a1 0 a2).length = k + 1 from (move_len _ _ _ _).trans ((fill_len _ _ _ _).trans (List.length_replicate ..)), M2.out]
            rintro e x5 ⟨rfl, h4, hc4⟩
            have hS : ∀ k, k = b → w.heap.size ≤ k := fun k e => by omega
            have hB5 : Below w.heap.size w x5 := ((hB2.trans (hc2.below hS hB2.size)).trans (hc3.below hS (Nat.le_trans hB2.size hc2.size))).trans (hc4.below hS (Nat.le_trans hB2.size (Nat.le_trans hc2.size hc3.size)))
            clear h1 h2 h3 h4 hc2 hc3 hc4 hS
            go_wp2_with fail
            refine (new_no _ _ (.inr (by omega))).mono ?_
            rintro e x6 ⟨rfl, rfl⟩
            go_wp2_with fail
            refine (new_no _ _ (.inl (by omega))).mono ?_
            rintro e x6 ⟨rfl, rfl⟩
            go_wp2
            go_ret
            exact ⟨rfl, hB5⟩
          · have d4 : decide (a2 ≤ (k : Int) + 1 - a1) = false := decide_eq_false g3
            have EF : Hid (errV (List.replicate (k + 1) (0 : Int)).length a1 a2 = 20) := by rw [hll]; exact err_no (by omega)
            have M1 : Hid (err2V (k + 1) a1 0 a2 = 20) := mov_no (by omega)
            have M2 : Hid (err2V (k + 1) 0 a1 a2 = 20) := mov_no2 (by omega)
            clear hll
            go_wp2_with fail
            refine (load_any _ _ h1 b2 b3).mono ?_
            rw [load_nought, EL.out]
            rintro e x3 ⟨rfl, rfl⟩
            go_wp2_with fail
            refine (fill_any _ _ _ _ h1 b2 b3 b4 b5 ⟨b6, b7⟩).mono ?_
            rw [EF.out]
            rintro e x3 ⟨rfl, h2, hc2⟩
            go_wp2_with fail
            refine (move_any _ _ _ _ h2 b2 b3 (by decide) (by decide) b4 b5).mono ?_
            rw [show (fillV (List.replicate (k + 1) 0) a1 a2 a3).length = k + 1 from (fill_len _ _ _ _).trans (List.length_replicate ..), M1.out]
            rintro e x4 ⟨rfl, h3, hc3⟩
            go_wp2_with fail
            refine (move_any _ _ _ _ h3 (by decide) (by decide) b2 b3 b4 b5).mono ?_
            rw [show (moveV (fillV (List.replicate (k + 1) 0) a1 a2 a3) a1 0 a2).length = k + 1 from (move_len _ _ _ _).trans ((fill_len _ _ _ _).trans (List.length_replicate ..)), M2.out]
            rintro e x5 ⟨rfl, h4, hc4⟩
            have hS : ∀ k, k = b → w.heap.size ≤ k := fun k e => by omega
            have hB5 : Below w.heap.size w x5 := ((hB2.trans (hc2.below hS hB2.size)).trans (hc3.below hS (Nat.le_trans hB2.size hc2.size))).trans (hc4.below hS (Nat.le_trans hB2.size (Nat.le_trans hc2.size hc3.size)))
            clear h1 h2 h3 h4 hc2 hc3 hc4 hS
            go_wp2_with fail
            refine (new_no _ _ (.inr (by omega))).mono ?_
            rintro e x6 ⟨rfl, rfl⟩
            go_wp2_with fail
            refine (new_no _ _ (.inl (by omega))).mono ?_
            rintro e x6 ⟨rfl, rfl⟩
            go_wp2
            go_ret
            exact ⟨rfl, hB5⟩
        · have d2 : decide (a1 ≤ (k : Int) + 1) = false := decide_eq_false g4
          have EF : Hid (errV (List.replicate (k + 1) (0 : Int)).length a1 a2 = 20) := by rw [hll]; exact err_no (by omega)
          have M1 : Hid (err2V (k + 1) a1 0 a2 = 20) := mov_no (by omega)
          have M2 : Hid (err2V (k + 1) 0 a1 a2 = 20) := mov_no2 (by omega)
          clear hll
          go_wp2_with fail
          refine (load_any _ _ h1 b2 b3).mono ?_
          rw [load_nought, EL.out]
          rintro e x3 ⟨rfl, rfl⟩
          go_wp2_with fail
          refine (fill_any _ _ _ _ h1 b2 b3 b4 b5 ⟨b6, b7⟩).mono ?_
          rw [EF.out]
          rintro e x3 ⟨rfl, h2, hc2⟩
          go_wp2_with fail
          refine (move_any _ _ _ _ h2 b2 b3 (by decide) (by decide) b4 b5).mono ?_
          rw [show (fillV (List.replicate (k + 1) 0) a1 a2 a3).length = k + 1 from (fill_len _ _ _ _).trans (List.length_replicate ..), M1.out]
          rintro e x4 ⟨rfl, h3, hc3⟩
          go_wp2_with fail
          refine (move_any _ _ _ _ h3 (by decide) (by decide) b2 b3 b4 b5).mono ?_
          rw [show (moveV (fillV (List.replicate (k + 1) 0) a1 a2 a3) a1 0 a2).length = k + 1 from (move_len _ _ _ _).trans ((fill_len _ _ _ _).trans (List.length_replicate ..)), M2.out]
          rintro e x5 ⟨rfl, h4, hc4⟩
          have hS : ∀ k, k = b → w.heap.size ≤ k := fun k e => by omega
          have hB5 : Below w.heap.size w x5 := ((hB2.trans (hc2.below hS hB2.size)).trans (hc3.below hS (Nat.le_trans hB2.size hc2.size))).trans (hc4.below hS (Nat.le_trans hB2.size (Nat.le_trans hc2.size hc3.size)))
          clear h1 h2 h3 h4 hc2 hc3 hc4 hS
          go_wp2_with fail
          refine (new_no _ _ (.inr (by omega))).mono ?_
          rintro e x6 ⟨rfl, rfl⟩
          go_wp2_with fail
          refine (new_no _ _ (.inl (by omega))).mono ?_
          rintro e x6 ⟨rfl, rfl⟩
          go_wp2
          go_ret
          exact ⟨rfl, hB5⟩
      · have d3 : decide (0 ≤ a2) = false := decide_eq_false g2
        have EF : Hid (errV (List.replicate (k + 1) (0 : Int)).length a1 a2 = 20) := by rw [hll]; exact err_no (by omega)
        have M1 : Hid (err2V (k + 1) a1 0 a2 = 20) := mov_no (by omega)
        have M2 : Hid (err2V (k + 1) 0 a1 a2 = 20) := mov_no2 (by omega)
        clear hll
        go_wp2_with fail
        refine (load_any _ _ h1 b2 b3).mono ?_
        rw [load_nought, EL.out]
        rintro e x3 ⟨rfl, rfl⟩
        go_wp2_with fail
        refine (fill_any _ _ _ _ h1 b2 b3 b4 b5 ⟨b6, b7⟩).mono ?_
        rw [EF.out]
        rintro e x3 ⟨rfl, h2, hc2⟩
        go_wp2_with fail
        refine (move_any _ _ _ _ h2 b2 b3 (by decide) (by decide) b4 b5).mono ?_
        rw [show (fillV (List.replicate (k + 1) 0) a1 a2 a3).length = k + 1 from (fill_len _ _ _ _).trans (List.length_replicate ..), M1.out]
        rintro e x4 ⟨rfl, h3, hc3⟩
        go_wp2_with fail
        refine (move_any _ _ _ _ h3 (by decide) (by decide) b2 b3 b4 b5).mono ?_
        rw [show (moveV (fillV (List.replicate (k + 1) 0) a1 a2 a3) a1 0 a2).length = k + 1 from (move_len _ _ _ _).trans ((fill_len _ _ _ _).trans (List.length_replicate ..)), M2.out]
        rintro e x5 ⟨rfl, h4, hc4⟩
        have hS : ∀ k, k = b → w.heap.size ≤ k := fun k e => by omega
        have hB5 : Below w.heap.size w x5 := ((hB2.trans (hc2.below hS hB2.size)).trans (hc3.below hS (Nat.le_trans hB2.size hc2.size))).trans (hc4.below hS (Nat.le_trans hB2.size (Nat.le_trans hc2.size hc3.size)))
        clear h1 h2 h3 h4 hc2 hc3 hc4 hS
        go_wp2_with fail
        refine (new_no _ _ (.inr (by omega))).mono ?_
        rintro e x6 ⟨rfl, rfl⟩
        go_wp2_with fail
        refine (new_no _ _ (.inl (by omega))).mono ?_
        rintro e x6 ⟨rfl, rfl⟩
        go_wp2
        go_ret
        exact ⟨rfl, hB5⟩
  · have d0 : decide (0 ≤ a1) = false := decide_eq_false g0
    have EL : Hid (errV (List.replicate (k + 1) (0 : Int)).length a1 1 = 20) := by rw [hll]; exact err_no (by omega)
    have EF : Hid (errV (List.replicate (k + 1) (0 : Int)).length a1 a2 = 20) := by rw [hll]; exact err_no (by omega)
    have M1 : Hid (err2V (k + 1) a1 0 a2 = 20) := mov_no (by omega)
    have M2 : Hid (err2V (k + 1) 0 a1 a2 = 20) := mov_no2 (by omega)
    clear hll
    go_wp2_with fail
    refine (load_any _ _ h1 b2 b3).mono ?_
    rw [load_nought, EL.out]
    rintro e x3 ⟨rfl, rfl⟩
    go_wp2_with fail
    refine (fill_any _ _ _ _ h1 b2 b3 b4 b5 ⟨b6, b7⟩).mono ?_
    rw [EF.out]
    rintro e x3 ⟨rfl, h2, hc2⟩
    go_wp2_with fail
    refine (move_any _ _ _ _ h2 b2 b3 (by decide) (by decide) b4 b5).mono ?_
    rw [show (fillV (List.replicate (k + 1) 0) a1 a2 a3).length = k + 1 from (fill_len _ _ _ _).trans (List.length_replicate ..), M1.out]
    rintro e x4 ⟨rfl, h3, hc3⟩
    go_wp2_with fail
    refine (move_any _ _ _ _ h3 (by decide) (by decide) b2 b3 b4 b5).mono ?_
    rw [show (moveV (fillV (List.replicate (k + 1) 0) a1 a2 a3) a1 0 a2).length = k + 1 from (move_len _ _ _ _).trans ((fill_len _ _ _ _).trans (List.length_replicate ..)), M2.out]
    rintro e x5 ⟨rfl, h4, hc4⟩
    have hS : ∀ k, k = b → w.heap.size ≤ k := fun k e => by omega
    have hB5 : Below w.heap.size w x5 := ((hB2.trans (hc2.below hS hB2.size)).trans (hc3.below hS (Nat.le_trans hB2.size hc2.size))).trans (hc4.below hS (Nat.le_trans hB2.size (Nat.le_trans hc2.size hc3.size)))
    clear h1 h2 h3 h4 hc2 hc3 hc4 hS
    go_wp2_with fail
    refine (new_no _ _ (.inr (by omega))).mono ?_
    rintro e x6 ⟨rfl, rfl⟩
    go_wp2_with fail
    refine (new_no _ _ (.inl (by omega))).mono ?_
    rintro e x6 ⟨rfl, rfl⟩
    go_wp2
    go_ret
    exact ⟨rfl, hB5⟩

set_option maxRecDepth 100000 in
theorem lifted (os : Os) (started : os.Started) (H : Type) (enc : TypeId × Value → H) :
    ReturnsInHanded {} Try.checked os 6 .any (Rows.arenaEndsSpec.pre6 enc Try.prog Try.f6 Rows.arenaEndsRow.domain false) (Rows.arenaEndsSpec.post enc Try.prog Try.f6 false true false false) := by
  refine returnsInHanded_of_change (C := Try.checked) own started (by kernel_rfl) Try.func6
    (ChangeSpec.witness6 (enc := enc) (C := Try.checked) false ⟨#[], #[.int .i64 0, .int .i64 0, .int .i64 0, .int .u64 0], []⟩ 8 (by kernel_rfl) (by kernel_rfl) (by kernel_rfl) (by kernel_rfl)) ?_
  intro W base args ds gs before hval0 hW hcnd _
  have hval : ∀ (j : Nat) t v, Try.f6.params[j]? = some t → args[j]? = some v → Value.okWide Try.prog W .any base t v := hval0
  have hW' := hW
  obtain ⟨p, q, hA0, hV, rfl, hfz, hnd⟩ := hW
  have hA : DataW.TrodAll enc Try.prog W 0 (fun _ => true) true Try.f6.params.toList args.toList ds p := hA0
  rw [Try.params6] at hA hval
  obtain ⟨v0, vs0, d0, ds0, p0, q0, hargs, rfl, rfl, h0, r0⟩ := trodAll_cons hA
  obtain ⟨v1, vs1, d1, ds1, p1, q1, rfl, rfl, rfl, h1, r1⟩ := trodAll_cons r0
  obtain ⟨v2, vs2, d2, ds2, p2, q2, rfl, rfl, rfl, h2, r2⟩ := trodAll_cons r1
  obtain ⟨v3, vs3, d3, ds3, p3, q3, rfl, rfl, rfl, h3, r3⟩ := trodAll_cons r2
  obtain ⟨rfl, rfl, rfl⟩ := trodAll_nil r3
  obtain rfl : args = #[v0, v1, v2, v3] := by cases args; simp_all
  obtain ⟨rfl, rfl⟩ := trodVars_none hV
  obtain ⟨a0, rfl, rfl, rfl, w0⟩ := open_int Try.underlying3 (hval 0 3 v0 rfl rfl) h0
  obtain ⟨a1, rfl, rfl, rfl, w1⟩ := open_int Try.underlying3 (hval 1 3 v1 rfl rfl) h1
  obtain ⟨a2, rfl, rfl, rfl, w2⟩ := open_int Try.underlying3 (hval 2 3 v2 rfl rfl) h2
  obtain ⟨a3, rfl, rfl, rfl, w3⟩ := open_int Try.underlying32 (hval 3 32 v3 rfl rfl) h3
  clear hA0 hval0
  refine (walk a0 a1 a2 a3 W (bounds_i64 w0) (bounds_i64 w1) (bounds_i64 w2) (bounds_u64 w3)).mono fun e W' ⟨he, bel⟩ => ?_
  subst he
  exact ⟨_, rfl, _, _, _, [], _, [], hW', trodAll_mk1 (shut_bool Try.underlying4 _), (trodAll_cons_mk (shut_int Try.underlying3 w0) (trodAll_cons_mk (shut_int Try.underlying3 w1) (trodAll_cons_mk (shut_int Try.underlying3 w2) (trodAll_cons_mk (shut_int Try.underlying32 w3) trodAll_mk0)))), rfl, bel.frame _, fun h => by cases h⟩

theorem over : Rows.arenaEndsRow.holds Try.pinned (OpenSpec.ofChange Rows.arenaEndsSpec) :=
  OpenClaim.holds_of_wide 6 Try.f6 rfl rfl rfl rfl rfl rfl rfl ⟨rfl, rfl, rfl, rfl, rfl⟩ rfl rfl rfl rfl rfl (by kernel_rfl) Try.func6 (by kernel_rfl)
    (of_decide_eq_true (by kernel_rfl)) (by unfold Func.isWrapper; first | (rw [if_pos (by decide +kernel)]; kernel_rfl) | (rw [if_neg (by decide +kernel)]; exact ⟨rfl, rfl⟩))
    (fun os started H enc _ => lifted os started H enc)

theorem proved : Rows.ArenaEndsSaid := over
#print axioms proved

end Go.Proofs.Ytolfnjmmnaiecaa.arenaEnds
