/- For every three numbers and every slice of numbers: what is taken of a right space lies in it, behind all that was taken ahead, and Used grows by just the rounded number: the law SpaceTakes returns true and its arguments read as they did. No condition. -/
import Derived.Test.YtdaopelbijkdiaaSpaceLaw
import Derived.Test.YtdaopelbijkdiaaOpen
namespace Go.Proofs.Ytdaopelbijkdiaa.spaceTakes
open Go.ChangeShapes Go.WideShapes Go.ChangeAt Go.RowKit
set_option linter.unusedVariables false
set_option linter.unusedSimpArgs false

set_option maxRecDepth 100000 in
set_option maxHeartbeats 4000000 in
theorem walk (a0x0 a0x1 a0x2 : Int) (a1 : Option Addr) (len1 cap1 : Nat) (z1 : List Int) (w : World) (w0 : -9223372036854775808 ≤ a0x0 ∧ a0x0 ≤ 9223372036854775807) (w1 : -9223372036854775808 ≤ a0x1 ∧ a0x1 ≤ 9223372036854775807) (w2 : -9223372036854775808 ≤ a0x2 ∧ a0x2 ≤ 9223372036854775807)
    (w3 : IsRow .i64 w a1 len1 cap1 z1) :
    Calls Try.prog 3 #[.agg #[.int .i64 a0x0, .int .i64 a0x1, .int .i64 a0x2], .slice a1 len1 cap1] w fun e w' => e = .returned (.bool true) ∧ Below w.heap.size w w' := by
  go_enter Try.func3, Try.ntmps3
  go_wp2_with fail
  have h0 : At3 w (w.alloc (.cells #[.int .i64 a0x0, .int .i64 a0x1, .int .i64 a0x2] 22)) w.heap.size (.int .i64 a0x0) (.int .i64 a0x1) (.int .i64 a0x2) :=
    ⟨by simp, by simp, by simp, by simp, by simp, (Below.refl _ w).alloc (Nat.le_refl _) _⟩
  refine (awake_yes _).mono ?_
  rintro e x ⟨rfl, hb⟩
  replace h0 := keepSp h0 hb
  clear hb
  obtain ⟨c0, c1, c2, s1, _, hB1⟩ := h0
  go_wp2_with fail
  refine (fit_nat _ _ _ _ w0 w1 w2).mono ?_
  rintro e x2 ⟨b, z, u, hb, hz, hu, rfl, hB2⟩
  have hB3 := hB1.trans (hB2.mono s1)
  have s3 := hB3.size
  clear c0 c1 c2 hB1 hB2 s1
  go_wp2_with fail
  refine (empty_ok b z (b + u) ⟨by omega, by omega, by omega, by omega⟩ _).mono ?_
  rintro e x3 ⟨rfl, hB4⟩
  replace hB3 := hB3.trans (hB4.mono s3)
  replace s3 := hB3.size
  clear hB4 hu
  obtain ⟨q, hq⟩ : ∃ q, x3.heap.size = q := ⟨_, rfl⟩
  have hS : BlkIs (x3.alloc (.cells #[.int .i64 b, .int .i64 z, .int .i64 b] 26)) q #[.int .i64 b, .int .i64 z, .int .i64 b] 26 := by
    rw [← hq]; exact BlkIs.new _ _ _
  have hB := hB3.alloc s3 (.cells #[.int .i64 b, .int .i64 z, .int .i64 b] 26)
  have hq0 : w.heap.size ≤ q := by omega
  go_wp2_with fail
  obtain ⟨y, hy⟩ : ∃ y, x3.alloc (.cells #[.int .i64 b, .int .i64 z, .int .i64 b] 26) = y := ⟨_, rfl⟩
  rw [hy] at hS hB
  rw [hy]
  clear hy hq hB3 s3
  obtain ⟨⟨c0, c1, c2⟩, _⟩ := blk3 hS
  obtain ⟨hlen, hrow⟩ := w3.read
  have Hrow := Lib.hid hrow
  clear w3 hrow
  go_wp2_with fail
  go_loopw [7, 8] (fun ev i wr => ∃ k t : Nat, k ≤ len1 ∧ k ≤ 30 ∧ b ≤ t ∧ t ≤ b + z ∧ ev = .int .i64 t ∧ i = .int .i64 k ∧ BlkIs wr q #[.int .i64 b, .int .i64 z, .int .i64 t] 26 ∧ Below w.heap.size w wr) (fun _ i _ => 30 - (intOf i).toNat)
  case atStart => exact ⟨0, b, Nat.zero_le _, Nat.zero_le _, Nat.le_refl _, by omega, rfl, rfl, hS, hB⟩
  case round =>
    obtain ⟨k, t, hk, hk30, ht0, ht1, rfl, rfl, hS, hB⟩ := hrel
    have ok : SpOk b z t := ⟨by omega, by omega, ht0, ht1⟩
    by_cases hin : k < len1 ∧ k < 30
    · have hk1 : (k : Int) < (len1 : Int) := by omega
      have hk2 : (k : Int) < 30 := by omega
      obtain ⟨bl, ol, x, rfl, hbl, hcl, x0, x1⟩ := Hrow.out k hin.1
      have hcl1 : wr.cell? ⟨bl, ol + k, none⟩ = some (.int .i64 x) := (hB.cell (p := ⟨bl, ol + k, none⟩) hbl).trans hcl
      clear hcl
      have i1 : decide (k < len1) = true := decide_eq_true hin.1
      have i2 : decide ((k : Int) < 30) = true := decide_eq_true hk2
      go_wp2_with fail
      refine (pick_nat x 40 _ x0 x1 (by omega) (by omega)).mono ?_
      rintro e V ⟨n, hn, rfl, rfl⟩
      obtain ⟨m, hm⟩ : ∃ m, 1 + n = m := ⟨_, rfl⟩
      have hmi : (1 : Int) + (n : Int) = (m : Int) := by omega
      have hR := round_any (m : Int) (by omega) (by omega)
      rw [roundN_of (by omega) (by omega), okN_of (by omega) (by omega)] at hR
      have hr0 := Cls.rd_ge (m := m) (by omega)
      have hr1 := Cls.rd_le (m := m) (by omega)
      have hTy := take_yes b z t m ok (by omega) (by omega)
      have hTn := take_full b z t m ok (by omega) (by omega)
      have hU := used_ok b z t ok
      have hL := left_ok b z t ok
      obtain ⟨us, hus⟩ : ∃ us, t - b = us := ⟨_, rfl⟩
      obtain ⟨lf, hlf⟩ : ∃ lf, b + z - t = lf := ⟨_, rfl⟩
      rw [hus] at hU
      rw [hlf] at hL
      generalize Cls.rd m = r at *
      have hm41 : 1 ≤ m ∧ m < 41 := by omega
      have HR := Lib.hid hR
      have HU := Lib.hid hU
      have HL := Lib.hid hL
      have HTy := Lib.hid hTy
      have HTn := Lib.hid hTn
      have Hus := Lib.hid hus
      have Hlf := Lib.hid hlf
      have hws : IntKind.i64.wrap ((us : Int) + (lf : Int)) = (z : Int) := (IntWalk.i64_in _ (by omega)).trans (by omega)
      clear hR hU hL hTy hTn hus hlf hm i1 i2 hcl1 hbl x0 x1
      go_wp2_with fail
      refine (HR.out _).mono ?_
      rintro e V ⟨rfl, hb2⟩
      replace hS := hS.below hb2 hS.lt
      replace hB := hB.trans (hb2.mono hB.size)
      clear hb2 c0 c1 c2
      obtain ⟨⟨c0, c1, c2⟩, _⟩ := blk3 hS
      go_wp2_with fail
      refine (HU.out _).mono ?_
      rintro e V1 ⟨rfl, hb2⟩
      replace hS := hS.below hb2 hS.lt
      replace hB := hB.trans (hb2.mono hB.size)
      clear hb2 c0 c1 c2
      obtain ⟨⟨c0, c1, c2⟩, _⟩ := blk3 hS
      go_wp2_with fail
      by_cases hfit : t + r ≤ b + z
      · have hT := HTy.out hfit
        obtain ⟨t', ht'⟩ : ∃ t', t + r = t' := ⟨_, rfl⟩
        rw [ht'] at hT
        have hle : decide ((r : Int) ≤ (lf : Int)) = true := decide_eq_true (by have := Hlf.out; omega)
        have hle' : decide (r ≤ lf) = true := decide_eq_true (by have := Hlf.out; omega)
        have Ht' := Lib.hid ht'
        have Hfit := Lib.hid hfit
        clear ht' hfit
        refine (hT _).mono ?_
        rintro e V2 ⟨rfl, hb2⟩
        have ok' : SpOk b z t' := ⟨by omega, by omega, by have := Ht'.out; omega, by have := Ht'.out; have := Hfit.out; omega⟩
        have hU2 := used_ok b z t' ok'
        rw [show ((t' - b : Nat) : Int) = (us : Int) + (r : Int) from by have := Ht'.out; have := Hus.out; omega] at hU2
        have hH1 := has_ok b z t' t ok' (by omega)
        rw [decide_eq_true (show b ≤ t ∧ t < t' from ⟨ht0, by have := Ht'.out; omega⟩)] at hH1
        have hH2 := has_ok b z t' (t + r - 1) ok' (by omega)
        rw [decide_eq_true (show b ≤ t + r - 1 ∧ t + r - 1 < t' from ⟨by omega, by have := Ht'.out; omega⟩), show ((t + r - 1 : Nat) : Int) = (t : Int) + (r : Int) - 1 from by omega] at hH2
        have hH3 := has_ok b z t' (t + r) ok' (by omega)
        rw [decide_eq_false (show ¬ (b ≤ t + r ∧ t + r < t') from by have := Ht'.out; omega), show ((t + r : Nat) : Int) = (t : Int) + (r : Int) from by omega] at hH3
        have hH4 := has_ok b z t t ok (by omega)
        rw [decide_eq_false (show ¬ (b ≤ t ∧ t < t) from by omega)] at hH4
        have HU2 := Lib.hid hU2
        have HH1 := Lib.hid hH1
        have HH2 := Lib.hid hH2
        have HH3 := Lib.hid hH3
        have HH4 := Lib.hid hH4
        have hub : us ≤ 300 := by have := Hus.out; omega
        clear hU2 hH1 hH2 hH3 hH4
        replace hS := hS.below hb2 hS.lt
        replace hB := hB.trans (hb2.mono hB.size)
        have l1 := hS.lt
        have l3 := hB.size
        replace hS := hS.alloc (.cells #[.int .i64 b, .int .i64 z, .int .i64 t'] 26)
        replace hB := hB.alloc hB.size (.cells #[.int .i64 b, .int .i64 z, .int .i64 t'] 26)
        have hN := BlkIs.new V2 #[.int .i64 b, .int .i64 z, .int .i64 t'] 26
        obtain ⟨n1, hn1⟩ : ∃ n1, V2.heap.size = n1 := ⟨_, rfl⟩
        obtain ⟨Y, hY⟩ : ∃ Y, V2.alloc (.cells #[.int .i64 b, .int .i64 z, .int .i64 t'] 26) = Y := ⟨_, rfl⟩
        rw [hn1] at hN
        rw [hY] at hS hN hB
        have Hn := Lib.hid hn1
        have HY := Lib.hid hY
        have m1 : ¬ q = n1 := by omega
        have hSY := hS
        have hBY := hB
        clear hn1 hY hb2 c0 c1 c2 l1 l3
        have h1 := At3.of hS
        have h2 := At3.of hN
        obtain ⟨c0, c1, c2, _, l1, _⟩ := h1
        obtain ⟨d0, d1, d2, _, l2, _⟩ := h2
        go_wp2_with fail
        rw [HY.out]
        try rw [Hn.out]
        refine wp_region_held_drew (S := fun x => At3 Y x q (.int .i64 b) (.int .i64 z) (.int .i64 t) ∧ At3 Y x n1 (.int .i64 b) (.int .i64 z) (.int .i64 t')) (by kernel_rfl)
          ⟨⟨c0, c1, c2, Nat.le_refl _, l1, (Below.refl _ Y).drew⟩, d0, d1, d2, Nat.le_refl _, l2, (Below.refl _ Y).drew⟩ (fun hS => ?_)
        clear c0 c1 c2 d0 d1 d2
        first
        | (refine wpAnyH_take (i := 0) (v := ?_) rfl (by kernel_rfl) (by kernel_rfl) (by kernel_rfl) (fun _ _ _ h => h) (Or.inl ⟨by rfl, ?_⟩) hS ?_; rotate_left; (· (intro y hy; (try dsimp only at hy); go_simp; try with_reducible rfl)); try simp only [Act.put, List.setIfInBounds_toArray, List.set_cons_zero, List.set_cons_succ, List.getElem_toArray, List.getElem_cons_zero, List.getElem_cons_succ])
        | (refine wpAnyH_take (i := 0) (v := undef) rfl (by kernel_rfl) (by kernel_rfl) (by kernel_rfl) (fun _ _ _ h => h) (Or.inr ⟨by rfl, rfl⟩) hS ?_; try simp only [Act.put, List.setIfInBounds_toArray, List.set_cons_zero, List.set_cons_succ, List.getElem_toArray, List.getElem_cons_zero, List.getElem_cons_succ])
        first
        | (refine wpAnyH_take (i := 1) (v := ?_) rfl (by kernel_rfl) (by kernel_rfl) (by kernel_rfl) (fun _ _ _ h => h) (Or.inl ⟨by rfl, ?_⟩) hS ?_; rotate_left; (· (intro y hy; (try dsimp only at hy); go_simp; try with_reducible rfl)); try simp only [Act.put, List.setIfInBounds_toArray, List.set_cons_zero, List.set_cons_succ, List.getElem_toArray, List.getElem_cons_zero, List.getElem_cons_succ])
        | (refine wpAnyH_take (i := 1) (v := undef) rfl (by kernel_rfl) (by kernel_rfl) (by kernel_rfl) (fun _ _ _ h => h) (Or.inr ⟨by rfl, rfl⟩) hS ?_; try simp only [Act.put, List.setIfInBounds_toArray, List.set_cons_zero, List.set_cons_succ, List.getElem_toArray, List.getElem_cons_zero, List.getElem_cons_succ])
        first
        | (refine wpAnyH_take (i := 2) (v := ?_) rfl (by kernel_rfl) (by kernel_rfl) (by kernel_rfl) (fun _ _ _ h => h) (Or.inl ⟨by rfl, ?_⟩) hS ?_; rotate_left; (· (intro y hy; (try dsimp only at hy); go_simp; try with_reducible rfl)); try simp only [Act.put, List.setIfInBounds_toArray, List.set_cons_zero, List.set_cons_succ, List.getElem_toArray, List.getElem_cons_zero, List.getElem_cons_succ])
        | (refine wpAnyH_take (i := 2) (v := undef) rfl (by kernel_rfl) (by kernel_rfl) (by kernel_rfl) (fun _ _ _ h => h) (Or.inr ⟨by rfl, rfl⟩) hS ?_; try simp only [Act.put, List.setIfInBounds_toArray, List.set_cons_zero, List.set_cons_succ, List.getElem_toArray, List.getElem_cons_zero, List.getElem_cons_succ])
        refine wpAnyH_ready (rs := [3]) (by kernel_rfl) (by simp) ?_
        refine AllReadyH.cons (o := _) rfl (fun K hK => ?_) AllReadyH.nil
        go_simp
        refine (HL.out _).mono ?_
        rintro e w2 ⟨rfl, hb2⟩
        refine hK.out _ _ (⟨keepSp hS.1 hb2, keepSp hS.2 hb2⟩) (fun hS => ?_)
        clear hK K
        try simp only [Act.put, List.setIfInBounds_toArray, List.set_cons_zero, List.set_cons_succ]
        clear hb2
        first
        | (refine wpAnyH_take (i := 4) (v := ?_) rfl (by kernel_rfl) (by kernel_rfl) (by kernel_rfl) (fun _ _ _ h => h) (Or.inl ⟨by rfl, ?_⟩) hS ?_; rotate_left; (· (intro y hy; (try dsimp only at hy); go_simp; try with_reducible rfl)); try simp only [Act.put, List.setIfInBounds_toArray, List.set_cons_zero, List.set_cons_succ, List.getElem_toArray, List.getElem_cons_zero, List.getElem_cons_succ])
        | (refine wpAnyH_take (i := 4) (v := undef) rfl (by kernel_rfl) (by kernel_rfl) (by kernel_rfl) (fun _ _ _ h => h) (Or.inr ⟨by rfl, rfl⟩) hS ?_; try simp only [Act.put, List.setIfInBounds_toArray, List.set_cons_zero, List.set_cons_succ, List.getElem_toArray, List.getElem_cons_zero, List.getElem_cons_succ])
        first
        | (refine wpAnyH_take (i := 5) (v := ?_) rfl (by kernel_rfl) (by kernel_rfl) (by kernel_rfl) (fun _ _ _ h => h) (Or.inl ⟨by rfl, ?_⟩) hS ?_; rotate_left; (· (intro y hy; (try dsimp only at hy); go_simp; try with_reducible rfl)); try simp only [Act.put, List.setIfInBounds_toArray, List.set_cons_zero, List.set_cons_succ, List.getElem_toArray, List.getElem_cons_zero, List.getElem_cons_succ])
        | (refine wpAnyH_take (i := 5) (v := undef) rfl (by kernel_rfl) (by kernel_rfl) (by kernel_rfl) (fun _ _ _ h => h) (Or.inr ⟨by rfl, rfl⟩) hS ?_; try simp only [Act.put, List.setIfInBounds_toArray, List.set_cons_zero, List.set_cons_succ, List.getElem_toArray, List.getElem_cons_zero, List.getElem_cons_succ])
        first
        | (refine wpAnyH_take (i := 6) (v := ?_) rfl (by kernel_rfl) (by kernel_rfl) (by kernel_rfl) (fun _ _ _ h => h) (Or.inl ⟨by rfl, ?_⟩) hS ?_; rotate_left; (· (intro y hy; (try dsimp only at hy); go_simp; try with_reducible rfl)); try simp only [Act.put, List.setIfInBounds_toArray, List.set_cons_zero, List.set_cons_succ, List.getElem_toArray, List.getElem_cons_zero, List.getElem_cons_succ])
        | (refine wpAnyH_take (i := 6) (v := undef) rfl (by kernel_rfl) (by kernel_rfl) (by kernel_rfl) (fun _ _ _ h => h) (Or.inr ⟨by rfl, rfl⟩) hS ?_; try simp only [Act.put, List.setIfInBounds_toArray, List.set_cons_zero, List.set_cons_succ, List.getElem_toArray, List.getElem_cons_zero, List.getElem_cons_succ])
        first
        | (refine wpAnyH_take (i := 7) (v := ?_) rfl (by kernel_rfl) (by kernel_rfl) (by kernel_rfl) (fun _ _ _ h => h) (Or.inl ⟨by rfl, ?_⟩) hS ?_; rotate_left; (· (intro y hy; (try dsimp only at hy); go_simp; try with_reducible rfl)); try simp only [Act.put, List.setIfInBounds_toArray, List.set_cons_zero, List.set_cons_succ, List.getElem_toArray, List.getElem_cons_zero, List.getElem_cons_succ])
        | (refine wpAnyH_take (i := 7) (v := undef) rfl (by kernel_rfl) (by kernel_rfl) (by kernel_rfl) (fun _ _ _ h => h) (Or.inr ⟨by rfl, rfl⟩) hS ?_; try simp only [Act.put, List.setIfInBounds_toArray, List.set_cons_zero, List.set_cons_succ, List.getElem_toArray, List.getElem_cons_zero, List.getElem_cons_succ])
        first
        | (refine wpAnyH_take (i := 8) (v := ?_) rfl (by kernel_rfl) (by kernel_rfl) (by kernel_rfl) (fun _ _ _ h => h) (Or.inl ⟨by rfl, ?_⟩) hS ?_; rotate_left; (· (intro y hy; (try dsimp only at hy); go_simp; try with_reducible rfl)); try simp only [Act.put, List.setIfInBounds_toArray, List.set_cons_zero, List.set_cons_succ, List.getElem_toArray, List.getElem_cons_zero, List.getElem_cons_succ])
        | (refine wpAnyH_take (i := 8) (v := undef) rfl (by kernel_rfl) (by kernel_rfl) (by kernel_rfl) (fun _ _ _ h => h) (Or.inr ⟨by rfl, rfl⟩) hS ?_; try simp only [Act.put, List.setIfInBounds_toArray, List.set_cons_zero, List.set_cons_succ, List.getElem_toArray, List.getElem_cons_zero, List.getElem_cons_succ])
        first
        | (refine wpAnyH_take (i := 11) (v := ?_) rfl (by kernel_rfl) (by kernel_rfl) (by kernel_rfl) (fun _ _ _ h => h) (Or.inl ⟨by rfl, ?_⟩) hS ?_; rotate_left; (· (intro y hy; (try dsimp only at hy); go_simp; try with_reducible rfl)); try simp only [Act.put, List.setIfInBounds_toArray, List.set_cons_zero, List.set_cons_succ, List.getElem_toArray, List.getElem_cons_zero, List.getElem_cons_succ])
        | (refine wpAnyH_take (i := 11) (v := undef) rfl (by kernel_rfl) (by kernel_rfl) (by kernel_rfl) (fun _ _ _ h => h) (Or.inr ⟨by rfl, rfl⟩) hS ?_; try simp only [Act.put, List.setIfInBounds_toArray, List.set_cons_zero, List.set_cons_succ, List.getElem_toArray, List.getElem_cons_zero, List.getElem_cons_succ])
        first
        | (refine wpAnyH_take (i := 12) (v := ?_) rfl (by kernel_rfl) (by kernel_rfl) (by kernel_rfl) (fun _ _ _ h => h) (Or.inl ⟨by rfl, ?_⟩) hS ?_; rotate_left; (· (intro y hy; (try dsimp only at hy); go_simp; try with_reducible rfl)); try simp only [Act.put, List.setIfInBounds_toArray, List.set_cons_zero, List.set_cons_succ, List.getElem_toArray, List.getElem_cons_zero, List.getElem_cons_succ])
        | (refine wpAnyH_take (i := 12) (v := undef) rfl (by kernel_rfl) (by kernel_rfl) (by kernel_rfl) (fun _ _ _ h => h) (Or.inr ⟨by rfl, rfl⟩) hS ?_; try simp only [Act.put, List.setIfInBounds_toArray, List.set_cons_zero, List.set_cons_succ, List.getElem_toArray, List.getElem_cons_zero, List.getElem_cons_succ])
        refine wpAnyH_ready (rs := [9]) (by kernel_rfl) (by simp) ?_
        refine AllReadyH.cons (o := _) rfl (fun K hK => ?_) AllReadyH.nil
        go_simp
        refine (HL.out _).mono ?_
        rintro e w2 ⟨rfl, hb2⟩
        refine hK.out _ _ (⟨keepSp hS.1 hb2, keepSp hS.2 hb2⟩) (fun hS => ?_)
        clear hK K
        try simp only [Act.put, List.setIfInBounds_toArray, List.set_cons_zero, List.set_cons_succ]
        clear hb2
        first
        | (refine wpAnyH_take (i := 10) (v := ?_) rfl (by kernel_rfl) (by kernel_rfl) (by kernel_rfl) (fun _ _ _ h => h) (Or.inl ⟨by rfl, ?_⟩) hS ?_; rotate_left; (· (intro y hy; (try dsimp only at hy); go_simp; try with_reducible rfl)); try simp only [Act.put, List.setIfInBounds_toArray, List.set_cons_zero, List.set_cons_succ, List.getElem_toArray, List.getElem_cons_zero, List.getElem_cons_succ])
        | (refine wpAnyH_take (i := 10) (v := undef) rfl (by kernel_rfl) (by kernel_rfl) (by kernel_rfl) (fun _ _ _ h => h) (Or.inr ⟨by rfl, rfl⟩) hS ?_; try simp only [Act.put, List.setIfInBounds_toArray, List.set_cons_zero, List.set_cons_succ, List.getElem_toArray, List.getElem_cons_zero, List.getElem_cons_succ])
        first
        | (refine wpAnyH_take (i := 13) (v := ?_) rfl (by kernel_rfl) (by kernel_rfl) (by kernel_rfl) (fun _ _ _ h => h) (Or.inl ⟨by rfl, ?_⟩) hS ?_; rotate_left; (· (intro y hy; (try dsimp only at hy); go_simp; try with_reducible rfl)); try simp only [Act.put, List.setIfInBounds_toArray, List.set_cons_zero, List.set_cons_succ, List.getElem_toArray, List.getElem_cons_zero, List.getElem_cons_succ])
        | (refine wpAnyH_take (i := 13) (v := undef) rfl (by kernel_rfl) (by kernel_rfl) (by kernel_rfl) (fun _ _ _ h => h) (Or.inr ⟨by rfl, rfl⟩) hS ?_; try simp only [Act.put, List.setIfInBounds_toArray, List.set_cons_zero, List.set_cons_succ, List.getElem_toArray, List.getElem_cons_zero, List.getElem_cons_succ])
        first
        | (refine wpAnyH_take (i := 14) (v := ?_) rfl (by kernel_rfl) (by kernel_rfl) (by kernel_rfl) (fun _ _ _ h => h) (Or.inl ⟨by rfl, ?_⟩) hS ?_; rotate_left; (· (intro y hy; (try dsimp only at hy); go_simp; try with_reducible rfl)); try simp only [Act.put, List.setIfInBounds_toArray, List.set_cons_zero, List.set_cons_succ, List.getElem_toArray, List.getElem_cons_zero, List.getElem_cons_succ])
        | (refine wpAnyH_take (i := 14) (v := undef) rfl (by kernel_rfl) (by kernel_rfl) (by kernel_rfl) (fun _ _ _ h => h) (Or.inr ⟨by rfl, rfl⟩) hS ?_; try simp only [Act.put, List.setIfInBounds_toArray, List.set_cons_zero, List.set_cons_succ, List.getElem_toArray, List.getElem_cons_zero, List.getElem_cons_succ])
        refine wpAnyH_done (by kernel_rfl) ?_ _
        obtain ⟨⟨c0, c1, c2, _⟩, d0, d1, d2, _⟩ := And.intro hS.1 hS.2
        go_wp2_with fail
        refine (HU2.out _).mono ?_
        rintro e V3 ⟨rfl, hb2⟩
        replace hS := And.intro (keepSp hS.1 hb2) (keepSp hS.2 hb2)
        clear hb2 c0 c1 c2 d0 d1 d2
        obtain ⟨⟨c0, c1, c2, _⟩, d0, d1, d2, _⟩ := And.intro hS.1 hS.2
        go_wp2_with fail
        refine (HH1.out _).mono ?_
        rintro e V3 ⟨rfl, hb2⟩
        replace hS := And.intro (keepSp hS.1 hb2) (keepSp hS.2 hb2)
        clear hb2 c0 c1 c2 d0 d1 d2
        obtain ⟨⟨c0, c1, c2, _⟩, d0, d1, d2, _⟩ := And.intro hS.1 hS.2
        go_wp2_with fail
        refine (HH2.out _).mono ?_
        rintro e V3 ⟨rfl, hb2⟩
        replace hS := And.intro (keepSp hS.1 hb2) (keepSp hS.2 hb2)
        clear hb2 c0 c1 c2 d0 d1 d2
        obtain ⟨⟨c0, c1, c2, _⟩, d0, d1, d2, _⟩ := And.intro hS.1 hS.2
        go_wp2_with fail
        refine (HH3.out _).mono ?_
        rintro e V3 ⟨rfl, hb2⟩
        replace hS := And.intro (keepSp hS.1 hb2) (keepSp hS.2 hb2)
        clear hb2 c0 c1 c2 d0 d1 d2
        obtain ⟨⟨c0, c1, c2, _⟩, d0, d1, d2, _⟩ := And.intro hS.1 hS.2
        go_wp2_with fail
        refine (HH4.out _).mono ?_
        rintro e V3 ⟨rfl, hb2⟩
        replace hS := And.intro (keepSp hS.1 hb2) (keepSp hS.2 hb2)
        clear hb2 c0 c1 c2 d0 d1 d2
        have hBV := hS.1.2.2.2.2.2
        have hqV := hSY.below hBV hSY.lt
        have hnV := hN.below hBV hN.lt
        replace hB := hBY.trans (hBV.mono hBY.size)
        obtain ⟨⟨c0, c1, c2⟩, f0, f1, f2⟩ := blk3 hqV
        obtain ⟨⟨d0, d1, d2⟩, _⟩ := blk3 hnV
        clear hS hBV
        go_wp2_with fail
        go_roundw
        case rel =>
          refine ⟨k + 1, t', by omega, by omega, by have := Ht'.out; omega, by have := Ht'.out; have := Hfit.out; omega, ?_, by go_num, ?_, ?_⟩
          · rw [show (t : Int) + (r : Int) = (t' : Int) from by have := Ht'.out; omega]
          · exact ((hqV.set 0 _).set 1 _).set 2 _
          · exact ((hB.setCell (p := ⟨q, 0, none⟩) hq0 _).setCell (p := ⟨q, 1, none⟩) hq0 _).setCell (p := ⟨q, 2, none⟩) hq0 _
        case measure => simp [intOf]; omega
      · have hT := HTn.out (by omega)
        have hle : decide ((r : Int) ≤ (lf : Int)) = false := decide_eq_false (by have := Hlf.out; omega)
        have hle' : decide (r ≤ lf) = false := decide_eq_false (by have := Hlf.out; omega)
        obtain ⟨t', ht'⟩ : ∃ t', t' = t := ⟨_, rfl⟩
        have hT' : ∀ w, Calls Try.prog 13 #[spV b z t, .int .i64 m] w fun e w' => e = .returned (.tuple #[spV b z t', .int .i64 0, .bool false]) ∧ Below w.heap.size w w' := fun w => by rw [ht']; exact hT w
        have Ht' := Lib.hid ht'
        clear ht' hT
        refine (hT' _).mono ?_
        rintro e V2 ⟨rfl, hb2⟩
        clear hT'
        replace hS := hS.below hb2 hS.lt
        replace hB := hB.trans (hb2.mono hB.size)
        have l1 := hS.lt
        have l3 := hB.size
        replace hS := hS.alloc (.cells #[.int .i64 b, .int .i64 z, .int .i64 t'] 26)
        replace hB := hB.alloc hB.size (.cells #[.int .i64 b, .int .i64 z, .int .i64 t'] 26)
        have hN := BlkIs.new V2 #[.int .i64 b, .int .i64 z, .int .i64 t'] 26
        obtain ⟨n1, hn1⟩ : ∃ n1, V2.heap.size = n1 := ⟨_, rfl⟩
        obtain ⟨Y, hY⟩ : ∃ Y, V2.alloc (.cells #[.int .i64 b, .int .i64 z, .int .i64 t'] 26) = Y := ⟨_, rfl⟩
        rw [hn1] at hN
        rw [hY] at hS hN hB
        have Hn := Lib.hid hn1
        have HY := Lib.hid hY
        have m1 : ¬ q = n1 := by omega
        have hSY := hS
        have hBY := hB
        clear hn1 hY hb2 c0 c1 c2 l1 l3
        have h1 := At3.of hS
        have h2 := At3.of hN
        obtain ⟨c0, c1, c2, _, l1, _⟩ := h1
        obtain ⟨d0, d1, d2, _, l2, _⟩ := h2
        go_wp2_with fail
        rw [HY.out]
        try rw [Hn.out]
        refine wp_region_held_drew (S := fun x => At3 Y x q (.int .i64 b) (.int .i64 z) (.int .i64 t) ∧ At3 Y x n1 (.int .i64 b) (.int .i64 z) (.int .i64 t')) (by kernel_rfl)
          ⟨⟨c0, c1, c2, Nat.le_refl _, l1, (Below.refl _ Y).drew⟩, d0, d1, d2, Nat.le_refl _, l2, (Below.refl _ Y).drew⟩ (fun hS => ?_)
        clear c0 c1 c2 d0 d1 d2
        first
        | (refine wpAnyH_take (i := 0) (v := ?_) rfl (by kernel_rfl) (by kernel_rfl) (by kernel_rfl) (fun _ _ _ h => h) (Or.inl ⟨by rfl, ?_⟩) hS ?_; rotate_left; (· (intro y hy; (try dsimp only at hy); go_simp; try with_reducible rfl)); try simp only [Act.put, List.setIfInBounds_toArray, List.set_cons_zero, List.set_cons_succ, List.getElem_toArray, List.getElem_cons_zero, List.getElem_cons_succ])
        | (refine wpAnyH_take (i := 0) (v := undef) rfl (by kernel_rfl) (by kernel_rfl) (by kernel_rfl) (fun _ _ _ h => h) (Or.inr ⟨by rfl, rfl⟩) hS ?_; try simp only [Act.put, List.setIfInBounds_toArray, List.set_cons_zero, List.set_cons_succ, List.getElem_toArray, List.getElem_cons_zero, List.getElem_cons_succ])
        first
        | (refine wpAnyH_take (i := 1) (v := ?_) rfl (by kernel_rfl) (by kernel_rfl) (by kernel_rfl) (fun _ _ _ h => h) (Or.inl ⟨by rfl, ?_⟩) hS ?_; rotate_left; (· (intro y hy; (try dsimp only at hy); go_simp; try with_reducible rfl)); try simp only [Act.put, List.setIfInBounds_toArray, List.set_cons_zero, List.set_cons_succ, List.getElem_toArray, List.getElem_cons_zero, List.getElem_cons_succ])
        | (refine wpAnyH_take (i := 1) (v := undef) rfl (by kernel_rfl) (by kernel_rfl) (by kernel_rfl) (fun _ _ _ h => h) (Or.inr ⟨by rfl, rfl⟩) hS ?_; try simp only [Act.put, List.setIfInBounds_toArray, List.set_cons_zero, List.set_cons_succ, List.getElem_toArray, List.getElem_cons_zero, List.getElem_cons_succ])
        first
        | (refine wpAnyH_take (i := 2) (v := ?_) rfl (by kernel_rfl) (by kernel_rfl) (by kernel_rfl) (fun _ _ _ h => h) (Or.inl ⟨by rfl, ?_⟩) hS ?_; rotate_left; (· (intro y hy; (try dsimp only at hy); go_simp; try with_reducible rfl)); try simp only [Act.put, List.setIfInBounds_toArray, List.set_cons_zero, List.set_cons_succ, List.getElem_toArray, List.getElem_cons_zero, List.getElem_cons_succ])
        | (refine wpAnyH_take (i := 2) (v := undef) rfl (by kernel_rfl) (by kernel_rfl) (by kernel_rfl) (fun _ _ _ h => h) (Or.inr ⟨by rfl, rfl⟩) hS ?_; try simp only [Act.put, List.setIfInBounds_toArray, List.set_cons_zero, List.set_cons_succ, List.getElem_toArray, List.getElem_cons_zero, List.getElem_cons_succ])
        refine wpAnyH_ready (rs := [3]) (by kernel_rfl) (by simp) ?_
        refine AllReadyH.cons (o := _) rfl (fun K hK => ?_) AllReadyH.nil
        go_simp
        refine (HL.out _).mono ?_
        rintro e w2 ⟨rfl, hb2⟩
        refine hK.out _ _ (⟨keepSp hS.1 hb2, keepSp hS.2 hb2⟩) (fun hS => ?_)
        clear hK K
        try simp only [Act.put, List.setIfInBounds_toArray, List.set_cons_zero, List.set_cons_succ]
        clear hb2
        first
        | (refine wpAnyH_take (i := 4) (v := ?_) rfl (by kernel_rfl) (by kernel_rfl) (by kernel_rfl) (fun _ _ _ h => h) (Or.inl ⟨by rfl, ?_⟩) hS ?_; rotate_left; (· (intro y hy; (try dsimp only at hy); go_simp; try with_reducible rfl)); try simp only [Act.put, List.setIfInBounds_toArray, List.set_cons_zero, List.set_cons_succ, List.getElem_toArray, List.getElem_cons_zero, List.getElem_cons_succ])
        | (refine wpAnyH_take (i := 4) (v := undef) rfl (by kernel_rfl) (by kernel_rfl) (by kernel_rfl) (fun _ _ _ h => h) (Or.inr ⟨by rfl, rfl⟩) hS ?_; try simp only [Act.put, List.setIfInBounds_toArray, List.set_cons_zero, List.set_cons_succ, List.getElem_toArray, List.getElem_cons_zero, List.getElem_cons_succ])
        first
        | (refine wpAnyH_take (i := 5) (v := ?_) rfl (by kernel_rfl) (by kernel_rfl) (by kernel_rfl) (fun _ _ _ h => h) (Or.inl ⟨by rfl, ?_⟩) hS ?_; rotate_left; (· (intro y hy; (try dsimp only at hy); go_simp; try with_reducible rfl)); try simp only [Act.put, List.setIfInBounds_toArray, List.set_cons_zero, List.set_cons_succ, List.getElem_toArray, List.getElem_cons_zero, List.getElem_cons_succ])
        | (refine wpAnyH_take (i := 5) (v := undef) rfl (by kernel_rfl) (by kernel_rfl) (by kernel_rfl) (fun _ _ _ h => h) (Or.inr ⟨by rfl, rfl⟩) hS ?_; try simp only [Act.put, List.setIfInBounds_toArray, List.set_cons_zero, List.set_cons_succ, List.getElem_toArray, List.getElem_cons_zero, List.getElem_cons_succ])
        first
        | (refine wpAnyH_take (i := 6) (v := ?_) rfl (by kernel_rfl) (by kernel_rfl) (by kernel_rfl) (fun _ _ _ h => h) (Or.inl ⟨by rfl, ?_⟩) hS ?_; rotate_left; (· (intro y hy; (try dsimp only at hy); go_simp; try with_reducible rfl)); try simp only [Act.put, List.setIfInBounds_toArray, List.set_cons_zero, List.set_cons_succ, List.getElem_toArray, List.getElem_cons_zero, List.getElem_cons_succ])
        | (refine wpAnyH_take (i := 6) (v := undef) rfl (by kernel_rfl) (by kernel_rfl) (by kernel_rfl) (fun _ _ _ h => h) (Or.inr ⟨by rfl, rfl⟩) hS ?_; try simp only [Act.put, List.setIfInBounds_toArray, List.set_cons_zero, List.set_cons_succ, List.getElem_toArray, List.getElem_cons_zero, List.getElem_cons_succ])
        first
        | (refine wpAnyH_take (i := 7) (v := ?_) rfl (by kernel_rfl) (by kernel_rfl) (by kernel_rfl) (fun _ _ _ h => h) (Or.inl ⟨by rfl, ?_⟩) hS ?_; rotate_left; (· (intro y hy; (try dsimp only at hy); go_simp; try with_reducible rfl)); try simp only [Act.put, List.setIfInBounds_toArray, List.set_cons_zero, List.set_cons_succ, List.getElem_toArray, List.getElem_cons_zero, List.getElem_cons_succ])
        | (refine wpAnyH_take (i := 7) (v := undef) rfl (by kernel_rfl) (by kernel_rfl) (by kernel_rfl) (fun _ _ _ h => h) (Or.inr ⟨by rfl, rfl⟩) hS ?_; try simp only [Act.put, List.setIfInBounds_toArray, List.set_cons_zero, List.set_cons_succ, List.getElem_toArray, List.getElem_cons_zero, List.getElem_cons_succ])
        first
        | (refine wpAnyH_take (i := 8) (v := ?_) rfl (by kernel_rfl) (by kernel_rfl) (by kernel_rfl) (fun _ _ _ h => h) (Or.inl ⟨by rfl, ?_⟩) hS ?_; rotate_left; (· (intro y hy; (try dsimp only at hy); go_simp; try with_reducible rfl)); try simp only [Act.put, List.setIfInBounds_toArray, List.set_cons_zero, List.set_cons_succ, List.getElem_toArray, List.getElem_cons_zero, List.getElem_cons_succ])
        | (refine wpAnyH_take (i := 8) (v := undef) rfl (by kernel_rfl) (by kernel_rfl) (by kernel_rfl) (fun _ _ _ h => h) (Or.inr ⟨by rfl, rfl⟩) hS ?_; try simp only [Act.put, List.setIfInBounds_toArray, List.set_cons_zero, List.set_cons_succ, List.getElem_toArray, List.getElem_cons_zero, List.getElem_cons_succ])
        first
        | (refine wpAnyH_take (i := 11) (v := ?_) rfl (by kernel_rfl) (by kernel_rfl) (by kernel_rfl) (fun _ _ _ h => h) (Or.inl ⟨by rfl, ?_⟩) hS ?_; rotate_left; (· (intro y hy; (try dsimp only at hy); go_simp; try with_reducible rfl)); try simp only [Act.put, List.setIfInBounds_toArray, List.set_cons_zero, List.set_cons_succ, List.getElem_toArray, List.getElem_cons_zero, List.getElem_cons_succ])
        | (refine wpAnyH_take (i := 11) (v := undef) rfl (by kernel_rfl) (by kernel_rfl) (by kernel_rfl) (fun _ _ _ h => h) (Or.inr ⟨by rfl, rfl⟩) hS ?_; try simp only [Act.put, List.setIfInBounds_toArray, List.set_cons_zero, List.set_cons_succ, List.getElem_toArray, List.getElem_cons_zero, List.getElem_cons_succ])
        first
        | (refine wpAnyH_take (i := 12) (v := ?_) rfl (by kernel_rfl) (by kernel_rfl) (by kernel_rfl) (fun _ _ _ h => h) (Or.inl ⟨by rfl, ?_⟩) hS ?_; rotate_left; (· (intro y hy; (try dsimp only at hy); go_simp; try with_reducible rfl)); try simp only [Act.put, List.setIfInBounds_toArray, List.set_cons_zero, List.set_cons_succ, List.getElem_toArray, List.getElem_cons_zero, List.getElem_cons_succ])
        | (refine wpAnyH_take (i := 12) (v := undef) rfl (by kernel_rfl) (by kernel_rfl) (by kernel_rfl) (fun _ _ _ h => h) (Or.inr ⟨by rfl, rfl⟩) hS ?_; try simp only [Act.put, List.setIfInBounds_toArray, List.set_cons_zero, List.set_cons_succ, List.getElem_toArray, List.getElem_cons_zero, List.getElem_cons_succ])
        refine wpAnyH_ready (rs := [9]) (by kernel_rfl) (by simp) ?_
        refine AllReadyH.cons (o := _) rfl (fun K hK => ?_) AllReadyH.nil
        go_simp
        refine (HL.out _).mono ?_
        rintro e w2 ⟨rfl, hb2⟩
        refine hK.out _ _ (⟨keepSp hS.1 hb2, keepSp hS.2 hb2⟩) (fun hS => ?_)
        clear hK K
        try simp only [Act.put, List.setIfInBounds_toArray, List.set_cons_zero, List.set_cons_succ]
        clear hb2
        first
        | (refine wpAnyH_take (i := 10) (v := ?_) rfl (by kernel_rfl) (by kernel_rfl) (by kernel_rfl) (fun _ _ _ h => h) (Or.inl ⟨by rfl, ?_⟩) hS ?_; rotate_left; (· (intro y hy; (try dsimp only at hy); go_simp; try with_reducible rfl)); try simp only [Act.put, List.setIfInBounds_toArray, List.set_cons_zero, List.set_cons_succ, List.getElem_toArray, List.getElem_cons_zero, List.getElem_cons_succ])
        | (refine wpAnyH_take (i := 10) (v := undef) rfl (by kernel_rfl) (by kernel_rfl) (by kernel_rfl) (fun _ _ _ h => h) (Or.inr ⟨by rfl, rfl⟩) hS ?_; try simp only [Act.put, List.setIfInBounds_toArray, List.set_cons_zero, List.set_cons_succ, List.getElem_toArray, List.getElem_cons_zero, List.getElem_cons_succ])
        first
        | (refine wpAnyH_take (i := 13) (v := ?_) rfl (by kernel_rfl) (by kernel_rfl) (by kernel_rfl) (fun _ _ _ h => h) (Or.inl ⟨by rfl, ?_⟩) hS ?_; rotate_left; (· (intro y hy; (try dsimp only at hy); go_simp; try with_reducible rfl)); try simp only [Act.put, List.setIfInBounds_toArray, List.set_cons_zero, List.set_cons_succ, List.getElem_toArray, List.getElem_cons_zero, List.getElem_cons_succ])
        | (refine wpAnyH_take (i := 13) (v := undef) rfl (by kernel_rfl) (by kernel_rfl) (by kernel_rfl) (fun _ _ _ h => h) (Or.inr ⟨by rfl, rfl⟩) hS ?_; try simp only [Act.put, List.setIfInBounds_toArray, List.set_cons_zero, List.set_cons_succ, List.getElem_toArray, List.getElem_cons_zero, List.getElem_cons_succ])
        first
        | (refine wpAnyH_take (i := 14) (v := ?_) rfl (by kernel_rfl) (by kernel_rfl) (by kernel_rfl) (fun _ _ _ h => h) (Or.inl ⟨by rfl, ?_⟩) hS ?_; rotate_left; (· (intro y hy; (try dsimp only at hy); go_simp; try with_reducible rfl)); try simp only [Act.put, List.setIfInBounds_toArray, List.set_cons_zero, List.set_cons_succ, List.getElem_toArray, List.getElem_cons_zero, List.getElem_cons_succ])
        | (refine wpAnyH_take (i := 14) (v := undef) rfl (by kernel_rfl) (by kernel_rfl) (by kernel_rfl) (fun _ _ _ h => h) (Or.inr ⟨by rfl, rfl⟩) hS ?_; try simp only [Act.put, List.setIfInBounds_toArray, List.set_cons_zero, List.set_cons_succ, List.getElem_toArray, List.getElem_cons_zero, List.getElem_cons_succ])
        refine wpAnyH_done (by kernel_rfl) ?_ _
        obtain rfl := Ht'.out
        obtain ⟨⟨c0, c1, c2, _⟩, d0, d1, d2, _⟩ := And.intro hS.1 hS.2
        go_wp2_with fail
        have hBV := hS.1.2.2.2.2.2
        go_roundw
        case rel => exact ⟨k + 1, t', by omega, by omega, ht0, ht1, rfl, by go_num, hSY.below hBV hSY.lt, hBY.trans (hBV.mono hBY.size)⟩
        case measure => simp [intOf]; omega
    · obtain ⟨c0, c1, c2, _, l1, _⟩ := At3.of hS
      have hR := right_ok b z t ok
      have hle : decide ((t : Int) ≤ (b : Int) + (z : Int)) = true := decide_eq_true (by omega)
      have HR := Lib.hid hR
      clear hR
      by_cases h1 : k < len1
      · have i1 : decide (k < len1) = true := decide_eq_true h1
        have i2 : decide ((k : Int) < 30) = false := decide_eq_false (by omega)
        go_wp2_with fail
        refine (HR.out _).mono ?_
        rintro e V ⟨rfl, hb2⟩
        go_wp2
        go_ret
        exact ⟨rfl, hB.trans (hb2.mono hB.size)⟩
      · have i1 : decide (k < len1) = false := decide_eq_false h1
        go_wp2_with fail
        refine (HR.out _).mono ?_
        rintro e V ⟨rfl, hb2⟩
        go_wp2
        go_ret
        exact ⟨rfl, hB.trans (hb2.mono hB.size)⟩

set_option maxRecDepth 100000 in
theorem lifted (os : Os) (started : os.Started) (H : Type) (enc : TypeId × Value → H) :
    ReturnsInHanded {} Try.checked os 3 .any (Rows.spaceTakesSpec.pre6 enc Try.prog Try.f3 Rows.spaceTakesRow.domain false) (Rows.spaceTakesSpec.post enc Try.prog Try.f3 false true false false) := by
  refine returnsInHanded_of_change (C := Try.checked) own started (by kernel_rfl) Try.func3
    (ChangeSpec.witness6 (enc := enc) (C := Try.checked) false ⟨#[], #[.agg #[.int .i64 0, .int .i64 0, .int .i64 0], .slice none 0 0], []⟩ 8 (by kernel_rfl) (by kernel_rfl) (by kernel_rfl) (by kernel_rfl)) ?_
  intro W base args ds gs before hval0 hW hcnd _
  have hval : ∀ (j : Nat) t v, Try.f3.params[j]? = some t → args[j]? = some v → Value.okWide Try.prog W .any base t v := hval0
  have hW' := hW
  obtain ⟨p, q, hA0, hV, rfl, hfz, hnd⟩ := hW
  have hA : DataW.TrodAll enc Try.prog W 0 (fun _ => true) true Try.f3.params.toList args.toList ds p := hA0
  rw [Try.params3] at hA hval
  obtain ⟨v0, vs0, d0, ds0, p0, q0, hargs, rfl, rfl, h0, r0⟩ := trodAll_cons hA
  obtain ⟨v1, vs1, d1, ds1, p1, q1, rfl, rfl, rfl, h1, r1⟩ := trodAll_cons r0
  obtain ⟨rfl, rfl, rfl⟩ := trodAll_nil r1
  obtain rfl : args = #[v0, v1] := by cases args; simp_all
  obtain ⟨rfl, rfl⟩ := trodVars_none hV
  have k0 := h0
  have lt0 : ∀ x ∈ p0, x.block < W.heap.size := by obtain ⟨m, hm⟩ := k0; exact DataW.trod_lt m _ _ _ hm
  have ce0 : Try.prog.cellsOf 3 = 1 := by kernel_rfl
  have cc0 : Try.prog.cellsOf 22 = 3 := by kernel_rfl
  have x0 := open_ints_array Try.underlying22 Try.underlying3 ce0 cc0 (hval 0 22 v0 rfl rfl) h0
  obtain ⟨z0, hl0, hv0, hz0⟩ := x0
  subst hv0
  have y0 := list3 hl0
  obtain ⟨a0x0, a0x1, a0x2, hy0⟩ := y0
  subst hy0
  have w0x0 := bounds_i64 (hz0 a0x0 (by simp))
  have w0x1 := bounds_i64 (hz0 a0x1 (by simp))
  have w0x2 := bounds_i64 (hz0 a0x2 (by simp))
  obtain ⟨a1, len1, cap1, rfl⟩ := okWide_slice Try.underlying23 (hval 1 23 v1 rfl rfl)
  have k1 := h1
  have lt1 : ∀ x ∈ p1, x.block < W.heap.size := by obtain ⟨m, hm⟩ := k1; exact DataW.trod_lt m _ _ _ hm
  obtain ⟨z1, w1⟩ := open_row Try.underlying23 Try.underlying3 (by kernel_rfl) h1
  clear hA0 hval0
  refine (walk a0x0 a0x1 a0x2 a1 len1 cap1 z1 W w0x0 w0x1 w0x2 w1).mono fun e W' ⟨he, bel⟩ => ?_
  subst he
  exact ⟨_, rfl, _, _, _, [], _, [], hW', trodAll_mk1 (shut_bool Try.underlying4 _), (trodAll_cons_mk (Below.trod laidOut (by kernel_rfl) (of_decide_eq_true (by kernel_rfl)) k0 bel lt0) (trodAll_cons_mk (Below.trod laidOut (by kernel_rfl) (of_decide_eq_true (by kernel_rfl)) k1 bel lt1) trodAll_mk0)), rfl, bel.frame _, fun h => by cases h⟩

theorem over : Rows.spaceTakesRow.holds Try.pinned (OpenSpec.ofChange Rows.spaceTakesSpec) :=
  OpenClaim.holds_of_wide 3 Try.f3 rfl rfl rfl rfl rfl rfl rfl ⟨rfl, rfl, rfl, rfl, rfl⟩ rfl rfl rfl rfl rfl (by kernel_rfl) Try.func3 (by kernel_rfl)
    (of_decide_eq_true (by kernel_rfl)) (by unfold Func.isWrapper; first | (rw [if_pos (by decide +kernel)]; kernel_rfl) | (rw [if_neg (by decide +kernel)]; exact ⟨rfl, rfl⟩))
    (fun os started H enc _ => lifted os started H enc)

theorem proved : Rows.SpaceTakesSaid := over
#print axioms proved

end Go.Proofs.Ytdaopelbijkdiaa.spaceTakes
