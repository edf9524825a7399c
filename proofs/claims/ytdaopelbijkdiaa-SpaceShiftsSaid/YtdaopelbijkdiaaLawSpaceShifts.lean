/- For every three numbers, every other base and every slice of numbers: a space that begins elsewhere is taken just so, each place by as much farther: the law SpaceShifts returns true and its arguments read as they did. No condition. -/
import Derived.Test.YtdaopelbijkdiaaSpaceLaw
import Derived.Test.YtdaopelbijkdiaaOpen
namespace Go.Proofs.Ytdaopelbijkdiaa.spaceShifts
open Go.ChangeShapes Go.WideShapes Go.ChangeAt Go.RowKit
set_option linter.unusedVariables false
set_option linter.unusedSimpArgs false

set_option maxRecDepth 100000 in
set_option maxHeartbeats 2000000 in
theorem walk (a0x0 a0x1 a0x2 a1 : Int) (a2 : Option Addr) (len2 cap2 : Nat) (z2 : List Int) (w : World) (w0 : -9223372036854775808 ≤ a0x0 ∧ a0x0 ≤ 9223372036854775807) (w1 : -9223372036854775808 ≤ a0x1 ∧ a0x1 ≤ 9223372036854775807) (w2 : -9223372036854775808 ≤ a0x2 ∧ a0x2 ≤ 9223372036854775807)
    (w3 : -9223372036854775808 ≤ a1 ∧ a1 ≤ 9223372036854775807) (w4 : IsRow .i64 w a2 len2 cap2 z2) :
    Calls Try.prog 5 #[.agg #[.int .i64 a0x0, .int .i64 a0x1, .int .i64 a0x2], .int .i64 a1, .slice a2 len2 cap2] w fun e w' => e = .returned (.bool true) ∧ Below w.heap.size w w' := by
  go_enter Try.func5, Try.ntmps5
  go_wp2_with fail
  have h0 : At3 w (w.alloc (.cells #[.int .i64 a0x0, .int .i64 a0x1, .int .i64 a0x2] 22)) w.heap.size (.int .i64 a0x0) (.int .i64 a0x1) (.int .i64 a0x2) :=
    ⟨by simp, by simp, by simp, by simp, by simp, (Below.refl _ w).alloc (Nat.le_refl _) _⟩
  refine (awake_yes _).mono ?_
  rintro e x ⟨rfl, hb⟩
  replace h0 := keepSp h0 hb
  clear hb
  obtain ⟨c0, c1, c2, s1, _, hB1⟩ := h0
  go_wp2_with fail
  refine (fit_nat _ _ _ _ w0 w1 w2).mono ?_
  rintro e x2 ⟨b, z, u, hb, hz, hu, rfl, hB2⟩
  have hB3 := hB1.trans (hB2.mono s1)
  have s3 := hB3.size
  clear c0 c1 c2 hB1 hB2 s1
  go_wp2_with fail
  refine (empty_ok b z (b + u) ⟨by omega, by omega, by omega, by omega⟩ _).mono ?_
  rintro e x3 ⟨rfl, hB4⟩
  replace hB3 := hB3.trans (hB4.mono s3)
  replace s3 := hB3.size
  clear hB4 hu
  obtain ⟨q, hq⟩ : ∃ q, x3.heap.size = q := ⟨_, rfl⟩
  have hS : BlkIs (x3.alloc (.cells #[.int .i64 b, .int .i64 z, .int .i64 b] 26)) q #[.int .i64 b, .int .i64 z, .int .i64 b] 26 := by
    rw [← hq]; exact BlkIs.new _ _ _
  have hB := hB3.alloc s3 (.cells #[.int .i64 b, .int .i64 z, .int .i64 b] 26)
  have hq0 : w.heap.size ≤ q := by omega
  go_wp2_with fail
  obtain ⟨y, hy⟩ : ∃ y, x3.alloc (.cells #[.int .i64 b, .int .i64 z, .int .i64 b] 26) = y := ⟨_, rfl⟩
  rw [hy] at hS hB
  rw [hy]
  clear hy hq hB3 s3
  refine (pick_nat a1 1000 _ w3.1 w3.2 (by omega) (by omega)).mono ?_
  rintro e V ⟨d, hd, rfl, rfl⟩
  obtain ⟨⟨c0, c1, c2⟩, _⟩ := blk3 hS
  have hM := make_ok (b + d) z ⟨by omega, by omega, by omega, by omega⟩
  obtain ⟨b', hb'⟩ : ∃ b', b + d = b' := ⟨_, rfl⟩
  have hbi : (b : Int) + (d : Int) = (b' : Int) := by omega
  rw [hb'] at hM
  have HM := Lib.hid hM
  have Hb' := Lib.hid hb'
  clear hM hb'
  go_wp2_with fail
  refine (HM.out _).mono ?_
  rintro e V ⟨rfl, hb2⟩
  replace hS := hS.below hb2 hS.lt
  replace hB := hB.trans (hb2.mono hB.size)
  have hqV := hS.lt
  clear hb2 c0 c1 c2
  have hS2 := BlkIs.new V #[.int .i64 b', .int .i64 z, .int .i64 b'] 26
  replace hS := hS.alloc (.cells #[.int .i64 b', .int .i64 z, .int .i64 b'] 26)
  have hsV := hB.size
  replace hB := hB.alloc hB.size (.cells #[.int .i64 b', .int .i64 z, .int .i64 b'] 26)
  obtain ⟨q2, hq2⟩ : ∃ q2, V.heap.size = q2 := ⟨_, rfl⟩
  rw [hq2] at hS2
  have hq20 : w.heap.size ≤ q2 := by omega
  have hqq : ¬ q = q2 := by omega
  go_wp2_with fail
  obtain ⟨Y, hY⟩ : ∃ Y, V.alloc (.cells #[.int .i64 b', .int .i64 z, .int .i64 b'] 26) = Y := ⟨_, rfl⟩
  rw [hY] at hS hS2 hB
  rw [hY]
  clear hY hq2 hqV hsV
  obtain ⟨hlen, hrow⟩ := w4.read
  have Hrow := Lib.hid hrow
  clear w4 hrow
  go_loopw [12] (fun i wr => ∃ k v t1 t2 : Nat, k ≤ len2 ∧ k ≤ 20 ∧ v ≤ z ∧ b + v = t1 ∧ b' + v = t2 ∧ i = .int .i64 k ∧ BlkIs wr q #[.int .i64 b, .int .i64 z, .int .i64 t1] 26 ∧ BlkIs wr q2 #[.int .i64 b', .int .i64 z, .int .i64 t2] 26 ∧ Below w.heap.size w wr) (fun i _ => 20 - (intOf i).toNat)
  case atStart => exact ⟨0, 0, b, b', Nat.zero_le _, Nat.zero_le _, Nat.zero_le _, rfl, rfl, rfl, hS, hS2, hB⟩
  case round =>
    obtain ⟨k, v, t1, t2, hk, hk20, hv, ht1, ht2, rfl, hS, hS2, hB⟩ := hrel
    by_cases hin : k < len2 ∧ k < 20
    · have hk1 : (k : Int) < (len2 : Int) := by omega
      have hk2 : (k : Int) < 20 := by omega
      obtain ⟨bl, ol, x, rfl, hbl, hcl, x0, x1⟩ := Hrow.out k hin.1
      have hcl1 : wr.cell? ⟨bl, ol + k, none⟩ = some (.int .i64 x) := (hB.cell (p := ⟨bl, ol + k, none⟩) hbl).trans hcl
      clear hcl
      have Ht1 := Lib.hid ht1
      have Ht2 := Lib.hid ht2
      clear ht1 ht2
      have d1 : decide (k < len2) = true := decide_eq_true hin.1
      have d2 : decide ((k : Int) < 20) = true := decide_eq_true hk2
      go_wp2_with fail
      refine (pick_nat x 40 _ x0 x1 (by omega) (by omega)).mono ?_
      rintro e V ⟨n, hn, rfl, rfl⟩
      obtain ⟨v', p1, p2, ok, hv', hok, hT1, hT2⟩ := take_two b b' z v n (by omega) (by have := Hb'.out; omega) (by omega) hv (by omega)
      rw [Ht1.out] at hT1 hok
      rw [Ht2.out] at hT2 hok
      obtain ⟨t1', ht1'⟩ : ∃ t, b + v' = t := ⟨_, rfl⟩
      obtain ⟨t2', ht2'⟩ : ∃ t, b' + v' = t := ⟨_, rfl⟩
      rw [ht1'] at hT1
      rw [ht2'] at hT2
      have HT1 := Lib.hid hT1
      have HT2 := Lib.hid hT2
      have Ht1' := Lib.hid ht1'
      have Ht2' := Lib.hid ht2'
      have Hok := Lib.hid hok
      have hz' : z < 65537 := by omega
      clear hT1 hT2 ht1' ht2' hok d1 d2 hcl1 hbl x0 x1
      obtain ⟨⟨c0, c1, c2⟩, _⟩ := blk3 hS
      go_wp2_with fail
      refine (HT1.out _).mono ?_
      rintro e V ⟨rfl, hb2⟩
      replace hS := hS.below hb2 hS.lt
      replace hS2 := hS2.below hb2 hS2.lt
      replace hB := hB.trans (hb2.mono hB.size)
      have l1 := hS.lt
      have l2 := hS2.lt
      have l3 := hB.size
      replace hS := hS.alloc (.cells #[.int .i64 b, .int .i64 z, .int .i64 t1'] 26)
      replace hS2 := hS2.alloc (.cells #[.int .i64 b, .int .i64 z, .int .i64 t1'] 26)
      replace hB := hB.alloc hB.size (.cells #[.int .i64 b, .int .i64 z, .int .i64 t1'] 26)
      have hN1 := BlkIs.new V #[.int .i64 b, .int .i64 z, .int .i64 t1'] 26
      clear c0 c1 c2 hb2
      obtain ⟨n1, hn1⟩ : ∃ n1, V.heap.size = n1 := ⟨_, rfl⟩
      rw [hn1] at hN1
      have m1 : ¬ q = n1 := by omega
      have m2 : ¬ q2 = n1 := by omega
      clear l1 l2 l3
      obtain ⟨⟨c0, c1, c2⟩, _⟩ := blk3 hS2
      go_wp2_with fail
      refine (HT2.out _).mono ?_
      rintro e V2 ⟨rfl, hb2⟩
      replace hS := hS.below hb2 hS.lt
      replace hN1 := hN1.below hb2 hN1.lt
      replace hS2 := hS2.below hb2 hS2.lt
      replace hB := hB.trans (hb2.mono hB.size)
      have l1 := hS.lt
      have l2 := hS2.lt
      have l3 := hN1.lt
      clear c0 c1 c2 hb2 hn1
      obtain ⟨⟨c0, c1, c2⟩, f0, f1, f2⟩ := blk3 hS
      obtain ⟨⟨d0, d1, d2⟩, g0, g1, g2⟩ := blk3 hS2
      obtain ⟨⟨e0, e1, e2⟩, _⟩ := blk3 hN1
      have u1 : (t1' : Int) - (b : Int) = (v' : Int) := by have := Ht1'.out; omega
      have u2 : (t2' : Int) - (b' : Int) = (v' : Int) := by have := Ht2'.out; omega
      have hd' : d < 1000 := hd
      cases ok
      · go_wp2_with fail
        go_roundw
        case rel =>
          refine ⟨k + 1, v', t1', t2', by omega, by omega, hv', Ht1'.out, Ht2'.out, by go_num, ?_, ?_, ?_⟩
          · exact ((((((hS.set 0 _).set 1 _).set 2 _).far (by simpa using hqq) _).far (by simpa using hqq) _).far (by simpa using hqq) _).alloc _
          · exact ((((((hS2.far (by simpa using Ne.symm hqq) _).far (by simpa using Ne.symm hqq) _).far (by simpa using Ne.symm hqq) _).set 0 _).set 1 _).set 2 _).alloc _
          · exact ((((((hB.setCell (p := ⟨q, 0, none⟩) hq0 _).setCell (p := ⟨q, 1, none⟩) hq0 _).setCell (p := ⟨q, 2, none⟩) hq0 _).setCell (p := ⟨q2, 0, none⟩) hq20 _).setCell (p := ⟨q2, 1, none⟩) hq20 _).setCell (p := ⟨q2, 2, none⟩) hq20 _).alloc (by have := hB.size; simpa using this) _
        case measure => simp [intOf]; omega
      · obtain ⟨rfl, rfl⟩ := Hok.out rfl
        have p10 : p1 < 3000 := by have := Ht1.out; omega
        have u3 : ((p2 : Int) == (p1 : Int) + (d : Int)) = true := by have := Ht1.out; have := Ht2.out; have := Hb'.out; simp; omega
        have u4 : IntKind.i64.wrap ((p1 : Int) + (d : Int)) = (p1 : Int) + (d : Int) := IntWalk.i64_in _ (by omega)
        have hbi' := Lib.hid hbi
        clear hbi
        go_wp2_with fail
        go_roundw
        case rel =>
          refine ⟨k + 1, v', t1', t2', by omega, by omega, hv', Ht1'.out, Ht2'.out, by go_num, ?_, ?_, ?_⟩
          · exact ((((((hS.set 0 _).set 1 _).set 2 _).far (by simpa using hqq) _).far (by simpa using hqq) _).far (by simpa using hqq) _).alloc _
          · exact ((((((hS2.far (by simpa using Ne.symm hqq) _).far (by simpa using Ne.symm hqq) _).far (by simpa using Ne.symm hqq) _).set 0 _).set 1 _).set 2 _).alloc _
          · exact ((((((hB.setCell (p := ⟨q, 0, none⟩) hq0 _).setCell (p := ⟨q, 1, none⟩) hq0 _).setCell (p := ⟨q, 2, none⟩) hq0 _).setCell (p := ⟨q2, 0, none⟩) hq20 _).setCell (p := ⟨q2, 1, none⟩) hq20 _).setCell (p := ⟨q2, 2, none⟩) hq20 _).alloc (by have := hB.size; simpa using this) _
        case measure => simp [intOf]; omega
        have e1 := Ht1.out
        have e2 := Ht2.out
        have e3 := Hb'.out
        omega
    · have hS' := At3.of hS
      have hS2' := At3.of hS2
      obtain ⟨c0, c1, c2, _, l1, _⟩ := hS'
      obtain ⟨d0, d1, d2, _, l2, _⟩ := hS2'
      have hU1 := used_ok b z t1 ⟨by omega, by omega, by omega, by omega⟩
      have hU2 := used_ok b' z t2 ⟨by have := Hb'.out; omega, by omega, by omega, by omega⟩
      have hL1 := left_ok b z t1 ⟨by omega, by omega, by omega, by omega⟩
      have hL2 := left_ok b' z t2 ⟨by have := Hb'.out; omega, by omega, by omega, by omega⟩
      rw [show t1 - b = v from by omega] at hU1
      rw [show t2 - b' = v from by omega] at hU2
      obtain ⟨r, hr⟩ : ∃ r, z - v = r := ⟨_, rfl⟩
      rw [show b + z - t1 = r from by omega] at hL1
      rw [show b' + z - t2 = r from by omega] at hL2
      have HU1 := Lib.hid hU1
      have HU2 := Lib.hid hU2
      have HL1 := Lib.hid hL1
      have HL2 := Lib.hid hL2
      clear hU1 hU2 hL1 hL2 hr ht1 ht2 hbi
      by_cases h1 : k < len2
      · have i1 : decide (k < len2) = true := decide_eq_true h1
        have i2 : decide ((k : Int) < 20) = false := decide_eq_false (by omega)
        go_wp2_with fail
        refine wp_region_held_drew (S := fun x => At3 wr x q (.int .i64 b) (.int .i64 z) (.int .i64 t1) ∧ At3 wr x q2 (.int .i64 b') (.int .i64 z) (.int .i64 t2)) (by kernel_rfl)
          ⟨⟨c0, c1, c2, Nat.le_refl _, l1, (Below.refl _ wr).drew⟩, d0, d1, d2, Nat.le_refl _, l2, (Below.refl _ wr).drew⟩ (fun hS => ?_)
        clear c0 c1 c2 d0 d1 d2
        first
        | (refine wpAnyH_take (i := 0) (v := ?_) rfl (by kernel_rfl) (by kernel_rfl) (by kernel_rfl) (fun _ _ _ h => h) (Or.inl ⟨by rfl, ?_⟩) hS ?_; rotate_left; (· (intro y hy; (try dsimp only at hy); go_simp; try with_reducible rfl)); try simp only [Act.put, List.setIfInBounds_toArray, List.set_cons_zero, List.set_cons_succ, List.getElem_toArray, List.getElem_cons_zero, List.getElem_cons_succ])
        | (refine wpAnyH_take (i := 0) (v := undef) rfl (by kernel_rfl) (by kernel_rfl) (by kernel_rfl) (fun _ _ _ h => h) (Or.inr ⟨by rfl, rfl⟩) hS ?_; try simp only [Act.put, List.setIfInBounds_toArray, List.set_cons_zero, List.set_cons_succ, List.getElem_toArray, List.getElem_cons_zero, List.getElem_cons_succ])
        first
        | (refine wpAnyH_take (i := 2) (v := ?_) rfl (by kernel_rfl) (by kernel_rfl) (by kernel_rfl) (fun _ _ _ h => h) (Or.inl ⟨by rfl, ?_⟩) hS ?_; rotate_left; (· (intro y hy; (try dsimp only at hy); go_simp; try with_reducible rfl)); try simp only [Act.put, List.setIfInBounds_toArray, List.set_cons_zero, List.set_cons_succ, List.getElem_toArray, List.getElem_cons_zero, List.getElem_cons_succ])
        | (refine wpAnyH_take (i := 2) (v := undef) rfl (by kernel_rfl) (by kernel_rfl) (by kernel_rfl) (fun _ _ _ h => h) (Or.inr ⟨by rfl, rfl⟩) hS ?_; try simp only [Act.put, List.setIfInBounds_toArray, List.set_cons_zero, List.set_cons_succ, List.getElem_toArray, List.getElem_cons_zero, List.getElem_cons_succ])
        refine wpAnyH_ready (rs := [1]) (by kernel_rfl) (by simp) ?_
        refine AllReadyH.cons (o := _) rfl (fun K hK => ?_) AllReadyH.nil
        go_simp
        refine (HU1.out _).mono ?_
        rintro e w2 ⟨rfl, hb2⟩
        refine hK.out _ _ (⟨keepSp hS.1 hb2, keepSp hS.2 hb2⟩) (fun hS => ?_)
        clear hK K
        try simp only [Act.put, List.setIfInBounds_toArray, List.set_cons_zero, List.set_cons_succ]
        clear hb2
        refine wpAnyH_ready (rs := [3]) (by kernel_rfl) (by simp) ?_
        refine AllReadyH.cons (o := _) rfl (fun K hK => ?_) AllReadyH.nil
        go_simp
        refine (HU2.out _).mono ?_
        rintro e w2 ⟨rfl, hb2⟩
        refine hK.out _ _ (⟨keepSp hS.1 hb2, keepSp hS.2 hb2⟩) (fun hS => ?_)
        clear hK K
        try simp only [Act.put, List.setIfInBounds_toArray, List.set_cons_zero, List.set_cons_succ]
        clear hb2
        first
        | (refine wpAnyH_take (i := 4) (v := ?_) rfl (by kernel_rfl) (by kernel_rfl) (by kernel_rfl) (fun _ _ _ h => h) (Or.inl ⟨by rfl, ?_⟩) hS ?_; rotate_left; (· (intro y hy; (try dsimp only at hy); go_simp; try with_reducible rfl)); try simp only [Act.put, List.setIfInBounds_toArray, List.set_cons_zero, List.set_cons_succ, List.getElem_toArray, List.getElem_cons_zero, List.getElem_cons_succ])
        | (refine wpAnyH_take (i := 4) (v := undef) rfl (by kernel_rfl) (by kernel_rfl) (by kernel_rfl) (fun _ _ _ h => h) (Or.inr ⟨by rfl, rfl⟩) hS ?_; try simp only [Act.put, List.setIfInBounds_toArray, List.set_cons_zero, List.set_cons_succ, List.getElem_toArray, List.getElem_cons_zero, List.getElem_cons_succ])
        first
        | (refine wpAnyH_take (i := 5) (v := ?_) rfl (by kernel_rfl) (by kernel_rfl) (by kernel_rfl) (fun _ _ _ h => h) (Or.inl ⟨by rfl, ?_⟩) hS ?_; rotate_left; (· (intro y hy; (try dsimp only at hy); go_simp; try with_reducible rfl)); try simp only [Act.put, List.setIfInBounds_toArray, List.set_cons_zero, List.set_cons_succ, List.getElem_toArray, List.getElem_cons_zero, List.getElem_cons_succ])
        | (refine wpAnyH_take (i := 5) (v := undef) rfl (by kernel_rfl) (by kernel_rfl) (by kernel_rfl) (fun _ _ _ h => h) (Or.inr ⟨by rfl, rfl⟩) hS ?_; try simp only [Act.put, List.setIfInBounds_toArray, List.set_cons_zero, List.set_cons_succ, List.getElem_toArray, List.getElem_cons_zero, List.getElem_cons_succ])
        first
        | (refine wpAnyH_take (i := 6) (v := ?_) rfl (by kernel_rfl) (by kernel_rfl) (by kernel_rfl) (fun _ _ _ h => h) (Or.inl ⟨by rfl, ?_⟩) hS ?_; rotate_left; (· (intro y hy; (try dsimp only at hy); go_simp; try with_reducible rfl)); try simp only [Act.put, List.setIfInBounds_toArray, List.set_cons_zero, List.set_cons_succ, List.getElem_toArray, List.getElem_cons_zero, List.getElem_cons_succ])
        | (refine wpAnyH_take (i := 6) (v := undef) rfl (by kernel_rfl) (by kernel_rfl) (by kernel_rfl) (fun _ _ _ h => h) (Or.inr ⟨by rfl, rfl⟩) hS ?_; try simp only [Act.put, List.setIfInBounds_toArray, List.set_cons_zero, List.set_cons_succ, List.getElem_toArray, List.getElem_cons_zero, List.getElem_cons_succ])
        first
        | (refine wpAnyH_take (i := 8) (v := ?_) rfl (by kernel_rfl) (by kernel_rfl) (by kernel_rfl) (fun _ _ _ h => h) (Or.inl ⟨by rfl, ?_⟩) hS ?_; rotate_left; (· (intro y hy; (try dsimp only at hy); go_simp; try with_reducible rfl)); try simp only [Act.put, List.setIfInBounds_toArray, List.set_cons_zero, List.set_cons_succ, List.getElem_toArray, List.getElem_cons_zero, List.getElem_cons_succ])
        | (refine wpAnyH_take (i := 8) (v := undef) rfl (by kernel_rfl) (by kernel_rfl) (by kernel_rfl) (fun _ _ _ h => h) (Or.inr ⟨by rfl, rfl⟩) hS ?_; try simp only [Act.put, List.setIfInBounds_toArray, List.set_cons_zero, List.set_cons_succ, List.getElem_toArray, List.getElem_cons_zero, List.getElem_cons_succ])
        refine wpAnyH_ready (rs := [7]) (by kernel_rfl) (by simp) ?_
        refine AllReadyH.cons (o := _) rfl (fun K hK => ?_) AllReadyH.nil
        go_simp
        refine (HL1.out _).mono ?_
        rintro e w2 ⟨rfl, hb2⟩
        refine hK.out _ _ (⟨keepSp hS.1 hb2, keepSp hS.2 hb2⟩) (fun hS => ?_)
        clear hK K
        try simp only [Act.put, List.setIfInBounds_toArray, List.set_cons_zero, List.set_cons_succ]
        clear hb2
        refine wpAnyH_ready (rs := [9]) (by kernel_rfl) (by simp) ?_
        refine AllReadyH.cons (o := _) rfl (fun K hK => ?_) AllReadyH.nil
        go_simp
        refine (HL2.out _).mono ?_
        rintro e w2 ⟨rfl, hb2⟩
        refine hK.out _ _ (⟨keepSp hS.1 hb2, keepSp hS.2 hb2⟩) (fun hS => ?_)
        clear hK K
        try simp only [Act.put, List.setIfInBounds_toArray, List.set_cons_zero, List.set_cons_succ]
        clear hb2
        first
        | (refine wpAnyH_take (i := 10) (v := ?_) rfl (by kernel_rfl) (by kernel_rfl) (by kernel_rfl) (fun _ _ _ h => h) (Or.inl ⟨by rfl, ?_⟩) hS ?_; rotate_left; (· (intro y hy; (try dsimp only at hy); go_simp; try with_reducible rfl)); try simp only [Act.put, List.setIfInBounds_toArray, List.set_cons_zero, List.set_cons_succ, List.getElem_toArray, List.getElem_cons_zero, List.getElem_cons_succ])
        | (refine wpAnyH_take (i := 10) (v := undef) rfl (by kernel_rfl) (by kernel_rfl) (by kernel_rfl) (fun _ _ _ h => h) (Or.inr ⟨by rfl, rfl⟩) hS ?_; try simp only [Act.put, List.setIfInBounds_toArray, List.set_cons_zero, List.set_cons_succ, List.getElem_toArray, List.getElem_cons_zero, List.getElem_cons_succ])
        first
        | (refine wpAnyH_take (i := 11) (v := ?_) rfl (by kernel_rfl) (by kernel_rfl) (by kernel_rfl) (fun _ _ _ h => h) (Or.inl ⟨by rfl, ?_⟩) hS ?_; rotate_left; (· (intro y hy; (try dsimp only at hy); go_simp; try with_reducible rfl)); try simp only [Act.put, List.setIfInBounds_toArray, List.set_cons_zero, List.set_cons_succ, List.getElem_toArray, List.getElem_cons_zero, List.getElem_cons_succ])
        | (refine wpAnyH_take (i := 11) (v := undef) rfl (by kernel_rfl) (by kernel_rfl) (by kernel_rfl) (fun _ _ _ h => h) (Or.inr ⟨by rfl, rfl⟩) hS ?_; try simp only [Act.put, List.setIfInBounds_toArray, List.set_cons_zero, List.set_cons_succ, List.getElem_toArray, List.getElem_cons_zero, List.getElem_cons_succ])
        first
        | (refine wpAnyH_take (i := 12) (v := ?_) rfl (by kernel_rfl) (by kernel_rfl) (by kernel_rfl) (fun _ _ _ h => h) (Or.inl ⟨by rfl, ?_⟩) hS ?_; rotate_left; (· (intro y hy; (try dsimp only at hy); go_simp; try with_reducible rfl)); try simp only [Act.put, List.setIfInBounds_toArray, List.set_cons_zero, List.set_cons_succ, List.getElem_toArray, List.getElem_cons_zero, List.getElem_cons_succ])
        | (refine wpAnyH_take (i := 12) (v := undef) rfl (by kernel_rfl) (by kernel_rfl) (by kernel_rfl) (fun _ _ _ h => h) (Or.inr ⟨by rfl, rfl⟩) hS ?_; try simp only [Act.put, List.setIfInBounds_toArray, List.set_cons_zero, List.set_cons_succ, List.getElem_toArray, List.getElem_cons_zero, List.getElem_cons_succ])
        refine wpAnyH_done (by kernel_rfl) ?_ _
        go_wp2
        go_ret
        exact ⟨rfl, hB.trans (hS.1.2.2.2.2.2.mono hB.size)⟩
      · have i1 : decide (k < len2) = false := decide_eq_false h1
        go_wp2_with fail
        refine wp_region_held_drew (S := fun x => At3 wr x q (.int .i64 b) (.int .i64 z) (.int .i64 t1) ∧ At3 wr x q2 (.int .i64 b') (.int .i64 z) (.int .i64 t2)) (by kernel_rfl)
          ⟨⟨c0, c1, c2, Nat.le_refl _, l1, (Below.refl _ wr).drew⟩, d0, d1, d2, Nat.le_refl _, l2, (Below.refl _ wr).drew⟩ (fun hS => ?_)
        clear c0 c1 c2 d0 d1 d2
        first
        | (refine wpAnyH_take (i := 0) (v := ?_) rfl (by kernel_rfl) (by kernel_rfl) (by kernel_rfl) (fun _ _ _ h => h) (Or.inl ⟨by rfl, ?_⟩) hS ?_; rotate_left; (· (intro y hy; (try dsimp only at hy); go_simp; try with_reducible rfl)); try simp only [Act.put, List.setIfInBounds_toArray, List.set_cons_zero, List.set_cons_succ, List.getElem_toArray, List.getElem_cons_zero, List.getElem_cons_succ])
        | (refine wpAnyH_take (i := 0) (v := undef) rfl (by kernel_rfl) (by kernel_rfl) (by kernel_rfl) (fun _ _ _ h => h) (Or.inr ⟨by rfl, rfl⟩) hS ?_; try simp only [Act.put, List.setIfInBounds_toArray, List.set_cons_zero, List.set_cons_succ, List.getElem_toArray, List.getElem_cons_zero, List.getElem_cons_succ])
        first
        | (refine wpAnyH_take (i := 2) (v := ?_) rfl (by kernel_rfl) (by kernel_rfl) (by kernel_rfl) (fun _ _ _ h => h) (Or.inl ⟨by rfl, ?_⟩) hS ?_; rotate_left; (· (intro y hy; (try dsimp only at hy); go_simp; try with_reducible rfl)); try simp only [Act.put, List.setIfInBounds_toArray, List.set_cons_zero, List.set_cons_succ, List.getElem_toArray, List.getElem_cons_zero, List.getElem_cons_succ])
        | (refine wpAnyH_take (i := 2) (v := undef) rfl (by kernel_rfl) (by kernel_rfl) (by kernel_rfl) (fun _ _ _ h => h) (Or.inr ⟨by rfl, rfl⟩) hS ?_; try simp only [Act.put, List.setIfInBounds_toArray, List.set_cons_zero, List.set_cons_succ, List.getElem_toArray, List.getElem_cons_zero, List.getElem_cons_succ])
        refine wpAnyH_ready (rs := [1]) (by kernel_rfl) (by simp) ?_
        refine AllReadyH.cons (o := _) rfl (fun K hK => ?_) AllReadyH.nil
        go_simp
        refine (HU1.out _).mono ?_
        rintro e w2 ⟨rfl, hb2⟩
        refine hK.out _ _ (⟨keepSp hS.1 hb2, keepSp hS.2 hb2⟩) (fun hS => ?_)
        clear hK K
        try simp only [Act.put, List.setIfInBounds_toArray, List.set_cons_zero, List.set_cons_succ]
        clear hb2
        refine wpAnyH_ready (rs := [3]) (by kernel_rfl) (by simp) ?_
        refine AllReadyH.cons (o := _) rfl (fun K hK => ?_) AllReadyH.nil
        go_simp
        refine (HU2.out _).mono ?_
        rintro e w2 ⟨rfl, hb2⟩
        refine hK.out _ _ (⟨keepSp hS.1 hb2, keepSp hS.2 hb2⟩) (fun hS => ?_)
        clear hK K
        try simp only [Act.put, List.setIfInBounds_toArray, List.set_cons_zero, List.set_cons_succ]
        clear hb2
        first
        | (refine wpAnyH_take (i := 4) (v := ?_) rfl (by kernel_rfl) (by kernel_rfl) (by kernel_rfl) (fun _ _ _ h => h) (Or.inl ⟨by rfl, ?_⟩) hS ?_; rotate_left; (· (intro y hy; (try dsimp only at hy); go_simp; try with_reducible rfl)); try simp only [Act.put, List.setIfInBounds_toArray, List.set_cons_zero, List.set_cons_succ, List.getElem_toArray, List.getElem_cons_zero, List.getElem_cons_succ])
        | (refine wpAnyH_take (i := 4) (v := undef) rfl (by kernel_rfl) (by kernel_rfl) (by kernel_rfl) (fun _ _ _ h => h) (Or.inr ⟨by rfl, rfl⟩) hS ?_; try simp only [Act.put, List.setIfInBounds_toArray, List.set_cons_zero, List.set_cons_succ, List.getElem_toArray, List.getElem_cons_zero, List.getElem_cons_succ])
        first
        | (refine wpAnyH_take (i := 5) (v := ?_) rfl (by kernel_rfl) (by kernel_rfl) (by kernel_rfl) (fun _ _ _ h => h) (Or.inl ⟨by rfl, ?_⟩) hS ?_; rotate_left; (· (intro y hy; (try dsimp only at hy); go_simp; try with_reducible rfl)); try simp only [Act.put, List.setIfInBounds_toArray, List.set_cons_zero, List.set_cons_succ, List.getElem_toArray, List.getElem_cons_zero, List.getElem_cons_succ])
        | (refine wpAnyH_take (i := 5) (v := undef) rfl (by kernel_rfl) (by kernel_rfl) (by kernel_rfl) (fun _ _ _ h => h) (Or.inr ⟨by rfl, rfl⟩) hS ?_; try simp only [Act.put, List.setIfInBounds_toArray, List.set_cons_zero, List.set_cons_succ, List.getElem_toArray, List.getElem_cons_zero, List.getElem_cons_succ])
        first
        | (refine wpAnyH_take (i := 6) (v := ?_) rfl (by kernel_rfl) (by kernel_rfl) (by kernel_rfl) (fun _ _ _ h => h) (Or.inl ⟨by rfl, ?_⟩) hS ?_; rotate_left; (· (intro y hy; (try dsimp only at hy); go_simp; try with_reducible rfl)); try simp only [Act.put, List.setIfInBounds_toArray, List.set_cons_zero, List.set_cons_succ, List.getElem_toArray, List.getElem_cons_zero, List.getElem_cons_succ])
        | (refine wpAnyH_take (i := 6) (v := undef) rfl (by kernel_rfl) (by kernel_rfl) (by kernel_rfl) (fun _ _ _ h => h) (Or.inr ⟨by rfl, rfl⟩) hS ?_; try simp only [Act.put, List.setIfInBounds_toArray, List.set_cons_zero, List.set_cons_succ, List.getElem_toArray, List.getElem_cons_zero, List.getElem_cons_succ])
        first
        | (refine wpAnyH_take (i := 8) (v := ?_) rfl (by kernel_rfl) (by kernel_rfl) (by kernel_rfl) (fun _ _ _ h => h) (Or.inl ⟨by rfl, ?_⟩) hS ?_; rotate_left; (· (intro y hy; (try dsimp only at hy); go_simp; try with_reducible rfl)); try simp only [Act.put, List.setIfInBounds_toArray, List.set_cons_zero, List.set_cons_succ, List.getElem_toArray, List.getElem_cons_zero, List.getElem_cons_succ])
        | (refine wpAnyH_take (i := 8) (v := undef) rfl (by kernel_rfl) (by kernel_rfl) (by kernel_rfl) (fun _ _ _ h => h) (Or.inr ⟨by rfl, rfl⟩) hS ?_; try simp only [Act.put, List.setIfInBounds_toArray, List.set_cons_zero, List.set_cons_succ, List.getElem_toArray, List.getElem_cons_zero, List.getElem_cons_succ])
        refine wpAnyH_ready (rs := [7]) (by kernel_rfl) (by simp) ?_
        refine AllReadyH.cons (o := _) rfl (fun K hK => ?_) AllReadyH.nil
        go_simp
        refine (HL1.out _).mono ?_
        rintro e w2 ⟨rfl, hb2⟩
        refine hK.out _ _ (⟨keepSp hS.1 hb2, keepSp hS.2 hb2⟩) (fun hS => ?_)
        clear hK K
        try simp only [Act.put, List.setIfInBounds_toArray, List.set_cons_zero, List.set_cons_succ]
        clear hb2
        refine wpAnyH_ready (rs := [9]) (by kernel_rfl) (by simp) ?_
        refine AllReadyH.cons (o := _) rfl (fun K hK => ?_) AllReadyH.nil
        go_simp
        refine (HL2.out _).mono ?_
        rintro e w2 ⟨rfl, hb2⟩
        refine hK.out _ _ (⟨keepSp hS.1 hb2, keepSp hS.2 hb2⟩) (fun hS => ?_)
        clear hK K
        try simp only [Act.put, List.setIfInBounds_toArray, List.set_cons_zero, List.set_cons_succ]
        clear hb2
        first
        | (refine wpAnyH_take (i := 10) (v := ?_) rfl (by kernel_rfl) (by kernel_rfl) (by kernel_rfl) (fun _ _ _ h => h) (Or.inl ⟨by rfl, ?_⟩) hS ?_; rotate_left; (· (intro y hy; (try dsimp only at hy); go_simp; try with_reducible rfl)); try simp only [Act.put, List.setIfInBounds_toArray, List.set_cons_zero, List.set_cons_succ, List.getElem_toArray, List.getElem_cons_zero, List.getElem_cons_succ])
        | (refine wpAnyH_take (i := 10) (v := undef) rfl (by kernel_rfl) (by kernel_rfl) (by kernel_rfl) (fun _ _ _ h => h) (Or.inr ⟨by rfl, rfl⟩) hS ?_; try simp only [Act.put, List.setIfInBounds_toArray, List.set_cons_zero, List.set_cons_succ, List.getElem_toArray, List.getElem_cons_zero, List.getElem_cons_succ])
        first
        | (refine wpAnyH_take (i := 11) (v := ?_) rfl (by kernel_rfl) (by kernel_rfl) (by kernel_rfl) (fun _ _ _ h => h) (Or.inl ⟨by rfl, ?_⟩) hS ?_; rotate_left; (· (intro y hy; (try dsimp only at hy); go_simp; try with_reducible rfl)); try simp only [Act.put, List.setIfInBounds_toArray, List.set_cons_zero, List.set_cons_succ, List.getElem_toArray, List.getElem_cons_zero, List.getElem_cons_succ])
        | (refine wpAnyH_take (i := 11) (v := undef) rfl (by kernel_rfl) (by kernel_rfl) (by kernel_rfl) (fun _ _ _ h => h) (Or.inr ⟨by rfl, rfl⟩) hS ?_; try simp only [Act.put, List.setIfInBounds_toArray, List.set_cons_zero, List.set_cons_succ, List.getElem_toArray, List.getElem_cons_zero, List.getElem_cons_succ])
        first
        | (refine wpAnyH_take (i := 12) (v := ?_) rfl (by kernel_rfl) (by kernel_rfl) (by kernel_rfl) (fun _ _ _ h => h) (Or.inl ⟨by rfl, ?_⟩) hS ?_; rotate_left; (· (intro y hy; (try dsimp only at hy); go_simp; try with_reducible rfl)); try simp only [Act.put, List.setIfInBounds_toArray, List.set_cons_zero, List.set_cons_succ, List.getElem_toArray, List.getElem_cons_zero, List.getElem_cons_succ])
        | (refine wpAnyH_take (i := 12) (v := undef) rfl (by kernel_rfl) (by kernel_rfl) (by kernel_rfl) (fun _ _ _ h => h) (Or.inr ⟨by rfl, rfl⟩) hS ?_; try simp only [Act.put, List.setIfInBounds_toArray, List.set_cons_zero, List.set_cons_succ, List.getElem_toArray, List.getElem_cons_zero, List.getElem_cons_succ])
        refine wpAnyH_done (by kernel_rfl) ?_ _
        go_wp2
        go_ret
        exact ⟨rfl, hB.trans (hS.1.2.2.2.2.2.mono hB.size)⟩

set_option maxRecDepth 100000 in
theorem lifted (os : Os) (started : os.Started) (H : Type) (enc : TypeId × Value → H) :
    ReturnsInHanded {} Try.checked os 5 .any (Rows.spaceShiftsSpec.pre6 enc Try.prog Try.f5 Rows.spaceShiftsRow.domain false) (Rows.spaceShiftsSpec.post enc Try.prog Try.f5 false true false false) := by
  refine returnsInHanded_of_change (C := Try.checked) own started (by kernel_rfl) Try.func5
    (ChangeSpec.witness6 (enc := enc) (C := Try.checked) false ⟨#[], #[.agg #[.int .i64 0, .int .i64 0, .int .i64 0], .int .i64 0, .slice none 0 0], []⟩ 8 (by kernel_rfl) (by kernel_rfl) (by kernel_rfl) (by kernel_rfl)) ?_
  intro W base args ds gs before hval0 hW hcnd _
  have hval : ∀ (j : Nat) t v, Try.f5.params[j]? = some t → args[j]? = some v → Value.okWide Try.prog W .any base t v := hval0
  have hW' := hW
  obtain ⟨p, q, hA0, hV, rfl, hfz, hnd⟩ := hW
  have hA : DataW.TrodAll enc Try.prog W 0 (fun _ => true) true Try.f5.params.toList args.toList ds p := hA0
  rw [Try.params5] at hA hval
  obtain ⟨v0, vs0, d0, ds0, p0, q0, hargs, rfl, rfl, h0, r0⟩ := trodAll_cons hA
  obtain ⟨v1, vs1, d1, ds1, p1, q1, rfl, rfl, rfl, h1, r1⟩ := trodAll_cons r0
  obtain ⟨v2, vs2, d2, ds2, p2, q2, rfl, rfl, rfl, h2, r2⟩ := trodAll_cons r1
  obtain ⟨rfl, rfl, rfl⟩ := trodAll_nil r2
  obtain rfl : args = #[v0, v1, v2] := by cases args; simp_all
  obtain ⟨rfl, rfl⟩ := trodVars_none hV
  have k0 := h0
  have lt0 : ∀ x ∈ p0, x.block < W.heap.size := by obtain ⟨m, hm⟩ := k0; exact DataW.trod_lt m _ _ _ hm
  have ce0 : Try.prog.cellsOf 3 = 1 := by kernel_rfl
  have cc0 : Try.prog.cellsOf 22 = 3 := by kernel_rfl
  have x0 := open_ints_array Try.underlying22 Try.underlying3 ce0 cc0 (hval 0 22 v0 rfl rfl) h0
  obtain ⟨z0, hl0, hv0, hz0⟩ := x0
  subst hv0
  have y0 := list3 hl0
  obtain ⟨a0x0, a0x1, a0x2, hy0⟩ := y0
  subst hy0
  have w0x0 := bounds_i64 (hz0 a0x0 (by simp))
  have w0x1 := bounds_i64 (hz0 a0x1 (by simp))
  have w0x2 := bounds_i64 (hz0 a0x2 (by simp))
  obtain ⟨a1, rfl, rfl, rfl, w1⟩ := open_int Try.underlying3 (hval 1 3 v1 rfl rfl) h1
  obtain ⟨a2, len2, cap2, rfl⟩ := okWide_slice Try.underlying23 (hval 2 23 v2 rfl rfl)
  have k2 := h2
  have lt2 : ∀ x ∈ p2, x.block < W.heap.size := by obtain ⟨m, hm⟩ := k2; exact DataW.trod_lt m _ _ _ hm
  obtain ⟨z2, w2⟩ := open_row Try.underlying23 Try.underlying3 (by kernel_rfl) h2
  clear hA0 hval0
  refine (walk a0x0 a0x1 a0x2 a1 a2 len2 cap2 z2 W w0x0 w0x1 w0x2 (bounds_i64 w1) w2).mono fun e W' ⟨he, bel⟩ => ?_
  subst he
  exact ⟨_, rfl, _, _, _, [], _, [], hW', trodAll_mk1 (shut_bool Try.underlying4 _), (trodAll_cons_mk (Below.trod laidOut (by kernel_rfl) (of_decide_eq_true (by kernel_rfl)) k0 bel lt0) (trodAll_cons_mk (shut_int Try.underlying3 w1) (trodAll_cons_mk (Below.trod laidOut (by kernel_rfl) (of_decide_eq_true (by kernel_rfl)) k2 bel lt2) trodAll_mk0))), rfl, bel.frame _, fun h => by cases h⟩

theorem over : Rows.spaceShiftsRow.holds Try.pinned (OpenSpec.ofChange Rows.spaceShiftsSpec) :=
  OpenClaim.holds_of_wide 5 Try.f5 rfl rfl rfl rfl rfl rfl rfl ⟨rfl, rfl, rfl, rfl, rfl⟩ rfl rfl rfl rfl rfl (by kernel_rfl) Try.func5 (by kernel_rfl)
    (of_decide_eq_true (by kernel_rfl)) (by unfold Func.isWrapper; first | (rw [if_pos (by decide +kernel)]; kernel_rfl) | (rw [if_neg (by decide +kernel)]; exact ⟨rfl, rfl⟩))
    (fun os started H enc _ => lifted os started H enc)

theorem proved : Rows.SpaceShiftsSaid := over
#print axioms proved

end Go.Proofs.Ytdaopelbijkdiaa.spaceShifts
