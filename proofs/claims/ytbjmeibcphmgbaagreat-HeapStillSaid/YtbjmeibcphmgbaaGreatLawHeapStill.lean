/- For every list of raw ops without a flip: as long as nothing is moved, Scan, Finals, Drop and Moved do nothing: the law HeapStill returns true and its argument reads as it did. No condition. -/
import Derived.Test.YtbjmeibcphmgbaaGreatBase4
namespace Go.Proofs.YtbjmeibcphmgbaaGreat.heapStill
open Go.ChangeShapes Go.WideShapes Go.ChangeAt Go.RowKit
set_option linter.unusedVariables false
set_option linter.unusedSimpArgs false

set_option maxRecDepth 100000 in
set_option maxHeartbeats 4000000 in
theorem walk (a0 : Option Addr) (len0 cap0 : Nat) (z0 : Nat → Nat → Value) (w : World) (h0 : IsFlat opKs w a0 len0 cap0 z0) :
    Calls Tryz.prog 6 #[.slice a0 len0 cap0] w fun e w' => e = .returned (.bool true) ∧ Below w.heap.size w w' := by
  have H0 := Lib.hid h0
  have hl0 := flat_len h0
  clear h0
  obtain ⟨n, hn⟩ : ∃ n, w.heap.size = n := ⟨_, rfl⟩
  have Hn := Lib.hid hn
  rw [hn]
  go_enter Tryz.func6, Tryz.ntmps6
  go_wp2_with fail
  refine (awake_yes _).mono ?_
  rintro e x ⟨rfl, hB⟩
  rw [hn] at hB
  clear hn
  have hxn : n ≤ x.heap.size := by have := hB.size; have := Hn.out; omega
  have MB := begin_from 150 (by omega) (by omega) n x hxn
  go_wp2_with fail
  refine MB.mono ?_
  rintro e y ⟨T, A, B, rfl, hT, hb⟩
  replace hB := hB.trans hb
  have G0 := Lib.hid (ali_new true (z := 150) (by omega) (by omega))
  have hm0 : (⟨Hp.new 150, Hp.new 16000, [0, 0, 0, 0], [0, 0, 0, 0]⟩ : St).s.mv = false := rfl
  generalize (⟨Hp.new 150, Hp.new 16000, [0, 0, 0, 0], [0, 0, 0, 0]⟩ : St) = t0 at *
  have HM0 := Lib.hid hm0
  clear MB hb hxn x hm0
  go_wp2_with fail
  go_loopw [5] (fun i wr => ∃ (k : Nat) (t : St), k ≤ 30 ∧ k ≤ len0 ∧ i = .int .i64 k ∧ Hid (Ali true 150 k t) ∧ Hid (t.s.mv = false) ∧ TwinFrom n wr T A B t ∧ Below n w wr) (fun i _ => 30 - (intOf i).toNat)
  case atStart => exact ⟨0, t0, by omega, by omega, rfl, G0, HM0, hT, hB⟩
  case round =>
    clear hT hB G0 HM0
    obtain ⟨k, t, hk, hk0, rfl, hG, hM, hT, hB⟩ := hrel
    have hwr : n ≤ wr.heap.size := by have := hB.size; have := Hn.out; omega
    by_cases hlt : k < len0 ∧ k < 30
    · have d0 : decide ((k : Int) < (len0 : Int)) = true := decide_eq_true (by omega)
      have d1 : decide ((k : Int) < 30) = true := decide_eq_true (by omega)
      obtain ⟨ob, oo, o0, o1, o2, o3, o4, o5, o6, o7, eo, hob, hop⟩ := op_at H0.out hlt.1
      subst eo
      replace hop := hop.on hB (by have := Hn.out; omega)
      obtain ⟨c0, c1, c2, c3, c4, c5, c6, c7⟩ := hop.c
      have b0 : (0 : Int) ≤ (k : Int) := by omega
      have b1 : (k : Int) < (len0 : Int) := by omega
      have MP := fun x => pick_any o0 9 x hop.b0.1 hop.b0.2 (by omega) (by omega)
      have hK := pick_bounds o0 9 (by omega)
      have hK9 := pick9 o0
      obtain ⟨K, hKe⟩ : ∃ K, pickOf o0 9 = K := ⟨_, rfl⟩
      rw [hKe] at hK hK9 MP
      have ko := BlkIs.new wr #[.int .i64 o0, .int .i64 o1, .int .i64 o2, .int .i64 o3, .int .i64 o4, .int .i64 o5, .int .i64 o6, .int .i64 o7] 29
      have hb := (Below.refl wr.heap.size wr).alloc (Nat.le_refl _) (.cells #[.int .i64 o0, .int .i64 o1, .int .i64 o2, .int .i64 o3, .int .i64 o4, .int .i64 o5, .int .i64 o6, .int .i64 o7] 29)
      obtain ⟨Qb, hQb⟩ : ∃ Qb, wr.heap.size = Qb := ⟨_, rfl⟩
      clear hKe
      go_wp2_with fail
      rw [hQb] at ko
      obtain ⟨x, hxx⟩ : ∃ x, wr.alloc (.cells #[.int .i64 o0, .int .i64 o1, .int .i64 o2, .int .i64 o3, .int .i64 o4, .int .i64 o5, .int .i64 o6, .int .i64 o7] 29) = x := ⟨_, rfl⟩
      rw [hxx] at ko hb ⊢
      clear hxx
      refine (MP _).mono ?_
      rintro e _ ⟨rfl, rfl⟩
      have hb2 := hb.setCell (p := ⟨Qb, 0, none⟩) (by rw [hQb]; exact Nat.le_refl _) (.int .i64 K)
      have ko2 := ko.set 0 (.int .i64 K)
      have hwr2 : n ≤ (x.setCell ⟨Qb, 0, none⟩ (.int .i64 K)).heap.size := Nat.le_trans hwr hb2.size
      have MD := does_yes (nice_ali true 150) hwr2 (hT.on hb2) hG.out (by omega) K o1 o2 o3 o4 o5 o6 o7 ⟨by omega, by omega⟩ hop.b1 hop.b2 hop.b3 hop.b4 hop.b5 hop.b6 hop.b7
      have hB2 := hB.trans (hb2.mono hwr)
      have f0 := ko.free 0
      obtain ⟨e0, e1, e2, e3, e4, e5, e6, e7, -⟩ := ko.facts8
      clear MP c0 c1 c2 c3 c4 c5 c6 c7 hop hT hb hb2 hB ko2 ko hQb
      go_wp2_with fail
      refine MD.mono ?_
      rintro e y1 ⟨rfl, t', hT, hG', hb, hkeep⟩
      have hkeep := hkeep hK9
      have hw1 : n ≤ y1.heap.size := by have := hb.size; omega
      replace hB := hB2.trans hb
      have HG' := Lib.hid hG'
      clear MD hG hG' hb hB2 hwr2 e0 e1 e2 e3 e4 e5 e6 e7 f0
      have HM' : Hid (t'.s.mv = false) := Lib.hid (hkeep.1.trans hM.out)
      clear hkeep hM
      go_wp2
      go_roundw
      case rel => exact ⟨k + 1, t', by omega, by omega, by go_num, HG', HM', hT, hB⟩
      case measure => simp [intOf]; omega
    · by_cases hl : k < len0
      · have d0 : decide ((k : Int) < (len0 : Int)) = true := decide_eq_true (by omega)
        have d1 : decide ((k : Int) < 30) = false := decide_eq_false (by omega)
        have hR4 := hG.out.rl
        obtain ⟨KA, hKA, -, -, -⟩ := hT.goA hwr
        have MR := roomA hKA hG.out.os
        have cA := hT.cells.1
        obtain ⟨rm, hrm⟩ : ∃ rm, t.s.room = rm := ⟨_, rfl⟩
        rw [hrm] at MR
        have HRM := Lib.hid hrm
        clear hrm
        go_wp2_with fail
        refine MR.mono ?_
        rintro e y1 ⟨rfl, hb⟩
        replace hT := hT.on hb
        have hw1 := Nat.le_trans hwr hb.size
        replace hB := hB.trans (hb.mono hwr)
        clear MR hKA cA hb
        obtain ⟨KA, hKA, -, -, -⟩ := hT.goA hw1
        have MR := dropH_no hKA hG.out.os.sound (.inl hM.out)
        have cA := hT.cells.1
        go_wp2_with fail
        refine MR.mono ?_
        rintro e y2 ⟨rfl, hb⟩
        replace hT := hT.on hb
        have hw2 := Nat.le_trans hw1 hb.size
        replace hB := hB.trans (hb.mono hw1)
        clear MR hKA cA hb hw1 hwr
        obtain ⟨yy, rfl⟩ : ∃ yy : World, yy = y2 := ⟨_, rfl⟩
        go_wp2_with fail
        go_loopw [10] (fun i wq => ∃ l : Nat, l ≤ 4 ∧ i = .int .i64 l ∧ TwinFrom n wq T A B t ∧ Below n w wq) (fun i _ => 4 - (intOf i).toNat)
        case atStart => exact ⟨0, by omega, rfl, hT, hB⟩
        case round =>
          clear hT hB hw2
          obtain ⟨l, hl4, rfl, hT, hB⟩ := hrel
          have hwr : n ≤ wr.heap.size := by have := hB.size; have := Hn.out; omega
          by_cases hlt4 : l < 4
          · have d2 : decide ((l : Int) < 4) = true := decide_eq_true (by omega)
            have l0 : (0 : Int) ≤ (l : Int) := by omega
            have l1 : (l : Int) < 4 := by omega
            have hd := (Below.refl wr.heap.size wr).drew
            have hT2 := hT.on hd
            obtain ⟨KA, hKA, -, -, hWA⟩ := hT2.goA hwr
            have hpk := (hG.out.os.stop hM.out).1
            have hmv := movV_out (s := t.s) (p := t.R.getD l 0) (by rw [hpk]; simp)
            have hin : InOk t.s (t.R.getD l 0) := (hG.out.ri _ (getD_memN (by rw [hG.out.rl]; exact hlt4))).imp id .inl
            have MA := movedH hG.out.os hKA hin
            rw [hmv.1, hmv.2] at MA
            obtain ⟨cA, -, cR, -, -⟩ := hT2.cells
            have cRl := cR l hlt4
            obtain ⟨p, hp⟩ : ∃ p, t.R.getD l 0 = p := ⟨_, rfl⟩
            rw [hp] at MA cRl
            have HP := Lib.hid hp
            have e0 : ((p : Int) != (p : Int)) = false := bne_self_eq_false' _
            clear hp cR hmv hpk hin hT
            go_wp2_with fail
            refine wp_region_held_drew (S := fun y => y.cell? ⟨T, 0, none⟩ = some (.pointer (some ⟨A, 0, none⟩)) ∧ y.cell? ⟨T, 2 + l, none⟩ = some (.int .i64 p)) (by kernel_rfl) ⟨cA, cRl⟩ (fun hS => ?_)
            have hc_ : Cnt 0 := trivial
            iterate 10 ((first | (refine takeC hc_ (v := ?_) rfl (by kernel_rfl) (by kernel_rfl) (by kernel_rfl) (fun _ _ _ h => h) (Or.inl ⟨by rfl, ?_⟩) hS ?_; rotate_left; (· (intro y hy; (try dsimp only at hy); go_simp; try with_reducible rfl))) | refine takeC hc_ (v := undef) rfl (by kernel_rfl) (by kernel_rfl) (by kernel_rfl) (fun _ _ _ h => h) (Or.inr ⟨by rfl, rfl⟩) hS ?_); try simp only [Act.put, List.setIfInBounds_toArray, List.set_cons_zero, List.set_cons_succ, List.getElem_toArray, List.append, List.getElem_cons_zero, List.getElem_cons_succ]; replace hc_ := hc_.next; simp only [Nat.reduceAdd] at hc_)
            clear hc_
            have hc_ : Cnt 11 := trivial
            iterate 6 ((first | (refine takeC hc_ (v := ?_) rfl (by kernel_rfl) (by kernel_rfl) (by kernel_rfl) (fun _ _ _ h => h) (Or.inl ⟨by rfl, ?_⟩) hS ?_; rotate_left; (· (intro y hy; (try dsimp only at hy); go_simp; try with_reducible rfl))) | refine takeC hc_ (v := undef) rfl (by kernel_rfl) (by kernel_rfl) (by kernel_rfl) (fun _ _ _ h => h) (Or.inr ⟨by rfl, rfl⟩) hS ?_); try simp only [Act.put, List.setIfInBounds_toArray, List.set_cons_zero, List.set_cons_succ, List.getElem_toArray, List.append, List.getElem_cons_zero, List.getElem_cons_succ]; replace hc_ := hc_.next; simp only [Nat.reduceAdd] at hc_)
            clear hc_
            refine wpAnyH_ready (rs := [10]) (by kernel_rfl) (by simp) ?_
            refine AllReadyH.cons (o := _) rfl (fun K hK => ?_) AllReadyH.nil
            go_simp
            refine MA.mono ?_
            rintro e y3 ⟨rfl, hW⟩
            obtain ⟨hT3, hb3⟩ := hWA _ _ hW
            have cA3 := hT3.cells.1
            have cR3 : y3.cell? ⟨T, 2 + l, none⟩ = some (.int .i64 p) := by rw [← HP.out]; exact hT3.cells.2.2.1 l hlt4
            refine hK.out _ _ (⟨cA3, cR3⟩) (fun hS => ?_)
            clear hK K
            try simp only [Act.put, List.setIfInBounds_toArray, List.set_cons_zero, List.set_cons_succ]
            have hc_ : Cnt 17 := trivial
            iterate 1 ((first | (refine takeC hc_ (v := ?_) rfl (by kernel_rfl) (by kernel_rfl) (by kernel_rfl) (fun _ _ _ h => h) (Or.inl ⟨by rfl, ?_⟩) hS ?_; rotate_left; (· (intro y hy; (try dsimp only at hy); go_simp; try with_reducible rfl))) | refine takeC hc_ (v := undef) rfl (by kernel_rfl) (by kernel_rfl) (by kernel_rfl) (fun _ _ _ h => h) (Or.inr ⟨by rfl, rfl⟩) hS ?_); try simp only [Act.put, List.setIfInBounds_toArray, List.set_cons_zero, List.set_cons_succ, List.getElem_toArray, List.append, List.getElem_cons_zero, List.getElem_cons_succ]; replace hc_ := hc_.next; simp only [Nat.reduceAdd] at hc_)
            clear hc_
            refine wpAnyH_done (by kernel_rfl) ?_ _
            have hB3 := hB.trans ((Below.refl n wr).drew.trans hb3)
            clear hS MA hW hWA hKA cA cRl cA3 cR3 hT2 hb3 hB hd
            go_wp2
            go_roundw
            case rel => exact ⟨l + 1, by omega, by go_num, hT3, hB3⟩
            case measure => simp [intOf]; omega
          · have d2 : decide ((l : Int) < 4) = false := decide_eq_false (by omega)
            have MS := scanStillT hwr hT hM.out
            have cA := hT.cells.1
            go_wp2_with fail
            refine MS.mono ?_
            rintro e v1 ⟨rfl, hT, hb⟩
            replace hB := hB.trans hb
            have hv1 : n ≤ v1.heap.size := by have := hB.size; have := Hn.out; omega
            clear MS cA hb
            have MS := finsStillT hv1 hT hM.out
            have cA := hT.cells.1
            go_wp2_with fail
            refine MS.mono ?_
            rintro e v2 ⟨rfl, hT, hb⟩
            replace hB := hB.trans hb
            have hv2 : n ≤ v2.heap.size := by have := hB.size; have := Hn.out; omega
            clear MS cA hb
            have MS := movingT hv2 hT
            rw [hM.out] at MS
            have cA := hT.cells.1
            go_wp2_with fail
            refine MS.mono ?_
            rintro e v3 ⟨rfl, hT, hb⟩
            replace hB := hB.trans hb
            have hv3 : n ≤ v3.heap.size := by have := hB.size; have := Hn.out; omega
            clear MS cA hb
            have MS := roomT hv3 hT hG.out.os
            rw [HRM.out] at MS
            have cA := hT.cells.1
            have er : ((rm : Int) == (rm : Int)) = true := by simp
            go_wp2_with fail
            refine MS.mono ?_
            rintro e v4 ⟨rfl, hT, hb⟩
            replace hB := hB.trans hb
            have hv4 : n ≤ v4.heap.size := by have := hB.size; have := Hn.out; omega
            clear MS cA hb
            have MS := alikeT hv4 hT hG.out
            go_wp2_with fail
            refine MS.mono ?_
            rintro e v5 ⟨rfl, hT, hb⟩
            replace hB := hB.trans hb
            clear MS hb
            go_wp2
            go_ret
            exact ⟨rfl, hB⟩
      · have d0 : decide ((k : Int) < (len0 : Int)) = false := decide_eq_false (by omega)
        have hR4 := hG.out.rl
        obtain ⟨KA, hKA, -, -, -⟩ := hT.goA hwr
        have MR := roomA hKA hG.out.os
        have cA := hT.cells.1
        obtain ⟨rm, hrm⟩ : ∃ rm, t.s.room = rm := ⟨_, rfl⟩
        rw [hrm] at MR
        have HRM := Lib.hid hrm
        clear hrm
        go_wp2_with fail
        refine MR.mono ?_
        rintro e y1 ⟨rfl, hb⟩
        replace hT := hT.on hb
        have hw1 := Nat.le_trans hwr hb.size
        replace hB := hB.trans (hb.mono hwr)
        clear MR hKA cA hb
        obtain ⟨KA, hKA, -, -, -⟩ := hT.goA hw1
        have MR := dropH_no hKA hG.out.os.sound (.inl hM.out)
        have cA := hT.cells.1
        go_wp2_with fail
        refine MR.mono ?_
        rintro e y2 ⟨rfl, hb⟩
        replace hT := hT.on hb
        have hw2 := Nat.le_trans hw1 hb.size
        replace hB := hB.trans (hb.mono hw1)
        clear MR hKA cA hb hw1 hwr
        obtain ⟨yy, rfl⟩ : ∃ yy : World, yy = y2 := ⟨_, rfl⟩
        go_wp2_with fail
        go_loopw [10] (fun i wq => ∃ l : Nat, l ≤ 4 ∧ i = .int .i64 l ∧ TwinFrom n wq T A B t ∧ Below n w wq) (fun i _ => 4 - (intOf i).toNat)
        case atStart => exact ⟨0, by omega, rfl, hT, hB⟩
        case round =>
          clear hT hB hw2
          obtain ⟨l, hl4, rfl, hT, hB⟩ := hrel
          have hwr : n ≤ wr.heap.size := by have := hB.size; have := Hn.out; omega
          by_cases hlt4 : l < 4
          · have d2 : decide ((l : Int) < 4) = true := decide_eq_true (by omega)
            have l0 : (0 : Int) ≤ (l : Int) := by omega
            have l1 : (l : Int) < 4 := by omega
            have hd := (Below.refl wr.heap.size wr).drew
            have hT2 := hT.on hd
            obtain ⟨KA, hKA, -, -, hWA⟩ := hT2.goA hwr
            have hpk := (hG.out.os.stop hM.out).1
            have hmv := movV_out (s := t.s) (p := t.R.getD l 0) (by rw [hpk]; simp)
            have hin : InOk t.s (t.R.getD l 0) := (hG.out.ri _ (getD_memN (by rw [hG.out.rl]; exact hlt4))).imp id .inl
            have MA := movedH hG.out.os hKA hin
            rw [hmv.1, hmv.2] at MA
            obtain ⟨cA, -, cR, -, -⟩ := hT2.cells
            have cRl := cR l hlt4
            obtain ⟨p, hp⟩ : ∃ p, t.R.getD l 0 = p := ⟨_, rfl⟩
            rw [hp] at MA cRl
            have HP := Lib.hid hp
            have e0 : ((p : Int) != (p : Int)) = false := bne_self_eq_false' _
            clear hp cR hmv hpk hin hT
            go_wp2_with fail
            refine wp_region_held_drew (S := fun y => y.cell? ⟨T, 0, none⟩ = some (.pointer (some ⟨A, 0, none⟩)) ∧ y.cell? ⟨T, 2 + l, none⟩ = some (.int .i64 p)) (by kernel_rfl) ⟨cA, cRl⟩ (fun hS => ?_)
            have hc_ : Cnt 0 := trivial
            iterate 10 ((first | (refine takeC hc_ (v := ?_) rfl (by kernel_rfl) (by kernel_rfl) (by kernel_rfl) (fun _ _ _ h => h) (Or.inl ⟨by rfl, ?_⟩) hS ?_; rotate_left; (· (intro y hy; (try dsimp only at hy); go_simp; try with_reducible rfl))) | refine takeC hc_ (v := undef) rfl (by kernel_rfl) (by kernel_rfl) (by kernel_rfl) (fun _ _ _ h => h) (Or.inr ⟨by rfl, rfl⟩) hS ?_); try simp only [Act.put, List.setIfInBounds_toArray, List.set_cons_zero, List.set_cons_succ, List.getElem_toArray, List.append, List.getElem_cons_zero, List.getElem_cons_succ]; replace hc_ := hc_.next; simp only [Nat.reduceAdd] at hc_)
            clear hc_
            have hc_ : Cnt 11 := trivial
            iterate 6 ((first | (refine takeC hc_ (v := ?_) rfl (by kernel_rfl) (by kernel_rfl) (by kernel_rfl) (fun _ _ _ h => h) (Or.inl ⟨by rfl, ?_⟩) hS ?_; rotate_left; (· (intro y hy; (try dsimp only at hy); go_simp; try with_reducible rfl))) | refine takeC hc_ (v := undef) rfl (by kernel_rfl) (by kernel_rfl) (by kernel_rfl) (fun _ _ _ h => h) (Or.inr ⟨by rfl, rfl⟩) hS ?_); try simp only [Act.put, List.setIfInBounds_toArray, List.set_cons_zero, List.set_cons_succ, List.getElem_toArray, List.append, List.getElem_cons_zero, List.getElem_cons_succ]; replace hc_ := hc_.next; simp only [Nat.reduceAdd] at hc_)
            clear hc_
            refine wpAnyH_ready (rs := [10]) (by kernel_rfl) (by simp) ?_
            refine AllReadyH.cons (o := _) rfl (fun K hK => ?_) AllReadyH.nil
            go_simp
            refine MA.mono ?_
            rintro e y3 ⟨rfl, hW⟩
            obtain ⟨hT3, hb3⟩ := hWA _ _ hW
            have cA3 := hT3.cells.1
            have cR3 : y3.cell? ⟨T, 2 + l, none⟩ = some (.int .i64 p) := by rw [← HP.out]; exact hT3.cells.2.2.1 l hlt4
            refine hK.out _ _ (⟨cA3, cR3⟩) (fun hS => ?_)
            clear hK K
            try simp only [Act.put, List.setIfInBounds_toArray, List.set_cons_zero, List.set_cons_succ]
            have hc_ : Cnt 17 := trivial
            iterate 1 ((first | (refine takeC hc_ (v := ?_) rfl (by kernel_rfl) (by kernel_rfl) (by kernel_rfl) (fun _ _ _ h => h) (Or.inl ⟨by rfl, ?_⟩) hS ?_; rotate_left; (· (intro y hy; (try dsimp only at hy); go_simp; try with_reducible rfl))) | refine takeC hc_ (v := undef) rfl (by kernel_rfl) (by kernel_rfl) (by kernel_rfl) (fun _ _ _ h => h) (Or.inr ⟨by rfl, rfl⟩) hS ?_); try simp only [Act.put, List.setIfInBounds_toArray, List.set_cons_zero, List.set_cons_succ, List.getElem_toArray, List.append, List.getElem_cons_zero, List.getElem_cons_succ]; replace hc_ := hc_.next; simp only [Nat.reduceAdd] at hc_)
            clear hc_
            refine wpAnyH_done (by kernel_rfl) ?_ _
            have hB3 := hB.trans ((Below.refl n wr).drew.trans hb3)
            clear hS MA hW hWA hKA cA cRl cA3 cR3 hT2 hb3 hB hd
            go_wp2
            go_roundw
            case rel => exact ⟨l + 1, by omega, by go_num, hT3, hB3⟩
            case measure => simp [intOf]; omega
          · have d2 : decide ((l : Int) < 4) = false := decide_eq_false (by omega)
            have MS := scanStillT hwr hT hM.out
            have cA := hT.cells.1
            go_wp2_with fail
            refine MS.mono ?_
            rintro e v1 ⟨rfl, hT, hb⟩
            replace hB := hB.trans hb
            have hv1 : n ≤ v1.heap.size := by have := hB.size; have := Hn.out; omega
            clear MS cA hb
            have MS := finsStillT hv1 hT hM.out
            have cA := hT.cells.1
            go_wp2_with fail
            refine MS.mono ?_
            rintro e v2 ⟨rfl, hT, hb⟩
            replace hB := hB.trans hb
            have hv2 : n ≤ v2.heap.size := by have := hB.size; have := Hn.out; omega
            clear MS cA hb
            have MS := movingT hv2 hT
            rw [hM.out] at MS
            have cA := hT.cells.1
            go_wp2_with fail
            refine MS.mono ?_
            rintro e v3 ⟨rfl, hT, hb⟩
            replace hB := hB.trans hb
            have hv3 : n ≤ v3.heap.size := by have := hB.size; have := Hn.out; omega
            clear MS cA hb
            have MS := roomT hv3 hT hG.out.os
            rw [HRM.out] at MS
            have cA := hT.cells.1
            have er : ((rm : Int) == (rm : Int)) = true := by simp
            go_wp2_with fail
            refine MS.mono ?_
            rintro e v4 ⟨rfl, hT, hb⟩
            replace hB := hB.trans hb
            have hv4 : n ≤ v4.heap.size := by have := hB.size; have := Hn.out; omega
            clear MS cA hb
            have MS := alikeT hv4 hT hG.out
            go_wp2_with fail
            refine MS.mono ?_
            rintro e v5 ⟨rfl, hT, hb⟩
            replace hB := hB.trans hb
            clear MS hb
            go_wp2
            go_ret
            exact ⟨rfl, hB⟩

set_option maxRecDepth 100000 in
theorem lifted (os : Os) (started : os.Started) (H : Type) (enc : TypeId × Value → H) :
    ReturnsInHanded {} Tryz.checked os 6 .any (Rows.heapStillSpec.pre6 enc Tryz.prog Tryz.f6 Rows.heapStillRow.domain false) (Rows.heapStillSpec.post enc Tryz.prog Tryz.f6 false true false false) := by
  refine returnsInHanded_of_change (C := Tryz.checked) own started (by kernel_rfl) Tryz.func6
    (ChangeSpec.witness6 (enc := enc) (C := Tryz.checked) false ⟨#[], #[.slice none 0 0], []⟩ 8 (by kernel_rfl) (by kernel_rfl) (by kernel_rfl) (by kernel_rfl)) ?_
  intro W base args ds gs before hval0 hW hcnd _
  have hval : ∀ (j : Nat) t v, Tryz.f6.params[j]? = some t → args[j]? = some v → Value.okWide Tryz.prog W .any base t v := hval0
  have hW' := hW
  obtain ⟨p, q, hA0, hV, rfl, hfz, hnd⟩ := hW
  have hA : DataW.TrodAll enc Tryz.prog W 0 (fun _ => true) true Tryz.f6.params.toList args.toList ds p := hA0
  rw [Tryz.params6] at hA hval
  obtain ⟨v0, vs0, d0, ds0, p0, q0, hargs, rfl, rfl, h0, r0⟩ := trodAll_cons hA
  obtain ⟨rfl, rfl, rfl⟩ := trodAll_nil r0
  obtain rfl : args = #[v0] := by cases args; simp_all
  obtain ⟨rfl, rfl⟩ := trodVars_none hV
  obtain ⟨a0, len0, cap0, rfl⟩ := okWide_slice Tryz.underlying22 (hval 0 22 v0 rfl rfl)
  have k0 := h0
  have lt0 : ∀ x ∈ p0, x.block < W.heap.size := by obtain ⟨m, hm⟩ := k0; exact DataW.trod_lt m _ _ _ hm
  obtain ⟨z0, w0⟩ := open_flats (n := 8) (ks := opKs) Tryz.underlying22 (by kernel_rfl) (by kernel_rfl) (by decide) h0
  clear hA0 hval0
  refine (walk a0 len0 cap0 z0 W w0).mono fun e W' ⟨he, bel⟩ => ?_
  subst he
  exact ⟨_, rfl, _, _, _, [], _, [], hW', trodAll_mk1 (shut_bool Tryz.underlying4 _), (trodAll_cons_mk (Below.trod laidOut (by kernel_rfl) (of_decide_eq_true (by kernel_rfl)) k0 bel lt0) trodAll_mk0), rfl, bel.frame _, fun h => by cases h⟩

theorem over : Rows.heapStillRow.holds Tryz.pinned (OpenSpec.ofChange Rows.heapStillSpec) :=
  OpenClaim.holds_of_wide 6 Tryz.f6 rfl rfl rfl rfl rfl rfl rfl ⟨rfl, rfl, rfl, rfl, rfl⟩ rfl rfl rfl rfl rfl (by kernel_rfl) Tryz.func6 (by kernel_rfl)
    (of_decide_eq_true (by kernel_rfl)) (by unfold Func.isWrapper; first | (rw [if_pos (by decide +kernel)]; kernel_rfl) | (rw [if_neg (by decide +kernel)]; exact ⟨rfl, rfl⟩))
    (fun os started H enc _ => lifted os started H enc)

theorem proved : Rows.HeapStillSaid := over
#print axioms proved

end Go.Proofs.YtbjmeibcphmgbaaGreat.heapStill
