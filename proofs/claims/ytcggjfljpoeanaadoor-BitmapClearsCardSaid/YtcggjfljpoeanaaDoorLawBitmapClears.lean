/- For any ops ahead and any number: what is put in and taken out again is as it was, twice of the same changes nothing: the law BitmapClears returns true and its arguments read as they did. Condition: the table that package math/bits reads holds what its initialiser lays (tied to the text by the card). -/
import Derived.Test.YtcggjfljpoeanaaDoorBitLaw
import Derived.Test.YtcggjfljpoeanaaDoorBitTab
namespace Go.Proofs.YtcggjfljpoeanaaDoor.bitmapClears
open Go.ChangeShapes Go.WideShapes Go.ChangeAt Go.RowKit
set_option linter.unusedVariables false
set_option linter.unusedSimpArgs false

theorem turned (m x : Nat) : Bm.out (Bm.out (Bm.put m x) x) x = Bm.out m x := by
  refine Nat.eq_of_testBit_eq fun j => ?_
  simp only [Bm.out_bit, Bm.put_bit]
  by_cases e : x = j <;> simp [e]
theorem again (m x : Nat) (h : m.testBit x = true) : Bm.put (Bm.out m x) x = m := by
  refine Nat.eq_of_testBit_eq fun j => ?_
  simp only [Bm.out_bit, Bm.put_bit]
  by_cases e : x = j
  · subst e; simp [h]
  · simp [e]
theorem cnt_out (m x : Nat) (h : m.testBit x = true) (hx : x < 300) : Bm.cnt m 0 300 = Bm.cnt (Bm.out m x) 0 300 + 1 := by
  have := Bm.cnt_put (m := Bm.out m x) (x := x) (by rw [Bm.out_bit]; simp) 0 300
  rw [again m x h, if_pos ⟨Nat.zero_le _, hx⟩] at this
  exact this




set_option maxRecDepth 100000 in
set_option maxHeartbeats 2000000 in
theorem walk (l : Option Addr) (len cap : Nat) (V : Nat → Nat → Value) (a : Int) (w : World) (hT : TabW w) (hl : IsFlat opKinds w l len cap V) (wa : -9223372036854775808 ≤ a ∧ a ≤ 9223372036854775807) :
    Calls Tryd.prog 7 #[.slice l len cap, .int .i64 a] w fun e w' => e = .returned (.bool true) ∧ Below w.heap.size w w' := by
  obtain ⟨a0, a1⟩ := wa
  obtain ⟨fc, fi, hops⟩ := isOps_of_flat hl
  clear hl
  go_enter Tryd.func7, Tryd.ntmps7
  go_wp2_with fail
  refine (awake_yes _ hT).mono ?_
  rintro e w1 ⟨rfl, hb1⟩
  have hT1 := hT.below hb1 hT.lt
  go_wp2_with fail
  refine (new_at 300 _ (by omega) hT1).mono ?_
  rintro e w2 ⟨p, q, rfl, h2, hp, hq, hb⟩
  have hb2 := hb1.trans (hb.mono hb1.size)
  have hq' := Nat.le_trans hb1.size hq
  clear hb1 hb hq hp hT1 hT
  go_wp2
  go_loopw [7] (fun i wr => ∃ (j m : Nat), j ≤ 40 ∧ i = .int .i64 j ∧ BitAt wr p q 300 m ∧ Below w.heap.size w wr) (fun i _ => 40 - (intOf i).toNat)
  case atStart => exact ⟨0, 0, by omega, rfl, h2, hb2⟩
  case round =>
    obtain ⟨j, m, hj, rfl, h3, hb3⟩ := hrel
    by_cases h0 : j < len
    · by_cases h60 : j < 40
      · have hd : decide ((j : Int) < 40) = true := by simp; omega
        rcases hops with ⟨e, -⟩ | ⟨bo, off, rfl, hbo, hlc, hcm, hcell⟩
        · exact absurd h0 (by omega)
        · obtain ⟨-, ci, f0, f1⟩ := hcell j (by omega)
          have ci := (hb3.cell (p := ⟨bo, off + j * 2 + 1, none⟩) hbo).trans ci
          generalize fi j = x at *
          clear hcell
          go_wp2_with fail
          refine (pick_nat _ 300 _ f0 f1 (by decide) (by decide)).mono ?_
          rintro e y0 ⟨k, hk, rfl, rfl⟩
          go_wp2_with fail
          refine (set_at k _ h3 hk).mono ?_
          rintro e y1 ⟨rfl, h4, hc⟩
          have hb4 := hb3.trans (below_chg hc hq' hb3.size)
          clear h3 hc hb3
          go_wp2
          go_roundw
          case rel => exact ⟨j + 1, _, by omega, by go_num, h4, hb4⟩
          case measure => simp [intOf]; omega
      · have hd : decide ((j : Int) < 40) = false := by simp; omega
        go_wp2_with fail
        refine (pick_nat _ 300 _ a0 a1 (by decide) (by decide)).mono ?_
        rintro e w2 ⟨x, hx, rfl, rfl⟩
        go_wp2_with fail
        refine (count_any _ _ _ h3 (by omega) (by omega)).mono ?_
        rintro e w4 ⟨rfl, hb⟩
        have h3 := h3.below hb h3.lt.1 h3.lt.2.1 h3.lt.2.2
        have hb3 := hb3.trans (hb.mono hb3.size)
        clear hb
        simp only [Int.toNat_natCast, Int.toNat_zero, Int.reduceToNat]
        go_wp2_with fail
        refine (has_any _ _ h3 (by omega) (by omega)).mono ?_
        rintro e w4 ⟨rfl, hb⟩
        have h3 := h3.below hb h3.lt.1 h3.lt.2.1 h3.lt.2.2
        have hb3 := hb3.trans (hb.mono hb3.size)
        clear hb
        rw [hasB_nat]
        cases hm : m.testBit x
        · have Hm := Lib.hid hm
          go_wp2_with fail
          refine (set_at x _ h3 hx).mono ?_
          rintro e w4 ⟨rfl, h4, hc⟩
          have hb4 := hb3.trans (below_chg hc hq' hb3.size)
          clear h3 hc hb3
          have h3 := h4
          have hb3 := hb4
          clear h4 hb4
          rw [hm]
          go_wp2_with fail
          refine (set_at x _ h3 hx).mono ?_
          rintro e w4 ⟨rfl, h4, hc⟩
          have hb4 := hb3.trans (below_chg hc hq' hb3.size)
          clear h3 hc hb3
          have h3 := h4
          have hb3 := hb4
          clear h4 hb4
          rw [show (!(Bm.put m x).testBit x) = false from by rw [Bm.put_bit]; simp]
          rw [Bm.put_in (m := Bm.put m x) (i := x) (by rw [Bm.put_bit]; simp)] at h3
          go_wp2_with fail
          refine (has_any _ _ h3 (by omega) (by omega)).mono ?_
          rintro e w4 ⟨rfl, hb⟩
          have h3 := h3.below hb h3.lt.1 h3.lt.2.1 h3.lt.2.2
          have hb3 := hb3.trans (hb.mono hb3.size)
          clear hb
          rw [hasB_nat]
          rw [show (Bm.put m x).testBit x = true from by rw [Bm.put_bit]; simp]
          go_wp2_with fail
          refine (clear_at x _ h3 (by omega)).mono ?_
          rintro e w4 ⟨rfl, h4, hc⟩
          have hb4 := hb3.trans (below_chg hc hq' hb3.size)
          clear h3 hc hb3
          have h3 := h4
          have hb3 := hb4
          clear h4 hb4
          rw [show (Bm.put m x).testBit x = true from by rw [Bm.put_bit]; simp]
          go_wp2_with fail
          refine (clear_at x _ h3 (by omega)).mono ?_
          rintro e w4 ⟨rfl, h4, hc⟩
          have hb4 := hb3.trans (below_chg hc hq' hb3.size)
          clear h3 hc hb3
          have h3 := h4
          have hb3 := hb4
          clear h4 hb4
          rw [show (Bm.out (Bm.put m x) x).testBit x = false from by rw [Bm.out_bit]; simp]
          rw [turned] at h3
          go_wp2_with fail
          refine (has_any _ _ h3 (by omega) (by omega)).mono ?_
          rintro e w4 ⟨rfl, hb⟩
          have h3 := h3.below hb h3.lt.1 h3.lt.2.1 h3.lt.2.2
          have hb3 := hb3.trans (hb.mono hb3.size)
          clear hb
          rw [hasB_nat]
          rw [show (Bm.out m x).testBit x = false from by rw [Bm.out_bit]; simp]
          rw [Bm.out_not Hm.out] at h3
          go_wp2_with fail
          refine (count_any _ _ _ h3 (by omega) (by omega)).mono ?_
          rintro e w4 ⟨rfl, hb⟩
          have h3 := h3.below hb h3.lt.1 h3.lt.2.1 h3.lt.2.2
          have hb3 := hb3.trans (hb.mono hb3.size)
          clear hb
          simp only [Int.toNat_natCast, Int.toNat_zero, Int.reduceToNat]
          generalize Bm.cnt m 0 300 = n1 at *
          go_wp2
          go_ret
          exact ⟨by simp, hb3⟩
        · have Hm := Lib.hid hm
          go_wp2_with fail
          refine (set_at x _ h3 hx).mono ?_
          rintro e w4 ⟨rfl, h4, hc⟩
          have hb4 := hb3.trans (below_chg hc hq' hb3.size)
          clear h3 hc hb3
          have h3 := h4
          have hb3 := hb4
          clear h4 hb4
          rw [hm]
          go_wp2_with fail
          refine (set_at x _ h3 hx).mono ?_
          rintro e w4 ⟨rfl, h4, hc⟩
          have hb4 := hb3.trans (below_chg hc hq' hb3.size)
          clear h3 hc hb3
          have h3 := h4
          have hb3 := hb4
          clear h4 hb4
          rw [show (!(Bm.put m x).testBit x) = false from by rw [Bm.put_bit]; simp]
          rw [Bm.put_in (m := Bm.put m x) (i := x) (by rw [Bm.put_bit]; simp)] at h3
          go_wp2_with fail
          refine (has_any _ _ h3 (by omega) (by omega)).mono ?_
          rintro e w4 ⟨rfl, hb⟩
          have h3 := h3.below hb h3.lt.1 h3.lt.2.1 h3.lt.2.2
          have hb3 := hb3.trans (hb.mono hb3.size)
          clear hb
          rw [hasB_nat]
          rw [show (Bm.put m x).testBit x = true from by rw [Bm.put_bit]; simp]
          go_wp2_with fail
          refine (clear_at x _ h3 (by omega)).mono ?_
          rintro e w4 ⟨rfl, h4, hc⟩
          have hb4 := hb3.trans (below_chg hc hq' hb3.size)
          clear h3 hc hb3
          have h3 := h4
          have hb3 := hb4
          clear h4 hb4
          rw [show (Bm.put m x).testBit x = true from by rw [Bm.put_bit]; simp]
          go_wp2_with fail
          refine (clear_at x _ h3 (by omega)).mono ?_
          rintro e w4 ⟨rfl, h4, hc⟩
          have hb4 := hb3.trans (below_chg hc hq' hb3.size)
          clear h3 hc hb3
          have h3 := h4
          have hb3 := hb4
          clear h4 hb4
          rw [show (Bm.out (Bm.put m x) x).testBit x = false from by rw [Bm.out_bit]; simp]
          rw [turned] at h3
          go_wp2_with fail
          refine (has_any _ _ h3 (by omega) (by omega)).mono ?_
          rintro e w4 ⟨rfl, hb⟩
          have h3 := h3.below hb h3.lt.1 h3.lt.2.1 h3.lt.2.2
          have hb3 := hb3.trans (hb.mono hb3.size)
          clear hb
          rw [hasB_nat]
          rw [show (Bm.out m x).testBit x = false from by rw [Bm.out_bit]; simp]
          have hn := cnt_out m x Hm.out hx
          have hv := Lib.hid (again m x Hm.out)
          have hn300 := Bm.cnt_le m 0 300
          have he : (((Bm.cnt (Bm.out m x) 0 300 : Nat) : Int) == ((Bm.cnt m 0 300 : Nat) : Int) - 1) = true := by simp; omega
          clear hn
          clear hm
          go_wp2_with fail
          refine (count_any _ _ _ h3 (by omega) (by omega)).mono ?_
          rintro e w4 ⟨rfl, hb⟩
          have h3 := h3.below hb h3.lt.1 h3.lt.2.1 h3.lt.2.2
          have hb3 := hb3.trans (hb.mono hb3.size)
          clear hb
          simp only [Int.toNat_natCast, Int.toNat_zero, Int.reduceToNat]
          go_wp2_with fail
          refine (set_at x _ h3 hx).mono ?_
          rintro e w4 ⟨rfl, h4, hc⟩
          have hb4 := hb3.trans (below_chg hc hq' hb3.size)
          clear h3 hc hb3
          have h3 := h4
          have hb3 := hb4
          clear h4 hb4
          rw [show (!(Bm.out m x).testBit x) = true from by rw [Bm.out_bit]; simp]
          rw [hv.out] at h3
          go_wp2_with fail
          refine (count_any _ _ _ h3 (by omega) (by omega)).mono ?_
          rintro e w4 ⟨rfl, hb⟩
          have h3 := h3.below hb h3.lt.1 h3.lt.2.1 h3.lt.2.2
          have hb3 := hb3.trans (hb.mono hb3.size)
          clear hb
          simp only [Int.toNat_natCast, Int.toNat_zero, Int.reduceToNat]
          go_wp2
          go_ret
          exact ⟨by simp, hb3⟩
    · have hd0 : decide ((j : Int) < (len : Int)) = false := by simp; omega
      go_wp2_with fail
      refine (pick_nat _ 300 _ a0 a1 (by decide) (by decide)).mono ?_
      rintro e w2 ⟨x, hx, rfl, rfl⟩
      go_wp2_with fail
      refine (count_any _ _ _ h3 (by omega) (by omega)).mono ?_
      rintro e w4 ⟨rfl, hb⟩
      have h3 := h3.below hb h3.lt.1 h3.lt.2.1 h3.lt.2.2
      have hb3 := hb3.trans (hb.mono hb3.size)
      clear hb
      simp only [Int.toNat_natCast, Int.toNat_zero, Int.reduceToNat]
      go_wp2_with fail
      refine (has_any _ _ h3 (by omega) (by omega)).mono ?_
      rintro e w4 ⟨rfl, hb⟩
      have h3 := h3.below hb h3.lt.1 h3.lt.2.1 h3.lt.2.2
      have hb3 := hb3.trans (hb.mono hb3.size)
      clear hb
      rw [hasB_nat]
      cases hm : m.testBit x
      · have Hm := Lib.hid hm
        go_wp2_with fail
        refine (set_at x _ h3 hx).mono ?_
        rintro e w4 ⟨rfl, h4, hc⟩
        have hb4 := hb3.trans (below_chg hc hq' hb3.size)
        clear h3 hc hb3
        have h3 := h4
        have hb3 := hb4
        clear h4 hb4
        rw [hm]
        go_wp2_with fail
        refine (set_at x _ h3 hx).mono ?_
        rintro e w4 ⟨rfl, h4, hc⟩
        have hb4 := hb3.trans (below_chg hc hq' hb3.size)
        clear h3 hc hb3
        have h3 := h4
        have hb3 := hb4
        clear h4 hb4
        rw [show (!(Bm.put m x).testBit x) = false from by rw [Bm.put_bit]; simp]
        rw [Bm.put_in (m := Bm.put m x) (i := x) (by rw [Bm.put_bit]; simp)] at h3
        go_wp2_with fail
        refine (has_any _ _ h3 (by omega) (by omega)).mono ?_
        rintro e w4 ⟨rfl, hb⟩
        have h3 := h3.below hb h3.lt.1 h3.lt.2.1 h3.lt.2.2
        have hb3 := hb3.trans (hb.mono hb3.size)
        clear hb
        rw [hasB_nat]
        rw [show (Bm.put m x).testBit x = true from by rw [Bm.put_bit]; simp]
        go_wp2_with fail
        refine (clear_at x _ h3 (by omega)).mono ?_
        rintro e w4 ⟨rfl, h4, hc⟩
        have hb4 := hb3.trans (below_chg hc hq' hb3.size)
        clear h3 hc hb3
        have h3 := h4
        have hb3 := hb4
        clear h4 hb4
        rw [show (Bm.put m x).testBit x = true from by rw [Bm.put_bit]; simp]
        go_wp2_with fail
        refine (clear_at x _ h3 (by omega)).mono ?_
        rintro e w4 ⟨rfl, h4, hc⟩
        have hb4 := hb3.trans (below_chg hc hq' hb3.size)
        clear h3 hc hb3
        have h3 := h4
        have hb3 := hb4
        clear h4 hb4
        rw [show (Bm.out (Bm.put m x) x).testBit x = false from by rw [Bm.out_bit]; simp]
        rw [turned] at h3
        go_wp2_with fail
        refine (has_any _ _ h3 (by omega) (by omega)).mono ?_
        rintro e w4 ⟨rfl, hb⟩
        have h3 := h3.below hb h3.lt.1 h3.lt.2.1 h3.lt.2.2
        have hb3 := hb3.trans (hb.mono hb3.size)
        clear hb
        rw [hasB_nat]
        rw [show (Bm.out m x).testBit x = false from by rw [Bm.out_bit]; simp]
        rw [Bm.out_not Hm.out] at h3
        go_wp2_with fail
        refine (count_any _ _ _ h3 (by omega) (by omega)).mono ?_
        rintro e w4 ⟨rfl, hb⟩
        have h3 := h3.below hb h3.lt.1 h3.lt.2.1 h3.lt.2.2
        have hb3 := hb3.trans (hb.mono hb3.size)
        clear hb
        simp only [Int.toNat_natCast, Int.toNat_zero, Int.reduceToNat]
        generalize Bm.cnt m 0 300 = n1 at *
        go_wp2
        go_ret
        exact ⟨by simp, hb3⟩
      · have Hm := Lib.hid hm
        go_wp2_with fail
        refine (set_at x _ h3 hx).mono ?_
        rintro e w4 ⟨rfl, h4, hc⟩
        have hb4 := hb3.trans (below_chg hc hq' hb3.size)
        clear h3 hc hb3
        have h3 := h4
        have hb3 := hb4
        clear h4 hb4
        rw [hm]
        go_wp2_with fail
        refine (set_at x _ h3 hx).mono ?_
        rintro e w4 ⟨rfl, h4, hc⟩
        have hb4 := hb3.trans (below_chg hc hq' hb3.size)
        clear h3 hc hb3
        have h3 := h4
        have hb3 := hb4
        clear h4 hb4
        rw [show (!(Bm.put m x).testBit x) = false from by rw [Bm.put_bit]; simp]
        rw [Bm.put_in (m := Bm.put m x) (i := x) (by rw [Bm.put_bit]; simp)] at h3
        go_wp2_with fail
        refine (has_any _ _ h3 (by omega) (by omega)).mono ?_
        rintro e w4 ⟨rfl, hb⟩
        have h3 := h3.below hb h3.lt.1 h3.lt.2.1 h3.lt.2.2
        have hb3 := hb3.trans (hb.mono hb3.size)
        clear hb
        rw [hasB_nat]
        rw [show (Bm.put m x).testBit x = true from by rw [Bm.put_bit]; simp]
        go_wp2_with fail
        refine (clear_at x _ h3 (by omega)).mono ?_
        rintro e w4 ⟨rfl, h4, hc⟩
        have hb4 := hb3.trans (below_chg hc hq' hb3.size)
        clear h3 hc hb3
        have h3 := h4
        have hb3 := hb4
        clear h4 hb4
        rw [show (Bm.put m x).testBit x = true from by rw [Bm.put_bit]; simp]
        go_wp2_with fail
        refine (clear_at x _ h3 (by omega)).mono ?_
        rintro e w4 ⟨rfl, h4, hc⟩
        have hb4 := hb3.trans (below_chg hc hq' hb3.size)
        clear h3 hc hb3
        have h3 := h4
        have hb3 := hb4
        clear h4 hb4
        rw [show (Bm.out (Bm.put m x) x).testBit x = false from by rw [Bm.out_bit]; simp]
        rw [turned] at h3
        go_wp2_with fail
        refine (has_any _ _ h3 (by omega) (by omega)).mono ?_
        rintro e w4 ⟨rfl, hb⟩
        have h3 := h3.below hb h3.lt.1 h3.lt.2.1 h3.lt.2.2
        have hb3 := hb3.trans (hb.mono hb3.size)
        clear hb
        rw [hasB_nat]
        rw [show (Bm.out m x).testBit x = false from by rw [Bm.out_bit]; simp]
        have hn := cnt_out m x Hm.out hx
        have hv := Lib.hid (again m x Hm.out)
        have hn300 := Bm.cnt_le m 0 300
        have he : (((Bm.cnt (Bm.out m x) 0 300 : Nat) : Int) == ((Bm.cnt m 0 300 : Nat) : Int) - 1) = true := by simp; omega
        clear hn
        clear hm
        go_wp2_with fail
        refine (count_any _ _ _ h3 (by omega) (by omega)).mono ?_
        rintro e w4 ⟨rfl, hb⟩
        have h3 := h3.below hb h3.lt.1 h3.lt.2.1 h3.lt.2.2
        have hb3 := hb3.trans (hb.mono hb3.size)
        clear hb
        simp only [Int.toNat_natCast, Int.toNat_zero, Int.reduceToNat]
        go_wp2_with fail
        refine (set_at x _ h3 hx).mono ?_
        rintro e w4 ⟨rfl, h4, hc⟩
        have hb4 := hb3.trans (below_chg hc hq' hb3.size)
        clear h3 hc hb3
        have h3 := h4
        have hb3 := hb4
        clear h4 hb4
        rw [show (!(Bm.out m x).testBit x) = true from by rw [Bm.out_bit]; simp]
        rw [hv.out] at h3
        go_wp2_with fail
        refine (count_any _ _ _ h3 (by omega) (by omega)).mono ?_
        rintro e w4 ⟨rfl, hb⟩
        have h3 := h3.below hb h3.lt.1 h3.lt.2.1 h3.lt.2.2
        have hb3 := hb3.trans (hb.mono hb3.size)
        clear hb
        simp only [Int.toNat_natCast, Int.toNat_zero, Int.reduceToNat]
        go_wp2
        go_ret
        exact ⟨by simp, hb3⟩

set_option maxRecDepth 100000 in
theorem lifted (os : Os) (started : os.Started) (H : Type) (enc : TypeId × Value → H) :
    ReturnsInHanded {} Tryd.checked os 7 .any (fun w args => (Rows.bitmapClearsSpec.pre enc Tryd.prog Tryd.f7 [] false w args ∧ laidMetH Tryd.prog [("math/bits.deBruijn64tab", Rows.laid_math_bits_deBruijn64tab)] w) ∧ sizedMet enc Tryd.prog Tryd.f7 (OpenSpec.ofChange Rows.bitmapClearsSpec) false w args) (Rows.bitmapClearsSpec.post enc Tryd.prog Tryd.f7 false true false false) := by
  refine returnsInHanded_of_change_and (C := Tryd.checked) (X := fun w _ => laidMetH Tryd.prog [("math/bits.deBruijn64tab", Rows.laid_math_bits_deBruijn64tab)] w) (fun _ _ _ hh h => h.of_heap hh) own started (by kernel_rfl) Tryd.func7
    (ChangeSpec.witness_shaped (enc := enc) (C := Tryd.checked) (os := os) (X := fun w _ => laidMetH Tryd.prog [("math/bits.deBruijn64tab", Rows.laid_math_bits_deBruijn64tab)] w) false (World.doorLaid Tryd.prog 400 os) #[.slice none 0 0, .int .i64 0] 8 rfl (World.shaped_of_RefB (by kernel_rfl) (by kernel_rfl)) (by kernel_rfl) (by kernel_rfl) (by kernel_rfl) (door_met os _)) ?_
  intro W base args ds gs before hval0 hW _ _ hL _
  have hT := tab_of_laid hL
  have hval : ∀ (j : Nat) t v, Tryd.f7.params[j]? = some t → args[j]? = some v → Value.okWide Tryd.prog W .any base t v := hval0
  have hW' := hW
  obtain ⟨p, q, hA0, hV, rfl, hfz, hnd⟩ := hW
  have hA : DataW.TrodAll enc Tryd.prog W 0 (fun _ => true) true Tryd.f7.params.toList args.toList ds p := hA0
  rw [Tryd.params7] at hA hval
  obtain ⟨v0, vs0, d0, ds0, p0, q0, hargs, rfl, rfl, h0, r0⟩ := trodAll_cons hA
  obtain ⟨v1, vs1, d1, ds1, p1, q1, rfl, rfl, rfl, h1, r1⟩ := trodAll_cons r0
  obtain ⟨rfl, rfl, rfl⟩ := trodAll_nil r1
  obtain rfl : args = #[v0, v1] := by cases args; simp_all
  obtain ⟨rfl, rfl⟩ := trodVars_none hV
  obtain ⟨a0, len0, cap0, rfl⟩ := okWide_slice Tryd.underlying22 (hval 0 22 v0 rfl rfl)
  have k0 := h0
  have lt0 : ∀ x ∈ p0, x.block < W.heap.size := by obtain ⟨m, hm⟩ := k0; exact DataW.trod_lt m _ _ _ hm
  obtain ⟨z0, w0⟩ := open_flats (n := 8) (ks := opKinds) Tryd.underlying22 (by kernel_rfl) (by kernel_rfl) (by decide) h0
  obtain ⟨a1, rfl, rfl, rfl, w1⟩ := open_int Tryd.underlying3 (hval 1 3 v1 rfl rfl) h1
  clear hA0 hval0
  refine (walk a0 len0 cap0 z0 a1 W hT w0 (bounds_i64 w1)).mono fun e W' ⟨he, bel⟩ => ?_
  subst he
  exact ⟨_, rfl, _, _, _, [], _, [], hW', trodAll_mk1 (shut_bool Tryd.underlying4 _), (trodAll_cons_mk (Below.trod laidOut (by kernel_rfl) (of_decide_eq_true (by kernel_rfl)) k0 bel lt0) (trodAll_cons_mk (shut_int Tryd.underlying3 w1) trodAll_mk0)), rfl, bel.frame _, fun h => by cases h⟩

theorem over : Rows.bitmapClearsRow.holds Tryd.pinned (OpenSpec.ofChange Rows.bitmapClearsSpec) :=
  OpenClaim.holds_of_wide 7 Tryd.f7 rfl rfl rfl rfl rfl rfl rfl ⟨rfl, rfl, rfl, rfl, rfl⟩ rfl rfl rfl rfl rfl (by kernel_rfl) Tryd.func7 (by kernel_rfl)
    (of_decide_eq_true (by kernel_rfl)) (by unfold Func.isWrapper; first | (rw [if_pos (by decide +kernel)]; kernel_rfl) | (rw [if_neg (by decide +kernel)]; exact ⟨rfl, rfl⟩))
    (fun os started H enc _ => lifted os started H enc)

theorem proved : Rows.BitmapClearsCardSaid :=
  Claim7.holds_tied_plain_at .later [] [.data] true (true, "28bd30fcbd6a3609b8547bea156e5a6144704f4bf7bb1016d4d0df63bcf5d9d1") false
    over (fun _ h => by cases h) (by kernel_rfl) (fun _ h => by cases h) bitmapClears_row_tie rfl ⟨rfl, rfl⟩ (by kernel_rfl) rfl
    (fun f fn hf hfn => by
      obtain rfl : f = 7 := Option.some.inj ((show Tryd.prog.funcNamed "middenheap/middenheaplaw03.BitmapClears" = some 7 by kernel_rfl).symm.trans hf) |>.symm
      obtain rfl : fn = Tryd.f7 := (Option.some.inj (Tryd.func7.symm.trans hfn)).symm
      exact ⟨by kernel_rfl, fun j t ht => by
        have hall : (Tryd.f7.params.toList.all fun u => !Tryd.prog.wantsStandIn u) = true := by kernel_rfl
        have hm : t ∈ Tryd.f7.params.toList := by simpa using Array.mem_of_getElem? ht
        exact (show Tryd.prog.wantsStandIn t = false by simpa using List.all_eq_true.1 hall t hm)⟩)
    (by kernel_rfl)
#print axioms proved

end Go.Proofs.YtcggjfljpoeanaaDoor.bitmapClears
