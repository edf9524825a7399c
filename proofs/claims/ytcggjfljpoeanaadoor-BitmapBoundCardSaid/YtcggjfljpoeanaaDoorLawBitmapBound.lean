/- For every bound up to 2^16 and every number: no number at the bound, or beyond, or below 0, is ever in: the law BitmapBound returns true and its arguments read as they did. Condition: the table that package math/bits reads holds what its initialiser lays (tied to the text by the card). -/
import Derived.Test.YtcggjfljpoeanaaDoorBitLaw
import Derived.Test.YtcggjfljpoeanaaDoorBitTab
namespace Go.Proofs.YtcggjfljpoeanaaDoor.bitmapBound
open Go.ChangeShapes Go.WideShapes Go.ChangeAt Go.RowKit
set_option linter.unusedVariables false
set_option linter.unusedSimpArgs false





set_option maxRecDepth 100000 in
set_option maxHeartbeats 2000000 in
theorem walk (n i : Int) (w : World) (hT : TabW w) (w0 : -9223372036854775808 ≤ n ∧ n ≤ 9223372036854775807) (w1 : -9223372036854775808 ≤ i ∧ i ≤ 9223372036854775807) :
    Calls Tryd.prog 5 #[.int .i64 n, .int .i64 i] w fun e w' => e = .returned (.bool true) ∧ Below w.heap.size w w' := by
  obtain ⟨n0, n1⟩ := w0
  obtain ⟨i0, i1⟩ := w1
  go_enter Tryd.func5, Tryd.ntmps5
  go_wp2_with fail
  refine (awake_yes _ hT).mono ?_
  rintro e w1 ⟨rfl, hb1⟩
  have hT1 := hT.below hb1 hT.lt
  go_wp2_with fail
  refine (pick_nat _ 65537 _ n0 n1 (by decide) (by decide)).mono ?_
  rintro e w2 ⟨m, hm, rfl, rfl⟩
  clear hT
  go_wp2_with fail
  refine (new_at m _ (by omega) hT1).mono ?_
  rintro e w2 ⟨p, q, rfl, h2, hp, hq, hb⟩
  have hb2 := hb1.trans (hb.mono hb1.size)
  have hq' := Nat.le_trans hb1.size hq
  clear hb1 hb hq hp hT1
  by_cases hi : 0 ≤ i ∧ i < (m : Int)
  · obtain ⟨k, rfl⟩ : ∃ k : Nat, i = k := ⟨i.toNat, by omega⟩
    have hd1 : decide ((0 : Int) ≤ (k : Int)) = true := by simp
    have hd2 : decide ((k : Int) < (m : Int)) = true := by simp; omega
    have hd3 : decide ((0 : Int) < (m : Int)) = true := by simp; omega
    go_wp2_with fail
    refine (set_at k _ h2 (by omega)).mono ?_
    rintro e w3 ⟨rfl, h3, hc⟩
    have hb3 := hb2.trans (below_chg hc hq' hb2.size)
    rw [show (!Nat.testBit 0 k) = true from by simp]
    clear h2 hc hb2
    go_wp2_with fail
    refine (has_any _ _ h3 (by omega) (by omega)).mono ?_
    rintro e w4 ⟨rfl, hb⟩
    have h3 := h3.below hb h3.lt.1 h3.lt.2.1 h3.lt.2.2
    have hb3 := hb3.trans (hb.mono hb3.size)
    rw [show hasB (Bm.put 0 k) (k : Int) = true from by rw [hasB_nat, Bm.put_bit]; simp]
    clear hb
    go_wp2_with fail
    refine (set_out _ _ h3 (by omega)).mono ?_
    rintro e w4 ⟨rfl, rfl⟩
    go_wp2_with fail
    refine (set_out _ _ h3 (by omega)).mono ?_
    rintro e w4 ⟨rfl, rfl⟩
    by_cases he : k + 1 = m
    · have hne : ((k : Int) != (m : Int) - 1) = false := by simp; omega
      have hnx := next_yes (m := Bm.put 0 k) (a := ((m : Int) - 1).toNat) (bound := m) (x := k) (by omega) (by omega) (by rw [Bm.put_bit]; simp) (fun j j1 j2 => by omega)
      have hn1 := Lib.hid hnx.1
      have hn2 := Lib.hid hnx.2
      have h5 := h3
      have hb5 := hb3
      have hfin : ((k : Int) == (m : Int) - 1) = true := by simp; omega
      clear hnx
      go_wp2_with fail
      refine (next_any _ _ h5 (by omega) (by omega)).mono ?_
      rintro e w6 ⟨rfl, hb⟩
      have hb6 := hb5.trans (hb.mono hb5.size)
      rw [hn1.out, hn2.out]
      go_wp2
      go_ret
      exact ⟨rfl, hb6⟩
    · have hne : ((k : Int) != (m : Int) - 1) = true := by simp; omega
      obtain ⟨j, hj⟩ : ∃ j : Nat, (m : Int) - 1 = (j : Int) := ⟨m - 1, by omega⟩
      have Hj := Lib.hid hj
      have hjk : ¬ k = j := by omega
      have hjm : j < m := by omega
      have hv : (Bm.put 0 k).testBit j = false := by rw [Bm.put_bit]; simp [hjk]
      have hfin : ((j : Int) == (m : Int) - 1) = true := by rw [hj]; simp
      have hnx := next_yes (m := Bm.put (Bm.put 0 k) j) (a := ((m : Int) - 1).toNat) (bound := m) (x := j) (by omega) (by omega) (by rw [Bm.put_bit]; simp) (fun j j1 j2 => by omega)
      have hn1 := Lib.hid hnx.1
      have hn2 := Lib.hid hnx.2
      clear hj hnx
      go_wp2_with fail
      rw [Hj.out]
      refine (set_at j _ h3 hjm).mono ?_
      rintro e w5 ⟨rfl, h5, hc⟩
      have hb5 := hb3.trans (below_chg hc hq' hb3.size)
      rw [hv]
      clear h3 hc hb3 hv
      go_wp2_with fail
      refine (next_any _ _ h5 (by omega) (by omega)).mono ?_
      rintro e w6 ⟨rfl, hb⟩
      have hb6 := hb5.trans (hb.mono hb5.size)
      rw [hn1.out, hn2.out]
      go_wp2
      go_ret
      exact ⟨rfl, hb6⟩
  · by_cases h0 : m = 0
    · have hd3 : decide ((0 : Int) < (m : Int)) = false := by simp; omega
      have hd4 : decide (0 < m) = false := by simp; omega
      have hnx := next_no (m := 0) (a := ((m : Int) - 1).toNat) (bound := m) (fun j j1 j2 => by simp)
      have hn1 := Lib.hid hnx.1
      have hn2 := Lib.hid hnx.2
      clear h0 hnx
      by_cases hz : 0 ≤ i
      · have hd1 : decide ((0 : Int) ≤ i) = true := by simpa using hz
        have hd2 : decide (i < (m : Int)) = false := by simp; omega
        go_wp2_with fail
        refine (set_out _ _ h2 hi).mono ?_
        rintro e w3 ⟨rfl, rfl⟩
        go_wp2_with fail
        refine (has_any _ _ h2 (by omega) (by omega)).mono ?_
        rintro e w4 ⟨rfl, hb⟩
        have h3 := h2.below hb h2.lt.1 h2.lt.2.1 h2.lt.2.2
        have hb3 := hb2.trans (hb.mono hb2.size)
        rw [show hasB 0 i = false from by unfold hasB; simp]
        clear hb h2 hb2
        go_wp2_with fail
        refine (set_out _ _ h3 (by omega)).mono ?_
        rintro e w4 ⟨rfl, rfl⟩
        go_wp2_with fail
        refine (set_out _ _ h3 (by omega)).mono ?_
        rintro e w4 ⟨rfl, rfl⟩
        have h5 := h3
        have hb5 := hb3
        go_wp2_with fail
        refine (next_any _ _ h5 (by omega) (by omega)).mono ?_
        rintro e w6 ⟨rfl, hb⟩
        have hb6 := hb5.trans (hb.mono hb5.size)
        rw [hn1.out, hn2.out]
        go_wp2
        go_ret
        exact ⟨rfl, hb6⟩
      · have hd1 : decide ((0 : Int) ≤ i) = false := by simpa using hz
        go_wp2_with fail
        refine (set_out _ _ h2 hi).mono ?_
        rintro e w3 ⟨rfl, rfl⟩
        go_wp2_with fail
        refine (has_any _ _ h2 (by omega) (by omega)).mono ?_
        rintro e w4 ⟨rfl, hb⟩
        have h3 := h2.below hb h2.lt.1 h2.lt.2.1 h2.lt.2.2
        have hb3 := hb2.trans (hb.mono hb2.size)
        rw [show hasB 0 i = false from by unfold hasB; simp]
        clear hb h2 hb2
        go_wp2_with fail
        refine (set_out _ _ h3 (by omega)).mono ?_
        rintro e w4 ⟨rfl, rfl⟩
        go_wp2_with fail
        refine (set_out _ _ h3 (by omega)).mono ?_
        rintro e w4 ⟨rfl, rfl⟩
        have h5 := h3
        have hb5 := hb3
        go_wp2_with fail
        refine (next_any _ _ h5 (by omega) (by omega)).mono ?_
        rintro e w6 ⟨rfl, hb⟩
        have hb6 := hb5.trans (hb.mono hb5.size)
        rw [hn1.out, hn2.out]
        go_wp2
        go_ret
        exact ⟨rfl, hb6⟩
    · have hd3 : decide ((0 : Int) < (m : Int)) = true := by simp; omega
      have hne : (i != (m : Int) - 1) = true := by simp; omega
      obtain ⟨j, hj⟩ : ∃ j : Nat, (m : Int) - 1 = (j : Int) := ⟨m - 1, by omega⟩
      have Hj := Lib.hid hj
      have hjm : j < m := by omega
      have hv : Nat.testBit 0 j = false := by simp
      have hfin : ((j : Int) == (m : Int) - 1) = true := by rw [hj]; simp
      have hnx := next_yes (m := Bm.put 0 j) (a := ((m : Int) - 1).toNat) (bound := m) (x := j) (by omega) (by omega) (by rw [Bm.put_bit]; simp) (fun j j1 j2 => by omega)
      have hn1 := Lib.hid hnx.1
      have hn2 := Lib.hid hnx.2
      clear hj hnx h0
      by_cases hz : 0 ≤ i
      · have hd1 : decide ((0 : Int) ≤ i) = true := by simpa using hz
        have hd2 : decide (i < (m : Int)) = false := by simp; omega
        go_wp2_with fail
        refine (set_out _ _ h2 hi).mono ?_
        rintro e w3 ⟨rfl, rfl⟩
        go_wp2_with fail
        refine (has_any _ _ h2 (by omega) (by omega)).mono ?_
        rintro e w4 ⟨rfl, hb⟩
        have h3 := h2.below hb h2.lt.1 h2.lt.2.1 h2.lt.2.2
        have hb3 := hb2.trans (hb.mono hb2.size)
        rw [show hasB 0 i = false from by unfold hasB; simp]
        clear hb h2 hb2
        go_wp2_with fail
        refine (set_out _ _ h3 (by omega)).mono ?_
        rintro e w4 ⟨rfl, rfl⟩
        go_wp2_with fail
        refine (set_out _ _ h3 (by omega)).mono ?_
        rintro e w4 ⟨rfl, rfl⟩
        go_wp2_with fail
        rw [Hj.out]
        refine (set_at j _ h3 hjm).mono ?_
        rintro e w5 ⟨rfl, h5, hc⟩
        have hb5 := hb3.trans (below_chg hc hq' hb3.size)
        rw [hv]
        clear h3 hc hb3 hv
        go_wp2_with fail
        refine (next_any _ _ h5 (by omega) (by omega)).mono ?_
        rintro e w6 ⟨rfl, hb⟩
        have hb6 := hb5.trans (hb.mono hb5.size)
        rw [hn1.out, hn2.out]
        go_wp2
        go_ret
        exact ⟨rfl, hb6⟩
      · have hd1 : decide ((0 : Int) ≤ i) = false := by simpa using hz
        go_wp2_with fail
        refine (set_out _ _ h2 hi).mono ?_
        rintro e w3 ⟨rfl, rfl⟩
        go_wp2_with fail
        refine (has_any _ _ h2 (by omega) (by omega)).mono ?_
        rintro e w4 ⟨rfl, hb⟩
        have h3 := h2.below hb h2.lt.1 h2.lt.2.1 h2.lt.2.2
        have hb3 := hb2.trans (hb.mono hb2.size)
        rw [show hasB 0 i = false from by unfold hasB; simp]
        clear hb h2 hb2
        go_wp2_with fail
        refine (set_out _ _ h3 (by omega)).mono ?_
        rintro e w4 ⟨rfl, rfl⟩
        go_wp2_with fail
        refine (set_out _ _ h3 (by omega)).mono ?_
        rintro e w4 ⟨rfl, rfl⟩
        go_wp2_with fail
        rw [Hj.out]
        refine (set_at j _ h3 hjm).mono ?_
        rintro e w5 ⟨rfl, h5, hc⟩
        have hb5 := hb3.trans (below_chg hc hq' hb3.size)
        rw [hv]
        clear h3 hc hb3 hv
        go_wp2_with fail
        refine (next_any _ _ h5 (by omega) (by omega)).mono ?_
        rintro e w6 ⟨rfl, hb⟩
        have hb6 := hb5.trans (hb.mono hb5.size)
        rw [hn1.out, hn2.out]
        go_wp2
        go_ret
        exact ⟨rfl, hb6⟩

set_option maxRecDepth 100000 in
theorem lifted (os : Os) (started : os.Started) (H : Type) (enc : TypeId × Value → H) :
    ReturnsInHanded {} Tryd.checked os 5 .any (fun w args => (Rows.bitmapBoundSpec.pre enc Tryd.prog Tryd.f5 [] false w args ∧ laidMetH Tryd.prog [("math/bits.deBruijn64tab", Rows.laid_math_bits_deBruijn64tab)] w) ∧ sizedMet enc Tryd.prog Tryd.f5 (OpenSpec.ofChange Rows.bitmapBoundSpec) false w args) (Rows.bitmapBoundSpec.post enc Tryd.prog Tryd.f5 false true false false) := by
  refine returnsInHanded_of_change_and (C := Tryd.checked) (X := fun w _ => laidMetH Tryd.prog [("math/bits.deBruijn64tab", Rows.laid_math_bits_deBruijn64tab)] w) (fun _ _ _ hh h => h.of_heap hh) own started (by kernel_rfl) Tryd.func5
    (ChangeSpec.witness_shaped (enc := enc) (C := Tryd.checked) (os := os) (X := fun w _ => laidMetH Tryd.prog [("math/bits.deBruijn64tab", Rows.laid_math_bits_deBruijn64tab)] w) false (World.doorLaid Tryd.prog 400 os) #[.int .i64 0, .int .i64 0] 8 rfl (World.shaped_of_RefB (by kernel_rfl) (by kernel_rfl)) (by kernel_rfl) (by kernel_rfl) (by kernel_rfl) (door_met os _)) ?_
  intro W base args ds gs before hval0 hW _ _ hL _
  have hT := tab_of_laid hL
  have hval : ∀ (j : Nat) t v, Tryd.f5.params[j]? = some t → args[j]? = some v → Value.okWide Tryd.prog W .any base t v := hval0
  have hW' := hW
  obtain ⟨p, q, hA0, hV, rfl, hfz, hnd⟩ := hW
  have hA : DataW.TrodAll enc Tryd.prog W 0 (fun _ => true) true Tryd.f5.params.toList args.toList ds p := hA0
  rw [Tryd.params5] at hA hval
  obtain ⟨v0, vs0, d0, ds0, p0, q0, hargs, rfl, rfl, h0, r0⟩ := trodAll_cons hA
  obtain ⟨v1, vs1, d1, ds1, p1, q1, rfl, rfl, rfl, h1, r1⟩ := trodAll_cons r0
  obtain ⟨rfl, rfl, rfl⟩ := trodAll_nil r1
  obtain rfl : args = #[v0, v1] := by cases args; simp_all
  obtain ⟨rfl, rfl⟩ := trodVars_none hV
  obtain ⟨a0, rfl, rfl, rfl, w0⟩ := open_int Tryd.underlying3 (hval 0 3 v0 rfl rfl) h0
  obtain ⟨a1, rfl, rfl, rfl, w1⟩ := open_int Tryd.underlying3 (hval 1 3 v1 rfl rfl) h1
  clear hA0 hval0
  refine (walk a0 a1 W hT (bounds_i64 w0) (bounds_i64 w1)).mono fun e W' ⟨he, bel⟩ => ?_
  subst he
  exact ⟨_, rfl, _, _, _, [], _, [], hW', trodAll_mk1 (shut_bool Tryd.underlying4 _), (trodAll_cons_mk (shut_int Tryd.underlying3 w0) (trodAll_cons_mk (shut_int Tryd.underlying3 w1) trodAll_mk0)), rfl, bel.frame _, fun h => by cases h⟩

theorem over : Rows.bitmapBoundRow.holds Tryd.pinned (OpenSpec.ofChange Rows.bitmapBoundSpec) :=
  OpenClaim.holds_of_wide 5 Tryd.f5 rfl rfl rfl rfl rfl rfl rfl ⟨rfl, rfl, rfl, rfl, rfl⟩ rfl rfl rfl rfl rfl (by kernel_rfl) Tryd.func5 (by kernel_rfl)
    (of_decide_eq_true (by kernel_rfl)) (by unfold Func.isWrapper; first | (rw [if_pos (by decide +kernel)]; kernel_rfl) | (rw [if_neg (by decide +kernel)]; exact ⟨rfl, rfl⟩))
    (fun os started H enc _ => lifted os started H enc)

theorem proved : Rows.BitmapBoundCardSaid :=
  Claim7.holds_tied_plain_at .later [] [.data] true (true, "28bd30fcbd6a3609b8547bea156e5a6144704f4bf7bb1016d4d0df63bcf5d9d1") false
    over (fun _ h => by cases h) (by kernel_rfl) (fun _ h => by cases h) bitmapBound_row_tie rfl ⟨rfl, rfl⟩ (by kernel_rfl) rfl
    (fun f fn hf hfn => by
      obtain rfl : f = 5 := Option.some.inj ((show Tryd.prog.funcNamed "middenheap/middenheaplaw03.BitmapBound" = some 5 by kernel_rfl).symm.trans hf) |>.symm
      obtain rfl : fn = Tryd.f5 := (Option.some.inj (Tryd.func5.symm.trans hfn)).symm
      exact ⟨by kernel_rfl, fun j t ht => by
        have hall : (Tryd.f5.params.toList.all fun u => !Tryd.prog.wantsStandIn u) = true := by kernel_rfl
        have hm : t ∈ Tryd.f5.params.toList := by simpa using Array.mem_of_getElem? ht
        exact (show Tryd.prog.wantsStandIn t = false by simpa using List.all_eq_true.1 hall t hm)⟩)
    (by kernel_rfl)
#print axioms proved

end Go.Proofs.YtcggjfljpoeanaaDoor.bitmapBound
