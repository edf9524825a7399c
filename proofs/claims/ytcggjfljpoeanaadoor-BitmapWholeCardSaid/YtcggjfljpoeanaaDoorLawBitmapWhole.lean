/- For every stretch below 300: with all its numbers in, Next tells each of them, and Count how many there are: the law BitmapWhole returns true and its arguments read as they did. Condition: the table that package math/bits reads holds what its initialiser lays (tied to the text by the card). -/
import Derived.Test.YtcggjfljpoeanaaDoorBitLaw
import Derived.Test.YtcggjfljpoeanaaDoorBitTab
namespace Go.Proofs.YtcggjfljpoeanaaDoor.bitmapWhole
open Go.ChangeShapes Go.WideShapes Go.ChangeAt Go.RowKit
set_option linter.unusedVariables false
set_option linter.unusedSimpArgs false

/-- Just the n numbers from f on are in. -/
def Run (m f n : Nat) : Prop := ∀ j, m.testBit j = (decide (f ≤ j) && decide (j < f + n))
theorem run_zero (f : Nat) : Run 0 f 0 := fun j => by
  rw [Nat.zero_testBit]
  by_cases h : f ≤ j
  · have : ¬ j < f := by omega
    simp [this]
  · simp [h]
theorem Run.next {m f n : Nat} (h : Run m f n) : Run (Bm.put m (f + n)) f (n + 1) := fun j => by
  rw [Bm.put_bit, h j]
  by_cases e : f + n = j
  · subst e; simp
  · by_cases h1 : f ≤ j
    · by_cases h2 : j < f + n
      · have : j < f + (n + 1) := by omega
        simp [h1, h2, this]
      · have : ¬ j < f + (n + 1) := by omega
        simp [h2, e, this]
    · simp [e, h1]
theorem Run.off {m f n : Nat} (h : Run m f n) : m.testBit (f + n) = false := by rw [h]; simp
theorem Run.cnt {m f n a : Nat} (h : Run m f n) (ha : a ≤ f) : ∀ i, i ≤ n → Bm.cnt m a (f + i) = i := by
  intro i
  induction i with
  | zero =>
    intro _
    unfold Bm.cnt
    rw [Bm.els_skip (c := 0) (Nat.zero_le _) (fun j _ h2 _ => by rw [h j]; have : ¬ f ≤ j := by omega
                                                                 simp [this])]
    rfl
  | succ i ih =>
    intro hi
    rw [← Nat.add_assoc, Bm.cnt_succ, ih (by omega), if_pos ⟨by omega, by rw [h]; simp; omega⟩]
theorem Run.all {m f n : Nat} (h : Run m f n) (hf : f + n ≤ 300) : Bm.cnt m 0 300 = n := by
  have := h.cnt (Nat.zero_le f) n (Nat.le_refl _)
  unfold Bm.cnt at this ⊢
  rw [Bm.els_skip (c := f + n) hf (fun j h1 _ _ => by rw [h j]; have : ¬ j < f + n := by omega
                                                      simp [this])]
  exact this
theorem Run.hit {m f n i : Nat} (h : Run m f n) (hi : i < n) (hf : f + n ≤ 300) : nextN m (f + i) 300 = f + i ∧ nextB m (f + i) 300 = true :=
  next_yes (Nat.le_refl _) (by omega) (by rw [h]; simp; omega) (fun j h1 h2 => by omega)
theorem Run.miss {m f n : Nat} (h : Run m f n) : nextN m (f + n) 300 = 0 ∧ nextB m (f + n) 300 = false :=
  next_no fun j h1 h2 => by
    rw [h j]
    have : ¬ j < f + n := by omega
    simp [this]

set_option maxRecDepth 100000 in
set_option maxHeartbeats 2000000 in
theorem walk (a b : Int) (w : World) (hT : TabW w) (wa : -9223372036854775808 ≤ a ∧ a ≤ 9223372036854775807) (wb : -9223372036854775808 ≤ b ∧ b ≤ 9223372036854775807) :
    Calls Tryd.prog 6 #[.int .i64 a, .int .i64 b] w fun e w' => e = .returned (.bool true) ∧ Below w.heap.size w w' := by
  obtain ⟨a0, a1⟩ := wa
  obtain ⟨b0, b1⟩ := wb
  go_enter Tryd.func6, Tryd.ntmps6
  go_wp2_with fail
  refine (awake_yes _ hT).mono ?_
  rintro e w1 ⟨rfl, hb1⟩
  have hT1 := hT.below hb1 hT.lt
  go_wp2_with fail
  refine (new_at 300 _ (by omega) hT1).mono ?_
  rintro e w2 ⟨p, q, rfl, h2, hp, hq, hb⟩
  have hb2 := hb1.trans (hb.mono hb1.size)
  have hq' := Nat.le_trans hb1.size hq
  clear hb1 hb hq hp hT1 hT
  go_wp2_with fail
  refine (pick_nat _ 300 _ a0 a1 (by decide) (by decide)).mono ?_
  rintro e w3 ⟨f, hf, rfl, rfl⟩
  go_wp2_with fail
  rw [show (300 : Int) - (f : Int) + 1 = ((301 - f : Nat) : Int) from by omega]
  refine (pick_nat _ (301 - f) _ b0 b1 (by omega) (by omega)).mono ?_
  rintro e w3 ⟨n, hn, rfl, rfl⟩
  have hfn : f + n ≤ 300 := by omega
  clear hn
  go_wp2
  go_loopw [9] (fun i wr => ∃ (j m : Nat), j ≤ n ∧ i = .int .i64 j ∧ BitAt wr p q 300 m ∧ Hid (Run m f j) ∧ Below w.heap.size w wr) (fun i _ => n - (intOf i).toNat)
  case atStart => exact ⟨0, 0, by omega, rfl, h2, run_zero f, hb2⟩
  case round =>
    obtain ⟨j, m, hj, rfl, h3, hr, hb3⟩ := hrel
    by_cases h0 : j < n
    · go_wp2_with fail
      rw [show (f : Int) + (j : Int) = ((f + j : Nat) : Int) from by omega]
      refine (set_at (f + j) _ h3 (by omega)).mono ?_
      rintro e y1 ⟨rfl, h4, hc⟩
      have hb4 := hb3.trans (below_chg hc hq' hb3.size)
      have hr4 := Lib.hid hr.out.next
      rw [hr.out.off]
      clear h3 hc hb3 hr
      go_wp2
      go_roundw
      case rel => exact ⟨j + 1, _, by omega, by go_num, h4, hr4.out, hb4⟩
      case measure => simp [intOf]; omega
    · obtain rfl : j = n := by omega
      clear hb2 h2
      obtain ⟨wo, rfl⟩ : ∃ wo : World, wo = wr := ⟨_, rfl⟩
      go_wp2
      go_loopw [10] (fun i wr => ∃ k : Nat, k ≤ j ∧ i = .int .i64 k ∧ BitAt wr p q 300 m ∧ Below w.heap.size w wr) (fun i _ => j - (intOf i).toNat)
      case atStart => exact ⟨0, by omega, rfl, h3, hb3⟩
      case round =>
        obtain ⟨k, hk, rfl, h3, hb3⟩ := hrel
        by_cases h0 : k < j
        · have hh := hr.out.hit h0 hfn
          have hcn := hr.out.cnt (Nat.le_refl f) k hk
          go_wp2_with fail
          rw [show (f : Int) + (k : Int) = ((f + k : Nat) : Int) from by omega]
          refine (next_any _ _ h3 (by omega) (by omega)).mono ?_
          rintro e y1 ⟨rfl, hb⟩
          have h4 := h3.below hb h3.lt.1 h3.lt.2.1 h3.lt.2.2
          have hb4 := hb3.trans (hb.mono hb3.size)
          clear hb
          rw [Int.toNat_natCast, hh.1, hh.2]
          have he : (((f + k : Nat) : Int) != (f : Int) + (k : Int)) = false := by simp
          go_wp2_with fail
          rw [show (f : Int) + (k : Int) = ((f + k : Nat) : Int) from by omega]
          refine (count_any _ _ _ h4 (by omega) (by omega)).mono ?_
          rintro e y1 ⟨rfl, hb⟩
          have h5 := h4.below hb h4.lt.1 h4.lt.2.1 h4.lt.2.2
          have hb5 := hb4.trans (hb.mono hb4.size)
          clear hb
          rw [Int.toNat_natCast, Int.toNat_natCast, hcn]
          clear hh hcn
          go_wp2
          go_roundw
          case rel => exact ⟨k + 1, by omega, by go_num, h5, hb5⟩
          case measure => simp [intOf]; omega
        · obtain rfl : k = j := by omega
          have hh := hr.out.miss
          have hal := hr.out.all hfn
          go_wp2_with fail
          rw [show (f : Int) + (k : Int) = ((f + k : Nat) : Int) from by omega]
          refine (next_any _ _ h3 (by omega) (by omega)).mono ?_
          rintro e y1 ⟨rfl, hb⟩
          have h4 := h3.below hb h3.lt.1 h3.lt.2.1 h3.lt.2.2
          have hb4 := hb3.trans (hb.mono hb3.size)
          clear hb
          rw [Int.toNat_natCast, hh.1, hh.2]
          go_wp2_with fail
          refine (count_any _ _ _ h4 (by omega) (by omega)).mono ?_
          rintro e y1 ⟨rfl, hb⟩
          have hb5 := hb4.trans (hb.mono hb4.size)
          rw [show (0 : Int).toNat = 0 from rfl, show (300 : Int).toNat = 300 from rfl, hal]
          clear hh hal hb
          go_wp2
          go_ret
          exact ⟨by simp, hb5⟩

set_option maxRecDepth 100000 in
theorem lifted (os : Os) (started : os.Started) (H : Type) (enc : TypeId × Value → H) :
    ReturnsInHanded {} Tryd.checked os 6 .any (fun w args => (Rows.bitmapWholeSpec.pre enc Tryd.prog Tryd.f6 [] false w args ∧ laidMetH Tryd.prog [("math/bits.deBruijn64tab", Rows.laid_math_bits_deBruijn64tab)] w) ∧ sizedMet enc Tryd.prog Tryd.f6 (OpenSpec.ofChange Rows.bitmapWholeSpec) false w args) (Rows.bitmapWholeSpec.post enc Tryd.prog Tryd.f6 false true false false) := by
  refine returnsInHanded_of_change_and (C := Tryd.checked) (X := fun w _ => laidMetH Tryd.prog [("math/bits.deBruijn64tab", Rows.laid_math_bits_deBruijn64tab)] w) (fun _ _ _ hh h => h.of_heap hh) own started (by kernel_rfl) Tryd.func6
    (ChangeSpec.witness_shaped (enc := enc) (C := Tryd.checked) (os := os) (X := fun w _ => laidMetH Tryd.prog [("math/bits.deBruijn64tab", Rows.laid_math_bits_deBruijn64tab)] w) false (World.doorLaid Tryd.prog 400 os) #[.int .i64 0, .int .i64 0] 8 rfl (World.shaped_of_RefB (by kernel_rfl) (by kernel_rfl)) (by kernel_rfl) (by kernel_rfl) (by kernel_rfl) (door_met os _)) ?_
  intro W base args ds gs before hval0 hW _ _ hL _
  have hT := tab_of_laid hL
  have hval : ∀ (j : Nat) t v, Tryd.f6.params[j]? = some t → args[j]? = some v → Value.okWide Tryd.prog W .any base t v := hval0
  have hW' := hW
  obtain ⟨p, q, hA0, hV, rfl, hfz, hnd⟩ := hW
  have hA : DataW.TrodAll enc Tryd.prog W 0 (fun _ => true) true Tryd.f6.params.toList args.toList ds p := hA0
  rw [Tryd.params6] at hA hval
  obtain ⟨v0, vs0, d0, ds0, p0, q0, hargs, rfl, rfl, h0, r0⟩ := trodAll_cons hA
  obtain ⟨v1, vs1, d1, ds1, p1, q1, rfl, rfl, rfl, h1, r1⟩ := trodAll_cons r0
  obtain ⟨rfl, rfl, rfl⟩ := trodAll_nil r1
  obtain rfl : args = #[v0, v1] := by cases args; simp_all
  obtain ⟨rfl, rfl⟩ := trodVars_none hV
  obtain ⟨a0, rfl, rfl, rfl, w0⟩ := open_int Tryd.underlying3 (hval 0 3 v0 rfl rfl) h0
  obtain ⟨a1, rfl, rfl, rfl, w1⟩ := open_int Tryd.underlying3 (hval 1 3 v1 rfl rfl) h1
  clear hA0 hval0
  refine (walk a0 a1 W hT (bounds_i64 w0) (bounds_i64 w1)).mono fun e W' ⟨he, bel⟩ => ?_
  subst he
  exact ⟨_, rfl, _, _, _, [], _, [], hW', trodAll_mk1 (shut_bool Tryd.underlying4 _), (trodAll_cons_mk (shut_int Tryd.underlying3 w0) (trodAll_cons_mk (shut_int Tryd.underlying3 w1) trodAll_mk0)), rfl, bel.frame _, fun h => by cases h⟩

theorem over : Rows.bitmapWholeRow.holds Tryd.pinned (OpenSpec.ofChange Rows.bitmapWholeSpec) :=
  OpenClaim.holds_of_wide 6 Tryd.f6 rfl rfl rfl rfl rfl rfl rfl ⟨rfl, rfl, rfl, rfl, rfl⟩ rfl rfl rfl rfl rfl (by kernel_rfl) Tryd.func6 (by kernel_rfl)
    (of_decide_eq_true (by kernel_rfl)) (by unfold Func.isWrapper; first | (rw [if_pos (by decide +kernel)]; kernel_rfl) | (rw [if_neg (by decide +kernel)]; exact ⟨rfl, rfl⟩))
    (fun os started H enc _ => lifted os started H enc)

theorem proved : Rows.BitmapWholeCardSaid :=
  Claim7.holds_tied_plain_at .later [] [.data] true (true, "28bd30fcbd6a3609b8547bea156e5a6144704f4bf7bb1016d4d0df63bcf5d9d1") false
    over (fun _ h => by cases h) (by kernel_rfl) (fun _ h => by cases h) bitmapWhole_row_tie rfl ⟨rfl, rfl⟩ (by kernel_rfl) rfl
    (fun f fn hf hfn => by
      obtain rfl : f = 6 := Option.some.inj ((show Tryd.prog.funcNamed "middenheap/middenheaplaw03.BitmapWhole" = some 6 by kernel_rfl).symm.trans hf) |>.symm
      obtain rfl : fn = Tryd.f6 := (Option.some.inj (Tryd.func6.symm.trans hfn)).symm
      exact ⟨by kernel_rfl, fun j t ht => by
        have hall : (Tryd.f6.params.toList.all fun u => !Tryd.prog.wantsStandIn u) = true := by kernel_rfl
        have hm : t ∈ Tryd.f6.params.toList := by simpa using Array.mem_of_getElem? ht
        exact (show Tryd.prog.wantsStandIn t = false by simpa using List.all_eq_true.1 hall t hm)⟩)
    (by kernel_rfl)
#print axioms proved

end Go.Proofs.YtcggjfljpoeanaaDoor.bitmapWhole
