/- For any ops: Next, again and again, tells all that were Set and not Cleared since, by rising numbers, as many as Count does: the law BitmapGoes returns true and its arguments read as they did. Condition: the table that package math/bits reads holds what its initialiser lays (tied to the text by the card). -/
import Derived.Test.YtcggjfljpoeanaaDoorBitLaw
import Derived.Test.YtcggjfljpoeanaaDoorBitTab
namespace Go.Proofs.YtcggjfljpoeanaaDoor.bitmapGoes
open Go.ChangeShapes Go.WideShapes Go.ChangeAt Go.RowKit
set_option linter.unusedVariables false
set_option linter.unusedSimpArgs false

set_option maxRecDepth 100000 in
theorem zero300 (w : World) : Sem.run Tryd.prog (zeroValue 26) w = .ok (.agg (Array.replicate 300 (.bool false))) w := by kernel_rfl

/-- The law's own list of what is in, as cells. -/
def boolRow (m : Nat) : Array Value := ((List.range 300).map fun x => Value.bool (m.testBit x)).toArray
theorem row_zero (n : Nat) : Array.replicate n (Value.bool false) = ((List.range n).map fun x => Value.bool ((0 : Nat).testBit x)).toArray := by
  rw [← List.toArray_replicate]
  congr 1
  refine List.ext_getElem (by simp) fun j h1 h2 => ?_
  simp
theorem boolRow_zero : Array.replicate 300 (Value.bool false) = boolRow 0 := row_zero 300
theorem boolRow_at {w : World} {g m : Nat} {t : TypeId} (h : BlkIs w g (boolRow m) t) {x : Nat} (hx : x < 300) : w.cell? ⟨g, x, none⟩ = some (.bool (m.testBit x)) := by
  rw [h.cell]
  simp [boolRow, hx]
theorem boolRow_put {w : World} {g m : Nat} {t : TypeId} (h : BlkIs w g (boolRow m) t) (x : Nat) : BlkIs (w.setCell ⟨g, x, none⟩ (.bool true)) g (boolRow (Bm.put m x)) t := by
  have := h.set x (.bool true)
  unfold boolRow at this ⊢
  rw [List.setIfInBounds_toArray] at this
  rw [show Value.bool true = Value.bool ((Bm.put m x).testBit x) from by rw [Bm.put_bit]; simp, Bm.words_set (fun k => Value.bool (m.testBit k)) (fun k => Value.bool ((Bm.put m x).testBit k)) _ _ (fun k e => by have h' : ¬ x = k := (fun e' => e e'.symm); simp only [Bm.put_bit]; simp [h'])] at this
  rw [show Value.bool true = Value.bool ((Bm.put m x).testBit x) from by rw [Bm.put_bit]; simp]
  exact this
theorem boolRow_out {w : World} {g m : Nat} {t : TypeId} (h : BlkIs w g (boolRow m) t) (x : Nat) : BlkIs (w.setCell ⟨g, x, none⟩ (.bool false)) g (boolRow (Bm.out m x)) t := by
  have := h.set x (.bool false)
  unfold boolRow at this ⊢
  rw [List.setIfInBounds_toArray] at this
  rw [show Value.bool false = Value.bool ((Bm.out m x).testBit x) from by rw [Bm.out_bit]; simp, Bm.words_set (fun k => Value.bool (m.testBit k)) (fun k => Value.bool ((Bm.out m x).testBit k)) _ _ (fun k e => by have h' : ¬ x = k := (fun e' => e e'.symm); simp only [Bm.out_bit]; simp [h'])] at this
  rw [show Value.bool false = Value.bool ((Bm.out m x).testBit x) from by rw [Bm.out_bit]; simp]
  exact this


set_option maxRecDepth 100000 in
set_option maxHeartbeats 2000000 in
theorem walk (l : Option Addr) (len cap : Nat) (V : Nat → Nat → Value) (w : World) (hT : TabW w) (hl : IsFlat opKinds w l len cap V) :
    Calls Tryd.prog 3 #[.slice l len cap] w fun e w' => e = .returned (.bool true) ∧ Below w.heap.size w w' := by
  obtain ⟨fc, fi, hops⟩ := isOps_of_flat hl
  clear hl
  go_enter Tryd.func3, Tryd.ntmps3
  go_wp2_with fail
  refine (awake_yes _ hT).mono ?_
  rintro e w1 ⟨rfl, hb1⟩
  have hT1 := hT.below hb1 hT.lt
  go_wp2_with fail
  refine (new_at 300 _ (by omega) hT1).mono ?_
  rintro e w2 ⟨p, q, rfl, h2, hp, hq, hb⟩
  have hb2 := hb1.trans (hb.mono hb1.size)
  have hq' := Nat.le_trans hb1.size hq
  clear hb1 hb hq hp hT1 hT
  go_wp2
  rw [zero300, boolRow_zero]
  have hR := BlkIs.new w2 (boolRow 0) 26
  have h3 := h2.alloc (.cells (boolRow 0) 26)
  have hb3 := hb2.alloc hb2.size (.cells (boolRow 0) 26)
  have hlt := h2.lt
  have hbs := hb2.size
  obtain ⟨W, hW⟩ : ∃ W, w2.alloc (.cells (boolRow 0) 26) = W := ⟨_, rfl⟩
  obtain ⟨g, hg⟩ : ∃ g, w2.heap.size = g := ⟨_, rfl⟩
  rw [hg] at hR hlt hbs
  go_wp2_with (simp only [hW, hg])
  rw [hW] at hR h3 hb3
  have g1 : ¬ g = q := by omega
  have g2 : ¬ q = g := by omega
  have g3 : ¬ p = g := by omega
  have g4 : ¬ 0 = g := by omega
  clear hW hg hb2 h2 hlt
  go_loopw [6] (fun i wr => ∃ (j m : Nat), j ≤ 60 ∧ i = .int .i64 j ∧ BitAt wr p q 300 m ∧ BlkIs wr g (boolRow m) 26 ∧ Below w.heap.size w wr) (fun i _ => 60 - (intOf i).toNat)
  case atStart => exact ⟨0, 0, by omega, rfl, h3, hR, hb3⟩
  case round =>
    clear h3 hR hb3
    obtain ⟨j, m, hj, rfl, h3, hR, hb3⟩ := hrel
    by_cases h0 : j < len
    · by_cases h60 : j < 60
      · have hd : decide ((j : Int) < 60) = true := by simp; omega
        rcases hops with ⟨e, -⟩ | ⟨bo, off, rfl, hbo, hlc, hcm, hcell⟩
        · exact absurd h0 (by omega)
        · obtain ⟨cc, ci, f0, f1⟩ := hcell j (by omega)
          have ci := (hb3.cell (p := ⟨bo, off + j * 2 + 1, none⟩) hbo).trans ci
          have cc := (hb3.cell (p := ⟨bo, off + j * 2, none⟩) hbo).trans cc
          generalize fi j = x at *
          generalize fc j = d at *
          clear hcell
          go_wp2_with fail
          refine (pick_nat _ 300 _ f0 f1 (by decide) (by decide)).mono ?_
          rintro e y0 ⟨k, hk, rfl, rfl⟩
          have hck := boolRow_at hR hk
          have hk1 : (0 : Int) ≤ (k : Int) := by omega
          have hk2 : (k : Int) < 300 := by omega
          have hRlt := hR.lt
          cases d
          · have he : ((!m.testBit k) == m.testBit k) = false := by cases m.testBit k <;> rfl
            go_wp2
            go_region_held3 (fun W => W.cell? ⟨g, k, none⟩ = some (.bool (m.testBit k))) (first | (go_keep; done) | exact (hc.cell (p := ⟨g, k, none⟩) hRlt g1).trans hck)
              ((go_at_call 12; refine (set_at k _ h3.drew hk).mono ?_; rintro e w2 ⟨rfl, h4, hc⟩))
            have hR2 := BlkIs.chg (a := wr.drew) hR hc g1
            have hb4 := hb3.drew.trans (below_chg hc hq' hb3.size)
            have hf := hR2.free k
            have hR3 := boolRow_put hR2 k
            have h5 := h4.chg ((Chg.refl (· = g) w2).setCell (p := ⟨g, k, none⟩) (.inl rfl) (.bool true)) g3 g2 g4
            have hb5 := hb4.setCell (p := ⟨g, k, none⟩) hbs (.bool true)
            clear h3 hR hb3 hc hR2 hb4 h4 cc
            go_wp2
            go_roundw
            case rel => exact ⟨j + 1, _, by omega, by go_num, h5, hR3, hb5⟩
            case measure => simp [intOf]; omega
          · have he : (m.testBit k != m.testBit k) = false := by simp
            go_wp2
            go_region_held3 (fun W => W.cell? ⟨g, k, none⟩ = some (.bool (m.testBit k))) (first | (go_keep; done) | exact (hc.cell (p := ⟨g, k, none⟩) hRlt g1).trans hck)
              ((go_at_call 11; refine (clear_at k _ h3.drew (by omega)).mono ?_; rintro e w2 ⟨rfl, h4, hc⟩))
            have hR2 := BlkIs.chg (a := wr.drew) hR hc g1
            have hb4 := hb3.drew.trans (below_chg hc hq' hb3.size)
            have hf := hR2.free k
            have hR3 := boolRow_out hR2 k
            have h5 := h4.chg ((Chg.refl (· = g) w2).setCell (p := ⟨g, k, none⟩) (.inl rfl) (.bool false)) g3 g2 g4
            have hb5 := hb4.setCell (p := ⟨g, k, none⟩) hbs (.bool false)
            clear h3 hR hb3 hc hR2 hb4 h4 cc
            go_wp2
            go_roundw
            case rel => exact ⟨j + 1, _, by omega, by go_num, h5, hR3, hb5⟩
            case measure => simp [intOf]; omega
      · have hd : decide ((j : Int) < 60) = false := by simp; omega
        obtain ⟨wo, rfl⟩ : ∃ wo : World, wo = wr := ⟨_, rfl⟩
        go_wp2
        go_loopw [8, 9, 10] (fun κ n i wr => ∃ (x k : Nat), x ≤ 300 ∧ k ≤ x ∧ κ = .int .i64 k ∧ n = .int .i64 (Bm.cnt m 0 x : Nat) ∧ i = .int .i64 x ∧ Hid (∀ j, k ≤ j → j < x → m.testBit j = false) ∧ BitAt wr p q 300 m ∧ BlkIs wr g (boolRow m) 26 ∧ Below w.heap.size w wr) (fun _ _ i _ => 300 - (intOf i).toNat)
        case atStart => exact ⟨0, 0, by omega, by omega, rfl, rfl, rfl, fun j _ h => by omega, h3, hR, hb3⟩
        case round =>
          obtain ⟨x, k, hx, hkx, rfl, rfl, rfl, hnone, h3, hR, hb3⟩ := hrel
          have hle := Bm.cnt_le m 0 x
          by_cases hlt : x < 300
          · have hcx := boolRow_at hR hlt
            have hcs := Lib.hid (Bm.cnt_succ m 0 x)
            cases hm : m.testBit x
            · rw [hm] at hcx hcs
              have Hm := Lib.hid hm
              clear hm
              go_wp2
              go_roundw
              case rel => exact ⟨x + 1, k, by omega, by omega, rfl, by rw [hcs.out]; simp, by go_num, fun j h1 h2 => by
                            by_cases e : j = x
                            · subst e; exact Hm.out
                            · exact hnone.out j h1 (by omega), h3, hR, hb3⟩
              case measure => simp [intOf]; omega
            · rw [hm] at hcx hcs
              have hnx := next_yes (m := m) (a := k) (bound := 300) hkx hlt hm hnone.out
              have Hm := Lib.hid hm
              clear hm
              go_wp2_with fail
              refine (next_any _ _ h3 (by omega) (by omega)).mono ?_
              rintro e y1 ⟨rfl, hb⟩
              have h4 := h3.below hb h3.lt.1 h3.lt.2.1 h3.lt.2.2
              have hR4 := hR.below hb hR.lt
              have hb4 := hb3.trans (hb.mono hb3.size)
              rw [Int.toNat_natCast, hnx.1, hnx.2]
              clear hnx h3 hR hb3 hb
              go_wp2_with fail
              refine (has_any _ _ h4 (by omega) (by omega)).mono ?_
              rintro e y1 ⟨rfl, hb⟩
              have h5 := h4.below hb h4.lt.1 h4.lt.2.1 h4.lt.2.2
              have hR5 := hR4.below hb hR4.lt
              have hb5 := hb4.trans (hb.mono hb4.size)
              rw [hasB_nat, Hm.out]
              clear h4 hR4 hb4 hb
              go_wp2
              go_roundw
              case rel => exact ⟨x + 1, x + 1, by omega, by omega, by go_num, by rw [hcs.out]; simp, by go_num, fun j h1 h2 => by omega, h5, hR5, hb5⟩
              case measure => simp [intOf]; omega
          · obtain rfl : x = 300 := by omega
            have hnx := next_no (m := m) (a := k) (bound := 300) hnone.out
            have hal := Bm.cnt_all (m := m) (a := 0) (n := 1099511627776) (b := 300) h3.fits (by decide)
            go_wp2_with fail
            refine (next_any _ _ h3 (by omega) (by omega)).mono ?_
            rintro e y1 ⟨rfl, hb⟩
            have h4 := h3.below hb h3.lt.1 h3.lt.2.1 h3.lt.2.2
            have hb4 := hb3.trans (hb.mono hb3.size)
            rw [Int.toNat_natCast, hnx.1, hnx.2]
            clear hnx h3 hR hb3 hb
            go_wp2_with fail
            refine (count_any _ _ _ h4 (by omega) (by omega)).mono ?_
            rintro e y1 ⟨rfl, hb⟩
            have h5 := h4.below hb h4.lt.1 h4.lt.2.1 h4.lt.2.2
            have hb5 := hb4.trans (hb.mono hb4.size)
            rw [show (0 : Int).toNat = 0 from rfl, show (300 : Int).toNat = 300 from rfl]
            clear h4 hb4 hb
            go_wp2_with fail
            refine (count_any _ _ _ h5 (by omega) (by omega)).mono ?_
            rintro e y1 ⟨rfl, hb⟩
            have hb6 := hb5.trans (hb.mono hb5.size)
            rw [show (-9 : Int).toNat = 0 from rfl, show (1099511627776 : Int).toNat = 1099511627776 from rfl, hal]
            clear h5 hb5 hb hal
            go_wp2
            go_ret
            exact ⟨by simp, hb6⟩
    · have hd0 : decide ((j : Int) < (len : Int)) = false := by simp; omega
      obtain ⟨wo, rfl⟩ : ∃ wo : World, wo = wr := ⟨_, rfl⟩
      go_wp2
      go_loopw [8, 9, 10] (fun κ n i wr => ∃ (x k : Nat), x ≤ 300 ∧ k ≤ x ∧ κ = .int .i64 k ∧ n = .int .i64 (Bm.cnt m 0 x : Nat) ∧ i = .int .i64 x ∧ Hid (∀ j, k ≤ j → j < x → m.testBit j = false) ∧ BitAt wr p q 300 m ∧ BlkIs wr g (boolRow m) 26 ∧ Below w.heap.size w wr) (fun _ _ i _ => 300 - (intOf i).toNat)
      case atStart => exact ⟨0, 0, by omega, by omega, rfl, rfl, rfl, fun j _ h => by omega, h3, hR, hb3⟩
      case round =>
        obtain ⟨x, k, hx, hkx, rfl, rfl, rfl, hnone, h3, hR, hb3⟩ := hrel
        have hle := Bm.cnt_le m 0 x
        by_cases hlt : x < 300
        · have hcx := boolRow_at hR hlt
          have hcs := Lib.hid (Bm.cnt_succ m 0 x)
          cases hm : m.testBit x
          · rw [hm] at hcx hcs
            have Hm := Lib.hid hm
            clear hm
            go_wp2
            go_roundw
            case rel => exact ⟨x + 1, k, by omega, by omega, rfl, by rw [hcs.out]; simp, by go_num, fun j h1 h2 => by
                          by_cases e : j = x
                          · subst e; exact Hm.out
                          · exact hnone.out j h1 (by omega), h3, hR, hb3⟩
            case measure => simp [intOf]; omega
          · rw [hm] at hcx hcs
            have hnx := next_yes (m := m) (a := k) (bound := 300) hkx hlt hm hnone.out
            have Hm := Lib.hid hm
            clear hm
            go_wp2_with fail
            refine (next_any _ _ h3 (by omega) (by omega)).mono ?_
            rintro e y1 ⟨rfl, hb⟩
            have h4 := h3.below hb h3.lt.1 h3.lt.2.1 h3.lt.2.2
            have hR4 := hR.below hb hR.lt
            have hb4 := hb3.trans (hb.mono hb3.size)
            rw [Int.toNat_natCast, hnx.1, hnx.2]
            clear hnx h3 hR hb3 hb
            go_wp2_with fail
            refine (has_any _ _ h4 (by omega) (by omega)).mono ?_
            rintro e y1 ⟨rfl, hb⟩
            have h5 := h4.below hb h4.lt.1 h4.lt.2.1 h4.lt.2.2
            have hR5 := hR4.below hb hR4.lt
            have hb5 := hb4.trans (hb.mono hb4.size)
            rw [hasB_nat, Hm.out]
            clear h4 hR4 hb4 hb
            go_wp2
            go_roundw
            case rel => exact ⟨x + 1, x + 1, by omega, by omega, by go_num, by rw [hcs.out]; simp, by go_num, fun j h1 h2 => by omega, h5, hR5, hb5⟩
            case measure => simp [intOf]; omega
        · obtain rfl : x = 300 := by omega
          have hnx := next_no (m := m) (a := k) (bound := 300) hnone.out
          have hal := Bm.cnt_all (m := m) (a := 0) (n := 1099511627776) (b := 300) h3.fits (by decide)
          go_wp2_with fail
          refine (next_any _ _ h3 (by omega) (by omega)).mono ?_
          rintro e y1 ⟨rfl, hb⟩
          have h4 := h3.below hb h3.lt.1 h3.lt.2.1 h3.lt.2.2
          have hb4 := hb3.trans (hb.mono hb3.size)
          rw [Int.toNat_natCast, hnx.1, hnx.2]
          clear hnx h3 hR hb3 hb
          go_wp2_with fail
          refine (count_any _ _ _ h4 (by omega) (by omega)).mono ?_
          rintro e y1 ⟨rfl, hb⟩
          have h5 := h4.below hb h4.lt.1 h4.lt.2.1 h4.lt.2.2
          have hb5 := hb4.trans (hb.mono hb4.size)
          rw [show (0 : Int).toNat = 0 from rfl, show (300 : Int).toNat = 300 from rfl]
          clear h4 hb4 hb
          go_wp2_with fail
          refine (count_any _ _ _ h5 (by omega) (by omega)).mono ?_
          rintro e y1 ⟨rfl, hb⟩
          have hb6 := hb5.trans (hb.mono hb5.size)
          rw [show (-9 : Int).toNat = 0 from rfl, show (1099511627776 : Int).toNat = 1099511627776 from rfl, hal]
          clear h5 hb5 hb hal
          go_wp2
          go_ret
          exact ⟨by simp, hb6⟩

set_option maxRecDepth 100000 in
theorem lifted (os : Os) (started : os.Started) (H : Type) (enc : TypeId × Value → H) :
    ReturnsInHanded {} Tryd.checked os 3 .any (fun w args => (Rows.bitmapGoesSpec.pre enc Tryd.prog Tryd.f3 [] false w args ∧ laidMetH Tryd.prog [("math/bits.deBruijn64tab", Rows.laid_math_bits_deBruijn64tab)] w) ∧ sizedMet enc Tryd.prog Tryd.f3 (OpenSpec.ofChange Rows.bitmapGoesSpec) false w args) (Rows.bitmapGoesSpec.post enc Tryd.prog Tryd.f3 false true false false) := by
  refine returnsInHanded_of_change_and (C := Tryd.checked) (X := fun w _ => laidMetH Tryd.prog [("math/bits.deBruijn64tab", Rows.laid_math_bits_deBruijn64tab)] w) (fun _ _ _ hh h => h.of_heap hh) own started (by kernel_rfl) Tryd.func3
    (ChangeSpec.witness_shaped (enc := enc) (C := Tryd.checked) (os := os) (X := fun w _ => laidMetH Tryd.prog [("math/bits.deBruijn64tab", Rows.laid_math_bits_deBruijn64tab)] w) false (World.doorLaid Tryd.prog 400 os) #[.slice none 0 0] 8 rfl (World.shaped_of_RefB (by kernel_rfl) (by kernel_rfl)) (by kernel_rfl) (by kernel_rfl) (by kernel_rfl) (door_met os _)) ?_
  intro W base args ds gs before hval0 hW _ _ hL _
  have hT := tab_of_laid hL
  have hval : ∀ (j : Nat) t v, Tryd.f3.params[j]? = some t → args[j]? = some v → Value.okWide Tryd.prog W .any base t v := hval0
  have hW' := hW
  obtain ⟨p, q, hA0, hV, rfl, hfz, hnd⟩ := hW
  have hA : DataW.TrodAll enc Tryd.prog W 0 (fun _ => true) true Tryd.f3.params.toList args.toList ds p := hA0
  rw [Tryd.params3] at hA hval
  obtain ⟨v0, vs0, d0, ds0, p0, q0, hargs, rfl, rfl, h0, r0⟩ := trodAll_cons hA
  obtain ⟨rfl, rfl, rfl⟩ := trodAll_nil r0
  obtain rfl : args = #[v0] := by cases args; simp_all
  obtain ⟨rfl, rfl⟩ := trodVars_none hV
  obtain ⟨a0, len0, cap0, rfl⟩ := okWide_slice Tryd.underlying22 (hval 0 22 v0 rfl rfl)
  have k0 := h0
  have lt0 : ∀ x ∈ p0, x.block < W.heap.size := by obtain ⟨m, hm⟩ := k0; exact DataW.trod_lt m _ _ _ hm
  obtain ⟨z0, w0⟩ := open_flats (n := 8) (ks := opKinds) Tryd.underlying22 (by kernel_rfl) (by kernel_rfl) (by decide) h0
  clear hA0 hval0
  refine (walk a0 len0 cap0 z0 W hT w0).mono fun e W' ⟨he, bel⟩ => ?_
  subst he
  exact ⟨_, rfl, _, _, _, [], _, [], hW', trodAll_mk1 (shut_bool Tryd.underlying4 _), (trodAll_cons_mk (Below.trod laidOut (by kernel_rfl) (of_decide_eq_true (by kernel_rfl)) k0 bel lt0) trodAll_mk0), rfl, bel.frame _, fun h => by cases h⟩

theorem over : Rows.bitmapGoesRow.holds Tryd.pinned (OpenSpec.ofChange Rows.bitmapGoesSpec) :=
  OpenClaim.holds_of_wide 3 Tryd.f3 rfl rfl rfl rfl rfl rfl rfl ⟨rfl, rfl, rfl, rfl, rfl⟩ rfl rfl rfl rfl rfl (by kernel_rfl) Tryd.func3 (by kernel_rfl)
    (of_decide_eq_true (by kernel_rfl)) (by unfold Func.isWrapper; first | (rw [if_pos (by decide +kernel)]; kernel_rfl) | (rw [if_neg (by decide +kernel)]; exact ⟨rfl, rfl⟩))
    (fun os started H enc _ => lifted os started H enc)

theorem proved : Rows.BitmapGoesCardSaid :=
  Claim7.holds_tied_plain_at .later [] [.data] true (true, "28bd30fcbd6a3609b8547bea156e5a6144704f4bf7bb1016d4d0df63bcf5d9d1") false
    over (fun _ h => by cases h) (by kernel_rfl) (fun _ h => by cases h) bitmapGoes_row_tie rfl ⟨rfl, rfl⟩ (by kernel_rfl) rfl
    (fun f fn hf hfn => by
      obtain rfl : f = 3 := Option.some.inj ((show Tryd.prog.funcNamed "middenheap/middenheaplaw03.BitmapGoes" = some 3 by kernel_rfl).symm.trans hf) |>.symm
      obtain rfl : fn = Tryd.f3 := (Option.some.inj (Tryd.func3.symm.trans hfn)).symm
      exact ⟨by kernel_rfl, fun j t ht => by
        have hall : (Tryd.f3.params.toList.all fun u => !Tryd.prog.wantsStandIn u) = true := by kernel_rfl
        have hm : t ∈ Tryd.f3.params.toList := by simpa using Array.mem_of_getElem? ht
        exact (show Tryd.prog.wantsStandIn t = false by simpa using List.all_eq_true.1 hall t hm)⟩)
    (by kernel_rfl)
#print axioms proved

end Go.Proofs.YtcggjfljpoeanaaDoor.bitmapGoes
