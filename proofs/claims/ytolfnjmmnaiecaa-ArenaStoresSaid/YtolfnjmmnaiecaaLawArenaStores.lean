/- For every size, any ops ahead, any place and word: what was stored is loaded, and no other word is touched: the law ArenaStores returns true and its arguments read as they did. No condition. -/
import Derived.Test.YtolfnjmmnaiecaaArenaLaw
import Derived.Test.YtolfnjmmnaiecaaOwnRow
import Derived.Test.YtolfnjmmnaiecaaOpen
namespace Go.Proofs.Ytolfnjmmnaiecaa.arenaStores
open Go.ChangeShapes Go.WideShapes Go.ChangeAt Go.RowKit
set_option linter.unusedVariables false
set_option linter.unusedSimpArgs false

theorem load_in {l : List Int} {m n : Nat} (hl : l.length = n) (h : m < n) : loadV l m = l.getD m 0 ∧ errV l.length m 1 = 0 := by
  have hf : fitsB l.length m 1 = true := fitsB_of (by omega) (by omega) (by omega)
  unfold loadV errV
  rw [hf]
  exact ⟨rfl, rfl⟩
theorem store_in {l : List Int} {m n : Nat} (x : Int) (hl : l.length = n) (h : m < n) : fillV l m 1 x = l.set m x ∧ errV l.length m 1 = 0 := by
  have hf : fitsB l.length m 1 = true := fitsB_of (by omega) (by omega) (by omega)
  unfold fillV errV
  rw [hf]
  exact ⟨rfl, rfl⟩
theorem set_at {l : List Int} {m j : Nat} {x : Int} (h : j < l.length) : (l.set m x).getD j 0 = if j = m then x else l.getD j 0 := by
  rw [List.getD_eq_getElem?_getD, List.getElem?_set]
  by_cases e : m = j
  · subst e; simp [h]
  · rw [if_neg e, if_neg (Ne.symm e), List.getD_eq_getElem?_getD]
theorem fill_len (l : List Int) (a n x : Int) : (fillV l a n x).length = l.length := by
  unfold fillV; split <;> simp


set_option maxRecDepth 100000 in
set_option maxHeartbeats 2000000 in
theorem walk (a0 : Int) (a1 : Option Addr) (len1 cap1 : Nat) (z1 : Nat → Nat → Value) (a2 a3 : Int) (w : World) (w0 : -9223372036854775808 ≤ a0 ∧ a0 ≤ 9223372036854775807) (w1 : IsFlat opKinds w a1 len1 cap1 z1)
    (w2 : -9223372036854775808 ≤ a2 ∧ a2 ≤ 9223372036854775807) (w3 : 0 ≤ a3 ∧ a3 ≤ 18446744073709551615) :
    Calls Try.prog 4 #[.int .i64 a0, .slice a1 len1 cap1, .int .i64 a2, .int .u64 a3] w fun e w' => e = .returned (.bool true) ∧ Below w.heap.size w w' := by
  obtain ⟨i0, hi, hz0, hz1, hz2⟩ := info_parts infoW
  obtain ⟨b0, b1⟩ := w0
  obtain ⟨c0, c1⟩ := w2
  obtain ⟨d0, d1⟩ := w3
  obtain ⟨f, hops⟩ := isOps_of_flat w1
  clear w1 z1
  go_enter Try.func4, Try.ntmps4
  go_wp2_with fail
  refine (awake_any _).mono ?_
  rintro e x1 ⟨rfl, hb1⟩
  go_wp2_with fail
  refine (pick_nat _ 40 _ b0 b1 (by decide) (by decide)).mono ?_
  rintro e x2 ⟨k, hk, rfl, rfl⟩
  go_wp2_with fail
  rw [show (1 : Int) + (k : Int) = ((k + 1 : Nat) : Int) from by omega]
  refine (new_any (k + 1) _ (by omega) (by omega)).mono ?_
  rintro e x2 ⟨p, b, rfl, h1, hp, hb, hb2⟩
  have hB2 : Below w.heap.size w x2 := hb1.trans (hb2.mono hb1.size)
  have l1 : w.heap.size ≤ p := Nat.le_trans hb1.size hp
  have l2 : w.heap.size ≤ b := Nat.le_trans hb1.size hb
  clear hb1 hb2 hp hb
  go_wp2
  go_loopw [13] (fun i wr => ∃ (j : Nat) (l : List Int), j ≤ 20 ∧ i = .int .i64 j ∧ Hid (l.length = k + 1) ∧ ArenaAt 48 wr p b l ∧ Below w.heap.size w wr) (fun i _ => 20 - (intOf i).toNat)
  case atStart => exact ⟨0, _, by omega, rfl, List.length_replicate .., h1, hB2⟩
  case round =>
    obtain ⟨j, l, hj, rfl, hll, ha, hbw⟩ := hrel
    by_cases h0 : j < len1
    · by_cases h20 : j < 20
      · have hd : decide ((j : Int) < 20) = true := by simp; omega
        rcases hops with ⟨e, -⟩ | ⟨bo, off, rfl, hbo, hlc, hcm, hcell⟩
        · exact absurd h0 (by omega)
        · obtain ⟨⟨-, ca, -, cn, cw⟩, -, fa, -, fn, fw⟩ := hcell j (by omega)
          have ca := (hbw.cell (p := ⟨bo, off + j * 5 + 1, none⟩) hbo).trans ca
          have cn := (hbw.cell (p := ⟨bo, off + j * 5 + 3, none⟩) hbo).trans cn
          have cw := (hbw.cell (p := ⟨bo, off + j * 5 + 4, none⟩) hbo).trans cw
          have hpb : ¬ bo = b := by omega
          generalize (f j).a = xa at ca fa
          generalize (f j).n = xn at cn fn
          generalize (f j).w = xw at cw fw
          clear hcell hlc hcm
          go_wp2
          go_region_held3 (fun x => x.cell? ⟨bo, off + j * 5 + 1, none⟩ = some (.int .i64 xa) ∧ x.cell? ⟨bo, off + j * 5 + 3, none⟩ = some (.int .i64 xn) ∧ x.cell? ⟨bo, off + j * 5 + 4, none⟩ = some (.int .u64 xw)) 
            (first | go_keep | exact ⟨(hch.cell (p := ⟨bo, _, none⟩) (Nat.lt_of_lt_of_le hbo hbw.size) hpb).trans ca, (hch.cell (p := ⟨bo, _, none⟩) (Nat.lt_of_lt_of_le hbo hbw.size) hpb).trans cn, (hch.cell (p := ⟨bo, _, none⟩) (Nat.lt_of_lt_of_le hbo hbw.size) hpb).trans cw⟩)
            ((go_at_call 15; refine (fill_any _ _ _ _ ha.drew fa.1 fa.2 fn.1 fn.2 fw).mono ?_; rintro e w2 ⟨rfl, ha2, hch⟩))
          go_wp2
          go_roundw
          case rel => exact ⟨j + 1, _, by omega, by go_num, (fill_len _ _ _ _).trans hll.out, ha2, hbw.drew.trans (hch.below (fun k e => by omega) hbw.size)⟩
          case measure => simp [intOf]; omega
      · have hd : decide ((j : Int) < 20) = false := by simp; omega
        obtain ⟨wo, rfl⟩ : ∃ wo : World, wo = wr := ⟨_, rfl⟩
        go_wp2_with fail
        have hwl := ha.lt
        obtain ⟨B2, hB2⟩ : ∃ B2, wo.heap.size = B2 := ⟨_, rfl⟩
        have HB2 := Lib.hid hB2
        clear hB2
        go_loopw [14, 15] (fun v i wr => ∃ m : Nat, m ≤ k + 1 ∧ i = .int .i64 m ∧ wr.ownsRow B2 32 1 v m ((l.take m).map (Value.int .u64)) ∧ Chg (fun c => B2 ≤ c) wo wr) (fun _ i _ => k + 1 - (intOf i).toNat)
        case atStart => exact ⟨0, by omega, rfl, World.ownsRow_nil _ _ _ _, Chg.refl _ _⟩
        case round =>
          obtain ⟨m, hm, rfl, hown, hch⟩ := hrel
          have haq := ha.chg hch (by have := HB2.out; omega) (by have := HB2.out; omega)
          have hbase : B2 ≤ wr.heap.size := by have := hch.size; have := HB2.out; omega
          by_cases hlt : m < k + 1
          · obtain ⟨e1, e2⟩ := load_in hll.out hlt
            have Hs := Lib.hid (take_snoc_int (l := l) (j := m) (by rw [hll.out]; exact hlt) (Value.int .u64))
            have E1 := Lib.hid e1
            have E2 := Lib.hid e2
            clear e1 e2
            go_wp2_with fail
            refine (load_any _ _ haq (by omega) (by omega)).mono ?_
            rw [E1.out, E2.out]
            rintro e w' ⟨rfl, rfl⟩
            obtain ⟨y, hy⟩ : ∃ y, l.getD m 0 = y := ⟨_, rfl⟩
            rw [hy] at Hs ⊢
            clear hy
            go_wp2_with (at_builtin; refine wpList_append_own _ rfl _ _ 42 rfl B2 32 i0 (.int .u64 0) 1 8 Try.underlying42 hi hz0 hz1 hz2 rfl (by decide) u14 _ _ rfl (hown.alloc _) ⟨wr.heap.size, 0, none⟩ 1 1 [.int .u64 y] rfl rfl (cell_one_new _ _ _) (by simp [Value.oneCell']) (by unfold maxLen; omega) (by omega) (by simp; omega) ?_; intro v' w2 hown2 hgr hnil)
            go_roundw
            case rel => exact ⟨m + 1, by omega, by go_num, by rw [Hs.out] at hown2; exact hown2, (hch.alloc _).trans (chg_of_append (hown.alloc _) hgr)⟩
            case measure => simp [intOf]; omega
          · obtain rfl : m = k + 1 := by omega
            rw [List.take_of_length_le (by rw [hll.out]; exact Nat.le_refl _)] at hown
            obtain ⟨g, cap, rfl, hg1, hg2, hg3, hg4, hg5, hgc⟩ := own_cell hown (by omega)
            have hbq : Below w.heap.size w wr := hbw.trans (hch.below (fun k e => by have := HB2.out; have := hbw.size; omega) hbw.size)
            have hng : ¬ g = b := by have := HB2.out; omega
            clear hown hch hbw ha
            go_wp2_with fail
            rw [show (k : Int) + 1 = ((k + 1 : Nat) : Int) from by omega]
            refine (pick_nat _ (k + 1) _ c0 c1 (by omega) (by omega)).mono ?_
            rintro e x2 ⟨i, hi', rfl, rfl⟩
            obtain ⟨e1, e2⟩ := store_in a3 hll.out hi'
            have E1 := Lib.hid e1
            have E2 := Lib.hid e2
            clear e1 e2
            go_wp2_with fail
            refine (store_any _ _ _ haq (by omega) (by omega) ⟨d0, d1⟩).mono ?_
            rw [E1.out, E2.out]
            rintro e x3 ⟨rfl, hs, hch⟩
            have hgc3 : Hid (∀ j, j < k + 1 → x3.cell? ⟨g, j, none⟩ = some (.int .u64 (l.getD j 0))) := fun j hj => (hch.cell (p := ⟨g, j, none⟩) hg2 hng).trans (hgc j hj)
            have hb3 : Below w.heap.size w x3 := hbq.trans (hch.below (fun k e => by omega) hbq.size)
            have hl3 : Hid ((l.set i a3).length = k + 1) := by show _ = _; rw [List.length_set]; exact hll.out
            clear hgc hch hbq haq
            go_wp2
            go_loop [19] (fun i => ∃ m : Nat, m ≤ k + 1 ∧ i = .int .i64 m) (fun i => k + 1 - (intOf i).toNat)
            case atStart => exact ⟨0, by omega, rfl⟩
            case round =>
              obtain ⟨m, hm, rfl⟩ := hrel
              by_cases hlt : m < k + 1
              · have hcm := hgc3.out m hlt
                obtain ⟨e1, e2⟩ := load_in hl3.out hlt
                rw [set_at (by rw [hll.out]; exact hlt)] at e1
                by_cases em : m = i
                · have hd : ((m : Int) == (i : Int)) = true := by rw [beq_iff_eq]; omega
                  have hd2 : ((m : Int) != (i : Int)) = false := by rw [bne_eq_false_iff_eq]; omega
                  rw [if_pos em] at e1
                  have E1 := Lib.hid e1
                  have E2 := Lib.hid e2
                  have Em := Lib.hid em
                  clear e1 e2 em
                  go_wp2_with ((with_reducible refine (load_any _ _ hs (by omega) (by omega)).mono ?_); rintro e w' ⟨rfl, rfl⟩; rw [E1.out, E2.out])
                  go_round
                  case rel => exact ⟨m + 1, by omega, by go_num⟩
                  case measure => simp [intOf]; omega
                · have hd : ((m : Int) == (i : Int)) = false := by rw [beq_eq_false_iff_ne]; omega
                  have hd2 : ((m : Int) != (i : Int)) = true := by rw [bne_iff_ne]; omega
                  rw [if_neg em] at e1
                  have E1 := Lib.hid e1
                  have E2 := Lib.hid e2
                  clear e1 e2 em
                  generalize l.getD m 0 = y at hcm E1
                  go_wp2_with ((with_reducible refine (load_any _ _ hs (by omega) (by omega)).mono ?_); rintro e w' ⟨rfl, rfl⟩; rw [E1.out, E2.out])
                  go_round
                  case rel => exact ⟨m + 1, by omega, by go_num⟩
                  case measure => simp [intOf]; omega
              · go_wp2
                go_ret
                exact ⟨rfl, hb3⟩
    · skip
      obtain ⟨wo, rfl⟩ : ∃ wo : World, wo = wr := ⟨_, rfl⟩
      go_wp2_with fail
      have hwl := ha.lt
      obtain ⟨B2, hB2⟩ : ∃ B2, wo.heap.size = B2 := ⟨_, rfl⟩
      have HB2 := Lib.hid hB2
      clear hB2
      go_loopw [14, 15] (fun v i wr => ∃ m : Nat, m ≤ k + 1 ∧ i = .int .i64 m ∧ wr.ownsRow B2 32 1 v m ((l.take m).map (Value.int .u64)) ∧ Chg (fun c => B2 ≤ c) wo wr) (fun _ i _ => k + 1 - (intOf i).toNat)
      case atStart => exact ⟨0, by omega, rfl, World.ownsRow_nil _ _ _ _, Chg.refl _ _⟩
      case round =>
        obtain ⟨m, hm, rfl, hown, hch⟩ := hrel
        have haq := ha.chg hch (by have := HB2.out; omega) (by have := HB2.out; omega)
        have hbase : B2 ≤ wr.heap.size := by have := hch.size; have := HB2.out; omega
        by_cases hlt : m < k + 1
        · obtain ⟨e1, e2⟩ := load_in hll.out hlt
          have Hs := Lib.hid (take_snoc_int (l := l) (j := m) (by rw [hll.out]; exact hlt) (Value.int .u64))
          have E1 := Lib.hid e1
          have E2 := Lib.hid e2
          clear e1 e2
          go_wp2_with fail
          refine (load_any _ _ haq (by omega) (by omega)).mono ?_
          rw [E1.out, E2.out]
          rintro e w' ⟨rfl, rfl⟩
          obtain ⟨y, hy⟩ : ∃ y, l.getD m 0 = y := ⟨_, rfl⟩
          rw [hy] at Hs ⊢
          clear hy
          go_wp2_with (at_builtin; refine wpList_append_own _ rfl _ _ 42 rfl B2 32 i0 (.int .u64 0) 1 8 Try.underlying42 hi hz0 hz1 hz2 rfl (by decide) u14 _ _ rfl (hown.alloc _) ⟨wr.heap.size, 0, none⟩ 1 1 [.int .u64 y] rfl rfl (cell_one_new _ _ _) (by simp [Value.oneCell']) (by unfold maxLen; omega) (by omega) (by simp; omega) ?_; intro v' w2 hown2 hgr hnil)
          go_roundw
          case rel => exact ⟨m + 1, by omega, by go_num, by rw [Hs.out] at hown2; exact hown2, (hch.alloc _).trans (chg_of_append (hown.alloc _) hgr)⟩
          case measure => simp [intOf]; omega
        · obtain rfl : m = k + 1 := by omega
          rw [List.take_of_length_le (by rw [hll.out]; exact Nat.le_refl _)] at hown
          obtain ⟨g, cap, rfl, hg1, hg2, hg3, hg4, hg5, hgc⟩ := own_cell hown (by omega)
          have hbq : Below w.heap.size w wr := hbw.trans (hch.below (fun k e => by have := HB2.out; have := hbw.size; omega) hbw.size)
          have hng : ¬ g = b := by have := HB2.out; omega
          clear hown hch hbw ha
          go_wp2_with fail
          rw [show (k : Int) + 1 = ((k + 1 : Nat) : Int) from by omega]
          refine (pick_nat _ (k + 1) _ c0 c1 (by omega) (by omega)).mono ?_
          rintro e x2 ⟨i, hi', rfl, rfl⟩
          obtain ⟨e1, e2⟩ := store_in a3 hll.out hi'
          have E1 := Lib.hid e1
          have E2 := Lib.hid e2
          clear e1 e2
          go_wp2_with fail
          refine (store_any _ _ _ haq (by omega) (by omega) ⟨d0, d1⟩).mono ?_
          rw [E1.out, E2.out]
          rintro e x3 ⟨rfl, hs, hch⟩
          have hgc3 : Hid (∀ j, j < k + 1 → x3.cell? ⟨g, j, none⟩ = some (.int .u64 (l.getD j 0))) := fun j hj => (hch.cell (p := ⟨g, j, none⟩) hg2 hng).trans (hgc j hj)
          have hb3 : Below w.heap.size w x3 := hbq.trans (hch.below (fun k e => by omega) hbq.size)
          have hl3 : Hid ((l.set i a3).length = k + 1) := by show _ = _; rw [List.length_set]; exact hll.out
          clear hgc hch hbq haq
          go_wp2
          go_loop [19] (fun i => ∃ m : Nat, m ≤ k + 1 ∧ i = .int .i64 m) (fun i => k + 1 - (intOf i).toNat)
          case atStart => exact ⟨0, by omega, rfl⟩
          case round =>
            obtain ⟨m, hm, rfl⟩ := hrel
            by_cases hlt : m < k + 1
            · have hcm := hgc3.out m hlt
              obtain ⟨e1, e2⟩ := load_in hl3.out hlt
              rw [set_at (by rw [hll.out]; exact hlt)] at e1
              by_cases em : m = i
              · have hd : ((m : Int) == (i : Int)) = true := by rw [beq_iff_eq]; omega
                have hd2 : ((m : Int) != (i : Int)) = false := by rw [bne_eq_false_iff_eq]; omega
                rw [if_pos em] at e1
                have E1 := Lib.hid e1
                have E2 := Lib.hid e2
                have Em := Lib.hid em
                clear e1 e2 em
                go_wp2_with ((with_reducible refine (load_any _ _ hs (by omega) (by omega)).mono ?_); rintro e w' ⟨rfl, rfl⟩; rw [E1.out, E2.out])
                go_round
                case rel => exact ⟨m + 1, by omega, by go_num⟩
                case measure => simp [intOf]; omega
              · have hd : ((m : Int) == (i : Int)) = false := by rw [beq_eq_false_iff_ne]; omega
                have hd2 : ((m : Int) != (i : Int)) = true := by rw [bne_iff_ne]; omega
                rw [if_neg em] at e1
                have E1 := Lib.hid e1
                have E2 := Lib.hid e2
                clear e1 e2 em
                generalize l.getD m 0 = y at hcm E1
                go_wp2_with ((with_reducible refine (load_any _ _ hs (by omega) (by omega)).mono ?_); rintro e w' ⟨rfl, rfl⟩; rw [E1.out, E2.out])
                go_round
                case rel => exact ⟨m + 1, by omega, by go_num⟩
                case measure => simp [intOf]; omega
            · go_wp2
              go_ret
              exact ⟨rfl, hb3⟩

set_option maxRecDepth 100000 in
theorem lifted (os : Os) (started : os.Started) (H : Type) (enc : TypeId × Value → H) :
    ReturnsInHanded {} Try.checked os 4 .any (Rows.arenaStoresSpec.pre6 enc Try.prog Try.f4 Rows.arenaStoresRow.domain false) (Rows.arenaStoresSpec.post enc Try.prog Try.f4 false true false false) := by
  refine returnsInHanded_of_change (C := Try.checked) own started (by kernel_rfl) Try.func4
    (ChangeSpec.witness6 (enc := enc) (C := Try.checked) false ⟨#[], #[.int .i64 0, .slice none 0 0, .int .i64 0, .int .u64 0], []⟩ 8 (by kernel_rfl) (by kernel_rfl) (by kernel_rfl) (by kernel_rfl)) ?_
  intro W base args ds gs before hval0 hW hcnd _
  have hval : ∀ (j : Nat) t v, Try.f4.params[j]? = some t → args[j]? = some v → Value.okWide Try.prog W .any base t v := hval0
  have hW' := hW
  obtain ⟨p, q, hA0, hV, rfl, hfz, hnd⟩ := hW
  have hA : DataW.TrodAll enc Try.prog W 0 (fun _ => true) true Try.f4.params.toList args.toList ds p := hA0
  rw [Try.params4] at hA hval
  obtain ⟨v0, vs0, d0, ds0, p0, q0, hargs, rfl, rfl, h0, r0⟩ := trodAll_cons hA
  obtain ⟨v1, vs1, d1, ds1, p1, q1, rfl, rfl, rfl, h1, r1⟩ := trodAll_cons r0
  obtain ⟨v2, vs2, d2, ds2, p2, q2, rfl, rfl, rfl, h2, r2⟩ := trodAll_cons r1
  obtain ⟨v3, vs3, d3, ds3, p3, q3, rfl, rfl, rfl, h3, r3⟩ := trodAll_cons r2
  obtain ⟨rfl, rfl, rfl⟩ := trodAll_nil r3
  obtain rfl : args = #[v0, v1, v2, v3] := by cases args; simp_all
  obtain ⟨rfl, rfl⟩ := trodVars_none hV
  obtain ⟨a0, rfl, rfl, rfl, w0⟩ := open_int Try.underlying3 (hval 0 3 v0 rfl rfl) h0
  obtain ⟨a1, len1, cap1, rfl⟩ := okWide_slice Try.underlying22 (hval 1 22 v1 rfl rfl)
  have k1 := h1
  have lt1 : ∀ x ∈ p1, x.block < W.heap.size := by obtain ⟨m, hm⟩ := k1; exact DataW.trod_lt m _ _ _ hm
  obtain ⟨z1, w1⟩ := open_flats (n := 8) (ks := opKinds) Try.underlying22 (by kernel_rfl) (by kernel_rfl) (by decide) h1
  obtain ⟨a2, rfl, rfl, rfl, w2⟩ := open_int Try.underlying3 (hval 2 3 v2 rfl rfl) h2
  obtain ⟨a3, rfl, rfl, rfl, w3⟩ := open_int Try.underlying32 (hval 3 32 v3 rfl rfl) h3
  clear hA0 hval0
  refine (walk a0 a1 len1 cap1 z1 a2 a3 W (bounds_i64 w0) w1 (bounds_i64 w2) (bounds_u64 w3)).mono fun e W' ⟨he, bel⟩ => ?_
  subst he
  exact ⟨_, rfl, _, _, _, [], _, [], hW', trodAll_mk1 (shut_bool Try.underlying4 _), (trodAll_cons_mk (shut_int Try.underlying3 w0) (trodAll_cons_mk (Below.trod laidOut (by kernel_rfl) (of_decide_eq_true (by kernel_rfl)) k1 bel lt1) (trodAll_cons_mk (shut_int Try.underlying3 w2) (trodAll_cons_mk (shut_int Try.underlying32 w3) trodAll_mk0)))), rfl, bel.frame _, fun h => by cases h⟩

theorem over : Rows.arenaStoresRow.holds Try.pinned (OpenSpec.ofChange Rows.arenaStoresSpec) :=
  OpenClaim.holds_of_wide 4 Try.f4 rfl rfl rfl rfl rfl rfl rfl ⟨rfl, rfl, rfl, rfl, rfl⟩ rfl rfl rfl rfl rfl (by kernel_rfl) Try.func4 (by kernel_rfl)
    (of_decide_eq_true (by kernel_rfl)) (by unfold Func.isWrapper; first | (rw [if_pos (by decide +kernel)]; kernel_rfl) | (rw [if_neg (by decide +kernel)]; exact ⟨rfl, rfl⟩))
    (fun os started H enc _ => lifted os started H enc)

theorem proved : Rows.ArenaStoresSaid := over
#print axioms proved

end Go.Proofs.Ytolfnjmmnaiecaa.arenaStores
