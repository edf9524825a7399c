/- For every raw objects: what is copied on, from where it was copied to, is still as it was: the law MoverOn returns true and its arguments read as they did. No condition. -/
import Derived.Test.YtpmkkmjnneikpaaMoverOn
namespace Go.Proofs.Ytpmkkmjnneikpaa.moverOn
open Go.ChangeShapes Go.WideShapes Go.ChangeAt Go.RowKit
set_option linter.unusedVariables false
set_option linter.unusedSimpArgs false

set_option maxRecDepth 100000 in
set_option maxHeartbeats 16000000 in
theorem walk (a0 : Option Addr) (len0 cap0 : Nat) (z0 : Nat → RawN) (w : World) (hR : RawsAt w.heap.size w a0 len0 z0) :
    Calls Try.prog 4 #[.slice a0 len0 cap0] w fun e w' => e = .returned (.bool true) ∧ Below w.heap.size w w' := by
  obtain ⟨j0, ji, jz0, jz1, jz2⟩ := info_parts infoShape
  obtain ⟨k0, ki, kz0, kz1, kz2⟩ := info_parts infoRow
  go_enter Try.func4, Try.ntmps4
  go_wp2_with fail
  refine (awake_yes _).mono ?_
  rintro e x ⟨rfl, hB⟩
  go_wp2_with fail
  refine (new_any 600 _ (by omega) (by omega)).mono ?_
  rintro e x1 ⟨P, b, rfl, hA, hP, hb, hn⟩
  have hxs := hB.size
  have hwb : w.heap.size ≤ b := by omega
  replace hB := hB.trans (hn.mono hB.size)
  have hx1 := hB.size
  clear hn hP hb hxs
  have M1 := lay_any w.heap.size P b 600 len0 cap0 a0 z0 _ x1 hA List.length_replicate (by omega) hwb hB.size (hR.below hB)
  have hl1 := hA.lt
  clear hA hR
  go_wp2_with fail
  refine M1.mono ?_
  rintro e x2 ⟨sv, m, os, l, rfl, hm, hA, hl, hobs, hoff, hown, hc⟩
  replace hB := hB.trans (hc.below (fun k e => by omega) hB.size)
  clear M1 hc
  by_cases hm0 : m = 0
  -- [Z
  · subst hm0
    obtain ⟨sa, sc, rfl⟩ := own_nil hown
    clear hown hobs hoff hm hl1
    go_wp2_with fail
    go_loopw [9] (fun i wr => i = .int .i64 0 ∧ ArenaAt 59 wr P b l ∧ Below w.heap.size w wr) (fun _ _ => 0)
    case atStart => exact ⟨rfl, hA, hB⟩
    case round =>
      clear hA hB
      obtain ⟨rfl, hA, hB⟩ := hrel
      go_wp2_with fail
      obtain ⟨wo, rfl⟩ : ∃ wo : World, wo = wr := ⟨_, rfl⟩
      go_loopw [13] (fun i wr => ∃ n : Nat, 1 ≤ n ∧ n ≤ 3 ∧ i = .int .i64 n ∧ ArenaAt 59 wr P b l ∧ Below w.heap.size w wr) (fun i _ => 3 - (intOf i).toNat)
      case atStart => exact ⟨1, by omega, by omega, rfl, hA, hB⟩
      case round =>
        clear hA hB
        obtain ⟨n, n1, n3, rfl, hA, hB⟩ := hrel
        by_cases hlt : n < 3
        · have d1 : decide ((n : Int) < 3) = true := decide_eq_true (by omega)
          have M1 := make_ok (200 * n) 200 ⟨by omega, by omega, by omega, by omega⟩
          have M2 := fun y (hy : ArenaAt 59 y P b l) => walk_any P b (200 * n) 200 0 l os y ⟨by omega, by omega, by omega, by show 200 * n + 0 ≤ _; omega⟩ (fun k hk => by omega) hy
          have i1 : IntKind.i64.wrap (200 * (n : Int)) = ((200 * n : Nat) : Int) := by rw [IntWalk.i64_in _ (by omega)]; omega
          have e0 : 200 * n + off os 0 = 200 * n := rfl
          rw [e0] at M2
          obtain ⟨T, hT⟩ : ∃ T, 200 * n = T := ⟨_, rfl⟩
          rw [hT] at M1 M2 i1
          clear hT e0
          go_wp2_with fail
          refine (M1 _).mono ?_
          rintro e x ⟨rfl, hb⟩
          replace hA := hA.below hb hA.lt.1 hA.lt.2
          replace hB := hB.trans (hb.mono hB.size)
          clear hb
          have k14 := BlkIs.new x #[.int .i64 T, .int .i64 200, .int .i64 T] 36
          have ho := (Below.refl x.heap.size x).alloc (Nat.le_refl _) (.cells #[.int .i64 T, .int .i64 200, .int .i64 T] 36)
          have hAl := hA.lt
          replace hA := hA.below ho hAl.1 hAl.2
          replace hB := hB.trans (ho.mono hB.size)
          clear ho hAl
          go_wp2_with fail
          generalize x.heap.size = g14 at *
          generalize x.alloc (.cells #[.int .i64 T, .int .i64 200, .int .i64 T] 36) = y at *
          go_loopw [16] (fun i wr => i = .int .i64 0 ∧ wr = y) (fun _ _ => 0)
          case atStart => exact ⟨rfl, rfl⟩
          case round =>
            obtain ⟨rfl, rfl⟩ := hrel
            obtain ⟨⟨c0, c1, c2⟩, -⟩ := blk3 k14
            go_wp2_with fail
            refine (M2 _ hA).mono ?_
            rintro e x3 ⟨sv, rfl, hown, hb⟩
            obtain ⟨sa', sc', rfl⟩ := own_nil hown
            replace hA := hA.below hb hA.lt.1 hA.lt.2
            replace hB := hB.trans (hb.mono hB.size)
            clear hb hown c0 c1 c2 k14
            go_wp2_with fail
            refine (ints_nil _ _ _ _ _).mono ?_
            rintro e x4 ⟨rfl, hb⟩
            replace hA := hA.below hb hA.lt.1 hA.lt.2
            replace hB := hB.trans (hb.mono hB.size)
            go_wp2
            go_roundw
            case rel => exact ⟨n + 1, by omega, by omega, by go_num, hA, hB⟩
            case measure => simp [intOf]; omega
        · obtain rfl : n = 3 := by omega
          go_wp2_with fail
          obtain ⟨wo, rfl⟩ : ∃ wo : World, wo = wr := ⟨_, rfl⟩
          go_loopw [20] (fun i wr => i = .int .i64 0 ∧ wr = wo) (fun _ _ => 0)
          case atStart => exact ⟨rfl, rfl⟩
          case round =>
            obtain ⟨rfl, rfl⟩ := hrel
            go_wp2
            go_ret
            exact ⟨rfl, hB⟩
  -- Z]
  · obtain ⟨g6, cc6, rfl, hg0, hg1, hg2⟩ := own_form hown (by omega)
    have hgb6 : ¬ g6 = b := by omega
    have hgP6 : ¬ P = g6 := by omega
    have hm1 : 1 ≤ m := by omega
    obtain ⟨B1, hB1⟩ : ∃ B, x2.heap.size = B := ⟨_, rfl⟩
    have HB1 := Lib.hid (show x2.heap.size = B1 ∧ b < B1 ∧ g6 < B1 ∧ P < B1 from ⟨hB1, by have := hA.lt; omega, by omega, by have := hA.lt; omega⟩)
    have Hobs := Lib.hid hobs
    clear hm0 hB1 hobs hl1
    go_wp2_with fail
    go_loopw [7, 8, 9] (fun s7 s8 i wr => ∃ (k : Nat) (ss : List Value), k ≤ m ∧ i = .int .i64 k ∧ wr.ownsRow B1 32 4 s7 k (shsC os k) ∧ wr.ownsRow B1 39 1 s8 k ss ∧ RowsAt B1 wr os l ss k ∧ Chg (fun c => B1 ≤ c) x2 wr) (fun _ _ i _ => m - (intOf i).toNat)
    case atStart => exact ⟨0, [], by omega, rfl, World.ownsRow_nil _ _ _ _, World.ownsRow_nil _ _ _ _, ⟨rfl, fun j hj => by omega⟩, Chg.refl _ _⟩
    case round =>
      obtain ⟨k, ss, hk, rfl, own7, own8, hrows, hch⟩ := hrel
      have hbase : B1 ≤ wr.heap.size := by have := hch.size; have := HB1.out; omega
      have hA1 := hA.chg hch (by have := HB1.out; omega) (by have := HB1.out; omega)
      by_cases hlt : k < m
      -- [A
      · have hw6 := own_stay hown hch (by have := HB1.out; omega)
        have c6 := hw6.cellAt k (by omega)
        rw [valsN_at (by rw [plc_length]; exact hlt), plc_at hlt] at c6
        have O := Hobs.out k hlt
        have M1 := fun y (hy : ArenaAt 59 y P b l) => shape_at (1 + off os k) y hy O
        have M2 := fun y (hy : ArenaAt 59 y P b l) => words_at P b l (1 + off os k) _ _ _ _ _ y hy O
        obtain ⟨u, hu⟩ : ∃ u, 1 + off os k = u := ⟨_, rfl⟩
        have Hu := Lib.hid hu
        rw [hu] at c6 M1 M2
        have j3 : (0 : Int) ≤ (k : Int) := by omega
        have j4 : (k : Int) < (m : Int) := by omega
        clear hu O
        go_wp2_with fail
        refine (M1 _ hA1).mono ?_
        rintro e x ⟨rfl, hb⟩
        have n7 := hb.size
        obtain ⟨o, ho⟩ : ∃ o : Obj, Obj.cells #[.int .i64 (os k).p, .int .i64 (os k).d, .bool (os k).wk, .bool (os k).fn] 32 = o := ⟨_, rfl⟩
        have hcx := ((Chg.of_below (S := fun c => B1 ≤ c) hb (Nat.le_refl _)).alloc o).alloc o
        have own7x := own_chg own7 (Chg.of_below (S := fun _ => False) hb (Nat.le_refl _)) (fun _ _ h => h)
        have own7y := (own7x.alloc o).alloc o
        have own8y := ((own_chg own8 (Chg.of_below (S := fun _ => False) hb (Nat.le_refl _)) (fun _ _ h => h)).alloc o).alloc o
        have hrowsy := hrows.chg (((Chg.of_below (S := fun _ => False) hb (Nat.le_refl _)).alloc o).alloc o) (fun _ _ h => h)
        have hbk := BlkIs.new (x.alloc o) (shC (os k)).toArray 32
        rw [show Obj.cells (shC (os k)).toArray 32 = o from ho, World.size_alloc] at hbk
        subst ho
        have Hs := Lib.hid (shsC_snoc os k)
        clear own7 own8 hrows hA1 M1 c6 hw6 own7x hb
        go_upto_region 13 with (at_builtin; refine wpList_append_own _ rfl _ _ 48 rfl B1 32 j0 (.agg #[.int .i64 0, .int .i64 0, .bool false, .bool false]) 4 24 Try.underlying48 ji jz0 jz1 jz2 rfl (by decide) u7 _ _ rfl own7y ⟨x.heap.size + 1, 0, none⟩ 1 1 (shC (os k)) rfl rfl (news_blk hbk) (by simp [shC, Value.oneCell']) (by unfold maxLen; omega) (by omega) (by simp; omega) ?_; intro v7 y hown7 hgr hnil)
        replace hrowsy := hrowsy.grown own7y (by decide) hgr
        replace own8y := own_apart own8y own7y (by decide) hgr
        replace hcx := hcx.trans (chg_of_append own7y hgr)
        rw [Hs.out] at hown7
        have hch2 := hch.trans hcx
        have hA2 := hA.chg hch2 (by have := HB1.out; omega) (by have := HB1.out; omega)
        have hw6 := own_stay hown hch2 (by have := HB1.out; omega)
        have c6 := hw6.cellAt k (by omega)
        rw [valsN_at (by rw [plc_length]; exact hlt), plc_at hlt, Hu.out] at c6
        have hby := hch2.size
        generalize x.heap.size = g10 at *
        clear hgr hnil own7y hbk Hs hcx hch n7
        go_wp2_with fail
        refine (M2 _ hA2).mono ?_
        rintro e x ⟨sv, rfl, hws, hb⟩
        obtain ⟨gw, cw, rfl, hgw0, hgw1, hgw2⟩ := own_form hws (by omega)
        have hcf := Chg.of_below (S := fun _ => False) hb (Nat.le_refl _)
        have own7x := own_chg hown7 hcf (fun _ _ h => h)
        have own8x := own_chg own8y hcf (fun _ _ h => h)
        have hrowsx := (hrowsy.chg hcf (fun _ _ h => h)).snoc (own_mono (by rw [← Hu.out] at hws; exact hws) (by have := HB1.out; omega))
        replace hch2 := hch2.trans (hcf.mono (fun _ h => h.elim))
        have hbx := hb.size
        clear hws hb hcf hown7 own8y hrowsy hA2 M2 hw6 c6 hgw0 hgw1 hgw2
        go_wp2_with (at_builtin; refine wpList_append_own _ rfl _ _ 49 rfl B1 39 k0 (.slice none 0 0) 1 24 Try.underlying49 ki kz0 kz1 kz2 rfl (by decide) u8 _ _ rfl (own8x.alloc _) ⟨x.heap.size, 0, none⟩ 1 1 [.slice (some ⟨gw, 0, none⟩) (2 + (os k).p + (os k).d) cw] rfl rfl (cell_one_new _ _ _) (by simp [Value.oneCell']) (by unfold maxLen; omega) (by omega) (by have := HB1.out; simp; omega) ?_; intro v8 y2 hown8 hgr hnil)
        go_roundw
        case rel =>
          exact ⟨k + 1, _, by omega, by go_num, own_apart (own7x.alloc _) (own8x.alloc _) (by decide) hgr, hown8, (hrowsx.chg ((Chg.refl (fun _ => False) x).alloc _) (fun _ _ h => h)).grown (own8x.alloc _) (by decide) hgr, (hch2.alloc _).trans (chg_of_append (own8x.alloc _) hgr)⟩
        case measure => simp [intOf]; omega
      -- A]
      · obtain rfl : k = m := by omega
        obtain ⟨g7, cc7, rfl, hg70, hg71, hg72⟩ := own_form own7 (by omega)
        obtain ⟨g8, cc8, rfl, hg80, hg81, hg82⟩ := own_form own8 (by omega)
        have hw := own_stay hown hch (by have := HB1.out; omega)
        replace hB := hB.trans (hch.below (fun k e => by have := HB1.out; have := hB.size; omega) hB.size)
        have n1 : ¬ g7 = b ∧ ¬ g7 = g6 ∧ ¬ g8 = b ∧ ¬ g8 = g6 ∧ w.heap.size ≤ g6 := by have := HB1.out; omega
        have Hrows := Lib.hid hrows
        clear hA hown hch hrows hlt hk
        obtain ⟨wo, rfl⟩ : ∃ wo : World, wo = wr := ⟨_, rfl⟩
        go_wp2_with fail
        go_loopw [13] (fun i wr => ∃ (n B : Nat) (l2 : List Int), 1 ≤ n ∧ n ≤ 3 ∧ i = .int .i64 n ∧ 1 ≤ B ∧ B + 150 ≤ 200 * n ∧ (n = 3 → B = 400) ∧ l2.length = 600 ∧ ArenaAt 59 wr P b l2 ∧ (∀ T, Mid l2 l T B os k 0) ∧ wr.ownsRow x1.heap.size 3 1 (.slice (some ⟨g6, 0, none⟩) k cc6) k (valsN (plc os B k)) ∧ Chg (fun c => c = b ∨ c = g6) wo wr) (fun i _ => 3 - (intOf i).toNat)
        case atStart => exact ⟨1, 1, l, by omega, by omega, rfl, by omega, by omega, fun h => by omega, hl, hA1, fun T => Mid.first l T os k, hw, Chg.refl _ _⟩
        case round =>
          clear hA1 hw
          obtain ⟨n, B, l2, n1', n3, rfl, hB0, hBT, hB3, hl2, hA, hmid, hw, hch⟩ := hrel
          have hwo := hch.size
          by_cases hlt : n < 3
          -- [B
          · have d1 : decide ((n : Int) < 3) = true := decide_eq_true (by omega)
            have M1 := make_ok (200 * n) 200 ⟨by omega, by omega, by omega, by omega⟩
            have i1 : IntKind.i64.wrap (200 * (n : Int)) = ((200 * n : Nat) : Int) := by rw [IntWalk.i64_in _ (by omega)]; omega
            obtain ⟨T, hT⟩ : ∃ T, 200 * n = T := ⟨_, rfl⟩
            have HT := Lib.hid hT
            rw [hT] at M1 i1 hBT
            have hT4 : T ≤ 400 := by omega
            have hMid := hmid T
            have hMP := midP_plc os T B k
            clear hT hmid
            go_wp2_with fail
            refine (M1 _).mono ?_
            rintro e x ⟨rfl, hb⟩
            have hA1 := hA.below hb hA.lt.1 hA.lt.2
            have hw1 := own_chg hw (Chg.of_below (S := fun _ => False) hb (Nat.le_refl _)) (fun _ _ h => h)
            replace hch := hch.trans (Chg.of_below hb (Nat.le_refl _))
            clear hb hA hw M1
            have k14 := BlkIs.new x #[.int .i64 T, .int .i64 200, .int .i64 T] 36
            have ho := (Below.refl x.heap.size x).alloc (Nat.le_refl _) (.cells #[.int .i64 T, .int .i64 200, .int .i64 T] 36)
            have hA2 := hA1.below ho hA1.lt.1 hA1.lt.2
            have hw2 := own_chg hw1 (Chg.of_below (S := fun _ => False) ho (Nat.le_refl _)) (fun _ _ h => h)
            have hn14 := hch.size
            replace hch := hch.trans (Chg.of_below ho (Nat.le_refl _))
            have hb14 : b < x.heap.size ∧ P < x.heap.size ∧ g6 < x.heap.size := ⟨hA1.lt.2, hA1.lt.1, (hw1.lt _ rfl).2⟩
            clear ho hA1 hw1
            go_wp2_with fail
            generalize x.heap.size = g14 at *
            generalize x.alloc (.cells #[.int .i64 T, .int .i64 200, .int .i64 T] 36) = y at *
            go_loopw [16] (fun i wq => ∃ (j : Nat) (l3 : List Int) (xs : List Nat), j ≤ k ∧ i = .int .i64 j ∧ l3.length = 600 ∧ ArenaAt 59 wq P b l3 ∧ Mid l3 l T B os k j ∧ MidP xs T B os k j ∧ wq.ownsRow x1.heap.size 3 1 (.slice (some ⟨g6, 0, none⟩) k cc6) k (valsN xs) ∧ BlkIs wq g14 #[.int .i64 T, .int .i64 200, .int .i64 (T + off os j : Nat)] 36 ∧ Chg (fun c => c = b ∨ c = g6 ∨ c = g14) y wq) (fun i _ => k - (intOf i).toNat)
            case atStart => exact ⟨0, l2, _, by omega, rfl, hl2, hA2, hMid, hMP, hw2, k14, Chg.refl _ _⟩
            case round =>
              clear hA2 hMid hMP hw2 k14 hl2
              obtain ⟨j, l3, xs, hj, rfl, hl3, hA, hMid, hMP, hw, k14, hcy⟩ := hrel
              by_cases hjk : j < k
              -- [C
              · have O := (hMid.2 j (Nat.le_refl _) hjk).obj Hobs.out hjk hoff (by omega)
                have c6 := hw.cellAt j (by omega)
                rw [valsN_at (by rw [hMP.1]; exact hjk), hMP.2 j hjk, if_neg (by omega)] at c6
                have hfz := hw.frozenAt j
                obtain ⟨⟨c0, c1, c2⟩, f0, f1, f2⟩ := blk3 k14
                have hr1 := off_mono os (show j + 1 ≤ k from hjk)
                have hrd := Cls.rd_ge (m := (os j).n) (by have := (Ob.n_le O.ptrs O.data).2; omega)
                have hst := off_next os j
                have hMid4 := hMid.step Hobs.out hjk hoff (by omega) (by omega)
                have hMP4 := hMP.step hjk
                have MP0 := hMP.1
                have hl4 := copyL_length l3 (B + off os j) (T + off os j) (os j).n
                rw [hl3] at hl4
                have MC : ∀ y, ArenaAt 59 y P b l3 → Calls Try.prog 12 #[.pointer (some ⟨P, 0, none⟩), .int .i64 (B + off os j : Nat), .agg #[.int .i64 T, .int .i64 200, .int .i64 (T + off os j : Nat)]] y fun e w' => e = .returned (.tuple #[.agg #[.int .i64 T, .int .i64 200, .int .i64 (T + off os (j + 1) : Nat)], .int .i64 (T + off os j : Nat), .int .i64 0]) ∧ ArenaAt 59 w' P b (copyL l3 (B + off os j) (T + off os j) (os j).n) ∧ Chg (· = b) y w' := fun y hy => by
                  have hn : (os j).n = 3 + (os j).p + (os j).d := rfl
                  have hrd2 : Cls.rd (3 + (os j).p + (os j).d) = Cls.rd (os j).n := rfl
                  have := copy_yes (B + off os j) T 200 (T + off os j) y hy O ⟨by omega, by omega, by omega, by omega⟩ (by omega) (by omega) (by omega)
                  rw [show T + off os j + Cls.rd (3 + (os j).p + (os j).d) = T + off os (j + 1) from by omega] at this
                  exact this
                obtain ⟨u, hu⟩ : ∃ u, B + off os j = u := ⟨_, rfl⟩
                obtain ⟨v, hv⟩ : ∃ u, T + off os j = u := ⟨_, rfl⟩
                obtain ⟨v', hv'⟩ : ∃ u, T + off os (j + 1) = u := ⟨_, rfl⟩
                rw [hu] at c6 MC hMid4 hl4
                rw [hv] at c2 MC hMid4 hMP4 k14 hl4
                rw [hv'] at MC
                have Hv' := Lib.hid hv'
                generalize copyL l3 u v (os j).n = l4 at *
                have hcys := hcy.size
                have k14l := k14.lt
                have hal := hA.lt
                have n14 : ¬ g14 = b ∧ ¬ g14 = g6 ∧ ¬ g6 = g14 := by omega
                have j3 : (0 : Int) ≤ (j : Int) := by omega
                have j4 : (j : Int) < (k : Int) := by omega
                clear hu hv hv' O hr1 hrd hst hMid hMP
                go_upto_region 21 with fail
                go_cut [17, 18, 19] from 79 to 102 (fun s17 s18 s19 wx => ∃ g17 : Nat, s17 = .pointer (some ⟨g17, 0, none⟩) ∧ s18 = .int .i64 v ∧ s19 = .int .i64 0 ∧ wr.heap.size ≤ g17 ∧ BlkIs wx g17 #[.int .i64 T, .int .i64 200, .int .i64 v'] 36 ∧ ArenaAt 59 wx P b l4 ∧ Chg (· = b) wr wx)
                case first =>
                  -- [D
                  refine wp_region_noPanic ?_
                  refine wp_region_held_drew (S := fun y => (y.cell? ⟨g6, j, none⟩ = some (.int .i64 u) ∧ y.cell? ⟨g14, 0, none⟩ = some (.int .i64 T) ∧ y.cell? ⟨g14, 1, none⟩ = some (.int .i64 200) ∧ y.cell? ⟨g14, 2, none⟩ = some (.int .i64 v)) ∧ wr.heap.size ≤ y.heap.size) (by kernel_rfl) ⟨⟨c6, c0, c1, c2⟩, Nat.le_refl _⟩ (fun hS => ?_)
                  clear c6 c0 c1 c2 f0 f1 f2 hfz
                  first
                  | (refine wpAnyH_take (i := 0) (v := ?_) rfl (by kernel_rfl) (by kernel_rfl) (by kernel_rfl) (fun _ _ _ h => h) (Or.inl ⟨by rfl, ?_⟩) hS ?_; rotate_left; (· (intro y hy; (try dsimp only at hy); go_simp; try with_reducible rfl)); try simp only [Act.put, List.setIfInBounds_toArray, List.set_cons_zero, List.set_cons_succ, List.getElem_toArray, List.getElem_cons_zero, List.getElem_cons_succ])
                  | (refine wpAnyH_take (i := 0) (v := undef) rfl (by kernel_rfl) (by kernel_rfl) (by kernel_rfl) (fun _ _ _ h => h) (Or.inr ⟨by rfl, rfl⟩) hS ?_; try simp only [Act.put, List.setIfInBounds_toArray, List.set_cons_zero, List.set_cons_succ, List.getElem_toArray, List.getElem_cons_zero, List.getElem_cons_succ])
                  first
                  | (refine wpAnyH_take (i := 1) (v := ?_) rfl (by kernel_rfl) (by kernel_rfl) (by kernel_rfl) (fun _ _ _ h => h) (Or.inl ⟨by rfl, ?_⟩) hS ?_; rotate_left; (· (intro y hy; (try dsimp only at hy); go_simp; try with_reducible rfl)); try simp only [Act.put, List.setIfInBounds_toArray, List.set_cons_zero, List.set_cons_succ, List.getElem_toArray, List.getElem_cons_zero, List.getElem_cons_succ])
                  | (refine wpAnyH_take (i := 1) (v := undef) rfl (by kernel_rfl) (by kernel_rfl) (by kernel_rfl) (fun _ _ _ h => h) (Or.inr ⟨by rfl, rfl⟩) hS ?_; try simp only [Act.put, List.setIfInBounds_toArray, List.set_cons_zero, List.set_cons_succ, List.getElem_toArray, List.getElem_cons_zero, List.getElem_cons_succ])
                  first
                  | (refine wpAnyH_take (i := 2) (v := ?_) rfl (by kernel_rfl) (by kernel_rfl) (by kernel_rfl) (fun _ _ _ h => h) (Or.inl ⟨by rfl, ?_⟩) hS ?_; rotate_left; (· (intro y hy; (try dsimp only at hy); go_simp; try with_reducible rfl)); try simp only [Act.put, List.setIfInBounds_toArray, List.set_cons_zero, List.set_cons_succ, List.getElem_toArray, List.getElem_cons_zero, List.getElem_cons_succ])
                  | (refine wpAnyH_take (i := 2) (v := undef) rfl (by kernel_rfl) (by kernel_rfl) (by kernel_rfl) (fun _ _ _ h => h) (Or.inr ⟨by rfl, rfl⟩) hS ?_; try simp only [Act.put, List.setIfInBounds_toArray, List.set_cons_zero, List.set_cons_succ, List.getElem_toArray, List.getElem_cons_zero, List.getElem_cons_succ])
                  first
                  | (refine wpAnyH_take (i := 3) (v := ?_) rfl (by kernel_rfl) (by kernel_rfl) (by kernel_rfl) (fun _ _ _ h => h) (Or.inl ⟨by rfl, ?_⟩) hS ?_; rotate_left; (· (intro y hy; (try dsimp only at hy); go_simp; try with_reducible rfl)); try simp only [Act.put, List.setIfInBounds_toArray, List.set_cons_zero, List.set_cons_succ, List.getElem_toArray, List.getElem_cons_zero, List.getElem_cons_succ])
                  | (refine wpAnyH_take (i := 3) (v := undef) rfl (by kernel_rfl) (by kernel_rfl) (by kernel_rfl) (fun _ _ _ h => h) (Or.inr ⟨by rfl, rfl⟩) hS ?_; try simp only [Act.put, List.setIfInBounds_toArray, List.set_cons_zero, List.set_cons_succ, List.getElem_toArray, List.getElem_cons_zero, List.getElem_cons_succ])
                  first
                  | (refine wpAnyH_take (i := 4) (v := ?_) rfl (by kernel_rfl) (by kernel_rfl) (by kernel_rfl) (fun _ _ _ h => h) (Or.inl ⟨by rfl, ?_⟩) hS ?_; rotate_left; (· (intro y hy; (try dsimp only at hy); go_simp; try with_reducible rfl)); try simp only [Act.put, List.setIfInBounds_toArray, List.set_cons_zero, List.set_cons_succ, List.getElem_toArray, List.getElem_cons_zero, List.getElem_cons_succ])
                  | (refine wpAnyH_take (i := 4) (v := undef) rfl (by kernel_rfl) (by kernel_rfl) (by kernel_rfl) (fun _ _ _ h => h) (Or.inr ⟨by rfl, rfl⟩) hS ?_; try simp only [Act.put, List.setIfInBounds_toArray, List.set_cons_zero, List.set_cons_succ, List.getElem_toArray, List.getElem_cons_zero, List.getElem_cons_succ])
                  first
                  | (refine wpAnyH_take (i := 5) (v := ?_) rfl (by kernel_rfl) (by kernel_rfl) (by kernel_rfl) (fun _ _ _ h => h) (Or.inl ⟨by rfl, ?_⟩) hS ?_; rotate_left; (· (intro y hy; (try dsimp only at hy); go_simp; try with_reducible rfl)); try simp only [Act.put, List.setIfInBounds_toArray, List.set_cons_zero, List.set_cons_succ, List.getElem_toArray, List.getElem_cons_zero, List.getElem_cons_succ])
                  | (refine wpAnyH_take (i := 5) (v := undef) rfl (by kernel_rfl) (by kernel_rfl) (by kernel_rfl) (fun _ _ _ h => h) (Or.inr ⟨by rfl, rfl⟩) hS ?_; try simp only [Act.put, List.setIfInBounds_toArray, List.set_cons_zero, List.set_cons_succ, List.getElem_toArray, List.getElem_cons_zero, List.getElem_cons_succ])
                  refine wpAnyH_ready (rs := [6, 11]) (by kernel_rfl) (by simp) ?_
                  refine AllReadyH.cons (o := _) rfl (fun K hK => ?_) (AllReadyH.cons (o := _) rfl (fun K hK => ?_) AllReadyH.nil)
                  · go_simp
                    refine (MC _ hA.drew).mono ?_
                    rintro e y2 ⟨rfl, hA4, hc⟩
                    have hS0 := hS
                    refine hK.out _ _ (⟨⟨(hc.cell (p := ⟨g6, j, none⟩) (by show g6 < wr.heap.size; omega) hgb6).trans hS0.1.1, (hc.cell (p := ⟨g14, 0, none⟩) k14l n14.1).trans hS0.1.2.1, (hc.cell (p := ⟨g14, 1, none⟩) k14l n14.1).trans hS0.1.2.2.1, (hc.cell (p := ⟨g14, 2, none⟩) k14l n14.1).trans hS0.1.2.2.2⟩, Nat.le_trans hS0.2 hc.size⟩) (fun hS => ?_)
                    clear hK K
                    try simp only [Act.put, List.setIfInBounds_toArray, List.set_cons_zero, List.set_cons_succ]
                    first
                    | (refine wpAnyH_take (i := 7) (v := ?_) rfl (by kernel_rfl) (by kernel_rfl) (by kernel_rfl) (fun _ _ _ h => h) (Or.inl ⟨by rfl, ?_⟩) hS ?_; rotate_left; (· (intro y hy; (try dsimp only at hy); go_simp; try with_reducible rfl)); try simp only [Act.put, List.setIfInBounds_toArray, List.set_cons_zero, List.set_cons_succ, List.getElem_toArray, List.getElem_cons_zero, List.getElem_cons_succ])
                    | (refine wpAnyH_take (i := 7) (v := undef) rfl (by kernel_rfl) (by kernel_rfl) (by kernel_rfl) (fun _ _ _ h => h) (Or.inr ⟨by rfl, rfl⟩) hS ?_; try simp only [Act.put, List.setIfInBounds_toArray, List.set_cons_zero, List.set_cons_succ, List.getElem_toArray, List.getElem_cons_zero, List.getElem_cons_succ])
                    first
                    | (refine wpAnyH_take (i := 8) (v := ?_) rfl (by kernel_rfl) (by kernel_rfl) (by kernel_rfl) (fun _ _ _ h => h) (Or.inl ⟨by rfl, ?_⟩) hS ?_; rotate_left; (· (intro y hy; (try dsimp only at hy); go_simp; try with_reducible rfl)); try simp only [Act.put, List.setIfInBounds_toArray, List.set_cons_zero, List.set_cons_succ, List.getElem_toArray, List.getElem_cons_zero, List.getElem_cons_succ])
                    | (refine wpAnyH_take (i := 8) (v := undef) rfl (by kernel_rfl) (by kernel_rfl) (by kernel_rfl) (fun _ _ _ h => h) (Or.inr ⟨by rfl, rfl⟩) hS ?_; try simp only [Act.put, List.setIfInBounds_toArray, List.set_cons_zero, List.set_cons_succ, List.getElem_toArray, List.getElem_cons_zero, List.getElem_cons_succ])
                    first
                    | (refine wpAnyH_take (i := 9) (v := ?_) rfl (by kernel_rfl) (by kernel_rfl) (by kernel_rfl) (fun _ _ _ h => h) (Or.inl ⟨by rfl, ?_⟩) hS ?_; rotate_left; (· (intro y hy; (try dsimp only at hy); go_simp; try with_reducible rfl)); try simp only [Act.put, List.setIfInBounds_toArray, List.set_cons_zero, List.set_cons_succ, List.getElem_toArray, List.getElem_cons_zero, List.getElem_cons_succ])
                    | (refine wpAnyH_take (i := 9) (v := undef) rfl (by kernel_rfl) (by kernel_rfl) (by kernel_rfl) (fun _ _ _ h => h) (Or.inr ⟨by rfl, rfl⟩) hS ?_; try simp only [Act.put, List.setIfInBounds_toArray, List.set_cons_zero, List.set_cons_succ, List.getElem_toArray, List.getElem_cons_zero, List.getElem_cons_succ])
                    first
                    | (refine wpAnyH_take (i := 10) (v := ?_) rfl (by kernel_rfl) (by kernel_rfl) (by kernel_rfl) (fun _ _ _ h => h) (Or.inl ⟨by rfl, ?_⟩) hS ?_; rotate_left; (· (intro y hy; (try dsimp only at hy); go_simp; try with_reducible rfl)); try simp only [Act.put, List.setIfInBounds_toArray, List.set_cons_zero, List.set_cons_succ, List.getElem_toArray, List.getElem_cons_zero, List.getElem_cons_succ])
                    | (refine wpAnyH_take (i := 10) (v := undef) rfl (by kernel_rfl) (by kernel_rfl) (by kernel_rfl) (fun _ _ _ h => h) (Or.inr ⟨by rfl, rfl⟩) hS ?_; try simp only [Act.put, List.setIfInBounds_toArray, List.set_cons_zero, List.set_cons_succ, List.getElem_toArray, List.getElem_cons_zero, List.getElem_cons_succ])
                    have hS1 := hS
                    have hbz := (Below.refl y2.heap.size y2).alloc (Nat.le_refl _) (.cells #[.int .i64 0, .int .i64 0, .int .i64 0] 36)
                    have hbv := (Below.refl y2.heap.size y2).alloc (Nat.le_refl _) (.cells #[.int .i64 T, .int .i64 200, .int .i64 v'] 36)
                    have ly6 : g6 < y2.heap.size := by have := hS1.2; omega
                    have ly14 : g14 < y2.heap.size := by have := hS1.2; omega
                    refine wpAnyH_ready (rs := [11]) (by kernel_rfl) (by simp) ?_
                    refine AllReadyH.cons (o := _) rfl (fun K hK => ?_) AllReadyH.nil
                    go_simp
                    refine hK.out _ _ (⟨⟨(hbz.cell (p := ⟨g6, j, none⟩) ly6).trans hS1.1.1, (hbz.cell (p := ⟨g14, 0, none⟩) ly14).trans hS1.1.2.1, (hbz.cell (p := ⟨g14, 1, none⟩) ly14).trans hS1.1.2.2.1, (hbz.cell (p := ⟨g14, 2, none⟩) ly14).trans hS1.1.2.2.2⟩, Nat.le_trans hS1.2 hbz.size⟩) (fun hS => ?_)
                    clear hK K
                    try simp only [Act.put, List.setIfInBounds_toArray, List.set_cons_zero, List.set_cons_succ]
                    refine wpAnyH_ready (rs := [12]) (by kernel_rfl) (by simp) ?_
                    refine AllReadyH.cons (o := _) rfl (fun K hK => ?_) AllReadyH.nil
                    go_simp
                    refine hK.out _ _ (⟨⟨(hbv.cell (p := ⟨g6, j, none⟩) ly6).trans hS1.1.1, (hbv.cell (p := ⟨g14, 0, none⟩) ly14).trans hS1.1.2.1, (hbv.cell (p := ⟨g14, 1, none⟩) ly14).trans hS1.1.2.2.1, (hbv.cell (p := ⟨g14, 2, none⟩) ly14).trans hS1.1.2.2.2⟩, Nat.le_trans hS1.2 hbv.size⟩) (fun hS => ?_)
                    clear hK K
                    try simp only [Act.put, List.setIfInBounds_toArray, List.set_cons_zero, List.set_cons_succ]
                    first
                    | (refine wpAnyH_take (i := 13) (v := ?_) rfl (by kernel_rfl) (by kernel_rfl) (by kernel_rfl) (fun _ _ _ h => h) (Or.inl ⟨by rfl, ?_⟩) hS ?_; rotate_left; (· (intro y hy; (try dsimp only at hy); go_simp; try with_reducible rfl)); try simp only [Act.put, List.setIfInBounds_toArray, List.set_cons_zero, List.set_cons_succ, List.getElem_toArray, List.getElem_cons_zero, List.getElem_cons_succ])
                    | (refine wpAnyH_take (i := 13) (v := undef) rfl (by kernel_rfl) (by kernel_rfl) (by kernel_rfl) (fun _ _ _ h => h) (Or.inr ⟨by rfl, rfl⟩) hS ?_; try simp only [Act.put, List.setIfInBounds_toArray, List.set_cons_zero, List.set_cons_succ, List.getElem_toArray, List.getElem_cons_zero, List.getElem_cons_succ])
                    first
                    | (refine wpAnyH_take (i := 14) (v := ?_) rfl (by kernel_rfl) (by kernel_rfl) (by kernel_rfl) (fun _ _ _ h => h) (Or.inl ⟨by rfl, ?_⟩) hS ?_; rotate_left; (· (intro y hy; (try dsimp only at hy); go_simp; try with_reducible rfl)); try simp only [Act.put, List.setIfInBounds_toArray, List.set_cons_zero, List.set_cons_succ, List.getElem_toArray, List.getElem_cons_zero, List.getElem_cons_succ])
                    | (refine wpAnyH_take (i := 14) (v := undef) rfl (by kernel_rfl) (by kernel_rfl) (by kernel_rfl) (fun _ _ _ h => h) (Or.inr ⟨by rfl, rfl⟩) hS ?_; try simp only [Act.put, List.setIfInBounds_toArray, List.set_cons_zero, List.set_cons_succ, List.getElem_toArray, List.getElem_cons_zero, List.getElem_cons_succ])
                    refine wpAnyH_done (by kernel_rfl) ?_ _
                    refine NoPanic.normal ?_
                    go_wp2_with fail
                    go_meet
                    exact ⟨_, rfl, rfl, rfl, hS1.2, BlkIs.new y2 _ _, hA4.below hbv hA4.lt.1 hA4.lt.2, ((Chg.refl (· = b) wr).drew.trans hc).alloc _⟩
                  · go_simp
                    have hbz := (Below.refl wr.heap.size wr).drew.alloc (Nat.le_refl _) (.cells #[.int .i64 0, .int .i64 0, .int .i64 0] 36)
                    have kz : BlkIs (wr.drew.alloc (.cells #[.int .i64 0, .int .i64 0, .int .i64 0] 36)) wr.heap.size _ _ := BlkIs.new wr.drew #[.int .i64 0, .int .i64 0, .int .i64 0] 36
                    have hS1 := hS
                    have hAz := hA.below hbz hal.1 hal.2
                    have ly6 : g6 < wr.heap.size := by omega
                    refine hK.out _ _ (⟨⟨(hbz.cell (p := ⟨g6, j, none⟩) ly6).trans hS1.1.1, (hbz.cell (p := ⟨g14, 0, none⟩) k14l).trans hS1.1.2.1, (hbz.cell (p := ⟨g14, 1, none⟩) k14l).trans hS1.1.2.2.1, (hbz.cell (p := ⟨g14, 2, none⟩) k14l).trans hS1.1.2.2.2⟩, hbz.size⟩) (fun hS => ?_)
                    clear hK K
                    try simp only [Act.put, List.setIfInBounds_toArray, List.set_cons_zero, List.set_cons_succ]
                    refine wpAnyH_ready (rs := [6]) (by kernel_rfl) (by simp) ?_
                    refine AllReadyH.cons (o := _) rfl (fun K hK => ?_) AllReadyH.nil
                    go_simp
                    refine (MC _ hAz).mono ?_
                    rintro e y2 ⟨rfl, hA4, hc⟩
                    have hS0 := hS
                    have nbz : ¬ wr.heap.size = b := by omega
                    have lz : ∀ g, g < wr.heap.size → g < (wr.drew.alloc (.cells #[.int .i64 0, .int .i64 0, .int .i64 0] 36)).heap.size := fun g hg => Nat.lt_of_lt_of_le hg hbz.size
                    replace kz := kz.chg hc nbz
                    refine hK.out _ _ (⟨⟨(hc.cell (p := ⟨g6, j, none⟩) (lz _ ly6) hgb6).trans hS0.1.1, (hc.cell (p := ⟨g14, 0, none⟩) (lz _ k14l) n14.1).trans hS0.1.2.1, (hc.cell (p := ⟨g14, 1, none⟩) (lz _ k14l) n14.1).trans hS0.1.2.2.1, (hc.cell (p := ⟨g14, 2, none⟩) (lz _ k14l) n14.1).trans hS0.1.2.2.2⟩, Nat.le_trans hS0.2 hc.size⟩) (fun hS => ?_)
                    clear hK K
                    try simp only [Act.put, List.setIfInBounds_toArray, List.set_cons_zero, List.set_cons_succ]
                    first
                    | (refine wpAnyH_take (i := 7) (v := ?_) rfl (by kernel_rfl) (by kernel_rfl) (by kernel_rfl) (fun _ _ _ h => h) (Or.inl ⟨by rfl, ?_⟩) hS ?_; rotate_left; (· (intro y hy; (try dsimp only at hy); go_simp; try with_reducible rfl)); try simp only [Act.put, List.setIfInBounds_toArray, List.set_cons_zero, List.set_cons_succ, List.getElem_toArray, List.getElem_cons_zero, List.getElem_cons_succ])
                    | (refine wpAnyH_take (i := 7) (v := undef) rfl (by kernel_rfl) (by kernel_rfl) (by kernel_rfl) (fun _ _ _ h => h) (Or.inr ⟨by rfl, rfl⟩) hS ?_; try simp only [Act.put, List.setIfInBounds_toArray, List.set_cons_zero, List.set_cons_succ, List.getElem_toArray, List.getElem_cons_zero, List.getElem_cons_succ])
                    first
                    | (refine wpAnyH_take (i := 8) (v := ?_) rfl (by kernel_rfl) (by kernel_rfl) (by kernel_rfl) (fun _ _ _ h => h) (Or.inl ⟨by rfl, ?_⟩) hS ?_; rotate_left; (· (intro y hy; (try dsimp only at hy); go_simp; try with_reducible rfl)); try simp only [Act.put, List.setIfInBounds_toArray, List.set_cons_zero, List.set_cons_succ, List.getElem_toArray, List.getElem_cons_zero, List.getElem_cons_succ])
                    | (refine wpAnyH_take (i := 8) (v := undef) rfl (by kernel_rfl) (by kernel_rfl) (by kernel_rfl) (fun _ _ _ h => h) (Or.inr ⟨by rfl, rfl⟩) hS ?_; try simp only [Act.put, List.setIfInBounds_toArray, List.set_cons_zero, List.set_cons_succ, List.getElem_toArray, List.getElem_cons_zero, List.getElem_cons_succ])
                    first
                    | (refine wpAnyH_take (i := 9) (v := ?_) rfl (by kernel_rfl) (by kernel_rfl) (by kernel_rfl) (fun _ _ _ h => h) (Or.inl ⟨by rfl, ?_⟩) hS ?_; rotate_left; (· (intro y hy; (try dsimp only at hy); go_simp; try with_reducible rfl)); try simp only [Act.put, List.setIfInBounds_toArray, List.set_cons_zero, List.set_cons_succ, List.getElem_toArray, List.getElem_cons_zero, List.getElem_cons_succ])
                    | (refine wpAnyH_take (i := 9) (v := undef) rfl (by kernel_rfl) (by kernel_rfl) (by kernel_rfl) (fun _ _ _ h => h) (Or.inr ⟨by rfl, rfl⟩) hS ?_; try simp only [Act.put, List.setIfInBounds_toArray, List.set_cons_zero, List.set_cons_succ, List.getElem_toArray, List.getElem_cons_zero, List.getElem_cons_succ])
                    first
                    | (refine wpAnyH_take (i := 10) (v := ?_) rfl (by kernel_rfl) (by kernel_rfl) (by kernel_rfl) (fun _ _ _ h => h) (Or.inl ⟨by rfl, ?_⟩) hS ?_; rotate_left; (· (intro y hy; (try dsimp only at hy); go_simp; try with_reducible rfl)); try simp only [Act.put, List.setIfInBounds_toArray, List.set_cons_zero, List.set_cons_succ, List.getElem_toArray, List.getElem_cons_zero, List.getElem_cons_succ])
                    | (refine wpAnyH_take (i := 10) (v := undef) rfl (by kernel_rfl) (by kernel_rfl) (by kernel_rfl) (fun _ _ _ h => h) (Or.inr ⟨by rfl, rfl⟩) hS ?_; try simp only [Act.put, List.setIfInBounds_toArray, List.set_cons_zero, List.set_cons_succ, List.getElem_toArray, List.getElem_cons_zero, List.getElem_cons_succ])
                    have hS2 := hS
                    obtain ⟨⟨d0, d1, d2⟩, e0, e1, e2⟩ := blk3 kz
                    have hbs := (((Below.refl wr.heap.size y2).setCell (p := ⟨wr.heap.size, 0, none⟩) (Nat.le_refl _) (.int .i64 T)).setCell (p := ⟨wr.heap.size, 1, none⟩) (Nat.le_refl _) (.int .i64 200)).setCell (p := ⟨wr.heap.size, 2, none⟩) (Nat.le_refl _) (.int .i64 v')
                    refine wpAnyH_ready (rs := [12]) (by kernel_rfl) (by simp) ?_
                    refine AllReadyH.cons (o := _) rfl (fun K hK => ?_) AllReadyH.nil
                    go_simp
                    refine hK.out _ _ (⟨⟨(hbs.cell (p := ⟨g6, j, none⟩) ly6).trans hS2.1.1, (hbs.cell (p := ⟨g14, 0, none⟩) k14l).trans hS2.1.2.1, (hbs.cell (p := ⟨g14, 1, none⟩) k14l).trans hS2.1.2.2.1, (hbs.cell (p := ⟨g14, 2, none⟩) k14l).trans hS2.1.2.2.2⟩, Nat.le_trans hS2.2 hbs.size⟩) (fun hS => ?_)
                    clear hK K
                    try simp only [Act.put, List.setIfInBounds_toArray, List.set_cons_zero, List.set_cons_succ]
                    first
                    | (refine wpAnyH_take (i := 13) (v := ?_) rfl (by kernel_rfl) (by kernel_rfl) (by kernel_rfl) (fun _ _ _ h => h) (Or.inl ⟨by rfl, ?_⟩) hS ?_; rotate_left; (· (intro y hy; (try dsimp only at hy); go_simp; try with_reducible rfl)); try simp only [Act.put, List.setIfInBounds_toArray, List.set_cons_zero, List.set_cons_succ, List.getElem_toArray, List.getElem_cons_zero, List.getElem_cons_succ])
                    | (refine wpAnyH_take (i := 13) (v := undef) rfl (by kernel_rfl) (by kernel_rfl) (by kernel_rfl) (fun _ _ _ h => h) (Or.inr ⟨by rfl, rfl⟩) hS ?_; try simp only [Act.put, List.setIfInBounds_toArray, List.set_cons_zero, List.set_cons_succ, List.getElem_toArray, List.getElem_cons_zero, List.getElem_cons_succ])
                    first
                    | (refine wpAnyH_take (i := 14) (v := ?_) rfl (by kernel_rfl) (by kernel_rfl) (by kernel_rfl) (fun _ _ _ h => h) (Or.inl ⟨by rfl, ?_⟩) hS ?_; rotate_left; (· (intro y hy; (try dsimp only at hy); go_simp; try with_reducible rfl)); try simp only [Act.put, List.setIfInBounds_toArray, List.set_cons_zero, List.set_cons_succ, List.getElem_toArray, List.getElem_cons_zero, List.getElem_cons_succ])
                    | (refine wpAnyH_take (i := 14) (v := undef) rfl (by kernel_rfl) (by kernel_rfl) (by kernel_rfl) (fun _ _ _ h => h) (Or.inr ⟨by rfl, rfl⟩) hS ?_; try simp only [Act.put, List.setIfInBounds_toArray, List.set_cons_zero, List.set_cons_succ, List.getElem_toArray, List.getElem_cons_zero, List.getElem_cons_succ])
                    refine wpAnyH_done (by kernel_rfl) ?_ _
                    refine NoPanic.normal ?_
                    go_wp2_with fail
                    go_meet
                    exact ⟨_, rfl, rfl, rfl, Nat.le_refl _, ((kz.set 0 (.int .i64 T)).set 1 (.int .i64 200)).set 2 (.int .i64 v'), hA4.below hbs hal.1 hal.2,
                      ((Chg.refl (· = b) wr).drew.alloc _).trans hc |>.setCell (p := ⟨wr.heap.size, 0, none⟩) (.inr (Nat.le_refl _)) (.int .i64 T) |>.setCell (p := ⟨wr.heap.size, 1, none⟩) (.inr (Nat.le_refl _)) (.int .i64 200) |>.setCell (p := ⟨wr.heap.size, 2, none⟩) (.inr (Nat.le_refl _)) (.int .i64 v')⟩
                  -- D]
                case rest =>
                  obtain ⟨g17, rfl, rfl, rfl, hg17, k17, hA4, hc⟩ := hcut
                  have k14' := k14.chg hc n14.1
                  have hw4 := own_stay hw hc hgb6
                  have hfz4 := hw4.frozenAt j
                  have c64 := hw4.cellAt j (by omega)
                  rw [valsN_at (by rw [MP0]; exact hjk)] at c64
                  obtain ⟨⟨d0, d1, d2⟩, e0, e1, e2⟩ := blk3 k17
                  obtain ⟨⟨d3, d4, d5⟩, e3, e4, e5⟩ := blk3 k14'
                  have ng : ¬ g14 = g17 ∧ ¬ g6 = g17 := by omega
                  clear c6 c0 c1 c2 f0 f1 f2 hfz hA k14 hw MC
                  go_wp2
                  have hcs := (((Chg.refl (· = g14) wc).setCell (p := ⟨g14, 0, none⟩) (.inl rfl) (.int .i64 T)).setCell (p := ⟨g14, 1, none⟩) (.inl rfl) (.int .i64 200)).setCell (p := ⟨g14, 2, none⟩) (.inl rfl) (.int .i64 v')
                  have k14s : BlkIs _ g14 #[.int .i64 T, .int .i64 200, .int .i64 v'] 36 := ((k14'.set 0 (.int .i64 T)).set 1 (.int .i64 200)).set 2 (.int .i64 v')
                  have hw5 := (own_stay hw4 hcs n14.2.2).stored j (.int .i64 v)
                  rw [valsN_set] at hw5
                  have hcs6 := hcs.mono (T := fun c => c = b ∨ c = g6 ∨ c = g14) (fun c h => .inr (.inr h)) |>.setCell (p := ⟨g6, j, none⟩) (.inl (.inr (.inl rfl))) (.int .i64 v)
                  have hA5 := (hA4.chg hcs (by omega) (by omega)).chg ((Chg.refl (· = g6) _).setCell (p := ⟨g6, j, none⟩) (.inl rfl) (.int .i64 v)) hgP6 (fun e => hgb6 e.symm)
                  exact ⟨⟨j + 1, l4, _, by omega, by go_num, hl4, hA5, hMid4, hMP4, hw5.1, by rw [Hv'.out]; exact k14s.far n14.2.1 _, (hcy.trans (hc.mono (fun c h => .inl h))).trans hcs6⟩, by simp [intOf]; omega⟩
              -- C]
              -- [F
              · obtain rfl : j = k := by omega
                have hob := hMid.obs Hobs.out hoff (by omega)
                have M2 := walk_any P b T 200 j l3 os _ ⟨by omega, by omega, by omega, by omega⟩ hob hA
                obtain rfl := hMP.done
                obtain ⟨⟨c0, c1, c2⟩, f0, f1, f2⟩ := blk3 k14
                have hg6l := (hw.lt _ rfl).2
                obtain ⟨t, ht⟩ : ∃ t, T + off os j = t := ⟨_, rfl⟩
                rw [ht] at M2 c2
                clear ht
                go_wp2_with fail
                refine M2.mono ?_
                rintro e x3 ⟨sv, rfl, hsv, hb⟩
                have hA3 := hA.below hb hA.lt.1 hA.lt.2
                have hw3 := own_chg hw (Chg.of_below (S := fun _ => False) hb (Nat.le_refl _)) (fun _ _ h => h)
                rw [valsN_eq] at hsv hw3
                have R1 := readsAs_of_owns hsv
                have R2 := readsAs_of_owns hw3
                replace hcy := hcy.trans (Chg.of_below hb (Nat.le_refl _))
                rw [← valsN_eq] at hw3
                clear c0 c1 c2 f0 f1 f2 M2 hb hsv hA hw k14
                go_wp2_with fail
                refine (ints_same _ _ _ _ R1 R2).mono ?_
                rintro e x4 ⟨rfl, hb⟩
                have hA4 := hA3.below hb hA3.lt.1 hA3.lt.2
                have hw4 := own_chg hw3 (Chg.of_below (S := fun _ => False) hb (Nat.le_refl _)) (fun _ _ h => h)
                replace hcy := hcy.trans (Chg.of_below hb (Nat.le_refl _))
                clear hb R1 R2
                go_wp2
                go_roundw
                case rel => exact ⟨n + 1, T, l3, by omega, by omega, by go_num, by omega, by have := HT.out; omega, fun h => by have := HT.out; omega, hl3, hA4, fun T' => hMid.all T', hw4, hch.step hcy (fun c h => by rcases h with h | h | h; exact .inl (.inl h); exact .inl (.inr h); exact .inr (by omega))⟩
                case measure => simp [intOf]; omega
              -- F]
          -- B]
          · obtain rfl : n = 3 := by omega
            obtain rfl : B = 400 := hB3 rfl
            have hMid := hmid 0
            have own7w := own_stay own7 hch (by omega)
            have own8w := own_stay own8 hch (by omega)
            have hrows := Hrows.out.chg hch (fun g hg h => by have := HB1.out; omega)
            replace hB := hB.trans (hch.below (fun c h => by omega) hB.size)
            clear own7 own8 Hrows hmid hch hwo
            obtain ⟨wp, rfl⟩ : ∃ wp : World, wp = wr := ⟨_, rfl⟩
            have hg6l := (hw.lt _ rfl).2
            have hg7l := (own7w.lt _ rfl).2
            have hg8l := (own8w.lt _ rfl).2
            go_wp2_with fail
            go_loopw [20] (fun i wq => ∃ j : Nat, j ≤ k ∧ i = .int .i64 j ∧ Below wp.heap.size wp wq) (fun i _ => k - (intOf i).toNat)
            case atStart => exact ⟨0, by omega, rfl, Below.refl _ _⟩
            case round =>
              obtain ⟨j, hj, rfl, hbq⟩ := hrel
              by_cases hjk : j < k
              -- [E
              · have O := (hMid.2 j (by omega) hjk).obj Hobs.out hjk hoff (by omega)
                have hEq := hMid.2 j (by omega) hjk
                have hA1 := hA.below hbq hA.lt.1 hA.lt.2
                have c6 := (hbq.cell (p := ⟨g6, j, none⟩) hg6l).trans (hw.cellAt j (by omega))
                rw [valsN_at (by rw [plc_length]; exact hjk), plc_at hjk] at c6
                have M1 := shape_at (400 + off os j) _ hA1 O
                have M2 := fun y (hy : ArenaAt 59 y P b l2) => words_at P b l2 (400 + off os j) _ _ _ _ _ y hy O
                have d0 := (hbq.cell (p := ⟨g7, j * 4 + 0, none⟩) hg7l).trans (own7w.cellAt (j * 4 + 0) (by omega))
                have d1 := (hbq.cell (p := ⟨g7, j * 4 + 1, none⟩) hg7l).trans (own7w.cellAt (j * 4 + 1) (by omega))
                have d2 := (hbq.cell (p := ⟨g7, j * 4 + 2, none⟩) hg7l).trans (own7w.cellAt (j * 4 + 2) (by omega))
                have d3 := (hbq.cell (p := ⟨g7, j * 4 + 3, none⟩) hg7l).trans (own7w.cellAt (j * 4 + 3) (by omega))
                rw [shsC_at os hjk (by omega)] at d0 d1 d2 d3
                obtain ⟨h, ch, cur, hs1, hs2, hs3, hs4, hs5⟩ := hrows.2 j hjk
                have d4 := (hbq.cell (p := ⟨g8, j, none⟩) hg8l).trans (own8w.cellAt j (by omega))
                rw [hs1] at d4
                have hhl := hs4.lt
                have hch : ∀ t, t < 2 + (os j).p + (os j).d → wr.cell? ⟨h, t, none⟩ = some (.int .u64 (l2.getD (400 + off os j + 1 + t) 0)) := fun t ht => by
                  rw [hbq.cell (p := ⟨h, t, none⟩) hhl, hs4.cell t, hs5 t ht]
                  have := hEq (1 + t) (by unfold Ob.n; omega)
                  rw [show 1 + off os j + 1 + t = 1 + off os j + (1 + t) from by omega, ← this, show 400 + off os j + (1 + t) = 400 + off os j + 1 + t from by omega]
                replace d0 : wr.cell? ⟨g7, j * 4, none⟩ = some (.int .i64 (os j).p) := d0
                replace d1 : wr.cell? ⟨g7, j * 4 + 1, none⟩ = some (.int .i64 (os j).d) := d1
                replace d2 : wr.cell? ⟨g7, j * 4 + 2, none⟩ = some (.bool (os j).wk) := d2
                replace d3 : wr.cell? ⟨g7, j * 4 + 3, none⟩ = some (.bool (os j).fn) := d3
                have o1 := O.ptrs
                have o2 := O.data
                obtain ⟨u, hu⟩ : ∃ u, 400 + off os j = u := ⟨_, rfl⟩
                rw [hu] at c6 M1 M2 hch
                have Hch := Lib.hid hch
                generalize (os j).p = p at *
                generalize (os j).d = d at *
                generalize (os j).wk = wk at *
                generalize (os j).fn = fn at *
                generalize (os j).fr = fr at *
                have j3 : (0 : Int) ≤ (j : Int) := by omega
                have j4 : (j : Int) < (k : Int) := by omega
                have hsz := hbq.size
                clear hu O hEq hs1 hs2 hs3 hs4 hs5 hch
                obtain ⟨wq, rfl⟩ : ∃ wq : World, wq = wr := ⟨_, rfl⟩
                go_wp2_with fail
                refine M1.mono ?_
                rintro e x ⟨rfl, hb⟩
                have k21 := BlkIs.new x #[.int .i64 p, .int .i64 d, .bool wk, .bool fn] 32
                have hb1 := hb.alloc hb.size (.cells #[.int .i64 p, .int .i64 d, .bool wk, .bool fn] 32)
                have hbs := hb.size
                have c6x := (hb.cell (p := ⟨g6, j, none⟩) (by show g6 < _; omega)).trans c6
                have l6x : g6 < x.heap.size := by omega
                have hA2 := hA1.below hb1 hA1.lt.1 hA1.lt.2
                clear hb M1 hA1 c6
                go_wp2_with fail
                generalize x.alloc (.cells #[.int .i64 p, .int .i64 d, .bool wk, .bool fn] 32) = x5 at *
                generalize x.heap.size = g21 at *
                refine (M2 _ hA2).mono ?_
                rintro e y ⟨sv, rfl, hws, hb2⟩
                replace k21 := k21.on hb2
                replace hb1 := hb1.trans (hb2.mono hb1.size)
                obtain ⟨n, hn⟩ : ∃ n, 2 + p + d = n := ⟨_, rfl⟩
                rw [hn] at hws d4 Hch
                obtain ⟨gw, cw, hgc, hwc0, hwl, hwc, hwm, hwll, hwr⟩ := own_cell hws (by omega)
                subst hgc
                have Hwr : Hid (∀ t, t < n → y.cell? ⟨gw, t, none⟩ = some (.int .u64 (l2.getD (u + 1 + t) 0))) := Lib.hid (fun t ht => by rw [hwr t ht, wordsL_at ht])
                have Hch2 : Hid (∀ t, t < n → y.cell? ⟨h, t, none⟩ = some (.int .u64 (l2.getD (u + 1 + t) 0))) := Lib.hid (fun t ht => (hb1.cell (p := ⟨h, t, none⟩) (by show h < _; omega)).trans (Hch.out t ht))
                replace d0 := (hb1.cell (p := ⟨g7, j * 4, none⟩) (by show g7 < _; omega)).trans d0
                replace d1 := (hb1.cell (p := ⟨g7, j * 4 + 1, none⟩) (by show g7 < _; omega)).trans d1
                replace d2 := (hb1.cell (p := ⟨g7, j * 4 + 2, none⟩) (by show g7 < _; omega)).trans d2
                replace d3 := (hb1.cell (p := ⟨g7, j * 4 + 3, none⟩) (by show g7 < _; omega)).trans d3
                replace d4 := (hb1.cell (p := ⟨g8, j, none⟩) (by show g8 < _; omega)).trans d4
                obtain ⟨⟨e0, e1, e2, e3⟩, -⟩ := k21.facts4
                have hbn := hbq.trans (hb1.mono hsz)
                have hn18 : 2 ≤ n ∧ n ≤ 18 := by omega
                clear hb2 hws hwr M2 hA2 Hch k21 hwc0 hb1 c6x l6x hn
                go_wp2_with fail
                refine wp_region_held_drew (S := fun y => (y.cell? ⟨g21, 0, none⟩ = some (.int .i64 p) ∧ y.cell? ⟨g21, 1, none⟩ = some (.int .i64 d) ∧ y.cell? ⟨g21, 2, none⟩ = some (.bool wk) ∧ y.cell? ⟨g21, 3, none⟩ = some (.bool fn)) ∧ (y.cell? ⟨g7, j * 4, none⟩ = some (.int .i64 p) ∧ y.cell? ⟨g7, j * 4 + 1, none⟩ = some (.int .i64 d) ∧ y.cell? ⟨g7, j * 4 + 2, none⟩ = some (.bool wk) ∧ y.cell? ⟨g7, j * 4 + 3, none⟩ = some (.bool fn)) ∧ y.cell? ⟨g8, j, none⟩ = some (.slice (some ⟨h, 0, none⟩) n ch)) (by kernel_rfl) ⟨⟨e0, e1, e2, e3⟩, ⟨d0, d1, d2, d3⟩, d4⟩ (fun hS => ?_)
                clear e0 e1 e2 e3 d0 d1 d2 d3
                first
                | (refine wpAnyH_take (i := 0) (v := ?_) rfl (by kernel_rfl) (by kernel_rfl) (by kernel_rfl) (fun _ _ _ h => h) (Or.inl ⟨by rfl, ?_⟩) hS ?_; rotate_left; (· (intro y hy; (try dsimp only at hy); go_simp; try with_reducible rfl)); try simp only [Act.put, List.setIfInBounds_toArray, List.set_cons_zero, List.set_cons_succ, List.getElem_toArray, List.getElem_cons_zero, List.getElem_cons_succ])
                | (refine wpAnyH_take (i := 0) (v := undef) rfl (by kernel_rfl) (by kernel_rfl) (by kernel_rfl) (fun _ _ _ h => h) (Or.inr ⟨by rfl, rfl⟩) hS ?_; try simp only [Act.put, List.setIfInBounds_toArray, List.set_cons_zero, List.set_cons_succ, List.getElem_toArray, List.getElem_cons_zero, List.getElem_cons_succ])
                first
                | (refine wpAnyH_take (i := 1) (v := ?_) rfl (by kernel_rfl) (by kernel_rfl) (by kernel_rfl) (fun _ _ _ h => h) (Or.inl ⟨by rfl, ?_⟩) hS ?_; rotate_left; (· (intro y hy; (try dsimp only at hy); go_simp; try with_reducible rfl)); try simp only [Act.put, List.setIfInBounds_toArray, List.set_cons_zero, List.set_cons_succ, List.getElem_toArray, List.getElem_cons_zero, List.getElem_cons_succ])
                | (refine wpAnyH_take (i := 1) (v := undef) rfl (by kernel_rfl) (by kernel_rfl) (by kernel_rfl) (fun _ _ _ h => h) (Or.inr ⟨by rfl, rfl⟩) hS ?_; try simp only [Act.put, List.setIfInBounds_toArray, List.set_cons_zero, List.set_cons_succ, List.getElem_toArray, List.getElem_cons_zero, List.getElem_cons_succ])
                first
                | (refine wpAnyH_take (i := 2) (v := ?_) rfl (by kernel_rfl) (by kernel_rfl) (by kernel_rfl) (fun _ _ _ h => h) (Or.inl ⟨by rfl, ?_⟩) hS ?_; rotate_left; (· (intro y hy; (try dsimp only at hy); go_simp; try with_reducible rfl)); try simp only [Act.put, List.setIfInBounds_toArray, List.set_cons_zero, List.set_cons_succ, List.getElem_toArray, List.getElem_cons_zero, List.getElem_cons_succ])
                | (refine wpAnyH_take (i := 2) (v := undef) rfl (by kernel_rfl) (by kernel_rfl) (by kernel_rfl) (fun _ _ _ h => h) (Or.inr ⟨by rfl, rfl⟩) hS ?_; try simp only [Act.put, List.setIfInBounds_toArray, List.set_cons_zero, List.set_cons_succ, List.getElem_toArray, List.getElem_cons_zero, List.getElem_cons_succ])
                first
                | (refine wpAnyH_take (i := 3) (v := ?_) rfl (by kernel_rfl) (by kernel_rfl) (by kernel_rfl) (fun _ _ _ h => h) (Or.inl ⟨by rfl, ?_⟩) hS ?_; rotate_left; (· (intro y hy; (try dsimp only at hy); go_simp; try with_reducible rfl)); try simp only [Act.put, List.setIfInBounds_toArray, List.set_cons_zero, List.set_cons_succ, List.getElem_toArray, List.getElem_cons_zero, List.getElem_cons_succ])
                | (refine wpAnyH_take (i := 3) (v := undef) rfl (by kernel_rfl) (by kernel_rfl) (by kernel_rfl) (fun _ _ _ h => h) (Or.inr ⟨by rfl, rfl⟩) hS ?_; try simp only [Act.put, List.setIfInBounds_toArray, List.set_cons_zero, List.set_cons_succ, List.getElem_toArray, List.getElem_cons_zero, List.getElem_cons_succ])
                first
                | (refine wpAnyH_take (i := 4) (v := ?_) rfl (by kernel_rfl) (by kernel_rfl) (by kernel_rfl) (fun _ _ _ h => h) (Or.inl ⟨by rfl, ?_⟩) hS ?_; rotate_left; (· (intro y hy; (try dsimp only at hy); go_simp; try with_reducible rfl)); try simp only [Act.put, List.setIfInBounds_toArray, List.set_cons_zero, List.set_cons_succ, List.getElem_toArray, List.getElem_cons_zero, List.getElem_cons_succ])
                | (refine wpAnyH_take (i := 4) (v := undef) rfl (by kernel_rfl) (by kernel_rfl) (by kernel_rfl) (fun _ _ _ h => h) (Or.inr ⟨by rfl, rfl⟩) hS ?_; try simp only [Act.put, List.setIfInBounds_toArray, List.set_cons_zero, List.set_cons_succ, List.getElem_toArray, List.getElem_cons_zero, List.getElem_cons_succ])
                first
                | (refine wpAnyH_take (i := 5) (v := ?_) rfl (by kernel_rfl) (by kernel_rfl) (by kernel_rfl) (fun _ _ _ h => h) (Or.inl ⟨by rfl, ?_⟩) hS ?_; rotate_left; (· (intro y hy; (try dsimp only at hy); go_simp; try with_reducible rfl)); try simp only [Act.put, List.setIfInBounds_toArray, List.set_cons_zero, List.set_cons_succ, List.getElem_toArray, List.getElem_cons_zero, List.getElem_cons_succ])
                | (refine wpAnyH_take (i := 5) (v := undef) rfl (by kernel_rfl) (by kernel_rfl) (by kernel_rfl) (fun _ _ _ h => h) (Or.inr ⟨by rfl, rfl⟩) hS ?_; try simp only [Act.put, List.setIfInBounds_toArray, List.set_cons_zero, List.set_cons_succ, List.getElem_toArray, List.getElem_cons_zero, List.getElem_cons_succ])
                first
                | (refine wpAnyH_take (i := 6) (v := ?_) rfl (by kernel_rfl) (by kernel_rfl) (by kernel_rfl) (fun _ _ _ h => h) (Or.inl ⟨by rfl, ?_⟩) hS ?_; rotate_left; (· (intro y hy; (try dsimp only at hy); go_simp; try with_reducible rfl)); try simp only [Act.put, List.setIfInBounds_toArray, List.set_cons_zero, List.set_cons_succ, List.getElem_toArray, List.getElem_cons_zero, List.getElem_cons_succ])
                | (refine wpAnyH_take (i := 6) (v := undef) rfl (by kernel_rfl) (by kernel_rfl) (by kernel_rfl) (fun _ _ _ h => h) (Or.inr ⟨by rfl, rfl⟩) hS ?_; try simp only [Act.put, List.setIfInBounds_toArray, List.set_cons_zero, List.set_cons_succ, List.getElem_toArray, List.getElem_cons_zero, List.getElem_cons_succ])
                first
                | (refine wpAnyH_take (i := 7) (v := ?_) rfl (by kernel_rfl) (by kernel_rfl) (by kernel_rfl) (fun _ _ _ h => h) (Or.inl ⟨by rfl, ?_⟩) hS ?_; rotate_left; (· (intro y hy; (try dsimp only at hy); go_simp; try with_reducible rfl)); try simp only [Act.put, List.setIfInBounds_toArray, List.set_cons_zero, List.set_cons_succ, List.getElem_toArray, List.getElem_cons_zero, List.getElem_cons_succ])
                | (refine wpAnyH_take (i := 7) (v := undef) rfl (by kernel_rfl) (by kernel_rfl) (by kernel_rfl) (fun _ _ _ h => h) (Or.inr ⟨by rfl, rfl⟩) hS ?_; try simp only [Act.put, List.setIfInBounds_toArray, List.set_cons_zero, List.set_cons_succ, List.getElem_toArray, List.getElem_cons_zero, List.getElem_cons_succ])
                first
                | (refine wpAnyH_take (i := 8) (v := ?_) rfl (by kernel_rfl) (by kernel_rfl) (by kernel_rfl) (fun _ _ _ h => h) (Or.inl ⟨by rfl, ?_⟩) hS ?_; rotate_left; (· (intro y hy; (try dsimp only at hy); go_simp; try with_reducible rfl)); try simp only [Act.put, List.setIfInBounds_toArray, List.set_cons_zero, List.set_cons_succ, List.getElem_toArray, List.getElem_cons_zero, List.getElem_cons_succ])
                | (refine wpAnyH_take (i := 8) (v := undef) rfl (by kernel_rfl) (by kernel_rfl) (by kernel_rfl) (fun _ _ _ h => h) (Or.inr ⟨by rfl, rfl⟩) hS ?_; try simp only [Act.put, List.setIfInBounds_toArray, List.set_cons_zero, List.set_cons_succ, List.getElem_toArray, List.getElem_cons_zero, List.getElem_cons_succ])
                first
                | (refine wpAnyH_take (i := 9) (v := ?_) rfl (by kernel_rfl) (by kernel_rfl) (by kernel_rfl) (fun _ _ _ h => h) (Or.inl ⟨by rfl, ?_⟩) hS ?_; rotate_left; (· (intro y hy; (try dsimp only at hy); go_simp; try with_reducible rfl)); try simp only [Act.put, List.setIfInBounds_toArray, List.set_cons_zero, List.set_cons_succ, List.getElem_toArray, List.getElem_cons_zero, List.getElem_cons_succ])
                | (refine wpAnyH_take (i := 9) (v := undef) rfl (by kernel_rfl) (by kernel_rfl) (by kernel_rfl) (fun _ _ _ h => h) (Or.inr ⟨by rfl, rfl⟩) hS ?_; try simp only [Act.put, List.setIfInBounds_toArray, List.set_cons_zero, List.set_cons_succ, List.getElem_toArray, List.getElem_cons_zero, List.getElem_cons_succ])
                first
                | (refine wpAnyH_take (i := 10) (v := ?_) rfl (by kernel_rfl) (by kernel_rfl) (by kernel_rfl) (fun _ _ _ h => h) (Or.inl ⟨by rfl, ?_⟩) hS ?_; rotate_left; (· (intro y hy; (try dsimp only at hy); go_simp; try with_reducible rfl)); try simp only [Act.put, List.setIfInBounds_toArray, List.set_cons_zero, List.set_cons_succ, List.getElem_toArray, List.getElem_cons_zero, List.getElem_cons_succ])
                | (refine wpAnyH_take (i := 10) (v := undef) rfl (by kernel_rfl) (by kernel_rfl) (by kernel_rfl) (fun _ _ _ h => h) (Or.inr ⟨by rfl, rfl⟩) hS ?_; try simp only [Act.put, List.setIfInBounds_toArray, List.set_cons_zero, List.set_cons_succ, List.getElem_toArray, List.getElem_cons_zero, List.getElem_cons_succ])
                first
                | (refine wpAnyH_take (i := 11) (v := ?_) rfl (by kernel_rfl) (by kernel_rfl) (by kernel_rfl) (fun _ _ _ h => h) (Or.inl ⟨by rfl, ?_⟩) hS ?_; rotate_left; (· (intro y hy; (try dsimp only at hy); go_simp; try with_reducible rfl)); try simp only [Act.put, List.setIfInBounds_toArray, List.set_cons_zero, List.set_cons_succ, List.getElem_toArray, List.getElem_cons_zero, List.getElem_cons_succ])
                | (refine wpAnyH_take (i := 11) (v := undef) rfl (by kernel_rfl) (by kernel_rfl) (by kernel_rfl) (fun _ _ _ h => h) (Or.inr ⟨by rfl, rfl⟩) hS ?_; try simp only [Act.put, List.setIfInBounds_toArray, List.set_cons_zero, List.set_cons_succ, List.getElem_toArray, List.getElem_cons_zero, List.getElem_cons_succ])
                first
                | (refine wpAnyH_take (i := 12) (v := ?_) rfl (by kernel_rfl) (by kernel_rfl) (by kernel_rfl) (fun _ _ _ h => h) (Or.inl ⟨by rfl, ?_⟩) hS ?_; rotate_left; (· (intro y hy; (try dsimp only at hy); go_simp; try with_reducible rfl)); try simp only [Act.put, List.setIfInBounds_toArray, List.set_cons_zero, List.set_cons_succ, List.getElem_toArray, List.getElem_cons_zero, List.getElem_cons_succ])
                | (refine wpAnyH_take (i := 12) (v := undef) rfl (by kernel_rfl) (by kernel_rfl) (by kernel_rfl) (fun _ _ _ h => h) (Or.inr ⟨by rfl, rfl⟩) hS ?_; try simp only [Act.put, List.setIfInBounds_toArray, List.set_cons_zero, List.set_cons_succ, List.getElem_toArray, List.getElem_cons_zero, List.getElem_cons_succ])
                first
                | (refine wpAnyH_take (i := 13) (v := ?_) rfl (by kernel_rfl) (by kernel_rfl) (by kernel_rfl) (fun _ _ _ h => h) (Or.inl ⟨by rfl, ?_⟩) hS ?_; rotate_left; (· (intro y hy; (try dsimp only at hy); go_simp; try with_reducible rfl)); try simp only [Act.put, List.setIfInBounds_toArray, List.set_cons_zero, List.set_cons_succ, List.getElem_toArray, List.getElem_cons_zero, List.getElem_cons_succ])
                | (refine wpAnyH_take (i := 13) (v := undef) rfl (by kernel_rfl) (by kernel_rfl) (by kernel_rfl) (fun _ _ _ h => h) (Or.inr ⟨by rfl, rfl⟩) hS ?_; try simp only [Act.put, List.setIfInBounds_toArray, List.set_cons_zero, List.set_cons_succ, List.getElem_toArray, List.getElem_cons_zero, List.getElem_cons_succ])
                first
                | (refine wpAnyH_take (i := 14) (v := ?_) rfl (by kernel_rfl) (by kernel_rfl) (by kernel_rfl) (fun _ _ _ h => h) (Or.inl ⟨by rfl, ?_⟩) hS ?_; rotate_left; (· (intro y hy; (try dsimp only at hy); go_simp; try with_reducible rfl)); try simp only [Act.put, List.setIfInBounds_toArray, List.set_cons_zero, List.set_cons_succ, List.getElem_toArray, List.getElem_cons_zero, List.getElem_cons_succ])
                | (refine wpAnyH_take (i := 14) (v := undef) rfl (by kernel_rfl) (by kernel_rfl) (by kernel_rfl) (fun _ _ _ h => h) (Or.inr ⟨by rfl, rfl⟩) hS ?_; try simp only [Act.put, List.setIfInBounds_toArray, List.set_cons_zero, List.set_cons_succ, List.getElem_toArray, List.getElem_cons_zero, List.getElem_cons_succ])
                first
                | (refine wpAnyH_take (i := 15) (v := ?_) rfl (by kernel_rfl) (by kernel_rfl) (by kernel_rfl) (fun _ _ _ h => h) (Or.inl ⟨by rfl, ?_⟩) hS ?_; rotate_left; (· (intro y hy; (try dsimp only at hy); go_simp; try with_reducible rfl)); try simp only [Act.put, List.setIfInBounds_toArray, List.set_cons_zero, List.set_cons_succ, List.getElem_toArray, List.getElem_cons_zero, List.getElem_cons_succ])
                | (refine wpAnyH_take (i := 15) (v := undef) rfl (by kernel_rfl) (by kernel_rfl) (by kernel_rfl) (fun _ _ _ h => h) (Or.inr ⟨by rfl, rfl⟩) hS ?_; try simp only [Act.put, List.setIfInBounds_toArray, List.set_cons_zero, List.set_cons_succ, List.getElem_toArray, List.getElem_cons_zero, List.getElem_cons_succ])
                first
                | (refine wpAnyH_take (i := 16) (v := ?_) rfl (by kernel_rfl) (by kernel_rfl) (by kernel_rfl) (fun _ _ _ h => h) (Or.inl ⟨by rfl, ?_⟩) hS ?_; rotate_left; (· (intro y hy; (try dsimp only at hy); go_simp; try with_reducible rfl)); try simp only [Act.put, List.setIfInBounds_toArray, List.set_cons_zero, List.set_cons_succ, List.getElem_toArray, List.getElem_cons_zero, List.getElem_cons_succ])
                | (refine wpAnyH_take (i := 16) (v := undef) rfl (by kernel_rfl) (by kernel_rfl) (by kernel_rfl) (fun _ _ _ h => h) (Or.inr ⟨by rfl, rfl⟩) hS ?_; try simp only [Act.put, List.setIfInBounds_toArray, List.set_cons_zero, List.set_cons_succ, List.getElem_toArray, List.getElem_cons_zero, List.getElem_cons_succ])
                first
                | (refine wpAnyH_take (i := 17) (v := ?_) rfl (by kernel_rfl) (by kernel_rfl) (by kernel_rfl) (fun _ _ _ h => h) (Or.inl ⟨by rfl, ?_⟩) hS ?_; rotate_left; (· (intro y hy; (try dsimp only at hy); go_simp; try with_reducible rfl)); try simp only [Act.put, List.setIfInBounds_toArray, List.set_cons_zero, List.set_cons_succ, List.getElem_toArray, List.getElem_cons_zero, List.getElem_cons_succ])
                | (refine wpAnyH_take (i := 17) (v := undef) rfl (by kernel_rfl) (by kernel_rfl) (by kernel_rfl) (fun _ _ _ h => h) (Or.inr ⟨by rfl, rfl⟩) hS ?_; try simp only [Act.put, List.setIfInBounds_toArray, List.set_cons_zero, List.set_cons_succ, List.getElem_toArray, List.getElem_cons_zero, List.getElem_cons_succ])
                first
                | (refine wpAnyH_take (i := 18) (v := ?_) rfl (by kernel_rfl) (by kernel_rfl) (by kernel_rfl) (fun _ _ _ h => h) (Or.inl ⟨by rfl, ?_⟩) hS ?_; rotate_left; (· (intro y hy; (try dsimp only at hy); go_simp; try with_reducible rfl)); try simp only [Act.put, List.setIfInBounds_toArray, List.set_cons_zero, List.set_cons_succ, List.getElem_toArray, List.getElem_cons_zero, List.getElem_cons_succ])
                | (refine wpAnyH_take (i := 18) (v := undef) rfl (by kernel_rfl) (by kernel_rfl) (by kernel_rfl) (fun _ _ _ h => h) (Or.inr ⟨by rfl, rfl⟩) hS ?_; try simp only [Act.put, List.setIfInBounds_toArray, List.set_cons_zero, List.set_cons_succ, List.getElem_toArray, List.getElem_cons_zero, List.getElem_cons_succ])
                first
                | (refine wpAnyH_take (i := 19) (v := ?_) rfl (by kernel_rfl) (by kernel_rfl) (by kernel_rfl) (fun _ _ _ h => h) (Or.inl ⟨by rfl, ?_⟩) hS ?_; rotate_left; (· (intro y hy; (try dsimp only at hy); go_simp; try with_reducible rfl)); try simp only [Act.put, List.setIfInBounds_toArray, List.set_cons_zero, List.set_cons_succ, List.getElem_toArray, List.getElem_cons_zero, List.getElem_cons_succ])
                | (refine wpAnyH_take (i := 19) (v := undef) rfl (by kernel_rfl) (by kernel_rfl) (by kernel_rfl) (fun _ _ _ h => h) (Or.inr ⟨by rfl, rfl⟩) hS ?_; try simp only [Act.put, List.setIfInBounds_toArray, List.set_cons_zero, List.set_cons_succ, List.getElem_toArray, List.getElem_cons_zero, List.getElem_cons_succ])
                refine wpAnyH_done (by kernel_rfl) ?_ _
                clear hS
                go_wp2_with fail
                replace d4 : y.drew.cell? ⟨g8, j, none⟩ = some (.slice (some ⟨h, 0, none⟩) n ch) := d4
                have Hwr3 : Hid (∀ t, t < n → y.drew.cell? ⟨gw, t, none⟩ = some (.int .u64 (l2.getD (u + 1 + t) 0))) := Hwr
                have Hch3 : Hid (∀ t, t < n → y.drew.cell? ⟨h, t, none⟩ = some (.int .u64 (l2.getD (u + 1 + t) 0))) := Hch2
                have hbd := hbn.drew
                have ld8 : g8 < y.drew.heap.size := by have := hbn.size; show g8 < y.heap.size; omega
                have ldh : h < y.drew.heap.size := by have := hbn.size; show h < y.heap.size; omega
                have ldw : gw < y.drew.heap.size := hwl
                generalize y.drew = y5 at *
                clear Hwr Hch2 hbn
                go_loopw [25] (fun i wz => ∃ t : Nat, t ≤ n ∧ i = .int .i64 t ∧ Below y5.heap.size y5 wz) (fun i _ => n - (intOf i).toNat)
                case atStart => exact ⟨0, by omega, rfl, Below.refl _ _⟩
                case round =>
                  obtain ⟨t, ht, rfl, hbz⟩ := hrel
                  by_cases htn : t < n
                  · have z1 := (hbz.cell (p := ⟨gw, t, none⟩) ldw).trans (Hwr3.out t htn)
                    have z2 := (hbz.cell (p := ⟨h, t, none⟩) ldh).trans (Hch3.out t htn)
                    have z3 := (hbz.cell (p := ⟨g8, j, none⟩) ld8).trans d4
                    generalize l2.getD (u + 1 + t) 0 = z at *
                    have b0 : (0 : Int) ≤ (t : Int) := by omega
                    have b1 : (t : Int) < (n : Int) := by omega
                    clear d4
                    go_wp2_with fail
                    refine wp_region_held_drew (S := fun y => y.cell? ⟨gw, t, none⟩ = some (.int .u64 z) ∧ y.cell? ⟨h, t, none⟩ = some (.int .u64 z) ∧ y.cell? ⟨g8, j, none⟩ = some (.slice (some ⟨h, 0, none⟩) n ch)) (by kernel_rfl) ⟨z1, z2, z3⟩ (fun hS => ?_)
                    clear z1 z2 z3
                    first
                    | (refine wpAnyH_take (i := 0) (v := ?_) rfl (by kernel_rfl) (by kernel_rfl) (by kernel_rfl) (fun _ _ _ h => h) (Or.inl ⟨by rfl, ?_⟩) hS ?_; rotate_left; (· (intro y hy; (try dsimp only at hy); go_simp; try with_reducible rfl)); try simp only [Act.put, List.setIfInBounds_toArray, List.set_cons_zero, List.set_cons_succ, List.getElem_toArray, List.getElem_cons_zero, List.getElem_cons_succ])
                    | (refine wpAnyH_take (i := 0) (v := undef) rfl (by kernel_rfl) (by kernel_rfl) (by kernel_rfl) (fun _ _ _ h => h) (Or.inr ⟨by rfl, rfl⟩) hS ?_; try simp only [Act.put, List.setIfInBounds_toArray, List.set_cons_zero, List.set_cons_succ, List.getElem_toArray, List.getElem_cons_zero, List.getElem_cons_succ])
                    first
                    | (refine wpAnyH_take (i := 1) (v := ?_) rfl (by kernel_rfl) (by kernel_rfl) (by kernel_rfl) (fun _ _ _ h => h) (Or.inl ⟨by rfl, ?_⟩) hS ?_; rotate_left; (· (intro y hy; (try dsimp only at hy); go_simp; try with_reducible rfl)); try simp only [Act.put, List.setIfInBounds_toArray, List.set_cons_zero, List.set_cons_succ, List.getElem_toArray, List.getElem_cons_zero, List.getElem_cons_succ])
                    | (refine wpAnyH_take (i := 1) (v := undef) rfl (by kernel_rfl) (by kernel_rfl) (by kernel_rfl) (fun _ _ _ h => h) (Or.inr ⟨by rfl, rfl⟩) hS ?_; try simp only [Act.put, List.setIfInBounds_toArray, List.set_cons_zero, List.set_cons_succ, List.getElem_toArray, List.getElem_cons_zero, List.getElem_cons_succ])
                    first
                    | (refine wpAnyH_take (i := 2) (v := ?_) rfl (by kernel_rfl) (by kernel_rfl) (by kernel_rfl) (fun _ _ _ h => h) (Or.inl ⟨by rfl, ?_⟩) hS ?_; rotate_left; (· (intro y hy; (try dsimp only at hy); go_simp; try with_reducible rfl)); try simp only [Act.put, List.setIfInBounds_toArray, List.set_cons_zero, List.set_cons_succ, List.getElem_toArray, List.getElem_cons_zero, List.getElem_cons_succ])
                    | (refine wpAnyH_take (i := 2) (v := undef) rfl (by kernel_rfl) (by kernel_rfl) (by kernel_rfl) (fun _ _ _ h => h) (Or.inr ⟨by rfl, rfl⟩) hS ?_; try simp only [Act.put, List.setIfInBounds_toArray, List.set_cons_zero, List.set_cons_succ, List.getElem_toArray, List.getElem_cons_zero, List.getElem_cons_succ])
                    first
                    | (refine wpAnyH_take (i := 3) (v := ?_) rfl (by kernel_rfl) (by kernel_rfl) (by kernel_rfl) (fun _ _ _ h => h) (Or.inl ⟨by rfl, ?_⟩) hS ?_; rotate_left; (· (intro y hy; (try dsimp only at hy); go_simp; try with_reducible rfl)); try simp only [Act.put, List.setIfInBounds_toArray, List.set_cons_zero, List.set_cons_succ, List.getElem_toArray, List.getElem_cons_zero, List.getElem_cons_succ])
                    | (refine wpAnyH_take (i := 3) (v := undef) rfl (by kernel_rfl) (by kernel_rfl) (by kernel_rfl) (fun _ _ _ h => h) (Or.inr ⟨by rfl, rfl⟩) hS ?_; try simp only [Act.put, List.setIfInBounds_toArray, List.set_cons_zero, List.set_cons_succ, List.getElem_toArray, List.getElem_cons_zero, List.getElem_cons_succ])
                    first
                    | (refine wpAnyH_take (i := 4) (v := ?_) rfl (by kernel_rfl) (by kernel_rfl) (by kernel_rfl) (fun _ _ _ h => h) (Or.inl ⟨by rfl, ?_⟩) hS ?_; rotate_left; (· (intro y hy; (try dsimp only at hy); go_simp; try with_reducible rfl)); try simp only [Act.put, List.setIfInBounds_toArray, List.set_cons_zero, List.set_cons_succ, List.getElem_toArray, List.getElem_cons_zero, List.getElem_cons_succ])
                    | (refine wpAnyH_take (i := 4) (v := undef) rfl (by kernel_rfl) (by kernel_rfl) (by kernel_rfl) (fun _ _ _ h => h) (Or.inr ⟨by rfl, rfl⟩) hS ?_; try simp only [Act.put, List.setIfInBounds_toArray, List.set_cons_zero, List.set_cons_succ, List.getElem_toArray, List.getElem_cons_zero, List.getElem_cons_succ])
                    first
                    | (refine wpAnyH_take (i := 5) (v := ?_) rfl (by kernel_rfl) (by kernel_rfl) (by kernel_rfl) (fun _ _ _ h => h) (Or.inl ⟨by rfl, ?_⟩) hS ?_; rotate_left; (· (intro y hy; (try dsimp only at hy); go_simp; try with_reducible rfl)); try simp only [Act.put, List.setIfInBounds_toArray, List.set_cons_zero, List.set_cons_succ, List.getElem_toArray, List.getElem_cons_zero, List.getElem_cons_succ])
                    | (refine wpAnyH_take (i := 5) (v := undef) rfl (by kernel_rfl) (by kernel_rfl) (by kernel_rfl) (fun _ _ _ h => h) (Or.inr ⟨by rfl, rfl⟩) hS ?_; try simp only [Act.put, List.setIfInBounds_toArray, List.set_cons_zero, List.set_cons_succ, List.getElem_toArray, List.getElem_cons_zero, List.getElem_cons_succ])
                    first
                    | (refine wpAnyH_take (i := 6) (v := ?_) rfl (by kernel_rfl) (by kernel_rfl) (by kernel_rfl) (fun _ _ _ h => h) (Or.inl ⟨by rfl, ?_⟩) hS ?_; rotate_left; (· (intro y hy; (try dsimp only at hy); go_simp; try with_reducible rfl)); try simp only [Act.put, List.setIfInBounds_toArray, List.set_cons_zero, List.set_cons_succ, List.getElem_toArray, List.getElem_cons_zero, List.getElem_cons_succ])
                    | (refine wpAnyH_take (i := 6) (v := undef) rfl (by kernel_rfl) (by kernel_rfl) (by kernel_rfl) (fun _ _ _ h => h) (Or.inr ⟨by rfl, rfl⟩) hS ?_; try simp only [Act.put, List.setIfInBounds_toArray, List.set_cons_zero, List.set_cons_succ, List.getElem_toArray, List.getElem_cons_zero, List.getElem_cons_succ])
                    first
                    | (refine wpAnyH_take (i := 7) (v := ?_) rfl (by kernel_rfl) (by kernel_rfl) (by kernel_rfl) (fun _ _ _ h => h) (Or.inl ⟨by rfl, ?_⟩) hS ?_; rotate_left; (· (intro y hy; (try dsimp only at hy); go_simp; try with_reducible rfl)); try simp only [Act.put, List.setIfInBounds_toArray, List.set_cons_zero, List.set_cons_succ, List.getElem_toArray, List.getElem_cons_zero, List.getElem_cons_succ])
                    | (refine wpAnyH_take (i := 7) (v := undef) rfl (by kernel_rfl) (by kernel_rfl) (by kernel_rfl) (fun _ _ _ h => h) (Or.inr ⟨by rfl, rfl⟩) hS ?_; try simp only [Act.put, List.setIfInBounds_toArray, List.set_cons_zero, List.set_cons_succ, List.getElem_toArray, List.getElem_cons_zero, List.getElem_cons_succ])
                    first
                    | (refine wpAnyH_take (i := 8) (v := ?_) rfl (by kernel_rfl) (by kernel_rfl) (by kernel_rfl) (fun _ _ _ h => h) (Or.inl ⟨by rfl, ?_⟩) hS ?_; rotate_left; (· (intro y hy; (try dsimp only at hy); go_simp; try with_reducible rfl)); try simp only [Act.put, List.setIfInBounds_toArray, List.set_cons_zero, List.set_cons_succ, List.getElem_toArray, List.getElem_cons_zero, List.getElem_cons_succ])
                    | (refine wpAnyH_take (i := 8) (v := undef) rfl (by kernel_rfl) (by kernel_rfl) (by kernel_rfl) (fun _ _ _ h => h) (Or.inr ⟨by rfl, rfl⟩) hS ?_; try simp only [Act.put, List.setIfInBounds_toArray, List.set_cons_zero, List.set_cons_succ, List.getElem_toArray, List.getElem_cons_zero, List.getElem_cons_succ])
                    first
                    | (refine wpAnyH_take (i := 9) (v := ?_) rfl (by kernel_rfl) (by kernel_rfl) (by kernel_rfl) (fun _ _ _ h => h) (Or.inl ⟨by rfl, ?_⟩) hS ?_; rotate_left; (· (intro y hy; (try dsimp only at hy); go_simp; try with_reducible rfl)); try simp only [Act.put, List.setIfInBounds_toArray, List.set_cons_zero, List.set_cons_succ, List.getElem_toArray, List.getElem_cons_zero, List.getElem_cons_succ])
                    | (refine wpAnyH_take (i := 9) (v := undef) rfl (by kernel_rfl) (by kernel_rfl) (by kernel_rfl) (fun _ _ _ h => h) (Or.inr ⟨by rfl, rfl⟩) hS ?_; try simp only [Act.put, List.setIfInBounds_toArray, List.set_cons_zero, List.set_cons_succ, List.getElem_toArray, List.getElem_cons_zero, List.getElem_cons_succ])
                    first
                    | (refine wpAnyH_take (i := 10) (v := ?_) rfl (by kernel_rfl) (by kernel_rfl) (by kernel_rfl) (fun _ _ _ h => h) (Or.inl ⟨by rfl, ?_⟩) hS ?_; rotate_left; (· (intro y hy; (try dsimp only at hy); go_simp; try with_reducible rfl)); try simp only [Act.put, List.setIfInBounds_toArray, List.set_cons_zero, List.set_cons_succ, List.getElem_toArray, List.getElem_cons_zero, List.getElem_cons_succ])
                    | (refine wpAnyH_take (i := 10) (v := undef) rfl (by kernel_rfl) (by kernel_rfl) (by kernel_rfl) (fun _ _ _ h => h) (Or.inr ⟨by rfl, rfl⟩) hS ?_; try simp only [Act.put, List.setIfInBounds_toArray, List.set_cons_zero, List.set_cons_succ, List.getElem_toArray, List.getElem_cons_zero, List.getElem_cons_succ])
                    first
                    | (refine wpAnyH_take (i := 11) (v := ?_) rfl (by kernel_rfl) (by kernel_rfl) (by kernel_rfl) (fun _ _ _ h => h) (Or.inl ⟨by rfl, ?_⟩) hS ?_; rotate_left; (· (intro y hy; (try dsimp only at hy); go_simp; try with_reducible rfl)); try simp only [Act.put, List.setIfInBounds_toArray, List.set_cons_zero, List.set_cons_succ, List.getElem_toArray, List.getElem_cons_zero, List.getElem_cons_succ])
                    | (refine wpAnyH_take (i := 11) (v := undef) rfl (by kernel_rfl) (by kernel_rfl) (by kernel_rfl) (fun _ _ _ h => h) (Or.inr ⟨by rfl, rfl⟩) hS ?_; try simp only [Act.put, List.setIfInBounds_toArray, List.set_cons_zero, List.set_cons_succ, List.getElem_toArray, List.getElem_cons_zero, List.getElem_cons_succ])
                    refine wpAnyH_done (by kernel_rfl) ?_ _
                    clear hS
                    go_wp2
                    go_roundw
                    case rel => exact ⟨t + 1, by omega, by go_num, hbz.drew⟩
                    case measure => simp [intOf]; omega
                  · go_wp2
                    go_roundw
                    case rel => exact ⟨j + 1, by omega, by go_num, hbd.trans (hbz.mono hbd.size)⟩
                    case measure => simp [intOf]; omega
              -- E]
              · go_wp2
                go_ret
                exact ⟨rfl, hB.trans (hbq.mono hB.size)⟩

set_option maxRecDepth 100000 in
theorem lifted (os : Os) (started : os.Started) (H : Type) (enc : TypeId × Value → H) :
    ReturnsInHanded {} Try.checked os 4 .any (Rows.moverOnSpec.pre6 enc Try.prog Try.f4 Rows.moverOnRow.domain false) (Rows.moverOnSpec.post enc Try.prog Try.f4 false true false false) := by
  refine returnsInHanded_of_change (C := Try.checked) own started (by kernel_rfl) Try.func4
    (ChangeSpec.witness6 (enc := enc) (C := Try.checked) false ⟨#[], #[.slice none 0 0], []⟩ 8 (by kernel_rfl) (by kernel_rfl) (by kernel_rfl) (by kernel_rfl)) ?_
  intro W base args ds gs before hval0 hW hcnd _
  have hval : ∀ (j : Nat) t v, Try.f4.params[j]? = some t → args[j]? = some v → Value.okWide Try.prog W .any base t v := hval0
  have hW' := hW
  obtain ⟨p, q, hA0, hV, rfl, hfz, hnd⟩ := hW
  have hA : DataW.TrodAll enc Try.prog W 0 (fun _ => true) true Try.f4.params.toList args.toList ds p := hA0
  rw [Try.params4] at hA hval
  obtain ⟨v0, vs0, d0, ds0, p0, q0, hargs, rfl, rfl, h0, r0⟩ := trodAll_cons hA
  obtain ⟨rfl, rfl, rfl⟩ := trodAll_nil r0
  obtain rfl : args = #[v0] := by cases args; simp_all
  obtain ⟨rfl, rfl⟩ := trodVars_none hV
  obtain ⟨a0, len0, cap0, rfl⟩ := okWide_slice Try.underlying22 (hval 0 22 v0 rfl rfl)
  have k0 := h0
  have lt0 : ∀ x ∈ p0, x.block < W.heap.size := by obtain ⟨m, hm⟩ := k0; exact DataW.trod_lt m _ _ _ hm
  obtain ⟨y0, y0p⟩ := open_nests (n := 8) (ks := rawKinds) Try.underlying22 (by kernel_rfl) (by kernel_rfl) (by decide) h0
  obtain ⟨z0, w0⟩ := raws_of_nest y0p
  clear hA0 hval0
  refine (walk a0 len0 cap0 z0 W w0).mono fun e W' ⟨he, bel⟩ => ?_
  subst he
  exact ⟨_, rfl, _, _, _, [], _, [], hW', trodAll_mk1 (shut_bool Try.underlying4 _), (trodAll_cons_mk (Below.trod laidOut (by kernel_rfl) (of_decide_eq_true (by kernel_rfl)) k0 bel lt0) trodAll_mk0), rfl, bel.frame _, fun h => by cases h⟩

theorem over : Rows.moverOnRow.holds Try.pinned (OpenSpec.ofChange Rows.moverOnSpec) :=
  OpenClaim.holds_of_wide 4 Try.f4 rfl rfl rfl rfl rfl rfl rfl ⟨rfl, rfl, rfl, rfl, rfl⟩ rfl rfl rfl rfl rfl (by kernel_rfl) Try.func4 (by kernel_rfl)
    (of_decide_eq_true (by kernel_rfl)) (by unfold Func.isWrapper; first | (rw [if_pos (by decide +kernel)]; kernel_rfl) | (rw [if_neg (by decide +kernel)]; exact ⟨rfl, rfl⟩))
    (fun os started H enc _ => lifted os started H enc)

theorem proved : Rows.MoverOnSaid := over
#print axioms proved

end Go.Proofs.Ytpmkkmjnneikpaa.moverOn
