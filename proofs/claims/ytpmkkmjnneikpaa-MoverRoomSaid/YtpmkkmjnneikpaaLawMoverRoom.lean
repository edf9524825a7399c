/- For every raw objects, every one of them and every space that is too small for it: nothing is copied, and nothing changed: the law MoverRoom returns true and its arguments read as they did. No condition. -/
import Derived.Test.YtpmkkmjnneikpaaMoverLay
namespace Go.Proofs.Ytpmkkmjnneikpaa.moverRoom
open Go.ChangeShapes Go.WideShapes Go.ChangeAt Go.RowKit
set_option linter.unusedVariables false
set_option linter.unusedSimpArgs false

set_option maxRecDepth 100000 in
set_option maxHeartbeats 8000000 in
theorem walk (a0 : Option Addr) (len0 cap0 : Nat) (z0 : Nat → RawN) (a1 a2 : Int) (w : World) (hR : RawsAt w.heap.size w a0 len0 z0)
    (w1 : -9223372036854775808 ≤ a1 ∧ a1 ≤ 9223372036854775807) (w2 : -9223372036854775808 ≤ a2 ∧ a2 ≤ 9223372036854775807) :
    Calls Try.prog 3 #[.slice a0 len0 cap0, .int .i64 a1, .int .i64 a2] w fun e w' => e = .returned (.bool true) ∧ Below w.heap.size w w' := by
  obtain ⟨i0, hi, hz0, hz1, hz2⟩ := info_parts infoU64
  go_enter Try.func3, Try.ntmps3
  go_wp2_with fail
  refine (awake_yes _).mono ?_
  rintro e x ⟨rfl, hB⟩
  go_wp2_with fail
  refine (new_any 400 _ (by omega) (by omega)).mono ?_
  rintro e x1 ⟨P, b, rfl, hA, hP, hb, hn⟩
  have hxs := hB.size
  have hwb : w.heap.size ≤ b := by omega
  replace hB := hB.trans (hn.mono hB.size)
  clear hn hP hb hxs
  have M1 := lay_any w.heap.size P b 400 len0 cap0 a0 z0 _ x1 hA List.length_replicate (by omega) hwb hB.size (hR.below hB)
  clear hA hR
  go_wp2_with fail
  refine M1.mono ?_
  rintro e x2 ⟨sv, m, os, l, rfl, hm, hA, hl, hobs, hoff, hown, hc⟩
  have hx12 := hc.size
  have hxb := hB.size
  replace hB := hB.trans (hc.below (fun k e => by omega) hB.size)
  clear hc M1
  rw [valsN_eq] at hown
  by_cases hm0 : m = 0
  · subst hm0
    obtain ⟨sa, sc, rfl⟩ : ∃ a c, sv = .slice a 0 c := by
      rcases hown.2 with ⟨rfl, h⟩ | ⟨g, cap, cur, rfl, _⟩
      · exact ⟨none, 0, rfl⟩
      · exact ⟨_, _, rfl⟩
    go_wp2
    go_ret
    exact ⟨rfl, hB⟩
  · obtain ⟨g, cap, rfl, hg0, hg1, hg2, hg3, hg4, hgc⟩ := own_cell hown (by omega)
    clear hown
    go_wp2_with fail
    refine (pick_nat a1 m _ w1.1 w1.2 (by omega) (by omega)).mono ?_
    rintro e x ⟨k, hk, rfl, rfl⟩
    have c1 := hgc k hk
    rw [show ((plc os 1 m).map fun x : Nat => (x : Int)).getD k 0 = ((1 + off os k : Nat) : Int) from by unfold plc; simp [List.getD, hk]] at c1
    have O := hobs k hk
    have r1 := O.ptrs
    have r2 := O.data
    have hrm := O.room
    obtain ⟨u, hu⟩ : ∃ u, 1 + off os k = u := ⟨_, rfl⟩
    rw [hu] at c1 O hrm
    generalize (os k).p = p at *
    generalize (os k).d = d at *
    generalize (os k).wk = wk at *
    generalize (os k).fn = fn at *
    generalize (os k).fr = fr at *
    have i1 : IntKind.i64.wrap (3 + (p : Int)) = 3 + (p : Int) := IntWalk.i64_in _ (by omega)
    obtain ⟨q, hq⟩ : ∃ q, 3 + p + d = q := ⟨_, rfl⟩
    have i2 : IntKind.i64.wrap (3 + (p : Int) + (d : Int)) = (q : Int) := by rw [IntWalk.i64_in _ (by omega)]; omega
    have j0 : (0 : Int) ≤ (k : Int) := by omega
    have j1 : (k : Int) < (m : Int) := by omega
    have hq19 : 3 ≤ q ∧ q ≤ 19 := by omega
    have HC := fun y z (hy : ArenaAt 59 y P b l) (hz : z < q) => copy_room u 200 z 200 y hy O ⟨by omega, by omega, by omega, by omega⟩ (by have := Cls.rd_ge (m := 3 + p + d) (by omega); omega)
    have HS := fun y (hy : ArenaAt 59 y P b l) => shape_at u y hy O
    have HT := fun y (hy : ArenaAt 59 y P b l) => at_obj u y hy O
    clear hq hu O hgc hobs hoff
    go_wp2_with fail
    refine (HS _ hA).mono ?_
    rintro e x ⟨rfl, hb⟩
    replace hA := hA.below hb hA.lt.1 hA.lt.2
    replace hB := hB.trans (hb.mono hB.size)
    clear hb HS c1
    have k12 := BlkIs.new x #[.int .i64 p, .int .i64 d, .bool wk, .bool fn] 32
    have ho := (Below.refl x.heap.size x).alloc (Nat.le_refl _) (.cells #[.int .i64 p, .int .i64 d, .bool wk, .bool fn] 32)
    have hAl := hA.lt
    replace hA := hA.below ho hAl.1 hAl.2
    replace hB := hB.trans (ho.mono hB.size)
    clear ho hAl
    go_wp2_with fail
    generalize x.alloc (.cells #[.int .i64 p, .int .i64 d, .bool wk, .bool fn] 32) = y at *
    generalize x.heap.size = g12 at *
    refine (pick_nat a2 q _ w2.1 w2.2 (by omega) (by omega)).mono ?_
    rintro e x3 ⟨z, hz, rfl, rfl⟩
    go_wp2_with fail
    refine (make_ok 200 z ⟨by omega, by omega, by omega, by omega⟩ _).mono ?_
    rintro e x3 ⟨rfl, hb⟩
    replace hA := hA.below hb hA.lt.1 hA.lt.2
    replace hB := hB.trans (hb.mono hB.size)
    clear hb k12
    have k15 := BlkIs.new x3 #[.int .i64 200, .int .i64 z, .int .i64 200] 36
    have ho := (Below.refl x3.heap.size x3).alloc (Nat.le_refl _) (.cells #[.int .i64 200, .int .i64 z, .int .i64 200] 36)
    have hAl := hA.lt
    replace hA := hA.below ho hAl.1 hAl.2
    replace hB := hB.trans (ho.mono hB.size)
    clear ho hAl
    go_wp2_with fail
    obtain ⟨q15, hq15⟩ : ∃ q, x3.heap.size = q := ⟨_, rfl⟩
    rw [hq15] at k15 ⊢
    generalize x3.alloc (.cells #[.int .i64 200, .int .i64 z, .int .i64 200] 36) = wo at *
    obtain ⟨B2, hB2⟩ : ∃ B2, wo.heap.size = B2 := ⟨_, rfl⟩
    have HB2 := Lib.hid (show wo.heap.size = B2 ∧ q15 < B2 ∧ w.heap.size ≤ B2 from ⟨hB2, by have := k15.lt; omega, by have := hB.size; omega⟩)
    have hAo := hA.lt
    rw [hB2] at hAo
    clear hB2 hq15 x3 y x
    go_loopw [17, 18] (fun v i wr => ∃ j : Nat, j ≤ 400 ∧ i = .int .i64 j ∧ wr.ownsRow B2 40 1 v j ((l.take j).map (Value.int .u64)) ∧ Chg (fun c => B2 ≤ c) wo wr) (fun _ i _ => 400 - (intOf i).toNat)
    case atStart => exact ⟨0, by omega, rfl, World.ownsRow_nil _ _ _ _, Chg.refl _ _⟩
    case round =>
      obtain ⟨j, hj, rfl, hown, hch⟩ := hrel
      have hA1 := hA.chg hch (by omega) (by omega)
      have hbase : B2 ≤ wr.heap.size := by have := hch.size; have := HB2.out; omega
      by_cases hlt : j < 400
      · have M1 := load_there j _ hA1 (by omega)
        have Hs := Lib.hid (take_snoc_int (l := l) (j := j) (by omega) (Value.int .u64))
        obtain ⟨y, hy⟩ : ∃ y, l.getD j 0 = y := ⟨_, rfl⟩
        rw [hy] at Hs M1
        clear hy
        go_wp2_with fail
        refine M1.mono ?_
        rintro e w' ⟨rfl, rfl⟩
        clear M1
        go_wp2_with (at_builtin; refine wpList_append_own _ rfl _ _ 39 rfl B2 40 i0 (.int .u64 0) 1 8 Try.underlying39 hi hz0 hz1 hz2 rfl (by decide) u17 _ _ rfl (hown.alloc _) ⟨wr.heap.size, 0, none⟩ 1 1 [.int .u64 y] rfl rfl (cell_one_new _ _ _) (by simp [Value.oneCell']) (by unfold maxLen; omega) (by omega) (by simp; omega) ?_; intro v' w2 hown2 hgr hnil)
        go_roundw
        case rel => exact ⟨j + 1, by omega, by go_num, by rw [Hs.out] at hown2; exact hown2, (hch.alloc _).trans (chg_of_append (hown.alloc _) hgr)⟩
        case measure => simp [intOf]; omega
      · obtain rfl : j = 400 := by omega
        rw [List.take_of_length_le (by omega)] at hown
        obtain ⟨g, cp, rfl, hg0, hg1, hg2, hg3, hg4, hgc⟩ := own_cell hown (by omega)
        replace hB := hB.trans (hch.below (fun k e => by have := HB2.out; omega) hB.size)
        replace k15 := k15.chg hch (by have := HB2.out; omega)
        have hgb : ¬ g = b := by omega
        have Hgc := Lib.hid hgc
        clear hown hch hA hgc
        obtain ⟨⟨c0, c1, c2⟩, -⟩ := blk3 k15
        go_wp2_with fail
        refine (HC _ z hA1 hz).mono ?_
        rintro e y1 ⟨rfl, hb⟩
        have hA2 := hA1.below hb hA1.lt.1 hA1.lt.2
        replace hB := hB.trans (hb.mono hB.size)
        replace k15 := k15.on hb
        have hg1' : g < y1.heap.size := Nat.lt_of_lt_of_le hg1 hb.size
        have Hgc2 : Hid (∀ j, j < 400 → y1.cell? ⟨g, j, none⟩ = some (.int .u64 (l.getD j 0))) := Lib.hid (fun j hj => (hb.cell (p := ⟨g, j, none⟩) hg1).trans (Hgc.out j hj))
        clear hb hA1 c0 c1 c2 Hgc hg1 hj hlt HC
        obtain ⟨⟨c0, c1, c2⟩, -⟩ := blk3 k15
        have l15 := k15.lt
        have hBa := hB.alloc hB.size (.cells #[.int .i64 200, .int .i64 z, .int .i64 200] 36)
        have hAa := hA2.below ((Below.refl y1.heap.size y1).alloc (Nat.le_refl _) (.cells #[.int .i64 200, .int .i64 z, .int .i64 200] 36)) hA2.lt.1 hA2.lt.2
        have Hgc : Hid (∀ j, j < 400 → (y1.alloc (.cells #[.int .i64 200, .int .i64 z, .int .i64 200] 36)).cell? ⟨g, j, none⟩ = some (.int .u64 (l.getD j 0))) := Lib.hid (fun j hj => (((Below.refl y1.heap.size y1).alloc (Nat.le_refl _) _).cell (p := ⟨g, j, none⟩) hg1').trans (Hgc2.out j hj))
        clear Hgc2
        go_wp2_with fail
        generalize y1.alloc (.cells #[.int .i64 200, .int .i64 z, .int .i64 200] 36) = w4 at *
        clear c0 c1 c2 l15 k15 hA2 hB hg1'
        go_loop [24] (fun i => ∃ j : Nat, j ≤ 400 ∧ i = .int .i64 j) (fun i => 400 - (intOf i).toNat)
        case atStart => exact ⟨0, by omega, rfl⟩
        case round =>
          obtain ⟨j, hj, rfl⟩ := hrel
          by_cases hlt : j < 400
          · have M1 := load_there j _ hAa (by omega)
            have c5 := Hgc.out j hlt
            generalize l.getD j 0 = y at *
            have b0 : (0 : Int) ≤ (j : Int) := by omega
            have b1 : (j : Int) < 400 := by omega
            go_wp2_with fail
            refine M1.mono ?_
            rintro e w' ⟨rfl, rfl⟩
            clear M1
            go_wp2
            go_round
            case rel => exact ⟨j + 1, by omega, by go_num⟩
            case measure => simp [intOf]; omega
          · have M1 := HT _ hAa
            go_wp2_with fail
            refine M1.mono ?_
            rintro e w' ⟨rfl, hb⟩
            go_wp2
            go_ret
            exact ⟨rfl, hBa.trans (hb.mono hBa.size)⟩

set_option maxRecDepth 100000 in
theorem lifted (os : Os) (started : os.Started) (H : Type) (enc : TypeId × Value → H) :
    ReturnsInHanded {} Try.checked os 3 .any (Rows.moverRoomSpec.pre6 enc Try.prog Try.f3 Rows.moverRoomRow.domain false) (Rows.moverRoomSpec.post enc Try.prog Try.f3 false true false false) := by
  refine returnsInHanded_of_change (C := Try.checked) own started (by kernel_rfl) Try.func3
    (ChangeSpec.witness6 (enc := enc) (C := Try.checked) false ⟨#[], #[.slice none 0 0, .int .i64 0, .int .i64 0], []⟩ 8 (by kernel_rfl) (by kernel_rfl) (by kernel_rfl) (by kernel_rfl)) ?_
  intro W base args ds gs before hval0 hW hcnd _
  have hval : ∀ (j : Nat) t v, Try.f3.params[j]? = some t → args[j]? = some v → Value.okWide Try.prog W .any base t v := hval0
  have hW' := hW
  obtain ⟨p, q, hA0, hV, rfl, hfz, hnd⟩ := hW
  have hA : DataW.TrodAll enc Try.prog W 0 (fun _ => true) true Try.f3.params.toList args.toList ds p := hA0
  rw [Try.params3] at hA hval
  obtain ⟨v0, vs0, d0, ds0, p0, q0, hargs, rfl, rfl, h0, r0⟩ := trodAll_cons hA
  obtain ⟨v1, vs1, d1, ds1, p1, q1, rfl, rfl, rfl, h1, r1⟩ := trodAll_cons r0
  obtain ⟨v2, vs2, d2, ds2, p2, q2, rfl, rfl, rfl, h2, r2⟩ := trodAll_cons r1
  obtain ⟨rfl, rfl, rfl⟩ := trodAll_nil r2
  obtain rfl : args = #[v0, v1, v2] := by cases args; simp_all
  obtain ⟨rfl, rfl⟩ := trodVars_none hV
  obtain ⟨a0, len0, cap0, rfl⟩ := okWide_slice Try.underlying22 (hval 0 22 v0 rfl rfl)
  have k0 := h0
  have lt0 : ∀ x ∈ p0, x.block < W.heap.size := by obtain ⟨m, hm⟩ := k0; exact DataW.trod_lt m _ _ _ hm
  obtain ⟨y0, y0p⟩ := open_nests (n := 8) (ks := rawKinds) Try.underlying22 (by kernel_rfl) (by kernel_rfl) (by decide) h0
  obtain ⟨z0, w0⟩ := raws_of_nest y0p
  obtain ⟨a1, rfl, rfl, rfl, w1⟩ := open_int Try.underlying3 (hval 1 3 v1 rfl rfl) h1
  obtain ⟨a2, rfl, rfl, rfl, w2⟩ := open_int Try.underlying3 (hval 2 3 v2 rfl rfl) h2
  clear hA0 hval0
  refine (walk a0 len0 cap0 z0 a1 a2 W w0 (bounds_i64 w1) (bounds_i64 w2)).mono fun e W' ⟨he, bel⟩ => ?_
  subst he
  exact ⟨_, rfl, _, _, _, [], _, [], hW', trodAll_mk1 (shut_bool Try.underlying4 _), (trodAll_cons_mk (Below.trod laidOut (by kernel_rfl) (of_decide_eq_true (by kernel_rfl)) k0 bel lt0) (trodAll_cons_mk (shut_int Try.underlying3 w1) (trodAll_cons_mk (shut_int Try.underlying3 w2) trodAll_mk0))), rfl, bel.frame _, fun h => by cases h⟩

theorem over : Rows.moverRoomRow.holds Try.pinned (OpenSpec.ofChange Rows.moverRoomSpec) :=
  OpenClaim.holds_of_wide 3 Try.f3 rfl rfl rfl rfl rfl rfl rfl ⟨rfl, rfl, rfl, rfl, rfl⟩ rfl rfl rfl rfl rfl (by kernel_rfl) Try.func3 (by kernel_rfl)
    (of_decide_eq_true (by kernel_rfl)) (by unfold Func.isWrapper; first | (rw [if_pos (by decide +kernel)]; kernel_rfl) | (rw [if_neg (by decide +kernel)]; exact ⟨rfl, rfl⟩))
    (fun os started H enc _ => lifted os started H enc)

theorem proved : Rows.MoverRoomSaid := over
#print axioms proved

end Go.Proofs.Ytpmkkmjnneikpaa.moverRoom
