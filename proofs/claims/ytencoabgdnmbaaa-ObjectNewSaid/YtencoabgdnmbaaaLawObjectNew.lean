/- For every three numbers, place and serial: an object that is laid is not freed, nobody's, of the version 0, all its fields are 0, and it is laid where there are enough words, and nowhere else: the law ObjectNew returns true and its arguments read as they did. No condition. -/
import Derived.Test.YtencoabgdnmbaaaObjLaw
namespace Go.Proofs.Ytencoabgdnmbaaa.objectNew
open Go.ChangeShapes Go.WideShapes Go.ChangeAt Go.RowKit
set_option linter.unusedVariables false
set_option linter.unusedSimpArgs false

theorem filled_at (j : Nat) (h : j < 40) : (List.replicate 40 (12345 : Int)).getD j 0 = 12345 := by
  rw [List.getD_eq_getElem?_getD, List.getElem?_replicate_of_lt h]; rfl

set_option maxRecDepth 100000 in
theorem filled : fillV (List.replicate 40 0) 0 40 12345 = List.replicate 40 (12345 : Int) ∧ errV (List.replicate 40 (0 : Int)).length 0 40 = 0 := by decide

set_option maxRecDepth 100000 in
set_option maxHeartbeats 4000000 in
theorem walk (a0x0 a0x1 a0x2 a1 a2 : Int) (w : World) (w0 : -9223372036854775808 ≤ a0x0 ∧ a0x0 ≤ 9223372036854775807) (w1 : -9223372036854775808 ≤ a0x1 ∧ a0x1 ≤ 9223372036854775807) (w2 : -9223372036854775808 ≤ a0x2 ∧ a0x2 ≤ 9223372036854775807)
    (w3 : -9223372036854775808 ≤ a1 ∧ a1 ≤ 9223372036854775807) (w4 : -9223372036854775808 ≤ a2 ∧ a2 ≤ 9223372036854775807) :
    Calls Try.prog 4 #[.agg #[.int .i64 a0x0, .int .i64 a0x1, .int .i64 a0x2], .int .i64 a1, .int .i64 a2] w fun e w' => e = .returned (.bool true) ∧ Below w.heap.size w w' := by
  obtain ⟨p, d, wk, fn, F⟩ := fit_sh a0x0 a0x1 a0x2 w0 w1 w2
  obtain ⟨r1, p1, d1, HF⟩ := F
  obtain ⟨q, hq⟩ : ∃ q, 3 + p + d = q := ⟨_, rfl⟩
  have i1 : IntKind.i64.wrap (3 + (p : Int)) = 3 + (p : Int) := IntWalk.i64_in _ (by omega)
  have i2 : IntKind.i64.wrap (3 + (p : Int) + (d : Int)) = (q : Int) := by rw [IntWalk.i64_in _ (by omega)]; omega
  clear w0 w1 w2
  go_enter Try.func4, Try.ntmps4
  go_wp2_with fail
  have h3 := BlkIs.new w #[.int .i64 a0x0, .int .i64 a0x1, .int .i64 a0x2] 22
  have hB := (Below.refl _ w).alloc (Nat.le_refl _) (.cells #[.int .i64 a0x0, .int .i64 a0x1, .int .i64 a0x2] 22)
  refine (awake_yes _).mono ?_
  rintro e x ⟨rfl, hb⟩
  replace h3 := h3.on hb
  replace hB := hB.trans (hb.mono hB.size)
  clear hb
  go_wp2_with fail
  refine (new_any 40 _ (by omega) (by omega)).mono ?_
  rintro e x1 ⟨P, b, rfl, hA, hP, hb, hn⟩
  have h3b : ¬ w.heap.size = b := by have := h3.lt; omega
  have hwb : w.heap.size ≤ b := by have := h3.lt; omega
  replace h3 := h3.on hn
  replace hB := hB.trans (hn.mono hB.size)
  clear hn hP hb
  have M1 := fill_any 0 40 12345 x1 hA (by decide) (by decide) (by decide) (by decide) (by decide)
  rw [filled.1, filled.2] at M1
  go_wp2_with fail
  refine M1.mono ?_
  rintro e x2 ⟨rfl, hA2, hc⟩
  replace h3 := h3.chg hc h3b
  replace hB := hB.trans (hc.below (fun k e => by omega) hB.size)
  clear hc M1 hA
  obtain ⟨c0, c1, c2, l2⟩ := h3.facts3
  go_wp2_with fail
  refine (HF _).mono ?_
  rintro e x3 ⟨rfl, hb⟩
  replace hA2 := hA2.below hb hA2.lt.1 hA2.lt.2
  replace hB := hB.trans (hb.mono hB.size)
  clear hb h3 c0 c1 c2 l2
  go_wp2_with fail
  have h10 := BlkIs.new x3 #[.int .i64 p, .int .i64 d, .bool wk, .bool fn] 27
  have ho := (Below.refl x3.heap.size x3).alloc (Nat.le_refl _) (.cells #[.int .i64 p, .int .i64 d, .bool wk, .bool fn] 27)
  have hltA := hA2.lt
  obtain ⟨g, eg⟩ : ∃ k, x3.heap.size = k := ⟨_, rfl⟩
  have hgb : ¬ g = b := by omega
  obtain ⟨x4, e4⟩ : ∃ x, x3.alloc (.cells #[.int .i64 p, .int .i64 d, .bool wk, .bool fn] 27) = x := ⟨_, rfl⟩
  rw [e4] at h10 ho ⊢
  replace hA := hA2.below ho hltA.1 hltA.2
  replace hB := hB.trans (ho.mono hB.size)
  rw [eg] at h10 ⊢
  clear ho hltA eg e4 hA2 x x1 x2 x3
  refine (pick_nat _ 44 _ w3.1 w3.2 (by omega) (by omega)).mono ?_
  rintro e x5 ⟨k, hk, rfl, rfl⟩
  obtain ⟨⟨c0, c1, c2, c3⟩, f0, f1, f2, f3, l1⟩ := h10.facts4
  go_wp2_with fail
  refine (pick_nat _ 1099511627777 _ w4.1 w4.2 (by omega) (by omega)).mono ?_
  rintro e x5 ⟨m, hm, rfl, rfl⟩
  have i3 : IntKind.i64.wrap ((k : Int) + (q : Int)) = (k : Int) + (q : Int) := IntWalk.i64_in _ (by omega)
  have hl0 : (List.replicate 40 (12345 : Int)).length = 40 := List.length_replicate
  by_cases hfit : k + q ≤ 40
  · have M1 := make_yes k m x4 hA r1 p1 d1 (by omega) (by omega)
    have i4 : decide ((40 : Int) < (k : Int) + (q : Int)) = false := decide_eq_false (by omega)
    have hO := madeL_obj (l := List.replicate 40 12345) (a := k) m r1 p1 d1 (by omega)
    have hL : ∀ j, j < 40 → (madeL (List.replicate 40 12345) k p d wk fn m).getD j 0 = if j = k + 2 then (m : Int) else if j = k then ((headN p d wk fn false : Nat) : Int) else if k ≤ j ∧ j < k + q then 0 else 12345 := fun j hj => by
      rw [madeL_at (by omega), filled_at j hj, hq]
    have hll : (madeL (List.replicate 40 12345) k p d wk fn m).length = 40 := by rw [madeL_length]; exact hl0
    generalize madeL (List.replicate 40 12345) k p d wk fn m = L at *
    go_wp2_with fail
    refine M1.mono ?_
    rintro e x6 ⟨rfl, hA2, hc⟩
    replace h10 := h10.chg hc hgb
    replace hB := hB.trans (hc.below (fun k e => by omega) hB.size)
    clear hc M1 hA c0 c1 c2 c3 f0 f1 f2 f3 l1
    obtain ⟨⟨c0, c1, c2, c3⟩, f0, f1, f2, f3, l1⟩ := h10.facts4
    have M1 := make_arg (P := P) (k : Int) (-1) x6 r1 p1 d1 (by omega)
    go_wp2_with fail
    refine M1.mono ?_
    rintro e x7 ⟨rfl, hb⟩
    replace h10 := h10.on hb
    replace hA2 := hA2.below hb hA2.lt.1 hA2.lt.2
    replace hB := hB.trans (hb.mono hB.size)
    clear hb M1 c0 c1 c2 c3 f0 f1 f2 f3 l1
    obtain ⟨⟨c0, c1, c2, c3⟩, f0, f1, f2, f3, l1⟩ := h10.facts4
    have M1 := make_arg (P := P) (k : Int) 1099511627777 x7 r1 p1 d1 (by omega)
    go_wp2_with fail
    refine M1.mono ?_
    rintro e x8 ⟨rfl, hb⟩
    replace h10 := h10.on hb
    replace hA2 := hA2.below hb hA2.lt.1 hA2.lt.2
    replace hB := hB.trans (hb.mono hB.size)
    clear hb M1 c0 c1 c2 c3 f0 f1 f2 f3 l1
    have M1 := second_at k x8 hA2 hO
    rw [hL (k + 1) (by omega), if_neg (by omega), if_neg (by omega), if_pos (by omega)] at M1
    go_wp2_with fail
    refine M1.mono ?_
    rintro e x9 ⟨rfl, hb⟩
    replace h10 := h10.on hb
    replace hA2 := hA2.below hb hA2.lt.1 hA2.lt.2
    replace hB := hB.trans (hb.mono hB.size)
    clear hb M1
    have M1 := serial_at k x9 hA2 hO (by rw [hL (k + 2) (by omega), if_pos rfl]; omega)
    rw [hL (k + 2) (by omega), if_pos rfl] at M1
    go_wp2_with fail
    refine M1.mono ?_
    rintro e x10 ⟨rfl, hb⟩
    replace h10 := h10.on hb
    replace hA2 := hA2.below hb hA2.lt.1 hA2.lt.2
    replace hB := hB.trans (hb.mono hB.size)
    clear hb M1
    have M1 := shape_at k x10 hA2 hO
    go_wp2_with fail
    refine M1.mono ?_
    rintro e x11 ⟨rfl, hb⟩
    replace hA2 := hA2.below hb hA2.lt.1 hA2.lt.2
    replace hB := hB.trans (hb.mono hB.size)
    clear hb M1 h10
    have ho := (Below.refl x11.heap.size x11).alloc (Nat.le_refl _) (.cells #[.int .i64 p, .int .i64 d, .bool wk, .bool fn] 27)
    replace hA := hA2.below ho hA2.lt.1 hA2.lt.2
    replace hB := hB.trans (ho.mono hB.size)
    clear ho hA2
    go_wp2
    have HL := Lib.hid hL
    clear hL hO
    have i5 : IntKind.i64.wrap ((q : Int) - 3) = ((q - 3 : Nat) : Int) := by rw [IntWalk.i64_in _ (by omega)]; omega
    obtain ⟨n, hn⟩ : ∃ n, q - 3 = n := ⟨_, rfl⟩
    rw [hn] at i5
    have i6 : IntKind.i64.wrap ((k : Int) + 3) = (k : Int) + 3 := IntWalk.i64_in _ (by omega)
    go_loop [24] (fun i => ∃ j : Nat, j ≤ n ∧ i = .int .i64 j) (fun i => n - (intOf i).toNat)
    case atStart => exact ⟨0, by omega, rfl⟩
    case round =>
      obtain ⟨j, hj, rfl⟩ := hrel
      by_cases hlt : j < n
      · have i7 : IntKind.i64.wrap ((k : Int) + 3 + (j : Int)) = ((k + 3 + j : Nat) : Int) := by rw [IntWalk.i64_in _ (by omega)]; omega
        have M1 := load_there (k + 3 + j) _ hA (by omega)
        rw [HL.out (k + 3 + j) (by omega), if_neg (by omega), if_neg (by omega), if_pos (by omega)] at M1
        obtain ⟨z, hz⟩ : ∃ z, k + 3 + j = z := ⟨_, rfl⟩
        rw [hz] at i7 M1
        clear hz
        go_wp2_with fail
        refine M1.mono ?_
        rintro e x ⟨rfl, rfl⟩
        clear M1
        go_wp2
        go_round
        case rel => exact ⟨j + 1, by omega, by go_num⟩
        case measure => simp [intOf]; omega
      · go_wp2
        go_loop [27] (fun i => ∃ j : Nat, j ≤ 40 ∧ i = .int .i64 j) (fun i => 40 - (intOf i).toNat)
        case atStart => exact ⟨0, by omega, rfl⟩
        case round =>
          clear hj hlt
          obtain ⟨j, hj, rfl⟩ := hrel
          by_cases hlt : j < 40
          · have M1 := load_there j _ hA (by omega)
            by_cases hk1 : j < k
            · rw [HL.out j hlt, if_neg (by omega), if_neg (by omega), if_neg (by omega)] at M1
              go_wp2_with fail
              refine M1.mono ?_
              rintro e x ⟨rfl, rfl⟩
              clear M1
              go_wp2
              go_round
              case rel => exact ⟨j + 1, by omega, by go_num⟩
              case measure => simp [intOf]; omega
            · by_cases hk2 : k + q ≤ j
              · rw [HL.out j hlt, if_neg (by omega), if_neg (by omega), if_neg (by omega)] at M1
                go_wp2_with fail
                refine M1.mono ?_
                rintro e x ⟨rfl, rfl⟩
                clear M1
                go_wp2
                go_round
                case rel => exact ⟨j + 1, by omega, by go_num⟩
                case measure => simp [intOf]; omega
              · generalize L.getD j 0 = v at M1
                go_wp2_with fail
                refine M1.mono ?_
                rintro e x ⟨rfl, rfl⟩
                clear M1
                go_wp2
                go_round
                case rel => exact ⟨j + 1, by omega, by go_num⟩
                case measure => simp [intOf]; omega
          · go_wp2
            go_ret
            exact ⟨rfl, hB⟩
  · have M1 := make_addr k m x4 hA r1 p1 d1 (by omega) (by omega) (by omega)
    have i4 : decide ((40 : Int) < (k : Int) + (q : Int)) = true := decide_eq_true (by omega)
    go_wp2_with fail
    refine M1.mono ?_
    rintro e x6 ⟨rfl, hA2, hc⟩
    replace hB := hB.trans (hc.below (fun k e => by omega) hB.size)
    clear hc M1 hA c0 c1 c2 c3 f0 f1 f2 f3 l1 h10
    have M1 := load_there 39 _ hA2 (by omega)
    rw [filled_at 39 (by omega)] at M1
    go_wp2_with fail
    refine M1.mono ?_
    rintro e x ⟨rfl, rfl⟩
    clear M1
    go_wp2
    go_ret
    exact ⟨rfl, hB⟩

set_option maxRecDepth 100000 in
theorem lifted (os : Os) (started : os.Started) (H : Type) (enc : TypeId × Value → H) :
    ReturnsInHanded {} Try.checked os 4 .any (Rows.objectNewSpec.pre6 enc Try.prog Try.f4 Rows.objectNewRow.domain false) (Rows.objectNewSpec.post enc Try.prog Try.f4 false true false false) := by
  refine returnsInHanded_of_change (C := Try.checked) own started (by kernel_rfl) Try.func4
    (ChangeSpec.witness6 (enc := enc) (C := Try.checked) false ⟨#[], #[.agg #[.int .i64 0, .int .i64 0, .int .i64 0], .int .i64 0, .int .i64 0], []⟩ 8 (by kernel_rfl) (by kernel_rfl) (by kernel_rfl) (by kernel_rfl)) ?_
  intro W base args ds gs before hval0 hW hcnd _
  have hval : ∀ (j : Nat) t v, Try.f4.params[j]? = some t → args[j]? = some v → Value.okWide Try.prog W .any base t v := hval0
  have hW' := hW
  obtain ⟨p, q, hA0, hV, rfl, hfz, hnd⟩ := hW
  have hA : DataW.TrodAll enc Try.prog W 0 (fun _ => true) true Try.f4.params.toList args.toList ds p := hA0
  rw [Try.params4] at hA hval
  obtain ⟨v0, vs0, d0, ds0, p0, q0, hargs, rfl, rfl, h0, r0⟩ := trodAll_cons hA
  obtain ⟨v1, vs1, d1, ds1, p1, q1, rfl, rfl, rfl, h1, r1⟩ := trodAll_cons r0
  obtain ⟨v2, vs2, d2, ds2, p2, q2, rfl, rfl, rfl, h2, r2⟩ := trodAll_cons r1
  obtain ⟨rfl, rfl, rfl⟩ := trodAll_nil r2
  obtain rfl : args = #[v0, v1, v2] := by cases args; simp_all
  obtain ⟨rfl, rfl⟩ := trodVars_none hV
  have k0 := h0
  have lt0 : ∀ x ∈ p0, x.block < W.heap.size := by obtain ⟨m, hm⟩ := k0; exact DataW.trod_lt m _ _ _ hm
  have ce0 : Try.prog.cellsOf 3 = 1 := by kernel_rfl
  have cc0 : Try.prog.cellsOf 22 = 3 := by kernel_rfl
  have x0 := open_ints_array Try.underlying22 Try.underlying3 ce0 cc0 (hval 0 22 v0 rfl rfl) h0
  obtain ⟨z0, hl0, hv0, hz0⟩ := x0
  subst hv0
  have y0 := list3 hl0
  obtain ⟨a0x0, a0x1, a0x2, hy0⟩ := y0
  subst hy0
  have w0x0 := bounds_i64 (hz0 a0x0 (by simp))
  have w0x1 := bounds_i64 (hz0 a0x1 (by simp))
  have w0x2 := bounds_i64 (hz0 a0x2 (by simp))
  obtain ⟨a1, rfl, rfl, rfl, w1⟩ := open_int Try.underlying3 (hval 1 3 v1 rfl rfl) h1
  obtain ⟨a2, rfl, rfl, rfl, w2⟩ := open_int Try.underlying3 (hval 2 3 v2 rfl rfl) h2
  clear hA0 hval0
  refine (walk a0x0 a0x1 a0x2 a1 a2 W w0x0 w0x1 w0x2 (bounds_i64 w1) (bounds_i64 w2)).mono fun e W' ⟨he, bel⟩ => ?_
  subst he
  exact ⟨_, rfl, _, _, _, [], _, [], hW', trodAll_mk1 (shut_bool Try.underlying4 _), (trodAll_cons_mk (Below.trod laidOut (by kernel_rfl) (of_decide_eq_true (by kernel_rfl)) k0 bel lt0) (trodAll_cons_mk (shut_int Try.underlying3 w1) (trodAll_cons_mk (shut_int Try.underlying3 w2) trodAll_mk0))), rfl, bel.frame _, fun h => by cases h⟩

theorem over : Rows.objectNewRow.holds Try.pinned (OpenSpec.ofChange Rows.objectNewSpec) :=
  OpenClaim.holds_of_wide 4 Try.f4 rfl rfl rfl rfl rfl rfl rfl ⟨rfl, rfl, rfl, rfl, rfl⟩ rfl rfl rfl rfl rfl (by kernel_rfl) Try.func4 (by kernel_rfl)
    (of_decide_eq_true (by kernel_rfl)) (by unfold Func.isWrapper; first | (rw [if_pos (by decide +kernel)]; kernel_rfl) | (rw [if_neg (by decide +kernel)]; exact ⟨rfl, rfl⟩))
    (fun os started H enc _ => lifted os started H enc)

theorem proved : Rows.ObjectNewSaid := over
#print axioms proved

end Go.Proofs.Ytencoabgdnmbaaa.objectNew
