/- For every two three numbers and ops of a raw list: what was set in one of two objects is told, and nothing but that has changed: the law ObjectSets returns true and its arguments read as they did. No condition. -/
import Derived.Test.YtencoabgdnmbaaaSetsSwitch
import Derived.Test.YtencoabgdnmbaaaSetsCheck
import Derived.Deep.CutRange
import Derived.Deep.CutBlock
namespace Go.Proofs.Ytencoabgdnmbaaa.objectSets
open Go.ChangeShapes Go.WideShapes Go.ChangeAt Go.RowKit
set_option linter.unusedVariables false
set_option linter.unusedSimpArgs false


set_option maxRecDepth 100000 in
set_option maxHeartbeats 4000000 in
theorem walk (a0x0 a0x1 a0x2 a1x0 a1x1 a1x2 : Int) (a2 : Option Addr) (len2 cap2 : Nat) (z2 : Nat → Nat → Value) (w : World) (w0 : -9223372036854775808 ≤ a0x0 ∧ a0x0 ≤ 9223372036854775807) (w1 : -9223372036854775808 ≤ a0x1 ∧ a0x1 ≤ 9223372036854775807) (w2 : -9223372036854775808 ≤ a0x2 ∧ a0x2 ≤ 9223372036854775807)
    (w3 : -9223372036854775808 ≤ a1x0 ∧ a1x0 ≤ 9223372036854775807) (w4 : -9223372036854775808 ≤ a1x1 ∧ a1x1 ≤ 9223372036854775807) (w5 : -9223372036854775808 ≤ a1x2 ∧ a1x2 ≤ 9223372036854775807) (w6 : IsFlat opKinds w a2 len2 cap2 z2) :
    Calls Try.prog 3 #[.agg #[.int .i64 a0x0, .int .i64 a0x1, .int .i64 a0x2], .agg #[.int .i64 a1x0, .int .i64 a1x1, .int .i64 a1x2], .slice a2 len2 cap2] w fun e w' => e = .returned (.bool true) ∧ Below w.heap.size w w' := by
  obtain ⟨pp, dd, ww, ff, F1, F2⟩ : ∃ (pp dd : Nat → Nat) (ww ff : Nat → Bool), FitIs a0x0 a0x1 a0x2 (pp 0) (dd 0) (ww 0) (ff 0) ∧ FitIs a1x0 a1x1 a1x2 (pp 1) (dd 1) (ww 1) (ff 1) := by
    obtain ⟨p, d, wk, fn, F⟩ := fit_sh a0x0 a0x1 a0x2 w0 w1 w2
    obtain ⟨p', d', wk', fn', F'⟩ := fit_sh a1x0 a1x1 a1x2 w3 w4 w5
    exact ⟨fun k => if k = 0 then p else p', fun k => if k = 0 then d else d', fun k => if k = 0 then wk else wk', fun k => if k = 0 then fn else fn', F, F'⟩
  obtain ⟨f, hops⟩ := isOps_of_flat w6
  clear w0 w1 w2 w3 w4 w5 w6 z2
  have T := Two.new F1.right F2.right F1.ptrs F1.data F2.ptrs F2.data
  obtain ⟨A, hA⟩ : ∃ A, 3 + pp 0 + dd 0 = A := ⟨_, rfl⟩
  go_enter Try.func3, Try.ntmps3
  go_wp2_with fail
  have h3 := (BlkIs.new w #[.int .i64 a0x0, .int .i64 a0x1, .int .i64 a0x2] 22).alloc (.cells #[.int .i64 a1x0, .int .i64 a1x1, .int .i64 a1x2] 22)
  have h4 := BlkIs.new (w.alloc (.cells #[.int .i64 a0x0, .int .i64 a0x1, .int .i64 a0x2] 22)) #[.int .i64 a1x0, .int .i64 a1x1, .int .i64 a1x2] 22
  rw [show (w.alloc (.cells #[.int .i64 a0x0, .int .i64 a0x1, .int .i64 a0x2] 22)).heap.size = w.heap.size + 1 from by simp] at h4
  have hB := ((Below.refl _ w).alloc (Nat.le_refl _) (.cells #[.int .i64 a0x0, .int .i64 a0x1, .int .i64 a0x2] 22)).alloc (by simp) (.cells #[.int .i64 a1x0, .int .i64 a1x1, .int .i64 a1x2] 22)
  refine (awake_yes _).mono ?_
  rintro e x ⟨rfl, hb⟩
  replace h3 := h3.on hb
  replace h4 := h4.on hb
  replace hB := hB.trans (hb.mono hB.size)
  clear hb
  obtain ⟨c0, c1, c2, l2⟩ := h3.facts3
  obtain ⟨c3, c4, c5, l3⟩ := h4.facts3
  go_wp2_with fail
  refine (row_any F1 F2 _).mono ?_
  rintro e x1 ⟨P, b, rfl, hR, hP, hb, hn⟩
  rw [hA] at T ⊢
  have hwb : w.heap.size ≤ b := by have := h3.lt; omega
  have hwP : w.heap.size ≤ P := by have := h3.lt; omega
  replace hB := hB.trans (hn.mono hB.size)
  generalize rowL (pp 0) (dd 0) (ww 0) (ff 0) (pp 1) (dd 1) (ww 1) (ff 1) = L at *
  clear hn hP hb h3 h4 c0 c1 c2 l2 c3 c4 c5 l3 F1 F2
  go_wp2
  obtain ⟨h9, h10, h12, h13, h14, ho⟩ := five x1 (shA (pp 0) (dd 0) (ww 0) (ff 0)) (shA (pp 1) (dd 1) (ww 1) (ff 1)) #[.int .i64 0, .int .i64 0, .int .i64 0, .int .i64 0, .int .i64 0, .int .i64 0, .int .i64 0, .int .i64 0, .int .i64 0, .int .i64 0, .int .i64 0, .int .i64 0, .int .i64 0, .int .i64 0, .int .i64 0, .int .i64 0] #[.int .i64 0, .int .i64 0, .int .i64 0, .int .i64 0, .int .i64 0, .int .i64 0, .int .i64 0, .int .i64 0, .int .i64 0, .int .i64 0, .int .i64 0, .int .i64 0, .int .i64 0, .int .i64 0, .int .i64 0, .int .i64 0] #[.bool false, .bool false] 27 27 31 31 32
  have hltA := hR.lt
  have hsz := hB.size
  obtain ⟨g14, e14⟩ : ∃ k, x1.heap.size + 1 + 1 + 1 + 1 = k := ⟨_, rfl⟩
  obtain ⟨g13, e13⟩ : ∃ k, x1.heap.size + 1 + 1 + 1 = k := ⟨_, rfl⟩
  obtain ⟨g12, e12⟩ : ∃ k, x1.heap.size + 1 + 1 = k := ⟨_, rfl⟩
  obtain ⟨g10, e10⟩ : ∃ k, x1.heap.size + 1 = k := ⟨_, rfl⟩
  obtain ⟨g9, e9⟩ : ∃ k, x1.heap.size = k := ⟨_, rfl⟩
  rw [e14] at h14 ⊢
  rw [e13] at h13 ⊢
  rw [e12] at h12 ⊢
  rw [e10] at h10 ⊢
  rw [e9] at h9 ⊢
  have FF : Far b g9 g10 g12 g13 g14 w.heap.size := ⟨by omega, by omega, by omega, by omega, by omega, by omega, by omega, by omega, by omega, by omega, by omega, by omega⟩
  have hP12 : ¬ P = g12 := by omega
  have hP13 : ¬ P = g13 := by omega
  have hP14 : ¬ P = g14 := by omega
  have I0 : InvL P b g9 g10 g12 g13 g14 pp dd ww ff L (List.replicate 16 0) (List.replicate 16 0) [false, false] w _ :=
    ⟨hR.below ho hltA.1 hltA.2, h9, h10, h12, h13, h14, hB.trans (ho.mono hsz)⟩
  have I : Inv P b g9 g10 g12 g13 g14 A pp dd ww ff w _ := ⟨_, _, _, _, I0, T⟩
  clear I0 ho h9 h10 h12 h13 h14 hltA hR hB hsz e9 e10 e12 e13 e14 T hA hwb hwP
  go_loopw [15] (fun i wr => ∃ j : Nat, j ≤ 30 ∧ i = .int .i64 j ∧ Inv P b g9 g10 g12 g13 g14 A pp dd ww ff w wr) (fun i _ => 30 - (intOf i).toNat)
  case atStart => exact ⟨0, by omega, rfl, I⟩
  case round =>
    clear I
    obtain ⟨j, hj, rfl, I⟩ := hrel
    by_cases h0 : j < len2
    · by_cases h30 : j < 30
      · have hd : decide ((j : Int) < 30) = true := decide_eq_true (by omega)
        have hd0 : decide (j < len2) = true := decide_eq_true h0
        rcases hops with ⟨e, -⟩ | ⟨bo, off, rfl, hbo, hlc, hcm, hcell⟩
        · exact absurd h0 (by omega)
        · obtain ⟨L, ps, ns, fs, I, T⟩ := I
          obtain ⟨⟨cK, cA, cI, cN, cW⟩, fK, fA, fI, fN, fW⟩ := hcell j (by omega)
          generalize (f j).k = xK at cK fK
          generalize (f j).a = xA at cA fA
          generalize (f j).b = xI at cI fI
          generalize (f j).n = xN at cN fN
          generalize (f j).w = xW at cW fW
          replace cK := (I.below.cell (p := ⟨bo, _, none⟩) hbo).trans cK
          replace cA := (I.below.cell (p := ⟨bo, _, none⟩) hbo).trans cA
          replace cI := (I.below.cell (p := ⟨bo, _, none⟩) hbo).trans cI
          replace cN := (I.below.cell (p := ⟨bo, _, none⟩) hbo).trans cN
          replace cW := (I.below.cell (p := ⟨bo, _, none⟩) hbo).trans cW
          clear hcell
          go_wp2_with fail
          refine (pick_nat xA 2 _ fA.1 fA.2 (by omega) (by omega)).mono ?_
          rintro e x2 ⟨k, hk, rfl, rfl⟩
          have h16 := BlkIs.new wr #[.int .i64 xK, .int .i64 xA, .int .i64 xI, .int .i64 xN, .int .u64 xW] 35
          have ho := (Below.refl wr.heap.size wr).alloc (Nat.le_refl _) (.cells #[.int .i64 xK, .int .i64 xA, .int .i64 xI, .int .i64 xN, .int .u64 xW] 35)
          have w16 : w.heap.size ≤ wr.heap.size := I.below.size
          have f16 : P < wr.heap.size ∧ b < wr.heap.size ∧ g12 < wr.heap.size ∧ g13 < wr.heap.size ∧ g14 < wr.heap.size := ⟨I.ar.lt.1, I.ar.lt.2, I.p.lt, I.n.lt, I.f.lt⟩
          replace I := I.on ho
          obtain ⟨x2, ex2⟩ : ∃ x, wr.alloc (.cells #[.int .i64 xK, .int .i64 xA, .int .i64 xI, .int .i64 xN, .int .u64 xW] 35) = x := ⟨_, rfl⟩
          obtain ⟨g16, eg⟩ : ∃ k, wr.heap.size = k := ⟨_, rfl⟩
          rw [ex2] at I h16 ⊢
          rw [eg] at h16 w16 f16 ⊢
          clear ex2 eg ho cK cA cI cN cW wr
          obtain ⟨B, hB⟩ : ∃ B, k * A = B := ⟨_, rfl⟩
          have iw : IntKind.i64.wrap ((k : Int) * (A : Int)) = (B : Int) := by
            have e1 : (k : Int) * (A : Int) = (B : Int) := by rw [← hB]; exact (Int.natCast_mul k A).symm
            have e2 := T.small hk
            rw [hB] at e2
            rw [e1, IntWalk.i64_in _ (by omega)]
          obtain ⟨⟨c0, c1, c2, c3⟩, f0, f1, f2, f3, l1⟩ := I.s.facts4
          go_upto_if 71 with fail
          have h19 := BlkIs.new x2 #[.int .i64 (pp 0), .int .i64 (dd 0), .bool (ww 0), .bool (ff 0)] 27
          have ho := (Below.refl x2.heap.size x2).alloc (Nat.le_refl _) (.cells #[.int .i64 (pp 0), .int .i64 (dd 0), .bool (ww 0), .bool (ff 0)] 27)
          have w19 : w.heap.size ≤ x2.heap.size := I.below.size
          have f19 : P < x2.heap.size ∧ b < x2.heap.size ∧ g12 < x2.heap.size ∧ g13 < x2.heap.size ∧ g14 < x2.heap.size ∧ g16 < x2.heap.size ∧ g9 < x2.heap.size ∧ g10 < x2.heap.size := ⟨I.ar.lt.1, I.ar.lt.2, I.p.lt, I.n.lt, I.f.lt, h16.lt, I.s.lt, I.t.lt⟩
          replace I := I.on ho
          replace h16 := h16.on ho
          obtain ⟨x3, ex3⟩ : ∃ x, x2.alloc (.cells #[.int .i64 (pp 0), .int .i64 (dd 0), .bool (ww 0), .bool (ff 0)] 27) = x := ⟨_, rfl⟩
          obtain ⟨g19, eg⟩ : ∃ k, x2.heap.size = k := ⟨_, rfl⟩
          rw [ex3] at I h16 h19 ⊢
          rw [eg] at h19 w19 f19 ⊢
          clear ex3 eg ho c0 c1 c2 c3 f0 f1 f2 f3 l1 x2
          go_cut [] from 49 to 260 (fun wx => InvL P b g9 g10 g12 g13 g14 pp dd ww ff L ps ns fs w wx ∧ BlkIs wx g16 #[.int .i64 xK, .int .i64 xA, .int .i64 xI, .int .i64 xN, .int .u64 xW] 35 ∧ BlkIs wx g19 (shA (pp k) (dd k) (ww k) (ff k)) 27)
          case first =>
            by_cases ek : k = 1
            · have hk1 : ((k : Int) == 1) = true := by rw [beq_iff_eq]; omega
              have EK := Lib.hid ek
              clear ek hk T hB iw
              obtain ⟨⟨c0, c1, c2, c3⟩, f0, f1, f2, f3, l1⟩ := h19.facts4
              obtain ⟨⟨d0, d1, d2, d3⟩, _, _, _, _, l2⟩ := I.t.facts4
              go_wp2_with fail
              go_meet
              case rel =>
                have hb := ((((Below.refl g19 x3).setCell (p := ⟨g19, 0, none⟩) (Nat.le_refl _) (.int .i64 (pp 1))).setCell (p := ⟨g19, 1, none⟩) (Nat.le_refl _) (.int .i64 (dd 1))).setCell (p := ⟨g19, 2, none⟩) (Nat.le_refl _) (.bool (ww 1))).setCell (p := ⟨g19, 3, none⟩) (Nat.le_refl _) (.bool (ff 1))
                exact ⟨I.upto hb (by omega) (by omega) (by omega) w19, h16.below hb (by omega), by rw [EK.out]; exact (((h19.set 0 (.int .i64 (pp 1))).set 1 (.int .i64 (dd 1))).set 2 (.bool (ww 1))).set 3 (.bool (ff 1))⟩
            · have hk1 : ((k : Int) == 1) = false := by rw [beq_eq_false_iff_ne]; omega
              have ek0 : k = 0 := by omega
              have EK := Lib.hid ek0
              clear ek ek0 hk T hB iw
              go_wp2_with fail
              go_meet
              case rel => exact ⟨I, h16, by rw [EK.out]; exact h19⟩
          case rest =>
            clear I h16 h19
            obtain ⟨I, h16, h19⟩ := hcut
            have n19 : ¬ g19 = b ∧ ¬ g16 = b ∧ ¬ g16 = g13 := by omega
            clear w19 f19 w16 f16
            obtain ⟨c0, c1, c2, c3, c4, l1⟩ := facts5 h16
            go_wp2_with fail
            refine (pick_nat xI 8 _ fI.1 fI.2 (by omega) (by omega)).mono ?_
            rintro e x4 ⟨f', hf', rfl, rfl⟩
            go_wp2_with fail
            refine (pick_nat xK 3 _ fK.1 fK.2 (by omega) (by omega)).mono ?_
            rintro e x4 ⟨c, hc3, rfl, rfl⟩
            go_upto_block 2 with fail
            refine switch_any FF hP12 hP13 hP14 n19 hk hf' hB fN T I h19 h16 (fun _ _ _ _ e h => ⟨e.symm.trans h.1, h.2⟩) _ _ _ _ _ _ _ _ _ _ _ _ _ _ _ _ _ _ _ _ _ _ _ _ _ _ _ _ _ _ _ _ _ _ _ _ _ _ _ _ _ _ _ _ _ _ _ _ _ _ _ _ _ _ _ _ _ _ _ _ _ _ _ _ _ _ _ _ _ _ _ _ _ _ _ _ _ _ _ _ _ _ _ _ _ _ _ _ _ _ _ _ _ _ _ _ _ _ _ _ _ _ _ _ _ _ _ _ _ _ _ _ _ _ _ _ _ _ _ _ _ _ _ _ _ _ _ _ _ _ _ _ _ _ _ _ _ _ _ _ _ _ _ _ _ _ _ _ _ _ _ _ _ _ _ _ _ _ _ _ _ _ _ _ _ _ _ _ _ _ _ _ _ _ _ _ _ _ _ _ _ _ _ _ _ _ _ _ _ _ _ _ _ _ _ _ _ _ _ _ _ _ _ _ _ _ _ _ _ _ _ _ _ _ _ _ _ _ _ _ _ _ _ _ _ _ _ _ _ _ _ _ _ _ _ _ _ _ _ _ _ _ _ _ _ _ _ _ _ _ _ ?_
            intros
            rename_i y I2
            clear T I h19 h16 c0 c1 c2 c3 c4 l1
            obtain ⟨L2, ps2, ns2, fs2, I, T⟩ := I2
            go_upto_block 3 with fail
            refine check_any T I _ _ _ _ _ _ _ _ _ _ _ _ _ _ _ _ _ _ _ _ _ _ _ _ _ _ _ _ _ _ _ _ _ _ _ _ _ _ _ _ _ _ _ _ _ _ _ _ _ _ _ _ _ _ _ _ _ _ _ _ _ _ _ _ _ _ _ _ _ _ _ _ _ _ _ _ _ _ _ _ _ _ _ _ _ _ _ _ _ _ _ _ _ _ _ _ _ _ _ _ _ _ _ _ _ _ _ _ _ _ _ _ _ _ _ _ _ _ _ _ _ _ _ _ _ _ _ _ _ _ _ _ _ _ _ _ _ _ _ _ _ _ _ _ _ _ _ _ _ _ _ _ _ _ _ _ _ _ _ _ _ _ _ _ _ _ _ _ _ _ _ _ _ _ _ _ _ _ _ _ _ _ _ _ _ _ _ _ _ _ _ _ _ _ _ _ _ _ _ _ _ _ _ _ _ _ _ _ _ _ _ _ _ _ _ _ _ _ _ _ _ _ _ _ _ _ _ _ _ _ _ _ _ _ _ _ _ _ _ _ _ _ _ _ _ _ _ _ _ _ _ _ _ ?_
            intros
            rename_i y2 I2
            clear I
            go_wp2
            go_roundw
            case rel => exact ⟨j + 1, by omega, by go_num, _, _, _, _, I2, T⟩
            case measure => simp [intOf]; omega
      · have hd : decide ((j : Int) < 30) = false := decide_eq_false (by omega)
        go_wp2
        go_ret
        exact ⟨rfl, I.choose_spec.choose_spec.choose_spec.choose_spec.1.below⟩
    · have hd0 : decide (j < len2) = false := decide_eq_false h0
      go_wp2
      go_ret
      exact ⟨rfl, I.choose_spec.choose_spec.choose_spec.choose_spec.1.below⟩

set_option maxRecDepth 100000 in
theorem lifted (os : Os) (started : os.Started) (H : Type) (enc : TypeId × Value → H) :
    ReturnsInHanded {} Try.checked os 3 .any (Rows.objectSetsSpec.pre6 enc Try.prog Try.f3 Rows.objectSetsRow.domain false) (Rows.objectSetsSpec.post enc Try.prog Try.f3 false true false false) := by
  refine returnsInHanded_of_change (C := Try.checked) own started (by kernel_rfl) Try.func3
    (ChangeSpec.witness6 (enc := enc) (C := Try.checked) false ⟨#[], #[.agg #[.int .i64 0, .int .i64 0, .int .i64 0], .agg #[.int .i64 0, .int .i64 0, .int .i64 0], .slice none 0 0], []⟩ 8 (by kernel_rfl) (by kernel_rfl) (by kernel_rfl) (by kernel_rfl)) ?_
  intro W base args ds gs before hval0 hW hcnd _
  have hval : ∀ (j : Nat) t v, Try.f3.params[j]? = some t → args[j]? = some v → Value.okWide Try.prog W .any base t v := hval0
  have hW' := hW
  obtain ⟨p, q, hA0, hV, rfl, hfz, hnd⟩ := hW
  have hA : DataW.TrodAll enc Try.prog W 0 (fun _ => true) true Try.f3.params.toList args.toList ds p := hA0
  rw [Try.params3] at hA hval
  obtain ⟨v0, vs0, d0, ds0, p0, q0, hargs, rfl, rfl, h0, r0⟩ := trodAll_cons hA
  obtain ⟨v1, vs1, d1, ds1, p1, q1, rfl, rfl, rfl, h1, r1⟩ := trodAll_cons r0
  obtain ⟨v2, vs2, d2, ds2, p2, q2, rfl, rfl, rfl, h2, r2⟩ := trodAll_cons r1
  obtain ⟨rfl, rfl, rfl⟩ := trodAll_nil r2
  obtain rfl : args = #[v0, v1, v2] := by cases args; simp_all
  obtain ⟨rfl, rfl⟩ := trodVars_none hV
  have k0 := h0
  have lt0 : ∀ x ∈ p0, x.block < W.heap.size := by obtain ⟨m, hm⟩ := k0; exact DataW.trod_lt m _ _ _ hm
  have ce0 : Try.prog.cellsOf 3 = 1 := by kernel_rfl
  have cc0 : Try.prog.cellsOf 22 = 3 := by kernel_rfl
  have x0 := open_ints_array Try.underlying22 Try.underlying3 ce0 cc0 (hval 0 22 v0 rfl rfl) h0
  obtain ⟨z0, hl0, hv0, hz0⟩ := x0
  subst hv0
  have y0 := list3 hl0
  obtain ⟨a0x0, a0x1, a0x2, hy0⟩ := y0
  subst hy0
  have w0x0 := bounds_i64 (hz0 a0x0 (by simp))
  have w0x1 := bounds_i64 (hz0 a0x1 (by simp))
  have w0x2 := bounds_i64 (hz0 a0x2 (by simp))
  have k1 := h1
  have lt1 : ∀ x ∈ p1, x.block < W.heap.size := by obtain ⟨m, hm⟩ := k1; exact DataW.trod_lt m _ _ _ hm
  have ce1 : Try.prog.cellsOf 3 = 1 := by kernel_rfl
  have cc1 : Try.prog.cellsOf 22 = 3 := by kernel_rfl
  have x1 := open_ints_array Try.underlying22 Try.underlying3 ce1 cc1 (hval 1 22 v1 rfl rfl) h1
  obtain ⟨z1, hl1, hv1, hz1⟩ := x1
  subst hv1
  have y1 := list3 hl1
  obtain ⟨a1x0, a1x1, a1x2, hy1⟩ := y1
  subst hy1
  have w1x0 := bounds_i64 (hz1 a1x0 (by simp))
  have w1x1 := bounds_i64 (hz1 a1x1 (by simp))
  have w1x2 := bounds_i64 (hz1 a1x2 (by simp))
  obtain ⟨a2, len2, cap2, rfl⟩ := okWide_slice Try.underlying23 (hval 2 23 v2 rfl rfl)
  have k2 := h2
  have lt2 : ∀ x ∈ p2, x.block < W.heap.size := by obtain ⟨m, hm⟩ := k2; exact DataW.trod_lt m _ _ _ hm
  obtain ⟨z2, w2⟩ := open_flats (n := 8) (ks := opKinds) Try.underlying23 (by kernel_rfl) (by kernel_rfl) (by decide) h2
  clear hA0 hval0
  refine (walk a0x0 a0x1 a0x2 a1x0 a1x1 a1x2 a2 len2 cap2 z2 W w0x0 w0x1 w0x2 w1x0 w1x1 w1x2 w2).mono fun e W' ⟨he, bel⟩ => ?_
  subst he
  exact ⟨_, rfl, _, _, _, [], _, [], hW', trodAll_mk1 (shut_bool Try.underlying4 _), (trodAll_cons_mk (Below.trod laidOut (by kernel_rfl) (of_decide_eq_true (by kernel_rfl)) k0 bel lt0) (trodAll_cons_mk (Below.trod laidOut (by kernel_rfl) (of_decide_eq_true (by kernel_rfl)) k1 bel lt1) (trodAll_cons_mk (Below.trod laidOut (by kernel_rfl) (of_decide_eq_true (by kernel_rfl)) k2 bel lt2) trodAll_mk0))), rfl, bel.frame _, fun h => by cases h⟩

theorem over : Rows.objectSetsRow.holds Try.pinned (OpenSpec.ofChange Rows.objectSetsSpec) :=
  OpenClaim.holds_of_wide 3 Try.f3 rfl rfl rfl rfl rfl rfl rfl ⟨rfl, rfl, rfl, rfl, rfl⟩ rfl rfl rfl rfl rfl (by kernel_rfl) Try.func3 (by kernel_rfl)
    (of_decide_eq_true (by kernel_rfl)) (by unfold Func.isWrapper; first | (rw [if_pos (by decide +kernel)]; kernel_rfl) | (rw [if_neg (by decide +kernel)]; exact ⟨rfl, rfl⟩))
    (fun os started H enc _ => lifted os started H enc)

theorem proved : Rows.ObjectSetsSaid := over
#print axioms proved

end Go.Proofs.Ytencoabgdnmbaaa.objectSets
