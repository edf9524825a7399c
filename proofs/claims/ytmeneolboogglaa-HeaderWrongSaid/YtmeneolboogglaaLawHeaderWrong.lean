/- For every three numbers, made wrong by two more: shapes that may not be have no size and no head: the law HeaderWrong returns true and its arguments read as they did. No condition. -/
import Derived.Test.YtmeneolboogglaaHeadLaw
namespace Go.Proofs.Ytmeneolboogglaa.headerWrong
open Go.ChangeShapes Go.WideShapes Go.ChangeAt Go.RowKit
set_option linter.unusedVariables false
set_option linter.unusedSimpArgs false

theorem ResAt.alloc {w x : World} {k : Nat} {cs : Array Value} {ty : TypeId} (h : ResAt w x k cs ty) (o : Obj) : ResAt w (x.alloc o) k cs ty :=
  h.keep ((Below.refl _ x).alloc (Nat.le_refl _) o)

theorem wrong3 {p d : Int} {wk fn : Bool} (hs : shB p d wk fn = false) :
    (∀ w, Calls Try.prog 18 #[shV p d wk fn] w fun e w' => e = .returned (.tuple #[.int .i64 0, .bool false]) ∧ Below w.heap.size w w') ∧
    (∀ w, Calls Try.prog 16 #[shV p d wk fn, .bool false] w fun e w' => e = .returned (.tuple #[.int .u64 0, .bool false]) ∧ Below w.heap.size w w') ∧
    (∀ w, Calls Try.prog 19 #[shV p d wk fn] w fun e w' => e = .returned (.bool false) ∧ Below w.heap.size w w') :=
  ⟨size_no p d wk fn hs, head_no p d wk fn false hs, fun w => by have := right_sh p d wk fn w; rwa [hs] at this⟩


set_option maxRecDepth 100000 in
set_option maxHeartbeats 4000000 in
theorem walk (a0x0 a0x1 a0x2 a1 a2 : Int) (w : World) (w0 : -9223372036854775808 ≤ a0x0 ∧ a0x0 ≤ 9223372036854775807) (w1 : -9223372036854775808 ≤ a0x1 ∧ a0x1 ≤ 9223372036854775807) (w2 : -9223372036854775808 ≤ a0x2 ∧ a0x2 ≤ 9223372036854775807)
    (w3 : -9223372036854775808 ≤ a1 ∧ a1 ≤ 9223372036854775807) (w4 : -9223372036854775808 ≤ a2 ∧ a2 ≤ 9223372036854775807) :
    Calls Try.prog 7 #[.agg #[.int .i64 a0x0, .int .i64 a0x1, .int .i64 a0x2], .int .i64 a1, .int .i64 a2] w fun e w' => e = .returned (.bool true) ∧ Below w.heap.size w w' := by
  go_enter Try.func7, Try.ntmps7
  go_wp2_with fail
  refine (awake_yes _).mono ?_
  rintro e x ⟨rfl, hb⟩
  have c0 : x.cell? ⟨w.heap.size, 0, none⟩ = some (.int .i64 a0x0) := (hb.cell (p := ⟨w.heap.size, 0, none⟩) (by simp)).trans (by simp)
  have c1 : x.cell? ⟨w.heap.size, 1, none⟩ = some (.int .i64 a0x1) := (hb.cell (p := ⟨w.heap.size, 1, none⟩) (by simp)).trans (by simp)
  have c2 : x.cell? ⟨w.heap.size, 2, none⟩ = some (.int .i64 a0x2) := (hb.cell (p := ⟨w.heap.size, 2, none⟩) (by simp)).trans (by simp)
  have hB := ((Below.refl _ w).alloc (Nat.le_refl _) _).trans (hb.mono (by simp))
  clear hb
  go_wp2_with fail
  refine (fit_sh _ _ _ _ w0 w1 w2).mono ?_
  rintro e x2 ⟨p, d, wk, fn, hp, hd, hs, rfl, hb⟩
  replace hB := hB.trans (hb.mono hB.size)
  have hT : ResAt w (x2.alloc (.cells #[.int .i64 p, .int .i64 d, .bool wk, .bool fn] 30)) x2.heap.size #[.int .i64 p, .int .i64 d, .bool wk, .bool fn] 30 :=
    ⟨BlkIs.new x2 _ _, hB.size, hB.alloc hB.size _⟩
  clear hb c0 c1 c2 hB hs
  obtain ⟨q, hq⟩ : ∃ q, x2.heap.size = q := ⟨_, rfl⟩
  go_wp2_with fail
  obtain ⟨y, hy⟩ : ∃ y, x2.alloc (.cells #[.int .i64 p, .int .i64 d, .bool wk, .bool fn] 30) = y := ⟨_, rfl⟩
  rw [hq, hy] at hT
  rw [hy]
  clear hy hq
  refine (pick_nat a2 4 _ w4.1 w4.2 (by omega) (by omega)).mono ?_
  rintro e x3 ⟨k, hk, rfl, rfl⟩
  obtain ⟨⟨c0, c1, c2, c3⟩, f0, f1, f2, f3, l1⟩ := hT.facts4
  obtain rfl | rfl | rfl | rfl : k = 0 ∨ k = 1 ∨ k = 2 ∨ k = 3 := by omega
  · go_wp2_with fail
    refine (pick_nat a1 1000 _ w3.1 w3.2 (by omega) (by omega)).mono ?_
    rintro e x3 ⟨b, hb, rfl, rfl⟩
    have i1 : IntKind.i64.wrap (9 + (b : Int)) = 9 + (b : Int) := IntWalk.i64_in _ (by omega)
    have hs : shB (9 + (b : Int)) d wk fn = false := by
      cases h : shB (9 + (b : Int)) d wk fn with
      | false => rfl
      | true => have := sh_small h; omega
    obtain ⟨hZ, hH, hR⟩ := wrong3 hs
    clear hs
    go_wp2_with fail
    replace hT := hT.set 0 (.int .i64 (9 + (b : Int)))
    clear c0 c1 c2 c3 f0 f1 f2 f3 l1
    refine (hZ _).mono ?_
    rintro e x4 ⟨rfl, hb⟩
    replace hT := hT.keep hb
    clear hb
    obtain ⟨⟨c0, c1, c2, c3⟩, f0, f1, f2, f3, l1⟩ := hT.facts4
    go_wp2_with fail
    refine (hH _).mono ?_
    rintro e x5 ⟨rfl, hb⟩
    replace hT := hT.keep hb
    clear hb c0 c1 c2 c3 f0 f1 f2 f3 l1
    obtain ⟨⟨c0, c1, c2, c3⟩, f0, f1, f2, f3, l1⟩ := hT.facts4
    go_wp2_with fail
    refine (hR _).mono ?_
    rintro e x6 ⟨rfl, hb⟩
    replace hT := hT.keep hb
    clear hb c0 c1 c2 c3 f0 f1 f2 f3 l1
    go_wp2
    go_ret
    exact ⟨rfl, hT.below⟩
  · go_wp2_with fail
    refine (pick_nat a1 1000 _ w3.1 w3.2 (by omega) (by omega)).mono ?_
    rintro e x3 ⟨b, hb, rfl, rfl⟩
    have i1 : IntKind.i64.wrap (-1 - (b : Int)) = -1 - (b : Int) := IntWalk.i64_in _ (by omega)
    have hs : shB p (-1 - (b : Int)) wk fn = false := by
      cases h : shB p (-1 - (b : Int)) wk fn with
      | false => rfl
      | true => have := sh_small h; omega
    obtain ⟨hZ, hH, hR⟩ := wrong3 hs
    clear hs
    go_wp2_with fail
    replace hT := hT.set 1 (.int .i64 (-1 - (b : Int)))
    clear c0 c1 c2 c3 f0 f1 f2 f3 l1
    refine (hZ _).mono ?_
    rintro e x4 ⟨rfl, hb⟩
    replace hT := hT.keep hb
    clear hb
    obtain ⟨⟨c0, c1, c2, c3⟩, f0, f1, f2, f3, l1⟩ := hT.facts4
    go_wp2_with fail
    refine (hH _).mono ?_
    rintro e x5 ⟨rfl, hb⟩
    replace hT := hT.keep hb
    clear hb c0 c1 c2 c3 f0 f1 f2 f3 l1
    obtain ⟨⟨c0, c1, c2, c3⟩, f0, f1, f2, f3, l1⟩ := hT.facts4
    go_wp2_with fail
    refine (hR _).mono ?_
    rintro e x6 ⟨rfl, hb⟩
    replace hT := hT.keep hb
    clear hb c0 c1 c2 c3 f0 f1 f2 f3 l1
    go_wp2
    go_ret
    exact ⟨rfl, hT.below⟩
  · go_wp2_with fail
    refine (pick_nat a1 7 _ w3.1 w3.2 (by omega) (by omega)).mono ?_
    rintro e x3 ⟨b, hb, rfl, rfl⟩
    have i1 : IntKind.i64.wrap (2 + (b : Int)) = 2 + (b : Int) := IntWalk.i64_in _ (by omega)
    have hs : shB (2 + (b : Int)) 0 true false = false := by
      unfold shB
      rw [if_pos rfl, decide_eq_false (show ¬ (2 + (b : Int) = 1) from by omega)]
      rfl
    obtain ⟨hZ, hH, hR⟩ := wrong3 hs
    clear hs
    go_wp2_with fail
    replace hT := (((hT.set 0 (.int .i64 (2 + (b : Int)))).set 1 (.int .i64 0)).set 2 (.bool true)).set 3 (.bool false)
    clear c0 c1 c2 c3 f0 f1 f2 f3 l1
    refine (hZ _).mono ?_
    rintro e x4 ⟨rfl, hb⟩
    replace hT := hT.keep hb
    clear hb
    obtain ⟨⟨c0, c1, c2, c3⟩, f0, f1, f2, f3, l1⟩ := hT.facts4
    go_wp2_with fail
    refine (hH _).mono ?_
    rintro e x5 ⟨rfl, hb⟩
    replace hT := hT.keep hb
    clear hb c0 c1 c2 c3 f0 f1 f2 f3 l1
    obtain ⟨⟨c0, c1, c2, c3⟩, f0, f1, f2, f3, l1⟩ := hT.facts4
    go_wp2_with fail
    refine (hR _).mono ?_
    rintro e x6 ⟨rfl, hb⟩
    replace hT := hT.keep hb
    clear hb c0 c1 c2 c3 f0 f1 f2 f3 l1
    go_wp2
    go_ret
    exact ⟨rfl, hT.below⟩
  · have hs : shB 1 0 true true = false := rfl
    obtain ⟨hZ, hH, hR⟩ := wrong3 hs
    clear hs
    go_wp2_with fail
    replace hT := (((hT.set 0 (.int .i64 1)).set 1 (.int .i64 0)).set 2 (.bool true)).set 3 (.bool true)
    clear c0 c1 c2 c3 f0 f1 f2 f3 l1
    refine (hZ _).mono ?_
    rintro e x4 ⟨rfl, hb⟩
    replace hT := hT.keep hb
    clear hb
    obtain ⟨⟨c0, c1, c2, c3⟩, f0, f1, f2, f3, l1⟩ := hT.facts4
    go_wp2_with fail
    refine (hH _).mono ?_
    rintro e x5 ⟨rfl, hb⟩
    replace hT := hT.keep hb
    clear hb c0 c1 c2 c3 f0 f1 f2 f3 l1
    obtain ⟨⟨c0, c1, c2, c3⟩, f0, f1, f2, f3, l1⟩ := hT.facts4
    go_wp2_with fail
    refine (hR _).mono ?_
    rintro e x6 ⟨rfl, hb⟩
    replace hT := hT.keep hb
    clear hb c0 c1 c2 c3 f0 f1 f2 f3 l1
    go_wp2
    go_ret
    exact ⟨rfl, hT.below⟩

set_option maxRecDepth 100000 in
theorem lifted (os : Os) (started : os.Started) (H : Type) (enc : TypeId × Value → H) :
    ReturnsInHanded {} Try.checked os 7 .any (Rows.headerWrongSpec.pre6 enc Try.prog Try.f7 Rows.headerWrongRow.domain false) (Rows.headerWrongSpec.post enc Try.prog Try.f7 false true false false) := by
  refine returnsInHanded_of_change (C := Try.checked) own started (by kernel_rfl) Try.func7
    (ChangeSpec.witness6 (enc := enc) (C := Try.checked) false ⟨#[], #[.agg #[.int .i64 0, .int .i64 0, .int .i64 0], .int .i64 0, .int .i64 0], []⟩ 8 (by kernel_rfl) (by kernel_rfl) (by kernel_rfl) (by kernel_rfl)) ?_
  intro W base args ds gs before hval0 hW hcnd _
  have hval : ∀ (j : Nat) t v, Try.f7.params[j]? = some t → args[j]? = some v → Value.okWide Try.prog W .any base t v := hval0
  have hW' := hW
  obtain ⟨p, q, hA0, hV, rfl, hfz, hnd⟩ := hW
  have hA : DataW.TrodAll enc Try.prog W 0 (fun _ => true) true Try.f7.params.toList args.toList ds p := hA0
  rw [Try.params7] at hA hval
  obtain ⟨v0, vs0, d0, ds0, p0, q0, hargs, rfl, rfl, h0, r0⟩ := trodAll_cons hA
  obtain ⟨v1, vs1, d1, ds1, p1, q1, rfl, rfl, rfl, h1, r1⟩ := trodAll_cons r0
  obtain ⟨v2, vs2, d2, ds2, p2, q2, rfl, rfl, rfl, h2, r2⟩ := trodAll_cons r1
  obtain ⟨rfl, rfl, rfl⟩ := trodAll_nil r2
  obtain rfl : args = #[v0, v1, v2] := by cases args; simp_all
  obtain ⟨rfl, rfl⟩ := trodVars_none hV
  have k0 := h0
  have lt0 : ∀ x ∈ p0, x.block < W.heap.size := by obtain ⟨m, hm⟩ := k0; exact DataW.trod_lt m _ _ _ hm
  have ce0 : Try.prog.cellsOf 3 = 1 := by kernel_rfl
  have cc0 : Try.prog.cellsOf 40 = 3 := by kernel_rfl
  have x0 := open_ints_array Try.underlying40 Try.underlying3 ce0 cc0 (hval 0 40 v0 rfl rfl) h0
  obtain ⟨z0, hl0, hv0, hz0⟩ := x0
  subst hv0
  have y0 := list3 hl0
  obtain ⟨a0x0, a0x1, a0x2, hy0⟩ := y0
  subst hy0
  have w0x0 := bounds_i64 (hz0 a0x0 (by simp))
  have w0x1 := bounds_i64 (hz0 a0x1 (by simp))
  have w0x2 := bounds_i64 (hz0 a0x2 (by simp))
  obtain ⟨a1, rfl, rfl, rfl, w1⟩ := open_int Try.underlying3 (hval 1 3 v1 rfl rfl) h1
  obtain ⟨a2, rfl, rfl, rfl, w2⟩ := open_int Try.underlying3 (hval 2 3 v2 rfl rfl) h2
  clear hA0 hval0
  refine (walk a0x0 a0x1 a0x2 a1 a2 W w0x0 w0x1 w0x2 (bounds_i64 w1) (bounds_i64 w2)).mono fun e W' ⟨he, bel⟩ => ?_
  subst he
  exact ⟨_, rfl, _, _, _, [], _, [], hW', trodAll_mk1 (shut_bool Try.underlying4 _), (trodAll_cons_mk (Below.trod laidOut (by kernel_rfl) (of_decide_eq_true (by kernel_rfl)) k0 bel lt0) (trodAll_cons_mk (shut_int Try.underlying3 w1) (trodAll_cons_mk (shut_int Try.underlying3 w2) trodAll_mk0))), rfl, bel.frame _, fun h => by cases h⟩

theorem over : Rows.headerWrongRow.holds Try.pinned (OpenSpec.ofChange Rows.headerWrongSpec) :=
  OpenClaim.holds_of_wide 7 Try.f7 rfl rfl rfl rfl rfl rfl rfl ⟨rfl, rfl, rfl, rfl, rfl⟩ rfl rfl rfl rfl rfl (by kernel_rfl) Try.func7 (by kernel_rfl)
    (of_decide_eq_true (by kernel_rfl)) (by unfold Func.isWrapper; first | (rw [if_pos (by decide +kernel)]; kernel_rfl) | (rw [if_neg (by decide +kernel)]; exact ⟨rfl, rfl⟩))
    (fun os started H enc _ => lifted os started H enc)

theorem proved : Rows.HeaderWrongSaid := over
#print axioms proved

end Go.Proofs.Ytmeneolboogglaa.headerWrong
