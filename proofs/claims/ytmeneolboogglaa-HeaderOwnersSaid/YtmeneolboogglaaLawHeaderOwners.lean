/- For every three numbers: a second word tells its owner, or its version, and no two of them are the same: the law HeaderOwners returns true and its arguments read as they did. No condition. -/
import Derived.Test.YtmeneolboogglaaHeadLaw
namespace Go.Proofs.Ytmeneolboogglaa.headerOwners
open Go.ChangeShapes Go.WideShapes Go.ChangeAt Go.RowKit
set_option linter.unusedVariables false
set_option linter.unusedSimpArgs false

set_option maxRecDepth 100000 in
set_option maxHeartbeats 4000000 in
theorem walk (a0 a1 a2 : Int) (w : World) (w0 : -9223372036854775808 ≤ a0 ∧ a0 ≤ 9223372036854775807) (w1 : -9223372036854775808 ≤ a1 ∧ a1 ≤ 9223372036854775807) (w2 : -9223372036854775808 ≤ a2 ∧ a2 ≤ 9223372036854775807) :
    Calls Try.prog 4 #[.int .i64 a0, .int .i64 a1, .int .i64 a2] w fun e w' => e = .returned (.bool true) ∧ Below w.heap.size w w' := by
  go_enter Try.func4, Try.ntmps4
  go_wp2_with fail
  refine (awake_yes _).mono ?_
  rintro e x ⟨rfl, hB⟩
  go_wp2_with fail
  refine (pick_nat a0 8 _ w0.1 w0.2 (by omega) (by omega)).mono ?_
  rintro e x2 ⟨o, ho, rfl, rfl⟩
  go_wp2_with fail
  refine (pick_nat a1 1099511627777 _ w1.1 w1.2 (by omega) (by omega)).mono ?_
  rintro e x2 ⟨v, hv, rfl, rfl⟩
  go_wp2_with fail
  refine (pick_nat a2 1099511627777 _ w2.1 w2.2 (by omega) (by omega)).mono ?_
  rintro e x2 ⟨u, hu, rfl, rfl⟩
  have hH := held_any o (by omega)
  rw [if_pos (by omega : o ≤ 7), decide_eq_true (by omega : o ≤ 7)] at hH
  have hF := free_any v (by omega)
  have hF2 := free_any u (by omega)
  have hO := owner_held o (by omega)
  have hP := owner_free v (by omega)
  have n1 : (((1 + o * 2 : Nat) : Int) != ((v * 2 : Nat) : Int)) = true := by simp; omega
  have n2 : (((v * 2 : Nat) : Int) == ((u * 2 : Nat) : Int)) = ((v : Int) == (u : Int)) := by
    rw [Bool.eq_iff_iff]; simp; omega
  generalize 1 + o * 2 = p at *
  generalize v * 2 = q at *
  generalize u * 2 = r at *
  generalize hz : ((v : Int) == (u : Int)) = z at *
  go_wp2_with fail
  refine (hH _).mono ?_
  rintro e x3 ⟨rfl, hb⟩
  replace hB := hB.trans (hb.mono hB.size)
  clear hb
  go_wp2_with fail
  refine (hF _).mono ?_
  rintro e x4 ⟨rfl, hb⟩
  replace hB := hB.trans (hb.mono hB.size)
  clear hb
  go_wp2_with fail
  refine (hF2 _).mono ?_
  rintro e x5 ⟨rfl, hb⟩
  replace hB := hB.trans (hb.mono hB.size)
  clear hb
  go_wp2_with fail
  refine (hO _).mono ?_
  rintro e x6 ⟨rfl, hb⟩
  replace hB := hB.trans (hb.mono hB.size)
  clear hb
  go_wp2_with fail
  refine (hP _).mono ?_
  rintro e x7 ⟨rfl, hb⟩
  replace hB := hB.trans (hb.mono hB.size)
  clear hb hH hF hF2 hO hP
  cases z
  all_goals
    go_wp2
    go_ret
    exact ⟨rfl, hB⟩

set_option maxRecDepth 100000 in
theorem lifted (os : Os) (started : os.Started) (H : Type) (enc : TypeId × Value → H) :
    ReturnsInHanded {} Try.checked os 4 .any (Rows.headerOwnersSpec.pre6 enc Try.prog Try.f4 Rows.headerOwnersRow.domain false) (Rows.headerOwnersSpec.post enc Try.prog Try.f4 false true false false) := by
  refine returnsInHanded_of_change (C := Try.checked) own started (by kernel_rfl) Try.func4
    (ChangeSpec.witness6 (enc := enc) (C := Try.checked) false ⟨#[], #[.int .i64 0, .int .i64 0, .int .i64 0], []⟩ 8 (by kernel_rfl) (by kernel_rfl) (by kernel_rfl) (by kernel_rfl)) ?_
  intro W base args ds gs before hval0 hW hcnd _
  have hval : ∀ (j : Nat) t v, Try.f4.params[j]? = some t → args[j]? = some v → Value.okWide Try.prog W .any base t v := hval0
  have hW' := hW
  obtain ⟨p, q, hA0, hV, rfl, hfz, hnd⟩ := hW
  have hA : DataW.TrodAll enc Try.prog W 0 (fun _ => true) true Try.f4.params.toList args.toList ds p := hA0
  rw [Try.params4] at hA hval
  obtain ⟨v0, vs0, d0, ds0, p0, q0, hargs, rfl, rfl, h0, r0⟩ := trodAll_cons hA
  obtain ⟨v1, vs1, d1, ds1, p1, q1, rfl, rfl, rfl, h1, r1⟩ := trodAll_cons r0
  obtain ⟨v2, vs2, d2, ds2, p2, q2, rfl, rfl, rfl, h2, r2⟩ := trodAll_cons r1
  obtain ⟨rfl, rfl, rfl⟩ := trodAll_nil r2
  obtain rfl : args = #[v0, v1, v2] := by cases args; simp_all
  obtain ⟨rfl, rfl⟩ := trodVars_none hV
  obtain ⟨a0, rfl, rfl, rfl, w0⟩ := open_int Try.underlying3 (hval 0 3 v0 rfl rfl) h0
  obtain ⟨a1, rfl, rfl, rfl, w1⟩ := open_int Try.underlying3 (hval 1 3 v1 rfl rfl) h1
  obtain ⟨a2, rfl, rfl, rfl, w2⟩ := open_int Try.underlying3 (hval 2 3 v2 rfl rfl) h2
  clear hA0 hval0
  refine (walk a0 a1 a2 W (bounds_i64 w0) (bounds_i64 w1) (bounds_i64 w2)).mono fun e W' ⟨he, bel⟩ => ?_
  subst he
  exact ⟨_, rfl, _, _, _, [], _, [], hW', trodAll_mk1 (shut_bool Try.underlying4 _), (trodAll_cons_mk (shut_int Try.underlying3 w0) (trodAll_cons_mk (shut_int Try.underlying3 w1) (trodAll_cons_mk (shut_int Try.underlying3 w2) trodAll_mk0))), rfl, bel.frame _, fun h => by cases h⟩

theorem over : Rows.headerOwnersRow.holds Try.pinned (OpenSpec.ofChange Rows.headerOwnersSpec) :=
  OpenClaim.holds_of_wide 4 Try.f4 rfl rfl rfl rfl rfl rfl rfl ⟨rfl, rfl, rfl, rfl, rfl⟩ rfl rfl rfl rfl rfl (by kernel_rfl) Try.func4 (by kernel_rfl)
    (of_decide_eq_true (by kernel_rfl)) (by unfold Func.isWrapper; first | (rw [if_pos (by decide +kernel)]; kernel_rfl) | (rw [if_neg (by decide +kernel)]; exact ⟨rfl, rfl⟩))
    (fun os started H enc _ => lifted os started H enc)

theorem proved : Rows.HeaderOwnersSaid := over
#print axioms proved

end Go.Proofs.Ytmeneolboogglaa.headerOwners
