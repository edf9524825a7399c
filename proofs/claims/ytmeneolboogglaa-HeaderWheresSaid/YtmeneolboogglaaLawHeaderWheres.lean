/- For every number: a word of what is gone tells where, and it is no object's: the law HeaderWheres returns true and its argument reads as it did. No condition. -/
import Derived.Test.YtmeneolboogglaaHeadLaw
namespace Go.Proofs.Ytmeneolboogglaa.headerWheres
open Go.ChangeShapes Go.WideShapes Go.ChangeAt Go.RowKit
set_option linter.unusedVariables false
set_option linter.unusedSimpArgs false

theorem isGone_of {k : Nat} (h1 : 1 ≤ k) (h2 : k ≤ 131072) : isGone (2 + k * 4) = true := by
  unfold isGone goneN mayGo
  rw [show (2 + k * 4) / 4 = k from by omega]
  simp [h1, h2]
/-- A Head is odd. -/
theorem isHead_odd {a : Nat} (h : isHead a = true) : a % 2 = 1 := by
  unfold isHead headV headN at h
  simp only [Bool.and_eq_true, decide_eq_true_eq] at h
  obtain ⟨h1, h2⟩ := h
  rw [if_pos h1] at h2
  omega

set_option maxRecDepth 100000 in
set_option maxHeartbeats 2000000 in
theorem walk (a0 : Int) (w : World) (w0 : -9223372036854775808 ≤ a0 ∧ a0 ≤ 9223372036854775807) :
    Calls Try.prog 3 #[.int .i64 a0] w fun e w' => e = .returned (.bool true) ∧ Below w.heap.size w w' := by
  go_enter Try.func3, Try.ntmps3
  go_wp2_with fail
  refine (awake_yes _).mono ?_
  rintro e x ⟨rfl, hB⟩
  go_wp2_with fail
  refine (pick_nat a0 131072 _ w0.1 w0.2 (by omega) (by omega)).mono ?_
  rintro e x2 ⟨k, hk, rfl, rfl⟩
  have i1 : IntKind.i64.wrap (1 + (k : Int)) = ((k + 1 : Nat) : Int) := by rw [IntWalk.i64_in _ (by omega)]; omega
  have hG := gone_any (k + 1) (by omega)
  rw [show mayGo (k + 1) = true from decide_eq_true (by omega), show goneN (k + 1) = 2 + (k + 1) * 4 from by simp [goneN, mayGo]; omega] at hG
  have hW := where_any (2 + (k + 1) * 4) (by omega)
  rw [isGone_of (by omega) (by omega), if_pos rfl, show (2 + (k + 1) * 4) / 4 = k + 1 from by omega] at hW
  have hS := shape_any (2 + (k + 1) * 4) (by omega)
  rw [show isHead (2 + (k + 1) * 4) = false from by cases h : isHead (2 + (k + 1) * 4) with | false => rfl | true => have := isHead_odd h; omega] at hS
  simp only [Bool.false_eq_true, if_false] at hS
  generalize 2 + (k + 1) * 4 = v at *
  generalize k + 1 = n at *
  go_wp2_with fail
  refine (hG _).mono ?_
  rintro e x3 ⟨rfl, hb⟩
  replace hB := hB.trans (hb.mono hB.size)
  clear hb
  go_wp2_with fail
  refine (hW _).mono ?_
  rintro e x4 ⟨rfl, hb⟩
  replace hB := hB.trans (hb.mono hB.size)
  clear hb
  go_wp2_with fail
  refine (hS _).mono ?_
  rintro e x5 ⟨rfl, hb⟩
  replace hB := hB.trans (hb.mono hB.size)
  clear hb
  go_wp2
  go_ret
  exact ⟨rfl, hB.alloc hB.size _⟩

set_option maxRecDepth 100000 in
theorem lifted (os : Os) (started : os.Started) (H : Type) (enc : TypeId × Value → H) :
    ReturnsInHanded {} Try.checked os 3 .any (Rows.headerWheresSpec.pre6 enc Try.prog Try.f3 Rows.headerWheresRow.domain false) (Rows.headerWheresSpec.post enc Try.prog Try.f3 false true false false) := by
  refine returnsInHanded_of_change (C := Try.checked) own started (by kernel_rfl) Try.func3
    (ChangeSpec.witness6 (enc := enc) (C := Try.checked) false ⟨#[], #[.int .i64 0], []⟩ 8 (by kernel_rfl) (by kernel_rfl) (by kernel_rfl) (by kernel_rfl)) ?_
  intro W base args ds gs before hval0 hW hcnd _
  have hval : ∀ (j : Nat) t v, Try.f3.params[j]? = some t → args[j]? = some v → Value.okWide Try.prog W .any base t v := hval0
  have hW' := hW
  obtain ⟨p, q, hA0, hV, rfl, hfz, hnd⟩ := hW
  have hA : DataW.TrodAll enc Try.prog W 0 (fun _ => true) true Try.f3.params.toList args.toList ds p := hA0
  rw [Try.params3] at hA hval
  obtain ⟨v0, vs0, d0, ds0, p0, q0, hargs, rfl, rfl, h0, r0⟩ := trodAll_cons hA
  obtain ⟨rfl, rfl, rfl⟩ := trodAll_nil r0
  obtain rfl : args = #[v0] := by cases args; simp_all
  obtain ⟨rfl, rfl⟩ := trodVars_none hV
  obtain ⟨a0, rfl, rfl, rfl, w0⟩ := open_int Try.underlying3 (hval 0 3 v0 rfl rfl) h0
  clear hA0 hval0
  refine (walk a0 W (bounds_i64 w0)).mono fun e W' ⟨he, bel⟩ => ?_
  subst he
  exact ⟨_, rfl, _, _, _, [], _, [], hW', trodAll_mk1 (shut_bool Try.underlying4 _), (trodAll_cons_mk (shut_int Try.underlying3 w0) trodAll_mk0), rfl, bel.frame _, fun h => by cases h⟩

theorem over : Rows.headerWheresRow.holds Try.pinned (OpenSpec.ofChange Rows.headerWheresSpec) :=
  OpenClaim.holds_of_wide 3 Try.f3 rfl rfl rfl rfl rfl rfl rfl ⟨rfl, rfl, rfl, rfl, rfl⟩ rfl rfl rfl rfl rfl (by kernel_rfl) Try.func3 (by kernel_rfl)
    (of_decide_eq_true (by kernel_rfl)) (by unfold Func.isWrapper; first | (rw [if_pos (by decide +kernel)]; kernel_rfl) | (rw [if_neg (by decide +kernel)]; exact ⟨rfl, rfl⟩))
    (fun os started H enc _ => lifted os started H enc)

theorem proved : Rows.HeaderWheresSaid := over
#print axioms proved

end Go.Proofs.Ytmeneolboogglaa.headerWheres
