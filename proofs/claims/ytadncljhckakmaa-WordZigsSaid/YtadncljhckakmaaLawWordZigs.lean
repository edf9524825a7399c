/- For every number and every word: Zag undoes Zig, Zig undoes Zag, and numbers near 0 have small ones: the law WordZigs returns true and its arguments read as they did. No condition. -/
import Derived.Test.YtadncljhckakmaaWordAwake
import Derived.Test.YtadncljhckakmaaOpen
namespace Go.Proofs.Ytadncljhckakmaa.wordZigs
open Go.ChangeShapes Go.WideShapes Go.ChangeAt Go.RowKit
set_option linter.unusedVariables false

theorem zag_zig (n : Int) (h0 : -9223372036854775808 ≤ n) (h1 : n ≤ 9223372036854775807) : zagOf (zigOf n) = n := by
  unfold zagOf zigOf
  split <;> split <;> omega
theorem zig_zag (a : Int) (h0 : 0 ≤ a) (h1 : a ≤ 18446744073709551615) : zigOf (zagOf a) = a := by
  unfold zagOf zigOf
  split <;> split <;> omega
theorem zig_bounds (n : Int) (h0 : -9223372036854775808 ≤ n) (h1 : n ≤ 9223372036854775807) : 0 ≤ zigOf n ∧ zigOf n ≤ 18446744073709551615 := by
  unfold zigOf
  split <;> omega
theorem zag_bounds (a : Int) (h0 : 0 ≤ a) (h1 : a ≤ 18446744073709551615) : -9223372036854775808 ≤ zagOf a ∧ zagOf a ≤ 9223372036854775807 := by
  unfold zagOf
  split <;> omega
theorem zig_pos (n : Int) (h : 0 ≤ n) : zigOf n = 2 * n := by unfold zigOf; rw [if_pos h]
theorem zig_neg (n : Int) (h : 0 ≤ n) : zigOf (-n - 1) = 2 * n + 1 := by unfold zigOf; rw [if_neg (by omega)]; omega

set_option maxHeartbeats 1000000 in
theorem walk (a0 a1 : Int) (w : World) (w0 : -9223372036854775808 ≤ a0 ∧ a0 ≤ 9223372036854775807) (w1 : 0 ≤ a1 ∧ a1 ≤ 18446744073709551615) :
    Calls Try.prog 6 #[.int .i64 a0, .int .u64 a1] w fun e w' => e = .returned (.bool true) ∧ Below w.heap.size w w' := by
  obtain ⟨b0, b1⟩ := w0
  obtain ⟨b2, b3⟩ := w1
  have p := pick_bounds a0 1000000 (by decide)
  have z1 := zig_bounds a0 b0 b1
  have z2 := zag_bounds a1 b2 b3
  have H1 := Lib.hid (zag_zig a0 b0 b1)
  have H2 := Lib.hid (zig_zag a1 b2 b3)
  go_enter Try.func6, Try.ntmps6
  go_wp2_with fail
  refine (awake_any _).mono ?_
  rintro e w1 ⟨rfl, hb1⟩
  go_wp2_with fail
  refine (pick_any _ _ _ b0 b1 (by decide) (by decide)).mono ?_
  rintro e w2 ⟨rfl, rfl⟩
  generalize hm : pickOf a0 1000000 = m at p ⊢
  clear hm
  obtain ⟨p1, p2⟩ := p
  have H3 := Lib.hid (zig_pos m p1)
  have H4 := Lib.hid (zig_neg m p1)
  go_wp2_with fail
  refine (zig_any _ _ b0 b1).mono ?_
  rintro e w2 ⟨rfl, rfl⟩
  go_wp2_with fail
  refine (zag_any _ _ z1.1 z1.2).mono ?_
  rintro e w2 ⟨rfl, rfl⟩
  rw [H1.out]
  go_wp2_with fail
  refine (zag_any _ _ b2 b3).mono ?_
  rintro e w2 ⟨rfl, rfl⟩
  go_wp2_with fail
  refine (zig_any _ _ z2.1 z2.2).mono ?_
  rintro e w2 ⟨rfl, rfl⟩
  rw [H2.out]
  go_wp2_with fail
  refine (zig_any _ _ (by omega) (by omega)).mono ?_
  rintro e w2 ⟨rfl, rfl⟩
  rw [H3.out]
  go_wp2_with fail
  refine (zig_any _ _ (by omega) (by omega)).mono ?_
  rintro e w2 ⟨rfl, rfl⟩
  rw [H4.out]
  go_wp2
  go_ret
  exact ⟨rfl, hb1⟩

set_option maxRecDepth 100000 in
theorem lifted (os : Os) (started : os.Started) (H : Type) (enc : TypeId × Value → H) :
    ReturnsInHanded {} Try.checked os 6 .any (Rows.wordZigsSpec.pre6 enc Try.prog Try.f6 Rows.wordZigsRow.domain false) (Rows.wordZigsSpec.post enc Try.prog Try.f6 false true false false) := by
  refine returnsInHanded_of_change (C := Try.checked) own started (by kernel_rfl) Try.func6
    (ChangeSpec.witness6 (enc := enc) (C := Try.checked) false ⟨#[], #[.int .i64 0, .int .u64 0], []⟩ 8 (by kernel_rfl) (by kernel_rfl) (by kernel_rfl) (by kernel_rfl)) ?_
  intro W base args ds gs before hval0 hW hcnd _
  have hval : ∀ (j : Nat) t v, Try.f6.params[j]? = some t → args[j]? = some v → Value.okWide Try.prog W .any base t v := hval0
  have hW' := hW
  obtain ⟨p, q, hA0, hV, rfl, hfz, hnd⟩ := hW
  have hA : DataW.TrodAll enc Try.prog W 0 (fun _ => true) true Try.f6.params.toList args.toList ds p := hA0
  rw [Try.params6] at hA hval
  obtain ⟨v0, vs0, d0, ds0, p0, q0, hargs, rfl, rfl, h0, r0⟩ := trodAll_cons hA
  obtain ⟨v1, vs1, d1, ds1, p1, q1, rfl, rfl, rfl, h1, r1⟩ := trodAll_cons r0
  obtain ⟨rfl, rfl, rfl⟩ := trodAll_nil r1
  obtain rfl : args = #[v0, v1] := by cases args; simp_all
  obtain ⟨rfl, rfl⟩ := trodVars_none hV
  obtain ⟨a0, rfl, rfl, rfl, w0⟩ := open_int Try.underlying3 (hval 0 3 v0 rfl rfl) h0
  obtain ⟨a1, rfl, rfl, rfl, w1⟩ := open_int Try.underlying22 (hval 1 22 v1 rfl rfl) h1
  clear hA0 hval0
  refine (walk a0 a1 W (bounds_i64 w0) (bounds_u64 w1)).mono fun e W' ⟨he, bel⟩ => ?_
  subst he
  exact ⟨_, rfl, _, _, _, [], _, [], hW', trodAll_mk1 (shut_bool Try.underlying4 _), (trodAll_cons_mk (shut_int Try.underlying3 w0) (trodAll_cons_mk (shut_int Try.underlying22 w1) trodAll_mk0)), rfl, bel.frame _, fun h => by cases h⟩

theorem over : Rows.wordZigsRow.holds Try.pinned (OpenSpec.ofChange Rows.wordZigsSpec) :=
  OpenClaim.holds_of_wide 6 Try.f6 rfl rfl rfl rfl rfl rfl rfl ⟨rfl, rfl, rfl, rfl, rfl⟩ rfl rfl rfl rfl rfl (by kernel_rfl) Try.func6 (by kernel_rfl)
    (of_decide_eq_true (by kernel_rfl)) (by unfold Func.isWrapper; first | (rw [if_pos (by decide +kernel)]; kernel_rfl) | (rw [if_neg (by decide +kernel)]; exact ⟨rfl, rfl⟩))
    (fun os started H enc _ => lifted os started H enc)

theorem proved : Rows.WordZigsSaid := over
#print axioms proved

end Go.Proofs.Ytadncljhckakmaa.wordZigs
