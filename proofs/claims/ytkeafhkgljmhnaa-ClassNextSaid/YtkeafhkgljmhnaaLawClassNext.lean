/- For every number: what is one above a size is rounded to the next one: the law ClassNext returns true and its arguments read as they did. No condition. -/
import Derived.Test.YtkeafhkgljmhnaaClassLaw
import Derived.Test.YtkeafhkgljmhnaaOpen
namespace Go.Proofs.Ytkeafhkgljmhnaa.classNext
open Go.ChangeShapes Go.WideShapes Go.ChangeAt Go.RowKit
set_option linter.unusedVariables false
set_option linter.unusedSimpArgs false

set_option maxRecDepth 100000 in
set_option maxHeartbeats 2000000 in
theorem walk (a0 : Int) (w : World) (w0 : -9223372036854775808 ≤ a0 ∧ a0 ≤ 9223372036854775807) :
    Calls Try.prog 6 #[.int .i64 a0] w fun e w' => e = .returned (.bool true) ∧ Below w.heap.size w w' := by
  obtain ⟨b0, b1⟩ := w0
  go_enter Try.func6, Try.ntmps6
  go_wp2_with fail
  refine (awake_yes _).mono ?_
  rintro e x ⟨rfl, hB1⟩
  go_wp2_with fail
  refine (picked 1 a0 32768 _ b0 b1 (by omega) (by omega)).mono ?_
  rintro e y ⟨m, m0, m1, rfl, rfl⟩
  obtain ⟨d1, d3⟩ := Cls.at_next (m := m) (by omega)
  have d2 : 2 * Cls.rd (Cls.rd m + 1) = 3 * Cls.rd m ∨ 3 * Cls.rd (Cls.rd m + 1) = 4 * Cls.rd m := by
    unfold Cls.rd at d1 ⊢
    rw [d1]; exact Cls.sz_next _
  have d4 := (Cls.at_spec (m := m) (by omega)).1
  have d5 := Cls.rd_le (m := Cls.rd m + 1) (by omega)
  have d6 := Cls.rd_ge (m := m) (by omega)
  go_wp2_with fail
  rw [show (1 : Int) + ((m : Int) - 1) = (m : Int) from by omega]
  refine (round_nat m (by omega) (by omega) _).mono ?_
  rintro e y1 ⟨rfl, hB2⟩
  go_wp2_with fail
  rw [show (Cls.rd m : Int) + 1 = ((Cls.rd m + 1 : Nat) : Int) from by omega]
  refine (round_nat (Cls.rd m + 1) (by omega) (by omega) _).mono ?_
  rintro e y2 ⟨rfl, hB3⟩
  go_wp2_with fail
  refine (class_nat m (by omega) (by omega) _).mono ?_
  rintro e y3 ⟨rfl, hB4⟩
  go_wp2_with fail
  rw [show (Cls.rd m : Int) + 1 = ((Cls.rd m + 1 : Nat) : Int) from by omega]
  refine (class_nat (Cls.rd m + 1) (by omega) (by omega) _).mono ?_
  rintro e y4 ⟨rfl, hB5⟩
  rw [d1]
  have s1 := hB1.size
  have s2 := hB2.size
  have s3 := hB3.size
  have s4 := hB4.size
  have hB : Below w.heap.size w y4 := (hB1.trans (hB2.mono s1)).trans ((hB3.mono (by omega)).trans ((hB4.mono (by omega)).trans (hB5.mono (by omega))))
  clear d1 hB1 hB2 hB3 hB4 hB5
  rw [show ((Cls.at' m + 1 : Nat) : Int) = (Cls.at' m : Int) + 1 from by omega]
  generalize Cls.rd (Cls.rd m + 1) = b at *
  generalize Cls.rd m = a at *
  by_cases h : 2 * b = 3 * a
  · have h1 : (2 * (b : Int) == 3 * (a : Int)) = true := by simp; omega
    clear h d2
    go_wp2
    go_ret
    exact ⟨rfl, hB⟩
  · have h1 : (2 * (b : Int) == 3 * (a : Int)) = false := by simp; omega
    have h2 : (3 * (b : Int) == 4 * (a : Int)) = true := by simp; omega
    clear h d2
    go_wp2
    go_ret
    exact ⟨rfl, hB⟩

set_option maxRecDepth 100000 in
theorem lifted (os : Os) (started : os.Started) (H : Type) (enc : TypeId × Value → H) :
    ReturnsInHanded {} Try.checked os 6 .any (Rows.classNextSpec.pre6 enc Try.prog Try.f6 Rows.classNextRow.domain false) (Rows.classNextSpec.post enc Try.prog Try.f6 false true false false) := by
  refine returnsInHanded_of_change (C := Try.checked) own started (by kernel_rfl) Try.func6
    (ChangeSpec.witness6 (enc := enc) (C := Try.checked) false ⟨#[], #[.int .i64 0], []⟩ 8 (by kernel_rfl) (by kernel_rfl) (by kernel_rfl) (by kernel_rfl)) ?_
  intro W base args ds gs before hval0 hW hcnd _
  have hval : ∀ (j : Nat) t v, Try.f6.params[j]? = some t → args[j]? = some v → Value.okWide Try.prog W .any base t v := hval0
  have hW' := hW
  obtain ⟨p, q, hA0, hV, rfl, hfz, hnd⟩ := hW
  have hA : DataW.TrodAll enc Try.prog W 0 (fun _ => true) true Try.f6.params.toList args.toList ds p := hA0
  rw [Try.params6] at hA hval
  obtain ⟨v0, vs0, d0, ds0, p0, q0, hargs, rfl, rfl, h0, r0⟩ := trodAll_cons hA
  obtain ⟨rfl, rfl, rfl⟩ := trodAll_nil r0
  obtain rfl : args = #[v0] := by cases args; simp_all
  obtain ⟨rfl, rfl⟩ := trodVars_none hV
  obtain ⟨a0, rfl, rfl, rfl, w0⟩ := open_int Try.underlying3 (hval 0 3 v0 rfl rfl) h0
  clear hA0 hval0
  refine (walk a0 W (bounds_i64 w0)).mono fun e W' ⟨he, bel⟩ => ?_
  subst he
  exact ⟨_, rfl, _, _, _, [], _, [], hW', trodAll_mk1 (shut_bool Try.underlying4 _), (trodAll_cons_mk (shut_int Try.underlying3 w0) trodAll_mk0), rfl, bel.frame _, fun h => by cases h⟩

theorem over : Rows.classNextRow.holds Try.pinned (OpenSpec.ofChange Rows.classNextSpec) :=
  OpenClaim.holds_of_wide 6 Try.f6 rfl rfl rfl rfl rfl rfl rfl ⟨rfl, rfl, rfl, rfl, rfl⟩ rfl rfl rfl rfl rfl (by kernel_rfl) Try.func6 (by kernel_rfl)
    (of_decide_eq_true (by kernel_rfl)) (by unfold Func.isWrapper; first | (rw [if_pos (by decide +kernel)]; kernel_rfl) | (rw [if_neg (by decide +kernel)]; exact ⟨rfl, rfl⟩))
    (fun os started H enc _ => lifted os started H enc)

theorem proved : Rows.ClassNextSaid := over
#print axioms proved

end Go.Proofs.Ytkeafhkgljmhnaa.classNext
