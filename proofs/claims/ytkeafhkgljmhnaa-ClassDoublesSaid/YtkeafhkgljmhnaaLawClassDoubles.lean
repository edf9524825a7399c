/- For every number from four on: twice a number is rounded to twice as much, two classes on: the law ClassDoubles returns true and its arguments read as they did. No condition. -/
import Derived.Test.YtkeafhkgljmhnaaClassLaw
import Derived.Test.YtkeafhkgljmhnaaOpen
namespace Go.Proofs.Ytkeafhkgljmhnaa.classDoubles
open Go.ChangeShapes Go.WideShapes Go.ChangeAt Go.RowKit
set_option linter.unusedVariables false
set_option linter.unusedSimpArgs false

set_option maxRecDepth 100000 in
set_option maxHeartbeats 2000000 in
theorem walk (a0 : Int) (w : World) (w0 : -9223372036854775808 ≤ a0 ∧ a0 ≤ 9223372036854775807) :
    Calls Try.prog 5 #[.int .i64 a0] w fun e w' => e = .returned (.bool true) ∧ Below w.heap.size w w' := by
  obtain ⟨b0, b1⟩ := w0
  go_enter Try.func5, Try.ntmps5
  go_wp2_with fail
  refine (awake_yes _).mono ?_
  rintro e x ⟨rfl, hB1⟩
  go_wp2_with fail
  refine (picked 4 a0 32765 _ b0 b1 (by omega) (by omega)).mono ?_
  rintro e y ⟨m, m0, m1, rfl, rfl⟩
  have d1 := Cls.at_double (m := m) m0 (by omega)
  have d2 : Cls.rd (2 * m) = 2 * Cls.rd m := by unfold Cls.rd; rw [d1, Cls.sz_two]
  have d3 := Cls.rd_le (m := m) (by omega)
  have d4 := (Cls.at_spec (m := m) (by omega)).1
  go_wp2_with fail
  rw [show (4 : Int) + ((m : Int) - 4) = (m : Int) from by omega]
  refine (round_nat m (by omega) (by omega) _).mono ?_
  rintro e y1 ⟨rfl, hB2⟩
  go_wp2_with fail
  rw [show (2 : Int) * (m : Int) = ((2 * m : Nat) : Int) from by omega]
  refine (round_nat (2 * m) (by omega) (by omega) _).mono ?_
  rintro e y2 ⟨rfl, hB3⟩
  go_wp2_with fail
  refine (class_nat m (by omega) (by omega) _).mono ?_
  rintro e y3 ⟨rfl, hB4⟩
  go_wp2_with fail
  rw [show (2 : Int) * (m : Int) = ((2 * m : Nat) : Int) from by omega]
  refine (class_nat (2 * m) (by omega) (by omega) _).mono ?_
  rintro e y4 ⟨rfl, hB5⟩
  rw [d1]
  have s1 := hB1.size
  have s2 := hB2.size
  have s3 := hB3.size
  have s4 := hB4.size
  have hB : Below w.heap.size w y4 := (hB1.trans (hB2.mono s1)).trans ((hB3.mono (by omega)).trans ((hB4.mono (by omega)).trans (hB5.mono (by omega))))
  clear d1 d2 hB1 hB2 hB3 hB4 hB5
  have e1 : ((2 * Cls.rd m : Nat) : Int) = 2 * (Cls.rd m : Int) := by omega
  have e2 : ((Cls.at' m + 2 : Nat) : Int) = (Cls.at' m : Int) + 2 := by omega
  rw [e2]
  go_wp2
  go_ret
  exact ⟨rfl, hB⟩

set_option maxRecDepth 100000 in
theorem lifted (os : Os) (started : os.Started) (H : Type) (enc : TypeId × Value → H) :
    ReturnsInHanded {} Try.checked os 5 .any (Rows.classDoublesSpec.pre6 enc Try.prog Try.f5 Rows.classDoublesRow.domain false) (Rows.classDoublesSpec.post enc Try.prog Try.f5 false true false false) := by
  refine returnsInHanded_of_change (C := Try.checked) own started (by kernel_rfl) Try.func5
    (ChangeSpec.witness6 (enc := enc) (C := Try.checked) false ⟨#[], #[.int .i64 0], []⟩ 8 (by kernel_rfl) (by kernel_rfl) (by kernel_rfl) (by kernel_rfl)) ?_
  intro W base args ds gs before hval0 hW hcnd _
  have hval : ∀ (j : Nat) t v, Try.f5.params[j]? = some t → args[j]? = some v → Value.okWide Try.prog W .any base t v := hval0
  have hW' := hW
  obtain ⟨p, q, hA0, hV, rfl, hfz, hnd⟩ := hW
  have hA : DataW.TrodAll enc Try.prog W 0 (fun _ => true) true Try.f5.params.toList args.toList ds p := hA0
  rw [Try.params5] at hA hval
  obtain ⟨v0, vs0, d0, ds0, p0, q0, hargs, rfl, rfl, h0, r0⟩ := trodAll_cons hA
  obtain ⟨rfl, rfl, rfl⟩ := trodAll_nil r0
  obtain rfl : args = #[v0] := by cases args; simp_all
  obtain ⟨rfl, rfl⟩ := trodVars_none hV
  obtain ⟨a0, rfl, rfl, rfl, w0⟩ := open_int Try.underlying3 (hval 0 3 v0 rfl rfl) h0
  clear hA0 hval0
  refine (walk a0 W (bounds_i64 w0)).mono fun e W' ⟨he, bel⟩ => ?_
  subst he
  exact ⟨_, rfl, _, _, _, [], _, [], hW', trodAll_mk1 (shut_bool Try.underlying4 _), (trodAll_cons_mk (shut_int Try.underlying3 w0) trodAll_mk0), rfl, bel.frame _, fun h => by cases h⟩

theorem over : Rows.classDoublesRow.holds Try.pinned (OpenSpec.ofChange Rows.classDoublesSpec) :=
  OpenClaim.holds_of_wide 5 Try.f5 rfl rfl rfl rfl rfl rfl rfl ⟨rfl, rfl, rfl, rfl, rfl⟩ rfl rfl rfl rfl rfl (by kernel_rfl) Try.func5 (by kernel_rfl)
    (of_decide_eq_true (by kernel_rfl)) (by unfold Func.isWrapper; first | (rw [if_pos (by decide +kernel)]; kernel_rfl) | (rw [if_neg (by decide +kernel)]; exact ⟨rfl, rfl⟩))
    (fun os started H enc _ => lifted os started H enc)

theorem proved : Rows.ClassDoublesSaid := over
#print axioms proved

end Go.Proofs.Ytkeafhkgljmhnaa.classDoubles
