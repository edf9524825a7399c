/- For every number: Round is no less than n, and of a size that size; from 3 on no more than half of n is lost: the law ClassRounds returns true and its arguments read as they did. No condition. -/
import Derived.Test.YtkeafhkgljmhnaaClassLaw
import Derived.Test.YtkeafhkgljmhnaaOpen
namespace Go.Proofs.Ytkeafhkgljmhnaa.classRounds
open Go.ChangeShapes Go.WideShapes Go.ChangeAt Go.RowKit
set_option linter.unusedVariables false
set_option linter.unusedSimpArgs false


set_option maxRecDepth 100000 in
set_option maxHeartbeats 2000000 in
theorem walk (a0 : Int) (w : World) (w0 : -9223372036854775808 ≤ a0 ∧ a0 ≤ 9223372036854775807) :
    Calls Try.prog 3 #[.int .i64 a0] w fun e w' => e = .returned (.bool true) ∧ Below w.heap.size w w' := by
  obtain ⟨b0, b1⟩ := w0
  go_enter Try.func3, Try.ntmps3
  go_wp2_with fail
  refine (awake_yes _).mono ?_
  rintro e x ⟨rfl, hB1⟩
  go_wp2_with fail
  refine (picked 1 a0 65536 _ b0 b1 (by omega) (by omega)).mono ?_
  rintro e y ⟨m, m0, m1, rfl, rfl⟩
  go_wp2_with fail
  rw [show (1 : Int) + ((m : Int) - 1) = (m : Int) from by omega]
  refine (round_nat m m0 (by omega) _).mono ?_
  rintro e y1 ⟨rfl, hB2⟩
  have r1 := Cls.rd_ge (m := m) (by omega)
  have r2 := Cls.rd_le (m := m) (by omega)
  have r3 := Cls.rd_half (m := m) (by omega)
  have r4 := Lib.hid (Cls.rd_rd (m := m) (by omega))
  have i1 : ((Cls.rd m : Int) < (m : Int)) = False := by simp; omega
  have i2 : ((65536 : Int) < (Cls.rd m : Int)) = False := by simp; omega
  by_cases h3 : 3 ≤ m
  · have i3 : ((3 : Int) ≤ (m : Int)) = True := by simp; omega
    have r3' := r3 h3
    have i4 : (3 * (m : Int) < 2 * (Cls.rd m : Int)) = False := by simp; omega
    clear r3
    go_wp2_with fail
    refine (round_nat (Cls.rd m) (by omega) r2 _).mono ?_
    rintro e y2 ⟨rfl, hB3⟩
    rw [r4.out]
    have s1 := hB1.size
    have s2 := hB2.size
    go_wp2
    go_ret
    exact ⟨rfl, (hB1.trans (hB2.mono s1)).trans (hB3.mono (by omega))⟩
  · have i3 : ((3 : Int) ≤ (m : Int)) = False := by simp; omega
    clear r3
    go_wp2_with fail
    refine (round_nat (Cls.rd m) (by omega) r2 _).mono ?_
    rintro e y2 ⟨rfl, hB3⟩
    rw [r4.out]
    have s1 := hB1.size
    have s2 := hB2.size
    go_wp2
    go_ret
    exact ⟨rfl, (hB1.trans (hB2.mono s1)).trans (hB3.mono (by omega))⟩

set_option maxRecDepth 100000 in
theorem lifted (os : Os) (started : os.Started) (H : Type) (enc : TypeId × Value → H) :
    ReturnsInHanded {} Try.checked os 3 .any (Rows.classRoundsSpec.pre6 enc Try.prog Try.f3 Rows.classRoundsRow.domain false) (Rows.classRoundsSpec.post enc Try.prog Try.f3 false true false false) := by
  refine returnsInHanded_of_change (C := Try.checked) own started (by kernel_rfl) Try.func3
    (ChangeSpec.witness6 (enc := enc) (C := Try.checked) false ⟨#[], #[.int .i64 0], []⟩ 8 (by kernel_rfl) (by kernel_rfl) (by kernel_rfl) (by kernel_rfl)) ?_
  intro W base args ds gs before hval0 hW hcnd _
  have hval : ∀ (j : Nat) t v, Try.f3.params[j]? = some t → args[j]? = some v → Value.okWide Try.prog W .any base t v := hval0
  have hW' := hW
  obtain ⟨p, q, hA0, hV, rfl, hfz, hnd⟩ := hW
  have hA : DataW.TrodAll enc Try.prog W 0 (fun _ => true) true Try.f3.params.toList args.toList ds p := hA0
  rw [Try.params3] at hA hval
  obtain ⟨v0, vs0, d0, ds0, p0, q0, hargs, rfl, rfl, h0, r0⟩ := trodAll_cons hA
  obtain ⟨rfl, rfl, rfl⟩ := trodAll_nil r0
  obtain rfl : args = #[v0] := by cases args; simp_all
  obtain ⟨rfl, rfl⟩ := trodVars_none hV
  obtain ⟨a0, rfl, rfl, rfl, w0⟩ := open_int Try.underlying3 (hval 0 3 v0 rfl rfl) h0
  clear hA0 hval0
  refine (walk a0 W (bounds_i64 w0)).mono fun e W' ⟨he, bel⟩ => ?_
  subst he
  exact ⟨_, rfl, _, _, _, [], _, [], hW', trodAll_mk1 (shut_bool Try.underlying4 _), (trodAll_cons_mk (shut_int Try.underlying3 w0) trodAll_mk0), rfl, bel.frame _, fun h => by cases h⟩

theorem over : Rows.classRoundsRow.holds Try.pinned (OpenSpec.ofChange Rows.classRoundsSpec) :=
  OpenClaim.holds_of_wide 3 Try.f3 rfl rfl rfl rfl rfl rfl rfl ⟨rfl, rfl, rfl, rfl, rfl⟩ rfl rfl rfl rfl rfl (by kernel_rfl) Try.func3 (by kernel_rfl)
    (of_decide_eq_true (by kernel_rfl)) (by unfold Func.isWrapper; first | (rw [if_pos (by decide +kernel)]; kernel_rfl) | (rw [if_neg (by decide +kernel)]; exact ⟨rfl, rfl⟩))
    (fun os started H enc _ => lifted os started H enc)

theorem proved : Rows.ClassRoundsSaid := over
#print axioms proved

end Go.Proofs.Ytkeafhkgljmhnaa.classRounds
