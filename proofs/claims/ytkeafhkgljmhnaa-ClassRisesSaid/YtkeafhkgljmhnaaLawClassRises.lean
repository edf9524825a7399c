/- For every two numbers: rounded numbers, and classes, rise with what is rounded: the law ClassRises returns true and its arguments read as they did. No condition. -/
import Derived.Test.YtkeafhkgljmhnaaClassLaw
import Derived.Test.YtkeafhkgljmhnaaOpen
namespace Go.Proofs.Ytkeafhkgljmhnaa.classRises
open Go.ChangeShapes Go.WideShapes Go.ChangeAt Go.RowKit
set_option linter.unusedVariables false
set_option linter.unusedSimpArgs false



set_option maxRecDepth 100000 in
set_option maxHeartbeats 2000000 in
theorem walk (a0 a1 : Int) (w : World) (w0 : -9223372036854775808 ≤ a0 ∧ a0 ≤ 9223372036854775807) (w1 : -9223372036854775808 ≤ a1 ∧ a1 ≤ 9223372036854775807) :
    Calls Try.prog 4 #[.int .i64 a0, .int .i64 a1] w fun e w' => e = .returned (.bool true) ∧ Below w.heap.size w w' := by
  obtain ⟨b0, b1⟩ := w0
  obtain ⟨b2, b3⟩ := w1
  go_enter Try.func4, Try.ntmps4
  go_wp2_with fail
  refine (awake_yes _).mono ?_
  rintro e x ⟨rfl, hB1⟩
  go_wp2_with fail
  refine (picked 1 a0 65536 _ b0 b1 (by omega) (by omega)).mono ?_
  rintro e y ⟨m, m0, m1, rfl, rfl⟩
  go_wp2_with fail
  rw [show (1 : Int) + ((m : Int) - 1) = (m : Int) from by omega]
  refine (picked 1 a1 65536 _ b2 b3 (by omega) (by omega)).mono ?_
  rintro e y ⟨n, n0, n1, rfl, rfl⟩
  by_cases hnm : n < m
  · obtain ⟨p, rfl⟩ : ∃ p : Nat, p = n := ⟨_, rfl⟩
    obtain ⟨q, rfl⟩ : ∃ q : Nat, q = m := ⟨_, rfl⟩
    have t1 : (1 + ((p : Int) - 1) < (q : Int)) = True := by simp; omega
    have t2 : ((q : Int) < 1 + ((p : Int) - 1)) = False := by simp; omega
    have t3 : ((p : Int) < (q : Int)) = True := by simp; omega
    have t4 : ((q : Int) < (p : Int)) = False := by simp; omega
    have p0 : 1 ≤ p ∧ p ≤ 65536 := by omega
    have q0 : 1 ≤ q ∧ q ≤ 65536 := by omega
    have r1 := Cls.rd_mono (show p ≤ q by omega) q0.2
    have r2 := Cls.at_mono (show p ≤ q by omega) q0.2
    have r3 := Cls.rd_eq_iff (m := p) (n := q)
    go_wp2_with fail
    first | rw [show (1 : Int) + ((p : Int) - 1) = (p : Int) from by omega] | rw [show (1 : Int) + ((q : Int) - 1) = (q : Int) from by omega]
    refine (round_nat p p0.1 p0.2 _).mono ?_
    rintro e y1 ⟨rfl, hB2⟩
    go_wp2_with fail
    refine (round_nat q q0.1 q0.2 _).mono ?_
    rintro e y2 ⟨rfl, hB3⟩
    go_wp2_with fail
    refine (class_nat p p0.1 p0.2 _).mono ?_
    rintro e y3 ⟨rfl, hB4⟩
    go_wp2_with fail
    refine (class_nat q q0.1 q0.2 _).mono ?_
    rintro e y4 ⟨rfl, hB5⟩
    have s1 := hB1.size
    have s2 := hB2.size
    have s3 := hB3.size
    have s4 := hB4.size
    have hB : Below w.heap.size w y4 := (hB1.trans (hB2.mono s1)).trans ((hB3.mono (by omega)).trans ((hB4.mono (by omega)).trans (hB5.mono (by omega))))
    clear hB1 hB2 hB3 hB4 hB5
    generalize Cls.rd p = a at *
    generalize Cls.rd q = b at *
    generalize Cls.at' p = k at *
    generalize Cls.at' q = l at *
    by_cases h : k = l
    · have h1 : ((k : Int) == (l : Int)) = true := by simp; omega
      have h2 : ((a : Int) == (b : Int)) = true := by simp; omega
      clear h r3
      go_wp2
      go_ret
      exact ⟨rfl, hB⟩
    · have h1 : ((k : Int) == (l : Int)) = false := by simp; omega
      have h2 : ((a : Int) == (b : Int)) = false := by simp; omega
      clear h r3
      go_wp2
      go_ret
      exact ⟨rfl, hB⟩
  · obtain ⟨p, rfl⟩ : ∃ p : Nat, p = m := ⟨_, rfl⟩
    obtain ⟨q, rfl⟩ : ∃ q : Nat, q = n := ⟨_, rfl⟩
    by_cases e : p = q
    · subst e
      have t1 : (1 + ((p : Int) - 1) < (p : Int)) = False := by simp; omega
      have t2 : ((p : Int) < 1 + ((p : Int) - 1)) = False := by simp; omega
      have p0 : 1 ≤ p ∧ p ≤ 65536 := by omega
      go_wp2_with fail
      rw [show (1 : Int) + ((p : Int) - 1) = (p : Int) from by omega]
      refine (round_nat p p0.1 p0.2 _).mono ?_
      rintro e y1 ⟨rfl, hB2⟩
      go_wp2_with fail
      refine (round_nat p p0.1 p0.2 _).mono ?_
      rintro e y2 ⟨rfl, hB3⟩
      go_wp2_with fail
      refine (class_nat p p0.1 p0.2 _).mono ?_
      rintro e y3 ⟨rfl, hB4⟩
      go_wp2_with fail
      refine (class_nat p p0.1 p0.2 _).mono ?_
      rintro e y4 ⟨rfl, hB5⟩
      have s1 := hB1.size
      have s2 := hB2.size
      have s3 := hB3.size
      have s4 := hB4.size
      have hB : Below w.heap.size w y4 := (hB1.trans (hB2.mono s1)).trans ((hB3.mono (by omega)).trans ((hB4.mono (by omega)).trans (hB5.mono (by omega))))
      clear hB1 hB2 hB3 hB4 hB5
      go_wp2
      go_ret
      exact ⟨rfl, hB⟩
    · have t1 : (1 + ((q : Int) - 1) < (p : Int)) = False := by simp; omega
      have t2 : ((p : Int) < 1 + ((q : Int) - 1)) = True := by simp; omega
      have t3 : ((q : Int) < (p : Int)) = False := by simp; omega
      have t4 : ((p : Int) < (q : Int)) = True := by simp; omega
      have p0 : 1 ≤ p ∧ p ≤ 65536 := by omega
      have q0 : 1 ≤ q ∧ q ≤ 65536 := by omega
      have r1 := Cls.rd_mono (show p ≤ q by omega) q0.2
      have r2 := Cls.at_mono (show p ≤ q by omega) q0.2
      have r3 := Cls.rd_eq_iff (m := p) (n := q)
      go_wp2_with fail
      first | rw [show (1 : Int) + ((p : Int) - 1) = (p : Int) from by omega] | rw [show (1 : Int) + ((q : Int) - 1) = (q : Int) from by omega]
      refine (round_nat p p0.1 p0.2 _).mono ?_
      rintro e y1 ⟨rfl, hB2⟩
      go_wp2_with fail
      refine (round_nat q q0.1 q0.2 _).mono ?_
      rintro e y2 ⟨rfl, hB3⟩
      go_wp2_with fail
      refine (class_nat p p0.1 p0.2 _).mono ?_
      rintro e y3 ⟨rfl, hB4⟩
      go_wp2_with fail
      refine (class_nat q q0.1 q0.2 _).mono ?_
      rintro e y4 ⟨rfl, hB5⟩
      have s1 := hB1.size
      have s2 := hB2.size
      have s3 := hB3.size
      have s4 := hB4.size
      have hB : Below w.heap.size w y4 := (hB1.trans (hB2.mono s1)).trans ((hB3.mono (by omega)).trans ((hB4.mono (by omega)).trans (hB5.mono (by omega))))
      clear hB1 hB2 hB3 hB4 hB5
      generalize Cls.rd p = a at *
      generalize Cls.rd q = b at *
      generalize Cls.at' p = k at *
      generalize Cls.at' q = l at *
      by_cases h : k = l
      · have h1 : ((k : Int) == (l : Int)) = true := by simp; omega
        have h2 : ((a : Int) == (b : Int)) = true := by simp; omega
        clear h r3
        go_wp2
        go_ret
        exact ⟨rfl, hB⟩
      · have h1 : ((k : Int) == (l : Int)) = false := by simp; omega
        have h2 : ((a : Int) == (b : Int)) = false := by simp; omega
        clear h r3
        go_wp2
        go_ret
        exact ⟨rfl, hB⟩

set_option maxRecDepth 100000 in
theorem lifted (os : Os) (started : os.Started) (H : Type) (enc : TypeId × Value → H) :
    ReturnsInHanded {} Try.checked os 4 .any (Rows.classRisesSpec.pre6 enc Try.prog Try.f4 Rows.classRisesRow.domain false) (Rows.classRisesSpec.post enc Try.prog Try.f4 false true false false) := by
  refine returnsInHanded_of_change (C := Try.checked) own started (by kernel_rfl) Try.func4
    (ChangeSpec.witness6 (enc := enc) (C := Try.checked) false ⟨#[], #[.int .i64 0, .int .i64 0], []⟩ 8 (by kernel_rfl) (by kernel_rfl) (by kernel_rfl) (by kernel_rfl)) ?_
  intro W base args ds gs before hval0 hW hcnd _
  have hval : ∀ (j : Nat) t v, Try.f4.params[j]? = some t → args[j]? = some v → Value.okWide Try.prog W .any base t v := hval0
  have hW' := hW
  obtain ⟨p, q, hA0, hV, rfl, hfz, hnd⟩ := hW
  have hA : DataW.TrodAll enc Try.prog W 0 (fun _ => true) true Try.f4.params.toList args.toList ds p := hA0
  rw [Try.params4] at hA hval
  obtain ⟨v0, vs0, d0, ds0, p0, q0, hargs, rfl, rfl, h0, r0⟩ := trodAll_cons hA
  obtain ⟨v1, vs1, d1, ds1, p1, q1, rfl, rfl, rfl, h1, r1⟩ := trodAll_cons r0
  obtain ⟨rfl, rfl, rfl⟩ := trodAll_nil r1
  obtain rfl : args = #[v0, v1] := by cases args; simp_all
  obtain ⟨rfl, rfl⟩ := trodVars_none hV
  obtain ⟨a0, rfl, rfl, rfl, w0⟩ := open_int Try.underlying3 (hval 0 3 v0 rfl rfl) h0
  obtain ⟨a1, rfl, rfl, rfl, w1⟩ := open_int Try.underlying3 (hval 1 3 v1 rfl rfl) h1
  clear hA0 hval0
  refine (walk a0 a1 W (bounds_i64 w0) (bounds_i64 w1)).mono fun e W' ⟨he, bel⟩ => ?_
  subst he
  exact ⟨_, rfl, _, _, _, [], _, [], hW', trodAll_mk1 (shut_bool Try.underlying4 _), (trodAll_cons_mk (shut_int Try.underlying3 w0) (trodAll_cons_mk (shut_int Try.underlying3 w1) trodAll_mk0)), rfl, bel.frame _, fun h => by cases h⟩

theorem over : Rows.classRisesRow.holds Try.pinned (OpenSpec.ofChange Rows.classRisesSpec) :=
  OpenClaim.holds_of_wide 4 Try.f4 rfl rfl rfl rfl rfl rfl rfl ⟨rfl, rfl, rfl, rfl, rfl⟩ rfl rfl rfl rfl rfl (by kernel_rfl) Try.func4 (by kernel_rfl)
    (of_decide_eq_true (by kernel_rfl)) (by unfold Func.isWrapper; first | (rw [if_pos (by decide +kernel)]; kernel_rfl) | (rw [if_neg (by decide +kernel)]; exact ⟨rfl, rfl⟩))
    (fun os started H enc _ => lifted os started H enc)

theorem proved : Rows.ClassRisesSaid := over
#print axioms proved

end Go.Proofs.Ytkeafhkgljmhnaa.classRises
