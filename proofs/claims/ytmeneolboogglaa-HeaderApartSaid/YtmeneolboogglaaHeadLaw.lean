/- The laws' own look at chapter header's example, and the right shape that raw numbers speak of: true, and nothing that lay has turned. No condition. -/
import Derived.Test.YtmeneolboogglaaHeadMore
import Derived.Test.YtmeneolboogglaaPick
import Derived.Test.YtmeneolboogglaaOpen
namespace Go.Proofs.Ytmeneolboogglaa
open Go.ChangeShapes Go.WideShapes Go.ChangeAt Go.RowKit

set_option linter.unusedSimpArgs false
set_option linter.unusedVariables false

theorem sh_of {p d : Nat} {fn : Bool} (hp : p ≤ 8) (hd : d ≤ 8) : shB p d false fn = true := by
  unfold shB cnt
  simp
  omega

set_option maxHeartbeats 1000000 in
theorem fit_sh (a0 a1 a2 : Int) (w : World) (w0 : -9223372036854775808 ≤ a0 ∧ a0 ≤ 9223372036854775807) (w1 : -9223372036854775808 ≤ a1 ∧ a1 ≤ 9223372036854775807) (w2 : -9223372036854775808 ≤ a2 ∧ a2 ≤ 9223372036854775807) :
    Calls Try.prog 17 #[.int .i64 a0, .int .i64 a1, .int .i64 a2] w fun e w' => ∃ (p d : Nat) (wk fn : Bool), p ≤ 8 ∧ d ≤ 8 ∧ shB p d wk fn = true ∧ e = .returned (shV p d wk fn) ∧ Below w.heap.size w w' := by
  obtain ⟨k, hk, hK⟩ : ∃ k : Nat, k < 5 ∧ ∀ w, Calls Try.prog 9 #[.int .i64 a2, .int .i64 5] w fun e w' => e = .returned (.int .i64 k) ∧ w = w' := by
    have p := pick_bounds a2 5 (by omega)
    refine ⟨(pickOf a2 5).toNat, by omega, fun w => ?_⟩
    rw [Int.toNat_of_nonneg p.1]
    exact pick_any a2 5 w w2.1 w2.2 (by omega) (by omega)
  go_enter Try.func17, Try.ntmps17
  go_wp2_with fail
  refine (hK _).mono ?_
  rintro e x ⟨rfl, rfl⟩
  by_cases h4 : k = 4
  · subst h4
    go_wp2
    have hE := ResAt.new w #[.int .i64 1, .int .i64 0, .bool true, .bool false] 30
    refine bodyPost_ret (v := shV 1 0 true false) ?_ rfl ⟨1, 0, true, false, by omega, by omega, rfl, rfl, hE.below⟩
    simp [results, Try.f17, go_sem]
  · have n1 : ((k : Int) = 4) = False := by simp; omega
    go_wp2_with fail
    refine (pick_nat a0 9 _ w0.1 w0.2 (by omega) (by omega)).mono ?_
    rintro e x ⟨p, hp, rfl, rfl⟩
    go_wp2_with fail
    refine (pick_nat a1 9 _ w1.1 w1.2 (by omega) (by omega)).mono ?_
    rintro e x ⟨d, hd, rfl, rfl⟩
    go_wp2_with fail
    refine (hK _).mono ?_
    rintro e x ⟨rfl, rfl⟩
    go_wp2
    have hE := ResAt.new w #[.int .i64 p, .int .i64 d, .bool false, .bool ((k : Int) == 3)] 30
    refine bodyPost_ret (v := shV p d false ((k : Int) == 3)) ?_ rfl ⟨p, d, false, _, by omega, by omega, sh_of (by omega) (by omega), rfl, hE.below⟩
    simp [results, Try.f17, go_sem]

theorem head_37 (w : World) : Calls Try.prog 16 #[shV 2 1 false false, .bool false] w fun e w' => e = .returned (.tuple #[.int .u64 37, .bool true]) ∧ Below w.heap.size w w' :=
  head_yes 2 1 false false false (by decide) (by omega) (by omega) w
theorem shape_37 (w : World) : Calls Try.prog 12 #[.int .u64 37] w fun e w' => e = .returned (.tuple #[shV 2 1 false false, .bool false, .bool true]) ∧ Below w.heap.size w w' :=
  shape_any 37 (by omega) w
theorem gone_5 (w : World) : Calls Try.prog 10 #[.int .i64 5] w fun e w' => e = .returned (.tuple #[.int .u64 22, .bool true]) ∧ Below w.heap.size w w' :=
  gone_any 5 (by omega) w
theorem held_3 (w : World) : Calls Try.prog 13 #[.int .i64 3] w fun e w' => e = .returned (.tuple #[.int .u64 7, .bool true]) ∧ Below w.heap.size w w' :=
  held_any 3 (by omega) w
theorem owner_7 (w : World) : Calls Try.prog 15 #[.int .u64 7] w fun e w' => e = .returned (.tuple #[.int .i64 3, .int .i64 0, .bool true]) ∧ Below w.heap.size w w' :=
  owner_held 3 (by omega) w
theorem size_6 (w : World) : Calls Try.prog 18 #[shV 2 1 false false] w fun e w' => e = .returned (.tuple #[.int .i64 6, .bool true]) ∧ Below w.heap.size w w' :=
  size_yes 2 1 false false (by decide) (by omega) (by omega) w

set_option maxRecDepth 100000 in
set_option maxHeartbeats 2000000 in
theorem awake_yes (w : World) : Calls Try.prog 8 #[] w fun e w' => e = .returned (.bool true) ∧ Below w.heap.size w w' := by
  go_enter Try.func8, Try.ntmps8
  go_wp2_with fail
  refine (head_37 _).mono ?_
  rintro e x1 ⟨rfl, hb1⟩
  go_wp2_with fail
  refine (shape_37 _).mono ?_
  rintro e x2 ⟨rfl, hb2⟩
  replace hb2 := hb1.trans (hb2.mono hb1.size)
  go_wp2_with fail
  have hT : ShAt w (x2.alloc (.cells #[.int .i64 2, .int .i64 1, .bool false, .bool false] 30)) x2.heap.size 2 1 false false :=
    ⟨by simp, by simp, by simp, by simp, by simp; exact Nat.le_succ_of_le hb2.size, by simp, hb2.alloc hb2.size _⟩
  clear hb1 hb2
  refine (gone_5 _).mono ?_
  rintro e x3 ⟨rfl, hb⟩
  replace hT := keepSh hT hb
  clear hb
  go_wp2_with fail
  refine (held_3 _).mono ?_
  rintro e x4 ⟨rfl, hb⟩
  replace hT := keepSh hT hb
  clear hb
  go_wp2_with fail
  refine (owner_7 _).mono ?_
  rintro e x5 ⟨rfl, hb⟩
  replace hT := keepSh hT hb
  clear hb
  obtain ⟨c0, c1, c2, c3, s1, k1, hB⟩ := hT
  go_wp2_with fail
  refine (size_6 _).mono ?_
  rintro e x6 ⟨rfl, hb⟩
  obtain ⟨c0, c1, c2, c3, s1, k1, hB⟩ := keepSh ⟨c0, c1, c2, c3, s1, k1, hB⟩ hb
  clear hb
  go_wp2
  go_ret
  exact ⟨rfl, hB⟩

end Go.Proofs.Ytmeneolboogglaa
