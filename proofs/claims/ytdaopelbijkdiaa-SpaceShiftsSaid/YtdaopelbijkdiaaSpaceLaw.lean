/- The laws' own look at chapter space's example, and the right space that raw numbers speak of: true, and nothing that lay has turned. No condition. -/
import Derived.Test.YtdaopelbijkdiaaSpace
import Derived.StillTailTactics
import Derived.Test.YtdaopelbijkdiaaOpen
namespace Go.Proofs.Ytdaopelbijkdiaa
open Go.RowKit

set_option linter.unusedSimpArgs false
set_option linter.unusedVariables false

theorem below_drewN {B : Nat} {a w : World} (h : Below B a w) (n : Nat) : Below B a (w.drewN n) := ⟨h.os, h.tape, h.output, h.size, h.block⟩

/-- What a walk needs of a row of numbers that came in. -/
theorem IsRow.read {w : World} {a : Option Addr} {len cap : Nat} {zs : List Int} (hr : IsRow .i64 w a len cap zs) : len ≤ 9223372036854775807 ∧ ∀ k, k < len → ∃ b off x, a = some ⟨b, off, none⟩ ∧ b < w.heap.size ∧ w.cell? ⟨b, off + k, none⟩ = some (.int .i64 x) ∧ -9223372036854775808 ≤ x ∧ x ≤ 9223372036854775807 := by
  rcases hr with ⟨h0, _⟩ | ⟨b, off, rfl, hb, hl, hm, hz, hc, hw⟩
  · exact ⟨by omega, fun k hk => by omega⟩
  · refine ⟨by unfold maxLen at hm; omega, fun k hk => ?_⟩
    have hkz : k < zs.length := by omega
    have hg : zs.getD k 0 ∈ zs := by rw [List.getD_eq_getElem?_getD, List.getElem?_eq_getElem hkz]; exact List.getElem_mem hkz
    have := bounds_i64 (hw _ hg)
    exact ⟨b, off, _, rfl, hb, hc k hkz, this.1, this.2⟩

set_option maxHeartbeats 2000000 in
theorem fit_nat (a0 a1 a2 : Int) (w : World) (w0 : -9223372036854775808 ≤ a0 ∧ a0 ≤ 9223372036854775807) (w1 : -9223372036854775808 ≤ a1 ∧ a1 ≤ 9223372036854775807) (w2 : -9223372036854775808 ≤ a2 ∧ a2 ≤ 9223372036854775807) :
    Calls Try.prog 9 #[.int .i64 a0, .int .i64 a1, .int .i64 a2] w fun e w' => ∃ b z u : Nat, b < 1000 ∧ z < 300 ∧ u ≤ z ∧ e = .returned (spV b z (b + u)) ∧ Below w.heap.size w w' := by
  go_enter Try.func9, Try.ntmps9
  go_wp2_with fail
  refine (pick_nat a0 1000 _ w0.1 w0.2 (by omega) (by omega)).mono ?_
  rintro e x ⟨b, hb, rfl, rfl⟩
  go_wp2_with fail
  refine (pick_nat a1 300 _ w1.1 w1.2 (by omega) (by omega)).mono ?_
  rintro e x ⟨z, hz, rfl, rfl⟩
  obtain ⟨u, hu, hp⟩ : ∃ u : Nat, u ≤ z ∧ ∀ w, Calls Try.prog 10 #[.int .i64 a2, .int .i64 ((z : Int) + 1)] w fun e w' => e = .returned (.int .i64 u) ∧ w' = w := by
    have p := pick_bounds a2 ((z : Int) + 1) (by omega)
    refine ⟨(pickOf a2 ((z : Int) + 1)).toNat, by omega, fun w => ?_⟩
    rw [Int.toNat_of_nonneg p.1]
    exact (pick_any a2 ((z : Int) + 1) w w2.1 w2.2 (by omega) (by omega)).mono fun _ _ ⟨h1, h2⟩ => ⟨h1, h2.symm⟩
  have hw0 : IntKind.i64.wrap ((z : Int) + 1) = (z : Int) + 1 := IntWalk.i64_in _ (by omega)
  have hw : IntKind.i64.wrap ((b : Int) + (u : Int)) = (b : Int) + (u : Int) := IntWalk.i64_in _ (by omega)
  go_wp2_with fail
  have hT := TwoAt.new w #[.int .i64 0, .int .i64 0, .int .i64 0] #[.int .i64 b, .int .i64 z, .int .i64 0]
  obtain ⟨y, hy⟩ : ∃ y, (w.alloc (.cells #[.int .i64 0, .int .i64 0, .int .i64 0] 26)).alloc (.cells #[.int .i64 b, .int .i64 z, .int .i64 0] 26) = y := ⟨_, rfl⟩
  rw [hy] at hT
  rw [hy]
  clear hy
  obtain ⟨⟨c0, c1, c2, d0, d1, d2⟩, f0, f1, f2, g0, g1, g2⟩ := hT.facts
  go_still_tail 9, (by kernel_rfl)
  still_call (hp _)
  repeat still_step
  refine wpStill_nil ?_
  change wpList _ _ _ _ _ (World.drew _)
  go_wp2
  have hE := ((((hT.set2 2 (.int .i64 ((b : Int) + u))).set1 0 (.int .i64 b)).set1 1 (.int .i64 z)).set1 2 (.int .i64 ((b : Int) + u)))
  obtain ⟨⟨e0, e1, e2, _⟩, _⟩ := hE.facts
  refine bodyPost_ret (v := spV b z (b + u)) ?_ rfl ⟨b, z, u, hb, hz, hu, rfl, hE.below.drew⟩
  simp [results, Try.f9, go_sem, e0, e1, e2]

theorem take_5a (w : World) : Calls Try.prog 13 #[.agg #[.int .i64 10, .int .i64 20, .int .i64 10], .int .i64 5] w fun e w' => e = .returned (.tuple #[.agg #[.int .i64 10, .int .i64 20, .int .i64 16], .int .i64 10, .bool true]) ∧ Below w.heap.size w w' :=
  take_yes 10 20 10 5 ⟨by omega, by omega, by omega, by omega⟩ (by omega) (by omega) (by decide) w
theorem take_5b (w : World) : Calls Try.prog 13 #[.agg #[.int .i64 10, .int .i64 20, .int .i64 16], .int .i64 5] w fun e w' => e = .returned (.tuple #[.agg #[.int .i64 10, .int .i64 20, .int .i64 22], .int .i64 16, .bool true]) ∧ Below w.heap.size w w' :=
  take_yes 10 20 16 5 ⟨by omega, by omega, by omega, by omega⟩ (by omega) (by omega) (by decide) w

/-- One word is taken: the least size. -/
theorem take_one (b z p : Nat) (h : SpOk b z p) (hr : p + 4 ≤ b + z) (w : World) : Calls Try.prog 13 #[.agg #[.int .i64 b, .int .i64 z, .int .i64 p], .int .i64 1] w fun e w' => e = .returned (.tuple #[.agg #[.int .i64 b, .int .i64 z, .int .i64 (p + 4 : Nat)], .int .i64 p, .bool true]) ∧ Below w.heap.size w w' := by
  have h1 : Cls.rd 1 = 4 := by decide
  have := take_yes b z p 1 h (by omega) (by omega) (by omega) w
  rw [h1] at this
  exact this
theorem take_one_full (b z p : Nat) (h : SpOk b z p) (hr : b + z < p + 4) (w : World) : Calls Try.prog 13 #[.agg #[.int .i64 b, .int .i64 z, .int .i64 p], .int .i64 1] w fun e w' => e = .returned (.tuple #[.agg #[.int .i64 b, .int .i64 z, .int .i64 p], .int .i64 0, .bool false]) ∧ Below w.heap.size w w' := by
  have h1 : Cls.rd 1 = 4 := by decide
  exact take_full b z p 1 h (by omega) (by omega) (by omega) w

/-- The same is taken of two spaces that are alike but for their bases. -/
theorem take_two (b c z v n : Nat) (hb : b ≤ 65536) (hc : c ≤ 65536) (hz : z ≤ 65536) (hv : v ≤ z) (hn : n ≤ 65536) : ∃ (v' a1 a2 : Nat) (ok : Bool), v' ≤ z ∧ (ok = true → a1 = b + v ∧ a2 = c + v) ∧
    (∀ w, Calls Try.prog 13 #[spV b z (b + v), .int .i64 n] w fun e w' => e = .returned (.tuple #[spV b z (b + v'), .int .i64 a1, .bool ok]) ∧ Below w.heap.size w w') ∧
    (∀ w, Calls Try.prog 13 #[spV c z (c + v), .int .i64 n] w fun e w' => e = .returned (.tuple #[spV c z (c + v'), .int .i64 a2, .bool ok]) ∧ Below w.heap.size w w') := by
  have o1 : SpOk b z (b + v) := ⟨by omega, by omega, by omega, by omega⟩
  have o2 : SpOk c z (c + v) := ⟨by omega, by omega, by omega, by omega⟩
  by_cases h0 : n = 0
  · exact ⟨v, 0, 0, false, hv, (nomatch ·), take_none b z (b + v) n (by omega) (by omega) (by omega) o1, take_none c z (c + v) n (by omega) (by omega) (by omega) o2⟩
  · by_cases h1 : v + Cls.rd n ≤ z
    · refine ⟨v + Cls.rd n, b + v, c + v, true, h1, fun _ => ⟨rfl, rfl⟩, ?_, ?_⟩
      · rw [← Nat.add_assoc]; exact take_yes b z (b + v) n o1 (by omega) hn (by omega)
      · rw [← Nat.add_assoc]; exact take_yes c z (c + v) n o2 (by omega) hn (by omega)
    · exact ⟨v, 0, 0, false, hv, (nomatch ·), take_full b z (b + v) n o1 (by omega) hn (by omega), take_full c z (c + v) n o2 (by omega) hn (by omega)⟩

set_option maxRecDepth 100000 in
set_option maxHeartbeats 2000000 in
theorem awake_yes (w : World) : Calls Try.prog 7 #[] w fun e w' => e = .returned (.bool true) ∧ Below w.heap.size w w' := by
  go_enter Try.func7, Try.ntmps7
  go_wp2_with fail
  refine (make_ok 10 20 ⟨by omega, by omega, by omega, by omega⟩ _).mono ?_
  rintro e x ⟨rfl, hB⟩
  go_wp2_with fail
  refine (take_5a _).mono ?_
  rintro e x2 ⟨rfl, hB2⟩
  go_wp2_with fail
  refine (take_5b _).mono ?_
  rintro e x3 ⟨rfl, hB3⟩
  have s1 := hB.size
  have s2 := hB2.size
  have s3 := hB3.size
  simp only [World.size_alloc] at s2 s3
  have hBx : Below w.heap.size w x3 := (hB.trans (((Below.refl _ x).alloc (Nat.le_refl _) _).mono s1)).trans ((hB2.mono (by simp; omega)).trans ((((Below.refl _ x2).alloc (Nat.le_refl _) _).mono (by omega)).trans (hB3.mono (by simp; omega))))
  have hU : At3 w (x3.alloc (.cells #[.int .i64 10, .int .i64 20, .int .i64 22] 26)) x3.heap.size (.int .i64 10) (.int .i64 20) (.int .i64 22) :=
    ⟨by simp, by simp, by simp, by simp; omega, by simp, hBx.alloc (by omega) _⟩
  clear hB hB2 hB3 s1 s2 s3 hBx
  go_wp2_with fail
  refine (used_ok 10 20 22 ⟨by omega, by omega, by omega, by omega⟩ _).mono ?_
  rintro e y ⟨rfl, hb⟩
  replace hU := keepSp hU hb
  clear hb
  go_wp2_with fail
  refine (left_ok 10 20 22 ⟨by omega, by omega, by omega, by omega⟩ _).mono ?_
  rintro e y2 ⟨rfl, hb⟩
  replace hU := keepSp hU hb
  clear hb
  go_wp2_with fail
  refine (has_ok 10 20 22 21 ⟨by omega, by omega, by omega, by omega⟩ (by omega) _).mono ?_
  rintro e y3 ⟨rfl, hb⟩
  replace hU := keepSp hU hb
  clear hb
  go_wp2_with fail
  refine (has_ok 10 20 22 22 ⟨by omega, by omega, by omega, by omega⟩ (by omega) _).mono ?_
  rintro e y4 ⟨rfl, hb⟩
  replace hU := keepSp hU hb
  clear hb
  go_wp2
  go_ret
  exact ⟨rfl, hU.2.2.2.2.2⟩

end Go.Proofs.Ytdaopelbijkdiaa
