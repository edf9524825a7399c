/- For every three numbers: masks of parts one behind the other have no bit in common and are the mask of both together: the law WordMasks returns true and its arguments read as they did. No condition. -/
import Derived.Test.YtadncljhckakmaaWordAwake
import Derived.Test.YtadncljhckakmaaOpen
namespace Go.Proofs.Ytadncljhckakmaa.wordMasks
open Go.ChangeShapes Go.WideShapes Go.ChangeAt Go.RowKit
set_option linter.unusedVariables false

/-- What is masked, as numbers: the tests at the law's end. -/
theorem ends (s a b : Int) (h1 : 0 ≤ s) (h2 : 1 ≤ a) (h3 : 1 ≤ b) (h4 : s + a + b ≤ 64) :
    bits .and .u64 ((Wd.mask s.toNat a.toNat : Nat) : Int) ((Wd.mask (s + a).toNat b.toNat : Nat) : Int) = 0 ∧ bits .or .u64 ((Wd.mask s.toNat a.toNat : Nat) : Int) ((Wd.mask (s + a).toNat b.toNat : Nat) : Int) = ((Wd.mask s.toNat (a + b).toNat : Nat) : Int) ∧
      0 < ((Wd.mask s.toNat a.toNat : Nat) : Int) ∧ 0 < ((Wd.mask (s + a).toNat b.toNat : Nat) : Int) := by
  obtain ⟨s, rfl⟩ : ∃ k : Nat, s = k := ⟨s.toNat, by omega⟩
  obtain ⟨a, rfl⟩ : ∃ k : Nat, a = k := ⟨a.toNat, by omega⟩
  obtain ⟨b, rfl⟩ : ∃ k : Nat, b = k := ⟨b.toNat, by omega⟩
  rw [show ((s : Int) + (a : Int)).toNat = s + a from by omega, show ((a : Int) + (b : Int)).toNat = a + b from by omega]
  simp only [Int.toNat_natCast]
  have l1 := Wd.mask_lt (s := s) (d := a) (by omega)
  have l2 := Wd.mask_lt (s := s + a) (d := b) (by omega)
  rw [u64_and_nat _ _ l1 l2, u64_or_nat _ _ l1 l2, (Wd.mask_apart (s := s) (d := a) (s' := s + a) (d' := b) (by omega) (by omega)).2 (by omega), Wd.mask_join]
  have p1 := Wd.mask_pos (s := s) (d := a) (by omega)
  have p2 := Wd.mask_pos (s := s + a) (d := b) (by omega)
  exact ⟨rfl, rfl, by omega, by omega⟩

set_option maxHeartbeats 1000000 in
theorem walk (a0 a1 a2 : Int) (w : World) (w0 : -9223372036854775808 ≤ a0 ∧ a0 ≤ 9223372036854775807) (w1 : -9223372036854775808 ≤ a1 ∧ a1 ≤ 9223372036854775807) (w2 : -9223372036854775808 ≤ a2 ∧ a2 ≤ 9223372036854775807) :
    Calls Try.prog 7 #[.int .i64 a0, .int .i64 a1, .int .i64 a2] w fun e w' => e = .returned (.bool true) ∧ Below w.heap.size w w' := by
  obtain ⟨b0, b1⟩ := w0
  obtain ⟨b2, b3⟩ := w1
  obtain ⟨b4, b5⟩ := w2
  have p := pick_bounds a0 63 (by decide)
  go_enter Try.func7, Try.ntmps7
  go_wp2_with fail
  refine (awake_any _).mono ?_
  rintro e w1 ⟨rfl, hb1⟩
  go_wp2_with fail
  refine (pick_any _ _ _ b0 b1 (by decide) (by decide)).mono ?_
  rintro e w2 ⟨rfl, rfl⟩
  generalize hm : pickOf a0 63 = s at p ⊢
  clear hm
  obtain ⟨p1, p2⟩ := p
  have q := pick_bounds a1 (63 - s) (by omega)
  go_wp2_with fail
  refine (pick_any _ _ _ b2 b3 (by omega) (by omega)).mono ?_
  rintro e w2 ⟨rfl, rfl⟩
  generalize hn : pickOf a1 (63 - s) = x at q ⊢
  clear hn
  obtain ⟨q1, q2⟩ := q
  have r := pick_bounds a2 (64 - s - (1 + x)) (by omega)
  go_wp2_with fail
  refine (pick_any _ _ _ b4 b5 (by omega) (by omega)).mono ?_
  rintro e w2 ⟨rfl, rfl⟩
  generalize hn : pickOf a2 (64 - s - (1 + x)) = y at r ⊢
  clear hn
  obtain ⟨r1, r2⟩ := r
  obtain ⟨e1, e2, e3, e4⟩ := ends s (1 + x) (1 + y) p1 (by omega) (by omega) (by omega)
  go_wp2_with fail
  refine (mask_any _ _ _ p1 (by omega) (by omega)).mono ?_
  rintro e w3 ⟨rfl, hb3⟩
  go_wp2_with fail
  refine (mask_any _ _ _ (by omega) (by omega) (by omega)).mono ?_
  rintro e w4 ⟨rfl, hb4⟩
  go_wp2_with fail
  refine (mask_any _ _ _ (by omega) (by omega) (by omega)).mono ?_
  rintro e w5 ⟨rfl, hb5⟩
  have hz1 := hb1.size
  have hz3 := hb3.size
  have hz4 := hb4.size
  have hB : Below w.heap.size w w5 := ((hb1.trans (hb3.mono (by omega))).trans (hb4.mono (by omega))).trans (hb5.mono (by omega))
  go_wp2
  go_ret
  exact ⟨rfl, hB⟩

set_option maxRecDepth 100000 in
theorem lifted (os : Os) (started : os.Started) (H : Type) (enc : TypeId × Value → H) :
    ReturnsInHanded {} Try.checked os 7 .any (Rows.wordMasksSpec.pre6 enc Try.prog Try.f7 Rows.wordMasksRow.domain false) (Rows.wordMasksSpec.post enc Try.prog Try.f7 false true false false) := by
  refine returnsInHanded_of_change (C := Try.checked) own started (by kernel_rfl) Try.func7
    (ChangeSpec.witness6 (enc := enc) (C := Try.checked) false ⟨#[], #[.int .i64 0, .int .i64 0, .int .i64 0], []⟩ 8 (by kernel_rfl) (by kernel_rfl) (by kernel_rfl) (by kernel_rfl)) ?_
  intro W base args ds gs before hval0 hW hcnd _
  have hval : ∀ (j : Nat) t v, Try.f7.params[j]? = some t → args[j]? = some v → Value.okWide Try.prog W .any base t v := hval0
  have hW' := hW
  obtain ⟨p, q, hA0, hV, rfl, hfz, hnd⟩ := hW
  have hA : DataW.TrodAll enc Try.prog W 0 (fun _ => true) true Try.f7.params.toList args.toList ds p := hA0
  rw [Try.params7] at hA hval
  obtain ⟨v0, vs0, d0, ds0, p0, q0, hargs, rfl, rfl, h0, r0⟩ := trodAll_cons hA
  obtain ⟨v1, vs1, d1, ds1, p1, q1, rfl, rfl, rfl, h1, r1⟩ := trodAll_cons r0
  obtain ⟨v2, vs2, d2, ds2, p2, q2, rfl, rfl, rfl, h2, r2⟩ := trodAll_cons r1
  obtain ⟨rfl, rfl, rfl⟩ := trodAll_nil r2
  obtain rfl : args = #[v0, v1, v2] := by cases args; simp_all
  obtain ⟨rfl, rfl⟩ := trodVars_none hV
  obtain ⟨a0, rfl, rfl, rfl, w0⟩ := open_int Try.underlying3 (hval 0 3 v0 rfl rfl) h0
  obtain ⟨a1, rfl, rfl, rfl, w1⟩ := open_int Try.underlying3 (hval 1 3 v1 rfl rfl) h1
  obtain ⟨a2, rfl, rfl, rfl, w2⟩ := open_int Try.underlying3 (hval 2 3 v2 rfl rfl) h2
  clear hA0 hval0
  refine (walk a0 a1 a2 W (bounds_i64 w0) (bounds_i64 w1) (bounds_i64 w2)).mono fun e W' ⟨he, bel⟩ => ?_
  subst he
  exact ⟨_, rfl, _, _, _, [], _, [], hW', trodAll_mk1 (shut_bool Try.underlying4 _), (trodAll_cons_mk (shut_int Try.underlying3 w0) (trodAll_cons_mk (shut_int Try.underlying3 w1) (trodAll_cons_mk (shut_int Try.underlying3 w2) trodAll_mk0))), rfl, bel.frame _, fun h => by cases h⟩

theorem over : Rows.wordMasksRow.holds Try.pinned (OpenSpec.ofChange Rows.wordMasksSpec) :=
  OpenClaim.holds_of_wide 7 Try.f7 rfl rfl rfl rfl rfl rfl rfl ⟨rfl, rfl, rfl, rfl, rfl⟩ rfl rfl rfl rfl rfl (by kernel_rfl) Try.func7 (by kernel_rfl)
    (of_decide_eq_true (by kernel_rfl)) (by unfold Func.isWrapper; first | (rw [if_pos (by decide +kernel)]; kernel_rfl) | (rw [if_neg (by decide +kernel)]; exact ⟨rfl, rfl⟩))
    (fun os started H enc _ => lifted os started H enc)

theorem proved : Rows.WordMasksSaid := over
#print axioms proved

end Go.Proofs.Ytadncljhckakmaa.wordMasks
