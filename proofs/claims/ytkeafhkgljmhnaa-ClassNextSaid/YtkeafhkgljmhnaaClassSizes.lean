/- Package class: Sizes hands back the sizes up to the one that m is rounded to, in new memory. Condition: m is 1 to 2^16. -/
import Derived.Test.YtkeafhkgljmhnaaClass
import Derived.Test.YtkeafhkgljmhnaaOwnRow
import Derived.Deep.DeepAppendWide
import Derived.Maps.AppendAt
namespace Go.Proofs.Ytkeafhkgljmhnaa
open Go.RowKit Go.Shelf

set_option linter.unusedSimpArgs false
set_option linter.unusedVariables false
attribute [local go_sem] Oper.semAt_some

theorem infoInt : (Try.prog.info? 3).map (fun i => (i.zero, i.size, i.bytes)) = some (some (.int .i64 0), 1, 8) := by kernel_rfl
/-- The first k sizes. -/
def szs (k : Nat) : List Value := ((List.range k).map fun j => (Cls.sz j : Int)).map (Value.int .i64)
theorem szs_snoc (k : Nat) : szs k ++ [.int .i64 (Cls.sz k)] = szs (k + 1) := by unfold szs; rw [List.range_succ]; simp

theorem own_far {W : World} {z : Nat} {e : TypeId} {sv : Value} {n : Nat} {xs : List Value} (h : W.ownsRow (z + 1) e 1 sv n xs) : some z ≠ sv.ownBlock := by
  rcases h.2 with ⟨rfl, _⟩ | ⟨g, cap, cur, rfl, hb, _⟩
  · simp [Value.ownBlock]
  · simp [Value.ownBlock]; omega

set_option maxRecDepth 100000 in
set_option maxHeartbeats 4000000 in
theorem sizes_in (m : Nat) (m0 : 1 ≤ m) (m1 : m ≤ 65536) (w : World) :
    Calls Try.prog 12 #[.int .i64 m] w fun e w' => ∃ sv, e = .returned sv ∧ w'.ownsRow (w.heap.size + 1) 3 1 sv (Cls.at' m + 1) (szs (Cls.at' m + 1)) ∧ Below w.heap.size w w' := by
  have hfF : Fence.wide.fn 14 := trivial
  refine (callsIn_wide (n := 9)).1 ?_
  refine callsIn_of_wp_marks Try.func12 rfl trivial ?_ rfl
  simp only [Try.ntmps12, List.size_toArray, List.length_cons, List.length_nil, Nat.reduceAdd, Nat.reduceSub, Array.replicate_succ, Array.replicate_zero, List.push_toArray, List.append_toArray, List.nil_append, List.cons_append]
  have hm0 : ((m : Int) < 1) = False := by simp; omega
  have hm1 : min (m : Int) 65536 = m := by omega
  gi_wp2_with (gi_at_call 14; refine (rising_any _ _).mono ?_; rintro e w' ⟨rfl, rfl⟩)
  obtain ⟨i0, hi, hz0, hz1, hz2⟩ := info_parts infoInt
  have bM := (Boxed.new w 3 (.int .i64 m)).alloc (.cells #[.slice none 0 0] 29)
  have bR := Boxed.new (w.alloc (.cells #[.int .i64 m] 3)) 29 (.slice none 0 0)
  simp only [World.size_alloc] at bR
  have hB0 : Below w.heap.size w ((w.alloc (.cells #[.int .i64 m] 3)).alloc (.cells #[.slice none 0 0] 29)) := ((Below.refl _ w).alloc (Nat.le_refl _) _).alloc (by simp) _
  have hsz : ((w.alloc (.cells #[.int .i64 m] 3)).alloc (.cells #[.slice none 0 0] 29)).heap.size = w.heap.size + 2 := by simp
  obtain ⟨W0, hW0⟩ : ∃ W0, (w.alloc (.cells #[.int .i64 m] 3)).alloc (.cells #[.slice none 0 0] 29) = W0 := ⟨_, rfl⟩
  rw [hW0] at bM bR hB0 hsz ⊢
  clear hW0
  have hown : ∀ (t : TypeId) (B : Nat) (v : Value), OwnFrom W0.heap.size (fun (_ : Nat) V => Boxed V B t v) := fun t B v => Own.from (boxed_own B t (fun _ => v)) _
  have hrow : ∀ f : Nat → Nat, OwnFrom W0.heap.size (fun (k : Nat) V => ∃ sv, Boxed V (w.heap.size + 1) 29 sv ∧ V.ownsRow (w.heap.size + 1) 3 1 sv (f k) (szs (f k)) ∧ True) := fun f =>
    Own.from (holdsRow_own _ _ _ _ _ f (fun k => szs (f k)) (fun _ _ => True)) _
  refine range_asked rfl (by omega) (gf := 15) (lb := #[]) rfl trivial (enters_of Try.func15 (by kernel_rfl) rfl) (rising_asked 8 (by omega) W0) (fun _ => rfl)
    (fun k V => (∀ j, j < k → Cls.sz j < m) ∧ Boxed V w.heap.size 3 (.int .i64 m) ∧ (∃ sv, Boxed V (w.heap.size + 1) 29 sv ∧ V.ownsRow (w.heap.size + 1) 3 1 sv k (szs k) ∧ True) ∧ Below w.heap.size W0 V)
    (fun c k V => (c = .exit 0 ∧ k = Cls.at' m) ∧ (∃ sv, Boxed V (w.heap.size + 1) 29 sv ∧ V.ownsRow (w.heap.size + 1) 3 1 sv (k + 1) (szs (k + 1)) ∧ True) ∧ Below w.heap.size W0 V)
    ((ownFrom_pure _ _).and ((hown _ _ _).and ((hrow fun k => k).and (ownFrom_below (by omega) (by omega)))))
    (fun c => (ownFrom_pure _ (fun k => c = .exit 0 ∧ k = Cls.at' m)).and ((hrow fun k => k + 1).and (ownFrom_below (by omega) (by omega))))
    ?bound ⟨fun j hj => by omega, bM, ⟨_, bR, World.ownsRow_nil _ _ _ _, trivial⟩, Below.refl _ _⟩
    (fun k => { tmps := #[.int .i64 m, .pointer (some ⟨w.heap.size, 0, none⟩), .slice none 0 0, .pointer (some ⟨w.heap.size + 1, 0, none⟩), undef, .int .i64 (Cls.sz k), .int .i64 m, .bool false, .int .i64 m, .int .i64 m,
      .func (.func 15) #[] #[], .int .i64 k, .int .i64 (Cls.sz k), undef, undef, undef, undef, undef, undef, undef, undef], defers := [] })
    ?assign ?body ?stop
  case bound =>
    rintro k V ⟨hk, _⟩
    by_cases e : k < 29
    · exact e
    · have := hk 28 (by omega)
      rw [Cls.sz_28] at this; omega
  case assign =>
    rintro l k V K hI hK
    gi_wp2
    exact hK
  case body =>
    rintro l k V hl ⟨hk, cN, ⟨sv, cR, own, _⟩, hB⟩
    have hk9 : k < 29 := by
      by_cases e : k < 29
      · exact e
      · have := hk 28 (by omega)
        rw [Cls.sz_28] at this; omega
    have hsV := hB.size
    have f1 := cR.frozen
    have a0 := cN.cell
    have a1 := cR.cell
    by_cases hx : m ≤ Cls.sz k
    · have hx' : ((m : Int) ≤ (Cls.sz k : Int)) = True := by simp; omega
      have hat : Cls.at' m = k := Cls.at_eq m1 hx hk
      have Hat := Lib.hid hat
      have Hk := Lib.hid hk
      clear hat hx hk
      gi_wp2_with (
        gi_at_builtin
        refine wpListIn_append_own _ rfl _ _ 29 rfl (w.heap.size + 1) 3 i0 (.int .i64 0) 1 8 Try.underlying29 hi hz0 hz1 hz2 rfl (by decide) _ _ _ rfl (own.alloc _) ⟨V.heap.size, 0, none⟩ 1 1 [.int .i64 (Cls.sz k)] rfl rfl (cell_one_new _ _ _) (by simp [Value.oneCell']) (by unfold maxLen; omega) (by omega) (by simp; omega) ?_
        rintro v' V2 own2 hg2 -
        rw [szs_snoc] at own2
        obtain ⟨g2, cap2, rfl⟩ := ownsRow_succ own2
        obtain ⟨c2, c3, own3, hk3, hB3⟩ := Boxed.appended cR (by decide) own (by omega) (by omega) own2 hg2
        have a2 := c2.cell
        have f2 := c2.frozen
        have n2 := (cN.alloc _).kept hg2 (own_far own)
        have n3 := n2.other (B' := w.heap.size + 1) (by omega) (.slice (some ⟨g2, 0, none⟩) (k + 1) cap2)
        have a3 := n3.cell
        )
      exact ⟨hk3.from _, ⟨rfl, Hat.out.symm⟩, ⟨_, c3, own3, trivial⟩, hB.trans (hB3.mono (by omega))⟩
    · have hx' : ((m : Int) ≤ (Cls.sz k : Int)) = False := by simp; omega
      have Hk := Lib.hid hk
      have Hx := Lib.hid hx
      clear hx hk
      gi_wp2_with (
        gi_at_builtin
        refine wpListIn_append_own _ rfl _ _ 29 rfl (w.heap.size + 1) 3 i0 (.int .i64 0) 1 8 Try.underlying29 hi hz0 hz1 hz2 rfl (by decide) _ _ _ rfl (own.alloc _) ⟨V.heap.size, 0, none⟩ 1 1 [.int .i64 (Cls.sz k)] rfl rfl (cell_one_new _ _ _) (by simp [Value.oneCell']) (by unfold maxLen; omega) (by omega) (by simp; omega) ?_
        rintro v' V2 own2 hg2 -
        rw [szs_snoc] at own2
        obtain ⟨g2, cap2, rfl⟩ := ownsRow_succ own2
        obtain ⟨c2, c3, own3, hk3, hB3⟩ := Boxed.appended cR (by decide) own (by omega) (by omega) own2 hg2
        have a2 := c2.cell
        have f2 := c2.frozen
        have n2 := (cN.alloc _).kept hg2 (own_far own)
        have n3 := n2.other (B' := w.heap.size + 1) (by omega) (.slice (some ⟨g2, 0, none⟩) (k + 1) cap2)
        have a3 := n3.cell
        )
      refine ⟨hk3.from _, fun j hj => ?_, n3, ⟨_, c3, own3, trivial⟩, hB.trans (hB3.mono (by omega))⟩
      by_cases e : j = k
      · have := Hx.out
        rw [e]; omega
      · exact Hk.out j (by omega)
  case stop =>
    rintro D c k V hD ⟨⟨rfl, hk⟩, ⟨sv, cR, own, _⟩, hB⟩ hDD
    have hsV := hB.size
    have a1 := cR.cell
    obtain ⟨g2, cap2, rfl⟩ := ownsRow_succ own
    gi_wp2
    rw [hk] at own
    refine ⟨by simp, .inl ⟨_, _, rfl, run_takeDeferred hDD, ?_⟩⟩
    refine ⟨_, ?_, ⟨_, rfl, own.kept (grownBy_putObj' V D (.deferred none)) (.inr fun e => ?_), (hB0.trans hB).trans (belowK_b (w := w) (Nat.le_refl _) V D _ _ (by omega) hDD rfl rfl)⟩⟩
    · simp [results, Try.f12, go_sem]
    · rcases own.2 with ⟨h, _⟩ | ⟨g, cap, cur, h, _, hg, _⟩
      · cases h
      · cases h
        simp [Value.ownBlock] at e
        rw [e, hDD] at hg; cases hg

end Go.Proofs.Ytkeafhkgljmhnaa
