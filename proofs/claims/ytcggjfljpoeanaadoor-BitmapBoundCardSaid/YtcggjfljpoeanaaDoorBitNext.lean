/- Contracts of package bitmap: Next and Count. Condition: the set is one (BitAt), the numbers are int's. -/
import Derived.Test.YtcggjfljpoeanaaDoorBitIter
import Derived.Deep.RegionHeld3
namespace Go.Proofs.YtcggjfljpoeanaaDoor
open Go.RowKit Go.Shelf

set_option linter.unusedSimpArgs false
set_option linter.unusedVariables false
attribute [local go_sem] Oper.semAt_some

/-- What Next answers. -/
def nextN (m a bound : Nat) : Nat := (Bm.els m a bound).headD 0
def nextB (m a bound : Nat) : Bool := !(Bm.els m a bound).isEmpty
theorem next_yes {m a bound x : Nat} (ha : a ≤ x) (hb : x < bound) (hx : m.testBit x = true) (h : ∀ j, a ≤ j → j < x → m.testBit j = false) : nextN m a bound = x ∧ nextB m a bound = true := by
  have h1 := Bm.els_next (m := m) (a := a) (c := 0) (x := x) (Nat.zero_le _) ha hx fun j _ h2 h3 => h j h3 h2
  obtain ⟨r, hr, _⟩ := Bm.els_more (m := m) (a := a) (c := x + 1) (d := bound) hb
  rw [Bm.els_zero, List.nil_append] at h1
  rw [h1] at hr
  unfold nextN nextB
  rw [hr]
  exact ⟨rfl, rfl⟩
theorem next_no {m a bound : Nat} (h : ∀ j, a ≤ j → j < bound → m.testBit j = false) : nextN m a bound = 0 ∧ nextB m a bound = false := by
  have h1 := Bm.els_skip (m := m) (a := a) (c := 0) (d := bound) (Nat.zero_le _) fun j _ h2 h3 => h j h3 h2
  unfold nextN nextB
  rw [h1, Bm.els_zero]
  exact ⟨rfl, rfl⟩


set_option maxRecDepth 100000 in
set_option maxHeartbeats 4000000 in
theorem next_any {p q bound m : Nat} (i : Int) (w : World) (h : BitAt w p q bound m) (i0 : -9223372036854775808 ≤ i) (i1 : i ≤ 9223372036854775807) :
    Calls Tryd.prog 13 #[.pointer (some ⟨p, 0, none⟩), .int .i64 i] w fun e w' => e = .returned (.tuple #[.int .i64 (nextN m i.toNat bound : Nat), .bool (nextB m i.toNat bound)]) ∧ Below w.heap.size w w' := by
  have hfF : Fence.wide.fn 18 := trivial
  obtain ⟨hp, hq, hg⟩ := h.lt
  refine (callsIn_wide (n := 9)).1 ?_
  refine callsIn_of_wp_marks Tryd.func13 rfl trivial ?_ rfl
  simp only [Tryd.ntmps13, List.size_toArray, List.length_cons, List.length_nil, Nat.reduceAdd, Nat.reduceSub, Array.replicate_succ, Array.replicate_zero, List.push_toArray, List.append_toArray, List.nil_append, List.cons_append]
  gi_wp2_with (gi_at_call 18; refine (from_any _ _ _ _).mono ?_; rintro e w' ⟨rfl, rfl⟩)
  have bR := (((Boxed.new w 3 (.int .i64 0)).alloc (.cells #[.bool false] 4)).alloc (.cells #[.pointer (some ⟨p, 0, none⟩)] 24)).alloc (.cells #[.int .i64 i] 3)
  have bE := ((Boxed.new (w.alloc (.cells #[.int .i64 0] 3)) 4 (.bool false)).alloc (.cells #[.pointer (some ⟨p, 0, none⟩)] 24)).alloc (.cells #[.int .i64 i] 3)
  have bB := (Boxed.new ((w.alloc (.cells #[.int .i64 0] 3)).alloc (.cells #[.bool false] 4)) 24 (.pointer (some ⟨p, 0, none⟩))).alloc (.cells #[.int .i64 i] 3)
  have bI := Boxed.new (((w.alloc (.cells #[.int .i64 0] 3)).alloc (.cells #[.bool false] 4)).alloc (.cells #[.pointer (some ⟨p, 0, none⟩)] 24)) 3 (.int .i64 i)
  simp only [World.size_alloc] at bR bE bB bI
  have hB0 : Below w.heap.size w ((((w.alloc (.cells #[.int .i64 0] 3)).alloc (.cells #[.bool false] 4)).alloc (.cells #[.pointer (some ⟨p, 0, none⟩)] 24)).alloc (.cells #[.int .i64 i] 3)) :=
    ((((Below.refl _ w).alloc (Nat.le_refl _) _).alloc (by simp) _).alloc (by simp; omega) _).alloc (by simp; omega) _
  have hsz : ((((w.alloc (.cells #[.int .i64 0] 3)).alloc (.cells #[.bool false] 4)).alloc (.cells #[.pointer (some ⟨p, 0, none⟩)] 24)).alloc (.cells #[.int .i64 i] 3)).heap.size = w.heap.size + 4 := by simp
  obtain ⟨W0, hW0⟩ : ∃ W0, (((w.alloc (.cells #[.int .i64 0] 3)).alloc (.cells #[.bool false] 4)).alloc (.cells #[.pointer (some ⟨p, 0, none⟩)] 24)).alloc (.cells #[.int .i64 i] 3) = W0 := ⟨_, rfl⟩
  rw [hW0] at bR bE bB bI hB0 hsz ⊢
  clear hW0
  have H0 := h.below hB0 hp hq hg
  clear h
  refine wpIn_rangeFunc_ownH rfl (by omega) (gf := 19) (lb := #[.pointer (some ⟨w.heap.size + 1 + 1 + 1, 0, none⟩), .pointer (some ⟨w.heap.size + 1 + 1, 0, none⟩)]) rfl trivial (enters_of Tryd.func19 (by kernel_rfl) rfl)
    (from_stops 8 (by omega) (w.heap.size + 1 + 1 + 1) (w.heap.size + 1 + 1) (w.heap.size + 4) p q bound m i (fun k => k = w.heap.size ∨ k = w.heap.size + 1) i0 i1 ⟨by omega, by omega⟩ ⟨by omega, by omega⟩ ⟨by omega, by omega⟩ ⟨by omega, by omega⟩ ⟨by omega, by omega⟩ W0 (by omega) H0 bI.cell bB.cell)
    KpB.trans (fun W l o o' hl h hc hw => KpB.putObj W l o' (by omega)) (Below.refl _ _) (fun _ => rfl)
    (fun pre W => ((pre = [] ∧ Boxed W w.heap.size 3 (.int .i64 0)) ∧ Boxed W (w.heap.size + 1) 4 (.bool false)) ∧ Below w.heap.size W0 W)
    (fun c pre W => (((c = .ret ∧ ∃ x, pre = [x]) ∧ Boxed W w.heap.size 3 (.int .i64 (pre.headD 0 : Nat))) ∧ Boxed W (w.heap.size + 1) 4 (.bool true)) ∧ Below w.heap.size W0 W)
    (OwnFrom.and (OwnFrom.and (OwnFrom.and (ownFrom_pure _) (Own.from (boxed_own _ _ _) _)) (Own.from (boxed_own _ _ _) _)) (ownFrom_below (by omega) (by omega)))
    (fun c => OwnFrom.and (OwnFrom.and (OwnFrom.and (ownFrom_pure (fun pre => c = .ret ∧ ∃ x, pre = [x])) (Own.from (boxed_own _ _ _) _)) (Own.from (boxed_own _ _ _) _)) (ownFrom_below (by omega) (by omega)))
    ⟨⟨⟨rfl, bR⟩, bE⟩, Below.refl _ _⟩
    (fun x a' _ => a' = { tmps := #[.pointer (some ⟨p, 0, none⟩), .int .i64 i, undef, undef, .pointer (some ⟨w.heap.size, 0, none⟩), .pointer (some ⟨w.heap.size + 1, 0, none⟩), .int .i64 (x : Int), .pointer (some ⟨p, 0, none⟩), .int .i64 i,
      .func (.func 19) #[] #[.pointer (some ⟨w.heap.size + 1 + 1 + 1, 0, none⟩), .pointer (some ⟨w.heap.size + 1 + 1, 0, none⟩)], .int .i64 (x : Int), undef], defers := [] })
    (fun x a' _ X Y row hs hg hr => hs)
    ?assign ?body ?done ?stop
  case assign =>
    rintro l pre x W K hI hK
    gi_wp2
    exact hK _ _ (KeepsFrom.refl _ _) (KpB.refl _ _ _) hI rfl
  case body =>
    rintro l pre x a' W hl ⟨r, hr⟩ ⟨⟨⟨rfl, bR1⟩, bE1⟩, hB1⟩ rfl hlt
    have hsW := hB1.size
    have f1 := bR1.frozen
    have f2 := bE1.frozen
    have c1 := bR1.cell
    have c2 := bE1.cell
    gi_wp2
    exact ⟨(KeepsOthers.setCell _ _ _).from _ |>.trans ((KeepsOthers.setCell _ _ _).from _), ⟨⟨⟨rfl, x, rfl⟩, (bR1.set _).other (by omega) _⟩, (bE1.other (by omega) _).set _⟩, (hB1.setCell (p := ⟨w.heap.size, 0, none⟩) (Nat.le_refl _) _).setCell (p := ⟨w.heap.size + 1, 0, none⟩) (by simp) _⟩
  case done =>
    rintro D xs W hD hxs ⟨⟨⟨rfl, bR1⟩, bE1⟩, hB1⟩ hK
    have hsW := hB1.size
    have f1 := bR1.frozen
    have f2 := bE1.frozen
    have c1 := bR1.cell
    have c2 := bE1.cell
    gi_wp2
    have bR2 := (bR1.set (.int .i64 0)).other (B' := w.heap.size + 1) (by omega) (.bool false)
    have bE2 := (bE1.other (B' := w.heap.size) (by omega) (.int .i64 0)).set (.bool false)
    have hK2 := ((KeepsOthers.setCell W ⟨w.heap.size, 0, none⟩ (.int .i64 0)).trans (KeepsOthers.setCell _ ⟨w.heap.size + 1, 0, none⟩ (.bool false))).same D _ hK rfl
    have hB2 : Below w.heap.size w ((W.setCell ⟨w.heap.size, 0, none⟩ (.int .i64 0)).setCell ⟨w.heap.size + 1, 0, none⟩ (.bool false)) := (hB0.trans hB1).setCell (by simp) _ |>.setCell (by simp) _
    obtain ⟨W2, hW2⟩ : ∃ W2, (W.setCell ⟨w.heap.size, 0, none⟩ (.int .i64 0)).setCell ⟨w.heap.size + 1, 0, none⟩ (.bool false) = W2 := ⟨_, rfl⟩
    rw [hW2] at bR2 bE2 hK2 hB2 ⊢
    clear hW2
    have cR3 := (bR2.kept (grownBy_putObj' W2 D (.deferred none)) (fun e => by injection e; omega)).cell
    have cE3 := (bE2.kept (grownBy_putObj' W2 D (.deferred none)) (fun e => by injection e; omega)).cell
    refine ⟨by simp, .inl ⟨_, _, rfl, run_takeDeferred hK2, ?_⟩⟩
    refine ⟨_, ?_, rfl, hB2.trans (belowK_b (w := w) (Nat.le_refl _) W2 D _ _ (by omega) hK2 rfl rfl)⟩
    have e1 : nextN m i.toNat bound = 0 := by unfold nextN; rw [← hxs]; rfl
    have e2 : nextB m i.toNat bound = false := by unfold nextB; rw [← hxs]; rfl
    simp [results, Tryd.f13, go_sem, cR3, cE3, e1, e2]
  case stop =>
    rintro D c pre W hD ⟨r, hr⟩ ⟨⟨⟨⟨rfl, x, rfl⟩, bR1⟩, bE1⟩, hB1⟩ hK
    have hsW := hB1.size
    gi_wp2
    have cR3 := (bR1.kept (grownBy_putObj' W D (.deferred none)) (fun e => by injection e; omega)).cell
    have cE3 := (bE1.kept (grownBy_putObj' W D (.deferred none)) (fun e => by injection e; omega)).cell
    refine ⟨by simp, .inl ⟨_, _, rfl, run_takeDeferred hK, ?_⟩⟩
    refine ⟨_, ?_, rfl, (hB0.trans hB1).trans (belowK_b (w := w) (Nat.le_refl _) W D _ _ (by omega) hK rfl rfl)⟩
    have e1 : nextN m i.toNat bound = x := by unfold nextN; rw [hr]; rfl
    have e2 : nextB m i.toNat bound = true := by unfold nextB; rw [hr]; rfl
    simp [results, Tryd.f13, go_sem, cR3, cE3, e1, e2]

theorem els_sorted (m a n : Nat) : (Bm.els m a n).Pairwise (· < ·) := List.pairwise_lt_range.filter _
theorem els_below {m a c n : Nat} (h : c ≤ n) : (Bm.els m a n).filter (fun x => decide (x < c)) = Bm.els m a c := by
  obtain ⟨r, hr, h2⟩ := Bm.els_more (m := m) (a := a) h
  rw [hr, List.filter_append, List.filter_eq_self.2 (fun x hx => by simpa using (Bm.mem_els.1 hx).1), List.filter_eq_nil_iff.2 (fun x hx => by have := h2 x hx; simp; omega), List.append_nil]
theorem cnt_part {m a bound x : Nat} {c : Int} {pre r : List Nat} (h : Bm.els m a bound = pre ++ [x] ++ r) (h1 : ∀ y ∈ pre, (y : Int) < c) (h2 : c ≤ (x : Int)) : Bm.cnt m a c.toNat = pre.length := by
  have hx : x < bound := (Bm.mem_els.1 (show x ∈ Bm.els m a bound by rw [h]; simp)).1
  have hs := els_sorted m a bound
  rw [h, List.append_assoc, List.pairwise_append] at hs
  obtain ⟨_, hs, _⟩ := hs
  rw [List.singleton_append, List.pairwise_cons] at hs
  unfold Bm.cnt
  rw [← els_below (n := bound) (by omega), h, List.filter_append, List.filter_append, List.filter_eq_self.2 (fun y hy => by have := h1 y hy; simp; omega), (List.filter_eq_nil_iff (l := [x])).2 (fun y hy => by simp at hy; simp; omega), (List.filter_eq_nil_iff (l := r)).2 (fun y hy => by have := hs.1 y hy; simp; omega)]
  simp
theorem cnt_whole {m a bound : Nat} {c : Int} (hm : m < 2 ^ bound) (h1 : ∀ y ∈ Bm.els m a bound, (y : Int) < c) : Bm.cnt m a c.toNat = (Bm.els m a bound).length := by
  by_cases h : c.toNat ≤ bound
  · unfold Bm.cnt
    rw [← els_below h, List.filter_eq_self.2 (fun y hy => by have := h1 y hy; simp; omega)]
  · exact Bm.cnt_all hm (by omega)

set_option maxRecDepth 100000 in
set_option maxHeartbeats 4000000 in
theorem count_any {p q bound m : Nat} (i c : Int) (w : World) (h : BitAt w p q bound m) (i0 : -9223372036854775808 ≤ i) (i1 : i ≤ 9223372036854775807) :
    Calls Tryd.prog 15 #[.pointer (some ⟨p, 0, none⟩), .int .i64 i, .int .i64 c] w fun e w' => e = .returned (.int .i64 (Bm.cnt m i.toNat c.toNat : Nat)) ∧ Below w.heap.size w w' := by
  have hfF : Fence.wide.fn 18 := trivial
  obtain ⟨hp, hq, hg⟩ := h.lt
  refine (callsIn_wide (n := 9)).1 ?_
  refine callsIn_of_wp_marks Tryd.func15 rfl trivial ?_ rfl
  simp only [Tryd.ntmps15, List.size_toArray, List.length_cons, List.length_nil, Nat.reduceAdd, Nat.reduceSub, Array.replicate_succ, Array.replicate_zero, List.push_toArray, List.append_toArray, List.nil_append, List.cons_append]
  gi_wp2_with (gi_at_call 18; refine (from_any _ _ _ _).mono ?_; rintro e w' ⟨rfl, rfl⟩)
  have bC := (((Boxed.new w 3 (.int .i64 c)).alloc (.cells #[.int .i64 0] 3)).alloc (.cells #[.pointer (some ⟨p, 0, none⟩)] 24)).alloc (.cells #[.int .i64 i] 3)
  have bK := ((Boxed.new (w.alloc (.cells #[.int .i64 c] 3)) 3 (.int .i64 0)).alloc (.cells #[.pointer (some ⟨p, 0, none⟩)] 24)).alloc (.cells #[.int .i64 i] 3)
  have bB := (Boxed.new ((w.alloc (.cells #[.int .i64 c] 3)).alloc (.cells #[.int .i64 0] 3)) 24 (.pointer (some ⟨p, 0, none⟩))).alloc (.cells #[.int .i64 i] 3)
  have bI := Boxed.new (((w.alloc (.cells #[.int .i64 c] 3)).alloc (.cells #[.int .i64 0] 3)).alloc (.cells #[.pointer (some ⟨p, 0, none⟩)] 24)) 3 (.int .i64 i)
  simp only [World.size_alloc] at bC bK bB bI
  have hB0 : Below w.heap.size w ((((w.alloc (.cells #[.int .i64 c] 3)).alloc (.cells #[.int .i64 0] 3)).alloc (.cells #[.pointer (some ⟨p, 0, none⟩)] 24)).alloc (.cells #[.int .i64 i] 3)) :=
    ((((Below.refl _ w).alloc (Nat.le_refl _) _).alloc (by simp) _).alloc (by simp; omega) _).alloc (by simp; omega) _
  have hsz : ((((w.alloc (.cells #[.int .i64 c] 3)).alloc (.cells #[.int .i64 0] 3)).alloc (.cells #[.pointer (some ⟨p, 0, none⟩)] 24)).alloc (.cells #[.int .i64 i] 3)).heap.size = w.heap.size + 4 := by simp
  obtain ⟨W0, hW0⟩ : ∃ W0, (((w.alloc (.cells #[.int .i64 c] 3)).alloc (.cells #[.int .i64 0] 3)).alloc (.cells #[.pointer (some ⟨p, 0, none⟩)] 24)).alloc (.cells #[.int .i64 i] 3) = W0 := ⟨_, rfl⟩
  rw [hW0] at bC bK bB bI hB0 hsz ⊢
  clear hW0
  have H0 := h.below hB0 hp hq hg
  clear h
  have hlen : (Bm.els m i.toNat bound).length ≤ 65536 := Nat.le_trans (Bm.cnt_le m i.toNat bound) H0.le
  refine wpIn_rangeFunc_ownH rfl (by omega) (gf := 19) (lb := #[.pointer (some ⟨w.heap.size + 1 + 1 + 1, 0, none⟩), .pointer (some ⟨w.heap.size + 1 + 1, 0, none⟩)]) rfl trivial (enters_of Tryd.func19 (by kernel_rfl) rfl)
    (from_stops 8 (by omega) (w.heap.size + 1 + 1 + 1) (w.heap.size + 1 + 1) (w.heap.size + 4) p q bound m i (fun k => k = w.heap.size + 1) i0 i1 ⟨by omega, by omega⟩ ⟨by omega, by omega⟩ ⟨by omega, by omega⟩ ⟨by omega, by omega⟩ ⟨by omega, by omega⟩ W0 (by omega) H0 bI.cell bB.cell)
    KpB.trans (fun W l o o' hl h hc hw => KpB.putObj W l o' (by omega)) (Below.refl _ _) (fun _ => rfl)
    (fun pre W => (((∀ y ∈ pre, (y : Int) < c) ∧ Boxed W w.heap.size 3 (.int .i64 c)) ∧ Boxed W (w.heap.size + 1) 3 (.int .i64 (pre.length : Nat))) ∧ Below w.heap.size W0 W)
    (fun c' pre W => ((c' = .exit 0 ∧ ∃ (l : List Nat) (x : Nat), pre = l ++ [x] ∧ (∀ y ∈ l, (y : Int) < c) ∧ c ≤ (x : Int)) ∧ Boxed W (w.heap.size + 1) 3 (.int .i64 (pre.length - 1 : Nat))) ∧ Below w.heap.size W0 W)
    (OwnFrom.and (OwnFrom.and (OwnFrom.and (ownFrom_pure (fun pre : List Nat => ∀ y ∈ pre, (y : Int) < c)) (Own.from (boxed_own _ _ _) _)) (Own.from (boxed_own _ _ _) _)) (ownFrom_below (by omega) (by omega)))
    (fun c' => OwnFrom.and (OwnFrom.and (ownFrom_pure (fun pre : List Nat => c' = .exit 0 ∧ ∃ (l : List Nat) (x : Nat), pre = l ++ [x] ∧ (∀ y ∈ l, (y : Int) < c) ∧ c ≤ (x : Int))) (Own.from (boxed_own _ _ _) _)) (ownFrom_below (by omega) (by omega)))
    ⟨⟨⟨fun y hy => by simp at hy, bC⟩, bK⟩, Below.refl _ _⟩
    (fun x a' _ => a' = { tmps := #[.pointer (some ⟨p, 0, none⟩), .int .i64 i, .int .i64 c, undef, undef, .pointer (some ⟨w.heap.size, 0, none⟩), .int .i64 0, .pointer (some ⟨w.heap.size + 1, 0, none⟩), .int .i64 (x : Int), .pointer (some ⟨p, 0, none⟩), .int .i64 i,
      .func (.func 19) #[] #[.pointer (some ⟨w.heap.size + 1 + 1 + 1, 0, none⟩), .pointer (some ⟨w.heap.size + 1 + 1, 0, none⟩)], .int .i64 (x : Int), undef, undef, undef, undef, undef, undef], defers := [] })
    (fun x a' _ X Y row hs hg hr => hs)
    ?assign ?body ?done ?stop
  case assign =>
    rintro l pre x W K hI hK
    gi_wp2
    exact hK _ _ (KeepsFrom.refl _ _) (KpB.refl _ _ _) hI rfl
  case body =>
    rintro l pre x a' W hl ⟨r, hr⟩ ⟨⟨⟨hlow, bC1⟩, bK1⟩, hB1⟩ rfl hlt
    have hsW := hB1.size
    have f1 := bC1.frozen
    have f2 := bK1.frozen
    have c1 := bC1.cell
    have c2 := bK1.cell
    have hlt' : pre.length < 65536 := by omega
    by_cases hx : c ≤ (x : Int)
    · gi_wp2
      exact ⟨KeepsFrom.refl _ _, ⟨⟨rfl, pre, x, rfl, hlow, hx⟩, by simpa using bK1⟩, hB1⟩
    · gi_wp2
      refine ⟨(KeepsOthers.setCell _ _ _).from _, KpB.setCell (S := fun k => k = w.heap.size + 1) W (p := ⟨w.heap.size + 1, 0, none⟩) rfl _, ⟨⟨fun y hy => ?_, bC1.other (by omega) _⟩, ?_⟩, hB1.setCell (p := ⟨w.heap.size + 1, 0, none⟩) (by simp) _⟩
      · rcases List.mem_append.1 hy with h | h
        · exact hlow y h
        · simp at h; omega
      · have := bK1.set (.int .i64 ((pre.length : Int) + 1))
        simpa using this
  case done =>
    rintro D xs W hD hxs ⟨⟨⟨hlow, bC1⟩, bK1⟩, hB1⟩ hK
    have hsW := hB1.size
    have c2 := bK1.cell
    have hv : xs.length = Bm.cnt m i.toNat c.toNat := by
      rw [hxs] at hlow ⊢
      exact (cnt_whole H0.fits hlow).symm
    rw [hv] at c2 bK1
    gi_wp2
    have cK3 := (bK1.kept (grownBy_putObj' W D (.deferred none)) (fun e => by injection e; omega)).cell
    refine ⟨by simp, .inl ⟨_, _, rfl, run_takeDeferred hK, ?_⟩⟩
    refine ⟨_, ?_, rfl, (hB0.trans hB1).trans (belowK_b (w := w) (Nat.le_refl _) W D _ _ (by omega) hK rfl rfl)⟩
    simp [results, Tryd.f15, go_sem, cK3]
  case stop =>
    rintro D c' pre W hD ⟨r, hr⟩ ⟨⟨⟨rfl, l, x, rfl, hlow, hx⟩, bK1⟩, hB1⟩ hK
    have hsW := hB1.size
    have c2 := bK1.cell
    have hv : (l ++ [x]).length - 1 = Bm.cnt m i.toNat c.toNat := by
      rw [cnt_part hr hlow hx]; simp
    rw [hv] at c2 bK1
    gi_wp2
    have cK3 := (bK1.kept (grownBy_putObj' W D (.deferred none)) (fun e => by injection e; omega)).cell
    refine ⟨by simp, .inl ⟨_, _, rfl, run_takeDeferred hK, ?_⟩⟩
    refine ⟨_, ?_, rfl, (hB0.trans hB1).trans (belowK_b (w := w) (Nat.le_refl _) W D _ _ (by omega) hK rfl rfl)⟩
    simp [results, Tryd.f15, go_sem, cK3]

end Go.Proofs.YtcggjfljpoeanaaDoor
