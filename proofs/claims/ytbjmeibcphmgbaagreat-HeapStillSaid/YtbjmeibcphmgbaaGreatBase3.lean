/- Put together: Package graph: node: what an object is that one has come to. Conditions: there is one (ObjIs), its words are such as objects have. Package graph: Canon over objects that are there (Grph, Nods): each as a node, in their order, and of each root which one it is. Package graph: Same of nodes that are the same. Condition: there are such nodes (NodesAt). Objects that point to one another, as package graph sees them. Plain; no condition. Package heap: Canon. Condition: the heap is right; roots are nothing, or in use. Two heaps that are alike: what one comes to from registers that lead to the same is the same, node by node, but for weak pointers to what is lost. No walk. Package heap: what asks first whether an object is here: Shape, Serial, Second, SetFreed, SetSecond, Ptr, SetPtr, Num, SetNum. Condition: the heap is sound. Package heap: Alloc. Condition: the heap is sound, the shape is right. Package heap: Scan. Condition: the heap is right. Package heap: Finals. Condition: the heap is right. What a mutator, and the collector, do to a heap and its twin, as functions; that they stay alike. No walk. What is done to a heap through Ptr, SetPtr, SetNum, SetFreed, Scan, Finals, Drop, Flip, as functions; that a heap stays right, and twins alike. No walk. The document's own Same (layer 9's answer) and ints, of nodes and lists that are the same. Condition: there are such nodes (NodesAt). Package heap: New, Flip. Condition: of New, that many words; of Flip, that the heap is sound. Package heap, at a heap that is right: Alloc, Serial, Room, Here, Flip, Scan, Drop. Condition: the heap is right. Layer 10's law: Begin. Condition: at least 16 words, at most 16384. Layer 10's law: Alike of twins that are alike. Condition: they are (Tw), the second heap is not moving, registers lead to the same. -/
import Derived.Test.YtbjmeibcphmgbaaGreatBase2
import Derived.Deep.CutRange
import Derived.Deep.RegionHeld3
import Derived.Test.YtbjmeibcphmgbaaGreatBase1
namespace Go.Proofs.YtbjmeibcphmgbaaGreat
open Go.ChangeShapes Go.WideShapes Go.ChangeAt Go.RowKit

set_option linter.unusedSimpArgs false
set_option linter.unusedVariables false

theorem zig_zagOf {w : Int} (h0 : 0 ≤ w) (h1 : w ≤ 18446744073709551615) : zigOf (zagOf w) = w ∧ -9223372036854775808 ≤ zagOf w ∧ zagOf w ≤ 9223372036854775807 := by
  unfold zagOf
  split
  · unfold zigOf; split <;> omega
  · unfold zigOf; split <;> omega

/-- An object's numbers. -/
def numL (l : List Int) (a p d : Nat) : List Int := (List.range d).map fun i => zagOf (l.getD (a + (3 + p + i)) 0)
theorem numL_length (l : List Int) (a p d : Nat) : (numL l a p d).length = d := by unfold numL; simp
theorem numL_at {l : List Int} {a p d i : Nat} (h : i < d) : (numL l a p d).getD i 0 = zagOf (l.getD (a + (3 + p + i)) 0) := by unfold numL; simp [List.getD, h]
/-- Its pointers, each as its place in an order. -/
def rnkL (o l : List Int) (a p : Nat) : List Int := (ptrL l a p).map (rankV o)
theorem rnkL_length (o l : List Int) (a p : Nat) : (rnkL o l a p).length = p := by unfold rnkL; simp [ptrL_length]
theorem rnkL_at {o l : List Int} {a p i : Nat} (h : i < p) : (rnkL o l a p).getD i 0 = rankV o (l.getD (a + (3 + i)) 0) := by unfold rnkL ptrL; simp [List.getD, h]

theorem BlkIs.drew {w : World} {k : Nat} {cs : Array Value} {t : TypeId} (h : BlkIs w k cs t) : BlkIs w.drew k cs t := h
theorem three_new (y : World) (q : Nat) (hq : y.heap.size = q) (a c d : Array Value) (ta tc td : TypeId) :
    BlkIs (((y.alloc (.cells a ta)).alloc (.cells c tc)).alloc (.cells d td)) q a ta ∧ BlkIs (((y.alloc (.cells a ta)).alloc (.cells c tc)).alloc (.cells d td)) (q + 1) c tc ∧
    BlkIs (((y.alloc (.cells a ta)).alloc (.cells c tc)).alloc (.cells d td)) (q + 1 + 1) d td ∧ Below q y (((y.alloc (.cells a ta)).alloc (.cells c tc)).alloc (.cells d td)) := by
  subst hq
  have s1 : (y.alloc (.cells a ta)).heap.size = y.heap.size + 1 := by simp
  have s2 : ((y.alloc (.cells a ta)).alloc (.cells c tc)).heap.size = y.heap.size + 1 + 1 := by simp
  have h2 := BlkIs.new (y.alloc (.cells a ta)) c tc
  have h3 := BlkIs.new ((y.alloc (.cells a ta)).alloc (.cells c tc)) d td
  rw [s1] at h2
  rw [s2] at h3
  exact ⟨((BlkIs.new y a ta).alloc _).alloc _, h2.alloc _, h3, (((Below.refl _ y).alloc (Nat.le_refl _) _).alloc (by omega) _).alloc (by omega) _⟩
theorem BlkIs.facts8 {x : World} {k : Nat} {v0 v1 v2 v3 v4 v5 v6 v7 : Value} {ty : TypeId} (h : BlkIs x k #[v0, v1, v2, v3, v4, v5, v6, v7] ty) :
    x.cell? ⟨k, 0, none⟩ = some v0 ∧ x.cell? ⟨k, 1, none⟩ = some v1 ∧ x.cell? ⟨k, 2, none⟩ = some v2 ∧ x.cell? ⟨k, 3, none⟩ = some v3 ∧ x.cell? ⟨k, 4, none⟩ = some v4 ∧ x.cell? ⟨k, 5, none⟩ = some v5 ∧ x.cell? ⟨k, 6, none⟩ = some v6 ∧ x.cell? ⟨k, 7, none⟩ = some v7 ∧
    x.frozen? ⟨k, 0, none⟩ = false ∧ x.frozen? ⟨k, 1, none⟩ = false ∧ x.frozen? ⟨k, 2, none⟩ = false ∧ x.frozen? ⟨k, 3, none⟩ = false ∧ x.frozen? ⟨k, 4, none⟩ = false ∧ x.frozen? ⟨k, 5, none⟩ = false ∧ x.frozen? ⟨k, 6, none⟩ = false ∧ x.frozen? ⟨k, 7, none⟩ = false :=
  ⟨h.cell 0, h.cell 1, h.cell 2, h.cell 3, h.cell 4, h.cell 5, h.cell 6, h.cell 7, h.free 0, h.free 1, h.free 2, h.free 3, h.free 4, h.free 5, h.free 6, h.free 7⟩
theorem chg8 (W : World) (g : Nat) (v0 v1 v2 v3 v4 v5 v6 v7 : Value) : Chg (· = g) W ((((((((W.setCell ⟨g, 0, none⟩ v0).setCell ⟨g, 1, none⟩ v1).setCell ⟨g, 2, none⟩ v2).setCell ⟨g, 3, none⟩ v3).setCell ⟨g, 4, none⟩ v4).setCell ⟨g, 5, none⟩ v5).setCell ⟨g, 6, none⟩ v6).setCell ⟨g, 7, none⟩ v7) :=
  ((((((((Chg.refl (· = g) W).setCell (.inl rfl) v0).setCell (.inl rfl) v1).setCell (.inl rfl) v2).setCell (.inl rfl) v3).setCell (.inl rfl) v4).setCell (.inl rfl) v5).setCell (.inl rfl) v6).setCell (.inl rfl) v7
theorem BlkIs.eight {W : World} {g : Nat} {a0 a1 a2 a3 a4 a5 a6 a7 : Value} {ty : TypeId} (h : BlkIs W g #[a0, a1, a2, a3, a4, a5, a6, a7] ty) (v0 v1 v2 v3 v4 v5 v6 v7 : Value) :
    BlkIs ((((((((W.setCell ⟨g, 0, none⟩ v0).setCell ⟨g, 1, none⟩ v1).setCell ⟨g, 2, none⟩ v2).setCell ⟨g, 3, none⟩ v3).setCell ⟨g, 4, none⟩ v4).setCell ⟨g, 5, none⟩ v5).setCell ⟨g, 6, none⟩ v6).setCell ⟨g, 7, none⟩ v7) g #[v0, v1, v2, v3, v4, v5, v6, v7] ty := by
  have := (((((((h.set 0 v0).set 1 v1).set 2 v2).set 3 v3).set 4 v4).set 5 v5).set 6 v6).set 7 v7
  simpa using this
/-- What a region reads of a shape. -/
abbrev ShS (q p d : Nat) (wk fn : Bool) (y : World) : Prop :=
  (y.cell? ⟨q, 0, none⟩ = some (.int .i64 p) ∧ y.cell? ⟨q, 1, none⟩ = some (.int .i64 d) ∧ y.cell? ⟨q, 2, none⟩ = some (.bool wk) ∧ y.cell? ⟨q, 3, none⟩ = some (.bool fn)) ∧ BlkIs y q #[.int .i64 p, .int .i64 d, .bool wk, .bool fn] 45
theorem ShS.of {q p d : Nat} {wk fn : Bool} {y : World} (h : BlkIs y q #[.int .i64 p, .int .i64 d, .bool wk, .bool fn] 45) : ShS q p d wk fn y := ⟨⟨h.cell 0, h.cell 1, h.cell 2, h.cell 3⟩, h⟩
theorem ShS.alloc {q p d : Nat} {wk fn : Bool} {y : World} (h : ShS q p d wk fn y) (o : Obj) : ShS q p d wk fn (y.alloc o) := ShS.of (h.2.alloc o)

section
variable {P b : Nat} {l : List Int} {p d : Nat} {wk fn fr : Bool}

set_option maxRecDepth 100000 in
set_option maxHeartbeats 8000000 in
theorem node_any (F mb n a : Nat) (ov : Value) (o : List Int) (w : World) (hk : BlkIs w F #[ov, .map (some mb)] 125) (hm : IMap w mb n (rk o)) (h : ArenaAt 146 w P b l) (ob : ObjIs l a p d wk fn fr)
    (hs : 0 ≤ l.getD (a + 2) 0 ∧ l.getD (a + 2) 0 ≤ 9223372036854775807) (hp : ∀ i, i < p → 0 ≤ l.getD (a + (3 + i)) 0 ∧ l.getD (a + (3 + i)) 0 ≤ 9223372036854775807) :
    Calls Tryz.prog 96 #[.pointer (some ⟨F, 0, none⟩), .pointer (some ⟨P, 0, none⟩), .int .i64 a] w fun e w' => ∃ g1 g2, e = .returned (.agg #[.int .i64 (l.getD (a + 2) 0), .int .i64 p, .int .i64 d, .bool wk, .bool fn, .bool fr, .slice (some ⟨g1, 0, none⟩) p p, .slice (some ⟨g2, 0, none⟩) d d]) ∧
      w.heap.size ≤ g1 ∧ w.heap.size ≤ g2 ∧ BlkIs w' g1 ((rnkL o l a p).map (Value.int .i64)).toArray 3 ∧ BlkIs w' g2 ((numL l a p d).map (Value.int .i64)).toArray 3 ∧ Below w.heap.size w w' := by
  obtain ⟨i0, hi, hz0, hz1, hz2⟩ := info_parts infoInt
  have hlt := h.lt
  have p8 := ob.ptrs
  have d8 := ob.data
  have hmk := fun (m : Nat) (hm8 : m ≤ 8) W => make_row (P := Tryz.prog) 36 3 i0 (.int .i64 0) Tryz.underlying36 hi hz0 .i64 .i64 m m (Nat.le_refl _) (by rw [hz2]; omega) (by omega) W
  simp only [hz1, Nat.mul_one] at hmk
  have hmp := fun W => hmk p p8 W
  have hmd := fun W => hmk d d8 W
  have M1 := fun y (hy : ArenaAt 146 y P b l) => shape_at a y hy ob
  have M2 := fun y (hy : ArenaAt 146 y P b l) => serial_at a y hy ob hs
  obtain ⟨ser, hser⟩ : ∃ x, l.getD (a + 2) 0 = x := ⟨_, rfl⟩
  rw [hser] at M2 ⊢
  clear hmk hser hs
  go_enter Tryz.func96, Tryz.ntmps96
  go_wp2_with fail
  have k6 := BlkIs.new w #[.int .i64 0, .int .i64 0, .int .i64 0, .bool false, .bool false, .bool false, .slice none 0 0, .slice none 0 0] 47
  have hB := (Below.refl w.heap.size w).alloc (Nat.le_refl _) (.cells #[.int .i64 0, .int .i64 0, .int .i64 0, .bool false, .bool false, .bool false, .slice none 0 0, .slice none 0 0] 47)
  generalize w.alloc (.cells #[.int .i64 0, .int .i64 0, .int .i64 0, .bool false, .bool false, .bool false, .slice none 0 0, .slice none 0 0] 47) = x0 at *
  refine (M1 _ (h.below hB hlt.1 hlt.2)).mono ?_
  rintro e x1 ⟨rfl, hb⟩
  have k7 := BlkIs.new x1 #[.int .i64 p, .int .i64 d, .bool wk, .bool fn] 45
  have hb1 := hb.alloc hb.size (.cells #[.int .i64 p, .int .i64 d, .bool wk, .bool fn] 45)
  have k76 : w.heap.size < x1.heap.size := Nat.lt_of_lt_of_le k6.lt hb.size
  replace k6 := k6.on hb1
  replace hB := hB.trans (hb1.mono hB.size)
  clear hb hb1 M1
  go_wp2_with fail
  obtain ⟨q7, hq7⟩ : ∃ q, x1.heap.size = q := ⟨_, rfl⟩
  rw [hq7] at k7 k76 ⊢
  generalize x1.alloc (.cells #[.int .i64 p, .int .i64 d, .bool wk, .bool fn] 45) = x2 at *
  refine (M2 _ (h.below hB hlt.1 hlt.2)).mono ?_
  rintro e x3 ⟨rfl, hb⟩
  replace k6 := k6.on hb
  replace k7 := k7.on hb
  replace hB := hB.trans (hb.mono hB.size)
  clear hb M2 hq7 x0 x1 x2
  obtain ⟨⟨c0, c1, c2, c3⟩, f0, f1, f2, f3, l1⟩ := k7.facts4
  go_upto_region 3 with fail
  go_cut [12] from 30 to 39 (fun s12 wx => ∃ g1 g2 g3 : Nat, s12 = .pointer (some ⟨g3, 0, none⟩) ∧ BlkIs wx g3 #[.int .i64 ser, .int .i64 p, .int .i64 d, .bool wk, .bool fn, .bool fr, .slice (some ⟨g1, 0, none⟩) p p, .slice (some ⟨g2, 0, none⟩) d d] 47 ∧
    BlkIs wx g1 (madeCells #[Value.int .i64 0] p) 3 ∧ BlkIs wx g2 (madeCells #[Value.int .i64 0] d) 3 ∧ g1 ≠ g2 ∧ g1 ≠ g3 ∧ g2 ≠ g3 ∧ x3.heap.size ≤ g1 ∧ x3.heap.size ≤ g2 ∧ x3.heap.size ≤ g3 ∧ Below x3.heap.size x3 wx)
  case first =>
    refine wp_region_noPanic ?_
    refine wp_region_held_drew (S := ShS q7 p d wk fn) (by kernel_rfl) (ShS.of k7) (fun hS => ?_)
    have hq7 : q7 < x3.heap.size := l1
    clear c0 c1 c2 c3 f0 f1 f2 f3
    have hc_ : Cnt 0 := trivial
    iterate 5 ((first | (refine takeC hc_ (v := ?_) rfl (by kernel_rfl) (by kernel_rfl) (by kernel_rfl) (fun _ _ _ h => h) (Or.inl ⟨by rfl, ?_⟩) hS ?_; rotate_left; (· (intro y hy; (try dsimp only at hy); go_simp; try with_reducible rfl))) | refine takeC hc_ (v := undef) rfl (by kernel_rfl) (by kernel_rfl) (by kernel_rfl) (fun _ _ _ h => h) (Or.inr ⟨by rfl, rfl⟩) hS ?_); try simp only [Act.put, List.setIfInBounds_toArray, List.set_cons_zero, List.set_cons_succ, List.getElem_toArray, List.append, List.getElem_cons_zero, List.getElem_cons_succ]; replace hc_ := hc_.next; simp only [Nat.reduceAdd] at hc_)
    clear hc_
    have hc_ : Cnt 6 := trivial
    iterate 2 ((first | (refine takeC hc_ (v := ?_) rfl (by kernel_rfl) (by kernel_rfl) (by kernel_rfl) (fun _ _ _ h => h) (Or.inl ⟨by rfl, ?_⟩) hS ?_; rotate_left; (· (intro y hy; (try dsimp only at hy); go_simp; try with_reducible rfl))) | refine takeC hc_ (v := undef) rfl (by kernel_rfl) (by kernel_rfl) (by kernel_rfl) (fun _ _ _ h => h) (Or.inr ⟨by rfl, rfl⟩) hS ?_); try simp only [Act.put, List.setIfInBounds_toArray, List.set_cons_zero, List.set_cons_succ, List.getElem_toArray, List.append, List.getElem_cons_zero, List.getElem_cons_succ]; replace hc_ := hc_.next; simp only [Nat.reduceAdd] at hc_)
    clear hc_
    -- [ways
    refine wpAnyH_ready (rs := [5, 8, 10]) (by kernel_rfl) (by simp) ?_
    refine AllReadyH.cons (o := _) rfl (fun K hK => ?_) (AllReadyH.cons (o := _) rfl (fun K hK => ?_) (AllReadyH.cons (o := _) rfl (fun K hK => ?_) AllReadyH.nil))
    · go_simp
      refine hK.out _ _ (hS.alloc _) (fun hS => ?_)
      clear hK K
      try simp only [Act.put, List.setIfInBounds_toArray, List.set_cons_zero, List.set_cons_succ]
      refine wpAnyH_ready (rs := [8, 10]) (by kernel_rfl) (by simp) ?_
      refine AllReadyH.cons (o := _) rfl (fun K hK => ?_) (AllReadyH.cons (o := _) rfl (fun K hK => ?_) AllReadyH.nil)
      · go_simp
        refine hK.out _ _ (hS.alloc _) (fun hS => ?_)
        clear hK K
        try simp only [Act.put, List.setIfInBounds_toArray, List.set_cons_zero, List.set_cons_succ]
        have hc_ : Cnt 9 := trivial
        iterate 1 ((first | (refine takeC hc_ (v := ?_) rfl (by kernel_rfl) (by kernel_rfl) (by kernel_rfl) (fun _ _ _ h => h) (Or.inl ⟨by rfl, ?_⟩) hS ?_; rotate_left; (· (intro y hy; (try dsimp only at hy); go_simp; try with_reducible rfl))) | refine takeC hc_ (v := undef) rfl (by kernel_rfl) (by kernel_rfl) (by kernel_rfl) (fun _ _ _ h => h) (Or.inr ⟨by rfl, rfl⟩) hS ?_); try simp only [Act.put, List.setIfInBounds_toArray, List.set_cons_zero, List.set_cons_succ, List.getElem_toArray, List.append, List.getElem_cons_zero, List.getElem_cons_succ]; replace hc_ := hc_.next; simp only [Nat.reduceAdd] at hc_)
        clear hc_
        refine wpAnyH_ready (rs := [10]) (by kernel_rfl) (by simp) ?_
        refine AllReadyH.cons (o := _) rfl (fun K hK => ?_) AllReadyH.nil
        go_simp
        refine hK.out _ _ (hS.alloc _) (fun hS => ?_)
        clear hK K
        try simp only [Act.put, List.setIfInBounds_toArray, List.set_cons_zero, List.set_cons_succ]
        obtain ⟨b1, b2, b3, hbb⟩ := three_new x3 _ rfl (madeCells #[Value.int .i64 0] p) (madeCells #[Value.int .i64 0] d) #[.int .i64 0, .int .i64 0, .int .i64 0, .bool false, .bool false, .bool false, .slice none 0 0, .slice none 0 0] 3 3 47
        obtain ⟨c0, c1, c2, c3, c4, c5, c6, c7, f0, f1, f2, f3, f4, f5, f6, f7⟩ := BlkIs.facts8 b3
        refine wpAnyH_ready (rs := [11]) (by kernel_rfl) (by simp) ?_
        refine AllReadyH.cons (o := _) rfl (fun K hK => ?_) AllReadyH.nil
        go_simp
        clear c0 c1 c2 c3 c4 c5 c6 c7 f0 f1 f2 f3 f4 f5 f6 f7 b1 b2 b3 hbb
        obtain ⟨b1, b2, b3, hbb⟩ := three_new x3 _ rfl (madeCells #[Value.int .i64 0] p) (madeCells #[Value.int .i64 0] d) #[.int .i64 ser, .int .i64 p, .int .i64 d, .bool wk, .bool fn, .bool fr, .slice (some ⟨x3.heap.size, 0, none⟩) p p, .slice (some ⟨(x3.heap.size + 1), 0, none⟩) d d] 3 3 47
        refine hK.out _ _ (ShS.of (((k7.alloc _).alloc _).alloc _).drew) (fun hS => ?_)
        clear hK K
        try simp only [Act.put, List.setIfInBounds_toArray, List.set_cons_zero, List.set_cons_succ]
        refine wpAnyH_done (by kernel_rfl) ?_ _
        refine NoPanic.normal ?_
        go_wp2_with fail
        go_meet
        exact ⟨x3.heap.size, (x3.heap.size + 1), (x3.heap.size + 1 + 1), rfl, b3.drew, b1.drew, b2.drew, by omega, by omega, by omega, by omega, by omega, by omega, hbb.drew⟩
      · go_simp
        refine hK.out _ _ (hS.alloc _) (fun hS => ?_)
        clear hK K
        try simp only [Act.put, List.setIfInBounds_toArray, List.set_cons_zero, List.set_cons_succ]
        refine wpAnyH_ready (rs := [8]) (by kernel_rfl) (by simp) ?_
        refine AllReadyH.cons (o := _) rfl (fun K hK => ?_) AllReadyH.nil
        go_simp
        refine hK.out _ _ (hS.alloc _) (fun hS => ?_)
        clear hK K
        try simp only [Act.put, List.setIfInBounds_toArray, List.set_cons_zero, List.set_cons_succ]
        have hc_ : Cnt 9 := trivial
        iterate 1 ((first | (refine takeC hc_ (v := ?_) rfl (by kernel_rfl) (by kernel_rfl) (by kernel_rfl) (fun _ _ _ h => h) (Or.inl ⟨by rfl, ?_⟩) hS ?_; rotate_left; (· (intro y hy; (try dsimp only at hy); go_simp; try with_reducible rfl))) | refine takeC hc_ (v := undef) rfl (by kernel_rfl) (by kernel_rfl) (by kernel_rfl) (fun _ _ _ h => h) (Or.inr ⟨by rfl, rfl⟩) hS ?_); try simp only [Act.put, List.setIfInBounds_toArray, List.set_cons_zero, List.set_cons_succ, List.getElem_toArray, List.append, List.getElem_cons_zero, List.getElem_cons_succ]; replace hc_ := hc_.next; simp only [Nat.reduceAdd] at hc_)
        clear hc_
        obtain ⟨b1, b2, b3, hbb⟩ := three_new x3 _ rfl (madeCells #[Value.int .i64 0] p) #[.int .i64 0, .int .i64 0, .int .i64 0, .bool false, .bool false, .bool false, .slice none 0 0, .slice none 0 0] (madeCells #[Value.int .i64 0] d) 3 47 3
        obtain ⟨c0, c1, c2, c3, c4, c5, c6, c7, f0, f1, f2, f3, f4, f5, f6, f7⟩ := BlkIs.facts8 b2
        refine wpAnyH_ready (rs := [11]) (by kernel_rfl) (by simp) ?_
        refine AllReadyH.cons (o := _) rfl (fun K hK => ?_) AllReadyH.nil
        go_simp
        clear c0 c1 c2 c3 c4 c5 c6 c7 f0 f1 f2 f3 f4 f5 f6 f7 b1 b2 b3 hbb
        obtain ⟨b1, b2, b3, hbb⟩ := three_new x3 _ rfl (madeCells #[Value.int .i64 0] p) #[.int .i64 ser, .int .i64 p, .int .i64 d, .bool wk, .bool fn, .bool fr, .slice (some ⟨x3.heap.size, 0, none⟩) p p, .slice (some ⟨(x3.heap.size + 1 + 1), 0, none⟩) d d] (madeCells #[Value.int .i64 0] d) 3 47 3
        refine hK.out _ _ (ShS.of (((k7.alloc _).alloc _).alloc _).drew) (fun hS => ?_)
        clear hK K
        try simp only [Act.put, List.setIfInBounds_toArray, List.set_cons_zero, List.set_cons_succ]
        refine wpAnyH_done (by kernel_rfl) ?_ _
        refine NoPanic.normal ?_
        go_wp2_with fail
        go_meet
        exact ⟨x3.heap.size, (x3.heap.size + 1 + 1), (x3.heap.size + 1), rfl, b2.drew, b1.drew, b3.drew, by omega, by omega, by omega, by omega, by omega, by omega, hbb.drew⟩
    · go_simp
      refine hK.out _ _ (hS.alloc _) (fun hS => ?_)
      clear hK K
      try simp only [Act.put, List.setIfInBounds_toArray, List.set_cons_zero, List.set_cons_succ]
      refine wpAnyH_ready (rs := [5, 10]) (by kernel_rfl) (by simp) ?_
      refine AllReadyH.cons (o := _) rfl (fun K hK => ?_) (AllReadyH.cons (o := _) rfl (fun K hK => ?_) AllReadyH.nil)
      · go_simp
        refine hK.out _ _ (hS.alloc _) (fun hS => ?_)
        clear hK K
        try simp only [Act.put, List.setIfInBounds_toArray, List.set_cons_zero, List.set_cons_succ]
        have hc_ : Cnt 9 := trivial
        iterate 1 ((first | (refine takeC hc_ (v := ?_) rfl (by kernel_rfl) (by kernel_rfl) (by kernel_rfl) (fun _ _ _ h => h) (Or.inl ⟨by rfl, ?_⟩) hS ?_; rotate_left; (· (intro y hy; (try dsimp only at hy); go_simp; try with_reducible rfl))) | refine takeC hc_ (v := undef) rfl (by kernel_rfl) (by kernel_rfl) (by kernel_rfl) (fun _ _ _ h => h) (Or.inr ⟨by rfl, rfl⟩) hS ?_); try simp only [Act.put, List.setIfInBounds_toArray, List.set_cons_zero, List.set_cons_succ, List.getElem_toArray, List.append, List.getElem_cons_zero, List.getElem_cons_succ]; replace hc_ := hc_.next; simp only [Nat.reduceAdd] at hc_)
        clear hc_
        refine wpAnyH_ready (rs := [10]) (by kernel_rfl) (by simp) ?_
        refine AllReadyH.cons (o := _) rfl (fun K hK => ?_) AllReadyH.nil
        go_simp
        refine hK.out _ _ (hS.alloc _) (fun hS => ?_)
        clear hK K
        try simp only [Act.put, List.setIfInBounds_toArray, List.set_cons_zero, List.set_cons_succ]
        obtain ⟨b1, b2, b3, hbb⟩ := three_new x3 _ rfl (madeCells #[Value.int .i64 0] d) (madeCells #[Value.int .i64 0] p) #[.int .i64 0, .int .i64 0, .int .i64 0, .bool false, .bool false, .bool false, .slice none 0 0, .slice none 0 0] 3 3 47
        obtain ⟨c0, c1, c2, c3, c4, c5, c6, c7, f0, f1, f2, f3, f4, f5, f6, f7⟩ := BlkIs.facts8 b3
        refine wpAnyH_ready (rs := [11]) (by kernel_rfl) (by simp) ?_
        refine AllReadyH.cons (o := _) rfl (fun K hK => ?_) AllReadyH.nil
        go_simp
        clear c0 c1 c2 c3 c4 c5 c6 c7 f0 f1 f2 f3 f4 f5 f6 f7 b1 b2 b3 hbb
        obtain ⟨b1, b2, b3, hbb⟩ := three_new x3 _ rfl (madeCells #[Value.int .i64 0] d) (madeCells #[Value.int .i64 0] p) #[.int .i64 ser, .int .i64 p, .int .i64 d, .bool wk, .bool fn, .bool fr, .slice (some ⟨(x3.heap.size + 1), 0, none⟩) p p, .slice (some ⟨x3.heap.size, 0, none⟩) d d] 3 3 47
        refine hK.out _ _ (ShS.of (((k7.alloc _).alloc _).alloc _).drew) (fun hS => ?_)
        clear hK K
        try simp only [Act.put, List.setIfInBounds_toArray, List.set_cons_zero, List.set_cons_succ]
        refine wpAnyH_done (by kernel_rfl) ?_ _
        refine NoPanic.normal ?_
        go_wp2_with fail
        go_meet
        exact ⟨(x3.heap.size + 1), x3.heap.size, (x3.heap.size + 1 + 1), rfl, b3.drew, b2.drew, b1.drew, by omega, by omega, by omega, by omega, by omega, by omega, hbb.drew⟩
      · go_simp
        refine hK.out _ _ (hS.alloc _) (fun hS => ?_)
        clear hK K
        try simp only [Act.put, List.setIfInBounds_toArray, List.set_cons_zero, List.set_cons_succ]
        refine wpAnyH_ready (rs := [5]) (by kernel_rfl) (by simp) ?_
        refine AllReadyH.cons (o := _) rfl (fun K hK => ?_) AllReadyH.nil
        go_simp
        refine hK.out _ _ (hS.alloc _) (fun hS => ?_)
        clear hK K
        try simp only [Act.put, List.setIfInBounds_toArray, List.set_cons_zero, List.set_cons_succ]
        have hc_ : Cnt 9 := trivial
        iterate 1 ((first | (refine takeC hc_ (v := ?_) rfl (by kernel_rfl) (by kernel_rfl) (by kernel_rfl) (fun _ _ _ h => h) (Or.inl ⟨by rfl, ?_⟩) hS ?_; rotate_left; (· (intro y hy; (try dsimp only at hy); go_simp; try with_reducible rfl))) | refine takeC hc_ (v := undef) rfl (by kernel_rfl) (by kernel_rfl) (by kernel_rfl) (fun _ _ _ h => h) (Or.inr ⟨by rfl, rfl⟩) hS ?_); try simp only [Act.put, List.setIfInBounds_toArray, List.set_cons_zero, List.set_cons_succ, List.getElem_toArray, List.append, List.getElem_cons_zero, List.getElem_cons_succ]; replace hc_ := hc_.next; simp only [Nat.reduceAdd] at hc_)
        clear hc_
        obtain ⟨b1, b2, b3, hbb⟩ := three_new x3 _ rfl (madeCells #[Value.int .i64 0] d) #[.int .i64 0, .int .i64 0, .int .i64 0, .bool false, .bool false, .bool false, .slice none 0 0, .slice none 0 0] (madeCells #[Value.int .i64 0] p) 3 47 3
        obtain ⟨c0, c1, c2, c3, c4, c5, c6, c7, f0, f1, f2, f3, f4, f5, f6, f7⟩ := BlkIs.facts8 b2
        refine wpAnyH_ready (rs := [11]) (by kernel_rfl) (by simp) ?_
        refine AllReadyH.cons (o := _) rfl (fun K hK => ?_) AllReadyH.nil
        go_simp
        clear c0 c1 c2 c3 c4 c5 c6 c7 f0 f1 f2 f3 f4 f5 f6 f7 b1 b2 b3 hbb
        obtain ⟨b1, b2, b3, hbb⟩ := three_new x3 _ rfl (madeCells #[Value.int .i64 0] d) #[.int .i64 ser, .int .i64 p, .int .i64 d, .bool wk, .bool fn, .bool fr, .slice (some ⟨(x3.heap.size + 1 + 1), 0, none⟩) p p, .slice (some ⟨x3.heap.size, 0, none⟩) d d] (madeCells #[Value.int .i64 0] p) 3 47 3
        refine hK.out _ _ (ShS.of (((k7.alloc _).alloc _).alloc _).drew) (fun hS => ?_)
        clear hK K
        try simp only [Act.put, List.setIfInBounds_toArray, List.set_cons_zero, List.set_cons_succ]
        refine wpAnyH_done (by kernel_rfl) ?_ _
        refine NoPanic.normal ?_
        go_wp2_with fail
        go_meet
        exact ⟨(x3.heap.size + 1 + 1), x3.heap.size, (x3.heap.size + 1), rfl, b2.drew, b3.drew, b1.drew, by omega, by omega, by omega, by omega, by omega, by omega, hbb.drew⟩
    · go_simp
      refine hK.out _ _ (hS.alloc _) (fun hS => ?_)
      clear hK K
      try simp only [Act.put, List.setIfInBounds_toArray, List.set_cons_zero, List.set_cons_succ]
      refine wpAnyH_ready (rs := [5, 8]) (by kernel_rfl) (by simp) ?_
      refine AllReadyH.cons (o := _) rfl (fun K hK => ?_) (AllReadyH.cons (o := _) rfl (fun K hK => ?_) AllReadyH.nil)
      · go_simp
        refine hK.out _ _ (hS.alloc _) (fun hS => ?_)
        clear hK K
        try simp only [Act.put, List.setIfInBounds_toArray, List.set_cons_zero, List.set_cons_succ]
        refine wpAnyH_ready (rs := [8]) (by kernel_rfl) (by simp) ?_
        refine AllReadyH.cons (o := _) rfl (fun K hK => ?_) AllReadyH.nil
        go_simp
        refine hK.out _ _ (hS.alloc _) (fun hS => ?_)
        clear hK K
        try simp only [Act.put, List.setIfInBounds_toArray, List.set_cons_zero, List.set_cons_succ]
        have hc_ : Cnt 9 := trivial
        iterate 1 ((first | (refine takeC hc_ (v := ?_) rfl (by kernel_rfl) (by kernel_rfl) (by kernel_rfl) (fun _ _ _ h => h) (Or.inl ⟨by rfl, ?_⟩) hS ?_; rotate_left; (· (intro y hy; (try dsimp only at hy); go_simp; try with_reducible rfl))) | refine takeC hc_ (v := undef) rfl (by kernel_rfl) (by kernel_rfl) (by kernel_rfl) (fun _ _ _ h => h) (Or.inr ⟨by rfl, rfl⟩) hS ?_); try simp only [Act.put, List.setIfInBounds_toArray, List.set_cons_zero, List.set_cons_succ, List.getElem_toArray, List.append, List.getElem_cons_zero, List.getElem_cons_succ]; replace hc_ := hc_.next; simp only [Nat.reduceAdd] at hc_)
        clear hc_
        obtain ⟨b1, b2, b3, hbb⟩ := three_new x3 _ rfl #[.int .i64 0, .int .i64 0, .int .i64 0, .bool false, .bool false, .bool false, .slice none 0 0, .slice none 0 0] (madeCells #[Value.int .i64 0] p) (madeCells #[Value.int .i64 0] d) 47 3 3
        obtain ⟨c0, c1, c2, c3, c4, c5, c6, c7, f0, f1, f2, f3, f4, f5, f6, f7⟩ := BlkIs.facts8 b1
        refine wpAnyH_ready (rs := [11]) (by kernel_rfl) (by simp) ?_
        refine AllReadyH.cons (o := _) rfl (fun K hK => ?_) AllReadyH.nil
        go_simp
        clear c0 c1 c2 c3 c4 c5 c6 c7 f0 f1 f2 f3 f4 f5 f6 f7 b1 b2 b3 hbb
        obtain ⟨b1, b2, b3, hbb⟩ := three_new x3 _ rfl #[.int .i64 ser, .int .i64 p, .int .i64 d, .bool wk, .bool fn, .bool fr, .slice (some ⟨(x3.heap.size + 1), 0, none⟩) p p, .slice (some ⟨(x3.heap.size + 1 + 1), 0, none⟩) d d] (madeCells #[Value.int .i64 0] p) (madeCells #[Value.int .i64 0] d) 47 3 3
        refine hK.out _ _ (ShS.of (((k7.alloc _).alloc _).alloc _).drew) (fun hS => ?_)
        clear hK K
        try simp only [Act.put, List.setIfInBounds_toArray, List.set_cons_zero, List.set_cons_succ]
        refine wpAnyH_done (by kernel_rfl) ?_ _
        refine NoPanic.normal ?_
        go_wp2_with fail
        go_meet
        exact ⟨(x3.heap.size + 1), (x3.heap.size + 1 + 1), x3.heap.size, rfl, b1.drew, b2.drew, b3.drew, by omega, by omega, by omega, by omega, by omega, by omega, hbb.drew⟩
      · go_simp
        refine hK.out _ _ (hS.alloc _) (fun hS => ?_)
        clear hK K
        try simp only [Act.put, List.setIfInBounds_toArray, List.set_cons_zero, List.set_cons_succ]
        refine wpAnyH_ready (rs := [5]) (by kernel_rfl) (by simp) ?_
        refine AllReadyH.cons (o := _) rfl (fun K hK => ?_) AllReadyH.nil
        go_simp
        refine hK.out _ _ (hS.alloc _) (fun hS => ?_)
        clear hK K
        try simp only [Act.put, List.setIfInBounds_toArray, List.set_cons_zero, List.set_cons_succ]
        have hc_ : Cnt 9 := trivial
        iterate 1 ((first | (refine takeC hc_ (v := ?_) rfl (by kernel_rfl) (by kernel_rfl) (by kernel_rfl) (fun _ _ _ h => h) (Or.inl ⟨by rfl, ?_⟩) hS ?_; rotate_left; (· (intro y hy; (try dsimp only at hy); go_simp; try with_reducible rfl))) | refine takeC hc_ (v := undef) rfl (by kernel_rfl) (by kernel_rfl) (by kernel_rfl) (fun _ _ _ h => h) (Or.inr ⟨by rfl, rfl⟩) hS ?_); try simp only [Act.put, List.setIfInBounds_toArray, List.set_cons_zero, List.set_cons_succ, List.getElem_toArray, List.append, List.getElem_cons_zero, List.getElem_cons_succ]; replace hc_ := hc_.next; simp only [Nat.reduceAdd] at hc_)
        clear hc_
        obtain ⟨b1, b2, b3, hbb⟩ := three_new x3 _ rfl #[.int .i64 0, .int .i64 0, .int .i64 0, .bool false, .bool false, .bool false, .slice none 0 0, .slice none 0 0] (madeCells #[Value.int .i64 0] d) (madeCells #[Value.int .i64 0] p) 47 3 3
        obtain ⟨c0, c1, c2, c3, c4, c5, c6, c7, f0, f1, f2, f3, f4, f5, f6, f7⟩ := BlkIs.facts8 b1
        refine wpAnyH_ready (rs := [11]) (by kernel_rfl) (by simp) ?_
        refine AllReadyH.cons (o := _) rfl (fun K hK => ?_) AllReadyH.nil
        go_simp
        clear c0 c1 c2 c3 c4 c5 c6 c7 f0 f1 f2 f3 f4 f5 f6 f7 b1 b2 b3 hbb
        obtain ⟨b1, b2, b3, hbb⟩ := three_new x3 _ rfl #[.int .i64 ser, .int .i64 p, .int .i64 d, .bool wk, .bool fn, .bool fr, .slice (some ⟨(x3.heap.size + 1 + 1), 0, none⟩) p p, .slice (some ⟨(x3.heap.size + 1), 0, none⟩) d d] (madeCells #[Value.int .i64 0] d) (madeCells #[Value.int .i64 0] p) 47 3 3
        refine hK.out _ _ (ShS.of (((k7.alloc _).alloc _).alloc _).drew) (fun hS => ?_)
        clear hK K
        try simp only [Act.put, List.setIfInBounds_toArray, List.set_cons_zero, List.set_cons_succ]
        refine wpAnyH_done (by kernel_rfl) ?_ _
        refine NoPanic.normal ?_
        go_wp2_with fail
        go_meet
        exact ⟨(x3.heap.size + 1 + 1), (x3.heap.size + 1), x3.heap.size, rfl, b1.drew, b3.drew, b2.drew, by omega, by omega, by omega, by omega, by omega, by omega, hbb.drew⟩
    -- ways]
  case rest =>
    obtain ⟨g1, g2, g3, rfl, kn, kz1, kz2, n12, n13, n23, hg1, hg2, hg3, hb⟩ := hcut
    replace k6 := k6.on hb
    replace hB := hB.trans (hb.mono hB.size)
    have h3w : w.heap.size ≤ x3.heap.size := by omega
    have h63 : w.heap.size < x3.heap.size := by omega
    clear hb c0 c1 c2 c3 f0 f1 f2 f3 l1 k7 hmp hmd
    rw [made_ints] at kz1 kz2
    have hFl := hk.lt
    have hml := hm.lt
    obtain ⟨d0, d1, d2, d3, d4, d5, d6, d7, -⟩ := kn.facts8
    clear d0 d1 d2 d3 d4 d5 d7
    go_wp2_with fail
    go_loopw [43] (fun i wr => ∃ (k : Nat) (zs : List Int), k ≤ p ∧ i = .int .i64 k ∧ zs.length = p ∧ (∀ j, j < k → zs.getD j 0 = rankV o (l.getD (a + (3 + j)) 0)) ∧ BlkIs wr g1 (zs.map (Value.int .i64)).toArray 3 ∧ Chg (· = g1) wc wr) (fun i _ => p - (intOf i).toNat)
    case atStart => exact ⟨0, _, by omega, rfl, by simp, fun j hj => by omega, kz1, Chg.refl _ _⟩
    case round =>
      clear kz1
      obtain ⟨k, zs, hkp, rfl, hzl, hzs, hkr, hch⟩ := hrel
      have hBr := hB.trans (hch.below (n := w.heap.size) (fun c e => by omega) hB.size)
      by_cases hlt2 : k < p
      · have M1 := ptr_at a k wr (h.below hBr hlt.1 hlt.2) ob hlt2 (hp k hlt2)
        have hbd := hp k hlt2
        obtain ⟨y, hy⟩ : ∃ y, l.getD (a + (3 + k)) 0 = y := ⟨_, rfl⟩
        rw [hy] at M1 hbd
        have d6r := (hch.cell (p := ⟨g3, 6, none⟩) kn.lt (by simpa using fun e => n13 e.symm)).trans d6
        have j0 : (0 : Int) ≤ (k : Int) := by omega
        have j1 : (k : Int) < (p : Int) := by omega
        go_wp2_with fail
        refine M1.mono ?_
        rintro e x2 ⟨rfl, hb2⟩
        clear M1
        go_upto_region 8 with fail
        have hkx := hkr.more hb2 (Nat.le_refl _)
        have hBx := hBr.trans (hb2.mono hBr.size)
        have d6x := (hb2.cell (p := ⟨g3, 6, none⟩) (Nat.lt_of_lt_of_le kn.lt hch.size)).trans d6r
        have M2 := rank_any F mb n ov o y x2.drew ((hk.below hBx hFl).drew) ((hm.below hBx hml).chg ((Chg.refl (fun _ => False) x2).drew) (fun h => h)) (by omega)
        obtain ⟨r, hr⟩ : ∃ r, rankV o y = r := ⟨_, rfl⟩
        rw [hr] at M2
        refine wp_region_noPanic ?_
        refine wp_region_held_drew (S := fun y => y.cell? ⟨g3, 6, none⟩ = some (.slice (some ⟨g1, 0, none⟩) p p)) (by kernel_rfl) d6x (fun hS => ?_)
        have hc_ : Cnt 0 := trivial
        iterate 5 ((first | (refine takeC hc_ (v := ?_) rfl (by kernel_rfl) (by kernel_rfl) (by kernel_rfl) (fun _ _ _ h => h) (Or.inl ⟨by rfl, ?_⟩) hS ?_; rotate_left; (· (intro y hy; (try dsimp only at hy); go_simp; try with_reducible rfl))) | refine takeC hc_ (v := undef) rfl (by kernel_rfl) (by kernel_rfl) (by kernel_rfl) (fun _ _ _ h => h) (Or.inr ⟨by rfl, rfl⟩) hS ?_); try simp only [Act.put, List.setIfInBounds_toArray, List.set_cons_zero, List.set_cons_succ, List.getElem_toArray, List.append, List.getElem_cons_zero, List.getElem_cons_succ]; replace hc_ := hc_.next; simp only [Nat.reduceAdd] at hc_)
        clear hc_
        refine wpAnyH_ready (rs := [5]) (by kernel_rfl) (by simp) ?_
        refine AllReadyH.cons (o := _) rfl (fun K hK => ?_) AllReadyH.nil
        go_simp
        refine M2.mono ?_
        rintro e y2 ⟨rfl, rfl⟩
        refine hK.out _ _ (hS) (fun hS => ?_)
        clear hK K
        try simp only [Act.put, List.setIfInBounds_toArray, List.set_cons_zero, List.set_cons_succ]
        have hc_ : Cnt 6 := trivial
        iterate 1 ((first | (refine takeC hc_ (v := ?_) rfl (by kernel_rfl) (by kernel_rfl) (by kernel_rfl) (fun _ _ _ h => h) (Or.inl ⟨by rfl, ?_⟩) hS ?_; rotate_left; (· (intro y hy; (try dsimp only at hy); go_simp; try with_reducible rfl))) | refine takeC hc_ (v := undef) rfl (by kernel_rfl) (by kernel_rfl) (by kernel_rfl) (fun _ _ _ h => h) (Or.inr ⟨by rfl, rfl⟩) hS ?_); try simp only [Act.put, List.setIfInBounds_toArray, List.set_cons_zero, List.set_cons_succ, List.getElem_toArray, List.append, List.getElem_cons_zero, List.getElem_cons_succ]; replace hc_ := hc_.next; simp only [Nat.reduceAdd] at hc_)
        clear hc_
        clear M2
        have hc := hkx.drew.cell k
        rw [show ((zs.map (Value.int .i64)).toArray)[k]? = some (.int .i64 (zs.getD k 0)) from by simp [List.getD, show k < zs.length from by omega]] at hc
        have hf := hkx.drew.free k
        have hcs := (Chg.refl (· = g1) x2).setCell (p := ⟨g1, k, none⟩) (.inl rfl) (.int .i64 r)
        have d6y := (hcs.cell (p := ⟨g3, 6, none⟩) (World.block_lt_of_cell? x2 ⟨g3, 6, none⟩ (by rw [d6x])) (by simpa using fun e => n13 e.symm)).trans d6x
        refine wpAnyH_ready (rs := [7]) (by kernel_rfl) (by simp) ?_
        refine AllReadyH.cons (o := _) rfl (fun K hK => ?_) AllReadyH.nil
        go_simp
        refine hK.out _ _ (d6y) (fun hS => ?_)
        clear hK K
        try simp only [Act.put, List.setIfInBounds_toArray, List.set_cons_zero, List.set_cons_succ]
        refine wpAnyH_done (by kernel_rfl) ?_ _
        refine NoPanic.normal ?_
        clear hS
        go_wp2
        go_roundw
        case rel =>
          refine ⟨k + 1, zs.set k r, by omega, by go_num, by rw [List.length_set]; exact hzl, fun j hj => ?_, ?_, (((hch.trans (Chg.of_below hb2 (Nat.le_refl _))).trans hcs)).drew⟩
          · rw [set_at' (by omega)]
            by_cases e : j = k
            · subst e; rw [if_pos rfl, hy, hr]
            · rw [if_neg e]; exact hzs j (by omega)
          · have := (hkx.set k (.int .i64 r)).drew
            simpa [List.map_set] using this
        case measure => simp [intOf]; omega
      · obtain rfl : p = k := by omega
        have e1 : zs = rnkL o l a p := ext_getD (by rw [hzl, rnkL_length]) fun j hj => by rw [hzs j (by omega), rnkL_at (by omega)]
        subst e1
        replace k6 := k6.chg hch (by omega)
        replace kz2 := kz2.chg hch (fun e => n12 e.symm)
        replace kn := kn.chg hch (fun e => n13 e.symm)
        clear hB d6 hch hzs hzl hlt2
        obtain ⟨wo, rfl⟩ : ∃ wo : World, wo = wr := ⟨_, rfl⟩
        obtain ⟨d0, d1, d2, d3, d4, d5, d6, d7, -⟩ := kn.facts8
        clear d0 d1 d2 d3 d4 d5 d6
        go_wp2_with fail
        go_loopw [64] (fun i wr => ∃ (k : Nat) (zs : List Int), k ≤ d ∧ i = .int .i64 k ∧ zs.length = d ∧ (∀ j, j < k → zs.getD j 0 = zagOf (l.getD (a + (3 + p + j)) 0)) ∧ BlkIs wr g2 (zs.map (Value.int .i64)).toArray 3 ∧ Chg (· = g2) wo wr) (fun i _ => d - (intOf i).toNat)
        case atStart => exact ⟨0, _, by omega, rfl, by simp, fun j hj => by omega, kz2, Chg.refl _ _⟩
        case round =>
          clear kz2
          obtain ⟨k, zs, hkp, rfl, hzl, hzs, hkr2, hch⟩ := hrel
          have hB2 := hBr.trans (hch.below (n := w.heap.size) (fun c e => by omega) hBr.size)
          by_cases hlt2 : k < d
          · obtain ⟨hz1, hz2', hz3⟩ := zig_zagOf (w := l.getD (a + (3 + p + k)) 0) (getD_fits h.fits _).1 (getD_fits h.fits _).2
            obtain ⟨y, hy⟩ : ∃ y, zagOf (l.getD (a + (3 + p + k)) 0) = y := ⟨_, rfl⟩
            rw [hy] at hz1 hz2' hz3
            have d7r := (hch.cell (p := ⟨g3, 7, none⟩) kn.lt (by simpa using fun e => n23 e.symm)).trans d7
            have j0 : (0 : Int) ≤ (k : Int) := by omega
            have j1 : (k : Int) < (d : Int) := by omega
            have M1 := fun x (hx : ArenaAt 146 x P b l) => num_at a k y x hx ob hlt2 hz2' hz3 hz1.symm
            clear hz1
            go_upto_region 13 with fail
            have hkx := hkr2
            have hc := hkx.drew.cell k
            rw [show ((zs.map (Value.int .i64)).toArray)[k]? = some (.int .i64 (zs.getD k 0)) from by simp [List.getD, show k < zs.length from by omega]] at hc
            have hf := hkx.drew.free k
            refine wp_region_noPanic ?_
            refine wp_region_held_drew (S := fun y => y.cell? ⟨g3, 7, none⟩ = some (.slice (some ⟨g2, 0, none⟩) d d) ∧ y.cell? ⟨g2, k, none⟩ ≠ none) (by kernel_rfl) ⟨d7r, by rw [hc]; simp⟩ (fun hS => ?_)
            clear hc hf
            have hc_ : Cnt 0 := trivial
            iterate 6 ((first | (refine takeC hc_ (v := ?_) rfl (by kernel_rfl) (by kernel_rfl) (by kernel_rfl) (fun _ _ _ h => h) (Or.inl ⟨by rfl, ?_⟩) hS ?_; rotate_left; (· (intro y hy; (try dsimp only at hy); go_simp; try with_reducible rfl))) | refine takeC hc_ (v := undef) rfl (by kernel_rfl) (by kernel_rfl) (by kernel_rfl) (fun _ _ _ h => h) (Or.inr ⟨by rfl, rfl⟩) hS ?_); try simp only [Act.put, List.setIfInBounds_toArray, List.set_cons_zero, List.set_cons_succ, List.getElem_toArray, List.append, List.getElem_cons_zero, List.getElem_cons_succ]; replace hc_ := hc_.next; simp only [Nat.reduceAdd] at hc_)
            clear hc_
            refine wpAnyH_ready (rs := [6]) (by kernel_rfl) (by simp) ?_
            refine AllReadyH.cons (o := _) rfl (fun K hK => ?_) AllReadyH.nil
            go_simp
            refine (M1 _ ((h.below hB2 hlt.1 hlt.2).drew)).mono ?_
            rintro e y2 ⟨rfl, hb2⟩
            have hkx := hkr2.drew.more hb2 (Nat.le_refl _)
            have d7x := (hb2.cell (p := ⟨g3, 7, none⟩) (World.block_lt_of_cell? wr ⟨g3, 7, none⟩ (by rw [d7r]))).trans d7r
            refine hK.out _ _ (⟨d7x, by rw [hkx.cell k]; simp; omega⟩) (fun hS => ?_)
            clear hK K
            try simp only [Act.put, List.setIfInBounds_toArray, List.set_cons_zero, List.set_cons_succ]
            have hc_ : Cnt 7 := trivial
            iterate 4 ((first | (refine takeC hc_ (v := ?_) rfl (by kernel_rfl) (by kernel_rfl) (by kernel_rfl) (fun _ _ _ h => h) (Or.inl ⟨by rfl, ?_⟩) hS ?_; rotate_left; (· (intro y hy; (try dsimp only at hy); go_simp; try with_reducible rfl))) | refine takeC hc_ (v := undef) rfl (by kernel_rfl) (by kernel_rfl) (by kernel_rfl) (fun _ _ _ h => h) (Or.inr ⟨by rfl, rfl⟩) hS ?_); try simp only [Act.put, List.setIfInBounds_toArray, List.set_cons_zero, List.set_cons_succ, List.getElem_toArray, List.append, List.getElem_cons_zero, List.getElem_cons_succ]; replace hc_ := hc_.next; simp only [Nat.reduceAdd] at hc_)
            clear hc_
            have hc := hkx.cell k
            rw [show ((zs.map (Value.int .i64)).toArray)[k]? = some (.int .i64 (zs.getD k 0)) from by simp [List.getD, show k < zs.length from by omega]] at hc
            have hf := hkx.free k
            have hcs := (Chg.refl (· = g2) y2).setCell (p := ⟨g2, k, none⟩) (.inl rfl) (.int .i64 y)
            have d7y := (hcs.cell (p := ⟨g3, 7, none⟩) (World.block_lt_of_cell? y2 ⟨g3, 7, none⟩ (by rw [d7x])) (by simpa using fun e => n23 e.symm)).trans d7x
            refine wpAnyH_ready (rs := [11]) (by kernel_rfl) (by simp) ?_
            refine AllReadyH.cons (o := _) rfl (fun K hK => ?_) AllReadyH.nil
            go_simp
            have hk9 := hkx.set k (.int .i64 y)
            refine hK.out _ _ (⟨d7y, by rw [hk9.cell k]; simp; omega⟩) (fun hS => ?_)
            clear hK K
            try simp only [Act.put, List.setIfInBounds_toArray, List.set_cons_zero, List.set_cons_succ]
            refine wpAnyH_done (by kernel_rfl) ?_ _
            refine NoPanic.normal ?_
            clear hS
            go_wp2
            go_roundw
            case rel =>
              refine ⟨k + 1, zs.set k y, by omega, by go_num, by rw [List.length_set]; exact hzl, fun j hj => ?_, ?_, (hch.drew.trans (Chg.of_below hb2 (Nat.le_refl _))).trans hcs⟩
              · rw [set_at' (by omega)]
                by_cases e : j = k
                · subst e; rw [if_pos rfl, hy]
                · rw [if_neg e]; exact hzs j (by omega)
              · simpa [List.map_set] using hk9
            case measure => simp [intOf]; omega
          · obtain rfl : d = k := by omega
            have e1 : zs = numL l a p d := ext_getD (by rw [hzl, numL_length]) fun j hj => by rw [hzs j (by omega), numL_at (by omega)]
            subst e1
            replace k6 := k6.chg hch (by omega)
            replace hkr := hkr.chg hch (fun e => n12 e)
            replace kn := kn.chg hch (fun e => n23 e.symm)
            obtain ⟨d0, d1, d2, d3, d4, d5, d6, d7, -⟩ := kn.facts8
            obtain ⟨c0, c1, c2, c3, c4, c5, c6, c7, f0, f1, f2, f3, f4, f5, f6, f7⟩ := k6.facts8
            have E := k6.eight (.int .i64 ser) (.int .i64 p) (.int .i64 d) (.bool wk) (.bool fn) (.bool fr) (.slice (some ⟨g1, 0, none⟩) p p) (.slice (some ⟨g2, 0, none⟩) d d)
            have EC := chg8 wr w.heap.size (.int .i64 ser) (.int .i64 p) (.int .i64 d) (.bool wk) (.bool fn) (.bool fr) (.slice (some ⟨g1, 0, none⟩) p p) (.slice (some ⟨g2, 0, none⟩) d d)
            obtain ⟨e0, e1, e2, e3, e4, e5, e6, e7, -⟩ := E.facts8
            go_wp2
            refine bodyPost_ret (v := .agg #[.int .i64 ser, .int .i64 p, .int .i64 d, .bool wk, .bool fn, .bool fr, .slice (some ⟨g1, 0, none⟩) p p, .slice (some ⟨g2, 0, none⟩) d d]) ?_ rfl ⟨g1, g2, rfl, by omega, by omega, ?_, ?_, ?_⟩
            · clear EC E
              generalize (World.setCell (World.setCell (World.setCell (World.setCell (World.setCell (World.setCell (World.setCell (World.setCell wr ⟨w.heap.size, 0, none⟩ (.int .i64 ser)) ⟨w.heap.size, 1, none⟩ (.int .i64 p)) ⟨w.heap.size, 2, none⟩ (.int .i64 d)) ⟨w.heap.size, 3, none⟩ (.bool wk)) ⟨w.heap.size, 4, none⟩ (.bool fn)) ⟨w.heap.size, 5, none⟩ (.bool fr)) ⟨w.heap.size, 6, none⟩ (.slice (some ⟨g1, 0, none⟩) p p)) ⟨w.heap.size, 7, none⟩ (.slice (some ⟨g2, 0, none⟩) d d)) = W9 at *
              simp [results, Tryz.f96, go_sem, e0, e1, e2, e3, e4, e5, e6, e7]
            · exact hkr.chg EC (by omega)
            · exact hkr2.chg EC (by omega)
            · exact hB2.trans (EC.below (fun k e => by omega) hB2.size)
end

end Go.Proofs.YtbjmeibcphmgbaaGreat

namespace Go.Proofs.YtbjmeibcphmgbaaGreat
open Go.ChangeShapes Go.WideShapes Go.ChangeAt Go.RowKit

set_option linter.unusedSimpArgs false
set_option linter.unusedVariables false

/-- What a node tells. -/
structure Nd where
  ser : Int
  (p d : Nat)
  (wk fn fr : Bool)
  (ptrs nums : List Int)
/-- A list that is read as these numbers, in a block from B on. -/
def ReadsFrom (B : Nat) (w : World) (v : Value) (xs : List Int) : Prop := ReadsAs .i64 w v xs ∧ ∀ g, v.ownBlock = some g → B ≤ g
theorem ReadsAs.chg {w x : World} {v : Value} {xs : List Int} {S : Nat → Prop} (h : ReadsAs .i64 w v xs) (hc : Chg S w x) (hs : ∀ g, v.ownBlock = some g → ¬ S g) : ReadsAs .i64 x v xs :=
  ⟨h.1, h.2.imp id fun ⟨g, c, e, h1, hg, r⟩ => ⟨g, c, e, h1, Nat.lt_of_lt_of_le hg hc.size, fun j hj => (hc.cell (p := ⟨g, j, none⟩) hg (hs g (by rw [e]; rfl))).trans (r j hj)⟩⟩
theorem ReadsFrom.chg {B : Nat} {w x : World} {v : Value} {xs : List Int} {S : Nat → Prop} (h : ReadsFrom B w v xs) (hc : Chg S w x) (hs : ∀ k, B ≤ k → k < w.heap.size → ¬ S k) : ReadsFrom B x v xs :=
  ⟨h.1.chg hc fun g hg => hs g (h.2 g hg) (h.1.block hg), h.2⟩
theorem readsFrom_blk {B : Nat} {w : World} {g n : Nat} {xs : List Int} (h : BlkIs w g (xs.map (Value.int .i64)).toArray 3) (hn : xs.length = n) (hB : B ≤ g) (hm : xs.length ≤ 65536) : ReadsFrom B w (.slice (some ⟨g, 0, none⟩) n n) xs := by
  subst hn
  refine ⟨⟨by unfold maxLen; omega, .inr ⟨g, _, rfl, Nat.le_refl _, h.lt, fun j hj => ?_⟩⟩, fun k hk => ?_⟩
  · rw [h.cell j]; simp [List.getD, hj]
  · simp [Value.ownBlock] at hk; omega

/-- At this row of eight cells there is this node. -/
def NodeRow (B : Nat) (w : World) (nb i : Nat) (x : Nd) : Prop :=
  ∃ pv nv, (w.cell? ⟨nb, i * 8, none⟩ = some (.int .i64 x.ser) ∧ w.cell? ⟨nb, i * 8 + 1, none⟩ = some (.int .i64 x.p) ∧ w.cell? ⟨nb, i * 8 + 2, none⟩ = some (.int .i64 x.d) ∧ w.cell? ⟨nb, i * 8 + 3, none⟩ = some (.bool x.wk) ∧
    w.cell? ⟨nb, i * 8 + 4, none⟩ = some (.bool x.fn) ∧ w.cell? ⟨nb, i * 8 + 5, none⟩ = some (.bool x.fr) ∧ w.cell? ⟨nb, i * 8 + 6, none⟩ = some pv ∧ w.cell? ⟨nb, i * 8 + 7, none⟩ = some nv) ∧ ReadsFrom B w pv x.ptrs ∧ ReadsFrom B w nv x.nums
theorem NodeRow.chg {B : Nat} {w x : World} {nb i : Nat} {y : Nd} {S : Nat → Prop} (h : NodeRow B w nb i y) (hB : B ≤ nb) (hc : Chg S w x) (hs : ∀ k, B ≤ k → k < w.heap.size → ¬ S k) : NodeRow B x nb i y := by
  obtain ⟨pv, nv, ⟨c0, c1, c2, c3, c4, c5, c6, c7⟩, h1, h2⟩ := h
  have hl : nb < w.heap.size := World.block_lt_of_cell? w ⟨nb, i * 8, none⟩ (by rw [c0])
  have e := fun j => hc.cell (p := ⟨nb, j, none⟩) hl (hs nb hB hl)
  exact ⟨pv, nv, ⟨(e _).trans c0, (e _).trans c1, (e _).trans c2, (e _).trans c3, (e _).trans c4, (e _).trans c5, (e _).trans c6, (e _).trans c7⟩, h1.chg hc hs, h2.chg hc hs⟩
/-- A slice of these nodes, the first n; all of it lies from block B on. -/
def NodesAt (B : Nat) (w : World) (v : Value) (f : Nat → Nd) (n : Nat) : Prop :=
  ∃ av c, v = .slice av n c ∧ (0 < n → ∃ nb, av = some ⟨nb, 0, none⟩ ∧ B ≤ nb ∧ nb < w.heap.size ∧ n ≤ c ∧ ∀ i, i < n → NodeRow B w nb i (f i))
theorem NodesAt.chg {B n : Nat} {w x : World} {v : Value} {f : Nat → Nd} {S : Nat → Prop} (h : NodesAt B w v f n) (hc : Chg S w x) (hs : ∀ k, B ≤ k → k < w.heap.size → ¬ S k) : NodesAt B x v f n := by
  obtain ⟨av, c, e, r⟩ := h
  refine ⟨av, c, e, fun hn => ?_⟩
  obtain ⟨nb, e2, hb, hl, hc', hr⟩ := r hn
  exact ⟨nb, e2, hb, Nat.lt_of_lt_of_le hl hc.size, hc', fun i hi => (hr i hi).chg hb hc hs⟩
theorem NodesAt.on {B n : Nat} {w x : World} {v : Value} {f : Nat → Nd} (h : NodesAt B w v f n) (hb : Below w.heap.size w x) : NodesAt B x v f n :=
  h.chg (S := fun _ => False) (Chg.of_below hb (Nat.le_refl _)) fun _ _ _ h => h
theorem NodesAt.drew {B n : Nat} {w : World} {v : Value} {f : Nat → Nd} (h : NodesAt B w v f n) : NodesAt B w.drew v f n := h

/-- Of each object of V, what node tells: its pointers each as its place in the order. -/
structure Nods (P b : Nat) (l V : List Int) (N : Int → Nd) : Prop where
  node : ∀ x ∈ V, ∀ (F mb n : Nat) (ov : Value) (o : List Int) (y : World), BlkIs y F #[ov, .map (some mb)] 125 → IMap y mb n (rk o) → ArenaAt 146 y P b l →
    Calls Tryz.prog 96 #[.pointer (some ⟨F, 0, none⟩), .pointer (some ⟨P, 0, none⟩), .int .i64 x] y fun e y' => ∃ g1 g2, e = .returned (.agg #[.int .i64 (N x).ser, .int .i64 (N x).p, .int .i64 (N x).d, .bool (N x).wk, .bool (N x).fn, .bool (N x).fr, .slice (some ⟨g1, 0, none⟩) (N x).p (N x).p, .slice (some ⟨g2, 0, none⟩) (N x).d (N x).d]) ∧
      y.heap.size ≤ g1 ∧ y.heap.size ≤ g2 ∧ BlkIs y' g1 (((N x).ptrs.map (rankV o)).map (Value.int .i64)).toArray 3 ∧ BlkIs y' g2 ((N x).nums.map (Value.int .i64)).toArray 3 ∧ Below y.heap.size y y'
  plen : ∀ x ∈ V, (N x).ptrs.length = (N x).p
  nlen : ∀ x ∈ V, (N x).nums.length = (N x).d
  small : ∀ x ∈ V, (N x).p ≤ 8 ∧ (N x).d ≤ 8
def ndO (o : List Int) (x : Nd) : Nd := { x with ptrs := x.ptrs.map (rankV o) }

theorem infoNode : (Tryz.prog.info? 47).map (fun i => (i.zero, i.size, i.bytes)) = some (some (.agg #[.int .i64 0, .int .i64 0, .int .i64 0, .bool false, .bool false, .bool false, .slice none 0 0, .slice none 0 0]), 8, 88) := by kernel_rfl

def set8 (cs : Array Value) (o : Nat) (v0 v1 v2 v3 v4 v5 v6 v7 : Value) : Array Value := (((((((cs.setIfInBounds o v0).setIfInBounds (o + 1) v1).setIfInBounds (o + 2) v2).setIfInBounds (o + 3) v3).setIfInBounds (o + 4) v4).setIfInBounds (o + 5) v5).setIfInBounds (o + 6) v6).setIfInBounds (o + 7) v7
theorem set8_size (cs : Array Value) (o : Nat) (v0 v1 v2 v3 v4 v5 v6 v7 : Value) : (set8 cs o v0 v1 v2 v3 v4 v5 v6 v7).size = cs.size := by simp [set8]
theorem set8_in {cs : Array Value} {o : Nat} (h : o + 8 ≤ cs.size) (v0 v1 v2 v3 v4 v5 v6 v7 : Value) :
    (set8 cs o v0 v1 v2 v3 v4 v5 v6 v7)[o]? = some v0 ∧ (set8 cs o v0 v1 v2 v3 v4 v5 v6 v7)[o + 1]? = some v1 ∧ (set8 cs o v0 v1 v2 v3 v4 v5 v6 v7)[o + 2]? = some v2 ∧ (set8 cs o v0 v1 v2 v3 v4 v5 v6 v7)[o + 3]? = some v3 ∧
    (set8 cs o v0 v1 v2 v3 v4 v5 v6 v7)[o + 4]? = some v4 ∧ (set8 cs o v0 v1 v2 v3 v4 v5 v6 v7)[o + 5]? = some v5 ∧ (set8 cs o v0 v1 v2 v3 v4 v5 v6 v7)[o + 6]? = some v6 ∧ (set8 cs o v0 v1 v2 v3 v4 v5 v6 v7)[o + 7]? = some v7 := by
  have b : ∀ j, j < 8 → o + j < cs.size := fun j hj => by omega
  have b0 := b 0 (by omega)
  have b1 := b 1 (by omega)
  have b2 := b 2 (by omega)
  have b3 := b 3 (by omega)
  have b4 := b 4 (by omega)
  have b5 := b 5 (by omega)
  have b6 := b 6 (by omega)
  have b7 := b 7 (by omega)
  unfold set8
  refine ⟨?_, ?_, ?_, ?_, ?_, ?_, ?_, ?_⟩ <;> simp [Array.getElem?_setIfInBounds] <;> omega
theorem set8_out {cs : Array Value} {o k : Nat} (h : ¬ (o ≤ k ∧ k < o + 8)) (v0 v1 v2 v3 v4 v5 v6 v7 : Value) : (set8 cs o v0 v1 v2 v3 v4 v5 v6 v7)[k]? = cs[k]? := by
  unfold set8
  simp only [Array.getElem?_setIfInBounds]
  rw [if_neg (by omega), if_neg (by omega), if_neg (by omega), if_neg (by omega), if_neg (by omega), if_neg (by omega), if_neg (by omega), if_neg (by omega)]
theorem chg8at (W : World) (g o : Nat) (v0 v1 v2 v3 v4 v5 v6 v7 : Value) : Chg (· = g) W ((((((((W.setCell ⟨g, o, none⟩ v0).setCell ⟨g, o + 1, none⟩ v1).setCell ⟨g, o + 2, none⟩ v2).setCell ⟨g, o + 3, none⟩ v3).setCell ⟨g, o + 4, none⟩ v4).setCell ⟨g, o + 5, none⟩ v5).setCell ⟨g, o + 6, none⟩ v6).setCell ⟨g, o + 7, none⟩ v7) :=
  ((((((((Chg.refl (· = g) W).setCell (.inl rfl) v0).setCell (.inl rfl) v1).setCell (.inl rfl) v2).setCell (.inl rfl) v3).setCell (.inl rfl) v4).setCell (.inl rfl) v5).setCell (.inl rfl) v6).setCell (.inl rfl) v7
theorem BlkIs.eightAt {W : World} {g o : Nat} {cs : Array Value} {ty : TypeId} (h : BlkIs W g cs ty) (v0 v1 v2 v3 v4 v5 v6 v7 : Value) :
    BlkIs ((((((((W.setCell ⟨g, o, none⟩ v0).setCell ⟨g, o + 1, none⟩ v1).setCell ⟨g, o + 2, none⟩ v2).setCell ⟨g, o + 3, none⟩ v3).setCell ⟨g, o + 4, none⟩ v4).setCell ⟨g, o + 5, none⟩ v5).setCell ⟨g, o + 6, none⟩ v6).setCell ⟨g, o + 7, none⟩ v7) g (set8 cs o v0 v1 v2 v3 v4 v5 v6 v7) ty :=
  (((((((h.set o v0).set (o + 1) v1).set (o + 2) v2).set (o + 3) v3).set (o + 4) v4).set (o + 5) v5).set (o + 6) v6).set (o + 7) v7
theorem BlkIs.rows8 {W : World} {g o : Nat} {cs : Array Value} {ty : TypeId} (h : BlkIs W g cs ty) (ho : o + 8 ≤ cs.size) : ∃ a0 a1 a2 a3 a4 a5 a6 a7, (W.cell? ⟨g, o, none⟩ = some a0 ∧ W.cell? ⟨g, o + 1, none⟩ = some a1 ∧ W.cell? ⟨g, o + 2, none⟩ = some a2 ∧ W.cell? ⟨g, o + 3, none⟩ = some a3 ∧
    W.cell? ⟨g, o + 4, none⟩ = some a4 ∧ W.cell? ⟨g, o + 5, none⟩ = some a5 ∧ W.cell? ⟨g, o + 6, none⟩ = some a6 ∧ W.cell? ⟨g, o + 7, none⟩ = some a7) ∧
    W.frozen? ⟨g, o, none⟩ = false ∧ W.frozen? ⟨g, o + 1, none⟩ = false ∧ W.frozen? ⟨g, o + 2, none⟩ = false ∧ W.frozen? ⟨g, o + 3, none⟩ = false ∧ W.frozen? ⟨g, o + 4, none⟩ = false ∧ W.frozen? ⟨g, o + 5, none⟩ = false ∧ W.frozen? ⟨g, o + 6, none⟩ = false ∧ W.frozen? ⟨g, o + 7, none⟩ = false := by
  have c := fun j (hj : j < 8) => (h.cell (o + j)).trans (Array.getElem?_eq_getElem (xs := cs) (show o + j < cs.size by omega))
  exact ⟨_, _, _, _, _, _, _, _, ⟨c 0 (by omega), c 1 (by omega), c 2 (by omega), c 3 (by omega), c 4 (by omega), c 5 (by omega), c 6 (by omega), c 7 (by omega)⟩, h.free _, h.free _, h.free _, h.free _, h.free _, h.free _, h.free _, h.free _⟩
/-- The rows of a block that have been laid so far. -/
theorem NodeRow.set8 {B : Nat} {w : World} {nb i : Nat} {x : Nd} {cs : Array Value} {pv nv : Value} (h : BlkIs w nb cs 47) (hi : i * 8 + 8 ≤ cs.size) (hB : B ≤ nb) (h1 : ReadsFrom B w pv x.ptrs) (h2 : ReadsFrom B w nv x.nums)
    (hc : BlkIs w nb (set8 cs (i * 8) (.int .i64 x.ser) (.int .i64 x.p) (.int .i64 x.d) (.bool x.wk) (.bool x.fn) (.bool x.fr) pv nv) 47) : NodeRow B w nb i x := by
  obtain ⟨e0, e1, e2, e3, e4, e5, e6, e7⟩ := set8_in (cs := cs) hi (.int .i64 x.ser) (.int .i64 x.p) (.int .i64 x.d) (.bool x.wk) (.bool x.fn) (.bool x.fr) pv nv
  exact ⟨pv, nv, ⟨(hc.cell _).trans e0, (hc.cell _).trans e1, (hc.cell _).trans e2, (hc.cell _).trans e3, (hc.cell _).trans e4, (hc.cell _).trans e5, (hc.cell _).trans e6, (hc.cell _).trans e7⟩, h1, h2⟩
/-- .. while they are laid. -/
def NodeC (w : World) (nb : Nat) (cs : Array Value) (i : Nat) (x : Nd) : Prop :=
  ∃ pv nv, (cs[i * 8]? = some (.int .i64 x.ser) ∧ cs[i * 8 + 1]? = some (.int .i64 x.p) ∧ cs[i * 8 + 2]? = some (.int .i64 x.d) ∧ cs[i * 8 + 3]? = some (.bool x.wk) ∧
    cs[i * 8 + 4]? = some (.bool x.fn) ∧ cs[i * 8 + 5]? = some (.bool x.fr) ∧ cs[i * 8 + 6]? = some pv ∧ cs[i * 8 + 7]? = some nv) ∧ ReadsFrom (nb + 1) w pv x.ptrs ∧ ReadsFrom (nb + 1) w nv x.nums
theorem NodeC.chg {w y : World} {nb i : Nat} {cs : Array Value} {x : Nd} {S : Nat → Prop} (h : NodeC w nb cs i x) (hc : Chg S w y) (hs : ∀ k, nb < k → k < w.heap.size → ¬ S k) : NodeC y nb cs i x := by
  obtain ⟨pv, nv, e, h1, h2⟩ := h
  exact ⟨pv, nv, e, h1.chg hc fun k hk => hs k (by omega), h2.chg hc fun k hk => hs k (by omega)⟩
theorem NodeC.set {w : World} {nb i k : Nat} {cs : Array Value} {x : Nd} (h : NodeC w nb cs i x) (hk : i ≠ k) (v0 v1 v2 v3 v4 v5 v6 v7 : Value) : NodeC w nb (set8 cs (k * 8) v0 v1 v2 v3 v4 v5 v6 v7) i x := by
  obtain ⟨pv, nv, ⟨e0, e1, e2, e3, e4, e5, e6, e7⟩, h1, h2⟩ := h
  refine ⟨pv, nv, ⟨?_, ?_, ?_, ?_, ?_, ?_, ?_, ?_⟩, h1, h2⟩ <;> rw [set8_out (by omega)] <;> assumption
theorem NodeC.here {w : World} {nb i : Nat} {cs : Array Value} {x : Nd} {pv nv : Value} (hi : i * 8 + 8 ≤ cs.size) (h1 : ReadsFrom (nb + 1) w pv x.ptrs) (h2 : ReadsFrom (nb + 1) w nv x.nums) :
    NodeC w nb (Go.Proofs.YtbjmeibcphmgbaaGreat.set8 cs (i * 8) (.int .i64 x.ser) (.int .i64 x.p) (.int .i64 x.d) (.bool x.wk) (.bool x.fn) (.bool x.fr) pv nv) i x := ⟨pv, nv, set8_in hi _ _ _ _ _ _ _ _, h1, h2⟩
theorem NodeC.row {B : Nat} {w : World} {nb i : Nat} {cs : Array Value} {x : Nd} (h : NodeC w nb cs i x) (hb : BlkIs w nb cs 47) (hB : B ≤ nb) : NodeRow B w nb i x := by
  obtain ⟨pv, nv, ⟨e0, e1, e2, e3, e4, e5, e6, e7⟩, h1, h2⟩ := h
  exact ⟨pv, nv, ⟨(hb.cell _).trans e0, (hb.cell _).trans e1, (hb.cell _).trans e2, (hb.cell _).trans e3, (hb.cell _).trans e4, (hb.cell _).trans e5, (hb.cell _).trans e6, (hb.cell _).trans e7⟩, ⟨h1.1, fun g hg => by have := h1.2 g hg; omega⟩, ⟨h2.1, fun g hg => by have := h2.2 g hg; omega⟩⟩

/-- .. each with rows of its own, which lie between lo and hi. -/
def NodeD (w : World) (nb : Nat) (cs : Array Value) (i lo hi : Nat) (x : Nd) : Prop :=
  ∃ g1 g2, (cs[i * 8]? = some (.int .i64 x.ser) ∧ cs[i * 8 + 1]? = some (.int .i64 x.p) ∧ cs[i * 8 + 2]? = some (.int .i64 x.d) ∧ cs[i * 8 + 3]? = some (.bool x.wk) ∧
    cs[i * 8 + 4]? = some (.bool x.fn) ∧ cs[i * 8 + 5]? = some (.bool x.fr) ∧ cs[i * 8 + 6]? = some (.slice (some ⟨g1, 0, none⟩) x.p x.p) ∧ cs[i * 8 + 7]? = some (.slice (some ⟨g2, 0, none⟩) x.d x.d)) ∧
    (nb < lo ∧ lo ≤ g1 ∧ g1 < hi ∧ lo ≤ g2 ∧ g2 < hi) ∧ BlkIs w g1 (x.ptrs.map (Value.int .i64)).toArray 3 ∧ BlkIs w g2 (x.nums.map (Value.int .i64)).toArray 3 ∧ x.ptrs.length = x.p ∧ x.nums.length = x.d ∧ x.p ≤ 8 ∧ x.d ≤ 8
theorem NodeD.chg {w y : World} {nb i lo hi : Nat} {cs : Array Value} {x : Nd} {S : Nat → Prop} (h : NodeD w nb cs i lo hi x) (hc : Chg S w y) (hs : ∀ k, lo ≤ k → k < hi → ¬ S k) : NodeD y nb cs i lo hi x := by
  obtain ⟨g1, g2, e, h0, h1, h2, r⟩ := h
  exact ⟨g1, g2, e, h0, h1.chg hc (hs _ h0.2.1 h0.2.2.1), h2.chg hc (hs _ h0.2.2.2.1 h0.2.2.2.2), r⟩
theorem NodeD.set {w : World} {nb i k lo hi : Nat} {cs : Array Value} {x : Nd} (h : NodeD w nb cs i lo hi x) (hk : i ≠ k) (v0 v1 v2 v3 v4 v5 v6 v7 : Value) : NodeD w nb (set8 cs (k * 8) v0 v1 v2 v3 v4 v5 v6 v7) i lo hi x := by
  obtain ⟨g1, g2, ⟨e0, e1, e2, e3, e4, e5, e6, e7⟩, r⟩ := h
  refine ⟨g1, g2, ⟨?_, ?_, ?_, ?_, ?_, ?_, ?_, ?_⟩, r⟩ <;> rw [set8_out (by omega)] <;> assumption
theorem NodeD.here {w : World} {nb i lo hi g1 g2 : Nat} {cs : Array Value} {x : Nd} (hi' : i * 8 + 8 ≤ cs.size) (h0 : nb < lo ∧ lo ≤ g1 ∧ g1 < hi ∧ lo ≤ g2 ∧ g2 < hi) (h1 : BlkIs w g1 (x.ptrs.map (Value.int .i64)).toArray 3) (h2 : BlkIs w g2 (x.nums.map (Value.int .i64)).toArray 3)
    (h3 : x.ptrs.length = x.p ∧ x.nums.length = x.d ∧ x.p ≤ 8 ∧ x.d ≤ 8) :
    NodeD w nb (Go.Proofs.YtbjmeibcphmgbaaGreat.set8 cs (i * 8) (.int .i64 x.ser) (.int .i64 x.p) (.int .i64 x.d) (.bool x.wk) (.bool x.fn) (.bool x.fr) (.slice (some ⟨g1, 0, none⟩) x.p x.p) (.slice (some ⟨g2, 0, none⟩) x.d x.d)) i lo hi x := ⟨g1, g2, set8_in hi' _ _ _ _ _ _ _ _, h0, h1, h2, h3⟩
theorem NodeD.row {B : Nat} {w : World} {nb i lo hi : Nat} {cs : Array Value} {x : Nd} (h : NodeD w nb cs i lo hi x) (hb : BlkIs w nb cs 47) (hB : B ≤ nb) : NodeRow B w nb i x := by
  obtain ⟨g1, g2, ⟨e0, e1, e2, e3, e4, e5, e6, e7⟩, h0, h1, h2, h3, h4, h5, h6⟩ := h
  exact ⟨_, _, ⟨(hb.cell _).trans e0, (hb.cell _).trans e1, (hb.cell _).trans e2, (hb.cell _).trans e3, (hb.cell _).trans e4, (hb.cell _).trans e5, (hb.cell _).trans e6, (hb.cell _).trans e7⟩, readsFrom_blk h1 h3 (by omega) (by omega), readsFrom_blk h2 h4 (by omega) (by omega)⟩
/-- A slice of these nodes, the first n; all of it lies from block B on, and each row is a block of its own. -/
def NodesOwn (B C : Nat) (w : World) (v : Value) (f : Nat → Nd) (n : Nat) : Prop :=
  ∃ av, v = .slice av n n ∧ (0 < n → ∃ (nb : Nat) (cs : Array Value) (lo : Nat → Nat), av = some ⟨nb, 0, none⟩ ∧ (B ≤ nb ∧ lo n ≤ C) ∧ nb < lo 0 ∧ (∀ i j, i ≤ j → j ≤ n → lo i ≤ lo j) ∧ cs.size = n * 8 ∧ BlkIs w nb cs 47 ∧ ∀ i, i < n → NodeD w nb cs i (lo i) (lo (i + 1)) (f i))
theorem NodesOwn.at {B C n : Nat} {w : World} {v : Value} {f : Nat → Nd} (h : NodesOwn B C w v f n) : NodesAt B w v f n := by
  obtain ⟨av, e, r⟩ := h
  refine ⟨av, n, e, fun hn => ?_⟩
  obtain ⟨nb, cs, lo, e1, h1, h2, h3, h4, h5, h6⟩ := r hn
  exact ⟨nb, e1, h1.1, h5.lt, Nat.le_refl _, fun i hi => (h6 i hi).row h5 h1.1⟩
theorem NodesOwn.chg {B C n : Nat} {w x : World} {v : Value} {f : Nat → Nd} {S : Nat → Prop} (h : NodesOwn B C w v f n) (hc : Chg S w x) (hs : ∀ k, B ≤ k → k < C → ¬ S k) : NodesOwn B C x v f n := by
  obtain ⟨av, e, r⟩ := h
  refine ⟨av, e, fun hn => ?_⟩
  obtain ⟨nb, cs, lo, e1, h1, h2, h3, h4, h5, h6⟩ := r hn
  exact ⟨nb, cs, lo, e1, h1, h2, h3, h4, h5.chg hc (hs _ h1.1 (by have := h3 0 n (by omega) (by omega); omega)), fun i hi => (h6 i hi).chg hc fun k hk hk2 => hs k (by have := h3 0 i (by omega) (by omega); omega) (by have := h3 (i + 1) n (by omega) (by omega); omega)⟩
theorem NodesOwn.on {B C n : Nat} {w x : World} {v : Value} {f : Nat → Nd} (h : NodesOwn B C w v f n) (hb : Below w.heap.size w x) : NodesOwn B C x v f n :=
  h.chg (S := fun _ => False) (Chg.of_below hb (Nat.le_refl _)) fun _ _ _ h => h
theorem NodesOwn.mono {A B C D n : Nat} {w : World} {v : Value} {f : Nat → Nd} (h : NodesOwn B C w v f n) (hA : A ≤ B) (hC : C ≤ D) : NodesOwn A D w v f n := by
  obtain ⟨av, e, r⟩ := h
  refine ⟨av, e, fun hn => ?_⟩
  obtain ⟨nb, cs, lo, e1, h1, r⟩ := r hn
  exact ⟨nb, cs, lo, e1, by omega, r⟩
theorem NodesOwn.congr {B C n : Nat} {w : World} {v : Value} {f g : Nat → Nd} (h : NodesOwn B C w v f n) (e : ∀ i, i < n → f i = g i) : NodesOwn B C w v g n := by
  obtain ⟨av, e', r⟩ := h
  refine ⟨av, e', fun hn => ?_⟩
  obtain ⟨nb, cs, lo, e1, h1, h2, h3, h4, h5, h6⟩ := r hn
  exact ⟨nb, cs, lo, e1, h1, h2, h3, h4, h5, fun i hi => by rw [← e i hi]; exact h6 i hi⟩
/-- What a node's cells are, and what becomes of the nodes when the first cell of its row of pointers is set. -/
theorem NodesOwn.node {B C n : Nat} {w : World} {v : Value} {f : Nat → Nd} (h : NodesOwn B C w v f n) {i : Nat} (hi : i < n) : ∃ nb g1, v = .slice (some ⟨nb, 0, none⟩) n n ∧ nb < w.heap.size ∧ (B ≤ g1 ∧ g1 < C) ∧
    (w.cell? ⟨nb, i * 8 + 3, none⟩ = some (.bool (f i).wk) ∧ w.cell? ⟨nb, i * 8 + 6, none⟩ = some (.slice (some ⟨g1, 0, none⟩) (f i).p (f i).p)) ∧ BlkIs w g1 ((f i).ptrs.map (Value.int .i64)).toArray 3 ∧ (f i).ptrs.length = (f i).p ∧ B ≤ nb ∧ nb < C ∧
    ∀ u x, (f i).d = 0 → (f i).ptrs = [x] → NodesOwn B C (w.setCell ⟨g1, 0, none⟩ (.int .i64 u)) v (fun j => if j = i then { f i with ptrs := [u] } else f j) n := by
  obtain ⟨av, rfl, r⟩ := h
  obtain ⟨nb, cs, lo, rfl, h1, h2, h3, h4, h5, h6⟩ := r (by omega)
  obtain ⟨g1, g2, ⟨e0, e1, e2, e3, e4, e5, e6, e7⟩, q0, q1, q2, q3, q4, q5⟩ := h6 i hi
  have l1 := h3 0 i (by omega) (by omega)
  have l2 := h3 (i + 1) n (by omega) (by omega)
  refine ⟨nb, g1, rfl, h5.lt, ⟨by omega, by omega⟩, ⟨(h5.cell _).trans e3, (h5.cell _).trans e6⟩, q1, q3, h1.1, by omega, fun u x hd hx => ?_⟩
  have hc : Chg (· = g1) w (w.setCell ⟨g1, 0, none⟩ (.int .i64 u)) := (Chg.refl (· = g1) w).setCell (.inl rfl) _
  refine ⟨_, rfl, fun hn => ⟨nb, cs, lo, rfl, h1, h2, h3, h4, h5.chg hc (by omega), fun j hj => ?_⟩⟩
  by_cases e : j = i
  · subst e
    have hg : g1 ≠ g2 := fun e => by
      subst e
      unfold BlkIs at q1 q2
      rw [q1] at q2
      rw [hx] at q2
      have e9 : (f j).nums = [] := List.eq_nil_of_length_eq_zero (by omega)
      rw [e9] at q2
      simp at q2
    have q1' := q1.set 0 (.int .i64 u)
    rw [hx] at q1'
    dsimp only
    rw [if_pos rfl]
    exact ⟨g1, g2, ⟨e0, e1, e2, e3, e4, e5, e6, e7⟩, q0, by simpa using q1', q2.chg hc (fun e => hg e.symm), by rw [hx] at q3; exact q3, q4, q5⟩
  · dsimp only
    rw [if_neg e]
    refine (h6 j hj).chg hc fun k hk hk2 ek => ?_
    rcases Nat.lt_or_gt_of_ne e with e' | e'
    · have := h3 (j + 1) i (by omega) (by omega); omega
    · have := h3 (i + 1) j (by omega) (by omega); omega

theorem nodeD_next {wr x2 W9 : World} {nb k g1 g2 : Nat} {cs : Array Value} {lo : Nat → Nat} {F : Nat → Nd} {x : Nd} (r : (∀ j, j < k → NodeD wr nb cs j (lo j) (lo (j + 1)) (F j)) ∧ nb < lo 0 ∧ lo k ≤ wr.heap.size ∧ ∀ i j, i ≤ j → j ≤ k → lo i ≤ lo j)
    (hcs : k * 8 + 8 ≤ cs.size) (hx : F k = x) (hb : Below wr.heap.size wr x2) (EC : Chg (· = nb) x2 W9) (hg1 : wr.heap.size ≤ g1) (hg2 : wr.heap.size ≤ g2) (b1 : BlkIs x2 g1 (x.ptrs.map (Value.int .i64)).toArray 3) (b2 : BlkIs x2 g2 (x.nums.map (Value.int .i64)).toArray 3)
    (hl : x.ptrs.length = x.p ∧ x.nums.length = x.d ∧ x.p ≤ 8 ∧ x.d ≤ 8) :
    ∃ lo' : Nat → Nat, Hid ((∀ j, j < k + 1 → NodeD W9 nb (set8 cs (k * 8) (.int .i64 x.ser) (.int .i64 x.p) (.int .i64 x.d) (.bool x.wk) (.bool x.fn) (.bool x.fr) (.slice (some ⟨g1, 0, none⟩) x.p x.p) (.slice (some ⟨g2, 0, none⟩) x.d x.d)) j (lo' j) (lo' (j + 1)) (F j)) ∧
      nb < lo' 0 ∧ lo' (k + 1) ≤ W9.heap.size ∧ ∀ i j, i ≤ j → j ≤ k + 1 → lo' i ≤ lo' j) := by
  obtain ⟨r1, r2, r3, r4⟩ := r
  have l1 := b1.lt
  have l2 := b2.lt
  have l3 := hb.size
  have l4 := r4 0 k (by omega) (by omega)
  refine ⟨fun j => if j = k + 1 then x2.heap.size else lo j, Lib.hid ⟨fun j hj => ?_, ?_, ?_, fun i j hij hj => ?_⟩⟩
  · dsimp only
    rw [if_neg (by omega)]
    by_cases e : j = k
    · subst e
      rw [hx, if_pos rfl]
      exact NodeD.here hcs ⟨by omega, by omega, l1, by omega, l2⟩ (b1.chg EC (by omega)) (b2.chg EC (by omega)) hl
    · rw [if_neg (by omega)]
      have l5 := r4 0 j (by omega) (by omega)
      exact (((r1 j (by omega)).chg (S := fun _ => False) (Chg.of_below hb (Nat.le_refl _)) (fun _ _ _ h => h)).set e _ _ _ _ _ _ _ _).chg EC (fun c h1 h2 e => by omega)
  · dsimp only; rw [if_neg (by omega)]; exact r2
  · dsimp only; rw [if_pos rfl]; exact EC.size
  · dsimp only
    by_cases ej : j = k + 1
    · rw [if_pos ej]
      by_cases ei : i = k + 1
      · rw [if_pos ei]; exact Nat.le_refl _
      · rw [if_neg ei]; have := r4 i k (by omega) (by omega); omega
    · rw [if_neg ej, if_neg (by omega)]; exact r4 i j hij (by omega)

set_option maxRecDepth 100000 in
set_option maxHeartbeats 8000000 in
theorem canon_own (P b : Nat) (l V : List Int) (G : Int → List Int) (N : Int → Nd) (rv : Value) (roots : List Int) (w : World) (hG : Grph P b l V G) (hN : Nods P b l V N) (hA : ArenaAt 146 w P b l) (hv : ReadsOff w rv roots)
    (hr : ∀ x ∈ roots, x = 0 ∨ x ∈ V) (hrl : roots.length ≤ 1000) :
    Calls Tryz.prog 62 #[.pointer (some ⟨P, 0, none⟩), rv] w fun e w' => ∃ nv sv C, e = .returned (.tuple #[nv, sv, .int .i64 0]) ∧
      (w.heap.size ≤ C ∧ C ≤ w'.heap.size) ∧ NodesOwn w.heap.size C w' nv (fun i => ndO (reachO G V.length roots) (N ((reachO G V.length roots).getD i 0))) (reachO G V.length roots).length ∧ ReadsFrom C w' sv (roots.map (rankV (reachO G V.length roots))) ∧ Below w.heap.size w w' := by
  obtain ⟨i0, hi, hz0, hz1, hz2⟩ := info_parts infoInt
  obtain ⟨j0, ji, jz0, jz1, jz2⟩ := info_parts infoNode
  have hlt := hA.lt
  have M1 := reach_off P b l V G rv roots w hG hA hv hr hrl
  have hI := reachO_inv (G := G) hr hG.shut
  have hoV := hI.len
  have hV8 := hG.len
  generalize reachO G V.length roots = o at *
  have hmn := fun W => make_row (P := Tryz.prog) 40 47 j0 _ Tryz.underlying40 ji jz0 .i64 .i64 o.length o.length (Nat.le_refl _) (by rw [jz2]; omega) (by omega) W
  rw [jz1] at hmn
  have hmr := fun W => make_row (P := Tryz.prog) 36 3 i0 (.int .i64 0) Tryz.underlying36 hi hz0 .i64 .i64 roots.length roots.length (Nat.le_refl _) (by rw [hz2]; omega) (by omega) W
  simp only [hz1, Nat.mul_one] at hmr
  obtain ⟨rva, rvc, rfl, hrv⟩ := hv.slice
  have Hrv := Lib.hid hrv
  clear hrv hv
  go_enter Tryz.func62, Tryz.ntmps62
  go_wp2_with fail
  refine M1.mono ?_
  rintro e x ⟨mb, ov, rfl, hown, hm, hmb, hB⟩
  clear M1
  have k7 := BlkIs.new x #[ov, .map (some mb)] 125
  have hbx := (Below.refl x.heap.size x).alloc (Nat.le_refl _) (.cells #[ov, .map (some mb)] 125)
  replace hm := hm.on hbx
  replace hown := own_chg hown (Chg.of_below (S := fun _ => False) hbx (Nat.le_refl _)) (fun _ _ h => h)
  have hwx := hB.size
  replace hB := hB.trans (hbx.mono hB.size)
  obtain ⟨oa, oc, hov, hor⟩ := (readsAs_of_owns hown).slice
  rw [hov] at k7
  clear hown
  go_wp2
  rw [hov] at hbx hm hor hB
  clear hov
  obtain ⟨q7, hq7⟩ : ∃ q, x.heap.size = q := ⟨_, rfl⟩
  have s1 : (x.alloc (.cells #[.slice oa o.length oc, .map (some mb)] 125)).heap.size = q7 + 1 := by simp [hq7]
  rw [hq7] at k7 ⊢
  generalize x.alloc (.cells #[.slice oa o.length oc, .map (some mb)] 125) = x1 at *
  have kn := BlkIs.new x1 (madeCells #[.int .i64 0, .int .i64 0, .int .i64 0, .bool false, .bool false, .bool false, .slice none 0 0, .slice none 0 0] (o.length * 8)) 47
  have hb2 := (Below.refl x1.heap.size x1).alloc (Nat.le_refl _) (.cells (madeCells #[.int .i64 0, .int .i64 0, .int .i64 0, .bool false, .bool false, .bool false, .slice none 0 0, .slice none 0 0] (o.length * 8)) 47)
  have hml := hm.lt
  have hcs : (madeCells #[Value.int .i64 0, .int .i64 0, .int .i64 0, .bool false, .bool false, .bool false, .slice none 0 0, .slice none 0 0] (o.length * 8)).size = o.length * 8 := size_madeCells _ _
  generalize madeCells #[Value.int .i64 0, .int .i64 0, .int .i64 0, .bool false, .bool false, .bool false, .slice none 0 0, .slice none 0 0] (o.length * 8) = cs0 at *
  rw [s1] at kn hml
  replace k7 := k7.on hb2
  replace hm := hm.on hb2
  have hB2 := hB.trans (hb2.mono hB.size)
  have hor2 : 0 < o.length → ∃ g, oa = some ⟨g, 0, none⟩ ∧ g < q7 + 1 ∧ ∀ j, j < o.length → (x1.alloc (.cells cs0 47)).cell? ⟨g, j, none⟩ = some (.int .i64 (o.getD j 0)) := fun h => by
    obtain ⟨g, e, hgl, _, hr⟩ := hor h
    exact ⟨g, e, by omega, fun j hj => (hb2.cell (p := ⟨g, j, none⟩) hgl).trans (hr j hj)⟩
  have hwn : w.heap.size ≤ q7 := by omega
  have hmq : mb ≠ q7 := fun e => by
    have h1 := hm.noCell 0
    rw [e, k7.cell 0] at h1
    simp at h1
  clear hbx hb2 hor s1 hB hq7
  obtain ⟨w1, hw1⟩ : ∃ w1, x1.alloc (.cells cs0 47) = w1 := ⟨_, rfl⟩
  rw [hw1] at kn k7 hm hB2 hor2 ⊢
  clear hw1 hwx x1
  obtain ⟨nb, hnb⟩ : ∃ nb, q7 + 1 = nb := ⟨_, rfl⟩
  rw [hnb] at kn hor2 hml ⊢
  have Hor := Lib.hid hor2
  clear hor2
  go_loopw [31] (fun i wr => ∃ (k : Nat) (cs : Array Value), k ≤ o.length ∧ i = .int .i64 k ∧ cs.size = o.length * 8 ∧ (∃ lo : Nat → Nat, Hid ((∀ j, j < k → NodeD wr nb cs j (lo j) (lo (j + 1)) (ndO o (N (o.getD j 0)))) ∧ nb < lo 0 ∧ lo k ≤ wr.heap.size ∧ ∀ i j, i ≤ j → j ≤ k → lo i ≤ lo j)) ∧ BlkIs wr nb cs 47 ∧ Chg (· = nb) w1 wr) (fun i _ => o.length - (intOf i).toNat)
  case atStart => exact ⟨0, cs0, by omega, rfl, hcs, ⟨fun _ => nb + 1, Lib.hid ⟨fun j hj => by omega, Nat.lt_succ_self nb, kn.lt, fun _ _ _ _ => Nat.le_refl _⟩⟩, kn, Chg.refl _ _⟩
  case round =>
    have hw1n := kn.lt
    clear kn hcs
    obtain ⟨k, cs, hk, rfl, hcs, ⟨lo, Hrows⟩, kn, hch⟩ := hrel
    have hBr := hB2.trans (hch.below (n := w.heap.size) (fun c e => by omega) hB2.size)
    have k7r := k7.chg hch (by omega)
    have hmr := hm.chg hch (by omega)
    by_cases hlt2 : k < o.length
    · obtain ⟨g, rfl, hgl, hgc⟩ := Hor.out (by omega)
      have hgk := (hch.cell (p := ⟨g, k, none⟩) (by simp; omega) (by simp; omega)).trans (hgc k hlt2)
      have hx := hI.sub _ (getD_mem hlt2)
      clear hgc
      obtain ⟨y, hy⟩ : ∃ y, o.getD k 0 = y := ⟨_, rfl⟩
      rw [hy] at hgk hx
      have M2 := hN.node y hx q7 mb _ _ o wr k7r hmr (hA.below hBr hlt.1 hlt.2)
      have hpl := hN.plen y hx
      have hnl := hN.nlen y hx
      have hsm := hN.small y hx
      have j0 : (0 : Int) ≤ (k : Int) := by omega
      have j1 : (k : Int) < (o.length : Int) := by omega
      have Hy := Lib.hid hy
      clear hy
      go_wp2_with fail
      refine M2.mono ?_
      rintro e x2 ⟨g1, g2, rfl, hg1, hg2, b1, b2, hb⟩
      clear M2 hgk
      have knl := kn.lt
      replace kn := kn.on hb
      obtain ⟨a0, a1, a2, a3, a4, a5, a6, a7, ⟨c0, c1, c2, c3, c4, c5, c6, c7⟩, f0, f1, f2, f3, f4, f5, f6, f7⟩ := kn.rows8 (o := k * 8) (by omega)
      have E := kn.eightAt (o := k * 8) (.int .i64 (N y).ser) (.int .i64 (N y).p) (.int .i64 (N y).d) (.bool (N y).wk) (.bool (N y).fn) (.bool (N y).fr) (.slice (some ⟨g1, 0, none⟩) (N y).p (N y).p) (.slice (some ⟨g2, 0, none⟩) (N y).d (N y).d)
      have EC := chg8at x2 nb (k * 8) (.int .i64 (N y).ser) (.int .i64 (N y).p) (.int .i64 (N y).d) (.bool (N y).wk) (.bool (N y).fn) (.bool (N y).fr) (.slice (some ⟨g1, 0, none⟩) (N y).p (N y).p) (.slice (some ⟨g2, 0, none⟩) (N y).d (N y).d)
      have hEC := (hch.trans (Chg.of_below hb (Nat.le_refl _))).trans EC
      have Hall := nodeD_next (F := fun j => ndO o (N (o.getD j 0))) (x := ndO o (N y)) Hrows.out (by omega) (by show ndO o (N (o.getD k 0)) = _; rw [Hy.out]) hb EC hg1 hg2 b1 b2 ⟨by show (List.map _ _).length = _; rw [List.length_map]; exact hpl, hnl, hsm⟩
      clear EC b1 b2 Hrows
      go_wp2
      go_roundw
      case rel => exact ⟨k + 1, _, by omega, by go_num, by rw [set8_size]; exact hcs, Hall, E, hEC⟩
      case measure => simp [intOf]; omega
    · obtain rfl : k = o.length := by omega
      have hwl := kn.lt
      clear hlt2 hk hB2 hm k7
      have kr := BlkIs.new wr ((List.replicate roots.length (0 : Int)).map (Value.int .i64)).toArray 3
      have hb := (Below.refl wr.heap.size wr).alloc (Nat.le_refl _) (.cells ((List.replicate roots.length (0 : Int)).map (Value.int .i64)).toArray 3)
      have hBa := hBr.trans (hb.mono hBr.size)
      have k7a := k7r.on hb
      have hma := hmr.on hb
      have kna := kn.on hb
      have hmlr := hmr.lt
      have k7l := k7r.lt
      have hbc := Chg.of_below (S := fun _ => False) hb (Nat.le_refl _)
      clear k7r hmr kn hb
      go_wp2_with fail
      rw [made_ints]
      obtain ⟨rb, hrb⟩ : ∃ r, wr.heap.size = r := ⟨_, rfl⟩
      rw [hrb] at kr hmlr k7l hwl ⊢
      obtain ⟨w2, hw2⟩ : ∃ w2, wr.alloc (.cells ((List.replicate roots.length (0 : Int)).map (Value.int .i64)).toArray 3) = w2 := ⟨_, rfl⟩
      rw [hw2] at kr hBa k7a hma kna hbc ⊢
      have hrbe := hrb
      have hrbw : w.heap.size ≤ rb := by have := hBr.size; omega
      clear hrb hw2 hBr hch
      go_loopw [48] (fun i wq => ∃ (k : Nat) (zs : List Int), k ≤ roots.length ∧ i = .int .i64 k ∧ zs.length = roots.length ∧ (∀ j, j < k → zs.getD j 0 = rankV o (roots.getD j 0)) ∧ BlkIs wq rb (zs.map (Value.int .i64)).toArray 3 ∧ Chg (· = rb) w2 wq) (fun i _ => roots.length - (intOf i).toNat)
      case atStart => exact ⟨0, _, by omega, rfl, by simp, fun j hj => by omega, kr, Chg.refl _ _⟩
      case round =>
        clear kr
        obtain ⟨k, zs, hk, rfl, hzl, hzs, kr, hch⟩ := hrel
        have hBq := hBa.trans (hch.below (n := w.heap.size) (fun c e => by omega) hBa.size)
        by_cases hlt3 : k < roots.length
        · obtain ⟨g, oz, rfl, hgl, _, hgc⟩ := Hrv.out (by omega)
          have hgk := (hBq.cell (p := ⟨g, oz + k, none⟩) hgl).trans (hgc k hlt3)
          have hx := hr _ (getD_mem hlt3)
          have Hzs := Lib.hid hzs
          clear hzs hgc
          obtain ⟨y, hy⟩ : ∃ y, roots.getD k 0 = y := ⟨_, rfl⟩
          rw [hy] at hgk hx
          have Hy := Lib.hid hy
          clear hy
          have M2 := rank_any q7 mb _ _ o y _ (k7a.chg hch (by omega)) (hma.chg hch (by omega)) (hG.bound hx)
          obtain ⟨r, hre⟩ : ∃ r, rankV o y = r := ⟨_, rfl⟩
          rw [hre] at M2
          have j0 : (0 : Int) ≤ (k : Int) := by omega
          have j1 : (k : Int) < (roots.length : Int) := by omega
          have hc := kr.cell k
          rw [show ((zs.map (Value.int .i64)).toArray)[k]? = some (.int .i64 (zs.getD k 0)) from by simp [List.getD, show k < zs.length from by omega]] at hc
          have hf := kr.free k
          have hk9 := kr.set k (.int .i64 r)
          have hcs := hch.setCell (p := ⟨rb, k, none⟩) (.inl rfl) (.int .i64 r)
          go_wp2_with fail
          refine M2.mono ?_
          rintro e x2 ⟨rfl, rfl⟩
          clear M2
          go_wp2
          go_roundw
          case rel =>
            refine ⟨k + 1, zs.set k r, by omega, by go_num, by rw [List.length_set]; exact hzl, fun j hj => ?_, by simpa [List.map_set] using hk9, hcs⟩
            rw [set_at' (by omega)]
            by_cases e : j = k
            · subst e; rw [if_pos rfl, Hy.out, hre]
            · rw [if_neg e]; exact Hzs.out j (by omega)
          case measure => simp [intOf]; omega
        · obtain rfl : k = roots.length := by omega
          have e1 : zs = roots.map (rankV o) := ext_getD (by rw [hzl, List.length_map]) fun j hj => by
            rw [hzs j (by omega)]
            simp [List.getD, show j < roots.length from by omega]
          subst e1
          clear hzs
          go_wp2
          go_ret3
          obtain ⟨r1, r2, r3, r4⟩ := Hrows.out
          refine ⟨_, _, rb, rfl, ⟨hrbw, Nat.le_of_lt kr.lt⟩, ⟨_, rfl, fun h0 => ⟨nb, _, lo, rfl, ⟨by omega, by omega⟩, r2, r4, hcs, kna.chg hch (by omega), fun i hi => ?_⟩⟩, readsFrom_blk kr (by simp) (Nat.le_refl _) (by simp; omega), hBq⟩
          have l5 := r4 (i + 1) o.length (by omega) (by omega)
          exact (r1 i hi).chg (hbc.step hch fun c e => .inr (by omega)) (fun _ _ _ h => h)



end Go.Proofs.YtbjmeibcphmgbaaGreat

namespace Go.Proofs.YtbjmeibcphmgbaaGreat
open Go.ChangeShapes Go.WideShapes Go.ChangeAt Go.RowKit

set_option linter.unusedSimpArgs false
set_option linter.unusedVariables false



/-- A node as a value. -/
def ndV (x : Nd) (pv nv : Value) : Value := .agg #[.int .i64 x.ser, .int .i64 x.p, .int .i64 x.d, .bool x.wk, .bool x.fn, .bool x.fr, pv, nv]




end Go.Proofs.YtbjmeibcphmgbaaGreat

namespace Go.Proofs.YtbjmeibcphmgbaaGreat
open Go.ChangeShapes Go.WideShapes Go.ChangeAt Go.RowKit

set_option linter.unusedSimpArgs false
set_option linter.unusedVariables false

/-- What the object at a place points to, strongly. -/
def gOf (l : List Int) (x : Int) : List Int := ptrL l x.toNat (if hw (l.getD x.toNat 0).toNat then 0 else hp (l.getD x.toNat 0).toNat)
/-- What it is. -/
def nOf (l : List Int) (x : Int) : Nd :=
  ⟨l.getD (x.toNat + 2) 0, hp (l.getD x.toNat 0).toNat, hd (l.getD x.toNat 0).toNat, hw (l.getD x.toNat 0).toNat, hf (l.getD x.toNat 0).toNat, hr (l.getD x.toNat 0).toNat,
    ptrL l x.toNat (hp (l.getD x.toNat 0).toNat), numL l x.toNat (hp (l.getD x.toNat 0).toNat) (hd (l.getD x.toNat 0).toNat)⟩
theorem gOf_obj {l : List Int} {a p d : Nat} {wk fn fr : Bool} (h : ObjIs l a p d wk fn fr) : gOf l a = ptrL l a (if wk then 0 else p) := by
  unfold gOf
  rw [Int.toNat_natCast, h.head, Int.toNat_natCast]
  obtain ⟨h1, h2, h3, h4, h5⟩ := headN_read (wk := wk) (fn := fn) (fr := fr) h.ptrs h.data
  rw [h1, h3]
theorem nOf_obj {l : List Int} {a p d : Nat} {wk fn fr : Bool} (h : ObjIs l a p d wk fn fr) : nOf l a = ⟨l.getD (a + 2) 0, p, d, wk, fn, fr, ptrL l a p, numL l a p d⟩ := by
  unfold nOf
  rw [Int.toNat_natCast, h.head, Int.toNat_natCast]
  obtain ⟨h1, h2, h3, h4, h5⟩ := headN_read (wk := wk) (fn := fn) (fr := fr) h.ptrs h.data
  rw [h1, h2, h3, h4, h5]

/-- At each of these places there is an object, whose pointers are 0 or some of them. -/
structure ObjV (l V : List Int) : Prop where
  obj : ∀ x ∈ V, ∃ (a p d : Nat) (wk fn fr : Bool), x = (a : Int) ∧ 0 < a ∧ ObjIs l a p d wk fn fr ∧ (0 ≤ l.getD (a + 2) 0 ∧ l.getD (a + 2) 0 ≤ 9223372036854775807) ∧ ∀ i, i < p → l.getD (a + (3 + i)) 0 = 0 ∨ l.getD (a + (3 + i)) 0 ∈ V
  len : V.length ≤ 21000
theorem ObjV.pos {l V : List Int} (h : ObjV l V) {x : Int} (hx : x ∈ V) (hl : l.length ≤ 65536) : 0 < x ∧ x ≤ 65536 := by
  obtain ⟨a, p, d, wk, fn, fr, rfl, h0, ho, _⟩ := h.obj x hx
  have := ho.room
  omega
theorem ObjV.ptr {l V : List Int} (h : ObjV l V) {y : Int} (hy : y = 0 ∨ y ∈ V) (hl : l.length ≤ 65536) : 0 ≤ y ∧ y ≤ 9223372036854775807 := by
  rcases hy with rfl | hy
  · omega
  · have := h.pos hy hl; omega
theorem grph_of {P b : Nat} {l V : List Int} (h : ObjV l V) (hl : l.length ≤ 65536) : Grph P b l V (gOf l) := by
  refine ⟨fun x hx y hy => ?_, fun x hx y hy => ?_, fun x hx => h.pos hx hl, h.len, fun x hx => ?_⟩
  · obtain ⟨a, p, d, wk, fn, fr, rfl, h0, ho, hs, hp⟩ := h.obj x hx
    have := strong_at a y hy ho fun i hi => h.ptr (hp i hi) hl
    rw [gOf_obj ho, ptrL_length]
    exact this
  · obtain ⟨a, p, d, wk, fn, fr, rfl, h0, ho, hs, hp⟩ := h.obj x hx
    rw [gOf_obj ho] at hy
    obtain ⟨i, hi, rfl⟩ := mem_ptrL hy
    exact hp i (by revert hi; split <;> omega)
  · obtain ⟨a, p, d, wk, fn, fr, rfl, h0, ho, hs, hp⟩ := h.obj x hx
    rw [gOf_obj ho, ptrL_length]
    have := ho.ptrs
    split <;> omega
theorem nods_of {P b : Nat} {l V : List Int} (h : ObjV l V) (hl : l.length ≤ 65536) : Nods P b l V (nOf l) := by
  refine ⟨fun x hx F mb n ov o y hk hm hy => ?_, fun x hx => ?_, fun x hx => ?_, fun x hx => ?_⟩
  · obtain ⟨a, p, d, wk, fn, fr, rfl, h0, ho, hs, hp⟩ := h.obj x hx
    have := node_any F mb n a ov o y hk hm hy ho hs fun i hi => h.ptr (hp i hi) hl
    rw [nOf_obj ho]
    exact this
  · obtain ⟨a, p, d, wk, fn, fr, rfl, h0, ho, hs, hp⟩ := h.obj x hx
    rw [nOf_obj ho]; exact ptrL_length _ _ _
  · obtain ⟨a, p, d, wk, fn, fr, rfl, h0, ho, hs, hp⟩ := h.obj x hx
    rw [nOf_obj ho]; exact numL_length _ _ _ _
  · obtain ⟨a, p, d, wk, fn, fr, rfl, h0, ho, hs, hp⟩ := h.obj x hx
    rw [nOf_obj ho]; exact ⟨ho.ptrs, ho.data⟩

end Go.Proofs.YtbjmeibcphmgbaaGreat

namespace Go.Proofs.YtbjmeibcphmgbaaGreat
open Go.ChangeShapes Go.WideShapes Go.ChangeAt Go.RowKit

set_option linter.unusedSimpArgs false
set_option linter.unusedVariables false

/-- All that live. -/
def livL (s : Hp) : List Int := nums (s.pn ++ s.pk.filter fun x => decide (hdW s.l x % 2 = 1))
theorem Okw.mem_liv {s : Hp} (g : Okw s) {x : Nat} : (x : Int) ∈ livL s ↔ Live s x := by
  unfold livL Live
  rw [mem_nums, List.mem_append, List.mem_filter, decide_eq_true_iff]
  exact or_congr Iff.rfl (and_congr_right fun hx => g.odd_iff hx)
theorem mem_nums_nat {l : List Nat} {v : Int} (h : v ∈ nums l) : ∃ a : Nat, v = (a : Int) := by
  unfold nums at h
  obtain ⟨a, _, e⟩ := List.mem_map.1 h
  exact ⟨a, e.symm⟩
theorem Okw.liv_len {s : Hp} (g : Okw s) : (livL s).length ≤ 21000 := by
  unfold livL
  rw [nums_length, List.length_append]
  have h1 := g.ln
  have h2 := g.lk
  have h3 := List.length_filter_le (fun x => decide (hdW s.l x % 2 = 1)) s.pk
  omega
theorem TurnAll.head {s : Hp} (g : Okw s) {T : List Int} (h : TurnAll s T) {x : Nat} (hx : Live s x) : T.getD x 0 = s.l.getD x 0 := by
  have := (g.live_ob hx).nA_le
  have e := h.word x hx 0 (by omega)
  unfold twd at e
  rw [if_neg (by omega)] at e
  exact e
theorem TurnAll.obj {s : Hp} (g : Okw s) {T : List Int} (h : TurnAll s T) {x : Nat} (hx : Live s x) : ObjIs T x (hp (hdW s.l x)) (hd (hdW s.l x)) (hw (hdW s.l x)) (hf (hdW s.l x)) (hr (hdW s.l x)) :=
  (g.live_ob hx).of.same h.len (h.head g hx)
theorem TurnAll.objV {s : Hp} (g : Okw s) {T : List Int} (h : TurnAll s T) : ObjV T (livL s) := by
  refine ⟨fun v hv => ?_, g.liv_len⟩
  obtain ⟨x, rfl⟩ := mem_nums_nat hv
  have hx := g.mem_liv.1 hv
  have ho := (g.live_ob hx).nA_le
  have hx0 : 0 < x := hx.elim (fun e => (g.pn_lt e).1) fun e => (g.pk_lt e.1).1
  have h1 := g.ser x hx
  have h2 := g.sel
  have e2 := h.word x hx 2 (by omega)
  unfold twd at e2
  rw [if_neg (by omega)] at e2
  refine ⟨x, _, _, _, _, _, rfl, hx0, h.obj g hx, by rw [e2]; omega, fun i hi => ?_⟩
  have e3 := h.word x hx (3 + i) (by unfold nA; omega)
  unfold twd at e3
  rw [if_pos (by omega)] at e3
  rw [e3]
  have hin : InOk s (s.l.getD (x + (3 + i)) 0).toNat := by
    rcases g.ptr x hx i hi with e | ⟨y, e, hy⟩
    · rw [e]; exact .inl rfl
    · rw [e, Int.toNat_natCast]; exact .inr hy
  rcases (g.fwd_in hin).2 with e | e
  · left; rw [e]; rfl
  · right; exact g.mem_liv.2 e

theorem ReadsFrom.mono {A B : Nat} {w : World} {v : Value} {xs : List Int} (h : ReadsFrom B w v xs) (hA : A ≤ B) : ReadsFrom A w v xs := ⟨h.1, fun g e => Nat.le_trans hA (h.2 g e)⟩
theorem NodesAt.mono {A B n : Nat} {w : World} {v : Value} {f : Nat → Nd} (h : NodesAt B w v f n) (hA : A ≤ B) : NodesAt A w v f n := by
  obtain ⟨av, c, e, r⟩ := h
  refine ⟨av, c, e, fun hn => ?_⟩
  obtain ⟨nb, e2, hb, hl, hc', hr⟩ := r hn
  refine ⟨nb, e2, Nat.le_trans hA hb, hl, hc', fun i hi => ?_⟩
  obtain ⟨pv, nv, hc, h1, h2⟩ := hr i hi
  exact ⟨pv, nv, hc, h1.mono hA, h2.mono hA⟩

section
variable {w : World} {H P b : Nat} {v0 v1 v2 v3 : Value} {s : Hp}
set_option maxRecDepth 100000 in
set_option maxHeartbeats 2000000 in
theorem canonH (h : HeapIn w H P b v0 v1 v2 v3 s) (g : Okw s) (rv : Value) (rs : List Nat) (hv : ReadsOff w rv (nums rs)) (hrs : ∀ r ∈ rs, r = 0 ∨ r ∈ s.pn) (hl : rs.length ≤ 1000) :
    Calls Tryz.prog 22 #[.pointer (some ⟨H, 0, none⟩), rv] w fun e w' => ∃ T nv sv C, e = .returned (.tuple #[nv, sv, .int .i64 0]) ∧ TurnAll s T ∧ (w.heap.size ≤ C ∧ C ≤ w'.heap.size) ∧
      NodesOwn w.heap.size C w' nv (fun i => ndO (reachO (gOf T) (livL s).length (nums rs)) (nOf T ((reachO (gOf T) (livL s).length (nums rs)).getD i 0))) (reachO (gOf T) (livL s).length (nums rs)).length ∧
      ReadsFrom C w' sv ((nums rs).map (rankV (reachO (gOf T) (livL s).length (nums rs)))) ∧ Below w.heap.size w w' := by
  have MM := fun x (hx : Below w.heap.size w x) (t : Int) => may_any (h.on hx) g.sound t
  have MT := fun x (hx : Below w.heap.size w x) => turnedH (h.on hx) g
  have hT65 : s.l.length ≤ 65536 := by have := g.len; have := g.z1; omega
  have hri : ∀ v ∈ nums rs, v = 0 ∨ v ∈ livL s := fun v hv => by
    obtain ⟨a, rfl⟩ := mem_nums_nat hv
    rcases hrs a (mem_nums.1 hv) with e | e
    · left; omega
    · right; exact g.mem_liv.2 (.inl e)
  obtain ⟨ra, rc, rfl, hr⟩ := hv.slice
  have HR := Lib.hid hr
  have HV := Lib.hid hv
  have HRS := Lib.hid hrs
  have HRI := Lib.hid hri
  clear hr hv hrs hri
  rw [nums_length] at *
  obtain ⟨n, hn⟩ : ∃ n, rs.length = n := ⟨_, rfl⟩
  have Hn := Lib.hid hn
  rw [hn] at hl HV ⊢
  clear hn
  go_enter Tryz.func22, Tryz.ntmps22
  go_wp2
  go_loopw [11] (fun i wr => ∃ k : Nat, k ≤ n ∧ i = .int .i64 k ∧ Below w.heap.size w wr) (fun i _ => n - (intOf i).toNat)
  case atStart => exact ⟨0, by omega, rfl, Below.refl _ _⟩
  case round =>
    obtain ⟨k, hk, rfl, hB⟩ := hrel
    by_cases hlt : k < n
    · obtain ⟨rg, ro, e, hg, hc, hcell⟩ := HR.out (by rw [Hn.out]; omega)
      subst e
      have c0 := (hB.cell (p := ⟨rg, ro + k, none⟩) hg).trans (hcell k (by rw [Hn.out]; exact hlt))
      rw [nums_getD (by rw [Hn.out]; exact hlt)] at c0
      have hq := HRS.out (rs.getD k 0) (getD_memN (by rw [Hn.out]; exact hlt))
      have M := MM wr hB ((rs.getD k 0 : Nat) : Int)
      rw [decide_eq_true (hq.imp (fun e => by omega) mem_nums.2)] at M
      clear hcell HR MM hq
      generalize rs.getD k 0 = q at *
      have b0 : (0 : Int) ≤ (k : Int) := by omega
      have b1 : (k : Int) < (n : Int) := by omega
      go_wp2_with fail
      refine M.mono ?_
      rintro e y ⟨rfl, hb⟩
      go_wp2
      go_roundw
      case rel => exact ⟨k + 1, by omega, by go_num, hB.trans (hb.mono hB.size)⟩
      case measure => simp [intOf]; omega
    · obtain rfl : k = n := by omega
      go_wp2_with fail
      refine (MT _ hB).mono ?_
      rintro e y ⟨P2, b2, T, rfl, hA, hTA, hP2, hb2, hb⟩
      have hB2 := hB.trans (hb.mono hB.size)
      have hV := hTA.objV g
      have hl2 : T.length ≤ 65536 := by rw [hTA.len]; exact hT65
      have hv2 : ReadsOff y (.slice ra k rc) (nums rs) := by
        have := HV.out.below hB2
        exact this
      have M := canon_own P2 b2 T (livL s) (gOf T) (nOf T) _ (nums rs) y (grph_of hV hl2) (nods_of hV hl2) hA hv2 HRI.out (by rw [nums_length, Hn.out]; omega)
      go_wp2_with fail
      refine M.mono ?_
      rintro e z ⟨nv, sv, C, rfl, hC, hN, hS, hb3⟩
      have hyw : w.heap.size ≤ y.heap.size := hB2.size
      go_wp2
      go_ret3
      exact ⟨T, nv, sv, C, rfl, hTA, ⟨Nat.le_trans hyw hC.1, hC.2⟩, hN.mono hyw (Nat.le_refl _), hS, hB2.trans (hb3.mono hyw)⟩
end

end Go.Proofs.YtbjmeibcphmgbaaGreat

namespace Go.Proofs.YtbjmeibcphmgbaaGreat
open Go.ChangeShapes Go.WideShapes Go.ChangeAt Go.RowKit

set_option linter.unusedSimpArgs false
set_option linter.unusedVariables false

/-- More rounds than are wanted change nothing. -/
theorem goO_more {G : Int → List Int} {V r o : List Int} {i n : Nat} (h : Inv G V r o i) (hn : V.length ≤ i + n) (hG : ∀ x ∈ V, ∀ y ∈ G x, y = 0 ∨ y ∈ V) (k : Nat) : goO G (n + k) o i = goO G n o i := by
  induction n generalizing o i with
  | zero =>
    have h1 := h.len
    have h2 : o.length ≤ i := by omega
    rw [goO_end h2, goO_end h2]
  | succ n ih =>
    rw [show n + 1 + k = (n + k) + 1 from by omega]
    unfold goO
    by_cases e : i < o.length
    · rw [if_pos e, if_pos e]
      exact ih (h.step e hG) (by omega)
    · rw [if_neg e, if_neg e]
theorem reachO_more {G : Int → List Int} {V r : List Int} {n : Nat} (h : ∀ x ∈ r, x = 0 ∨ x ∈ V) (hG : ∀ x ∈ V, ∀ y ∈ G x, y = 0 ∨ y ∈ V) (hn : V.length ≤ n) (k : Nat) : reachO G (n + k) r = reachO G n r :=
  goO_more (inv_start h) (by omega) hG k
/-- Two sets of places that are closed: as many rounds as either has. -/
theorem reachO_two {G : Int → List Int} {V W r : List Int} {m n : Nat} (h : ∀ x ∈ r, x = 0 ∨ x ∈ V) (hG : ∀ x ∈ V, ∀ y ∈ G x, y = 0 ∨ y ∈ V) (hn : V.length ≤ n) (h' : ∀ x ∈ r, x = 0 ∨ x ∈ W) (hG' : ∀ x ∈ W, ∀ y ∈ G x, y = 0 ∨ y ∈ W) (hm : W.length ≤ m) : reachO G n r = reachO G m r := by
  rw [← reachO_more h hG hn m, ← reachO_more h' hG' hm n, Nat.add_comm]

/-- A weak pointer to what one doesn't come to is told as nothing. -/
def nrm (x : Nd) : Nd := if x.wk = true ∧ x.ptrs = [-2] then { x with ptrs := [-1] } else x
/-- A place of the second heap. -/
def plc2 (f : Nat → Nat) (x : Nat) : Nat := if x = 0 then 0 else f x
def plcI (f : Nat → Nat) (v : Int) : Int := ((plc2 f v.toNat : Nat) : Int)
theorem plcI_nat (f : Nat → Nat) (x : Nat) : plcI f (x : Int) = ((plc2 f x : Nat) : Int) := by unfold plcI; rw [Int.toNat_natCast]
theorem plcI_zero (f : Nat → Nat) : plcI f 0 = 0 := rfl
theorem nums_plc (f : Nat → Nat) (R : List Nat) : nums (R.map (plc2 f)) = (nums R).map (plcI f) := by
  unfold nums
  rw [List.map_map, List.map_map]
  exact List.map_congr_left fun x _ => (plcI_nat f x).symm

theorem hdW_congr' {l l' : List Int} {x y : Nat} (h : l'.getD y 0 = l.getD x 0) : hdW l' y = hdW l x := by unfold hdW; rw [h]
section
variable {q : Bool} {s r : Hp} {f : Nat → Nat}
theorem Okw.live_pos {s : Hp} (g : Okw s) {x : Nat} (hx : Live s x) : 0 < x := hx.elim (fun e => (g.pn_lt e).1) fun e => (g.pk_lt e.1).1
theorem Okw.still_fwd {r : Hp} (k : Okw r) (hm : r.mv = false) {u : Int} (hu : PtrOk r u) : ((fwd r.l u.toNat : Nat) : Int) = u ∧ (u = 0 ∨ u ∈ livL r) := by
  have e := (k.stop hm).1
  rcases hu with e0 | ⟨y, e0, hy⟩
  · subst e0
    have := k.fwd_zero
    exact ⟨by show ((fwd r.l 0 : Nat) : Int) = 0; rw [this]; rfl, .inl rfl⟩
  · subst e0
    have hy' : y ∈ r.pn := hy.elim id fun h => by rw [e] at h; simp at h
    refine ⟨by rw [Int.toNat_natCast, ((k.inn y hy').2.1).fwd], .inr ?_⟩
    unfold livL
    rw [mem_nums]
    exact List.mem_append_left _ hy'
theorem TurnAll.at_ptr {s : Hp} {T : List Int} (h : TurnAll s T) {x i : Nat} (hx : Live s x) (hi : i < hp (hdW s.l x)) : T.getD (x + (3 + i)) 0 = ((fwd s.l (s.l.getD (x + (3 + i)) 0).toNat : Nat) : Int) := by
  have e := h.word x hx (3 + i) (by unfold nA; omega)
  unfold twd at e
  rw [if_pos (by omega)] at e
  exact e
theorem TurnAll.at_else {s : Hp} {T : List Int} (h : TurnAll s T) {x t : Nat} (hx : Live s x) (ht : t < nA s.l x) (hn : ¬ (3 ≤ t ∧ t < 3 + hp (hdW s.l x))) : T.getD (x + t) 0 = s.l.getD (x + t) 0 := by
  have e := h.word x hx t ht
  unfold twd at e
  rw [if_neg hn] at e
  exact e
/-- A live object's like in the second heap, and what both point to. -/
structure LikeAt (TA TB : List Int) (V : List Int) (φ : Int → Int) (x y p d : Nat) (wk fn fr : Bool) : Prop where
  oa : ObjIs TA x p d wk fn fr
  ob : ObjIs TB y p d wk fn fr
  ser : TB.getD (y + 2) 0 = TA.getD (x + 2) 0
  num : ∀ i, i < d → TB.getD (y + (3 + p + i)) 0 = TA.getD (x + (3 + p + i)) 0
  ina : ∀ i, i < p → TA.getD (x + (3 + i)) 0 = 0 ∨ TA.getD (x + (3 + i)) 0 ∈ V
  ptr : ∀ i, i < p → TB.getD (y + (3 + i)) 0 = φ (TA.getD (x + (3 + i)) 0) ∨ (wk = true ∧ TA.getD (x + (3 + i)) 0 = 0 ∧ ∀ v ∈ V, TB.getD (y + (3 + i)) 0 ≠ φ v)
theorem Tw.likeAt (h : Tw true s r f) (g : Okw s) (k : Okw r) (hm : r.mv = false) {TA TB : List Int} (hA : TurnAll s TA) (hB : TurnAll r TB) {x : Nat} (hx : Live s x) :
    LikeAt TA TB (livL s) (plcI f) x (f x) (hp (hdW s.l x)) (hd (hdW s.l x)) (hw (hdW s.l x)) (hf (hdW s.l x)) (hr (hdW s.l x)) := by
  have hy : Live r (f x) := .inl (h.inn x hx)
  have hh : hdW r.l (f x) = hdW s.l x := hdW_congr' (h.head x hx)
  have oa := hA.obj g hx
  have ob := hB.obj k hy
  rw [hh] at ob
  have n3 := (g.live_ob hx).nA_le
  have n4 := (k.live_ob hy).nA_le
  have hnr : nA r.l (f x) = nA s.l x := by unfold nA; rw [hh]
  have hn3 : nA s.l x = 3 + hp (hdW s.l x) + hd (hdW s.l x) := rfl
  have hlive : ∀ z : Nat, Live s z → plcI f (z : Int) = ((f z : Nat) : Int) := fun z hz => by
    have := g.live_pos hz
    rw [plcI_nat]; unfold plc2; rw [if_neg (by omega)]
  refine ⟨oa, ob, ?_, fun i hi => ?_, fun i hi => ?_, fun i hi => ?_⟩
  · rw [hA.at_else hx (by omega) (by omega), hB.at_else hy (by omega) (by omega)]
    exact h.ser rfl x hx
  · rw [hA.at_else hx (by omega) (by omega), hB.at_else hy (by omega) (by rw [hh]; omega)]
    exact h.num x hx _ (by omega) (by omega)
  · rw [hA.at_ptr hx hi]
    have o := g.ptr x hx i hi
    have hin : InOk s (s.l.getD (x + (3 + i)) 0).toNat := by
      rcases o with e | ⟨y, e, hy⟩
      · rw [e]; exact .inl rfl
      · rw [e, Int.toNat_natCast]; exact .inr hy
    rcases (g.fwd_in hin).2 with e | e
    · left; rw [e]; rfl
    · right; exact g.mem_liv.2 e
  · rw [hA.at_ptr hx hi, hB.at_ptr hy (by rw [hh]; exact hi)]
    have hu := k.ptr (f x) hy i (by rw [hh]; exact hi)
    rw [(k.still_fwd hm hu).1]
    rcases h.ptr x hx i hi with (⟨e1, e2⟩ | ⟨e1, e2⟩) | ⟨e0, e1, e2⟩
    · left
      rw [e1, e2]; rfl
    · left
      rw [hlive _ e1, e2]
    · right
      refine ⟨e0, by rw [e1]; rfl, fun v hv => ?_⟩
      obtain ⟨z, rfl⟩ := mem_nums_nat hv
      have hz := g.mem_liv.1 hv
      rw [hlive z hz]
      exact e2 z hz
end

/-- What the nodes' lists are. -/
theorem map_ext {n : Nat} {α : Type} {a b : Nat → α} (h : ∀ i, i < n → a i = b i) : (List.range n).map a = (List.range n).map b :=
  List.map_congr_left fun i hi => h i (List.mem_range.1 hi)
section
variable {TA TB V : List Int} {φ : Int → Int} {x y p d : Nat} {wk fn fr : Bool}
theorem LikeAt.g (h : LikeAt TA TB V φ x y p d wk fn fr) : gOf TB (y : Int) = (gOf TA (x : Int)).map φ := by
  rw [gOf_obj h.oa, gOf_obj h.ob]
  unfold ptrL
  rw [List.map_map]
  refine map_ext fun i hi => ?_
  cases wk with
  | true => simp at hi
  | false =>
    rcases h.ptr i (by simpa using hi) with e | ⟨e, _⟩
    · exact e
    · exact absurd e (by decide)
theorem LikeAt.n (h : LikeAt TA TB V φ x y p d wk fn fr) {o : List Int} (ho : ∀ v ∈ o, v ∈ V) (h0 : φ 0 = 0) (hn : ∀ x ∈ V, φ x ≠ 0) (hi : ∀ x ∈ V, ∀ y ∈ V, φ y = φ x → y = x) :
    nrm (ndO o (nOf TA (x : Int))) = nrm (ndO (o.map φ) (nOf TB (y : Int))) ∧ (wk = true → p = 1 ∧ d = 0) := by
  have hw : wk = true → p = 1 ∧ d = 0 := fun e => by
    have := h.oa.right
    unfold shB at this
    rw [e] at this
    simp at this
    omega
  refine ⟨?_, hw⟩
  have hnum : numL TB y p d = numL TA x p d := by
    unfold numL
    exact map_ext fun i hi => by rw [h.num i hi]
  rw [nOf_obj h.oa, nOf_obj h.ob, h.ser, hnum]
  by_cases hall : ∀ i, i < p → TB.getD (y + (3 + i)) 0 = φ (TA.getD (x + (3 + i)) 0)
  · have e : (ptrL TB y p).map (rankV (o.map φ)) = (ptrL TA x p).map (rankV o) := by
      unfold ptrL
      rw [List.map_map, List.map_map]
      refine map_ext fun i hi' => ?_
      show rankV (o.map φ) (TB.getD (y + (3 + i)) 0) = rankV o (TA.getD (x + (3 + i)) 0)
      rw [hall i hi']
      exact rankV_map ho (h.ina i hi') h0 hn hi
    unfold ndO
    dsimp only
    rw [e]
  · obtain ⟨i, hi1⟩ := Classical.not_forall.1 hall
    obtain ⟨hip, hi2⟩ := Classical.not_imp.1 hi1
    have hp' := (h.ptr i hip).resolve_left hi2
    obtain ⟨rfl, rfl⟩ := hw hp'.1
    obtain rfl : i = 0 := by omega
    have e1 : (ptrL TA x 1).map (rankV o) = [-1] := by
      show [rankV o (TA.getD (x + (3 + 0)) 0)] = [-1]
      rw [hp'.2.1]; rfl
    have e2 : (ptrL TB y 1).map (rankV (o.map φ)) = [-1] ∨ (ptrL TB y 1).map (rankV (o.map φ)) = [-2] := by
      show [rankV (o.map φ) (TB.getD (y + (3 + 0)) 0)] = [-1] ∨ [rankV (o.map φ) (TB.getD (y + (3 + 0)) 0)] = [-2]
      have hno := hp'.2.2
      generalize TB.getD (y + (3 + 0)) 0 = b at *
      unfold rankV
      by_cases eb : b = 0
      · left; rw [if_pos eb]
      · right
        rw [if_neg eb, pos_none]
        · rfl
        · intro hb
          obtain ⟨v, hv, e⟩ := List.mem_map.1 hb
          exact hno v (ho v hv) e.symm
    unfold ndO nrm
    dsimp only
    rw [e1, hp'.1]
    rcases e2 with e2 | e2 <;> rw [e2] <;> simp
end

section
variable {s r : Hp} {f : Nat → Nat}
/-- What one comes to from registers that lead to the same. -/
theorem Tw.alike (h : Tw true s r f) (g : Okw s) (k : Okw r) (hm : r.mv = false) {TA TB : List Int} (hA : TurnAll s TA) (hB : TurnAll r TB) {R : List Nat} (hR : ∀ x ∈ R, x = 0 ∨ x ∈ s.pn) :
    ∃ oA oB, oA = reachO (gOf TA) (livL s).length (nums R) ∧ oB = reachO (gOf TB) (livL r).length (nums (R.map (plc2 f))) ∧ oB.length = oA.length ∧ (∀ x ∈ oA, x ∈ livL s) ∧
      (∀ i, i < oA.length → nrm (ndO oA (nOf TA (oA.getD i 0))) = nrm (ndO oB (nOf TB (oB.getD i 0)))) ∧
      (∀ i, i < oA.length → (nOf TA (oA.getD i 0)).wk = true → (nOf TA (oA.getD i 0)).p = 1 ∧ (nOf TA (oA.getD i 0)).d = 0) ∧
      (∀ i, i < oA.length → (nOf TB (oB.getD i 0)).wk = true → (nOf TB (oB.getD i 0)).p = 1 ∧ (nOf TB (oB.getD i 0)).d = 0) ∧
      (nums R).map (rankV oA) = (nums (R.map (plc2 f))).map (rankV oB) ∧ oA.length ≤ 21000 := by
  have hlA : TA.length ≤ 65536 := by rw [hA.len]; have := g.len; have := g.z1; omega
  have hlB : TB.length ≤ 65536 := by rw [hB.len]; have := k.len; have := k.z1; omega
  have sA := (grph_of (P := 0) (b := 0) (hA.objV g) hlA).shut
  have sB := (grph_of (P := 0) (b := 0) (hB.objV k) hlB).shut
  have hlive : ∀ v ∈ livL s, ∃ x : Nat, v = (x : Int) ∧ Live s x ∧ plcI f v = ((f x : Nat) : Int) := fun v hv => by
    obtain ⟨x, rfl⟩ := mem_nums_nat hv
    have hx := g.mem_liv.1 hv
    have hx0 := g.live_pos hx
    exact ⟨x, rfl, hx, by rw [plcI_nat]; unfold plc2; rw [if_neg (by omega)]⟩
  have hn : ∀ x ∈ livL s, plcI f x ≠ 0 := fun v hv e => by
    obtain ⟨x, rfl, hx, e1⟩ := hlive v hv
    have := (k.pn_lt (h.inn x hx)).1
    omega
  have hi : ∀ x ∈ livL s, ∀ y ∈ livL s, plcI f y = plcI f x → y = x := fun v hv u hu e => by
    obtain ⟨x, rfl, hx, e1⟩ := hlive v hv
    obtain ⟨y, rfl, hy, e2⟩ := hlive u hu
    have := h.inj y hy x hx (by omega)
    omega
  have hH : ∀ x ∈ livL s, gOf TB (plcI f x) = (gOf TA x).map (plcI f) := fun v hv => by
    obtain ⟨x, rfl, hx, e1⟩ := hlive v hv
    rw [e1]
    exact (h.likeAt g k hm hA hB hx).g
  have hr : ∀ v ∈ nums R, v = 0 ∨ v ∈ livL s := fun v hv => by
    obtain ⟨a, rfl⟩ := mem_nums_nat hv
    rcases hR a (mem_nums.1 hv) with e | e
    · left; omega
    · right; exact g.mem_liv.2 (.inl e)
  have h0 : plcI f 0 = 0 := plcI_zero f
  have hW : ∀ v ∈ livL s, plcI f v ∈ livL r := fun v hv => by
    obtain ⟨x, rfl, hx, e1⟩ := hlive v hv
    rw [e1]
    exact k.mem_liv.2 (.inl (h.inn x hx))
  have e2 : nums (R.map (plc2 f)) = (nums R).map (plcI f) := nums_plc f R
  have hrB : ∀ v ∈ (nums R).map (plcI f), v = 0 ∨ v ∈ livL r := fun v hv => by
    obtain ⟨u, hu, rfl⟩ := List.mem_map.1 hv
    rcases hr u hu with e | e
    · left; rw [e]; exact h0
    · right; exact hW u e
  have hrC : ∀ v ∈ (nums R).map (plcI f), v = 0 ∨ v ∈ (livL s).map (plcI f) := fun v hv => by
    obtain ⟨u, hu, rfl⟩ := List.mem_map.1 hv
    rcases hr u hu with e | e
    · left; rw [e]; exact h0
    · right; exact List.mem_map.2 ⟨u, e, rfl⟩
  have sC : ∀ v ∈ (livL s).map (plcI f), ∀ y ∈ gOf TB v, y = 0 ∨ y ∈ (livL s).map (plcI f) := fun v hv y hy => by
    obtain ⟨u, hu, rfl⟩ := List.mem_map.1 hv
    rw [hH u hu] at hy
    obtain ⟨z, hz, rfl⟩ := List.mem_map.1 hy
    rcases sA u hu z hz with e | e
    · left; rw [e]; exact h0
    · right; exact List.mem_map.2 ⟨z, e, rfl⟩
  have eB : reachO (gOf TB) (livL r).length (nums (R.map (plc2 f))) = (reachO (gOf TA) (livL s).length (nums R)).map (plcI f) := by
    rw [e2, reachO_two hrB sB (Nat.le_refl _) hrC sC (Nat.le_refl _), List.length_map]
    exact reachO_map _ hr sA hH h0 hn hi
  have hI := reachO_inv (G := gOf TA) hr sA
  generalize reachO (gOf TA) (livL s).length (nums R) = oA at *
  have key : ∀ i, i < oA.length → ∃ x p d wk fn fr, oA.getD i 0 = ((x : Nat) : Int) ∧ (oA.map (plcI f)).getD i 0 = ((f x : Nat) : Int) ∧ LikeAt TA TB (livL s) (plcI f) x (f x) p d wk fn fr := fun i hi' => by
    obtain ⟨x, e, hx, e1⟩ := hlive _ (hI.sub _ (getD_mem hi'))
    refine ⟨x, _, _, _, _, _, e, ?_, h.likeAt g k hm hA hB hx⟩
    rw [show (oA.map (plcI f)).getD i 0 = plcI f (oA.getD i 0) from by simp [List.getD, hi'], e1]
  refine ⟨oA, oA.map (plcI f), rfl, eB.symm, by rw [List.length_map], hI.sub, fun i hi' => ?_, fun i hi' hw => ?_, fun i hi' hw => ?_, ?_, ?_⟩
  · obtain ⟨x, p, d, wk, fn, fr, e, e', hl⟩ := key i hi'
    rw [e, e']
    exact (hl.n hI.sub h0 hn hi).1
  · obtain ⟨x, p, d, wk, fn, fr, e, e', hl⟩ := key i hi'
    rw [e, nOf_obj hl.oa] at hw ⊢
    exact (hl.n hI.sub h0 hn hi).2 hw
  · obtain ⟨x, p, d, wk, fn, fr, e, e', hl⟩ := key i hi'
    rw [e', nOf_obj hl.ob] at hw ⊢
    exact (hl.n hI.sub h0 hn hi).2 hw
  · rw [e2, List.map_map]
    exact List.map_congr_left fun v hv => (rankV_map hI.sub (hr v hv) h0 hn hi).symm
  · exact Nat.le_trans hI.len g.liv_len
end

end Go.Proofs.YtbjmeibcphmgbaaGreat

namespace Go.Proofs.YtbjmeibcphmgbaaGreat
open Go.ChangeShapes Go.WideShapes Go.ChangeAt Go.RowKit

set_option linter.unusedSimpArgs false
set_option linter.unusedVariables false

section
variable {w : World} {H P b : Nat} {v0 v1 v2 v3 : Value} {s : Hp} {K : Nat → Prop}
theorem went_join {x y : World} {K1 : Nat → Prop} {s2 : Hp} (hK : ∀ k, K1 k → K k ∨ w.heap.size ≤ k) (hc : Chg K w x) (h : Went x K1 H s2 y) : Went w K H s2 y := by
  obtain ⟨K2, g1, g2, g3⟩ := h
  refine ⟨K2, g1, fun k hk => ?_, hc.step g3 fun k hk => hK k hk⟩
  rcases g2 k hk with e | e
  · exact hK k e
  · exact .inr (Nat.le_trans hc.size e)

theorem serialH_no (h : HeapAt w K H s) (g : Sound s) (a : Int) (ha : a ∉ nums s.pn)  :
    Calls Tryz.prog 31 #[.pointer (some ⟨H, 0, none⟩), .int .i64 a] w fun e w' => e = .returned (.tuple #[.int .i64 0, .int .i64 70]) ∧ Below w.heap.size w w' := by
  obtain ⟨P, b, v0, v1, v2, v3, h, hF⟩ := h
  have M := here_any h g a
  rw [decide_eq_false ha] at M
  clear h g
  go_enter Tryz.func31, Tryz.ntmps31
  go_wp2_with fail
  refine M.mono ?_
  rintro e x ⟨rfl, hb⟩
  go_wp2
  go_ret2
  exact ⟨rfl, hb⟩


theorem numH_no (h : HeapAt w K H s) (g : Sound s) (a : Int) (ha : a ∉ nums s.pn) (i : Int) :
    Calls Tryz.prog 33 #[.pointer (some ⟨H, 0, none⟩), .int .i64 a, .int .i64 i] w fun e w' => e = .returned (.tuple #[.int .i64 0, .int .i64 70]) ∧ Below w.heap.size w w' := by
  obtain ⟨P, b, v0, v1, v2, v3, h, hF⟩ := h
  have M := here_any h g a
  rw [decide_eq_false ha] at M
  clear h g
  go_enter Tryz.func33, Tryz.ntmps33
  go_wp2_with fail
  refine M.mono ?_
  rintro e x ⟨rfl, hb⟩
  go_wp2
  go_ret2
  exact ⟨rfl, hb⟩

theorem ptrH_no (h : HeapAt w K H s) (g : Sound s) (a : Int) (ha : a ∉ nums s.pn) (i : Int) :
    Calls Tryz.prog 32 #[.pointer (some ⟨H, 0, none⟩), .int .i64 a, .int .i64 i] w fun e w' => e = .returned (.tuple #[.int .i64 0, .int .i64 70]) ∧ Below w.heap.size w w' := by
  obtain ⟨P, b, v0, v1, v2, v3, h, hF⟩ := h
  have M := here_any h g a
  rw [decide_eq_false ha] at M
  clear h g
  go_enter Tryz.func32, Tryz.ntmps32
  go_wp2_with fail
  refine M.mono ?_
  rintro e x ⟨rfl, hb⟩
  go_wp2
  go_ret2
  exact ⟨rfl, hb⟩

theorem setFreedH_no (h : HeapAt w K H s) (g : Sound s) (a : Int) (ha : a ∉ nums s.pn) (q : Bool) :
    Calls Tryz.prog 36 #[.pointer (some ⟨H, 0, none⟩), .int .i64 a, .bool q] w fun e w' => e = .returned (.int .i64 70) ∧ Below w.heap.size w w' := by
  obtain ⟨P, b, v0, v1, v2, v3, h, hF⟩ := h
  have M := here_any h g a
  rw [decide_eq_false ha] at M
  clear h g
  go_enter Tryz.func36, Tryz.ntmps36
  go_wp2_with fail
  refine M.mono ?_
  rintro e x ⟨rfl, hb⟩
  go_wp2
  go_ret
  exact ⟨rfl, hb⟩

theorem setSecondH_no (h : HeapAt w K H s) (g : Sound s) (a : Int) (ha : a ∉ nums s.pn) (q : Int) :
    Calls Tryz.prog 37 #[.pointer (some ⟨H, 0, none⟩), .int .i64 a, .int .u64 q] w fun e w' => e = .returned (.int .i64 70) ∧ Below w.heap.size w w' := by
  obtain ⟨P, b, v0, v1, v2, v3, h, hF⟩ := h
  have M := here_any h g a
  rw [decide_eq_false ha] at M
  clear h g
  go_enter Tryz.func37, Tryz.ntmps37
  go_wp2_with fail
  refine M.mono ?_
  rintro e x ⟨rfl, hb⟩
  go_wp2
  go_ret
  exact ⟨rfl, hb⟩

theorem setNumH_no (h : HeapAt w K H s) (g : Sound s) (a : Int) (ha : a ∉ nums s.pn) (i n : Int) :
    Calls Tryz.prog 35 #[.pointer (some ⟨H, 0, none⟩), .int .i64 a, .int .i64 i, .int .i64 n] w fun e w' => e = .returned (.int .i64 70) ∧ Below w.heap.size w w' := by
  obtain ⟨P, b, v0, v1, v2, v3, h, hF⟩ := h
  have M := here_any h g a
  rw [decide_eq_false ha] at M
  clear h g
  go_enter Tryz.func35, Tryz.ntmps35
  go_wp2_with fail
  refine M.mono ?_
  rintro e x ⟨rfl, hb⟩
  go_wp2
  go_ret
  exact ⟨rfl, hb⟩

theorem setFreedH_yes (h : HeapIn w H P b v0 v1 v2 v3 s) (hF : ∀ k, Foot H P b v0 v1 v2 v3 k → K k) (g : Sound s) (a : Nat) (ha : a ∈ s.pn) (q : Bool) (r : Int) (l' : List Int)
    (M : ∀ x, ArenaAt 146 x P b s.l → Calls Tryz.prog 75 #[.pointer (some ⟨P, 0, none⟩), .int .i64 a, .bool q] x fun e x' => e = .returned (.int .i64 r) ∧ ArenaAt 146 x' P b l' ∧ Chg (· = b) x x') :
    Calls Tryz.prog 36 #[.pointer (some ⟨H, 0, none⟩), .int .i64 a, .bool q] w fun e w' => e = .returned (.int .i64 r) ∧ Went w K H { s with l := l' } w' := by
  have M1 := here_any h g a
  rw [decide_eq_true (mem_nums.2 ha)] at M1
  have hh := fun x (hx : Below w.heap.size w x) => h.on hx
  have hc : ∀ x, Below w.heap.size w x → x.cell? ⟨H, 0, none⟩ = some (.pointer (some ⟨P, 0, none⟩)) := fun x hx => (hh x hx).blk.cell 0
  clear h g
  go_enter Tryz.func36, Tryz.ntmps36
  go_wp2_with fail
  refine M1.mono ?_
  rintro e x ⟨rfl, hb⟩
  have c0 : x.cell? ⟨H, 0, none⟩ = some (.pointer (some ⟨P, 0, none⟩)) := hc x hb
  go_wp2_with fail
  refine (M _ (hh x hb).ar).mono ?_
  rintro e y ⟨rfl, hA, hc1⟩
  go_wp2
  go_ret
  exact ⟨rfl, ((hh x hb).put hA hc1).wentTo hF ((Chg.of_below hb (Nat.le_refl _)).trans (hc1.mono fun k e => .inr e))⟩

theorem setNumH_yes (h : HeapIn w H P b v0 v1 v2 v3 s) (hF : ∀ k, Foot H P b v0 v1 v2 v3 k → K k) (g : Sound s) (a : Nat) (ha : a ∈ s.pn) (i n : Int) (r : Int) (l' : List Int)
    (M : ∀ x, ArenaAt 146 x P b s.l → Calls Tryz.prog 74 #[.pointer (some ⟨P, 0, none⟩), .int .i64 a, .int .i64 i, .int .i64 n] x fun e x' => e = .returned (.int .i64 r) ∧ ArenaAt 146 x' P b l' ∧ Chg (· = b) x x') :
    Calls Tryz.prog 35 #[.pointer (some ⟨H, 0, none⟩), .int .i64 a, .int .i64 i, .int .i64 n] w fun e w' => e = .returned (.int .i64 r) ∧ Went w K H { s with l := l' } w' := by
  have M1 := here_any h g a
  rw [decide_eq_true (mem_nums.2 ha)] at M1
  have hh := fun x (hx : Below w.heap.size w x) => h.on hx
  have hc : ∀ x, Below w.heap.size w x → x.cell? ⟨H, 0, none⟩ = some (.pointer (some ⟨P, 0, none⟩)) := fun x hx => (hh x hx).blk.cell 0
  clear h g
  go_enter Tryz.func35, Tryz.ntmps35
  go_wp2_with fail
  refine M1.mono ?_
  rintro e x ⟨rfl, hb⟩
  have c0 : x.cell? ⟨H, 0, none⟩ = some (.pointer (some ⟨P, 0, none⟩)) := hc x hb
  go_wp2_with fail
  refine (M _ (hh x hb).ar).mono ?_
  rintro e y ⟨rfl, hA, hc1⟩
  go_wp2
  go_ret
  exact ⟨rfl, ((hh x hb).put hA hc1).wentTo hF ((Chg.of_below hb (Nat.le_refl _)).trans (hc1.mono fun k e => .inr e))⟩

theorem setPtrH_no (h : HeapAt w K H s) (g : Sound s) (a i p : Int) (ha : a ∉ nums s.pn ∨ ¬ (p = 0 ∨ p ∈ nums s.pn)) :
    Calls Tryz.prog 34 #[.pointer (some ⟨H, 0, none⟩), .int .i64 a, .int .i64 i, .int .i64 p] w fun e w' => e = .returned (.int .i64 70) ∧ Below w.heap.size w w' := by
  obtain ⟨P, b, v0, v1, v2, v3, h, hF⟩ := h
  have M1 := here_any h g a
  have M2 := fun x (hx : Below w.heap.size w x) => may_any (h.on hx) g p
  clear h g
  by_cases h1 : a ∈ nums s.pn
  · rw [decide_eq_true h1] at M1
    have h2 : decide (p = 0 ∨ p ∈ nums s.pn) = false := decide_eq_false (ha.resolve_left fun h => h h1)
    rw [h2] at M2
    clear ha
    go_enter Tryz.func34, Tryz.ntmps34
    go_wp2_with fail
    refine M1.mono ?_
    rintro e x ⟨rfl, hb⟩
    go_wp2_with fail
    refine (M2 _ hb).mono ?_
    rintro e y ⟨rfl, hb2⟩
    go_wp2
    go_ret
    exact ⟨rfl, hb.trans (hb2.mono hb.size)⟩
  · rw [decide_eq_false h1] at M1
    clear ha
    go_enter Tryz.func34, Tryz.ntmps34
    go_wp2_with fail
    refine M1.mono ?_
    rintro e x ⟨rfl, hb⟩
    go_wp2
    go_ret
    exact ⟨rfl, hb⟩

theorem setPtrH_yes (h : HeapIn w H P b v0 v1 v2 v3 s) (hF : ∀ k, Foot H P b v0 v1 v2 v3 k → K k) (g : Sound s) (a : Nat) (ha : a ∈ s.pn) (i p : Int) (hp : p = 0 ∨ p ∈ nums s.pn) (r : Int) (l' : List Int)
    (M : ∀ x, ArenaAt 146 x P b s.l → Calls Tryz.prog 72 #[.pointer (some ⟨P, 0, none⟩), .int .i64 a, .int .i64 i, .int .i64 p] x fun e x' => e = .returned (.int .i64 r) ∧ ArenaAt 146 x' P b l' ∧ Chg (· = b) x x') :
    Calls Tryz.prog 34 #[.pointer (some ⟨H, 0, none⟩), .int .i64 a, .int .i64 i, .int .i64 p] w fun e w' => e = .returned (.int .i64 r) ∧ Went w K H { s with l := l' } w' := by
  have M1 := here_any h g a
  rw [decide_eq_true (mem_nums.2 ha)] at M1
  have M2 := fun x (hx : Below w.heap.size w x) => may_any (h.on hx) g p
  rw [decide_eq_true hp] at M2
  have hh := fun x (hx : Below w.heap.size w x) => h.on hx
  have hc : ∀ x, Below w.heap.size w x → x.cell? ⟨H, 0, none⟩ = some (.pointer (some ⟨P, 0, none⟩)) := fun x hx => (hh x hx).blk.cell 0
  clear h g hp
  go_enter Tryz.func34, Tryz.ntmps34
  go_wp2_with fail
  refine M1.mono ?_
  rintro e x ⟨rfl, hb⟩
  go_wp2_with fail
  refine (M2 _ hb).mono ?_
  rintro e y ⟨rfl, hb2⟩
  replace hb := hb.trans (hb2.mono hb.size)
  have c0 : y.cell? ⟨H, 0, none⟩ = some (.pointer (some ⟨P, 0, none⟩)) := hc y hb
  go_wp2_with fail
  refine (M _ (hh y hb).ar).mono ?_
  rintro e z ⟨rfl, hA, hc1⟩
  go_wp2
  go_ret
  exact ⟨rfl, ((hh y hb).put hA hc1).wentTo hF ((Chg.of_below hb (Nat.le_refl _)).trans (hc1.mono fun k e => .inr e))⟩

theorem serialH_yes (h : HeapIn w H P b v0 v1 v2 v3 s) (g : Sound s) (a : Nat) (ha : a ∈ s.pn) (r e0 : Int)
    (M : ∀ x, ArenaAt 146 x P b s.l → Calls Tryz.prog 70 #[.pointer (some ⟨P, 0, none⟩), .int .i64 a] x fun e x' => e = .returned (.tuple #[.int .i64 r, .int .i64 e0]) ∧ Below x.heap.size x x') :
    Calls Tryz.prog 31 #[.pointer (some ⟨H, 0, none⟩), .int .i64 a] w fun e w' => e = .returned (.tuple #[.int .i64 r, .int .i64 e0]) ∧ Below w.heap.size w w' := by
  have M1 := here_any h g a
  rw [decide_eq_true (mem_nums.2 ha)] at M1
  have hh := fun x (hx : Below w.heap.size w x) => h.on hx
  have hc : ∀ x, Below w.heap.size w x → x.cell? ⟨H, 0, none⟩ = some (.pointer (some ⟨P, 0, none⟩)) := fun x hx => (hh x hx).blk.cell 0
  clear h g
  go_enter Tryz.func31, Tryz.ntmps31
  go_wp2_with fail
  refine M1.mono ?_
  rintro e x ⟨rfl, hb⟩
  have c0 : x.cell? ⟨H, 0, none⟩ = some (.pointer (some ⟨P, 0, none⟩)) := hc x hb
  go_wp2_with fail
  refine (M _ (hh x hb).ar).mono ?_
  rintro e y ⟨rfl, hb2⟩
  go_wp2
  go_ret2
  exact ⟨rfl, hb.trans (hb2.mono hb.size)⟩

theorem shapeH_yes (h : HeapIn w H P b v0 v1 v2 v3 s) (g : Sound s) (a p d : Nat) (wk fn fr : Bool) (ha : a ∈ s.pn) (o : ObjIs s.l a p d wk fn fr) :
    Calls Tryz.prog 30 #[.pointer (some ⟨H, 0, none⟩), .int .i64 a] w fun e w' => e = .returned (.tuple #[shV p d wk fn, .bool fr, .int .i64 0]) ∧ Below w.heap.size w w' := by
  have hb0 := (Below.refl w.heap.size w).alloc (Nat.le_refl _) (.cells #[.int .i64 0, .int .i64 0, .bool false, .bool false] 45)
  have hk0 := BlkIs.new w #[.int .i64 0, .int .i64 0, .bool false, .bool false] 45
  have M1 := here_any (h.on hb0) g a
  rw [decide_eq_true (mem_nums.2 ha)] at M1
  have hh := fun x (hx : Below w.heap.size w x) => h.on hx
  have M := fun x (hx : Below w.heap.size w x) => shape_at a x (h.on hx).ar o
  have hc : ∀ x, Below w.heap.size w x → x.cell? ⟨H, 0, none⟩ = some (.pointer (some ⟨P, 0, none⟩)) := fun x hx => (hh x hx).blk.cell 0
  clear h g
  go_enter Tryz.func30, Tryz.ntmps30
  go_wp2_with fail
  refine M1.mono ?_
  rintro e x ⟨rfl, hb⟩
  replace hk0 := hk0.more hb (Nat.le_refl _)
  replace hb := hb0.trans (hb.mono hb0.size)
  have c0 : x.cell? ⟨H, 0, none⟩ = some (.pointer (some ⟨P, 0, none⟩)) := hc x hb
  go_wp2_with fail
  refine (M _ hb).mono ?_
  rintro e y ⟨rfl, hb2⟩
  replace hk0 := hk0.more hb2 (Nat.le_refl _)
  replace hb := hb.trans (hb2.mono hb.size)
  obtain ⟨⟨e0, e1, e2, e3⟩, f0, f1, f2, f3, l1⟩ := BlkIs.facts4 hk0
  go_wp2
  have hE := (((hk0.set 0 (.int .i64 p)).set 1 (.int .i64 d)).set 2 (.bool wk)).set 3 (.bool fn)
  obtain ⟨⟨g0, g1, g2, g3⟩, _⟩ := BlkIs.facts4 hE
  refine bodyPost_ret (v := .tuple #[shV p d wk fn, .bool fr, .int .i64 0]) ?_ rfl ⟨rfl, ?_⟩
  · simp [results, Tryz.f30, go_sem, g0, g1, g2, g3]
  · exact (((hb.setCell (p := ⟨w.heap.size, 0, none⟩) (Nat.le_refl _) (.int .i64 p)).setCell (p := ⟨w.heap.size, 1, none⟩) (Nat.le_refl _) (.int .i64 d)).setCell (p := ⟨w.heap.size, 2, none⟩) (Nat.le_refl _) (.bool wk)).setCell (p := ⟨w.heap.size, 3, none⟩) (Nat.le_refl _) (.bool fn)

theorem shapeH_no (h : HeapAt w K H s) (g : Sound s) (a : Int) (ha : a ∉ nums s.pn) :
    Calls Tryz.prog 30 #[.pointer (some ⟨H, 0, none⟩), .int .i64 a] w fun e w' => e = .returned (.tuple #[shV 0 0 false false, .bool false, .int .i64 70]) ∧ Below w.heap.size w w' := by
  obtain ⟨P, b, v0, v1, v2, v3, h, hF⟩ := h
  have hb0 := (Below.refl w.heap.size w).alloc (Nat.le_refl _) (.cells #[.int .i64 0, .int .i64 0, .bool false, .bool false] 45)
  have hk0 := BlkIs.new w #[.int .i64 0, .int .i64 0, .bool false, .bool false] 45
  have M1 := here_any (h.on hb0) g a
  rw [decide_eq_false ha] at M1
  clear h g
  go_enter Tryz.func30, Tryz.ntmps30
  go_wp2_with fail
  refine M1.mono ?_
  rintro e x ⟨rfl, hb⟩
  replace hk0 := hk0.more hb (Nat.le_refl _)
  replace hb := hb0.trans (hb.mono hb0.size)
  obtain ⟨⟨e0, e1, e2, e3⟩, f0, f1, f2, f3, l1⟩ := BlkIs.facts4 hk0
  go_wp2
  have hE := (((hk0.set 0 (.int .i64 0)).set 1 (.int .i64 0)).set 2 (.bool false)).set 3 (.bool false)
  obtain ⟨⟨g0, g1, g2, g3⟩, _⟩ := BlkIs.facts4 hE
  refine bodyPost_ret (v := .tuple #[shV 0 0 false false, .bool false, .int .i64 70]) ?_ rfl ⟨rfl, ?_⟩
  · simp [results, Tryz.f30, go_sem, g0, g1, g2, g3]
  · exact (((hb.setCell (p := ⟨w.heap.size, 0, none⟩) (Nat.le_refl _) (.int .i64 0)).setCell (p := ⟨w.heap.size, 1, none⟩) (Nat.le_refl _) (.int .i64 0)).setCell (p := ⟨w.heap.size, 2, none⟩) (Nat.le_refl _) (.bool false)).setCell (p := ⟨w.heap.size, 3, none⟩) (Nat.le_refl _) (.bool false)

theorem ptrH_field (h : HeapIn w H P b v0 v1 v2 v3 s) (g : Sound s) (a : Nat) (ha : a ∈ s.pn) (i : Int)
    (M : ∀ x, ArenaAt 146 x P b s.l → Calls Tryz.prog 71 #[.pointer (some ⟨P, 0, none⟩), .int .i64 a, .int .i64 i] x fun e x' => e = .returned (.tuple #[.int .i64 0, .int .i64 71]) ∧ Below x.heap.size x x') :
    Calls Tryz.prog 32 #[.pointer (some ⟨H, 0, none⟩), .int .i64 a, .int .i64 i] w fun e w' => e = .returned (.tuple #[.int .i64 0, .int .i64 71]) ∧ Below w.heap.size w w' := by
  have M1 := here_any h g a
  rw [decide_eq_true (mem_nums.2 ha)] at M1
  have hh := fun x (hx : Below w.heap.size w x) => h.on hx
  have hc : ∀ x, Below w.heap.size w x → x.cell? ⟨H, 0, none⟩ = some (.pointer (some ⟨P, 0, none⟩)) := fun x hx => (hh x hx).blk.cell 0
  clear h g
  go_enter Tryz.func32, Tryz.ntmps32
  go_wp2_with fail
  refine M1.mono ?_
  rintro e x ⟨rfl, hb⟩
  have c0 : x.cell? ⟨H, 0, none⟩ = some (.pointer (some ⟨P, 0, none⟩)) := hc x hb
  go_wp2_with fail
  refine (M _ (hh x hb).ar).mono ?_
  rintro e y ⟨rfl, hb2⟩
  go_wp2
  go_ret2
  exact ⟨rfl, hb.trans (hb2.mono hb.size)⟩

/-- A pointer is told, and made what it is now. -/
theorem ptrH_yes (h : HeapIn w H P b v0 v1 v2 v3 s) (hF : ∀ k, Foot H P b v0 v1 v2 v3 k → K k) (g : Sound s) (a p q : Nat) (ha : a ∈ s.pn) (i : Int) (s1 : Hp) (l' : List Int)
    (M : ∀ x, ArenaAt 146 x P b s.l → Calls Tryz.prog 71 #[.pointer (some ⟨P, 0, none⟩), .int .i64 a, .int .i64 i] x fun e x' => e = .returned (.tuple #[.int .i64 p, .int .i64 0]) ∧ Below x.heap.size x x')
    (MM : ∀ x, HeapAt x K H s → Calls Tryz.prog 17 #[.pointer (some ⟨H, 0, none⟩), .int .i64 p] x fun e x' => e = .returned (.int .i64 q) ∧ Went x K H s1 x')
    (MS : ∀ x P' b', ArenaAt 146 x P' b' s1.l → Calls Tryz.prog 72 #[.pointer (some ⟨P', 0, none⟩), .int .i64 a, .int .i64 i, .int .i64 q] x fun e x' => e = .returned (.int .i64 0) ∧ ArenaAt 146 x' P' b' l' ∧ Chg (· = b') x x') :
    Calls Tryz.prog 32 #[.pointer (some ⟨H, 0, none⟩), .int .i64 a, .int .i64 i] w fun e w' => e = .returned (.tuple #[.int .i64 q, .int .i64 0]) ∧ Went w K H { s1 with l := l' } w' := by
  have M1 := here_any h g a
  rw [decide_eq_true (mem_nums.2 ha)] at M1
  have hh := fun x (hx : Below w.heap.size w x) => h.on hx
  have hc : ∀ x, Below w.heap.size w x → x.cell? ⟨H, 0, none⟩ = some (.pointer (some ⟨P, 0, none⟩)) := fun x hx => (hh x hx).blk.cell 0
  clear h g
  go_enter Tryz.func32, Tryz.ntmps32
  go_wp2_with fail
  refine M1.mono ?_
  rintro e x ⟨rfl, hb⟩
  have c0 : x.cell? ⟨H, 0, none⟩ = some (.pointer (some ⟨P, 0, none⟩)) := hc x hb
  go_wp2_with fail
  refine (M _ (hh x hb).ar).mono ?_
  rintro e y ⟨rfl, hb2⟩
  replace hb := hb.trans (hb2.mono hb.size)
  clear hb2 c0 x
  have hy : HeapAt y K H s := ⟨P, b, v0, v1, v2, v3, hh y hb, hF⟩
  go_wp2_with fail
  refine (MM _ hy).mono ?_
  rintro e z ⟨rfl, hW⟩
  have hW0 := hW
  obtain ⟨K1, ⟨P', b', u0, u1, u2, u3, h1, hF1⟩, hK1, hc1⟩ := hW0
  have c1 : z.cell? ⟨H, 0, none⟩ = some (.pointer (some ⟨P', 0, none⟩)) := h1.blk.cell 0
  go_wp2_with fail
  refine (MS _ _ _ h1.ar).mono ?_
  rintro e z2 ⟨rfl, hA, hc2⟩
  go_wp2
  go_ret2
  exact ⟨rfl, Went.after (Chg.of_below hb (Nat.le_refl _) (S := K)) (fun _ h => h) (went_join hK1 hc1 ((h1.put hA hc2).wentTo hF1 (hc2.mono fun k e => .inr e)))⟩

end

end Go.Proofs.YtbjmeibcphmgbaaGreat

namespace Go.Proofs.YtbjmeibcphmgbaaGreat
open Go.ChangeShapes Go.WideShapes Go.ChangeAt Go.RowKit

set_option linter.unusedSimpArgs false
set_option linter.unusedVariables false

section
variable {w : World} {H P b : Nat} {v0 v1 v2 v3 : Value} {s : Hp} {K : Nat → Prop} {p d : Nat} {wk fn : Bool}
/-- The cells of the space in use, by their places. -/
abbrev InS (u : Int) (i0 i1 i2 H bn z tn : Nat) (y : World) : Prop := y.cell? ⟨H, 9, none⟩ = some (.int .i64 u) ∧ y.cell? ⟨H, i0, none⟩ = some (.int .i64 bn) ∧ y.cell? ⟨H, i1, none⟩ = some (.int .i64 z) ∧ y.cell? ⟨H, i2, none⟩ = some (.int .i64 tn)
theorem HeapIn.in0 (h : HeapIn w H P b v0 v1 v2 v3 s) (hu : s.u = 0) : InS 0 1 2 3 H s.bn s.z s.tn w := ((h.inuse (.inl hu)).resolve_right fun e => absurd (e.1.symm.trans hu) (by decide)).2
theorem HeapIn.in1 (h : HeapIn w H P b v0 v1 v2 v3 s) (hu : s.u = 1) : InS 1 4 5 6 H s.bn s.z s.tn w := ((h.inuse (.inr hu)).resolve_left fun e => absurd (e.1.symm.trans hu) (by decide)).2
theorem HeapIn.not_foot (h : HeapIn w H P b v0 v1 v2 v3 s) {q : Nat} {cs : Array Value} {ty : TypeId} (hq : BlkIs w q cs ty) (t1 : ty ≠ 80) (t2 : ty ≠ 146) (t3 : ty ≠ 65) (t4 : ty ≠ 3) : ¬ Foot H P b v0 v1 v2 v3 q := fun hf => by
  rcases foot_of hf with e | e | e | ⟨i, hi, e⟩
  · exact ne_of_types hq h.blk t1 e
  · exact ne_of_types hq h.ar.head t2 e
  · exact ne_of_types hq h.ar.row t3 e
  · exact (h.row i hi).ne hq (fun e => t4 e.symm) e


set_option maxRecDepth 100000 in
set_option maxHeartbeats 4000000 in
theorem allocH_yes (h : HeapIn w H P b v0 v1 v2 v3 s) (hF : ∀ k, Foot H P b v0 v1 v2 v3 k → K k) (g : Sound s) (o1 : shB p d wk fn = true) (o2 : p ≤ 8) (o3 : d ≤ 8) (hr : Cls.rd (3 + p + d) ≤ s.room) (hse : s.se < 1099511627776) (hln : s.l.length = 2 * s.z + 1) (hwl : s.wk.length ≤ s.se) (hfl : s.fi.length ≤ s.se) :
    Calls Tryz.prog 26 #[.pointer (some ⟨H, 0, none⟩), shV p d wk fn] w fun e w' => e = .returned (.tuple #[.int .i64 s.tn, .int .i64 0]) ∧ Went w K H (s.lay p d wk fn) w' := by
  have hb0 := (Below.refl w.heap.size w).alloc (Nat.le_refl _) (.cells #[.int .i64 p, .int .i64 d, .bool wk, .bool fn] 45)
  have kq := BlkIs.new w #[.int .i64 p, .int .i64 d, .bool wk, .bool fn] 45
  have HT := taken_ok p d wk fn o1 o2 o3
  have HR := fun x (hx : Below w.heap.size w x) => room_any (h.on hx) g
  have hrm : s.room = s.bn + s.z - s.tn - s.ow := rfl
  have g0 := g.t0
  have g1 := g.t1
  have gz := g.z1
  have hbn : 1 ≤ s.bn ∧ s.bn ≤ 16385 ∧ s.bn + s.z ≤ s.l.length := by rw [hln]; have := g.z1; unfold Hp.bn Hp.base; split <;> omega
  have hge : 3 + p + d ≤ Cls.rd (3 + p + d) := Cls.rd_ge (by omega)
  have M3 := take_yes s.bn s.z s.tn (Cls.rd (3 + p + d)) ⟨by omega, by omega, by omega, by omega⟩ (by omega) (by omega) (by rw [Cls.rd_rd (by omega)]; omega)
  rw [Cls.rd_rd (by omega)] at M3
  have M4 := fun x (hx : ArenaAt 146 x P b s.l) => make_yes (wk := wk) (fn := fn) s.tn (s.se + 1) x hx o1 o2 o3 (by omega) (by omega)
  obtain ⟨s', hs'⟩ : ∃ s', s.lay p d wk fn = s' := ⟨_, rfl⟩
  rw [hs']
  have Hs := Lib.hid hs'
  clear hs'
  obtain ⟨t2, ht2⟩ : ∃ t2, s.tn + Cls.rd (3 + p + d) = t2 := ⟨_, rfl⟩
  have Ht := Lib.hid ht2
  rw [ht2] at M3
  clear ht2
  obtain ⟨r, hrr⟩ : ∃ r, Cls.rd (3 + p + d) = r := ⟨_, rfl⟩
  have Hr := Lib.hid hrr
  rw [hrr] at HT hr hge Ht M3
  clear hrm hrr
  generalize s.room = m at *
  have d0 : decide ((m : Int) < (r : Int)) = false := decide_eq_false (by omega)
  have d2 : decide (m < r) = false := decide_eq_false (by omega)
  have d1 : ((s.se : Int) == 1099511627776) = false := by simp; omega
  have i1 : IntKind.i64.wrap ((s.se : Int) + 1) = ((s.se + 1 : Nat) : Int) := by rw [IntWalk.i64_in _ (by omega)]; omega
  obtain ⟨se1, hse1⟩ : ∃ se1, s.se + 1 = se1 := ⟨_, rfl⟩
  rw [hse1] at i1 M4
  have Hse := Lib.hid hse1
  clear hse1
  obtain ⟨q, hq⟩ : ∃ q, w.heap.size = q := ⟨_, rfl⟩
  go_enter Tryz.func26, Tryz.ntmps26
  go_wp2_with fail
  refine (HT _).mono ?_
  rintro e x ⟨rfl, hb⟩
  replace kq := kq.more hb (Nat.le_refl _)
  replace hb := hb0.trans (hb.mono hb0.size)
  go_wp2_with fail
  refine (HR _ hb).mono ?_
  rintro e y ⟨rfl, hb2⟩
  replace kq := kq.more hb2 (Nat.le_refl _)
  replace hb := hb.trans (hb2.mono hb.size)
  have hx := h.on hb
  have hbx := hb
  have cse : y.cell? ⟨H, 13, none⟩ = some (.int .i64 s.se) := hx.blk.cell 13
  clear hb2 hb HT HR x h hb0
  rw [hq] at kq
  have Hq := Lib.hid hq
  clear hq
  generalize y = x at *
  go_upto_region 6 with fail
  clear cse d0 d1
  go_cut [8, 9, 10] from 29 to 91 (fun s8 s9 s10 wx => ∃ m : Nat, s8 = .pointer (some ⟨m, 0, none⟩) ∧ s9 = .int .i64 s.tn ∧ BlkIs wx m #[.int .i64 s.bn, .int .i64 s.z, .int .i64 t2] 76 ∧ BlkIs wx q #[.int .i64 p, .int .i64 d, .bool wk, .bool fn] 45 ∧ HeapIn wx H P b v0 v1 v2 v3 s ∧ Below w.heap.size w wx)
  case first =>
    rcases g.u01 with hu | hu
    · refine wp_region_noPanic ?_
      have hd : HeapIn x.drew H P b v0 v1 v2 v3 s := hx.on (Below.refl _ x).drew
      have kd : BlkIs x.drew q _ _ := kq
      have hbd := hbx.drew
      refine wp_region_held_drew (S := InS 0 1 2 3 H s.bn s.z s.tn) (by kernel_rfl) (hd.in0 hu) (fun hS => ?_)
      have hc_ : Cnt 0 := trivial
      iterate 10 ((first | (refine takeC hc_ (v := ?_) rfl (by kernel_rfl) (by kernel_rfl) (by kernel_rfl) (fun _ _ _ h => h) (Or.inl ⟨by rfl, ?_⟩) hS ?_; rotate_left; (· (intro y hy; (try dsimp only at hy); go_simp; try with_reducible rfl))) | refine takeC hc_ (v := undef) rfl (by kernel_rfl) (by kernel_rfl) (by kernel_rfl) (fun _ _ _ h => h) (Or.inr ⟨by rfl, rfl⟩) hS ?_); try simp only [Act.put, List.setIfInBounds_toArray, List.set_cons_zero, List.set_cons_succ, List.getElem_toArray, List.append, List.getElem_cons_zero, List.getElem_cons_succ]; replace hc_ := hc_.next; simp only [Nat.reduceAdd] at hc_)
      clear hc_
      refine wpAnyH_ready (rs := [10, 15]) (by kernel_rfl) (by simp) ?_
      refine AllReadyH.cons (o := _) rfl (fun K hK => ?_) (AllReadyH.cons (o := _) rfl (fun K hK => ?_) AllReadyH.nil)
      · go_simp
        refine (M3 _).mono ?_
        rintro e v ⟨rfl, hb⟩
        have hv := hd.on hb
        have kv := kd.more hb (Nat.le_refl _)
        have hbv := hbd.trans (hb.mono hbd.size)
        refine hK.out _ _ (hv.in0 hu) (fun hS => ?_)
        clear hK K
        try simp only [Act.put, List.setIfInBounds_toArray, List.set_cons_zero, List.set_cons_succ]
        have hc_ : Cnt 11 := trivial
        iterate 4 ((first | (refine takeC hc_ (v := ?_) rfl (by kernel_rfl) (by kernel_rfl) (by kernel_rfl) (fun _ _ _ h => h) (Or.inl ⟨by rfl, ?_⟩) hS ?_; rotate_left; (· (intro y hy; (try dsimp only at hy); go_simp; try with_reducible rfl))) | refine takeC hc_ (v := undef) rfl (by kernel_rfl) (by kernel_rfl) (by kernel_rfl) (fun _ _ _ h => h) (Or.inr ⟨by rfl, rfl⟩) hS ?_); try simp only [Act.put, List.setIfInBounds_toArray, List.set_cons_zero, List.set_cons_succ, List.getElem_toArray, List.append, List.getElem_cons_zero, List.getElem_cons_succ]; replace hc_ := hc_.next; simp only [Nat.reduceAdd] at hc_)
        clear hc_
        refine wpAnyH_ready (rs := [15]) (by kernel_rfl) (by simp) ?_
        refine AllReadyH.cons (o := _) rfl (fun K hK => ?_) AllReadyH.nil
        go_simp
        have hv2 := hv.on ((Below.refl _ v).alloc (Nat.le_refl _) (.cells #[.int .i64 0, .int .i64 0, .int .i64 0] 76))
        refine hK.out _ _ (hv2.in0 hu) (fun hS => ?_)
        clear hK K
        try simp only [Act.put, List.setIfInBounds_toArray, List.set_cons_zero, List.set_cons_succ]
        refine wpAnyH_ready (rs := [16]) (by kernel_rfl) (by simp) ?_
        refine AllReadyH.cons (o := _) rfl (fun K hK => ?_) AllReadyH.nil
        go_simp
        have hb3 := (Below.refl _ v).alloc (Nat.le_refl _) (.cells #[.int .i64 s.bn, .int .i64 s.z, .int .i64 t2] 76)
        have hv3 := hv.on hb3
        refine hK.out _ _ (hv3.in0 hu) (fun hS => ?_)
        clear hK K
        try simp only [Act.put, List.setIfInBounds_toArray, List.set_cons_zero, List.set_cons_succ]
        have hc_ : Cnt 17 := trivial
        iterate 2 ((first | (refine takeC hc_ (v := ?_) rfl (by kernel_rfl) (by kernel_rfl) (by kernel_rfl) (fun _ _ _ h => h) (Or.inl ⟨by rfl, ?_⟩) hS ?_; rotate_left; (· (intro y hy; (try dsimp only at hy); go_simp; try with_reducible rfl))) | refine takeC hc_ (v := undef) rfl (by kernel_rfl) (by kernel_rfl) (by kernel_rfl) (fun _ _ _ h => h) (Or.inr ⟨by rfl, rfl⟩) hS ?_); try simp only [Act.put, List.setIfInBounds_toArray, List.set_cons_zero, List.set_cons_succ, List.getElem_toArray, List.append, List.getElem_cons_zero, List.getElem_cons_succ]; replace hc_ := hc_.next; simp only [Nat.reduceAdd] at hc_)
        clear hc_
        refine wpAnyH_done (by kernel_rfl) ?_ _
        refine NoPanic.normal ?_
        go_wp2_with fail
        go_meet
        exact ⟨_, rfl, rfl, BlkIs.new v _ _, kv.more hb3 (Nat.le_refl _), hv3, hbv.trans (hb3.mono hbv.size)⟩
      · go_simp
        have hb1 := (Below.refl _ x.drew).alloc (Nat.le_refl _) (.cells #[.int .i64 0, .int .i64 0, .int .i64 0] 76)
        have h1 := hd.on hb1
        have k1 := kd.more hb1 (Nat.le_refl _)
        have m1 : BlkIs _ x.heap.size _ _ := BlkIs.new x.drew #[.int .i64 0, .int .i64 0, .int .i64 0] 76
        have hb1w := hbd.trans (hb1.mono hbd.size)
        have hxw : w.heap.size ≤ x.heap.size := hbx.size
        have hHx : H < x.heap.size := hx.blk.lt
        have hqx : q < x.heap.size := kq.lt
        refine hK.out _ _ (h1.in0 hu) (fun hS => ?_)
        clear hK K
        try simp only [Act.put, List.setIfInBounds_toArray, List.set_cons_zero, List.set_cons_succ]
        refine wpAnyH_ready (rs := [10]) (by kernel_rfl) (by simp) ?_
        refine AllReadyH.cons (o := _) rfl (fun K hK => ?_) AllReadyH.nil
        go_simp
        refine (M3 _).mono ?_
        rintro e v ⟨rfl, hb⟩
        have hv := h1.on hb
        have kv := k1.more hb (Nat.le_refl _)
        have mv := m1.more hb (Nat.le_refl _)
        have hbv := hb1w.trans (hb.mono hb1w.size)
        have hxv : x.heap.size < v.heap.size := mv.lt
        refine hK.out _ _ (hv.in0 hu) (fun hS => ?_)
        clear hK K
        try simp only [Act.put, List.setIfInBounds_toArray, List.set_cons_zero, List.set_cons_succ]
        have hc_ : Cnt 11 := trivial
        iterate 4 ((first | (refine takeC hc_ (v := ?_) rfl (by kernel_rfl) (by kernel_rfl) (by kernel_rfl) (fun _ _ _ h => h) (Or.inl ⟨by rfl, ?_⟩) hS ?_; rotate_left; (· (intro y hy; (try dsimp only at hy); go_simp; try with_reducible rfl))) | refine takeC hc_ (v := undef) rfl (by kernel_rfl) (by kernel_rfl) (by kernel_rfl) (fun _ _ _ h => h) (Or.inr ⟨by rfl, rfl⟩) hS ?_); try simp only [Act.put, List.setIfInBounds_toArray, List.set_cons_zero, List.set_cons_succ, List.getElem_toArray, List.append, List.getElem_cons_zero, List.getElem_cons_succ]; replace hc_ := hc_.next; simp only [Nat.reduceAdd] at hc_)
        clear hc_
        obtain ⟨⟨d0, d1, d2⟩, g0, g1, g2⟩ := blk3 mv
        refine wpAnyH_ready (rs := [16]) (by kernel_rfl) (by simp) ?_
        refine AllReadyH.cons (o := _) rfl (fun K hK => ?_) AllReadyH.nil
        go_simp
        have hcs : Chg (· = x.heap.size) v _ := (((Chg.refl (· = x.heap.size) v).setCell (p := ⟨x.heap.size, 0, none⟩) (.inl rfl) (.int .i64 s.bn)).setCell (p := ⟨x.heap.size, 1, none⟩) (.inl rfl) (.int .i64 s.z)).setCell (p := ⟨x.heap.size, 2, none⟩) (.inl rfl) (.int .i64 t2)
        have hv3 := hv.chg hcs fun k hk e => by subst e; have := hx.lt (P := P) (b := b) hk; omega
        have kv3 := kv.chg hcs (by omega)
        have m3 : BlkIs _ x.heap.size #[.int .i64 s.bn, .int .i64 s.z, .int .i64 t2] _ := ((mv.set 0 (.int .i64 s.bn)).set 1 (.int .i64 s.z)).set 2 (.int .i64 t2)
        have hb3 := hbv.trans (hcs.below (n := w.heap.size) (fun k e => by omega) (by omega))
        refine hK.out _ _ (hv3.in0 hu) (fun hS => ?_)
        clear hK K
        try simp only [Act.put, List.setIfInBounds_toArray, List.set_cons_zero, List.set_cons_succ]
        have hc_ : Cnt 17 := trivial
        iterate 2 ((first | (refine takeC hc_ (v := ?_) rfl (by kernel_rfl) (by kernel_rfl) (by kernel_rfl) (fun _ _ _ h => h) (Or.inl ⟨by rfl, ?_⟩) hS ?_; rotate_left; (· (intro y hy; (try dsimp only at hy); go_simp; try with_reducible rfl))) | refine takeC hc_ (v := undef) rfl (by kernel_rfl) (by kernel_rfl) (by kernel_rfl) (fun _ _ _ h => h) (Or.inr ⟨by rfl, rfl⟩) hS ?_); try simp only [Act.put, List.setIfInBounds_toArray, List.set_cons_zero, List.set_cons_succ, List.getElem_toArray, List.append, List.getElem_cons_zero, List.getElem_cons_succ]; replace hc_ := hc_.next; simp only [Nat.reduceAdd] at hc_)
        clear hc_
        refine wpAnyH_done (by kernel_rfl) ?_ _
        refine NoPanic.normal ?_
        go_wp2_with fail
        go_meet
        exact ⟨_, rfl, rfl, m3, kv3, hv3, hb3⟩
    · refine wp_region_noPanic ?_
      have hd : HeapIn x.drew H P b v0 v1 v2 v3 s := hx.on (Below.refl _ x).drew
      have kd : BlkIs x.drew q _ _ := kq
      have hbd := hbx.drew
      refine wp_region_held_drew (S := InS 1 4 5 6 H s.bn s.z s.tn) (by kernel_rfl) (hd.in1 hu) (fun hS => ?_)
      have hc_ : Cnt 0 := trivial
      iterate 10 ((first | (refine takeC hc_ (v := ?_) rfl (by kernel_rfl) (by kernel_rfl) (by kernel_rfl) (fun _ _ _ h => h) (Or.inl ⟨by rfl, ?_⟩) hS ?_; rotate_left; (· (intro y hy; (try dsimp only at hy); go_simp; try with_reducible rfl))) | refine takeC hc_ (v := undef) rfl (by kernel_rfl) (by kernel_rfl) (by kernel_rfl) (fun _ _ _ h => h) (Or.inr ⟨by rfl, rfl⟩) hS ?_); try simp only [Act.put, List.setIfInBounds_toArray, List.set_cons_zero, List.set_cons_succ, List.getElem_toArray, List.append, List.getElem_cons_zero, List.getElem_cons_succ]; replace hc_ := hc_.next; simp only [Nat.reduceAdd] at hc_)
      clear hc_
      refine wpAnyH_ready (rs := [10, 15]) (by kernel_rfl) (by simp) ?_
      refine AllReadyH.cons (o := _) rfl (fun K hK => ?_) (AllReadyH.cons (o := _) rfl (fun K hK => ?_) AllReadyH.nil)
      · go_simp
        refine (M3 _).mono ?_
        rintro e v ⟨rfl, hb⟩
        have hv := hd.on hb
        have kv := kd.more hb (Nat.le_refl _)
        have hbv := hbd.trans (hb.mono hbd.size)
        refine hK.out _ _ (hv.in1 hu) (fun hS => ?_)
        clear hK K
        try simp only [Act.put, List.setIfInBounds_toArray, List.set_cons_zero, List.set_cons_succ]
        have hc_ : Cnt 11 := trivial
        iterate 4 ((first | (refine takeC hc_ (v := ?_) rfl (by kernel_rfl) (by kernel_rfl) (by kernel_rfl) (fun _ _ _ h => h) (Or.inl ⟨by rfl, ?_⟩) hS ?_; rotate_left; (· (intro y hy; (try dsimp only at hy); go_simp; try with_reducible rfl))) | refine takeC hc_ (v := undef) rfl (by kernel_rfl) (by kernel_rfl) (by kernel_rfl) (fun _ _ _ h => h) (Or.inr ⟨by rfl, rfl⟩) hS ?_); try simp only [Act.put, List.setIfInBounds_toArray, List.set_cons_zero, List.set_cons_succ, List.getElem_toArray, List.append, List.getElem_cons_zero, List.getElem_cons_succ]; replace hc_ := hc_.next; simp only [Nat.reduceAdd] at hc_)
        clear hc_
        refine wpAnyH_ready (rs := [15]) (by kernel_rfl) (by simp) ?_
        refine AllReadyH.cons (o := _) rfl (fun K hK => ?_) AllReadyH.nil
        go_simp
        have hv2 := hv.on ((Below.refl _ v).alloc (Nat.le_refl _) (.cells #[.int .i64 0, .int .i64 0, .int .i64 0] 76))
        refine hK.out _ _ (hv2.in1 hu) (fun hS => ?_)
        clear hK K
        try simp only [Act.put, List.setIfInBounds_toArray, List.set_cons_zero, List.set_cons_succ]
        refine wpAnyH_ready (rs := [16]) (by kernel_rfl) (by simp) ?_
        refine AllReadyH.cons (o := _) rfl (fun K hK => ?_) AllReadyH.nil
        go_simp
        have hb3 := (Below.refl _ v).alloc (Nat.le_refl _) (.cells #[.int .i64 s.bn, .int .i64 s.z, .int .i64 t2] 76)
        have hv3 := hv.on hb3
        refine hK.out _ _ (hv3.in1 hu) (fun hS => ?_)
        clear hK K
        try simp only [Act.put, List.setIfInBounds_toArray, List.set_cons_zero, List.set_cons_succ]
        have hc_ : Cnt 17 := trivial
        iterate 2 ((first | (refine takeC hc_ (v := ?_) rfl (by kernel_rfl) (by kernel_rfl) (by kernel_rfl) (fun _ _ _ h => h) (Or.inl ⟨by rfl, ?_⟩) hS ?_; rotate_left; (· (intro y hy; (try dsimp only at hy); go_simp; try with_reducible rfl))) | refine takeC hc_ (v := undef) rfl (by kernel_rfl) (by kernel_rfl) (by kernel_rfl) (fun _ _ _ h => h) (Or.inr ⟨by rfl, rfl⟩) hS ?_); try simp only [Act.put, List.setIfInBounds_toArray, List.set_cons_zero, List.set_cons_succ, List.getElem_toArray, List.append, List.getElem_cons_zero, List.getElem_cons_succ]; replace hc_ := hc_.next; simp only [Nat.reduceAdd] at hc_)
        clear hc_
        refine wpAnyH_done (by kernel_rfl) ?_ _
        refine NoPanic.normal ?_
        go_wp2_with fail
        go_meet
        exact ⟨_, rfl, rfl, BlkIs.new v _ _, kv.more hb3 (Nat.le_refl _), hv3, hbv.trans (hb3.mono hbv.size)⟩
      · go_simp
        have hb1 := (Below.refl _ x.drew).alloc (Nat.le_refl _) (.cells #[.int .i64 0, .int .i64 0, .int .i64 0] 76)
        have h1 := hd.on hb1
        have k1 := kd.more hb1 (Nat.le_refl _)
        have m1 : BlkIs _ x.heap.size _ _ := BlkIs.new x.drew #[.int .i64 0, .int .i64 0, .int .i64 0] 76
        have hb1w := hbd.trans (hb1.mono hbd.size)
        have hxw : w.heap.size ≤ x.heap.size := hbx.size
        have hHx : H < x.heap.size := hx.blk.lt
        have hqx : q < x.heap.size := kq.lt
        refine hK.out _ _ (h1.in1 hu) (fun hS => ?_)
        clear hK K
        try simp only [Act.put, List.setIfInBounds_toArray, List.set_cons_zero, List.set_cons_succ]
        refine wpAnyH_ready (rs := [10]) (by kernel_rfl) (by simp) ?_
        refine AllReadyH.cons (o := _) rfl (fun K hK => ?_) AllReadyH.nil
        go_simp
        refine (M3 _).mono ?_
        rintro e v ⟨rfl, hb⟩
        have hv := h1.on hb
        have kv := k1.more hb (Nat.le_refl _)
        have mv := m1.more hb (Nat.le_refl _)
        have hbv := hb1w.trans (hb.mono hb1w.size)
        have hxv : x.heap.size < v.heap.size := mv.lt
        refine hK.out _ _ (hv.in1 hu) (fun hS => ?_)
        clear hK K
        try simp only [Act.put, List.setIfInBounds_toArray, List.set_cons_zero, List.set_cons_succ]
        have hc_ : Cnt 11 := trivial
        iterate 4 ((first | (refine takeC hc_ (v := ?_) rfl (by kernel_rfl) (by kernel_rfl) (by kernel_rfl) (fun _ _ _ h => h) (Or.inl ⟨by rfl, ?_⟩) hS ?_; rotate_left; (· (intro y hy; (try dsimp only at hy); go_simp; try with_reducible rfl))) | refine takeC hc_ (v := undef) rfl (by kernel_rfl) (by kernel_rfl) (by kernel_rfl) (fun _ _ _ h => h) (Or.inr ⟨by rfl, rfl⟩) hS ?_); try simp only [Act.put, List.setIfInBounds_toArray, List.set_cons_zero, List.set_cons_succ, List.getElem_toArray, List.append, List.getElem_cons_zero, List.getElem_cons_succ]; replace hc_ := hc_.next; simp only [Nat.reduceAdd] at hc_)
        clear hc_
        obtain ⟨⟨d0, d1, d2⟩, g0, g1, g2⟩ := blk3 mv
        refine wpAnyH_ready (rs := [16]) (by kernel_rfl) (by simp) ?_
        refine AllReadyH.cons (o := _) rfl (fun K hK => ?_) AllReadyH.nil
        go_simp
        have hcs : Chg (· = x.heap.size) v _ := (((Chg.refl (· = x.heap.size) v).setCell (p := ⟨x.heap.size, 0, none⟩) (.inl rfl) (.int .i64 s.bn)).setCell (p := ⟨x.heap.size, 1, none⟩) (.inl rfl) (.int .i64 s.z)).setCell (p := ⟨x.heap.size, 2, none⟩) (.inl rfl) (.int .i64 t2)
        have hv3 := hv.chg hcs fun k hk e => by subst e; have := hx.lt (P := P) (b := b) hk; omega
        have kv3 := kv.chg hcs (by omega)
        have m3 : BlkIs _ x.heap.size #[.int .i64 s.bn, .int .i64 s.z, .int .i64 t2] _ := ((mv.set 0 (.int .i64 s.bn)).set 1 (.int .i64 s.z)).set 2 (.int .i64 t2)
        have hb3 := hbv.trans (hcs.below (n := w.heap.size) (fun k e => by omega) (by omega))
        refine hK.out _ _ (hv3.in1 hu) (fun hS => ?_)
        clear hK K
        try simp only [Act.put, List.setIfInBounds_toArray, List.set_cons_zero, List.set_cons_succ]
        have hc_ : Cnt 17 := trivial
        iterate 2 ((first | (refine takeC hc_ (v := ?_) rfl (by kernel_rfl) (by kernel_rfl) (by kernel_rfl) (fun _ _ _ h => h) (Or.inl ⟨by rfl, ?_⟩) hS ?_; rotate_left; (· (intro y hy; (try dsimp only at hy); go_simp; try with_reducible rfl))) | refine takeC hc_ (v := undef) rfl (by kernel_rfl) (by kernel_rfl) (by kernel_rfl) (fun _ _ _ h => h) (Or.inr ⟨by rfl, rfl⟩) hS ?_); try simp only [Act.put, List.setIfInBounds_toArray, List.set_cons_zero, List.set_cons_succ, List.getElem_toArray, List.append, List.getElem_cons_zero, List.getElem_cons_succ]; replace hc_ := hc_.next; simp only [Nat.reduceAdd] at hc_)
        clear hc_
        refine wpAnyH_done (by kernel_rfl) ?_ _
        refine NoPanic.normal ?_
        go_wp2_with fail
        go_meet
        exact ⟨_, rfl, rfl, m3, kv3, hv3, hb3⟩
  case rest =>
    obtain ⟨m8, rfl, rfl, hm, hqq, hhr, hbr⟩ := hcut
    clear hx hbx kq M3
    have cse : wc.cell? ⟨H, 13, none⟩ = some (.int .i64 s.se) := hhr.blk.cell 13
    have fse := hhr.blk.free 13
    go_upto_region 8 with fail
    have hcs := (Chg.refl (· = H) wc).setCell (p := ⟨H, 13, none⟩) (.inl rfl) (.int .i64 (se1 : Int))
    have h5 : HeapIn (wc.setCell ⟨H, 13, none⟩ (.int .i64 (se1 : Int))) H P b v0 v1 v2 v3 { s with se := se1 } := hhr.cells hcs rfl (four rfl rfl rfl rfl) (hhr.blk.set 13 _)
    have k5 := hqq.chg hcs (ne_of_types hqq hhr.blk (by decide))
    have m5 := hm.chg hcs (ne_of_types hm hhr.blk (by decide))
    have hc5 : Chg (fun k => k = H ∨ k = b) w (wc.setCell ⟨H, 13, none⟩ (.int .i64 (se1 : Int))) := (Chg.of_below hbr (Nat.le_refl _)).trans (hcs.mono fun k e => .inl e)
    clear hcs cse fse hm hqq hbr
    go_upto_region 8 with fail
    generalize wc.setCell ⟨H, 13, none⟩ (.int .i64 (se1 : Int)) = x at *
    have hd : HeapIn x.drew H P b v0 v1 v2 v3 { s with se := se1 } := h5.on (Below.refl _ x).drew
    have kd : BlkIs x.drew q _ _ := k5
    have md : BlkIs x.drew m8 _ _ := m5
    have hcd := hc5.drew
    clear h5 k5 m5 hc5 hhr
    refine wp_region_noPanic ?_
    refine wp_region_held_drew (S := fun y => (y.cell? ⟨H, 0, none⟩ = some (.pointer (some ⟨P, 0, none⟩)) ∧ y.cell? ⟨H, 13, none⟩ = some (.int .i64 (se1 : Int))) ∧ (y.cell? ⟨q, 0, none⟩ = some (.int .i64 p) ∧ y.cell? ⟨q, 1, none⟩ = some (.int .i64 d) ∧ y.cell? ⟨q, 2, none⟩ = some (.bool wk) ∧ y.cell? ⟨q, 3, none⟩ = some (.bool fn))) (by kernel_rfl) ⟨⟨hd.blk.cell 0, hd.blk.cell 13⟩, kd.cell 0, kd.cell 1, kd.cell 2, kd.cell 3⟩ (fun hS => ?_)
    have hc_ : Cnt 0 := trivial
    iterate 10 ((first | (refine takeC hc_ (v := ?_) rfl (by kernel_rfl) (by kernel_rfl) (by kernel_rfl) (fun _ _ _ h => h) (Or.inl ⟨by rfl, ?_⟩) hS ?_; rotate_left; (· (intro y hy; (try dsimp only at hy); go_simp; try with_reducible rfl))) | refine takeC hc_ (v := undef) rfl (by kernel_rfl) (by kernel_rfl) (by kernel_rfl) (fun _ _ _ h => h) (Or.inr ⟨by rfl, rfl⟩) hS ?_); try simp only [Act.put, List.setIfInBounds_toArray, List.set_cons_zero, List.set_cons_succ, List.getElem_toArray, List.append, List.getElem_cons_zero, List.getElem_cons_succ]; replace hc_ := hc_.next; simp only [Nat.reduceAdd] at hc_)
    clear hc_
    refine wpAnyH_ready (rs := [10]) (by kernel_rfl) (by simp) ?_
    refine AllReadyH.cons (o := _) rfl (fun K hK => ?_) AllReadyH.nil
    go_simp
    refine (M4 _ hd.ar).mono ?_
    rintro e y ⟨rfl, hA, hc⟩
    have hy := hd.put hA hc
    have ky := kd.chg hc (ne_of_types kd hd.ar.row (by decide))
    have my := md.chg hc (ne_of_types md hd.ar.row (by decide))
    have hcy := hcd.trans (hc.mono fun k e => .inr e)
    refine hK.out _ _ (⟨⟨hy.blk.cell 0, hy.blk.cell 13⟩, ky.cell 0, ky.cell 1, ky.cell 2, ky.cell 3⟩) (fun hS => ?_)
    clear hK K
    try simp only [Act.put, List.setIfInBounds_toArray, List.set_cons_zero, List.set_cons_succ]
    refine wpAnyH_done (by kernel_rfl) ?_ _
    refine NoPanic.normal ?_
    clear hS hd kd md hcd hA hc M4
    obtain ⟨⟨d0, d1, d2⟩, -⟩ := blk3 my
    have ML := laid_any (K := Foot H P b v0 v1 v2 v3) hy (fun k h => h) g.u01 t2 s.tn g.ln
    have hnq := hy.not_foot ky (by decide) (by decide) (by decide) (by decide)
    go_wp2_with fail
    refine ML.mono ?_
    rintro e z ⟨rfl, K1, ⟨P1, b1, x0, x1, x2, x3, hz, hF1⟩, hK1, hcz⟩
    have kz := ky.chg hcz hnq
    have hfoot : ∀ k, K1 k → K k ∨ w.heap.size ≤ k := fun k hk => (hK1 k hk).imp (hF k) fun e => Nat.le_trans hcy.size e
    have hcw : Chg K w z := (hcy.mono fun k e => e.elim (fun e => hF k (.inl e)) fun e => hF k (.inr (.inr (.inl e)))).trans (hcz.mono hF)
    clear ML ky my hy hcy hcz hK1 d0 d1 d2 hnq
    obtain ⟨⟨e0, e1, e2, e3⟩, -⟩ := BlkIs.facts4 kz
    cases wk <;> cases fn
    · have es : s' = { s with l := madeL s.l s.tn p d false false se1, se := se1, tn := t2, pn := s.pn ++ [s.tn] } := by rw [← Hs.out, ← Ht.out, ← Hr.out, ← Hse.out]; rfl
      go_wp2
      go_ret2
      exact ⟨rfl, K1, es ▸ ⟨P1, b1, x0, x1, x2, x3, hz, hF1⟩, hfoot, hcw⟩
    · have es : s' = { s with l := madeL s.l s.tn p d false true se1, se := se1, tn := t2, pn := s.pn ++ [s.tn], fi := s.fi ++ [s.tn] } := by rw [← Hs.out, ← Ht.out, ← Hr.out, ← Hse.out]; rfl
      have ce : z.cell? ⟨H, 15, none⟩ = some x3 := hz.blk.cell 15
      have hzl := hz.blk.lt
      have hka := hz.blk.alloc (.cells #[.int .i64 s.tn] 3)
      have hcell := (BlkIs.new z #[.int .i64 s.tn] 3).cell 0
      have r2 : RowIs (z.alloc (.cells #[.int .i64 s.tn] 3)) x3 s.fi := hz.r3.chg ((Chg.refl (fun _ => False) z).alloc _) (fun _ _ h => h)
      have hne := hz.r3.ne hz.blk (by decide)
      have hca := (Chg.refl (fun k => k = H ∨ some k = x3.ownBlock) z).alloc (.cells #[.int .i64 s.tn] 3)
      go_wp2_with (at_builtin; refine wpList_push rfl _ _ rfl x3 s.fi rfl r2 (by omega) z.heap.size s.tn rfl hcell ?_; intro v' w' r3 hgr hat hsl; obtain ⟨av, c, rfl⟩ := hsl; have hk2 := hka.chg (Chg.of_grown (S := fun k => some k = x3.ownBlock) hgr fun _ e => e) (fun e => hne e.symm); have f14 := hk2.free 15; have g14 := hk2.cell 15)
      go_ret2
      refine ⟨rfl, es ▸ went_join hfoot hcw (went_row hz hF1 3 (by omega) rfl (u0 := x0) (u1 := x1) (u2 := x2) (u3 := .slice av (s.fi.length + 1) c) (four (fun _ => rfl) (fun _ => rfl) (fun _ => rfl) (fun h => absurd rfl h)) (four (fun _ => rfl) (fun _ => rfl) (fun _ => rfl) (fun h => absurd rfl h)) (hk2.set 15 _) ?_ ?_ ?_)⟩
      · exact (hca.step (T := fun k => some k = x3.ownBlock) (Chg.of_grown hgr fun _ e => e) fun k e => .inl (.inr e)).setCell (p := ⟨H, 15, none⟩) (.inl (.inl rfl)) _
      · exact r3.chg (S := (· = H)) ((Chg.refl (· = H) w').setCell (p := ⟨H, 15, none⟩) (.inl rfl) _) fun g e e' => by subst e'; exact r3.ne hk2 (by decide) e
      · exact hat.imp id fun e => ⟨_, e, by simp⟩
    · have es : s' = { s with l := madeL s.l s.tn p d true false se1, se := se1, tn := t2, pn := s.pn ++ [s.tn], wk := s.wk ++ [s.tn] } := by rw [← Hs.out, ← Ht.out, ← Hr.out, ← Hse.out]; rfl
      have ce : z.cell? ⟨H, 14, none⟩ = some x2 := hz.blk.cell 14
      have hzl := hz.blk.lt
      have hka := hz.blk.alloc (.cells #[.int .i64 s.tn] 3)
      have hcell := (BlkIs.new z #[.int .i64 s.tn] 3).cell 0
      have r2 : RowIs (z.alloc (.cells #[.int .i64 s.tn] 3)) x2 s.wk := hz.r2.chg ((Chg.refl (fun _ => False) z).alloc _) (fun _ _ h => h)
      have hne := hz.r2.ne hz.blk (by decide)
      have hneq := hz.r2.ne kz (by decide)
      have hqH : ¬ q = H := ne_of_types kz hz.blk (by decide)
      have hHq : ¬ H = q := fun e => hqH e.symm
      have hca := (Chg.refl (fun k => k = H ∨ some k = x2.ownBlock) z).alloc (.cells #[.int .i64 s.tn] 3)
      go_wp2_with (at_builtin; refine wpList_push rfl _ _ rfl x2 s.wk rfl r2 (by omega) z.heap.size s.tn rfl hcell ?_; intro v' w' r3 hgr hat hsl; obtain ⟨av, c, rfl⟩ := hsl; have hk2 := hka.chg (Chg.of_grown (S := fun k => some k = x2.ownBlock) hgr fun _ e => e) (fun e => hne e.symm); have f14 := hk2.free 14; have g14 := hk2.cell 14; have kq3 := (kz.alloc (.cells #[.int .i64 s.tn] 3)).chg (Chg.of_grown (S := fun k => some k = x2.ownBlock) hgr fun _ e => e) (fun e => hneq e.symm); have e3' : w'.cell? ⟨q, 3, none⟩ = some (.bool false) := kq3.cell 3; have e4' : (w'.setCell ⟨H, 14, none⟩ (.slice av (s.wk.length + 1) c)).cell? ⟨q, 3, none⟩ = some (.bool false) := (kq3.far (p := ⟨H, 14, none⟩) hqH _).cell 3)
      go_ret2
      refine ⟨rfl, es ▸ went_join hfoot hcw (went_row hz hF1 2 (by omega) rfl (u0 := x0) (u1 := x1) (u2 := .slice av (s.wk.length + 1) c) (u3 := x3) (four (fun _ => rfl) (fun _ => rfl) (fun h => absurd rfl h) (fun _ => rfl)) (four (fun _ => rfl) (fun _ => rfl) (fun h => absurd rfl h) (fun _ => rfl)) (hk2.set 14 _) ?_ ?_ ?_)⟩
      · exact (hca.step (T := fun k => some k = x2.ownBlock) (Chg.of_grown hgr fun _ e => e) fun k e => .inl (.inr e)).setCell (p := ⟨H, 14, none⟩) (.inl (.inl rfl)) _
      · exact r3.chg (S := (· = H)) ((Chg.refl (· = H) w').setCell (p := ⟨H, 14, none⟩) (.inl rfl) _) fun g e e' => by subst e'; exact r3.ne hk2 (by decide) e
      · exact hat.imp id fun e => ⟨_, e, by simp⟩
    · exact absurd o1 (by simp [shB])
end

end Go.Proofs.YtbjmeibcphmgbaaGreat

namespace Go.Proofs.YtbjmeibcphmgbaaGreat
open Go.ChangeShapes Go.WideShapes Go.ChangeAt Go.RowKit

set_option linter.unusedSimpArgs false
set_option linter.unusedVariables false

section
variable {w : World} {H P b : Nat} {v0 v1 v2 v3 : Value} {s : Hp} {K : Nat → Prop}
theorem scanH_still (h : HeapAt w K H s) (hm : s.mv = false) :
    Calls Tryz.prog 18 #[.pointer (some ⟨H, 0, none⟩)] w fun e w' => e = .returned (.bool false) ∧ Below w.heap.size w w' := by
  obtain ⟨P, b, v0, v1, v2, v3, h, hF⟩ := h
  have c10 : w.cell? ⟨H, 10, none⟩ = some (.bool false) := by rw [← hm]; exact h.blk.cell 10
  clear h hF
  go_enter Tryz.func18, Tryz.ntmps18
  go_wp2
  go_ret
  exact ⟨rfl, Below.refl _ _⟩
theorem scanH_end (h : HeapAt w K H s) (g : Sound s) (hm : s.mv = true) (he : s.sc = s.tn) :
    Calls Tryz.prog 18 #[.pointer (some ⟨H, 0, none⟩)] w fun e w' => e = .returned (.bool false) ∧ Below w.heap.size w w' := by
  obtain ⟨P, b, v0, v1, v2, v3, h, hF⟩ := h
  have c10 : w.cell? ⟨H, 10, none⟩ = some (.bool true) := by rw [← hm]; exact h.blk.cell 10
  have M := scanned_any h g
  rw [decide_eq_true he] at M
  clear h hF g
  go_enter Tryz.func18, Tryz.ntmps18
  go_wp2_with fail
  refine M.mono ?_
  rintro e x ⟨rfl, hb⟩
  go_wp2
  go_ret
  exact ⟨rfl, hb⟩

theorem Went.mono {K0 : Nat → Prop} {x : World} (h : Went w K0 H s x) (hK : ∀ k, K0 k → K k) : Went w K H s x := by
  obtain ⟨K1, h1, h2, h3⟩ := h
  exact ⟨K1, h1, fun k hk => (h2 k hk).imp (hK k) id, h3.mono hK⟩
/-- One of a row's numbers is set. -/
theorem own_set {base n k : Nat} {v : Value} {xs : List Int} (h : w.ownsRow base 3 1 v n (xs.map (Value.int .i64))) (hk : k < n) (q : Int) :
    ∃ g cap, v = .slice (some ⟨g, 0, none⟩) n cap ∧ base ≤ g ∧ g < w.heap.size ∧ w.frozen? ⟨g, k, none⟩ = false ∧ w.cell? ⟨g, k, none⟩ = some (.int .i64 (xs.getD k 0)) ∧ (w.setCell ⟨g, k, none⟩ (.int .i64 q)).ownsRow base 3 1 v n ((xs.set k q).map (Value.int .i64)) := by
  have hl : xs.length = n := by simpa using h.1
  obtain ⟨g', cap', e', _, hg', _, _, _, hcell⟩ := own_cell h (by omega)
  rcases h.2 with ⟨rfl, h0⟩ | ⟨g, cap, cur, rfl, hb, hh, hnc, hcm, hcs, htk⟩
  · omega
  · have hB : BlkIs w g cur 3 := hh
    simp at e'
    refine ⟨g, cap, rfl, hb, hB.lt, hB.free k, by rw [e'.1]; exact hcell k hk, by simp [hl], .inr ⟨g, cap, cur.setIfInBounds k (.int .i64 q), rfl, hb, hB.set k _, hnc, hcm, by simpa using hcs, ?_⟩⟩
    rw [Array.toList_setIfInBounds, List.take_set, htk, List.map_set]

theorem own_base {b0 b1 n : Nat} {e : TypeId} {v : Value} {xs : List Value} (h : w.ownsRow b1 e 1 v n xs) (hb : b0 ≤ b1) : w.ownsRow b0 e 1 v n xs :=
  ⟨h.1, h.2.imp id fun ⟨g, cap, cur, e, h1, r⟩ => ⟨g, cap, cur, e, by omega, r⟩⟩
theorem own_keep {x : World} {S : Nat → Prop} {base n : Nat} {e : TypeId} {v : Value} {xs : List Value} (h : w.ownsRow base e 1 v n xs) (hc : Chg S w x) (hs : ∀ g, v.ownBlock = some g → ¬ S g) : x.ownsRow base e 1 v n xs := by
  refine ⟨h.1, h.2.imp id ?_⟩
  rintro ⟨g, cap, cur, rfl, hb, hh, r⟩
  exact ⟨g, cap, cur, rfl, hb, (hc.block g (Array.getElem?_eq_some_iff.1 hh).1 (hs g rfl)).trans hh, r⟩
theorem take_next {ps : List Nat} {k : Nat} (h : k < ps.length) : ps.take (k + 1) = ps.take k ++ [ps.getD k 0] := by
  rw [List.take_succ_eq_append_getElem h]
  simp [List.getD, h]
/-- The list of a round of 'for i, p := range l { l[i] = h.Moved(p) }'. -/
theorem movVL_set (s : Hp) {ps : List Nat} {k : Nat} (h : k < ps.length) (q : Nat) (hq : q = (s.movedL (ps.take k)).movV (ps.getD k 0)) :
    (nums (s.movVL (ps.take k) ++ ps.drop k)).set k (q : Int) = nums (s.movVL (ps.take (k + 1)) ++ ps.drop (k + 1)) ∧ (nums (s.movVL (ps.take k) ++ ps.drop k)).getD k 0 = ((ps.getD k 0 : Nat) : Int) := by
  have hl : (s.movVL (ps.take k)).length = k := by rw [movVL_length, List.length_take]; omega
  constructor
  · rw [take_next h, movVL_snoc, ← hq]
    unfold nums
    rw [← List.map_set]
    congr 1
    rw [List.set_append_right _ _ (by omega), hl, Nat.sub_self, List.append_assoc]
    congr 1
    rw [List.drop_eq_getElem_cons h]
    rfl
  · rw [nums_getD (by rw [List.length_append, hl, List.length_drop]; omega)]
    congr 1
    rw [List.getD_eq_getElem?_getD, List.getElem?_append_right (by omega), hl, Nat.sub_self, List.getElem?_drop, Nat.add_zero, List.getD_eq_getElem?_getD]

set_option maxRecDepth 100000 in
set_option maxHeartbeats 4000000 in
theorem scanH_yes (hw : HeapAt w K H s) (g : Ok s) (hm : s.mv = true) (hin : s.sc ∈ s.pn) :
    Calls Tryz.prog 18 #[.pointer (some ⟨H, 0, none⟩)] w fun e w' => e = .returned (.bool true) ∧ Went w K H s.scan w' := by
  have hK0 : ∀ k, (fun k => K k ∧ k < w.heap.size) k → K k := fun k h => h.1
  replace hw := hw.tight
  refine Calls.mono (R := fun e w' => e = .returned (.bool true) ∧ Went w (fun k => K k ∧ k < w.heap.size) H s.scan w') ?_ fun e w' ⟨h1, h2⟩ => ⟨h1, h2.mono hK0⟩
  have hKw : ∀ k, (fun k => K k ∧ k < w.heap.size) k → k < w.heap.size := fun k h => h.2
  generalize (fun k => K k ∧ k < w.heap.size) = K0 at *
  clear hK0
  obtain ⟨P, b, v0, v1, v2, v3, h, hF⟩ := hw
  have c10 : w.cell? ⟨H, 10, none⟩ = some (.bool true) := by rw [← hm]; exact h.blk.cell 10
  have M1 := scanned_any h g.sound
  have hne : s.sc ≠ s.tn := by have := (g.pn_lt hin).2.1; omega
  rw [decide_eq_false hne] at M1
  have ob := (g.inn _ hin).2.1
  have hnA := ob.nA_le
  have hps := g.stP_in (x := s.sc) (.inl hin)
  have hnm := g.stP_nums (x := s.sc) (.inl hin)
  have M2 := fun x (hx : ArenaAt 146 x P b s.l) => strong_at s.sc x hx ob.of fun i hi => by
    rcases g.ptr _ (.inl hin) i hi with e | ⟨y, e, hy⟩
    · rw [e]; omega
    · rw [e]
      have := hy.elim (fun e => (g.pn_lt e).2.2) fun e => (g.pk_lt e).2
      have := g.len; have := g.z1
      omega
  obtain ⟨n, hn⟩ : ∃ n, nSt s.l s.sc = n := ⟨_, rfl⟩
  have hns : (if hw (hdW s.l s.sc) then 0 else hp (hdW s.l s.sc)) = n := hn
  rw [hn] at hnm
  rw [hns] at M2
  obtain ⟨ps, hpse⟩ : ∃ ps, stP s.l s.sc = ps := ⟨_, rfl⟩
  have hpl : ps.length = n := by rw [← hpse, stP_length, hn]
  have Hsc : Hid (s.scan = { s.movedL ps with l := setP (s.movedL ps).l s.sc (s.movVL ps), sc := s.sc + szA s.l s.sc }) := Lib.hid (by rw [← hpse]; rfl)
  rw [hpse] at hps hnm
  rw [← hnm] at M2
  obtain ⟨s', hs'⟩ : ∃ s', s.scan = s' := ⟨_, rfl⟩
  rw [hs'] at Hsc ⊢
  clear hs' hn hpse hnm
  have hn8 : n ≤ 8 := by rw [← hns]; split <;> omega
  have Hns := Lib.hid hns
  clear hns
  go_enter Tryz.func18, Tryz.ntmps18
  go_wp2_with fail
  refine M1.mono ?_
  rintro e x ⟨rfl, hb⟩
  have hx := h.on hb
  have hcx := Chg.of_below (S := K0) hb (Nat.le_refl _)
  have hcx0 : w.heap.size ≤ x.drew.heap.size := hb.size
  clear h c10 M1
  go_upto_region 3 with fail
  have hd : HeapIn x.drew H P b v0 v1 v2 v3 s := hx.on (Below.refl _ x).drew
  have hcd := hcx.drew
  clear hx hcx hb
  refine wp_region_noPanic ?_
  refine wp_region_held_drew (S := fun y => y.cell? ⟨H, 0, none⟩ = some (.pointer (some ⟨P, 0, none⟩)) ∧ y.cell? ⟨H, 12, none⟩ = some (.int .i64 s.sc)) (by kernel_rfl) ⟨hd.blk.cell 0, hd.blk.cell 12⟩ (fun hS => ?_)
  have hc_ : Cnt 0 := trivial
  iterate 8 ((first | (refine takeC hc_ (v := ?_) rfl (by kernel_rfl) (by kernel_rfl) (by kernel_rfl) (fun _ _ _ h => h) (Or.inl ⟨by rfl, ?_⟩) hS ?_; rotate_left; (· (intro y hy; (try dsimp only at hy); go_simp; try with_reducible rfl))) | refine takeC hc_ (v := undef) rfl (by kernel_rfl) (by kernel_rfl) (by kernel_rfl) (fun _ _ _ h => h) (Or.inr ⟨by rfl, rfl⟩) hS ?_); try simp only [Act.put, List.setIfInBounds_toArray, List.set_cons_zero, List.set_cons_succ, List.getElem_toArray, List.append, List.getElem_cons_zero, List.getElem_cons_succ]; replace hc_ := hc_.next; simp only [Nat.reduceAdd] at hc_)
  clear hc_
  refine wpAnyH_ready (rs := [8]) (by kernel_rfl) (by simp) ?_
  refine AllReadyH.cons (o := _) rfl (fun K hK => ?_) AllReadyH.nil
  go_simp
  refine (M2 _ hd.ar).mono ?_
  rintro e y ⟨sv, rfl, hown, hb⟩
  have hy := hd.on hb
  have hcy := hcd.trans (Chg.of_below hb (Nat.le_refl _))
  refine hK.out _ _ (⟨hy.blk.cell 0, hy.blk.cell 12⟩) (fun hS => ?_)
  clear hK K
  try simp only [Act.put, List.setIfInBounds_toArray, List.set_cons_zero, List.set_cons_succ]
  have hc_ : Cnt 9 := trivial
  iterate 5 ((first | (refine takeC hc_ (v := ?_) rfl (by kernel_rfl) (by kernel_rfl) (by kernel_rfl) (fun _ _ _ h => h) (Or.inl ⟨by rfl, ?_⟩) hS ?_; rotate_left; (· (intro y hy; (try dsimp only at hy); go_simp; try with_reducible rfl))) | refine takeC hc_ (v := undef) rfl (by kernel_rfl) (by kernel_rfl) (by kernel_rfl) (fun _ _ _ h => h) (Or.inr ⟨by rfl, rfl⟩) hS ?_); try simp only [Act.put, List.setIfInBounds_toArray, List.set_cons_zero, List.set_cons_succ, List.getElem_toArray, List.append, List.getElem_cons_zero, List.getElem_cons_succ]; replace hc_ := hc_.next; simp only [Nat.reduceAdd] at hc_)
  clear hc_
  refine wpAnyH_done (by kernel_rfl) ?_ _
  refine NoPanic.normal ?_
  clear hS hd hcd M2 hb
  have hxw : w.heap.size ≤ x.drew.heap.size := hcx0
  replace hown := own_base hown hxw
  have hsf : ∀ g, sv.ownBlock = some g → ¬ K0 g := fun g e hk => by
    have := (World.ownsRow.lt hown g e).1
    have := hKw g hk
    omega
  have hy0 : HeapAt y K0 H s := ⟨P, b, v0, v1, v2, v3, hy, hF⟩
  clear hxw hcx0 hy hF
  have HPS := Lib.hid hps
  clear hps
  go_upto_region 4 with fail
  obtain ⟨sa, sc', hsv⟩ := own_slice hown
  go_wp2
  go_loopw [35] (fun i wr => ∃ k : Nat, k ≤ n ∧ i = .int .i64 k ∧ ∃ Kr, HeapAt wr Kr H (s.movedL (ps.take k)) ∧ Hid (∀ k, Kr k → K0 k ∨ w.heap.size ≤ k) ∧ Chg K0 w wr ∧ wr.ownsRow w.heap.size 3 1 sv n ((nums (s.movVL (ps.take k) ++ ps.drop k)).map (Value.int .i64)) ∧ Hid (∀ g, sv.ownBlock = some g → ¬ Kr g)) (fun i _ => n - (intOf i).toNat)
  case atStart => exact ⟨0, by omega, rfl, K0, hy0, Lib.hid fun k h => .inl h, hcy, hown, Lib.hid hsf⟩
  case round =>
    clear hsv
    obtain ⟨k, hk, rfl, Kr, hwr, hKr, hcr, hor, hsr⟩ := hrel
    by_cases hlt : k < n
    · obtain ⟨q, hq⟩ : ∃ q, (s.movedL (ps.take k)).movV (ps.getD k 0) = q := ⟨_, rfl⟩
      obtain ⟨l1, l2⟩ := movVL_set s (ps := ps) (k := k) (by omega) q hq.symm
      have M := movedH (g.movedL (ps.take k)) hwr (inOk_movedL (ps.take k) (HPS.out (ps.getD k 0) (by
        rw [List.getD_eq_getElem?_getD, List.getElem?_eq_getElem (by omega)]
        exact List.getElem_mem _)))
      rw [← movedL_snoc, ← take_next (by omega), hq] at M
      clear hq
      obtain ⟨ls, hls⟩ : ∃ ls, nums (s.movVL (ps.take k) ++ ps.drop k) = ls := ⟨_, rfl⟩
      rw [hls] at hor l1 l2
      clear hls
      have L1 := Lib.hid l1
      clear l1
      obtain ⟨gb, cap, e, hg1, hg2, hcp, _, _, hcell⟩ := own_cell hor (by omega)
      have Hor := Lib.hid hor
      clear hor
      have c0 := hcell k hlt
      rw [l2] at c0
      clear l2 hcell
      have hgK : ¬ Kr gb := hsr.out gb (by rw [e]; rfl)
      subst e
      generalize ps.getD k 0 = pp at *
      have b0 : (0 : Int) ≤ (k : Int) := by omega
      have b1 : (k : Int) < (n : Int) := by omega
      go_wp2_with fail
      refine M.mono ?_
      rintro e w2 ⟨rfl, K2, hw2, hK2, hc2⟩
      have ho2 := own_keep Hor.out hc2 (fun g e => by
        have : gb = g := by simpa [Value.ownBlock] using e
        subst this; exact hgK)
      obtain ⟨gb', cap', e', h1, h2, f0, d0, ho3⟩ := own_set ho2 hlt (q : Int)
      obtain ⟨rfl, rfl⟩ : gb = gb' ∧ cap = cap' := by simp at e'; exact e'
      have hgK2 : ¬ K2 gb := fun h => (hK2 gb h).elim hgK fun h' => Nat.not_lt.2 h' hg2
      have hw3 := hw2.chg ((Chg.refl (· = gb) w2).setCell (p := ⟨gb, k, none⟩) (.inl rfl) (.int .i64 q)) fun k hk _ e => by subst e; exact hgK2 hk
      have hc3 := (hcr.step hc2 fun k hk => hKr.out k hk).setCell (p := ⟨gb, k, none⟩) (.inr hg1) (.int .i64 q)
      have hK3 : ∀ k, K2 k → K0 k ∨ w.heap.size ≤ k := fun k hk => (hK2 k hk).elim (hKr.out k) fun e => .inr (Nat.le_trans hcr.size e)
      rw [L1.out] at ho3
      have Ho3 := Lib.hid ho3
      clear ho3 ho2 e' hw2 hc2 hK2 M
      go_wp2
      go_roundw
      case rel => exact ⟨k + 1, by omega, by go_num, K2, hw3, Lib.hid hK3, hc3, Ho3.out, Lib.hid fun g e => by
        have : gb = g := by simpa [Value.ownBlock] using e
        subst this; exact hgK2⟩
      case measure => simp [intOf]; omega
    · obtain rfl : k = n := by omega
      rw [List.take_of_length_le (by omega)] at hwr hor
      rw [List.drop_of_length_le (by omega), List.append_nil] at hor
      obtain ⟨P', b', x0, x1, x2, x3, h1, hF1⟩ := hwr
      have hhd := g.movedL_head ps hin
      have g1 := g.movedL ps
      have hsc1 : (s.movedL ps).sc = s.sc := (movedL_same s ps).2.2.2.2.1
      have hvl : (s.movVL ps).length = k := by rw [movVL_length, hpl]
      have hvb : ∀ v ∈ s.movVL ps, v ≤ 131072 := fun v hv => g1.pn_le (g.movVL_in ps HPS.out v hv)
      have ob1 : isOb (s.movedL ps).l s.sc := (isOb_congr (by rw [g1.len, g.len, (movedL_same s ps).2.2.2.1]) hhd).2 ob
      have e1 : hdW (s.movedL ps).l s.sc = hdW s.l s.sc := hdW_congr hhd
      have o1 := ob1.of
      rw [e1] at o1
      have hlen1 : (setP (s.movedL ps).l s.sc (s.movVL ps)).length = (s.movedL ps).l.length := setP_length ..
      have o2 := o1.same (l' := setP (s.movedL ps).l s.sc (s.movVL ps)) hlen1 (by rw [setP_at (by have := o1.room; omega), if_neg (by omega)])
      have e2 : szA s.l s.sc = Cls.rd (3 + hp (hdW s.l s.sc) + hd (hdW s.l s.sc)) := rfl
      have er : nums (s.movVL ps) = nums (s.movVL ps) := rfl
      have hrow : RowIs wr sv (s.movVL ps) := by rw [RowIs, hvl]; exact own_base hor (Nat.zero_le _)
      have M9 := fun x hA hv => setStrong_at s.sc sv (s.movVL ps) x (P := P') (b := b') hA o1 (by rw [hvl]; exact Hns.out.symm) hv (hrow.ne h1.ar.row (by decide)) hvb
      have hrd := hrow.reads
      have hscl : s.sc ≤ 65536 := by have := g.pn_lt hin; have := g.len; have := g.z1; omega
      obtain ⟨s1, hs1⟩ : ∃ s1, s.movedL ps = s1 := ⟨_, rfl⟩
      obtain ⟨vs, hvs⟩ : ∃ vs, s.movVL ps = vs := ⟨_, rfl⟩
      rw [hs1] at h1 hsc1 o1 M9 hlen1 o2
      rw [hvs] at M9 o2 hrd hlen1
      have Hs1 := Lib.hid hs1
      have Hvs := Lib.hid hvs
      obtain ⟨l2, hl2⟩ : ∃ l2, setP s1.l s.sc vs = l2 := ⟨_, rfl⟩
      rw [hl2] at M9 o2 hlen1
      have Hl2 := Lib.hid hl2
      obtain ⟨sz, hsz⟩ : ∃ sz, szA s.l s.sc = sz := ⟨_, rfl⟩
      have Hsz := Lib.hid hsz
      rw [hsz] at e2 hnA
      obtain ⟨tp, htp⟩ : ∃ tp, hp (hdW s.l s.sc) = tp := ⟨_, rfl⟩
      obtain ⟨td, htd⟩ : ∃ td, hd (hdW s.l s.sc) = td := ⟨_, rfl⟩
      obtain ⟨tw, htw⟩ : ∃ tw, hw (hdW s.l s.sc) = tw := ⟨_, rfl⟩
      obtain ⟨tf, htf⟩ : ∃ tf, hf (hdW s.l s.sc) = tf := ⟨_, rfl⟩
      obtain ⟨tr, htr⟩ : ∃ tr, hr (hdW s.l s.sc) = tr := ⟨_, rfl⟩
      rw [htp, htd, htw, htf, htr] at o2
      rw [htp, htd] at e2
      have MT := taken_ok tp td tw tf o2.right o2.ptrs o2.data
      rw [← e2] at MT
      have M10 := fun x (hx : ArenaAt 146 x P' b' l2) => shape_at s.sc x hx o2
      have i12 : IntKind.i64.wrap ((s.sc : Int) + (sz : Int)) = ((s.sc + sz : Nat) : Int) := by rw [IntWalk.i64_in _ (by omega)]; omega
      obtain ⟨nsc, hnsc⟩ : ∃ nsc, s.sc + sz = nsc := ⟨_, rfl⟩
      rw [hnsc] at i12
      have Hnsc := Lib.hid hnsc
      clear hs1 hvs hl2 hsz htp htd htw htf htr e1 er hnsc o1 ob1 hhd hvl hvb e2 hlen1 hor hsr
      go_upto_region 9 with fail
      have hd : HeapIn wr.drew H P' b' x0 x1 x2 x3 s1 := h1.on (Below.refl _ wr).drew
      have hcd := hcr.drew
      have hrdd : ReadsAs .i64 wr.drew sv (nums vs) := hrd.drew
      have d12 : wr.drew.cell? ⟨H, 12, none⟩ = some (.int .i64 s.sc) := by rw [← hsc1]; exact hd.blk.cell 12
      clear h1 hcr hrd
      refine wp_region_noPanic ?_
      refine wp_region_held_drew (S := fun y => y.cell? ⟨H, 0, none⟩ = some (.pointer (some ⟨P', 0, none⟩)) ∧ y.cell? ⟨H, 12, none⟩ = some (.int .i64 s.sc)) (by kernel_rfl) ⟨hd.blk.cell 0, d12⟩ (fun hS => ?_)
      have hc_ : Cnt 0 := trivial
      iterate 9 ((first | (refine takeC hc_ (v := ?_) rfl (by kernel_rfl) (by kernel_rfl) (by kernel_rfl) (fun _ _ _ h => h) (Or.inl ⟨by rfl, ?_⟩) hS ?_; rotate_left; (· (intro y hy; (try dsimp only at hy); go_simp; try with_reducible rfl))) | refine takeC hc_ (v := undef) rfl (by kernel_rfl) (by kernel_rfl) (by kernel_rfl) (fun _ _ _ h => h) (Or.inr ⟨by rfl, rfl⟩) hS ?_); try simp only [Act.put, List.setIfInBounds_toArray, List.set_cons_zero, List.set_cons_succ, List.getElem_toArray, List.append, List.getElem_cons_zero, List.getElem_cons_succ]; replace hc_ := hc_.next; simp only [Nat.reduceAdd] at hc_)
      clear hc_
      refine wpAnyH_ready (rs := [9]) (by kernel_rfl) (by simp) ?_
      refine AllReadyH.cons (o := _) rfl (fun K hK => ?_) AllReadyH.nil
      go_simp
      refine (M9 _ hd.ar hrdd).mono ?_
      rintro e y9 ⟨rfl, hA, hc⟩
      have h9 := hd.put hA hc
      have hc9 := hcd.step (hc.mono (T := fun k => K0 k ∨ w.heap.size ≤ k) fun k e => by subst e; exact hKr.out _ (hF1 _ (.inr (.inr (.inl rfl))))) fun k e => e
      have d12' : y9.cell? ⟨H, 12, none⟩ = some (.int .i64 s.sc) := by rw [← hsc1]; exact h9.blk.cell 12
      refine hK.out _ _ (⟨h9.blk.cell 0, d12'⟩) (fun hS => ?_)
      clear hK K
      try simp only [Act.put, List.setIfInBounds_toArray, List.set_cons_zero, List.set_cons_succ]
      refine wpAnyH_done (by kernel_rfl) ?_ _
      refine NoPanic.normal ?_
      clear hS hd hcd M9 hA hc d12 hrdd
      go_upto_region 10 with fail
      have hsc9 : ({ s1 with l := l2 } : Hp).sc = s.sc := hsc1
      obtain ⟨s2, hs2⟩ : ∃ s2, ({ s1 with l := l2 } : Hp) = s2 := ⟨_, rfl⟩
      have hl2' : s2.l = l2 := by rw [← hs2]
      have hrows : ∀ nn, ({ s2 with sc := nn } : Hp) = { s1 with l := l2, sc := nn } := fun nn => by rw [← hs2]
      rw [hs2] at h9 hsc9
      clear hs2
      rw [← hl2'] at M10
      go_cut [7, 8, 9] from 57 to 83 (fun s7 s8 s9 wx => ∃ m : Nat, s7 = .pointer (some ⟨m, 0, none⟩) ∧ BlkIs wx m #[.int .i64 tp, .int .i64 td, .bool tw, .bool tf] 45 ∧ HeapIn wx H P' b' x0 x1 x2 x3 s2 ∧ Chg (fun k => K0 k ∨ w.heap.size ≤ k) w wx)
      case first =>
        refine wp_region_noPanic ?_
        have hd : HeapIn y9.drew H P' b' x0 x1 x2 x3 s2 := h9.on (Below.refl _ y9).drew
        have hcd := (hc9.mono (T := fun k => K0 k ∨ w.heap.size ≤ k) fun k e => .inl e).drew
        have hSof : ∀ y, HeapIn y H P' b' x0 x1 x2 x3 s2 → y.cell? ⟨H, 0, none⟩ = some (.pointer (some ⟨P', 0, none⟩)) ∧ y.cell? ⟨H, 12, none⟩ = some (.int .i64 s.sc) := fun y hy => ⟨hy.blk.cell 0, by rw [← hsc9]; exact hy.blk.cell 12⟩
        have HSof := Lib.hid hSof
        clear hSof
        refine wp_region_held_drew (S := fun y => y.cell? ⟨H, 0, none⟩ = some (.pointer (some ⟨P', 0, none⟩)) ∧ y.cell? ⟨H, 12, none⟩ = some (.int .i64 s.sc)) (by kernel_rfl) (HSof.out _ hd) (fun hS => ?_)
        have hc_ : Cnt 0 := trivial
        iterate 8 ((first | (refine takeC hc_ (v := ?_) rfl (by kernel_rfl) (by kernel_rfl) (by kernel_rfl) (fun _ _ _ h => h) (Or.inl ⟨by rfl, ?_⟩) hS ?_; rotate_left; (· (intro y hy; (try dsimp only at hy); go_simp; try with_reducible rfl))) | refine takeC hc_ (v := undef) rfl (by kernel_rfl) (by kernel_rfl) (by kernel_rfl) (fun _ _ _ h => h) (Or.inr ⟨by rfl, rfl⟩) hS ?_); try simp only [Act.put, List.setIfInBounds_toArray, List.set_cons_zero, List.set_cons_succ, List.getElem_toArray, List.append, List.getElem_cons_zero, List.getElem_cons_succ]; replace hc_ := hc_.next; simp only [Nat.reduceAdd] at hc_)
        clear hc_
        refine wpAnyH_ready (rs := [8, 13]) (by kernel_rfl) (by simp) ?_
        refine AllReadyH.cons (o := _) rfl (fun K hK => ?_) (AllReadyH.cons (o := _) rfl (fun K hK => ?_) AllReadyH.nil)
        · go_simp
          refine (M10 _ hd.ar).mono ?_
          rintro e v ⟨rfl, hb⟩
          have hv := hd.on hb
          have hcv := hcd.trans (Chg.of_below (S := fun k => K0 k ∨ w.heap.size ≤ k) hb (Nat.le_refl _))
          refine hK.out _ _ (HSof.out _ hv) (fun hS => ?_)
          clear hK K
          try simp only [Act.put, List.setIfInBounds_toArray, List.set_cons_zero, List.set_cons_succ]
          have hc_ : Cnt 9 := trivial
          iterate 4 ((first | (refine takeC hc_ (v := ?_) rfl (by kernel_rfl) (by kernel_rfl) (by kernel_rfl) (fun _ _ _ h => h) (Or.inl ⟨by rfl, ?_⟩) hS ?_; rotate_left; (· (intro y hy; (try dsimp only at hy); go_simp; try with_reducible rfl))) | refine takeC hc_ (v := undef) rfl (by kernel_rfl) (by kernel_rfl) (by kernel_rfl) (fun _ _ _ h => h) (Or.inr ⟨by rfl, rfl⟩) hS ?_); try simp only [Act.put, List.setIfInBounds_toArray, List.set_cons_zero, List.set_cons_succ, List.getElem_toArray, List.append, List.getElem_cons_zero, List.getElem_cons_succ]; replace hc_ := hc_.next; simp only [Nat.reduceAdd] at hc_)
          clear hc_
          refine wpAnyH_ready (rs := [13]) (by kernel_rfl) (by simp) ?_
          refine AllReadyH.cons (o := _) rfl (fun K hK => ?_) AllReadyH.nil
          go_simp
          have hb2 := (Below.refl _ v).alloc (Nat.le_refl _) (.cells #[.int .i64 0, .int .i64 0, .bool false, .bool false] 45)
          refine hK.out _ _ (HSof.out _ (hv.on hb2)) (fun hS => ?_)
          clear hK K
          try simp only [Act.put, List.setIfInBounds_toArray, List.set_cons_zero, List.set_cons_succ]
          refine wpAnyH_ready (rs := [14]) (by kernel_rfl) (by simp) ?_
          refine AllReadyH.cons (o := _) rfl (fun K hK => ?_) AllReadyH.nil
          go_simp
          have hb3 := (Below.refl _ v).alloc (Nat.le_refl _) (.cells #[.int .i64 tp, .int .i64 td, .bool tw, .bool tf] 45)
          refine hK.out _ _ (HSof.out _ (hv.on hb3)) (fun hS => ?_)
          clear hK K
          try simp only [Act.put, List.setIfInBounds_toArray, List.set_cons_zero, List.set_cons_succ]
          have hc_ : Cnt 15 := trivial
          iterate 2 ((first | (refine takeC hc_ (v := ?_) rfl (by kernel_rfl) (by kernel_rfl) (by kernel_rfl) (fun _ _ _ h => h) (Or.inl ⟨by rfl, ?_⟩) hS ?_; rotate_left; (· (intro y hy; (try dsimp only at hy); go_simp; try with_reducible rfl))) | refine takeC hc_ (v := undef) rfl (by kernel_rfl) (by kernel_rfl) (by kernel_rfl) (fun _ _ _ h => h) (Or.inr ⟨by rfl, rfl⟩) hS ?_); try simp only [Act.put, List.setIfInBounds_toArray, List.set_cons_zero, List.set_cons_succ, List.getElem_toArray, List.append, List.getElem_cons_zero, List.getElem_cons_succ]; replace hc_ := hc_.next; simp only [Nat.reduceAdd] at hc_)
          clear hc_
          refine wpAnyH_done (by kernel_rfl) ?_ _
          refine NoPanic.normal ?_
          go_wp2_with fail
          go_meet
          exact ⟨_, rfl, BlkIs.new v _ _, hv.on hb3, hcv.trans (Chg.of_below (S := fun k => K0 k ∨ w.heap.size ≤ k) hb3 (Nat.le_refl _))⟩
        · go_simp
          have hb1 := (Below.refl _ y9.drew).alloc (Nat.le_refl _) (.cells #[.int .i64 0, .int .i64 0, .bool false, .bool false] 45)
          have h1 := hd.on hb1
          have m1 : BlkIs _ y9.heap.size _ _ := BlkIs.new y9.drew #[.int .i64 0, .int .i64 0, .bool false, .bool false] 45
          have hc1 := hcd.trans (Chg.of_below (S := fun k => K0 k ∨ w.heap.size ≤ k) hb1 (Nat.le_refl _))
          have hwy : w.heap.size ≤ y9.heap.size := hcd.size
          have hnf := h1.not_foot m1 (by decide) (by decide) (by decide) (by decide)
          refine hK.out _ _ (HSof.out _ h1) (fun hS => ?_)
          clear hK K
          try simp only [Act.put, List.setIfInBounds_toArray, List.set_cons_zero, List.set_cons_succ]
          refine wpAnyH_ready (rs := [8]) (by kernel_rfl) (by simp) ?_
          refine AllReadyH.cons (o := _) rfl (fun K hK => ?_) AllReadyH.nil
          go_simp
          refine (M10 _ h1.ar).mono ?_
          rintro e v ⟨rfl, hb⟩
          have hv := h1.on hb
          have mv := m1.more hb (Nat.le_refl _)
          have hcv := hc1.trans (Chg.of_below (S := fun k => K0 k ∨ w.heap.size ≤ k) hb (Nat.le_refl _))
          refine hK.out _ _ (HSof.out _ hv) (fun hS => ?_)
          clear hK K
          try simp only [Act.put, List.setIfInBounds_toArray, List.set_cons_zero, List.set_cons_succ]
          have hc_ : Cnt 9 := trivial
          iterate 4 ((first | (refine takeC hc_ (v := ?_) rfl (by kernel_rfl) (by kernel_rfl) (by kernel_rfl) (fun _ _ _ h => h) (Or.inl ⟨by rfl, ?_⟩) hS ?_; rotate_left; (· (intro y hy; (try dsimp only at hy); go_simp; try with_reducible rfl))) | refine takeC hc_ (v := undef) rfl (by kernel_rfl) (by kernel_rfl) (by kernel_rfl) (fun _ _ _ h => h) (Or.inr ⟨by rfl, rfl⟩) hS ?_); try simp only [Act.put, List.setIfInBounds_toArray, List.set_cons_zero, List.set_cons_succ, List.getElem_toArray, List.append, List.getElem_cons_zero, List.getElem_cons_succ]; replace hc_ := hc_.next; simp only [Nat.reduceAdd] at hc_)
          clear hc_
          obtain ⟨⟨d0, d1, d2, d3⟩, g0, g1', g2, g3, _⟩ := BlkIs.facts4 mv
          refine wpAnyH_ready (rs := [14]) (by kernel_rfl) (by simp) ?_
          refine AllReadyH.cons (o := _) rfl (fun K hK => ?_) AllReadyH.nil
          go_simp
          have hcs : Chg (· = y9.heap.size) v _ := ((((Chg.refl (· = y9.heap.size) v).setCell (p := ⟨y9.heap.size, 0, none⟩) (.inl rfl) (.int .i64 tp)).setCell (p := ⟨y9.heap.size, 1, none⟩) (.inl rfl) (.int .i64 td)).setCell (p := ⟨y9.heap.size, 2, none⟩) (.inl rfl) (.bool tw)).setCell (p := ⟨y9.heap.size, 3, none⟩) (.inl rfl) (.bool tf)
          have hv3 := hv.chg hcs fun k hk e => hnf (by subst e; exact hk)
          have m3 : BlkIs _ y9.heap.size #[.int .i64 tp, .int .i64 td, .bool tw, .bool tf] _ := (((mv.set 0 (.int .i64 tp)).set 1 (.int .i64 td)).set 2 (.bool tw)).set 3 (.bool tf)
          have hc3 := hcv.trans (hcs.mono (T := fun k => K0 k ∨ w.heap.size ≤ k) fun k e => .inr (by omega))
          refine hK.out _ _ (HSof.out _ hv3) (fun hS => ?_)
          clear hK K
          try simp only [Act.put, List.setIfInBounds_toArray, List.set_cons_zero, List.set_cons_succ]
          have hc_ : Cnt 15 := trivial
          iterate 2 ((first | (refine takeC hc_ (v := ?_) rfl (by kernel_rfl) (by kernel_rfl) (by kernel_rfl) (fun _ _ _ h => h) (Or.inl ⟨by rfl, ?_⟩) hS ?_; rotate_left; (· (intro y hy; (try dsimp only at hy); go_simp; try with_reducible rfl))) | refine takeC hc_ (v := undef) rfl (by kernel_rfl) (by kernel_rfl) (by kernel_rfl) (fun _ _ _ h => h) (Or.inr ⟨by rfl, rfl⟩) hS ?_); try simp only [Act.put, List.setIfInBounds_toArray, List.set_cons_zero, List.set_cons_succ, List.getElem_toArray, List.append, List.getElem_cons_zero, List.getElem_cons_succ]; replace hc_ := hc_.next; simp only [Nat.reduceAdd] at hc_)
          clear hc_
          refine wpAnyH_done (by kernel_rfl) ?_ _
          refine NoPanic.normal ?_
          go_wp2_with fail
          go_meet
          exact ⟨_, rfl, m3, hv3, hc3⟩
      case rest =>
        obtain ⟨m, rfl, hm3, h10, hc10⟩ := hcut
        clear h9 hc9 M10
        obtain ⟨⟨d0, d1, d2, d3⟩, _⟩ := BlkIs.facts4 hm3
        have c12 : wc.cell? ⟨H, 12, none⟩ = some (.int .i64 s.sc) := by rw [← hsc9]; exact h10.blk.cell 12
        go_wp2_with fail
        refine (MT _).mono ?_
        rintro e z ⟨rfl, hb⟩
        have h11 := h10.on hb
        have hc11 := hc10.trans (Chg.of_below (S := fun k => K0 k ∨ w.heap.size ≤ k) hb (Nat.le_refl _))
        clear h10 hc10 hb MT c12 d0 d1 d2 d3
        have c12 : z.cell? ⟨H, 12, none⟩ = some (.int .i64 s.sc) := by rw [← hsc9]; exact h11.blk.cell 12
        have f12 := h11.blk.free 12
        go_wp2
        go_ret
        have hcs := (Chg.refl (· = H) z).setCell (p := ⟨H, 12, none⟩) (.inl rfl) (.int .i64 nsc)
        have hfin : HeapIn (z.setCell ⟨H, 12, none⟩ (.int .i64 nsc)) H P' b' x0 x1 x2 x3 { s2 with sc := nsc } := h11.cells hcs rfl (four rfl rfl rfl rfl) (h11.blk.set 12 _)
        rw [hrows nsc] at hfin
        have es : s' = { s1 with l := l2, sc := nsc } := by rw [Hsc.out, ← Hnsc.out, ← Hsz.out, ← Hl2.out, ← Hvs.out, ← Hs1.out]
        rw [es]
        refine ⟨rfl, Kr, ⟨P', b', x0, x1, x2, x3, hfin, hF1⟩, hKr.out, ?_⟩
        have hcf : Chg (fun k => K0 k ∨ w.heap.size ≤ k) w (z.setCell ⟨H, 12, none⟩ (.int .i64 nsc)) := hc11.trans (hcs.mono fun k e => by subst e; exact hKr.out _ (hF1 _ (.inl rfl)))
        exact (Chg.refl K0 w).step hcf fun k e => e
end

end Go.Proofs.YtbjmeibcphmgbaaGreat

namespace Go.Proofs.YtbjmeibcphmgbaaGreat
open Go.ChangeShapes Go.WideShapes Go.ChangeAt Go.RowKit

set_option linter.unusedSimpArgs false
set_option linter.unusedVariables false

/-- Those on the list that have not gone are taken off it. -/
def Hp.fins (s : Hp) : Hp := { s with fi := keptL s s.fi }
section
variable {w : World} {H : Nat} {s : Hp} {K : Nat → Prop}
theorem finalsH_still (hw : HeapAt w K H s) (hm : s.mv = false) :
    Calls Tryz.prog 19 #[.pointer (some ⟨H, 0, none⟩)] w fun e w' => e = .returned (.slice none 0 0) ∧ Below w.heap.size w w' := by
  obtain ⟨P, b, v0, v1, v2, v3, h, hF⟩ := hw
  have c10 : w.cell? ⟨H, 10, none⟩ = some (.bool false) := by rw [← hm]; exact h.blk.cell 10
  go_enter Tryz.func19, Tryz.ntmps19
  go_wp2
  go_ret
  exact ⟨rfl, Below.refl _ _⟩

set_option maxRecDepth 100000 in
set_option maxHeartbeats 4000000 in
theorem finalsH_yes (hw : HeapAt w K H s) (g : Ok s) (hm : s.mv = true) :
    Calls Tryz.prog 19 #[.pointer (some ⟨H, 0, none⟩)] w fun e w' => ∃ lv, e = .returned lv ∧ RowIs w' lv (s.fins.movVL (leftL s s.fi)) ∧ (∀ g, lv.ownBlock = some g → w.heap.size ≤ g) ∧
      ∃ K', HeapAt w' K' H (s.fins.movedL (leftL s s.fi)) ∧ (∀ k, K' k → K k ∨ w.heap.size ≤ k) ∧ (∀ g, lv.ownBlock = some g → ¬ K' g) ∧ Chg K w w' := by
  obtain ⟨K0, hK0⟩ : ∃ K0 : Nat → Prop, K0 = fun k => K k ∧ k < w.heap.size := ⟨_, rfl⟩
  replace hw := hw.tight
  rw [← hK0] at hw
  have hKK : ∀ k, K0 k → K k := fun k h => by rw [hK0] at h; exact h.1
  have hKw : ∀ k, K0 k → k < w.heap.size := fun k h => by rw [hK0] at h; exact h.2
  clear hK0
  obtain ⟨P, b, v0, v1, v2, v3, h, hF⟩ := hw
  have c10 : w.cell? ⟨H, 10, none⟩ = some (.bool true) := by rw [← hm]; exact h.blk.cell 10
  have c15 : w.cell? ⟨H, 15, none⟩ = some v3 := h.blk.cell 15
  have hfl : s.fi.length ≤ 1100000000000 := by have := g.fil; have := g.sel; omega
  have M3 := splitH h g.toOkw v3 s.fi h.r3.reads hfl g.inOk_fi
  have hps : ∀ p ∈ leftL s s.fi, InOk s.fins p := fun p hp => .inr (.inr (leftL_pk g.toOkw hp).1)
  have g3 : Ok s.fins := g.fins
  obtain ⟨ps, hpe⟩ : ∃ ps, leftL s s.fi = ps := ⟨_, rfl⟩
  obtain ⟨s0, hs0⟩ : ∃ s0, s.fins = s0 := ⟨_, rfl⟩
  have hpb : ps.length ≤ 1100000000000 := by rw [← hpe]; exact Nat.le_trans (leftL_len s s.fi) hfl
  rw [hpe] at M3 hps ⊢
  rw [hs0] at hps g3 ⊢
  have Hs0 := Lib.hid hs0
  clear hpe hs0
  go_enter Tryz.func19, Tryz.ntmps19
  go_wp2_with fail
  refine M3.mono ?_
  rintro e z ⟨kv, lv, rfl, hT, hb⟩
  have hkv : ∀ g, kv.ownBlock = some g → w.heap.size ≤ g := hT.vb
  have hlv : ∀ g, lv.ownBlock = some g → w.heap.size ≤ g := hT.ub
  have hfar := hT.far
  have r1 : RowIs z kv (keptL s s.fi) := hT.r
  have q1 : RowIs z lv ps := hT.q
  obtain ⟨kb, kd, rfl⟩ := own_slice r1
  have hky := (h.on hb).blk
  have hly := hky.lt
  have f15 := hky.free 15
  have c15 : z.cell? ⟨H, 15, none⟩ = some v3 := hky.cell 15
  have hcs := (Chg.of_below (S := (· = H)) hb (Nat.le_refl _)).setCell (p := ⟨H, 15, none⟩) (.inl rfl) (.slice kb (keptL s s.fi).length kd)
  have h3 : HeapIn (z.setCell ⟨H, 15, none⟩ (.slice kb (keptL s s.fi).length kd)) H P b v0 v1 v2 (.slice kb (keptL s s.fi).length kd) s0 := by
    rw [← Hs0.out]
    exact h.newRow 3 (by omega) rfl (four (fun _ => rfl) (fun _ => rfl) (fun _ => rfl) (fun h => absurd rfl h)) (four (fun _ => rfl) (fun _ => rfl) (fun _ => rfl) (fun h => absurd rfl h)) (hky.set 15 _) hcs
      (r1.chg (S := (· = H)) ((Chg.refl (· = H) z).setCell (p := ⟨H, 15, none⟩) (.inl rfl) _) fun g e e' => by subst e'; exact r1.ne hky (by decide) e) hkv
  have q3 : RowIs (z.setCell ⟨H, 15, none⟩ (.slice kb (keptL s s.fi).length kd)) lv ps :=
    q1.chg (S := (· = H)) ((Chg.refl (· = H) z).setCell (p := ⟨H, 15, none⟩) (.inl rfl) _) fun g e e' => by subst e'; exact q1.ne hky (by decide) e
  have hc3 : Chg K0 w (z.setCell ⟨H, 15, none⟩ (.slice kb (keptL s s.fi).length kd)) := hcs.mono fun k e => by subst e; exact hF _ (.inl rfl)
  go_upto_region 5 with fail
  generalize hW : z.setCell ⟨H, 15, none⟩ (.slice kb (keptL s s.fi).length kd) = y2 at *
  obtain ⟨k3, ek3⟩ : ∃ k, Value.slice kb (keptL s s.fi).length kd = k := ⟨_, rfl⟩
  rw [ek3] at h3 hkv hfar
  clear hW hcs hky f15 c15 r1 hT hb hly M3 c10 q1
  have hy0 : HeapAt y2 (fun k => K0 k ∨ k3.ownBlock = some k) H s0 := ⟨P, b, v0, v1, v2, k3, h3, fun k hk => by
    rcases hk with e | e | e | e | e | e | e
    · exact .inl (hF _ (.inl e))
    · exact .inl (hF _ (.inr (.inl e)))
    · exact .inl (hF _ (.inr (.inr (.inl e))))
    · exact .inl (hF _ (.inr (.inr (.inr (.inl e)))))
    · exact .inl (hF _ (.inr (.inr (.inr (.inr (.inl e))))))
    · exact .inl (hF _ (.inr (.inr (.inr (.inr (.inr (.inl e)))))))
    · exact .inr e⟩
  have hsf : ∀ g, lv.ownBlock = some g → ¬ (K0 g ∨ k3.ownBlock = some g) := fun g e hk => by
    rcases hk with hk | hk
    · have := hlv g e; have := hKw g hk; omega
    · exact hfar g hk e
  have hK1 : ∀ k, (K0 k ∨ k3.ownBlock = some k) → K0 k ∨ w.heap.size ≤ k := fun k hk => hk.imp id (hkv k)
  have HKK := Lib.hid hKK
  have HLV := Lib.hid hlv
  have HPS := Lib.hid hps
  clear hKK hlv hps hkv hfar h3 hF h ek3 hKw
  obtain ⟨n, hn⟩ : ∃ n, ps.length = n := ⟨_, rfl⟩
  obtain ⟨sa, sc', hsv⟩ := own_slice q3
  have Hn := Lib.hid hn
  rw [hn] at hpb
  have hor0 : y2.ownsRow 0 3 1 lv n ((nums ps).map (Value.int .i64)) := by
    have := q3
    unfold RowIs at this
    rw [hn] at this
    exact this
  rw [hn] at hsv
  clear q3 hn
  go_wp2
  go_loopw [27] (fun i wr => ∃ k : Nat, k ≤ n ∧ i = .int .i64 k ∧ ∃ Kr, HeapAt wr Kr H (s0.movedL (ps.take k)) ∧ Hid (∀ k, Kr k → K0 k ∨ w.heap.size ≤ k) ∧ Chg K0 w wr ∧ wr.ownsRow 0 3 1 lv n ((nums (s0.movVL (ps.take k) ++ ps.drop k)).map (Value.int .i64)) ∧ Hid (∀ g, lv.ownBlock = some g → ¬ Kr g)) (fun i _ => n - (intOf i).toNat)
  case atStart => exact ⟨0, by omega, rfl, _, hy0, Lib.hid hK1, hc3, hor0, Lib.hid hsf⟩
  case round =>
    clear hsv
    obtain ⟨k, hk, rfl, Kr, hwr, hKr, hcr, hor, hsr⟩ := hrel
    by_cases hlt : k < n
    · obtain ⟨q, hq⟩ : ∃ q, (s0.movedL (ps.take k)).movV (ps.getD k 0) = q := ⟨_, rfl⟩
      obtain ⟨l1, l2⟩ := movVL_set s0 (ps := ps) (k := k) (by rw [Hn.out]; omega) q hq.symm
      have M := movedH (g3.movedL (ps.take k)) hwr (inOk_movedL (ps.take k) (HPS.out (ps.getD k 0) (by
        rw [List.getD_eq_getElem?_getD, List.getElem?_eq_getElem (by rw [Hn.out]; omega)]
        exact List.getElem_mem _)))
      rw [← movedL_snoc, ← take_next (by rw [Hn.out]; omega), hq] at M
      clear hq
      obtain ⟨ls, hls⟩ : ∃ ls, nums (s0.movVL (ps.take k) ++ ps.drop k) = ls := ⟨_, rfl⟩
      rw [hls] at hor l1 l2
      clear hls
      have L1 := Lib.hid l1
      clear l1
      obtain ⟨gb, cap, e, hg1, hg2, hcp, _, _, hcell⟩ := own_cell hor (by omega)
      have Hor := Lib.hid hor
      clear hor
      have c0 := hcell k hlt
      rw [l2] at c0
      clear l2 hcell
      have hgK : ¬ Kr gb := hsr.out gb (by rw [e]; rfl)
      have hgw : w.heap.size ≤ gb := HLV.out gb (by rw [e]; rfl)
      subst e
      generalize ps.getD k 0 = pp at *
      have b0 : (0 : Int) ≤ (k : Int) := by omega
      have b1 : (k : Int) < (n : Int) := by omega
      go_wp2_with fail
      refine M.mono ?_
      rintro e w2 ⟨rfl, K2, hw2, hK2, hc2⟩
      have ho2 := own_keep Hor.out hc2 (fun g e => by
        have : gb = g := by simpa [Value.ownBlock] using e
        subst this; exact hgK)
      obtain ⟨gb', cap', e', h1, h2, f0, d0, ho3⟩ := own_set ho2 hlt (q : Int)
      obtain ⟨rfl, rfl⟩ : gb = gb' ∧ cap = cap' := by simp at e'; exact e'
      have hgK2 : ¬ K2 gb := fun h => (hK2 gb h).elim hgK fun h' => Nat.not_lt.2 h' hg2
      have hw3 := hw2.chg ((Chg.refl (· = gb) w2).setCell (p := ⟨gb, k, none⟩) (.inl rfl) (.int .i64 q)) fun k hk _ e => by subst e; exact hgK2 hk
      have hc3 := (hcr.step hc2 fun k hk => hKr.out k hk).setCell (p := ⟨gb, k, none⟩) (.inr hgw) (.int .i64 q)
      have hK3 : ∀ k, K2 k → K0 k ∨ w.heap.size ≤ k := fun k hk => (hK2 k hk).elim (hKr.out k) fun e => .inr (Nat.le_trans hcr.size e)
      rw [L1.out] at ho3
      have Ho3 := Lib.hid ho3
      clear ho3 ho2 e' hw2 hc2 hK2 M
      go_wp2
      go_roundw
      case rel => exact ⟨k + 1, by omega, by go_num, K2, hw3, Lib.hid hK3, hc3, Ho3.out, Lib.hid fun g e => by
        have : gb = g := by simpa [Value.ownBlock] using e
        subst this; exact hgK2⟩
      case measure => simp [intOf]; omega
    · obtain rfl : k = n := by omega
      rw [List.take_of_length_le (by rw [Hn.out]; omega)] at hwr hor
      rw [List.drop_of_length_le (by rw [Hn.out]; omega), List.append_nil] at hor
      go_wp2
      go_ret
      have hvl : (s0.movVL ps).length = k := by rw [movVL_length]; exact Hn.out
      exact ⟨lv, rfl, by rw [RowIs, hvl]; exact hor, HLV.out, Kr, hwr, fun k hk => (hKr.out k hk).imp (HKK.out k) id, hsr.out, hcr.mono HKK.out⟩
end

end Go.Proofs.YtbjmeibcphmgbaaGreat

namespace Go.Proofs.YtbjmeibcphmgbaaGreat
open Go.ChangeShapes Go.WideShapes Go.ChangeAt Go.RowKit

set_option linter.unusedSimpArgs false
set_option linter.unusedVariables false

theorem InOk.ptrOk {s : Hp} {p : Nat} (h : InOk s p) : PtrOk s (p : Int) := by
  rcases h with e | e
  · left; rw [e]; rfl
  · right; exact ⟨p, rfl, e⟩
theorem PtrOk.inOk {s : Hp} {v : Int} (h : PtrOk s v) : InOk s v.toNat ∧ ((v.toNat : Nat) : Int) = v := by
  rcases h with e | ⟨y, e, hy⟩
  · rw [e]; exact ⟨.inl rfl, rfl⟩
  · rw [e, Int.toNat_natCast]; exact ⟨.inr hy, rfl⟩
theorem PtrOk.moved {s : Hp} {v : Int} (h : PtrOk s v) (p : Nat) : PtrOk (s.moved p) v := h.imp id fun ⟨y, e, hy⟩ => ⟨y, e, hy.imp (moved_pn s p) fun e => by rw [(moved_same s p).1]; exact e⟩

section
variable {q : Bool} {s s' r : Hp} {f : Nat → Nat}
/-- Pointers of the first heap become others that lead to the same; all else stays. -/
theorem Tw.poke (h : Tw q s r f) (g : Okw s) (hl : s'.l.length = s.l.length) (hn : s'.pn = s.pn) (hk : s'.pk = s.pk) (hz : s'.l.getD 0 0 = 0) (hh : ∀ y, y ∈ s.pn ∨ y ∈ s.pk → s'.l.getD y 0 = s.l.getD y 0)
    (hw' : ∀ x, Live s x → ∀ t, t < nA s.l x → ¬ (3 ≤ t ∧ t < 3 + hp (hdW s.l x)) → s'.l.getD (x + t) 0 = s.l.getD (x + t) 0)
    (hp' : ∀ x, Live s x → ∀ i, i < hp (hdW s.l x) → s'.l.getD (x + (3 + i)) 0 = s.l.getD (x + (3 + i)) 0 ∨ (PtrOk s (s'.l.getD (x + (3 + i)) 0) ∧ SameTo s f (s'.l.getD (x + (3 + i)) 0) (r.l.getD (f x + (3 + i)) 0))) : Tw q s' r f := by
  have hlive : ∀ y, Live s' y ↔ Live s y := fun y => by
    unfold Live
    rw [hn, hk]
    exact or_congr Iff.rfl (and_congr_right fun hy => isOb_congr hl (hh y (.inr hy)))
  have hin : ∀ y, Live s y → y ∈ s.pn ∨ y ∈ s.pk := fun y hy => hy.imp id fun e => e.1
  have hf : ∀ v, PtrOk s v → fwd s'.l v.toNat = fwd s.l v.toNat := fun v hv => by
    rcases hv with e | ⟨y, e, hy⟩
    · subst e
      refine fwd_congr ?_
      show s'.l.getD 0 0 = s.l.getD 0 0
      rw [hz, g.zero]
    · subst e
      exact fwd_congr (hh y hy)
  have hS : ∀ v u, PtrOk s v → SameTo s f v u → SameTo s' f v u := fun v u o e => by
    unfold SameTo at *
    rw [hf v o, hlive]; exact e
  have hT : ∀ v u, PtrOk s v → LostTo s f v u → LostTo s' f v u := fun v u o e => by
    unfold LostTo at *
    rw [hf v o]
    exact ⟨e.1, fun y hy => e.2 y ((hlive y).1 hy)⟩
  have hhd : ∀ y, Live s y → hdW s'.l y = hdW s.l y := fun y hy => hdW_congr (hh y (hin y hy))
  refine ⟨fun a ha b hb => h.inj a ((hlive a).1 ha) b ((hlive b).1 hb), fun a ha => h.inn a ((hlive a).1 ha), fun a ha => ?_, fun hq a ha => ?_, fun a ha j h1 h2 => ?_, fun a ha i hi => ?_⟩
  · have ha' := (hlive a).1 ha
    rw [hh a (hin a ha')]
    exact h.head a ha'
  · have ha' := (hlive a).1 ha
    have := (g.live_ob ha').nA_le
    rw [hw' a ha' 2 (by omega) (by omega)]
    exact h.ser hq a ha'
  · have ha' := (hlive a).1 ha
    rw [hhd a ha'] at h1
    rw [nA_congr (hh a (hin a ha'))] at h2
    rw [hw' a ha' j h2 (by omega)]
    exact h.num a ha' j h1 h2
  · have ha' := (hlive a).1 ha
    rw [hhd a ha'] at hi ⊢
    rcases hp' a ha' i hi with e | ⟨o, e⟩
    · rw [e]
      have o := g.ptr a ha' i hi
      exact (h.ptr a ha' i hi).imp (hS _ _ o) fun e => ⟨e.1, hT _ _ o e.2⟩
    · exact .inl (hS _ _ o e)

theorem same_plc (g : Okw s) {x : Nat} {u : Int} (hx : x = 0 ∨ x ∈ s.pn) : SameTo s f (x : Int) u ↔ u = ((plc2 f x : Nat) : Int) := by
  unfold SameTo plc2
  rw [Int.toNat_natCast]
  by_cases e : x = 0
  · subst e
    rw [g.fwd_zero, if_pos rfl]
    constructor
    · rintro (h | h)
      · rw [h.2]; rfl
      · have := g.live_pos h.1; omega
    · intro h; exact .inl ⟨rfl, h⟩
  · have hx' := hx.resolve_left e
    rw [((g.inn x hx').2.1).fwd, if_neg e]
    constructor
    · rintro (h | h)
      · exact absurd h.1 e
      · exact h.2
    · intro h; exact .inr ⟨.inl hx', h⟩
/-- One is asked to go: what leads to the same still does. -/
theorem Tw.moved_all (h : Tw q s r f) (g : Okw s) (p : Nat) : ∃ f', Tw q (s.moved p) r f' ∧ (∀ x ∈ s.pn, f' x = f x) ∧ ∀ v u, PtrOk s v → SameTo s f v u → SameTo (s.moved p) f' v u := by
  by_cases hc : p ∈ s.pk ∧ hdW s.l p % 2 = 1
  · have ho := (g.odd_iff hc.1).1 hc.2
    have hk := hc.1
    have e : s.moved p = s.go p := (g.moved_live hc.1 ho).1
    have pl := g.go_place hc.1 ho
    have hp0 : p ≠ 0 := by have := (g.pk_lt hk).1; omega
    have hne : ∀ x, Live s x → x ≠ s.tn := fun x hx => g.live_ne_tn hx (by omega)
    rw [e]
    refine ⟨fun x => f (if x = s.tn then p else x), h.go g hc.1 ho, fun x hx => ?_, fun v u o e => ?_⟩
    · show f (if x = s.tn then p else x) = f x
      rw [if_neg (g.live_ne_tn (.inl hx) (by omega))]
    · have hf : fwd (s.go p).l v.toNat = if fwd s.l v.toNat = p then s.tn else fwd s.l v.toNat := by
        rcases o with e | ⟨y, e, hy⟩
        · subst e
          have e0 : fwd s.l (0 : Int).toNat = 0 := g.fwd_zero
          rw [e0, if_neg (fun e => hp0 e.symm), ← e0]
          refine fwd_congr ?_
          show (s.go p).l.getD 0 0 = s.l.getD 0 0
          rw [g.go_key hk ho (by omega), if_neg (fun e => hp0 e.symm), if_neg (by have := g.bases; omega)]
        · subst e
          exact g.go_fwd hk ho hy
      unfold SameTo at *
      rw [hf]
      rcases e with e | ⟨e1, e2⟩
      · left
        rw [if_neg (fun e' => hp0 (e'.symm.trans e.1))]
        exact e
      · right
        by_cases e : fwd s.l v.toNat = p
        · rw [if_pos e]
          refine ⟨(g.go_live hk ho).2 (.inl rfl), ?_⟩
          show u = ((f (if s.tn = s.tn then p else s.tn) : Nat) : Int)
          rw [if_pos rfl, ← e]; exact e2
        · rw [if_neg e]
          refine ⟨(g.go_live hk ho).2 (.inr (e1.imp id fun e' => ⟨e'.1, e, e'.2⟩)), ?_⟩
          show u = ((f (if fwd s.l v.toNat = s.tn then p else fwd s.l v.toNat) : Nat) : Int)
          rw [if_neg (hne _ e1)]; exact e2
  · have e : s.moved p = s := by unfold Hp.moved; rw [if_neg hc]
    rw [e]
    exact ⟨f, h, fun _ _ => rfl, fun _ _ _ e => e⟩
/-- Where it is now. -/
theorem Ok.fwd_movV (g : Ok s) {p : Nat} (hin : InOk s p) : fwd (s.moved p).l p = s.movV p ∧ fwd (s.moved p).l (s.movV p) = s.movV p ∧ InOk (s.moved p) (s.movV p) := by
  by_cases hk : p ∈ s.pk
  · by_cases ho : isOb s.l p
    · have hm := (g.moved p).inn s.tn
      rw [(g.moved_live hk ho).1, (g.moved_live hk ho).2]
      have hn : s.tn ∈ (s.go p).pn := List.mem_append_right _ (by simp)
      exact ⟨(gone_fwd (g.go_p hk ho)).1, (g.go_newOb hk ho).fwd, .inr (.inl hn)⟩
    · have hm := g.moved_gone hk ho
      rw [hm.1]
      exact ⟨hm.2.1.symm, ((g.inn _ hm.2.2).2.1).fwd, .inr (.inl hm.2.2)⟩
  · rw [(movV_out hk).1, (movV_out hk).2]
    rcases hin with e | e | e
    · subst e; exact ⟨g.fwd_zero, g.fwd_zero, .inl rfl⟩
    · exact ⟨((g.inn p e).2.1).fwd, ((g.inn p e).2.1).fwd, .inr (.inl e)⟩
    · exact absurd e hk
theorem Ok.movV_same (g : Ok s) {p : Nat} (hin : InOk s p) {u : Int} (h : SameTo (s.moved p) f (p : Int) u) : SameTo (s.moved p) f ((s.movV p : Nat) : Int) u := by
  have e := g.fwd_movV hin
  unfold SameTo at *
  rw [Int.toNat_natCast] at *
  rw [e.1] at h
  rw [e.2.1]; exact h
/-- Some are asked to go, one behind the other. -/
theorem Tw.movedL_all (h : Tw q s r f) (g : Ok s) (ps : List Nat) (us : List Int) (hlen : us.length = ps.length) (hps : ∀ j, j < ps.length → InOk s (ps.getD j 0) ∧ SameTo s f ((ps.getD j 0 : Nat) : Int) (us.getD j 0)) :
    ∃ f', Tw q (s.movedL ps) r f' ∧ (∀ x ∈ s.pn, f' x = f x) ∧ (∀ v u, PtrOk s v → SameTo s f v u → SameTo (s.movedL ps) f' v u) ∧ ∀ j, j < ps.length → SameTo (s.movedL ps) f' (((s.movVL ps).getD j 0 : Nat) : Int) (us.getD j 0) := by
  induction ps generalizing s f us with
  | nil => exact ⟨f, h, fun _ _ => rfl, fun _ _ _ e => e, fun j hj => by simp at hj⟩
  | cons p ps ih =>
    match us, hlen with
    | u :: us, hlen =>
      obtain ⟨f1, h1, e1, s1⟩ := h.moved_all g.toOkw p
      have hp0 := hps 0 (by simp)
      obtain ⟨f2, h2, e2, s2, r2⟩ := ih h1 (g.moved p) us (by simpa using hlen) fun j hj => by
        have := hps (j + 1) (by simp; omega)
        simp only [List.getD_cons_succ] at this
        exact ⟨inOk_moved this.1, s1 _ _ this.1.ptrOk this.2⟩
      refine ⟨f2, h2, fun x hx => (e2 x (moved_pn s p hx)).trans (e1 x hx), fun v w o e => s2 v w (o.moved p) (s1 v w o e), fun j hj => ?_⟩
      match j with
      | 0 =>
        have a1 : InOk s p := hp0.1
        have a2 : SameTo s f (p : Int) u := hp0.2
        exact s2 _ _ ((g.fwd_movV a1).2.2).ptrOk (g.movV_same a1 (s1 _ _ a1.ptrOk a2))
      | j + 1 =>
        have := r2 j (by simp at hj; omega)
        exact this
/-- The next object is scanned. -/
theorem Tw.scan (h : Tw q s r f) (g : Ok s) (hm : s.mv = true) (hin : s.sc ∈ s.pn) : ∃ f', Tw q s.scan r f' ∧ ∀ x ∈ s.pn, f' x = f x := by
  have hL : Live s s.sc := .inl hin
  have hlen : (stP s.l s.sc).length = nSt s.l s.sc := stP_length ..
  have hnst : nSt s.l s.sc = if hw (hdW s.l s.sc) then 0 else hp (hdW s.l s.sc) := rfl
  have hstn := g.stP_nums hL
  obtain ⟨f', h', e', _, r'⟩ := h.movedL_all g (stP s.l s.sc) ((List.range (nSt s.l s.sc)).map fun i => r.l.getD (f s.sc + (3 + i)) 0) (by simp [hlen]) fun j hj => by
    rw [hlen] at hj
    have hjp : j < hp (hdW s.l s.sc) := by rw [hnst] at hj; split at hj <;> omega
    have hwf : hw (hdW s.l s.sc) = false := by
      cases hc : hw (hdW s.l s.sc)
      · rfl
      · rw [hnst, hc] at hj; simp at hj
    refine ⟨g.stP_in hL _ (by rw [List.getD_eq_getElem?_getD, List.getElem?_eq_getElem (by rw [hlen]; exact hj)]; exact List.getElem_mem _), ?_⟩
    have e1 : (((stP s.l s.sc).getD j 0 : Nat) : Int) = s.l.getD (s.sc + (3 + j)) 0 := by
      rw [← nums_getD (by rw [hlen]; exact hj), hstn, ptrL_at hj]
    rw [e1, show ((List.range (nSt s.l s.sc)).map fun i => r.l.getD (f s.sc + (3 + i)) 0).getD j 0 = r.l.getD (f s.sc + (3 + j)) 0 from by simp [List.getD, hj]]
    rcases h.ptr s.sc hL j hjp with e | ⟨e, _⟩
    · exact e
    · rw [hwf] at e; exact absurd e (by decide)
  have gm := g.movedL (stP s.l s.sc)
  have hin1 := movedL_pn s (stP s.l s.sc) hin
  have hhd := g.movedL_head (stP s.l s.sc) hin
  have hvs := g.movVL_in (stP s.l s.sc) (g.stP_in hL)
  have hvl : (s.movVL (stP s.l s.sc)).length = nSt s.l s.sc := by rw [movVL_length, stP_length]
  have hf : hdW (s.movedL (stP s.l s.sc)).l s.sc = hdW s.l s.sc := hdW_congr hhd
  have hsn : s.scan = { s.movedL (stP s.l s.sc) with l := setP (s.movedL (stP s.l s.sc)).l s.sc (s.movVL (stP s.l s.sc)), sc := s.sc + szA s.l s.sc } := rfl
  rw [hlen] at r'
  have hfs := e' s.sc hin
  refine ⟨f', ?_, e'⟩
  rw [hsn]
  generalize s.movVL (stP s.l s.sc) = vs at *
  generalize s.movedL (stP s.l s.sc) = s1 at *
  have ob := (gm.inn _ hin1).2.1
  have hn := ob.nA_le
  have hnp : nSt s.l s.sc ≤ hp (hdW s1.l s.sc) := by rw [hf, hnst]; split <;> omega
  have hnA : nA s1.l s.sc = 3 + hp (hdW s1.l s.sc) + hd (hdW s1.l s.sc) := rfl
  have key : ∀ x t, Live s1 x → t < nA s1.l x → (setP s1.l s.sc vs).getD (x + t) 0 = if x = s.sc ∧ 3 ≤ t ∧ t < 3 + vs.length then ((vs.getD (t - 3) 0 : Nat) : Int) else s1.l.getD (x + t) 0 := fun x t hx ht => by
    have hox := (gm.live_ob hx).nA_le
    rw [setP_at (by omega)]
    by_cases e : x = s.sc
    · subst e
      by_cases e2 : 3 ≤ t ∧ t < 3 + vs.length
      · rw [if_pos (by omega), if_pos ⟨rfl, e2⟩, show s.sc + t - (s.sc + 3) = t - 3 from by omega]
      · rw [if_neg (by omega), if_neg fun e3 => e2 e3.2]
    · rw [if_neg, if_neg fun e3 => e e3.1]
      intro e3
      have := (gm.live_apart (.inl hin1) (hx.imp id fun e => e.1) (fun e' => e e'.symm) (t := x + t - s.sc) (by omega)).2 (gm.live_ob hx) t ht
      omega
  have hheads : ∀ y, y ∈ s1.pn ∨ y ∈ s1.pk → (setP s1.l s.sc vs).getD y 0 = s1.l.getD y 0 := fun y hy => by
    have hyl : y < s1.l.length := hy.elim (fun e => (gm.pn_lt e).2.2) fun e => (gm.pk_lt e).2
    rw [setP_at hyl, if_neg]
    intro e3
    by_cases e : s.sc = y
    · omega
    · have := (gm.live_apart (.inl hin1) hy e (t := y - s.sc) (by omega)).1
      omega
  have hz := gm.len
  refine h'.poke gm.toOkw (setP_length ..) rfl rfl ?_ hheads (fun x hx t ht hno => ?_) fun x hx i hi => ?_
  · have := gm.z0
    have hb := (gm.pn_lt hin1).1
    show (setP s1.l s.sc vs).getD 0 0 = 0
    rw [setP_at (by omega), if_neg (by omega)]; exact gm.zero
  · show (setP s1.l s.sc vs).getD (x + t) 0 = _
    rw [key x t hx ht, if_neg]
    rintro ⟨rfl, h1, h2⟩
    exact hno ⟨h1, by omega⟩
  · show (setP s1.l s.sc vs).getD (x + (3 + i)) 0 = _ ∨ (PtrOk s1 ((setP s1.l s.sc vs).getD (x + (3 + i)) 0) ∧ SameTo s1 f' ((setP s1.l s.sc vs).getD (x + (3 + i)) 0) _)
    rw [key x (3 + i) hx (by unfold nA; omega)]
    by_cases e : x = s.sc ∧ 3 ≤ 3 + i ∧ 3 + i < 3 + vs.length
    · rw [if_pos e]
      obtain ⟨rfl, e2, e3⟩ := e
      right
      rw [show 3 + i - 3 = i from by omega]
      have hv : vs.getD i 0 = 0 ∨ vs.getD i 0 ∈ s1.pn := hvs (vs.getD i 0) (by rw [List.getD_eq_getElem?_getD, List.getElem?_eq_getElem (by omega)]; exact List.getElem_mem _)
      have := r' i (by omega)
      rw [show ((List.range (nSt s.l s.sc)).map fun i => r.l.getD (f s.sc + (3 + i)) 0).getD i 0 = r.l.getD (f s.sc + (3 + i)) 0 from by simp [List.getD, show i < nSt s.l s.sc by omega]] at this
      rw [hfs]
      exact ⟨InOk.ptrOk (hv.imp id fun e => .inl e), this⟩
    · rw [if_neg e]; exact .inl rfl
end

end Go.Proofs.YtbjmeibcphmgbaaGreat

namespace Go.Proofs.YtbjmeibcphmgbaaGreat
open Go.ChangeShapes Go.WideShapes Go.ChangeAt Go.RowKit

set_option linter.unusedSimpArgs false
set_option linter.unusedVariables false

namespace Hp
def ptrT (s : Hp) (a i : Nat) : Nat := (s.l.getD (a + (3 + i)) 0).toNat
def ptrE (s : Hp) (a i : Nat) : Nat := if a ∈ s.pn then (if i < hp (hdW s.l a) then 0 else 71) else 70
def ptrV (s : Hp) (a i : Nat) : Nat := if s.ptrE a i = 0 then s.movV (s.ptrT a i) else 0
def ptrS (s : Hp) (a i : Nat) : Hp := if s.ptrE a i = 0 then (s.moved (s.ptrT a i)).put (a + (3 + i)) (s.movV (s.ptrT a i) : Nat) else s
def setPtrE (s : Hp) (a i p : Nat) : Nat := if a ∈ s.pn ∧ (p = 0 ∨ p ∈ s.pn) then (if i < hp (hdW s.l a) then 0 else 71) else 70
def setPtrS (s : Hp) (a i p : Nat) : Hp := if s.setPtrE a i p = 0 then s.put (a + (3 + i)) (p : Nat) else s
def setNumE (s : Hp) (a i : Nat) : Nat := if a ∈ s.pn then (if i < hd (hdW s.l a) then 0 else 71) else 70
def setNumS (s : Hp) (a i : Nat) (n : Int) : Hp := if s.setNumE a i = 0 then s.put (a + (3 + hp (hdW s.l a) + i)) (zigOf n) else s
def frE (s : Hp) (a : Nat) : Nat := if a ∈ s.pn then 0 else 70
def frS (s : Hp) (a : Nat) (tf : Bool) : Hp := if a ∈ s.pn then s.put a (headN (hp (hdW s.l a)) (hd (hdW s.l a)) (hw (hdW s.l a)) (hf (hdW s.l a)) tf : Nat) else s
def scanS (s : Hp) : Hp := if s.mv = true ∧ s.sc ≠ s.tn then s.scan else s
def finS (s : Hp) : Hp := if s.mv = true then s.fins.movedL (leftL s s.fi) else s
def finV (s : Hp) : List Nat := if s.mv = true then s.fins.movVL (leftL s s.fi) else []
def dropS (s : Hp) : Hp := if s.mv = true ∧ s.sc = s.tn then s.drop else s
def dropV (s : Hp) : List Nat := if s.mv = true ∧ s.sc = s.tn then s.kept.lostL s.kept.wk else []
end Hp

section
variable {s : Hp} (g : Ok s)
include g
theorem Ok.ptr_in {a i : Nat} (h : s.ptrE a i = 0) : a ∈ s.pn ∧ i < hp (hdW s.l a) ∧ 3 + i < nA s.l a ∧ PtrOk s (s.l.getD (a + (3 + i)) 0) ∧ InOk s (s.ptrT a i) ∧ ((s.ptrT a i : Nat) : Int) = s.l.getD (a + (3 + i)) 0 := by
  unfold Hp.ptrE at h
  by_cases h1 : a ∈ s.pn
  · rw [if_pos h1] at h
    by_cases h2 : i < hp (hdW s.l a)
    · have o := g.ptr a (.inl h1) i h2
      exact ⟨h1, h2, by unfold nA; omega, o, o.inOk.1, o.inOk.2⟩
    · rw [if_neg h2] at h; omega
  · rw [if_neg h1] at h; omega
theorem Ok.ptrS (a i : Nat) : Ok (s.ptrS a i) := by
  unfold Hp.ptrS
  by_cases h : s.ptrE a i = 0
  · rw [if_pos h]
    obtain ⟨h1, h2, h3, o, hin, e⟩ := g.ptr_in h
    have hm := moved_pn s (s.ptrT a i) h1
    have hh := g.moved_head (s.ptrT a i) h1
    have hv := g.fwd_movV hin
    refine (g.moved _).put hm (by rw [nA_congr hh]; exact h3) (.inr (by omega)) (fun _ _ => hv.2.2.ptrOk) fun _ _ _ _ _ => ?_
    rcases g.movV_in hin with ⟨e, _⟩ | e
    · left; rw [e]; rfl
    · right; exact ⟨_, e, rfl⟩
  · rw [if_neg h]; exact g
theorem Ok.setPtrS (a i p : Nat) : Ok (s.setPtrS a i p) := by
  unfold Hp.setPtrS
  by_cases h : s.setPtrE a i p = 0
  · rw [if_pos h]
    unfold Hp.setPtrE at h
    by_cases h1 : a ∈ s.pn ∧ (p = 0 ∨ p ∈ s.pn)
    · rw [if_pos h1] at h
      by_cases h2 : i < hp (hdW s.l a)
      · have hp' : InOk s p := h1.2.imp id .inl
        refine g.put h1.1 (by unfold nA; omega) (.inr (by omega)) (fun _ _ => hp'.ptrOk) fun _ _ _ _ _ => h1.2.imp (fun e => by rw [e]; rfl) fun e => ⟨_, e, rfl⟩
      · rw [if_neg h2] at h; omega
    · rw [if_neg h1] at h; omega
  · rw [if_neg h]; exact g
theorem Ok.setNumS (a i : Nat) (n : Int) : Ok (s.setNumS a i n) := by
  unfold Hp.setNumS
  by_cases h : s.setNumE a i = 0
  · rw [if_pos h]
    unfold Hp.setNumE at h
    by_cases h1 : a ∈ s.pn
    · rw [if_pos h1] at h
      by_cases h2 : i < hd (hdW s.l a)
      · exact g.put h1 (by unfold nA; omega) (.inr (by omega)) (fun _ h => by omega) fun _ _ _ _ h => by omega
      · rw [if_neg h2] at h; omega
    · rw [if_neg h1] at h; omega
  · rw [if_neg h]; exact g
theorem Ok.frS (a : Nat) (tf : Bool) : Ok (s.frS a tf) := by
  unfold Hp.frS
  by_cases h1 : a ∈ s.pn
  · rw [if_pos h1]; exact g.mark (.inl h1) tf (g.inn a h1).2.1.of
  · rw [if_neg h1]; exact g
theorem Ok.scanS : Ok s.scanS := by
  unfold Hp.scanS
  by_cases h : s.mv = true ∧ s.sc ≠ s.tn
  · rw [if_pos h]; exact g.scan h.1 ((g.scn h.1).resolve_left h.2)
  · rw [if_neg h]; exact g
theorem Ok.finS : Ok s.finS := by
  unfold Hp.finS
  by_cases h : s.mv = true
  · rw [if_pos h]; exact g.fins.movedL _
  · rw [if_neg h]; exact g
theorem Ok.dropS : Ok s.dropS := by
  unfold Hp.dropS
  by_cases h : s.mv = true ∧ s.sc = s.tn
  · rw [if_pos h]; exact g.drop h.1 h.2
  · rw [if_neg h]; exact g
end

/-- What a twin is: both heaps, both rows of registers. -/
structure St where
  (s r : Hp)
  (R S : List Nat)
namespace St
def alloc (t : St) (i p d : Nat) (wk fn : Bool) : St := if t.s.room < 32 then t else ⟨t.s.lay p d wk fn, t.r.lay p d wk fn, t.R.set i t.s.tn, t.S.set i t.r.tn⟩
/-- The second heap's object is one, and not weak. -/
def strong (t : St) (k : Nat) : Prop := t.S.getD k 0 ∈ t.r.pn ∧ hw (hdW t.r.l (t.S.getD k 0)) = false
def ptr (t : St) (i k f : Nat) : St :=
  ⟨t.s.ptrS (t.R.getD k 0) f, t.r.ptrS (t.S.getD k 0) f, if t.s.ptrE (t.R.getD k 0) f = 0 then t.R.set i (t.s.ptrV (t.R.getD k 0) f) else t.R, if t.s.ptrE (t.R.getD k 0) f = 0 then t.S.set i (t.r.ptrV (t.S.getD k 0) f) else t.S⟩
def setPtr (t : St) (i k f : Nat) : St := { t with s := t.s.setPtrS (t.R.getD k 0) f (t.R.getD i 0), r := t.r.setPtrS (t.S.getD k 0) f (t.S.getD i 0) }
def setNum (t : St) (k f : Nat) (n : Int) : St := { t with s := t.s.setNumS (t.R.getD k 0) f n, r := t.r.setNumS (t.S.getD k 0) f n }
def setFr (t : St) (k : Nat) (tf : Bool) : St := { t with s := t.s.frS (t.R.getD k 0) tf, r := t.r.frS (t.S.getD k 0) tf }
def flip (t : St) : St := { t with s := t.s.flip.movedL t.R, R := t.s.flip.movVL t.R }
def scan (t : St) : St := { t with s := t.s.scanS }
def fins (t : St) : St := { t with s := t.s.finS }
def drop (t : St) : St := { t with s := t.s.dropS }
end St
/-- The first heap is of z words; so many objects were laid at most, in either. -/
structure Good (q : Bool) (z m : Nat) (t : St) (f : Nat → Nat) : Prop where
  os : Ok t.s
  or : Ok t.r
  mv : t.r.mv = false
  tw : Tw q t.s t.r f
  rl : t.R.length = 4
  sl : t.S = t.R.map (plc2 f)
  ri : ∀ x ∈ t.R, x = 0 ∨ x ∈ t.s.pn
  z0 : t.s.z = z
  rz : t.r.z = 16000
  rt : t.r.tn ≤ t.r.bn + 28 * m
  rs : t.r.se ≤ m
  ss : t.s.se ≤ m
  sq : q = true → t.r.se = t.s.se

section
variable {q : Bool} {z m : Nat} {t : St} {f : Nat → Nat}
theorem Good.reg (h : Good q z m t f) {i : Nat} (hi : i < 4) : (t.R.getD i 0 = 0 ∨ t.R.getD i 0 ∈ t.s.pn) ∧ t.S.getD i 0 = plc2 f (t.R.getD i 0) := by
  have hl := h.rl
  refine ⟨h.ri _ (by rw [List.getD_eq_getElem?_getD, List.getElem?_eq_getElem (by omega)]; exact List.getElem_mem _), ?_⟩
  rw [h.sl]
  simp [List.getD, hl, hi]
theorem Good.reg_in (h : Good q z m t f) {i : Nat} (hi : i < 4) : t.R.getD i 0 ∈ t.s.pn ↔ t.S.getD i 0 ∈ t.r.pn := by
  obtain ⟨h1, h2⟩ := h.reg hi
  rw [h2]
  unfold plc2
  constructor
  · intro e
    have := (h.os.pn_lt e).1
    rw [if_neg (by omega)]
    exact h.tw.inn _ (.inl e)
  · intro e
    refine h1.resolve_left fun e0 => ?_
    rw [if_pos e0] at e
    have := (h.or.pn_lt e).1
    omega
theorem Good.reg_may (h : Good q z m t f) {i : Nat} (hi : i < 4) : (t.R.getD i 0 = 0 ∨ t.R.getD i 0 ∈ t.s.pn) ∧ (t.S.getD i 0 = 0 ∨ t.S.getD i 0 ∈ t.r.pn) := by
  obtain ⟨h1, h2⟩ := h.reg hi
  refine ⟨h1, ?_⟩
  rcases h1 with e | e
  · left; rw [h2, e]; rfl
  · right; exact (h.reg_in hi).1 e
theorem Good.reg_f (h : Good q z m t f) {i : Nat} (hi : i < 4) (e : t.R.getD i 0 ∈ t.s.pn) : t.S.getD i 0 = f (t.R.getD i 0) := by
  have := (h.os.pn_lt e).1
  rw [(h.reg hi).2]; unfold plc2; rw [if_neg (by omega)]
theorem Good.reg_hd (h : Good q z m t f) {i : Nat} (hi : i < 4) (e : t.R.getD i 0 ∈ t.s.pn) : hdW t.r.l (t.S.getD i 0) = hdW t.s.l (t.R.getD i 0) := by
  rw [h.reg_f hi e]; exact hdW_congr' (h.tw.head _ (.inl e))
/-- Both tell alike. -/
theorem Good.ptrE (h : Good q z m t f) {k : Nat} (hk : k < 4) (i : Nat) : t.r.ptrE (t.S.getD k 0) i = t.s.ptrE (t.R.getD k 0) i := by
  unfold Hp.ptrE
  by_cases e : t.R.getD k 0 ∈ t.s.pn
  · rw [if_pos e, if_pos ((h.reg_in hk).1 e), h.reg_hd hk e]
  · rw [if_neg e, if_neg fun e' => e ((h.reg_in hk).2 e')]
theorem Good.setPtrE (h : Good q z m t f) {k i : Nat} (hk : k < 4) (hi : i < 4) (j : Nat) : t.r.setPtrE (t.S.getD k 0) j (t.S.getD i 0) = t.s.setPtrE (t.R.getD k 0) j (t.R.getD i 0) := by
  unfold Hp.setPtrE
  have hm := h.reg_may hi
  by_cases e : t.R.getD k 0 ∈ t.s.pn
  · rw [if_pos ⟨(h.reg_in hk).1 e, hm.2⟩, h.reg_hd hk e, if_pos (c := t.R.getD k 0 ∈ t.s.pn ∧ _) ⟨e, hm.1⟩]
  · rw [if_neg fun e' => e ((h.reg_in hk).2 e'.1), if_neg fun e' => e e'.1]
theorem Good.setNumE (h : Good q z m t f) {k : Nat} (hk : k < 4) (i : Nat) : t.r.setNumE (t.S.getD k 0) i = t.s.setNumE (t.R.getD k 0) i := by
  unfold Hp.setNumE
  by_cases e : t.R.getD k 0 ∈ t.s.pn
  · rw [if_pos e, if_pos ((h.reg_in hk).1 e), h.reg_hd hk e]
  · rw [if_neg e, if_neg fun e' => e ((h.reg_in hk).2 e')]
theorem Good.frE (h : Good q z m t f) {k : Nat} (hk : k < 4) : t.r.frE (t.S.getD k 0) = t.s.frE (t.R.getD k 0) := by
  unfold Hp.frE
  by_cases e : t.R.getD k 0 ∈ t.s.pn
  · rw [if_pos e, if_pos ((h.reg_in hk).1 e)]
  · rw [if_neg e, if_neg fun e' => e ((h.reg_in hk).2 e')]
theorem Good.more (h : Good q z m t f) {n : Nat} (hn : m ≤ n) : Good q z n t f :=
  ⟨h.os, h.or, h.mv, h.tw, h.rl, h.sl, h.ri, h.z0, h.rz, by have := h.rt; omega, by have := h.rs; omega, by have := h.ss; omega, h.sq⟩
/-- Only the first heap's words, and what is gone there, turn. -/
theorem Good.first (h : Good q z m t f) {s' : Hp} {f' : Nat → Nat} (o : Ok s') (w : Tw q s' t.r f') (hf : ∀ x ∈ t.s.pn, f' x = f x) (hp : ∀ x ∈ t.s.pn, x ∈ s'.pn) (hz : s'.z = t.s.z) (hs : s'.se = t.s.se) : Good q z m { t with s := s' } f' :=
  ⟨o, h.or, h.mv, w, h.rl, by
    show t.S = t.R.map (plc2 f')
    rw [h.sl]
    refine List.map_congr_left fun x hx => ?_
    unfold plc2
    rcases h.ri x hx with e | e
    · rw [if_pos e, if_pos e]
    · rw [hf x e], fun x hx => (h.ri x hx).imp id (hp x), hz.trans h.z0, h.rz, h.rt, h.rs, by show s'.se ≤ m; rw [hs]; exact h.ss, fun e => by show t.r.se = s'.se; rw [hs]; exact h.sq e⟩
theorem Good.scan (h : Good q z m t f) : ∃ f', Good q z m t.scan f' := by
  unfold St.scan Hp.scanS
  by_cases e : t.s.mv = true ∧ t.s.sc ≠ t.s.tn
  · rw [if_pos e]
    have hin := (h.os.scn e.1).resolve_left e.2
    obtain ⟨f', w, hf⟩ := h.tw.scan h.os e.1 hin
    have hs := movedL_same t.s (stP t.s.l t.s.sc)
    exact ⟨f', h.first (h.os.scan e.1 hin) w hf (fun x hx => movedL_pn t.s _ hx) hs.2.2.2.1 hs.2.2.2.2.2.1⟩
  · rw [if_neg e]; exact ⟨f, h⟩
theorem Good.fins (h : Good q z m t f) : ∃ f', Good q z m t.fins f' := by
  unfold St.fins Hp.finS
  by_cases e : t.s.mv = true
  · rw [if_pos e]
    obtain ⟨f', w, hf⟩ := (h.tw.fins (keptL t.s t.s.fi)).movedL h.os.fins (leftL t.s t.s.fi)
    have hs := movedL_same t.s.fins (leftL t.s t.s.fi)
    exact ⟨f', h.first (h.os.fins.movedL _) w hf (fun x hx => movedL_pn t.s.fins _ hx) hs.2.2.2.1 hs.2.2.2.2.2.1⟩
  · rw [if_neg e]; exact ⟨f, h⟩
theorem Good.drop (h : Good q z m t f) : Good q z m t.drop f := by
  unfold St.drop Hp.dropS
  by_cases e : t.s.mv = true ∧ t.s.sc = t.s.tn
  · rw [if_pos e]
    have hd := drop_eq t.s
    exact h.first (h.os.drop e.1 e.2) (h.tw.drop h.os e.1 e.2) (fun _ _ => rfl) (fun x hx => by rw [hd]; exact hx) (by rw [hd]) (by rw [hd])
  · rw [if_neg e]; exact h
theorem Good.setReg (h : Good q z m t f) (i : Nat) {v : Nat} (hv : v = 0 ∨ v ∈ t.s.pn) : Good q z m { t with R := t.R.set i v, S := t.S.set i (plc2 f v) } f :=
  ⟨h.os, h.or, h.mv, h.tw, by show (t.R.set i v).length = 4; rw [List.length_set]; exact h.rl, by show t.S.set i (plc2 f v) = (t.R.set i v).map (plc2 f); rw [List.map_set, h.sl], fun x hx => by
    rcases List.mem_or_eq_of_mem_set hx with e | e
    · exact h.ri x e
    · rw [e]; exact hv, h.z0, h.rz, h.rt, h.rs, h.ss, h.sq⟩
/-- Words of both turn. -/
theorem Good.both (h : Good q z m t f) {s' r' : Hp} (o : Ok s') (o' : Ok r') (w : Tw q s' r' f) (e1 : s'.pn = t.s.pn) (e2 : s'.z = t.s.z) (e3 : s'.se = t.s.se) (e4 : r'.mv = t.r.mv) (e5 : r'.z = t.r.z) (e6 : r'.tn = t.r.tn) (e7 : r'.u = t.r.u) (e8 : r'.se = t.r.se) : Good q z m { t with s := s', r := r' } f :=
  ⟨o, o', e4.trans h.mv, w, h.rl, h.sl, fun x hx => by show x = 0 ∨ x ∈ s'.pn; rw [e1]; exact h.ri x hx, e2.trans h.z0, e5.trans h.rz, by
    have e9 : r'.bn = t.r.bn := by unfold Hp.bn Hp.base; rw [e7, e5]
    show r'.tn ≤ r'.bn + 28 * m
    rw [e6, e9]; exact h.rt, by show r'.se ≤ m; rw [e8]; exact h.rs, by show s'.se ≤ m; rw [e3]; exact h.ss, fun e => by show r'.se = s'.se; rw [e8, e3]; exact h.sq e⟩
theorem Okw.still_ow {r : Hp} (k : Okw r) (hm : r.mv = false) : r.ow = 0 := by
  rw [k.owe, (k.stop hm).1]; rfl
theorem Good.setPtr (h : Good q z m t f) {i k : Nat} (hi : i < 4) (hk : k < 4) (j : Nat) : Good q z m (t.setPtr i k j) f := by
  unfold St.setPtr
  have hE := h.setPtrE hk hi j
  have os := h.os.setPtrS (t.R.getD k 0) j (t.R.getD i 0)
  have or' := h.or.setPtrS (t.S.getD k 0) j (t.S.getD i 0)
  unfold Hp.setPtrS at *
  rw [hE] at or' ⊢
  by_cases e : t.s.setPtrE (t.R.getD k 0) j (t.R.getD i 0) = 0
  · rw [if_pos e] at os or' ⊢
    rw [if_pos e]
    refine h.both os or' ?_ rfl rfl rfl rfl rfl rfl rfl rfl
    unfold Hp.setPtrE at e
    by_cases h1 : t.R.getD k 0 ∈ t.s.pn ∧ (t.R.getD i 0 = 0 ∨ t.R.getD i 0 ∈ t.s.pn)
    · rw [if_pos h1] at e
      by_cases h2 : j < hp (hdW t.s.l (t.R.getD k 0))
      · rw [h.reg_f hk h1.1]
        exact h.tw.put h.os.toOkw h.or.toOkw h1.1 (by unfold nA; omega) (by omega) (fun e => by omega) fun _ => ⟨InOk.ptrOk (h1.2.imp id .inl), .inl ((same_plc h.os.toOkw h1.2).2 (by rw [(h.reg hi).2]))⟩
      · rw [if_neg h2] at e; omega
    · rw [if_neg h1] at e; omega
  · rw [if_neg e, if_neg e]; exact h
theorem Good.setNum (h : Good q z m t f) {k : Nat} (hk : k < 4) (j : Nat) (n : Int) : Good q z m (t.setNum k j n) f := by
  unfold St.setNum
  have hE := h.setNumE hk j
  have os := h.os.setNumS (t.R.getD k 0) j n
  have or' := h.or.setNumS (t.S.getD k 0) j n
  unfold Hp.setNumS at *
  rw [hE] at or' ⊢
  by_cases e : t.s.setNumE (t.R.getD k 0) j = 0
  · rw [if_pos e] at os or' ⊢
    rw [if_pos e]
    refine h.both os or' ?_ rfl rfl rfl rfl rfl rfl rfl rfl
    unfold Hp.setNumE at e
    by_cases h1 : t.R.getD k 0 ∈ t.s.pn
    · rw [if_pos h1] at e
      by_cases h2 : j < hd (hdW t.s.l (t.R.getD k 0))
      · rw [h.reg_hd hk h1, h.reg_f hk h1]
        have := h.tw.put h.os.toOkw h.or.toOkw h1 (t := 3 + hp (hdW t.s.l (t.R.getD k 0)) + j) (v := zigOf n) (u := zigOf n) (by unfold nA; omega) (by omega) (fun _ => rfl) fun e => by omega
        rw [show t.R.getD k 0 + (3 + hp (hdW t.s.l (t.R.getD k 0)) + j) = t.R.getD k 0 + (3 + hp (hdW t.s.l (t.R.getD k 0)) + j) from rfl] at this
        exact this
      · rw [if_neg h2] at e; omega
    · rw [if_neg h1] at e; omega
  · rw [if_neg e, if_neg e]; exact h
theorem Good.setFr (h : Good q z m t f) {k : Nat} (hk : k < 4) (tf : Bool) : Good q z m (t.setFr k tf) f := by
  unfold St.setFr
  have os := h.os.frS (t.R.getD k 0) tf
  have or' := h.or.frS (t.S.getD k 0) tf
  unfold Hp.frS at *
  by_cases e : t.R.getD k 0 ∈ t.s.pn
  · have e' := (h.reg_in hk).1 e
    rw [if_pos e] at os ⊢
    rw [if_pos e'] at or' ⊢
    refine h.both os or' ?_ rfl rfl rfl rfl rfl rfl rfl rfl
    rw [h.reg_hd hk e, h.reg_f hk e]
    exact h.tw.mark h.os.toOkw h.or.toOkw (.inl e) (h.os.inn _ e).2.1.of
  · rw [if_neg e, if_neg fun e' => e ((h.reg_in hk).2 e')]; exact h
theorem rd_28 {p d : Nat} (o2 : p ≤ 8) (o3 : d ≤ 8) : Cls.rd (3 + p + d) ≤ 28 := by
  have h5 : 2 * Cls.rd (3 + p + d) ≤ 3 * (3 + p + d) ∨ 3 + p + d < 4 := by
    by_cases h : 3 + p + d < 4
    · exact .inr h
    · exact .inl (Cls.rd_half (by omega) (by omega))
  rcases h5 with h5 | h5
  · omega
  · have e : 3 + p + d = 3 := by omega
    rw [e]; decide
theorem Good.room2 (h : Good q z m t f) (hm : m ≤ 500) : 28 ≤ t.r.room := by
  unfold Hp.room
  have h1 := h.rt
  have h2 := h.or.still_ow h.mv
  have h3 := h.rz
  have h4 := h.or.t0
  omega
theorem Good.alloc (h : Good q z m t f) (hm : m ≤ 500) {i p d : Nat} {wk fn : Bool} (hi : i < 4) (o1 : shB p d wk fn = true) (o2 : p ≤ 8) (o3 : d ≤ 8) : ∃ f', Good q z (m + 1) (t.alloc i p d wk fn) f' := by
  unfold St.alloc
  by_cases e : t.s.room < 32
  · rw [if_pos e]; exact ⟨f, h.more (by omega)⟩
  · rw [if_neg e]
    have h28 := rd_28 o2 o3
    have hr : Cls.rd (3 + p + d) ≤ t.s.room := by omega
    have hr' : Cls.rd (3 + p + d) ≤ t.r.room := by have := h.room2 hm; omega
    have h1 := h.ss
    have h2 := h.rs
    have pl := h.os.lay_place o1 o2 o3 hr
    have hne : ∀ x ∈ t.s.pn, x ≠ t.s.tn := fun x hx => h.os.live_ne_tn (.inl hx) (by omega)
    have ht0 : t.s.tn ≠ 0 := by have := h.os.t0; have := h.os.bases; omega
    refine ⟨_, h.os.lay o1 o2 o3 hr (by omega), h.or.lay o1 o2 o3 hr' (by omega), h.mv, h.tw.lay h.os h.or o1 o2 o3 hr hr' h.sq, by show (t.R.set i _).length = 4; rw [List.length_set]; exact h.rl, ?_, ?_, h.z0, h.rz, ?_, ?_, ?_, ?_⟩
    · show t.S.set i t.r.tn = (t.R.set i t.s.tn).map (plc2 _)
      rw [List.map_set, h.sl]
      have e1 : t.R.map (plc2 fun x => if x = t.s.tn then t.r.tn else f x) = t.R.map (plc2 f) := List.map_congr_left fun x hx => by
        unfold plc2
        rcases h.ri x hx with e | e
        · rw [if_pos e, if_pos e]
        · dsimp only
          rw [if_neg (hne x e)]
      rw [e1]
      unfold plc2
      dsimp only
      rw [if_neg ht0, if_pos rfl]
    · intro x hx
      show x = 0 ∨ x ∈ t.s.pn ++ [t.s.tn]
      rw [List.mem_append]
      rcases List.mem_or_eq_of_mem_set hx with e | e
      · exact (h.ri x e).imp id .inl
      · exact .inr (.inr (by simp [e]))
    · show t.r.tn + Cls.rd (3 + p + d) ≤ t.r.bn + 28 * (m + 1)
      have := h.rt; omega
    · show t.r.se + 1 ≤ m + 1; omega
    · show t.s.se + 1 ≤ m + 1; omega
    · intro e; show t.r.se + 1 = t.s.se + 1; rw [h.sq e]
theorem Good.flip (h : Good q z m t f) (hm : t.s.mv = false) : ∃ f', Good q z m t.flip f' := by
  unfold St.flip
  have g := h.os.flip hm
  have w := h.tw.flip h.os.toOkw hm
  have hR4 := h.rl
  have hin : ∀ x ∈ t.R, InOk t.s.flip x := fun x hx => (h.ri x hx).imp id .inr
  obtain ⟨f', w', _, _, r'⟩ := w.movedL_all g t.R (nums t.S) (by rw [nums_length, h.sl, List.length_map]) fun j hj => by
    rw [hR4] at hj
    have hreg := h.reg hj
    refine ⟨hreg.1.imp id .inr, ?_⟩
    rw [nums_getD (by rw [h.sl, List.length_map]; omega), hreg.2]
    unfold SameTo plc2
    rw [Int.toNat_natCast]
    rcases hreg.1 with e | e
    · rw [e, g.fwd_zero]; exact .inl ⟨rfl, rfl⟩
    · have hob := (h.os.inn _ e).2.1
      have := h.os.live_pos (.inl e)
      rw [show fwd t.s.flip.l (t.R.getD j 0) = t.R.getD j 0 from hob.fwd, if_neg (by omega)]
      exact .inr ⟨.inr ⟨e, hob⟩, rfl⟩
  have hs := movedL_same t.s.flip t.R
  have hri := g.movVL_in t.R hin
  have gm := g.movedL t.R
  have hlen : (t.s.flip.movVL t.R).length = 4 := by rw [movVL_length]; exact hR4
  refine ⟨f', gm, h.or, h.mv, w', hlen, ?_, hri, hs.2.2.2.1.trans h.z0, h.rz, h.rt, h.rs, by show (t.s.flip.movedL t.R).se ≤ m; rw [hs.2.2.2.2.2.1]; exact h.ss, fun e => by show t.r.se = (t.s.flip.movedL t.R).se; rw [hs.2.2.2.2.2.1]; exact h.sq e⟩
  have hS4 : t.S.length = 4 := by rw [h.sl, List.length_map]; exact hR4
  apply List.ext_getElem (by rw [hS4, List.length_map]; exact hlen.symm)
  intro j h1 h2
  have hj : j < 4 := by rw [hS4] at h1; exact h1
  have hrj := r' j (by omega)
  have hv := hri ((t.s.flip.movVL t.R).getD j 0) (by rw [List.getD_eq_getElem?_getD, List.getElem?_eq_getElem (by omega)]; exact List.getElem_mem _)
  have := (same_plc gm.toOkw hv).1 hrj
  rw [nums_getD (by omega)] at this
  rw [List.getElem_map]
  have e1 : t.S.getD j 0 = t.S[j] := by simp [List.getD, hS4, hj]
  have e2 : (t.s.flip.movVL t.R).getD j 0 = (t.s.flip.movVL t.R)[j]'(by omega) := by simp [List.getD, hlen, hj]
  rw [e1, e2] at this
  exact Int.ofNat.inj this
theorem list_set_self {l : List Int} {c : Nat} (v : Int) (h : c < l.length) (e : l.getD c 0 = v) : l.set c v = l := by
  apply List.ext_getElem (by simp)
  intro j h1 h2
  rw [List.getElem_set]
  by_cases e' : c = j
  · subst e'
    rw [if_pos rfl, ← e]
    simp [List.getD, h]
  · rw [if_neg e']
/-- In a heap that is not moving a pointer is told as it is. -/
theorem Ok.still_ptr {r : Hp} (k : Ok r) (hm : r.mv = false) (b i : Nat) : r.ptrS b i = r ∧ r.ptrV b i = if r.ptrE b i = 0 then r.ptrT b i else 0 := by
  have hpk := (k.stop hm).1
  have hmv : ∀ p, r.moved p = r ∧ r.movV p = p := fun p => movV_out (by rw [hpk]; simp)
  unfold Hp.ptrS Hp.ptrV
  by_cases e : r.ptrE b i = 0
  · rw [if_pos e, if_pos e, if_pos e, (hmv _).1, (hmv _).2]
    obtain ⟨h1, h2, h3, o, hin, e2⟩ := k.ptr_in e
    refine ⟨?_, rfl⟩
    rw [e2]
    unfold Hp.put
    have hn := ((k.inn b h1).2.1).nA_le
    rw [list_set_self _ (by omega) rfl]
  · rw [if_neg e, if_neg e, if_neg e]; exact ⟨rfl, rfl⟩
theorem Good.ptr (h : Good q z m t f) {i k : Nat} (hi : i < 4) (hk : k < 4) (j : Nat) (hs : t.strong k) : ∃ f', Good q z m (t.ptr i k j) f' := by
  unfold St.ptr
  have hE := h.ptrE hk j
  obtain ⟨k1, k2⟩ := h.or.still_ptr h.mv (t.S.getD k 0) j
  rw [k1, k2, hE]
  have os := h.os.ptrS (t.R.getD k 0) j
  unfold Hp.ptrV Hp.ptrS at *
  by_cases e : t.s.ptrE (t.R.getD k 0) j = 0
  · rw [if_pos e] at os ⊢
    rw [if_pos e, if_pos e, if_pos e, if_pos e]
    obtain ⟨h1, h2, h3, o, hin, e2⟩ := h.os.ptr_in e
    have hfk := h.reg_f hk h1
    have hwf : hw (hdW t.s.l (t.R.getD k 0)) = false := by rw [← h.reg_hd hk h1]; exact hs.2
    have hst : SameTo t.s f (t.s.l.getD (t.R.getD k 0 + (3 + j)) 0) (t.r.l.getD (f (t.R.getD k 0) + (3 + j)) 0) := by
      rcases h.tw.ptr _ (.inl h1) j h2 with e | ⟨e, _⟩
      · exact e
      · rw [hwf] at e; exact absurd e (by decide)
    obtain ⟨f', w, hf, hsm⟩ := h.tw.moved_all h.os.toOkw (t.s.ptrT (t.R.getD k 0) j)
    have hs1 := hsm _ _ o hst
    rw [← e2] at hs1
    have hs2 := h.os.movV_same hin hs1
    have hms := moved_same t.s (t.s.ptrT (t.R.getD k 0) j)
    have hmp := fun x (hx : x ∈ t.s.pn) => moved_pn t.s (t.s.ptrT (t.R.getD k 0) j) hx
    have hv : t.s.movV (t.s.ptrT (t.R.getD k 0) j) = 0 ∨ t.s.movV (t.s.ptrT (t.R.getD k 0) j) ∈ (t.s.moved (t.s.ptrT (t.R.getD k 0) j)).pn := (h.os.movV_in hin).imp (fun e => e.1) id
    have gm := h.os.moved (t.s.ptrT (t.R.getD k 0) j)
    have hhd := h.os.moved_head (t.s.ptrT (t.R.getD k 0) j) h1
    have hplc := (same_plc gm.toOkw hv).1 hs2
    have hu : t.r.ptrT (t.S.getD k 0) j = plc2 f' (t.s.movV (t.s.ptrT (t.R.getD k 0) j)) := by
      unfold Hp.ptrT at hplc ⊢
      rw [hfk, hplc, Int.toNat_natCast]
    rw [hu]
    have hfr := hf _ h1
    generalize t.s.movV (t.s.ptrT (t.R.getD k 0) j) = v at *
    generalize t.s.moved (t.s.ptrT (t.R.getD k 0) j) = s1 at *
    have hx := hmp _ h1
    have ht : 3 + j < nA s1.l (t.R.getD k 0) := by rw [nA_congr hhd]; exact h3
    have w2 : Tw q (s1.put (t.R.getD k 0 + (3 + j)) (v : Nat)) t.r f' := by
      have hhs := gm.put_heads hx (v := ((v : Nat) : Int)) ht (.inr (by omega))
      have hxl := (gm.inn _ hx).2.1.nA_le
      have hword : ∀ y c, Live s1 y → c < nA s1.l y → (s1.put (t.R.getD k 0 + (3 + j)) (v : Nat)).l.getD (y + c) 0 = if y = t.R.getD k 0 ∧ c = 3 + j then ((v : Nat) : Int) else s1.l.getD (y + c) 0 := fun y c hy hc => by
        have hyl := (gm.live_ob hy).nA_le
        show (s1.l.set _ _).getD (y + c) 0 = _
        rw [set_at' (by omega)]
        by_cases e : y = t.R.getD k 0
        · subst e
          by_cases e' : c = 3 + j
          · subst e'; rw [if_pos rfl, if_pos ⟨rfl, rfl⟩]
          · rw [if_neg (by omega), if_neg (fun h => e' h.2)]
        · rw [if_neg (fun e' => (gm.live_apart (.inl hx) (hy.imp id fun e => e.1) (fun h => e h.symm) ht).2 (gm.live_ob hy) c hc e'.symm), if_neg (fun h => e h.1)]
      refine w.poke gm.toOkw (by show (s1.l.set _ _).length = _; rw [List.length_set]) rfl rfl ?_ hhs (fun y hy c hc hno => ?_) fun y hy c hc => ?_
      · show (s1.l.set _ _).getD 0 0 = 0
        rw [set_at' (by omega), if_neg (by omega)]; exact gm.zero
      · rw [hword y c hy hc, if_neg]
        rintro ⟨rfl, rfl⟩
        have : hp (hdW s1.l (t.R.getD k 0)) = hp (hdW t.s.l (t.R.getD k 0)) := by rw [hdW_congr hhd]
        omega
      · rw [hword y (3 + c) hy (by unfold nA; omega)]
        by_cases e : y = t.R.getD k 0 ∧ 3 + c = 3 + j
        · rw [if_pos e]
          obtain ⟨rfl, e3⟩ := e
          obtain rfl : c = j := by omega
          right
          rw [hfr]
          exact ⟨InOk.ptrOk (hv.imp id .inl), hs2⟩
        · rw [if_neg e]; exact .inl rfl
    exact ⟨f', (h.first os w2 hf hmp hms.2.2.2.1 hms.2.2.2.2.2.1).setReg i hv⟩
  · rw [if_neg e, if_neg e, if_neg e]
    exact ⟨f, h⟩
end

end Go.Proofs.YtbjmeibcphmgbaaGreat

namespace Go.Proofs.YtbjmeibcphmgbaaGreat
open Go.ChangeShapes Go.WideShapes Go.ChangeAt Go.RowKit

set_option linter.unusedSimpArgs false
set_option linter.unusedVariables false

set_option maxRecDepth 100000 in
theorem ints09_nil (a a' : Option Addr) (c c' : Nat) (w : World) :
    Calls Tryz.prog 69 #[.slice a 0 c, .slice a' 0 c'] w fun e w' => e = .returned (.bool true) ∧ Below w.heap.size w w' := by
  go_enter Tryz.func69, Tryz.ntmps69
  go_wp2
  go_loopw [5] (fun i wr => i = .int .i64 0 ∧ Below w.heap.size w wr) (fun i _ => 0)
  case atStart => exact ⟨rfl, Below.refl _ _⟩
  case round =>
    obtain ⟨rfl, hB⟩ := hrel
    go_wp2
    go_ret
    exact ⟨rfl, hB⟩

set_option maxRecDepth 100000 in
set_option maxHeartbeats 1000000 in
theorem ints09_same (v u : Value) (xs : List Int) (w : World) (hv : ReadsAs .i64 w v xs) (hu : ReadsAs .i64 w u xs) :
    Calls Tryz.prog 69 #[v, u] w fun e w' => e = .returned (.bool true) ∧ Below w.heap.size w w' := by
  obtain ⟨hm, hv⟩ := hv
  obtain ⟨_, hu⟩ := hu
  by_cases h0 : xs = []
  · subst h0
    obtain ⟨a, c, rfl⟩ : ∃ a c, v = .slice a 0 c := by
      rcases hv with ⟨_, c, rfl⟩ | ⟨g, c, rfl, _⟩
      · exact ⟨_, _, rfl⟩
      · exact ⟨_, _, rfl⟩
    obtain ⟨a', c', rfl⟩ : ∃ a c, u = .slice a 0 c := by
      rcases hu with ⟨_, c, rfl⟩ | ⟨g, c, rfl, _⟩
      · exact ⟨_, _, rfl⟩
      · exact ⟨_, _, rfl⟩
    exact ints09_nil a a' c c' w
  · rcases hv with ⟨h, _⟩ | ⟨g, c, rfl, hc, hg, hr⟩
    · exact absurd h h0
    · rcases hu with ⟨h, _⟩ | ⟨g', c', rfl, hc', hg', hr'⟩
      · exact absurd h h0
      · unfold maxLen at hm
        have HR := Lib.hid hr
        have HR' := Lib.hid hr'
        obtain ⟨n, hn⟩ : ∃ n, xs.length = n := ⟨_, rfl⟩
        have Hn := Lib.hid hn
        rw [hn] at hm hc hc' ⊢
        clear hr hr' hn h0
        go_enter Tryz.func69, Tryz.ntmps69
        go_wp2
        go_loopw [5] (fun i wr => ∃ k : Nat, k ≤ n ∧ i = .int .i64 k ∧ Below w.heap.size w wr) (fun i _ => n - (intOf i).toNat)
        case atStart => exact ⟨0, by omega, rfl, Below.refl _ _⟩
        case round =>
          obtain ⟨k, hk, rfl, hB⟩ := hrel
          by_cases hlt : k < n
          · have a1 := (hB.cell (p := ⟨g, k, none⟩) hg).trans (HR.out k (by rw [Hn.out]; exact hlt))
            have a2 := (hB.cell (p := ⟨g', k, none⟩) hg').trans (HR'.out k (by rw [Hn.out]; exact hlt))
            generalize xs.getD k 0 = x at *
            have b0 : (0 : Int) ≤ (k : Int) := by omega
            have b1 : (k : Int) < (n : Int) := by omega
            go_wp2
            go_quiet (fail)
            go_wp2
            go_roundw
            case rel => exact ⟨k + 1, by omega, by go_num, drewN_below hB _⟩
            case measure => simp [intOf]; omega
          · go_wp2
            go_ret
            exact ⟨rfl, hB⟩

/-- A node's eight cells. -/
abbrev Row8 (nb o : Nat) (x0 : Int) (x1 x2 : Nat) (x3 x4 x5 : Bool) (pv nv : Value) (w : World) : Prop :=
  w.cell? ⟨nb, o, none⟩ = some (.int .i64 x0) ∧ w.cell? ⟨nb, o + 1, none⟩ = some (.int .i64 x1) ∧ w.cell? ⟨nb, o + 2, none⟩ = some (.int .i64 x2) ∧ w.cell? ⟨nb, o + 3, none⟩ = some (.bool x3) ∧
    w.cell? ⟨nb, o + 4, none⟩ = some (.bool x4) ∧ w.cell? ⟨nb, o + 5, none⟩ = some (.bool x5) ∧ w.cell? ⟨nb, o + 6, none⟩ = some pv ∧ w.cell? ⟨nb, o + 7, none⟩ = some nv
set_option maxRecDepth 100000 in
set_option maxHeartbeats 8000000 in
theorem same09_yes (B B' n : Nat) (v u : Value) (f : Nat → Nd) (w : World) (hv : NodesAt B w v f n) (hu : NodesAt B' w u f n) (hn : n ≤ 65536) :
    Calls Tryz.prog 28 #[v, u] w fun e w' => e = .returned (.bool true) ∧ Below w.heap.size w w' := by
  obtain ⟨va, vc, rfl, hv⟩ := hv
  obtain ⟨ua, uc, rfl, hu⟩ := hu
  have Hv := Lib.hid hv
  have Hu := Lib.hid hu
  clear hv hu
  go_enter Tryz.func28, Tryz.ntmps28
  go_wp2
  go_loopw [5] (fun i wr => ∃ k : Nat, k ≤ n ∧ i = .int .i64 k ∧ Below w.heap.size w wr) (fun i _ => n - (intOf i).toNat)
  case atStart => exact ⟨0, by omega, rfl, Below.refl _ _⟩
  case round =>
    obtain ⟨k, hk, rfl, hB⟩ := hrel
    by_cases hlt : k < n
    · obtain ⟨nb, rfl, hB1, hl1, hc1, hr1⟩ := Hv.out (by omega)
      obtain ⟨nb', rfl, hB2, hl2, hc2, hr2⟩ := Hu.out (by omega)
      obtain ⟨pv, nv, C, r1, r2⟩ := hr1 k hlt
      obtain ⟨pu, nu, D, r3, r4⟩ := hr2 k hlt
      have HC : ∀ y, Below w.heap.size w y → Row8 nb (k * 8) (f k).ser (f k).p (f k).d (f k).wk (f k).fn (f k).fr pv nv y := fun y hb => by
        obtain ⟨c0, c1, c2, c3, c4, c5, c6, c7⟩ := C
        have hbe := fun j => hb.cell (p := ⟨nb, j, none⟩) hl1
        exact ⟨(hbe _).trans c0, (hbe _).trans c1, (hbe _).trans c2, (hbe _).trans c3, (hbe _).trans c4, (hbe _).trans c5, (hbe _).trans c6, (hbe _).trans c7⟩
      have HD : ∀ y, Below w.heap.size w y → Row8 nb' (k * 8) (f k).ser (f k).p (f k).d (f k).wk (f k).fn (f k).fr pu nu y := fun y hb => by
        obtain ⟨c0, c1, c2, c3, c4, c5, c6, c7⟩ := D
        have hbe := fun j => hb.cell (p := ⟨nb', j, none⟩) hl2
        exact ⟨(hbe _).trans c0, (hbe _).trans c1, (hbe _).trans c2, (hbe _).trans c3, (hbe _).trans c4, (hbe _).trans c5, (hbe _).trans c6, (hbe _).trans c7⟩
      clear C D
      generalize f k = x at *
      obtain ⟨x0, x1, x2, x3, x4, x5, x6, x7⟩ := x
      dsimp only at HC HD r1 r2 r3 r4
      have H1 := fun y (hb : Below w.heap.size w y) => ints09_same pv pu x6 y (r1.1.below hb) (r3.1.below hb)
      have H2 := fun y (hb : Below w.heap.size w y) => ints09_same nv nu x7 y (r2.1.below hb) (r4.1.below hb)
      have HC := Lib.hid HC
      have HD := Lib.hid HD
      have H1 := Lib.hid H1
      have H2 := Lib.hid H2
      clear hr1 hr2 r1 r2 r3 r4
      have b0 : (0 : Int) ≤ (k : Int) := by omega
      have b1 : (k : Int) < (n : Int) := by omega
      have e0 : (x0 != x0) = false := bne_self_eq_false' x0
      have e5 : (x5 != x5) = false := bne_self_eq_false' x5
      go_wp2_with fail
      refine wp_region_held_drew (S := fun y => Row8 nb (k * 8) x0 x1 x2 x3 x4 x5 pv nv y ∧ Row8 nb' (k * 8) x0 x1 x2 x3 x4 x5 pu nu y ∧ Below w.heap.size w y) (by kernel_rfl) ⟨HC.out _ hB.drew, HD.out _ hB.drew, hB.drew⟩ (fun hS => ?_)
      have hc_ : Cnt 0 := trivial
      iterate 48 ((first | (refine takeC hc_ (v := ?_) rfl (by kernel_rfl) (by kernel_rfl) (by kernel_rfl) (fun _ _ _ h => h) (Or.inl ⟨by rfl, ?_⟩) hS ?_; rotate_left; (· (intro y hy; (try dsimp only at hy); go_simp; try with_reducible rfl))) | refine takeC hc_ (v := undef) rfl (by kernel_rfl) (by kernel_rfl) (by kernel_rfl) (fun _ _ _ h => h) (Or.inr ⟨by rfl, rfl⟩) hS ?_); try simp only [Act.put, List.setIfInBounds_toArray, List.set_cons_zero, List.set_cons_succ, List.getElem_toArray, List.append, List.getElem_cons_zero, List.getElem_cons_succ]; replace hc_ := hc_.next; simp only [Nat.reduceAdd] at hc_)
      clear hc_
      refine wpAnyH_ready (rs := [48]) (by kernel_rfl) (by simp) ?_
      refine AllReadyH.cons (o := _) rfl (fun K hK => ?_) AllReadyH.nil
      go_simp
      refine (H1.out _ hS.2.2).mono ?_
      rintro e y ⟨rfl, hb⟩
      refine hK.out _ _ (by have h3 := hS.2.2.trans (hb.mono hS.2.2.size); exact ⟨HC.out _ h3, HD.out _ h3, h3⟩) (fun hS => ?_)
      clear hK K
      try simp only [Act.put, List.setIfInBounds_toArray, List.set_cons_zero, List.set_cons_succ]
      have hc_ : Cnt 49 := trivial
      iterate 13 ((first | (refine takeC hc_ (v := ?_) rfl (by kernel_rfl) (by kernel_rfl) (by kernel_rfl) (fun _ _ _ h => h) (Or.inl ⟨by rfl, ?_⟩) hS ?_; rotate_left; (· (intro y hy; (try dsimp only at hy); go_simp; try with_reducible rfl))) | refine takeC hc_ (v := undef) rfl (by kernel_rfl) (by kernel_rfl) (by kernel_rfl) (fun _ _ _ h => h) (Or.inr ⟨by rfl, rfl⟩) hS ?_); try simp only [Act.put, List.setIfInBounds_toArray, List.set_cons_zero, List.set_cons_succ, List.getElem_toArray, List.append, List.getElem_cons_zero, List.getElem_cons_succ]; replace hc_ := hc_.next; simp only [Nat.reduceAdd] at hc_)
      clear hc_
      refine wpAnyH_ready (rs := [62]) (by kernel_rfl) (by simp) ?_
      refine AllReadyH.cons (o := _) rfl (fun K hK => ?_) AllReadyH.nil
      go_simp
      refine (H2.out _ hS.2.2).mono ?_
      rintro e y ⟨rfl, hb⟩
      refine hK.out _ _ (by have h3 := hS.2.2.trans (hb.mono hS.2.2.size); exact ⟨HC.out _ h3, HD.out _ h3, h3⟩) (fun hS => ?_)
      clear hK K
      try simp only [Act.put, List.setIfInBounds_toArray, List.set_cons_zero, List.set_cons_succ]
      have hc_ : Cnt 63 := trivial
      iterate 2 ((first | (refine takeC hc_ (v := ?_) rfl (by kernel_rfl) (by kernel_rfl) (by kernel_rfl) (fun _ _ _ h => h) (Or.inl ⟨by rfl, ?_⟩) hS ?_; rotate_left; (· (intro y hy; (try dsimp only at hy); go_simp; try with_reducible rfl))) | refine takeC hc_ (v := undef) rfl (by kernel_rfl) (by kernel_rfl) (by kernel_rfl) (fun _ _ _ h => h) (Or.inr ⟨by rfl, rfl⟩) hS ?_); try simp only [Act.put, List.setIfInBounds_toArray, List.set_cons_zero, List.set_cons_succ, List.getElem_toArray, List.append, List.getElem_cons_zero, List.getElem_cons_succ]; replace hc_ := hc_.next; simp only [Nat.reduceAdd] at hc_)
      clear hc_
      refine wpAnyH_done (by kernel_rfl) ?_ _
      go_wp2
      go_roundw
      case rel => exact ⟨k + 1, by omega, by go_num, hS.2.2⟩
      case measure => simp [intOf]; omega
    · go_wp2
      go_ret
      exact ⟨rfl, hB⟩

end Go.Proofs.YtbjmeibcphmgbaaGreat

namespace Go.Proofs.YtbjmeibcphmgbaaGreat
open Go.ChangeShapes Go.WideShapes Go.ChangeAt Go.RowKit

set_option linter.unusedSimpArgs false
set_option linter.unusedVariables false

theorem newH_small (z : Int) (hz : z < 16) (hz0 : -9223372036854775808 ≤ z) (w : World) :
    Calls Tryz.prog 46 #[.int .i64 z] w fun e w' => e = .returned (.tuple #[.pointer none, .int .i64 1]) ∧ Below w.heap.size w w' := by
  have d0 : decide (z < 16) = true := decide_eq_true hz
  go_enter Tryz.func46, Tryz.ntmps46
  go_wp2
  go_ret2
  exact ⟨rfl, Below.refl _ _⟩

set_option maxHeartbeats 2000000 in
theorem newH_yes (z : Nat) (h0 : 16 ≤ z) (h1 : z ≤ 16384) (w : World) :
    Calls Tryz.prog 46 #[.int .i64 z] w fun e w' => ∃ H, e = .returned (.tuple #[.pointer (some ⟨H, 0, none⟩), .int .i64 0]) ∧ HeapAt w' (fun k => w.heap.size ≤ k ∧ k < w'.heap.size) H (Hp.new z) ∧ Below w.heap.size w w' := by
  have d0 : decide ((z : Int) < 16) = false := decide_eq_false (by omega)
  have d1 : decide ((16384 : Int) < (z : Int)) = false := decide_eq_false (by omega)
  have i0 : IntKind.i64.wrap (2 * (z : Int)) = 2 * (z : Int) := IntWalk.i64_in _ (by omega)
  have i1 : IntKind.i64.wrap (2 * (z : Int) + 1) = ((2 * z + 1 : Nat) : Int) := by rw [IntWalk.i64_in _ (by omega)]; omega
  have i2 : IntKind.i64.wrap (1 + (z : Int)) = ((1 + z : Nat) : Int) := by rw [IntWalk.i64_in _ (by omega)]; omega
  have MA := new_any (2 * z + 1 : Nat) w (by omega) (by omega)
  have M1 : ∀ w, Calls Tryz.prog 80 #[.int .i64 1, .int .i64 z] w fun e w' => e = .returned (.tuple #[spV 1 z 1, .bool true]) ∧ Below w.heap.size w w' := fun w => make_ok 1 z ⟨by omega, by omega, by omega, by omega⟩ w
  have M2 := make_ok (1 + z) z ⟨by omega, by omega, by omega, by omega⟩
  obtain ⟨zz, hzz⟩ : ∃ zz, 2 * z + 1 = zz := ⟨_, rfl⟩
  rw [hzz] at i1 MA
  obtain ⟨z1, hz1⟩ : ∃ z1, 1 + z = z1 := ⟨_, rfl⟩
  rw [hz1] at i2 M2
  go_enter Tryz.func46, Tryz.ntmps46
  go_wp2_with fail
  refine MA.mono ?_
  rintro e x ⟨P, b, rfl, hA, hP, hb, hB⟩
  go_wp2_with fail
  refine (M1 _).mono ?_
  rintro e x1 ⟨rfl, hb1⟩
  have hA1 := hA.below hb1 hA.lt.1 hA.lt.2
  replace hB := hB.trans (hb1.mono hB.size)
  clear hb1 hA x
  go_wp2_with fail
  have hb2 := (Below.refl _ x1).alloc (Nat.le_refl _) (.cells #[.int .i64 1, .int .i64 z, .int .i64 1] 76)
  have k1 := BlkIs.new x1 #[.int .i64 1, .int .i64 z, .int .i64 1] 76
  replace hA1 := hA1.below hb2 hA1.lt.1 hA1.lt.2
  replace hB := hB.trans (hb2.mono hB.size)
  obtain ⟨q, hq⟩ : ∃ q, x1.heap.size = q := ⟨_, rfl⟩
  rw [hq] at k1
  have Hq := Lib.hid hq
  refine (M2 _).mono ?_
  rintro e x2 ⟨rfl, hb3⟩
  have hA2 := hA1.below hb3 hA1.lt.1 hA1.lt.2
  replace k1 := k1.more hb3 (Nat.le_refl _)
  replace hB := hB.trans (hb3.mono hB.size)
  have hw2 : w.heap.size ≤ x2.heap.size := hB.size
  have hPl := hA2.lt
  clear hb3 hb2 hA1
  obtain ⟨⟨c0, c1, c2⟩, -⟩ := blk3 k1
  have hql := k1.lt
  rw [hq]
  clear hq
  go_wp2_with fail
  go_ret2
  obtain ⟨X, hX⟩ : ∃ X, (x2.alloc (.cells #[.int .i64 z1, .int .i64 z, .int .i64 z1] 76)).alloc (.cells #[.pointer (some ⟨P, 0, none⟩), .int .i64 1, .int .i64 z, .int .i64 1, .int .i64 z1, .int .i64 z, .int .i64 z1, .slice none 0 0, .slice none 0 0, .int .i64 0, .bool false, .int .i64 0, .int .i64 0, .int .i64 0, .slice none 0 0, .slice none 0 0] 80) = X := ⟨_, rfl⟩
  obtain ⟨-, kH, hb4⟩ := two_new x2 #[.int .i64 z1, .int .i64 z, .int .i64 z1] #[.pointer (some ⟨P, 0, none⟩), .int .i64 1, .int .i64 z, .int .i64 1, .int .i64 z1, .int .i64 z, .int .i64 z1, .slice none 0 0, .slice none 0 0, .int .i64 0, .bool false, .int .i64 0, .int .i64 0, .int .i64 0, .slice none 0 0, .slice none 0 0] 76 80
  rw [hX] at kH hb4
  have hA4 := hA2.below hb4 hA2.lt.1 hA2.lt.2
  have hB4 := hB.trans (hb4.mono hw2)
  have hs4 := hb4.size
  refine ⟨x2.heap.size + 1, rfl, ⟨P, b, .slice none 0 0, .slice none 0 0, .slice none 0 0, .slice none 0 0, ⟨?_, ?_, World.ownsRow_nil _ _ _ _, World.ownsRow_nil _ _ _ _, World.ownsRow_nil _ _ _ _, World.ownsRow_nil _ _ _ _, fun g => ⟨fun e => by simp [Value.ownBlock] at e, fun e => by simp [Value.ownBlock] at e, fun e => by simp [Value.ownBlock] at e⟩⟩, fun k hk => ?_⟩, ?_⟩
  · rw [hX]
    subst hz1
    exact kH
  · rw [hX]
    subst hzz
    exact hA4
  · have := kH.lt
    rw [hX]
    rcases hk with rfl | rfl | rfl | e | e | e | e
    · exact ⟨by omega, by omega⟩
    · exact ⟨by omega, by omega⟩
    · exact ⟨by omega, by omega⟩
    all_goals simp [Value.ownBlock] at e
  · rw [hX]; exact hB4

section
variable {w : World} {H P b : Nat} {v0 v1 v2 v3 : Value} {s : Hp} {K : Nat → Prop}

theorem flip_rows (hu : s.u = 0 ∨ s.u = 1) : ∀ j, j < 4 → s.flip.rows j = s.rows j := by
  rcases s with ⟨l, z, u, mv, pn, pk, tn, tk, ow, sc, se, wk, fi⟩
  rcases hu with hu | hu <;> (simp only at hu; subst hu; exact four rfl rfl rfl rfl)
theorem flip_blk (hu : s.u = 0 ∨ s.u = 1) : hpC P (s.base 0) s.z (s.top 0) (s.base 1) (s.top 1) v0 v1 (1 - s.u) true (s.tn - s.bn) s.bk s.se v2 v3 =
    hpC P (s.flip.base 0) s.flip.z (s.flip.top 0) (s.flip.base 1) (s.flip.top 1) v0 v1 s.flip.u s.flip.mv s.flip.ow s.flip.sc s.flip.se v2 v3 := by
  rcases s with ⟨l, z, u, mv, pn, pk, tn, tk, ow, sc, se, wk, fi⟩
  rcases hu with hu | hu <;> (simp only at hu; subst hu; rfl)

theorem flipH_no (h : HeapIn w H P b v0 v1 v2 v3 s) (hm : s.mv = true) :
    Calls Tryz.prog 16 #[.pointer (some ⟨H, 0, none⟩)] w fun e w' => e = .returned (.bool false) ∧ Below w.heap.size w w' := by
  have c0 : w.cell? ⟨H, 10, none⟩ = some (.bool true) := by rw [← hm]; exact h.blk.cell 10
  clear h
  go_enter Tryz.func16, Tryz.ntmps16
  go_wp2
  go_ret
  exact ⟨rfl, Below.refl _ _⟩

set_option maxRecDepth 100000 in
set_option maxHeartbeats 4000000 in
theorem flipH_yes (h : HeapIn w H P b v0 v1 v2 v3 s) (hF : ∀ k, Foot H P b v0 v1 v2 v3 k → K k) (g : Sound s) (hm : s.mv = false) :
    Calls Tryz.prog 16 #[.pointer (some ⟨H, 0, none⟩)] w fun e w' => e = .returned (.bool true) ∧ Went w K H s.flip w' := by
  have c10 : w.cell? ⟨H, 10, none⟩ = some (.bool false) := by rw [← hm]; exact h.blk.cell 10
  have f10 := h.blk.free 10
  have hl := h.blk.lt
  have g0 := g.t0
  have g1 := g.t1
  have gz := g.z1
  have hbn : s.bn ≤ 16385 := by have := g.z1; unfold Hp.bn Hp.base; split <;> omega
  have U1 := used_ok s.bn s.z s.tn ⟨by omega, by omega, by omega, by omega⟩
  go_enter Tryz.func16, Tryz.ntmps16
  go_upto_region 4 with fail
  have hcs := (Chg.refl (· = H) w).setCell (p := ⟨H, 10, none⟩) (.inl rfl) (.bool true)
  have h1 : HeapIn (w.setCell ⟨H, 10, none⟩ (.bool true)) H P b v0 v1 v2 v3 { s with mv := true } := h.cells hcs rfl (four rfl rfl rfl rfl) (h.blk.set 10 _)
  generalize w.setCell ⟨H, 10, none⟩ (.bool true) = x at *
  clear c10 f10 h
  rcases h1.inuse g.u01 with ⟨hu, c9, cB, cZ, cT⟩ | ⟨hu, c9, cB, cZ, cT⟩
  · replace hu : s.u = 0 := hu
    replace cB : x.cell? ⟨H, 1, none⟩ = some (.int .i64 s.bn) := cB
    replace cT : x.cell? ⟨H, 3, none⟩ = some (.int .i64 s.tn) := cT
    replace cZ : x.cell? ⟨H, 2, none⟩ = some (.int .i64 s.z) := cZ
    refine wp_region_noPanic ?_
    refine wp_region_held_drew (S := fun y => y.cell? ⟨H, 9, none⟩ = some (.int .i64 0) ∧ y.cell? ⟨H, 1, none⟩ = some (.int .i64 s.bn) ∧ y.cell? ⟨H, 2, none⟩ = some (.int .i64 s.z) ∧ y.cell? ⟨H, 3, none⟩ = some (.int .i64 s.tn)) (by kernel_rfl) ⟨c9, cB, cZ, cT⟩ (fun hS => ?_)
    have hd : HeapIn x.drew H P b v0 v1 v2 v3 { s with mv := true } := h1.on (Below.refl _ x).drew
    have hcd := hcs.drew
    have hc_ : Cnt 0 := trivial
    iterate 10 ((first | (refine takeC hc_ (v := ?_) rfl (by kernel_rfl) (by kernel_rfl) (by kernel_rfl) (fun _ _ _ h => h) (Or.inl ⟨by rfl, ?_⟩) hS ?_; rotate_left; (· (intro y hy; (try dsimp only at hy); go_simp; try with_reducible rfl))) | refine takeC hc_ (v := undef) rfl (by kernel_rfl) (by kernel_rfl) (by kernel_rfl) (fun _ _ _ h => h) (Or.inr ⟨by rfl, rfl⟩) hS ?_); try simp only [Act.put, List.setIfInBounds_toArray, List.set_cons_zero, List.set_cons_succ, List.getElem_toArray, List.append, List.getElem_cons_zero, List.getElem_cons_succ]; replace hc_ := hc_.next; simp only [Nat.reduceAdd] at hc_)
    clear hc_
    refine wpAnyH_ready (rs := [10]) (by kernel_rfl) (by simp) ?_
    refine AllReadyH.cons (o := _) rfl (fun K hK => ?_) AllReadyH.nil
    go_simp
    refine (U1 _).mono ?_
    rintro e y ⟨rfl, hb⟩
    replace hd := hd.on hb
    replace hcd := hcd.trans (Chg.of_below hb (Nat.le_refl _))
    have hSy := fun j => hb.cell (p := ⟨H, j, none⟩) (show H < x.drew.heap.size from h1.blk.lt)
    refine hK.out _ _ (⟨(hSy 9).trans hS.1, (hSy 1).trans hS.2.1, (hSy 2).trans hS.2.2.1, (hSy 3).trans hS.2.2.2⟩) (fun hS => ?_)
    clear hK K
    try simp only [Act.put, List.setIfInBounds_toArray, List.set_cons_zero, List.set_cons_succ]
    clear hSy
    have hc_ : Cnt 11 := trivial
    iterate 2 ((first | (refine takeC hc_ (v := ?_) rfl (by kernel_rfl) (by kernel_rfl) (by kernel_rfl) (fun _ _ _ h => h) (Or.inl ⟨by rfl, ?_⟩) hS ?_; rotate_left; (· (intro y hy; (try dsimp only at hy); go_simp; try with_reducible rfl))) | refine takeC hc_ (v := undef) rfl (by kernel_rfl) (by kernel_rfl) (by kernel_rfl) (fun _ _ _ h => h) (Or.inr ⟨by rfl, rfl⟩) hS ?_); try simp only [Act.put, List.setIfInBounds_toArray, List.set_cons_zero, List.set_cons_succ, List.getElem_toArray, List.append, List.getElem_cons_zero, List.getElem_cons_succ]; replace hc_ := hc_.next; simp only [Nat.reduceAdd] at hc_)
    clear hc_
    refine wpAnyH_ready (rs := [13]) (by kernel_rfl) (by simp) ?_
    refine AllReadyH.cons (o := _) rfl (fun K hK => ?_) AllReadyH.nil
    have f11 := hd.blk.free 11
    have c11 : y.cell? ⟨H, 11, none⟩ = some (.int .i64 s.ow) := hd.blk.cell 11
    go_simp
    have hcs2 := (Chg.refl (· = H) y).setCell (p := ⟨H, 11, none⟩) (.inl rfl) (.int .i64 ((s.tn - s.bn : Nat) : Int))
    have h2 : HeapIn (y.setCell ⟨H, 11, none⟩ (.int .i64 ((s.tn - s.bn : Nat) : Int))) H P b v0 v1 v2 v3 { s with mv := true, ow := s.tn - s.bn } := hd.cells hcs2 rfl (four rfl rfl rfl rfl) (hd.blk.set 11 _)
    have hc2 := hcd.trans hcs2
    have hS2 := (h2.inuse g.u01).resolve_right fun e => absurd (e.1.symm.trans hu) (by decide)
    clear f11 c11 hcs2
    obtain ⟨_, d9, dB, dZ, dT⟩ := hS2
    refine hK.out _ _ (⟨d9, dB, dZ, dT⟩) (fun hS => ?_)
    clear hK K
    try simp only [Act.put, List.setIfInBounds_toArray, List.set_cons_zero, List.set_cons_succ]
    refine wpAnyH_done (by kernel_rfl) ?_ _
    refine NoPanic.normal ?_
    generalize y.setCell ⟨H, 11, none⟩ (.int .i64 ((s.tn - s.bn : Nat) : Int)) = z at *
    have M1 : Calls Tryz.prog 49 #[.pointer (some ⟨H, 0, none⟩)] z fun e w' => e = .returned (.int .i64 1) ∧ Below z.heap.size z w' := by
      have M := old_any h2 g.u01
      rw [show ({ s with mv := true, ow := s.tn - s.bn } : Hp).u = 0 from hu] at M
      exact M
    clear hd hcd hS cB cT cZ hb h1 hcs
    go_wp2_with fail
    refine M1.mono ?_
    rintro e z1 ⟨rfl, hb⟩
    replace h2 := h2.on hb
    replace hc2 := hc2.trans (Chg.of_below hb (Nat.le_refl _))
    clear hb M1 d9 dB dZ dT c9
    have c9 : z1.cell? ⟨H, 9, none⟩ = some (.int .i64 s.u) := h2.blk.cell 9
    have c4 : z1.cell? ⟨H, 4, none⟩ = some (.int .i64 (s.base 1)) := h2.blk.cell 4
    have c12 : z1.cell? ⟨H, 12, none⟩ = some (.int .i64 s.sc) := h2.blk.cell 12
    have f9 := h2.blk.free 9
    have f12 := h2.blk.free 12
    have hl2 := h2.blk.lt
    go_upto_region 6 with fail
    go_region
    have hcs3 := ((Chg.refl (· = H) z1).setCell (p := ⟨H, 9, none⟩) (.inl rfl) (.int .i64 1)).setCell (p := ⟨H, 12, none⟩) (.inl rfl) (.int .i64 (s.base 1))
    have h3 : HeapIn _ H P b v0 v1 v2 v3 s.flip := h2.cells hcs3.drew rfl (flip_rows g.u01) (by
      rw [← flip_blk g.u01, hu]
      have hk : s.bk = s.base 1 := by unfold Hp.bk; rw [hu]
      rw [hk]
      have := (h2.blk.set 9 (.int .i64 1)).set 12 (.int .i64 (s.base 1))
      exact this)
    go_wp2
    go_ret
    exact ⟨rfl, h3.wentTo hF ((hc2.trans hcs3.drew).mono fun k e => .inl e)⟩
  · replace hu : s.u = 1 := hu
    replace cB : x.cell? ⟨H, 4, none⟩ = some (.int .i64 s.bn) := cB
    replace cT : x.cell? ⟨H, 6, none⟩ = some (.int .i64 s.tn) := cT
    replace cZ : x.cell? ⟨H, 5, none⟩ = some (.int .i64 s.z) := cZ
    refine wp_region_noPanic ?_
    refine wp_region_held_drew (S := fun y => y.cell? ⟨H, 9, none⟩ = some (.int .i64 1) ∧ y.cell? ⟨H, 4, none⟩ = some (.int .i64 s.bn) ∧ y.cell? ⟨H, 5, none⟩ = some (.int .i64 s.z) ∧ y.cell? ⟨H, 6, none⟩ = some (.int .i64 s.tn)) (by kernel_rfl) ⟨c9, cB, cZ, cT⟩ (fun hS => ?_)
    have hd : HeapIn x.drew H P b v0 v1 v2 v3 { s with mv := true } := h1.on (Below.refl _ x).drew
    have hcd := hcs.drew
    have hc_ : Cnt 0 := trivial
    iterate 10 ((first | (refine takeC hc_ (v := ?_) rfl (by kernel_rfl) (by kernel_rfl) (by kernel_rfl) (fun _ _ _ h => h) (Or.inl ⟨by rfl, ?_⟩) hS ?_; rotate_left; (· (intro y hy; (try dsimp only at hy); go_simp; try with_reducible rfl))) | refine takeC hc_ (v := undef) rfl (by kernel_rfl) (by kernel_rfl) (by kernel_rfl) (fun _ _ _ h => h) (Or.inr ⟨by rfl, rfl⟩) hS ?_); try simp only [Act.put, List.setIfInBounds_toArray, List.set_cons_zero, List.set_cons_succ, List.getElem_toArray, List.append, List.getElem_cons_zero, List.getElem_cons_succ]; replace hc_ := hc_.next; simp only [Nat.reduceAdd] at hc_)
    clear hc_
    refine wpAnyH_ready (rs := [10]) (by kernel_rfl) (by simp) ?_
    refine AllReadyH.cons (o := _) rfl (fun K hK => ?_) AllReadyH.nil
    go_simp
    refine (U1 _).mono ?_
    rintro e y ⟨rfl, hb⟩
    replace hd := hd.on hb
    replace hcd := hcd.trans (Chg.of_below hb (Nat.le_refl _))
    have hSy := fun j => hb.cell (p := ⟨H, j, none⟩) (show H < x.drew.heap.size from h1.blk.lt)
    refine hK.out _ _ (⟨(hSy 9).trans hS.1, (hSy 4).trans hS.2.1, (hSy 5).trans hS.2.2.1, (hSy 6).trans hS.2.2.2⟩) (fun hS => ?_)
    clear hK K
    try simp only [Act.put, List.setIfInBounds_toArray, List.set_cons_zero, List.set_cons_succ]
    clear hSy
    have hc_ : Cnt 11 := trivial
    iterate 2 ((first | (refine takeC hc_ (v := ?_) rfl (by kernel_rfl) (by kernel_rfl) (by kernel_rfl) (fun _ _ _ h => h) (Or.inl ⟨by rfl, ?_⟩) hS ?_; rotate_left; (· (intro y hy; (try dsimp only at hy); go_simp; try with_reducible rfl))) | refine takeC hc_ (v := undef) rfl (by kernel_rfl) (by kernel_rfl) (by kernel_rfl) (fun _ _ _ h => h) (Or.inr ⟨by rfl, rfl⟩) hS ?_); try simp only [Act.put, List.setIfInBounds_toArray, List.set_cons_zero, List.set_cons_succ, List.getElem_toArray, List.append, List.getElem_cons_zero, List.getElem_cons_succ]; replace hc_ := hc_.next; simp only [Nat.reduceAdd] at hc_)
    clear hc_
    refine wpAnyH_ready (rs := [13]) (by kernel_rfl) (by simp) ?_
    refine AllReadyH.cons (o := _) rfl (fun K hK => ?_) AllReadyH.nil
    have f11 := hd.blk.free 11
    have c11 : y.cell? ⟨H, 11, none⟩ = some (.int .i64 s.ow) := hd.blk.cell 11
    go_simp
    have hcs2 := (Chg.refl (· = H) y).setCell (p := ⟨H, 11, none⟩) (.inl rfl) (.int .i64 ((s.tn - s.bn : Nat) : Int))
    have h2 : HeapIn (y.setCell ⟨H, 11, none⟩ (.int .i64 ((s.tn - s.bn : Nat) : Int))) H P b v0 v1 v2 v3 { s with mv := true, ow := s.tn - s.bn } := hd.cells hcs2 rfl (four rfl rfl rfl rfl) (hd.blk.set 11 _)
    have hc2 := hcd.trans hcs2
    have hS2 := (h2.inuse g.u01).resolve_left fun e => absurd (e.1.symm.trans hu) (by decide)
    clear f11 c11 hcs2
    obtain ⟨_, d9, dB, dZ, dT⟩ := hS2
    refine hK.out _ _ (⟨d9, dB, dZ, dT⟩) (fun hS => ?_)
    clear hK K
    try simp only [Act.put, List.setIfInBounds_toArray, List.set_cons_zero, List.set_cons_succ]
    refine wpAnyH_done (by kernel_rfl) ?_ _
    refine NoPanic.normal ?_
    generalize y.setCell ⟨H, 11, none⟩ (.int .i64 ((s.tn - s.bn : Nat) : Int)) = z at *
    have M1 : Calls Tryz.prog 49 #[.pointer (some ⟨H, 0, none⟩)] z fun e w' => e = .returned (.int .i64 0) ∧ Below z.heap.size z w' := by
      have M := old_any h2 g.u01
      rw [show ({ s with mv := true, ow := s.tn - s.bn } : Hp).u = 1 from hu] at M
      exact M
    clear hd hcd hS cB cT cZ hb h1 hcs
    go_wp2_with fail
    refine M1.mono ?_
    rintro e z1 ⟨rfl, hb⟩
    replace h2 := h2.on hb
    replace hc2 := hc2.trans (Chg.of_below hb (Nat.le_refl _))
    clear hb M1 d9 dB dZ dT c9
    have c9 : z1.cell? ⟨H, 9, none⟩ = some (.int .i64 s.u) := h2.blk.cell 9
    have c4 : z1.cell? ⟨H, 1, none⟩ = some (.int .i64 (s.base 0)) := h2.blk.cell 1
    have c12 : z1.cell? ⟨H, 12, none⟩ = some (.int .i64 s.sc) := h2.blk.cell 12
    have f9 := h2.blk.free 9
    have f12 := h2.blk.free 12
    have hl2 := h2.blk.lt
    go_upto_region 6 with fail
    go_region
    have hcs3 := ((Chg.refl (· = H) z1).setCell (p := ⟨H, 9, none⟩) (.inl rfl) (.int .i64 0)).setCell (p := ⟨H, 12, none⟩) (.inl rfl) (.int .i64 (s.base 0))
    have h3 : HeapIn _ H P b v0 v1 v2 v3 s.flip := h2.cells hcs3.drew rfl (flip_rows g.u01) (by
      rw [← flip_blk g.u01, hu]
      have hk : s.bk = s.base 0 := by unfold Hp.bk; rw [hu]
      rw [hk]
      have := (h2.blk.set 9 (.int .i64 0)).set 12 (.int .i64 (s.base 0))
      exact this)
    go_wp2
    go_ret
    exact ⟨rfl, h3.wentTo hF ((hc2.trans hcs3.drew).mono fun k e => .inl e)⟩
end

end Go.Proofs.YtbjmeibcphmgbaaGreat

namespace Go.Proofs.YtbjmeibcphmgbaaGreat
open Go.ChangeShapes Go.WideShapes Go.ChangeAt Go.RowKit

set_option linter.unusedSimpArgs false
set_option linter.unusedVariables false

section
variable {w : World} {H : Nat} {s : Hp} {K : Nat → Prop} (hw : HeapAt w K H s) (g : Ok s)
include hw g
theorem allocA (p d : Nat) (wk fn : Bool) (o1 : shB p d wk fn = true) (o2 : p ≤ 8) (o3 : d ≤ 8) (hr : Cls.rd (3 + p + d) ≤ s.room) (hse : s.se < 1099511627776) :
    Calls Tryz.prog 26 #[.pointer (some ⟨H, 0, none⟩), shV p d wk fn] w fun e w' => e = .returned (.tuple #[.int .i64 s.tn, .int .i64 0]) ∧ Went w K H (s.lay p d wk fn) w' := by
  obtain ⟨P, b, v0, v1, v2, v3, h, hF⟩ := hw
  exact allocH_yes h hF g.sound o1 o2 o3 hr hse g.len g.wkl g.fil
theorem serialA (a : Nat) (ha : a ∈ s.pn) :
    Calls Tryz.prog 31 #[.pointer (some ⟨H, 0, none⟩), .int .i64 a] w fun e w' => e = .returned (.tuple #[.int .i64 (s.l.getD (a + 2) 0), .int .i64 0]) ∧ Below w.heap.size w w' := by
  obtain ⟨P, b, v0, v1, v2, v3, h, hF⟩ := hw
  have h1 := g.ser a (.inl ha)
  have h2 := g.sel
  exact serialH_yes h g.sound a ha _ _ fun x hx => serial_at a x hx (g.inn a ha).2.1.of (by omega)
theorem roomA : Calls Tryz.prog 24 #[.pointer (some ⟨H, 0, none⟩)] w fun e w' => e = .returned (.int .i64 s.room) ∧ Below w.heap.size w w' := by
  obtain ⟨P, b, v0, v1, v2, v3, h, hF⟩ := hw
  exact room_any h g.sound
theorem hereA (t : Int) : Calls Tryz.prog 27 #[.pointer (some ⟨H, 0, none⟩), .int .i64 t] w fun e w' => e = .returned (.bool (decide (t ∈ nums s.pn))) ∧ Below w.heap.size w w' := by
  obtain ⟨P, b, v0, v1, v2, v3, h, hF⟩ := hw
  exact here_any h g.sound t
theorem flipA (hm : s.mv = false) : Calls Tryz.prog 16 #[.pointer (some ⟨H, 0, none⟩)] w fun e w' => e = .returned (.bool true) ∧ Went w K H s.flip w' := by
  obtain ⟨P, b, v0, v1, v2, v3, h, hF⟩ := hw
  exact flipH_yes h hF g.sound hm
theorem dropA (hm : s.mv = true) (hsc : s.sc = s.tn) : Calls Tryz.prog 20 #[.pointer (some ⟨H, 0, none⟩)] w fun e w' => ∃ lv, e = .returned (.tuple #[lv, .bool true]) ∧ ReadsAs .i64 w' lv (nums (s.kept.lostL s.kept.wk)) ∧ Went w K H s.drop w' := by
  obtain ⟨P, b, v0, v1, v2, v3, h, hF⟩ := hw
  exact dropH_yes h hF g.toOkw hm hsc
end

theorem flipA_no {w : World} {H : Nat} {s : Hp} {K : Nat → Prop} (hw : HeapAt w K H s) (hm : s.mv = true) : Calls Tryz.prog 16 #[.pointer (some ⟨H, 0, none⟩)] w fun e w' => e = .returned (.bool false) ∧ Below w.heap.size w w' := by
  obtain ⟨P, b, v0, v1, v2, v3, h, hF⟩ := hw
  exact flipH_no h hm
/-- A heap whose blocks lie from n on. -/
def HeapFrom (n : Nat) (w : World) (H : Nat) (s : Hp) : Prop := ∃ K, HeapAt w K H s ∧ ∀ k, K k → n ≤ k
theorem HeapFrom.went {n : Nat} {w x : World} {K : Nat → Prop} {H : Nat} {s : Hp} (h : Went w K H s x) (hK : ∀ k, K k → n ≤ k) (hn : n ≤ w.heap.size) : HeapFrom n x H s ∧ Below n w x := by
  obtain ⟨K', h1, h2, h3⟩ := h
  exact ⟨⟨K', h1, fun k hk => (h2 k hk).elim (hK k) fun e => Nat.le_trans hn e⟩, h3.below hK hn⟩
theorem HeapFrom.on {n : Nat} {w x : World} {H : Nat} {s : Hp} (h : HeapFrom n w H s) (hb : Below w.heap.size w x) : HeapFrom n x H s := by
  obtain ⟨K, h1, h2⟩ := h
  exact ⟨K, h1.on hb, h2⟩

/-- The chapter's example. -/
def ex1 : Hp := (Hp.new 16).lay 1 0 false false
def ex2 : Hp := ex1.flip
def ex3 : Hp := ex2.moved 1
def ex4 : Hp := ex3.scan
def ex5 : Hp := ex4.drop
set_option maxRecDepth 100000 in
theorem ex1_is : ex1.pn = [1] ∧ ex1.room = 12 ∧ ex1.l.getD (1 + 2) 0 = 1 ∧ ex1.mv = false ∧ Cls.rd (3 + 1 + 0) ≤ (Hp.new 16).room := by decide
set_option maxRecDepth 100000 in
theorem ex3_is : ex2.pk = [1] ∧ ex2.movV 1 = 17 ∧ ex3.pn = [17] ∧ ex3.mv = true ∧ ex3.sc = 17 := by decide
set_option maxRecDepth 100000 in
theorem ex4_is : ex4.mv = true ∧ ex4.sc = ex4.tn ∧ ex4.kept.lostL ex4.kept.wk = [] := by decide
set_option maxRecDepth 100000 in
theorem ex5_is : ex5.pn = [17] ∧ ex5.room = 12 := by decide
theorem ex1_ok : Ok ex1 := (Ok.newOk (by omega) (by omega)).lay (by decide) (by omega) (by omega) ex1_is.2.2.2.2 (by decide)
theorem ex2_ok : Ok ex2 := ex1_ok.flip ex1_is.2.2.2.1
theorem ex3_ok : Ok ex3 := ex2_ok.moved 1
theorem ex4_ok : Ok ex4 := ex3_ok.scan ex3_is.2.2.2.1 (by rw [ex3_is.2.2.1, ex3_is.2.2.2.2]; simp)
theorem ex5_ok : Ok ex5 := ex4_ok.drop ex4_is.1 ex4_is.2.1

end Go.Proofs.YtbjmeibcphmgbaaGreat

namespace Go.Proofs.YtbjmeibcphmgbaaGreat
open Go.ChangeShapes Go.WideShapes Go.ChangeAt Go.RowKit

set_option linter.unusedSimpArgs false
set_option linter.unusedVariables false

/-- A twin's cells: both heaps, both rows of four registers. -/
def twC (A B : Nat) (r0 r1 r2 r3 t0 t1 t2 t3 : Int) : Array Value :=
  #[.pointer (some ⟨A, 0, none⟩), .pointer (some ⟨B, 0, none⟩), .int .i64 r0, .int .i64 r1, .int .i64 r2, .int .i64 r3, .int .i64 t0, .int .i64 t1, .int .i64 t2, .int .i64 t3]
set_option maxHeartbeats 1000000 in
theorem beginH (z : Nat) (h0 : 16 ≤ z) (h1 : z ≤ 16384) (w : World) :
    Calls Tryz.prog 13 #[.int .i64 z] w fun e w' => ∃ T A B KA KB, e = .returned (.pointer (some ⟨T, 0, none⟩)) ∧ BlkIs w' T (twC A B 0 0 0 0 0 0 0 0) 34 ∧
      HeapAt w' KA A (Hp.new z) ∧ HeapAt w' KB B (Hp.new 16000) ∧ (∀ k, KA k → w.heap.size ≤ k) ∧ (∀ k, KB k → w.heap.size ≤ k) ∧ (∀ k, KA k → ¬ KB k) ∧ ¬ KA T ∧ ¬ KB T ∧ w.heap.size ≤ T ∧ Below w.heap.size w w' := by
  have M1 := newH_yes z h0 h1 w
  go_enter Tryz.func13, Tryz.ntmps13
  go_wp2_with fail
  refine M1.mono ?_
  rintro e x ⟨A, rfl, hA, hb1⟩
  have M2 := newH_yes 16000 (by omega) (by omega) x
  clear M1
  go_wp2_with fail
  refine M2.mono ?_
  rintro e y ⟨B, rfl, hB, hb2⟩
  clear M2
  go_wp2
  go_ret
  have hs1 := hb1.size
  have hs2 := hb2.size
  have hb3 := (Below.refl _ y).alloc (Nat.le_refl _) (.cells (twC A B 0 0 0 0 0 0 0 0) 34)
  have m1 : BlkIs _ y.heap.size _ _ := BlkIs.new y (twC A B 0 0 0 0 0 0 0 0) 34
  exact ⟨y.heap.size, A, B, _, _, rfl, m1, (hA.on hb2).on hb3, hB.on hb3, fun k hk => hk.1, fun k hk => Nat.le_trans hs1 hk.1, fun k hk hk' => by have := hk.2; have := hk'.1; omega, fun hk => by have := hk.2; omega, fun hk => by have := hk.2; omega, by omega,
    (hb1.trans (hb2.mono hs1)).trans (hb3.mono (by omega))⟩

end Go.Proofs.YtbjmeibcphmgbaaGreat

namespace Go.Proofs.YtbjmeibcphmgbaaGreat
open Go.ChangeShapes Go.WideShapes Go.ChangeAt Go.RowKit

set_option linter.unusedSimpArgs false
set_option linter.unusedVariables false

/-- A twin's cells, its registers as lists. -/
def twL (A B : Nat) (R S : List Nat) : Array Value := (Value.pointer (some ⟨A, 0, none⟩) :: Value.pointer (some ⟨B, 0, none⟩) :: (nums R ++ nums S).map (Value.int .i64)).toArray
theorem twL_zero (A B : Nat) : twC A B 0 0 0 0 0 0 0 0 = twL A B [0, 0, 0, 0] [0, 0, 0, 0] := rfl
theorem twL_r {A B : Nat} {R S : List Nat} (hR : R.length = 4) {i : Nat} (hi : i < 4) : (twL A B R S)[2 + i]? = some (.int .i64 (R.getD i 0 : Nat)) := by
  have h1 : (nums R ++ nums S).map (Value.int .i64) = (nums R).map (Value.int .i64) ++ (nums S).map (Value.int .i64) := List.map_append
  unfold twL
  rw [h1, List.getElem?_toArray, show 2 + i = i + 1 + 1 from by omega, List.getElem?_cons_succ, List.getElem?_cons_succ, List.getElem?_append_left (by simp [nums_length]; omega), List.getElem?_map]
  have : (nums R)[i]? = some (R.getD i 0 : Int) := by rw [← nums_getD (by omega)]; simp [List.getD, nums_length, hR, hi]
  rw [this]; rfl
theorem twL_s {A B : Nat} {R S : List Nat} (hR : R.length = 4) (hS : S.length = 4) {i : Nat} (hi : i < 4) : (twL A B R S)[6 + i]? = some (.int .i64 (S.getD i 0 : Nat)) := by
  have h1 : (nums R ++ nums S).map (Value.int .i64) = (nums R).map (Value.int .i64) ++ (nums S).map (Value.int .i64) := List.map_append
  unfold twL
  rw [h1, List.getElem?_toArray, show 6 + i = (4 + i) + 1 + 1 from by omega, List.getElem?_cons_succ, List.getElem?_cons_succ, List.getElem?_append_right (by simp [nums_length]; omega), List.getElem?_map]
  have : (nums S)[4 + i - (List.map (Value.int .i64) (nums R)).length]? = some (S.getD i 0 : Int) := by
    rw [← nums_getD (by omega), show 4 + i - (List.map (Value.int .i64) (nums R)).length = i from by simp [nums_length, hR]]; simp [List.getD, nums_length, hS, hi]
  rw [this]; rfl
theorem twL_setR {A B : Nat} {R S : List Nat} (hR : R.length = 4) {i : Nat} (hi : i < 4) (p : Nat) : (twL A B R S).setIfInBounds (2 + i) (.int .i64 p) = twL A B (R.set i p) S := by
  unfold twL
  rw [List.setIfInBounds_toArray, show 2 + i = i + 1 + 1 from by omega, List.set_cons_succ, List.set_cons_succ]
  congr 3
  unfold nums
  rw [List.map_append, List.map_append, List.set_append_left _ _ (by simp; omega), List.map_set, List.map_set]
theorem twL_setS {A B : Nat} {R S : List Nat} (hR : R.length = 4) (hS : S.length = 4) {i : Nat} (hi : i < 4) (p : Nat) : (twL A B R S).setIfInBounds (6 + i) (.int .i64 p) = twL A B R (S.set i p) := by
  unfold twL
  rw [List.setIfInBounds_toArray, show 6 + i = (4 + i) + 1 + 1 from by omega, List.set_cons_succ, List.set_cons_succ]
  congr 3
  unfold nums
  rw [List.map_append, List.map_append, List.set_append_right _ _ (by simp; omega), List.map_set, List.map_set]
  simp [hR]
structure TwinAt (w : World) (T A B : Nat) (KA KB : Nat → Prop) (R S : List Nat) (s r : Hp) : Prop where
  blk : BlkIs w T (twL A B R S) 34
  hA : HeapAt w KA A s
  hB : HeapAt w KB B r
  ab : ∀ k, KA k → ¬ KB k
  ta : ¬ KA T
  tb : ¬ KB T
  rl : R.length = 4
  sl : S.length = 4
theorem TwinAt.on {w x : World} {T A B : Nat} {KA KB : Nat → Prop} {R S : List Nat} {s r : Hp} (h : TwinAt w T A B KA KB R S s r) (hb : Below w.heap.size w x) : TwinAt x T A B KA KB R S s r :=
  ⟨h.blk.on hb, h.hA.on hb, h.hB.on hb, h.ab, h.ta, h.tb, h.rl, h.sl⟩
theorem TwinAt.regsA {w : World} {T A B : Nat} {KA KB : Nat → Prop} {R S : List Nat} {s r : Hp} (h : TwinAt w T A B KA KB R S s r) : ReadsOff w (.slice (some ⟨T, 2, none⟩) 4 4) (nums R) := by
  refine ⟨by rw [nums_length, h.rl]; unfold maxLen; omega, .inr ⟨T, 2, 4, by rw [nums_length, h.rl], by rw [nums_length, h.rl]; omega, h.blk.lt, fun j hj => ?_⟩⟩
  rw [nums_length, h.rl] at hj
  rw [nums_getD (by rw [h.rl]; exact hj)]
  exact (h.blk.cell _).trans (twL_r h.rl hj)
theorem TwinAt.regsB {w : World} {T A B : Nat} {KA KB : Nat → Prop} {R S : List Nat} {s r : Hp} (h : TwinAt w T A B KA KB R S s r) : ReadsOff w (.slice (some ⟨T, 6, none⟩) 4 4) (nums S) := by
  refine ⟨by rw [nums_length, h.sl]; unfold maxLen; omega, .inr ⟨T, 6, 4, by rw [nums_length, h.sl], by rw [nums_length, h.sl]; omega, h.blk.lt, fun j hj => ?_⟩⟩
  rw [nums_length, h.sl] at hj
  rw [nums_getD (by rw [h.sl]; exact hj)]
  exact (h.blk.cell _).trans (twL_s h.rl h.sl hj)

/-- The first heap's Canon of the first registers, the second one's of the second ones. -/
theorem HeapAt.canon {w : World} {K : Nat → Prop} {H : Nat} {s : Hp} (h : HeapAt w K H s) (g : Okw s) (rv : Value) (rs : List Nat) (hv : ReadsOff w rv (nums rs)) (hrs : ∀ r ∈ rs, r = 0 ∨ r ∈ s.pn) (hl : rs.length ≤ 1000) :
    Calls Tryz.prog 22 #[.pointer (some ⟨H, 0, none⟩), rv] w fun e w' => ∃ T nv sv C, e = .returned (.tuple #[nv, sv, .int .i64 0]) ∧ TurnAll s T ∧ (w.heap.size ≤ C ∧ C ≤ w'.heap.size) ∧
      NodesOwn w.heap.size C w' nv (fun i => ndO (reachO (gOf T) (livL s).length (nums rs)) (nOf T ((reachO (gOf T) (livL s).length (nums rs)).getD i 0))) (reachO (gOf T) (livL s).length (nums rs)).length ∧
      ReadsFrom C w' sv ((nums rs).map (rankV (reachO (gOf T) (livL s).length (nums rs)))) ∧ Below w.heap.size w w' := by
  obtain ⟨P, b, v0, v1, v2, v3, h, hF⟩ := h
  exact canonH h g rv rs hv hrs hl

/-- The first k nodes, a weak pointer to what one doesn't come to told as nothing. -/
def upto (f : Nat → Nd) (k : Nat) : Nat → Nd := fun j => if j < k then nrm (f j) else f j
theorem upto_at (f : Nat → Nd) (k : Nat) : upto f k k = f k := by unfold upto; rw [if_neg (by omega)]
theorem nodesOwn_same {B C n k : Nat} {w : World} {v : Value} {f : Nat → Nd} (h : NodesOwn B C w v (upto f k) n) (e : nrm (f k) = f k) : NodesOwn B C w v (upto f (k + 1)) n := by
  refine h.congr fun i hi => ?_
  unfold upto
  by_cases h1 : i < k
  · rw [if_pos h1, if_pos (by omega)]
  · by_cases h2 : i = k
    · subst h2; rw [if_neg (by omega), if_pos (by omega), e]
    · rw [if_neg h1, if_neg (by omega)]
theorem nodesOwn_set {B C n k : Nat} {w : World} {v : Value} {f : Nat → Nd} (h : NodesOwn B C w v (fun j => if j = k then { f k with ptrs := [-1] } else upto f k j) n) (h1 : (f k).wk = true) (h2 : (f k).ptrs = [-2]) : NodesOwn B C w v (upto f (k + 1)) n := by
  refine h.congr fun i hi => ?_
  dsimp only
  by_cases e : i = k
  · subst e
    rw [if_pos rfl]
    unfold upto nrm
    rw [if_pos (by omega), if_pos ⟨h1, h2⟩]
  · rw [if_neg e]
    unfold upto
    by_cases h1 : i < k
    · rw [if_pos h1, if_pos (by omega)]
    · rw [if_neg h1, if_neg (by omega)]
theorem nrm_strong {x : Nd} (h : x.wk = false) : nrm x = x := by unfold nrm; rw [h]; simp
theorem nrm_other {x : Nd} {v : Int} (h : x.ptrs = [v]) (hv : v ≠ -2) : nrm x = x := by unfold nrm; rw [h]; simp [hv]
/-- Both lists of nodes, the first so many told so. -/
structure Two (B C D E n : Nat) (va vb : Value) (fA fB : Nat → Nd) (ka kb : Nat) (w : World) : Prop where
  a : NodesOwn B C w va (upto fA ka) n
  b : NodesOwn D E w vb (upto fB kb) n
theorem Two.on {B C D E n : Nat} {va vb : Value} {fA fB : Nat → Nd} {ka kb : Nat} {w x : World} (h : Two B C D E n va vb fA fB ka kb w) (hb : Below w.heap.size w x) : Two B C D E n va vb fA fB ka kb x := ⟨h.a.on hb, h.b.on hb⟩
def Rng (B C D E : Nat) (k : Nat) : Prop := (B ≤ k ∧ k < C) ∨ (D ≤ k ∧ k < E)

set_option maxRecDepth 100000 in
set_option maxHeartbeats 8000000 in
theorem alike_yes {w : World} {T A B : Nat} {KA KB : Nat → Prop} {R S : List Nat} {s r : Hp} {f : Nat → Nat} (h : TwinAt w T A B KA KB R S s r) (tw : Tw true s r f) (g : Okw s) (k : Okw r) (hm : r.mv = false)
    (hR : ∀ x ∈ R, x = 0 ∨ x ∈ s.pn) (hS : S = R.map (plc2 f)) :
    Calls Tryz.prog 15 #[.pointer (some ⟨T, 0, none⟩)] w fun e w' => e = .returned (.bool true) ∧ Below w.heap.size w w' := by
  have M1 := fun x (hb : Below w.heap.size w x) => (h.hA.on hb).canon g _ R ((h.on hb).regsA) hR (by rw [h.rl]; omega)
  have hRs : ∀ x ∈ S, x = 0 ∨ x ∈ r.pn := fun x hx => by
    rw [hS] at hx
    obtain ⟨y, hy, rfl⟩ := List.mem_map.1 hx
    unfold plc2
    rcases hR y hy with e | e
    · left; rw [if_pos e]
    · by_cases e0 : y = 0
      · left; rw [if_pos e0]
      · right; rw [if_neg e0]; exact tw.inn y (.inl e)
  have M2 := fun x (hb : Below w.heap.size w x) => (h.hB.on hb).canon k _ S ((h.on hb).regsB) hRs (by rw [h.sl]; omega)
  have HT := fun TA TB (hA : TurnAll s TA) (hB : TurnAll r TB) => tw.alike g k hm hA hB hR
  have c0 : w.cell? ⟨T, 0, none⟩ = some (.pointer (some ⟨A, 0, none⟩)) := h.blk.cell 0
  have c1 : w.cell? ⟨T, 1, none⟩ = some (.pointer (some ⟨B, 0, none⟩)) := h.blk.cell 1
  have hl := h.blk.lt
  subst hS
  clear h tw g k hm hR hRs
  go_enter Tryz.func15, Tryz.ntmps15
  go_wp2_with fail
  refine wp_region_held_drew (S := fun y => y.cell? ⟨T, 0, none⟩ = some (.pointer (some ⟨A, 0, none⟩)) ∧ Below w.heap.size w y) (by kernel_rfl) ⟨c0, (Below.refl _ _).drew⟩ (fun hS => ?_)
  have hc_ : Cnt 0 := trivial
  iterate 8 ((first | (refine takeC hc_ (v := ?_) rfl (by kernel_rfl) (by kernel_rfl) (by kernel_rfl) (fun _ _ _ h => h) (Or.inl ⟨by rfl, ?_⟩) hS ?_; rotate_left; (· (intro y hy; (try dsimp only at hy); go_simp; try with_reducible rfl))) | refine takeC hc_ (v := undef) rfl (by kernel_rfl) (by kernel_rfl) (by kernel_rfl) (fun _ _ _ h => h) (Or.inr ⟨by rfl, rfl⟩) hS ?_); try simp only [Act.put, List.setIfInBounds_toArray, List.set_cons_zero, List.set_cons_succ, List.getElem_toArray, List.append, List.getElem_cons_zero, List.getElem_cons_succ]; replace hc_ := hc_.next; simp only [Nat.reduceAdd] at hc_)
  clear hc_
  refine wpAnyH_ready (rs := [8]) (by kernel_rfl) (by simp) ?_
  refine AllReadyH.cons (o := _) rfl (fun K hK => ?_) AllReadyH.nil
  go_simp
  refine (M1 _ hS.2).mono ?_
  rintro e x ⟨TA, nv, sv, C, rfl, hTA, hC, hN, hV, hb⟩
  replace hb := hS.2.trans (hb.mono hS.2.size)
  refine hK.out _ _ (⟨(hb.cell (p := ⟨T, 0, none⟩) hl).trans c0, hb⟩) (fun hS => ?_)
  clear hK K
  try simp only [Act.put, List.setIfInBounds_toArray, List.set_cons_zero, List.set_cons_succ]
  have hc_ : Cnt 9 := trivial
  iterate 7 ((first | (refine takeC hc_ (v := ?_) rfl (by kernel_rfl) (by kernel_rfl) (by kernel_rfl) (fun _ _ _ h => h) (Or.inl ⟨by rfl, ?_⟩) hS ?_; rotate_left; (· (intro y hy; (try dsimp only at hy); go_simp; try with_reducible rfl))) | refine takeC hc_ (v := undef) rfl (by kernel_rfl) (by kernel_rfl) (by kernel_rfl) (fun _ _ _ h => h) (Or.inr ⟨by rfl, rfl⟩) hS ?_); try simp only [Act.put, List.setIfInBounds_toArray, List.set_cons_zero, List.set_cons_succ, List.getElem_toArray, List.append, List.getElem_cons_zero, List.getElem_cons_succ]; replace hc_ := hc_.next; simp only [Nat.reduceAdd] at hc_)
  clear hc_
  refine wpAnyH_done (by kernel_rfl) ?_ _
  clear M1 hS
  have hwC : w.heap.size ≤ C ∧ C ≤ x.heap.size := hC
  have hwx := hb.size
  replace hN : NodesOwn w.heap.size C x nv _ _ := hN
  clear hC
  have c1x := (hb.cell (p := ⟨T, 1, none⟩) hl).trans c1
  go_wp2_with fail
  refine wp_region_held_drew (S := fun y => y.cell? ⟨T, 1, none⟩ = some (.pointer (some ⟨B, 0, none⟩)) ∧ Below x.heap.size x y) (by kernel_rfl) ⟨c1x, (Below.refl _ _).drew⟩ (fun hS => ?_)
  have hc_ : Cnt 0 := trivial
  iterate 8 ((first | (refine takeC hc_ (v := ?_) rfl (by kernel_rfl) (by kernel_rfl) (by kernel_rfl) (fun _ _ _ h => h) (Or.inl ⟨by rfl, ?_⟩) hS ?_; rotate_left; (· (intro y hy; (try dsimp only at hy); go_simp; try with_reducible rfl))) | refine takeC hc_ (v := undef) rfl (by kernel_rfl) (by kernel_rfl) (by kernel_rfl) (fun _ _ _ h => h) (Or.inr ⟨by rfl, rfl⟩) hS ?_); try simp only [Act.put, List.setIfInBounds_toArray, List.set_cons_zero, List.set_cons_succ, List.getElem_toArray, List.append, List.getElem_cons_zero, List.getElem_cons_succ]; replace hc_ := hc_.next; simp only [Nat.reduceAdd] at hc_)
  clear hc_
  refine wpAnyH_ready (rs := [8]) (by kernel_rfl) (by simp) ?_
  refine AllReadyH.cons (o := _) rfl (fun K hK => ?_) AllReadyH.nil
  go_simp
  refine (M2 _ (hb.trans (hS.2.mono hwx))).mono ?_
  rintro e z ⟨TB, nv2, sv2, E, rfl, hTB, hE, hN2, hV2, hb2⟩
  replace hb2 := hS.2.trans (hb2.mono hS.2.size)
  refine hK.out _ _ (⟨(hb2.cell (p := ⟨T, 1, none⟩) (Nat.lt_of_lt_of_le hl hwx)).trans c1x, hb2⟩) (fun hS => ?_)
  clear hK K
  try simp only [Act.put, List.setIfInBounds_toArray, List.set_cons_zero, List.set_cons_succ]
  have hc_ : Cnt 9 := trivial
  iterate 7 ((first | (refine takeC hc_ (v := ?_) rfl (by kernel_rfl) (by kernel_rfl) (by kernel_rfl) (fun _ _ _ h => h) (Or.inl ⟨by rfl, ?_⟩) hS ?_; rotate_left; (· (intro y hy; (try dsimp only at hy); go_simp; try with_reducible rfl))) | refine takeC hc_ (v := undef) rfl (by kernel_rfl) (by kernel_rfl) (by kernel_rfl) (fun _ _ _ h => h) (Or.inr ⟨by rfl, rfl⟩) hS ?_); try simp only [Act.put, List.setIfInBounds_toArray, List.set_cons_zero, List.set_cons_succ, List.getElem_toArray, List.append, List.getElem_cons_zero, List.getElem_cons_succ]; replace hc_ := hc_.next; simp only [Nat.reduceAdd] at hc_)
  clear hc_
  refine wpAnyH_done (by kernel_rfl) ?_ _
  clear M2 hS c0 c1 c1x
  have hwE : x.heap.size ≤ E ∧ E ≤ z.heap.size := hE
  replace hN2 : NodesOwn x.heap.size E z nv2 _ _ := hN2
  obtain ⟨oA, oB, eA, eB, hlen, hsub, hnode, hwA, hwB, hseat, h21⟩ := HT TA TB hTA hTB
  rw [← eA] at hN hV
  rw [← eB] at hN2 hV2
  clear HT hTA hTB hE hsub eA eB
  rw [← hseat] at hV2
  rw [hlen] at hN2
  replace hN := hN.on hb2
  have hVx : ∀ g, sv.ownBlock = some g → C ≤ g ∧ g < x.heap.size := fun g e => ⟨hV.2 g e, hV.1.block e⟩
  replace hV := hV.1.below hb2
  have hVE := hV2.2
  replace hV2 := hV2.1
  generalize (nums R).map (rankV oA) = seats at *
  obtain ⟨n, hn⟩ : ∃ n, oA.length = n := ⟨_, rfl⟩
  rw [hn] at hN hN2 hnode hwA hwB h21
  obtain ⟨fA, hfA⟩ : ∃ fA : Nat → Nd, (fun i => ndO oA (nOf TA (oA.getD i 0))) = fA := ⟨_, rfl⟩
  obtain ⟨fB, hfB⟩ : ∃ fB : Nat → Nd, (fun i => ndO oB (nOf TB (oB.getD i 0))) = fB := ⟨_, rfl⟩
  have HA : ∀ i, i < n → (fA i).wk = true → (fA i).p = 1 ∧ (fA i).d = 0 := fun i hi hw => by rw [← hfA] at hw ⊢; exact hwA i hi hw
  have HB : ∀ i, i < n → (fB i).wk = true → (fB i).p = 1 ∧ (fB i).d = 0 := fun i hi hw => by rw [← hfB] at hw ⊢; exact hwB i hi hw
  have HN : ∀ i, i < n → nrm (fA i) = nrm (fB i) := fun i hi => by rw [← hfA, ← hfB]; exact hnode i hi
  rw [hfA] at hN
  rw [hfB] at hN2
  clear hnode hwA hwB hn hlen hfA hfB hseat
  have hNf := hN
  obtain ⟨av, rfl, -⟩ := hNf
  have hNf := hN2
  obtain ⟨av2, rfl, -⟩ := hNf
  have h2 : Two w.heap.size C x.heap.size E n (.slice av n n) (.slice av2 n n) fA fB 0 0 z := ⟨hN.congr fun i _ => by unfold upto; rw [if_neg (by omega)], hN2.congr fun i _ => by unfold upto; rw [if_neg (by omega)]⟩
  have e0 : ((n : Int) != (n : Int)) = false := bne_self_eq_false' _
  have hwz : w.heap.size ≤ z.heap.size := by have := hb2.size; omega
  have hBz := hb.trans (hb2.mono hwx)
  replace HA := Lib.hid HA
  replace HB := Lib.hid HB
  replace HN := Lib.hid HN
  replace h2 := Lib.hid h2
  replace hV := Lib.hid hV
  replace hV2 := Lib.hid hV2
  replace hVx := Lib.hid hVx
  replace hVE := Lib.hid hVE
  have hxE := hwE.1
  have hEz := hwE.2
  have hCx := hwC.2
  have hwC1 := hwC.1
  clear hN hN2 hb hb2 hwC hwE
  obtain ⟨Bw, hBw⟩ : ∃ b, w.heap.size = b := ⟨_, rfl⟩
  obtain ⟨D, hD⟩ : ∃ b, x.heap.size = b := ⟨_, rfl⟩
  rw [hBw] at h2 hwz hwC1 hwx hBz
  rw [hD] at h2 hVx hxE hCx hwx
  have HBw := Lib.hid hBw
  clear hBw hD hl
  go_wp2
  go_loopw [9] (fun i wr => ∃ k : Nat, k ≤ n ∧ i = .int .i64 k ∧ Hid (Two Bw C D E n (.slice av n n) (.slice av2 n n) fA fB k k wr) ∧ Chg (Rng Bw C D E) z wr) (fun i _ => n - (intOf i).toNat)
  case atStart => exact ⟨0, by omega, rfl, h2, Chg.refl _ _⟩
  case round =>
    clear h2
    obtain ⟨k, hk, rfl, h2, hch⟩ := hrel
    by_cases hlt : k < n
    · have d0 : decide ((k : Int) < (n : Int)) = true := decide_eq_true (by omega)
      have b0 : (0 : Int) ≤ (k : Int) := by omega
      have b1 : (k : Int) < (n : Int) := by omega
      go_wp2_with fail
      have hzr := hch.size
      have kq := BlkIs.new wr #[.slice av n n, .slice av2 n n] 40
      have hbq := (Below.refl wr.heap.size wr).alloc (Nat.le_refl _) (.cells #[.slice av n n, .slice av2 n n] 40)
      replace h2 := Lib.hid (h2.out.on hbq)
      replace hch := hch.trans (Chg.of_below hbq (Nat.le_refl _))
      have hq : E ≤ wr.heap.size := by omega
      obtain ⟨w1, hw1⟩ : ∃ w1, wr.alloc (.cells #[.slice av n n, .slice av2 n n] 40) = w1 := ⟨_, rfl⟩
      rw [hw1] at kq h2 hch ⊢
      clear hw1 hbq
      generalize wr.heap.size = q at *
      go_loopw [61] (fun i wq => ∃ jj : Int, (jj = 0 ∨ jj = 1 ∨ jj = 2) ∧ i = .int .i64 jj ∧ Hid (Two Bw C D E n (.slice av n n) (.slice av2 n n) fA fB (if 1 ≤ jj then k + 1 else k) (if 2 ≤ jj then k + 1 else k) wq) ∧ BlkIs wq q #[.slice av n n, .slice av2 n n] 40 ∧ Chg (Rng Bw C D E) w1 wq) (fun i _ => 2 - (intOf i).toNat)
      case atStart => exact ⟨0, .inl rfl, rfl, h2, kq, Chg.refl _ _⟩
      case round =>
        clear h2 kq
        obtain ⟨jj, hjj, rfl, h2, kq, hch2⟩ := hrel
        rcases hjj with rfl | rfl | rfl
        · have hT := h2.out
          rw [if_neg (by decide), if_neg (by decide)] at hT
          have FIN : Hid (∀ y, NodesOwn Bw C y (.slice av n n) (upto fA (k + 1)) n → Chg (fun c => Bw ≤ c ∧ c < C) wr y → Two Bw C D E n (.slice av n n) (.slice av2 n n) fA fB (k + 1) k y ∧ Chg (Rng Bw C D E) wr y ∧ BlkIs y q #[.slice av n n, .slice av2 n n] 40) := Lib.hid fun y hy hc =>
            ⟨⟨hy, hT.b.chg hc fun c h1 h2 h3 => by omega⟩, hc.mono fun c hc => .inl hc, kq.chg hc (by omega)⟩
          obtain ⟨X, hX⟩ : ∃ X, fA k = X := ⟨_, rfl⟩
          have HNn := hT.a
          have HAA := HA.out k hlt
          have cq : wr.cell? ⟨q, 0, none⟩ = some (.slice av n n) := kq.cell 0
          obtain ⟨nb, g1, ev, hnb, hg1, ⟨c3, c6⟩, kb, hpl, hnB, hnC, hset⟩ := HNn.node hlt
          obtain rfl : av = some ⟨nb, 0, none⟩ := by injection ev
          rw [upto_at, hX] at c3 c6 kb hpl
          rw [upto_at, hX] at hset
          rw [hX] at HAA
          have HSM := Lib.hid fun e : nrm X = X => FIN.out _ (nodesOwn_same HNn (by rw [hX]; exact e)) (Chg.refl _ _)
          have HST := Lib.hid fun (h1 : X.d = 0) (h2 : X.wk = true) (h3 : X.ptrs = [-2]) => FIN.out _ (nodesOwn_set (by rw [hX]; exact hset (-1) _ h1 h3) (by rw [hX]; exact h2) (by rw [hX]; exact h3)) ((Chg.refl (fun c => Bw ≤ c ∧ c < C) wr).setCell (p := ⟨g1, 0, none⟩) (.inl ⟨by show Bw ≤ g1; omega, by show g1 < C; omega⟩) (.int .i64 (-1)))
          have hgq : g1 < wr.heap.size := kb.lt
          clear ev h2 hT kq hset HNn FIN hX
          cases hw : X.wk with
          | false =>
            rw [hw] at c3
            replace HSM := Lib.hid (HSM.out (nrm_strong hw))
            clear HST kb c6 HAA hw hpl
            go_wp2
            go_roundw
            case rel =>
              obtain ⟨t1, t2, t3⟩ := HSM.out
              first
              | exact ⟨1, .inr (.inl rfl), rfl, Lib.hid t1, t3, hch2.trans t2⟩
              | exact ⟨2, .inr (.inr rfl), rfl, Lib.hid t1, t3, hch2.trans t2⟩
            case measure => simp [intOf]
          | true =>
            rw [hw] at c3
            obtain ⟨hp1, hd0⟩ := HAA hw
            rw [hp1] at c6 hpl
            obtain ⟨v, hv⟩ := List.length_eq_one_iff.1 hpl
            have c7 : wr.cell? ⟨g1, 0, none⟩ = some (.int .i64 v) := by rw [kb.cell 0, hv]; rfl
            have f7 := kb.free 0
            by_cases e : v = -2
            · subst e
              replace HST := Lib.hid (HST.out hd0 hw hv)
              clear HSM kb HAA hw hpl hv hp1 hd0
              go_wp2
              go_roundw
              case rel =>
                obtain ⟨t1, t2, t3⟩ := HST.out
                first
                | exact ⟨1, .inr (.inl rfl), rfl, Lib.hid t1, t3, hch2.trans t2⟩
                | exact ⟨2, .inr (.inr rfl), rfl, Lib.hid t1, t3, hch2.trans t2⟩
              case measure => simp [intOf]
            · have d3 : (v == (-2 : Int)) = false := by simpa using e
              replace HSM := Lib.hid (HSM.out (nrm_other hv e))
              clear HST kb HAA hw hpl hv hp1 hd0 f7
              go_wp2
              go_roundw
              case rel =>
                obtain ⟨t1, t2, t3⟩ := HSM.out
                first
                | exact ⟨1, .inr (.inl rfl), rfl, Lib.hid t1, t3, hch2.trans t2⟩
                | exact ⟨2, .inr (.inr rfl), rfl, Lib.hid t1, t3, hch2.trans t2⟩
              case measure => simp [intOf]
        · have hT := h2.out
          rw [if_pos (by decide), if_neg (by decide)] at hT
          have FIN : Hid (∀ y, NodesOwn D E y (.slice av2 n n) (upto fB (k + 1)) n → Chg (fun c => D ≤ c ∧ c < E) wr y → Two Bw C D E n (.slice av n n) (.slice av2 n n) fA fB (k + 1) (k + 1) y ∧ Chg (Rng Bw C D E) wr y ∧ BlkIs y q #[.slice av n n, .slice av2 n n] 40) := Lib.hid fun y hy hc =>
            ⟨⟨hT.a.chg hc fun c h1 h2 h3 => by omega, hy⟩, hc.mono fun c hc => .inr hc, kq.chg hc (by omega)⟩
          obtain ⟨X, hX⟩ : ∃ X, fB k = X := ⟨_, rfl⟩
          have HNn := hT.b
          have HAA := HB.out k hlt
          have cq : wr.cell? ⟨q, 1, none⟩ = some (.slice av2 n n) := kq.cell 1
          obtain ⟨nb, g1, ev, hnb, hg1, ⟨c3, c6⟩, kb, hpl, hnB, hnC, hset⟩ := HNn.node hlt
          obtain rfl : av2 = some ⟨nb, 0, none⟩ := by injection ev
          rw [upto_at, hX] at c3 c6 kb hpl
          rw [upto_at, hX] at hset
          rw [hX] at HAA
          have HSM := Lib.hid fun e : nrm X = X => FIN.out _ (nodesOwn_same HNn (by rw [hX]; exact e)) (Chg.refl _ _)
          have HST := Lib.hid fun (h1 : X.d = 0) (h2 : X.wk = true) (h3 : X.ptrs = [-2]) => FIN.out _ (nodesOwn_set (by rw [hX]; exact hset (-1) _ h1 h3) (by rw [hX]; exact h2) (by rw [hX]; exact h3)) ((Chg.refl (fun c => D ≤ c ∧ c < E) wr).setCell (p := ⟨g1, 0, none⟩) (.inl ⟨by show D ≤ g1; omega, by show g1 < E; omega⟩) (.int .i64 (-1)))
          have hgq : g1 < wr.heap.size := kb.lt
          clear ev h2 hT kq hset HNn FIN hX
          cases hw : X.wk with
          | false =>
            rw [hw] at c3
            replace HSM := Lib.hid (HSM.out (nrm_strong hw))
            clear HST kb c6 HAA hw hpl
            go_wp2
            go_roundw
            case rel =>
              obtain ⟨t1, t2, t3⟩ := HSM.out
              first
              | exact ⟨1, .inr (.inl rfl), rfl, Lib.hid t1, t3, hch2.trans t2⟩
              | exact ⟨2, .inr (.inr rfl), rfl, Lib.hid t1, t3, hch2.trans t2⟩
            case measure => simp [intOf]
          | true =>
            rw [hw] at c3
            obtain ⟨hp1, hd0⟩ := HAA hw
            rw [hp1] at c6 hpl
            obtain ⟨v, hv⟩ := List.length_eq_one_iff.1 hpl
            have c7 : wr.cell? ⟨g1, 0, none⟩ = some (.int .i64 v) := by rw [kb.cell 0, hv]; rfl
            have f7 := kb.free 0
            by_cases e : v = -2
            · subst e
              replace HST := Lib.hid (HST.out hd0 hw hv)
              clear HSM kb HAA hw hpl hv hp1 hd0
              go_wp2
              go_roundw
              case rel =>
                obtain ⟨t1, t2, t3⟩ := HST.out
                first
                | exact ⟨1, .inr (.inl rfl), rfl, Lib.hid t1, t3, hch2.trans t2⟩
                | exact ⟨2, .inr (.inr rfl), rfl, Lib.hid t1, t3, hch2.trans t2⟩
              case measure => simp [intOf]
            · have d3 : (v == (-2 : Int)) = false := by simpa using e
              replace HSM := Lib.hid (HSM.out (nrm_other hv e))
              clear HST kb HAA hw hpl hv hp1 hd0 f7
              go_wp2
              go_roundw
              case rel =>
                obtain ⟨t1, t2, t3⟩ := HSM.out
                first
                | exact ⟨1, .inr (.inl rfl), rfl, Lib.hid t1, t3, hch2.trans t2⟩
                | exact ⟨2, .inr (.inr rfl), rfl, Lib.hid t1, t3, hch2.trans t2⟩
              case measure => simp [intOf]
        · have hT := h2.out
          rw [if_pos (by decide), if_pos (by decide)] at hT
          have h3 := Lib.hid hT
          clear hT h2
          go_wp2
          go_roundw
          case rel => exact ⟨k + 1, by omega, by go_num, h3, hch.trans hch2⟩
          case measure => simp [intOf]; omega
    · have hkn : k = n := by omega
      subst hkn
      have d0 : decide ((k : Int) < (k : Int)) = false := decide_eq_false (by omega)
      have hT := h2.out
      have hsame : NodesAt D wr (.slice av2 k k) (upto fA k) k := (hT.b.congr fun i hi => by
        unfold upto
        rw [if_pos hi, if_pos hi, HN.out i hi]).at
      have M3 := same09_yes Bw D k _ _ (upto fA k) wr hT.a.at hsame (by omega)
      have hzr := hch.size
      have hV3 : ReadsAs .i64 wr sv seats := hV.out.chg hch fun g e hr => by
        have := hVx.out g e
        unfold Rng at hr
        omega
      have hV4 : ReadsAs .i64 wr sv2 seats := hV2.out.chg hch fun g e hr => by
        have := hVE.out g e
        unfold Rng at hr
        omega
      have M4 := fun x (hb : Below wr.heap.size wr x) => ints_same sv sv2 seats x (hV3.below hb) (hV4.below hb)
      have hBr : Below w.heap.size w wr := by
        have := hch.below (n := Bw) (fun c hc => by unfold Rng at hc; omega) hwz
        rw [HBw.out]
        exact hBz.trans this
      clear hT hsame h2 hV3 hV4 hch HA HB HN hV hV2 hVx hVE
      go_wp2_with fail
      refine M3.mono ?_
      rintro e y ⟨rfl, hb3⟩
      go_wp2_with fail
      refine (M4 _ hb3).mono ?_
      rintro e y2 ⟨rfl, hb4⟩
      go_wp2
      go_ret
      exact ⟨rfl, (hBr.trans (hb3.mono hBr.size)).trans (hb4.mono (Nat.le_trans hBr.size hb3.size))⟩

end Go.Proofs.YtbjmeibcphmgbaaGreat
