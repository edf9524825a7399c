/- Package graph: node: what an object is that one has come to. Conditions: there is one (ObjIs), its words are such as objects have. -/
import Derived.Test.YtceedbkacbaaiaaGraphReach
import Derived.Deep.CutRange
import Derived.Deep.RegionHeld3
namespace Go.Proofs.Ytceedbkacbaaiaa
open Go.ChangeShapes Go.WideShapes Go.ChangeAt Go.RowKit

set_option linter.unusedSimpArgs false
set_option linter.unusedVariables false

theorem zig_zagOf {w : Int} (h0 : 0 ≤ w) (h1 : w ≤ 18446744073709551615) : zigOf (zagOf w) = w ∧ -9223372036854775808 ≤ zagOf w ∧ zagOf w ≤ 9223372036854775807 := by
  unfold zagOf
  split
  · unfold zigOf; split <;> omega
  · unfold zigOf; split <;> omega

/-- An object's numbers. -/
def numL (l : List Int) (a p d : Nat) : List Int := (List.range d).map fun i => zagOf (l.getD (a + (3 + p + i)) 0)
theorem numL_length (l : List Int) (a p d : Nat) : (numL l a p d).length = d := by unfold numL; simp
theorem numL_at {l : List Int} {a p d i : Nat} (h : i < d) : (numL l a p d).getD i 0 = zagOf (l.getD (a + (3 + p + i)) 0) := by unfold numL; simp [List.getD, h]
/-- Its pointers, each as its place in an order. -/
def rnkL (o l : List Int) (a p : Nat) : List Int := (ptrL l a p).map (rankV o)
theorem rnkL_length (o l : List Int) (a p : Nat) : (rnkL o l a p).length = p := by unfold rnkL; simp [ptrL_length]
theorem rnkL_at {o l : List Int} {a p i : Nat} (h : i < p) : (rnkL o l a p).getD i 0 = rankV o (l.getD (a + (3 + i)) 0) := by unfold rnkL ptrL; simp [List.getD, h]

theorem BlkIs.drew {w : World} {k : Nat} {cs : Array Value} {t : TypeId} (h : BlkIs w k cs t) : BlkIs w.drew k cs t := h
theorem three_new (y : World) (q : Nat) (hq : y.heap.size = q) (a c d : Array Value) (ta tc td : TypeId) :
    BlkIs (((y.alloc (.cells a ta)).alloc (.cells c tc)).alloc (.cells d td)) q a ta ∧ BlkIs (((y.alloc (.cells a ta)).alloc (.cells c tc)).alloc (.cells d td)) (q + 1) c tc ∧
    BlkIs (((y.alloc (.cells a ta)).alloc (.cells c tc)).alloc (.cells d td)) (q + 1 + 1) d td ∧ Below q y (((y.alloc (.cells a ta)).alloc (.cells c tc)).alloc (.cells d td)) := by
  subst hq
  have s1 : (y.alloc (.cells a ta)).heap.size = y.heap.size + 1 := by simp
  have s2 : ((y.alloc (.cells a ta)).alloc (.cells c tc)).heap.size = y.heap.size + 1 + 1 := by simp
  have h2 := BlkIs.new (y.alloc (.cells a ta)) c tc
  have h3 := BlkIs.new ((y.alloc (.cells a ta)).alloc (.cells c tc)) d td
  rw [s1] at h2
  rw [s2] at h3
  exact ⟨((BlkIs.new y a ta).alloc _).alloc _, h2.alloc _, h3, (((Below.refl _ y).alloc (Nat.le_refl _) _).alloc (by omega) _).alloc (by omega) _⟩
theorem BlkIs.facts8 {x : World} {k : Nat} {v0 v1 v2 v3 v4 v5 v6 v7 : Value} {ty : TypeId} (h : BlkIs x k #[v0, v1, v2, v3, v4, v5, v6, v7] ty) :
    x.cell? ⟨k, 0, none⟩ = some v0 ∧ x.cell? ⟨k, 1, none⟩ = some v1 ∧ x.cell? ⟨k, 2, none⟩ = some v2 ∧ x.cell? ⟨k, 3, none⟩ = some v3 ∧ x.cell? ⟨k, 4, none⟩ = some v4 ∧ x.cell? ⟨k, 5, none⟩ = some v5 ∧ x.cell? ⟨k, 6, none⟩ = some v6 ∧ x.cell? ⟨k, 7, none⟩ = some v7 ∧
    x.frozen? ⟨k, 0, none⟩ = false ∧ x.frozen? ⟨k, 1, none⟩ = false ∧ x.frozen? ⟨k, 2, none⟩ = false ∧ x.frozen? ⟨k, 3, none⟩ = false ∧ x.frozen? ⟨k, 4, none⟩ = false ∧ x.frozen? ⟨k, 5, none⟩ = false ∧ x.frozen? ⟨k, 6, none⟩ = false ∧ x.frozen? ⟨k, 7, none⟩ = false :=
  ⟨h.cell 0, h.cell 1, h.cell 2, h.cell 3, h.cell 4, h.cell 5, h.cell 6, h.cell 7, h.free 0, h.free 1, h.free 2, h.free 3, h.free 4, h.free 5, h.free 6, h.free 7⟩
theorem chg8 (W : World) (g : Nat) (v0 v1 v2 v3 v4 v5 v6 v7 : Value) : Chg (· = g) W ((((((((W.setCell ⟨g, 0, none⟩ v0).setCell ⟨g, 1, none⟩ v1).setCell ⟨g, 2, none⟩ v2).setCell ⟨g, 3, none⟩ v3).setCell ⟨g, 4, none⟩ v4).setCell ⟨g, 5, none⟩ v5).setCell ⟨g, 6, none⟩ v6).setCell ⟨g, 7, none⟩ v7) :=
  ((((((((Chg.refl (· = g) W).setCell (.inl rfl) v0).setCell (.inl rfl) v1).setCell (.inl rfl) v2).setCell (.inl rfl) v3).setCell (.inl rfl) v4).setCell (.inl rfl) v5).setCell (.inl rfl) v6).setCell (.inl rfl) v7
theorem BlkIs.eight {W : World} {g : Nat} {a0 a1 a2 a3 a4 a5 a6 a7 : Value} {ty : TypeId} (h : BlkIs W g #[a0, a1, a2, a3, a4, a5, a6, a7] ty) (v0 v1 v2 v3 v4 v5 v6 v7 : Value) :
    BlkIs ((((((((W.setCell ⟨g, 0, none⟩ v0).setCell ⟨g, 1, none⟩ v1).setCell ⟨g, 2, none⟩ v2).setCell ⟨g, 3, none⟩ v3).setCell ⟨g, 4, none⟩ v4).setCell ⟨g, 5, none⟩ v5).setCell ⟨g, 6, none⟩ v6).setCell ⟨g, 7, none⟩ v7) g #[v0, v1, v2, v3, v4, v5, v6, v7] ty := by
  have := (((((((h.set 0 v0).set 1 v1).set 2 v2).set 3 v3).set 4 v4).set 5 v5).set 6 v6).set 7 v7
  simpa using this
/-- What a region reads of a shape. -/
abbrev ShS (q p d : Nat) (wk fn : Bool) (y : World) : Prop :=
  (y.cell? ⟨q, 0, none⟩ = some (.int .i64 p) ∧ y.cell? ⟨q, 1, none⟩ = some (.int .i64 d) ∧ y.cell? ⟨q, 2, none⟩ = some (.bool wk) ∧ y.cell? ⟨q, 3, none⟩ = some (.bool fn)) ∧ BlkIs y q #[.int .i64 p, .int .i64 d, .bool wk, .bool fn] 51
theorem ShS.of {q p d : Nat} {wk fn : Bool} {y : World} (h : BlkIs y q #[.int .i64 p, .int .i64 d, .bool wk, .bool fn] 51) : ShS q p d wk fn y := ⟨⟨h.cell 0, h.cell 1, h.cell 2, h.cell 3⟩, h⟩
theorem ShS.alloc {q p d : Nat} {wk fn : Bool} {y : World} (h : ShS q p d wk fn y) (o : Obj) : ShS q p d wk fn (y.alloc o) := ShS.of (h.2.alloc o)

section
variable {P b : Nat} {l : List Int} {p d : Nat} {wk fn fr : Bool}

set_option maxRecDepth 100000 in
set_option maxHeartbeats 8000000 in
theorem node_any (F mb n a : Nat) (ov : Value) (o : List Int) (w : World) (hk : BlkIs w F #[ov, .map (some mb)] 76) (hm : IMap w mb n (rk o)) (h : ArenaAt 65 w P b l) (ob : ObjIs l a p d wk fn fr)
    (hs : 0 ≤ l.getD (a + 2) 0 ∧ l.getD (a + 2) 0 ≤ 9223372036854775807) (hp : ∀ i, i < p → 0 ≤ l.getD (a + (3 + i)) 0 ∧ l.getD (a + (3 + i)) 0 ≤ 9223372036854775807) :
    Calls Try.prog 33 #[.pointer (some ⟨F, 0, none⟩), .pointer (some ⟨P, 0, none⟩), .int .i64 a] w fun e w' => ∃ g1 g2, e = .returned (.agg #[.int .i64 (l.getD (a + 2) 0), .int .i64 p, .int .i64 d, .bool wk, .bool fn, .bool fr, .slice (some ⟨g1, 0, none⟩) p p, .slice (some ⟨g2, 0, none⟩) d d]) ∧
      w.heap.size ≤ g1 ∧ w.heap.size ≤ g2 ∧ BlkIs w' g1 ((rnkL o l a p).map (Value.int .i64)).toArray 3 ∧ BlkIs w' g2 ((numL l a p d).map (Value.int .i64)).toArray 3 ∧ Below w.heap.size w w' := by
  obtain ⟨i0, hi, hz0, hz1, hz2⟩ := info_parts infoInt
  have hlt := h.lt
  have p8 := ob.ptrs
  have d8 := ob.data
  have hmk := fun (m : Nat) (hm8 : m ≤ 8) W => make_row (P := Try.prog) 23 3 i0 (.int .i64 0) Try.underlying23 hi hz0 .i64 .i64 m m (Nat.le_refl _) (by rw [hz2]; omega) (by omega) W
  simp only [hz1, Nat.mul_one] at hmk
  have hmp := fun W => hmk p p8 W
  have hmd := fun W => hmk d d8 W
  have M1 := fun y (hy : ArenaAt 65 y P b l) => shape_at a y hy ob
  have M2 := fun y (hy : ArenaAt 65 y P b l) => serial_at a y hy ob hs
  obtain ⟨ser, hser⟩ : ∃ x, l.getD (a + 2) 0 = x := ⟨_, rfl⟩
  rw [hser] at M2 ⊢
  clear hmk hser hs
  go_enter Try.func33, Try.ntmps33
  go_wp2_with fail
  have k6 := BlkIs.new w #[.int .i64 0, .int .i64 0, .int .i64 0, .bool false, .bool false, .bool false, .slice none 0 0, .slice none 0 0] 62
  have hB := (Below.refl w.heap.size w).alloc (Nat.le_refl _) (.cells #[.int .i64 0, .int .i64 0, .int .i64 0, .bool false, .bool false, .bool false, .slice none 0 0, .slice none 0 0] 62)
  generalize w.alloc (.cells #[.int .i64 0, .int .i64 0, .int .i64 0, .bool false, .bool false, .bool false, .slice none 0 0, .slice none 0 0] 62) = x0 at *
  refine (M1 _ (h.below hB hlt.1 hlt.2)).mono ?_
  rintro e x1 ⟨rfl, hb⟩
  have k7 := BlkIs.new x1 #[.int .i64 p, .int .i64 d, .bool wk, .bool fn] 51
  have hb1 := hb.alloc hb.size (.cells #[.int .i64 p, .int .i64 d, .bool wk, .bool fn] 51)
  have k76 : w.heap.size < x1.heap.size := Nat.lt_of_lt_of_le k6.lt hb.size
  replace k6 := k6.on hb1
  replace hB := hB.trans (hb1.mono hB.size)
  clear hb hb1 M1
  go_wp2_with fail
  obtain ⟨q7, hq7⟩ : ∃ q, x1.heap.size = q := ⟨_, rfl⟩
  rw [hq7] at k7 k76 ⊢
  generalize x1.alloc (.cells #[.int .i64 p, .int .i64 d, .bool wk, .bool fn] 51) = x2 at *
  refine (M2 _ (h.below hB hlt.1 hlt.2)).mono ?_
  rintro e x3 ⟨rfl, hb⟩
  replace k6 := k6.on hb
  replace k7 := k7.on hb
  replace hB := hB.trans (hb.mono hB.size)
  clear hb M2 hq7 x0 x1 x2
  obtain ⟨⟨c0, c1, c2, c3⟩, f0, f1, f2, f3, l1⟩ := k7.facts4
  go_upto_region 3 with fail
  go_cut [12] from 30 to 39 (fun s12 wx => ∃ g1 g2 g3 : Nat, s12 = .pointer (some ⟨g3, 0, none⟩) ∧ BlkIs wx g3 #[.int .i64 ser, .int .i64 p, .int .i64 d, .bool wk, .bool fn, .bool fr, .slice (some ⟨g1, 0, none⟩) p p, .slice (some ⟨g2, 0, none⟩) d d] 62 ∧
    BlkIs wx g1 (madeCells #[Value.int .i64 0] p) 3 ∧ BlkIs wx g2 (madeCells #[Value.int .i64 0] d) 3 ∧ g1 ≠ g2 ∧ g1 ≠ g3 ∧ g2 ≠ g3 ∧ x3.heap.size ≤ g1 ∧ x3.heap.size ≤ g2 ∧ x3.heap.size ≤ g3 ∧ Below x3.heap.size x3 wx)
  case first =>
    refine wp_region_noPanic ?_
    refine wp_region_held_drew (S := ShS q7 p d wk fn) (by kernel_rfl) (ShS.of k7) (fun hS => ?_)
    have hq7 : q7 < x3.heap.size := l1
    clear c0 c1 c2 c3 f0 f1 f2 f3
    first
    | (refine wpAnyH_take (i := 0) (v := ?_) rfl (by kernel_rfl) (by kernel_rfl) (by kernel_rfl) (fun _ _ _ h => h) (Or.inl ⟨by rfl, ?_⟩) hS ?_; rotate_left; (· (intro y hy; (try dsimp only at hy); go_simp; try with_reducible rfl)); try simp only [Act.put, List.setIfInBounds_toArray, List.set_cons_zero, List.set_cons_succ, List.getElem_toArray, List.getElem_cons_zero, List.getElem_cons_succ])
    | (refine wpAnyH_take (i := 0) (v := undef) rfl (by kernel_rfl) (by kernel_rfl) (by kernel_rfl) (fun _ _ _ h => h) (Or.inr ⟨by rfl, rfl⟩) hS ?_; try simp only [Act.put, List.setIfInBounds_toArray, List.set_cons_zero, List.set_cons_succ, List.getElem_toArray, List.getElem_cons_zero, List.getElem_cons_succ])
    first
    | (refine wpAnyH_take (i := 1) (v := ?_) rfl (by kernel_rfl) (by kernel_rfl) (by kernel_rfl) (fun _ _ _ h => h) (Or.inl ⟨by rfl, ?_⟩) hS ?_; rotate_left; (· (intro y hy; (try dsimp only at hy); go_simp; try with_reducible rfl)); try simp only [Act.put, List.setIfInBounds_toArray, List.set_cons_zero, List.set_cons_succ, List.getElem_toArray, List.getElem_cons_zero, List.getElem_cons_succ])
    | (refine wpAnyH_take (i := 1) (v := undef) rfl (by kernel_rfl) (by kernel_rfl) (by kernel_rfl) (fun _ _ _ h => h) (Or.inr ⟨by rfl, rfl⟩) hS ?_; try simp only [Act.put, List.setIfInBounds_toArray, List.set_cons_zero, List.set_cons_succ, List.getElem_toArray, List.getElem_cons_zero, List.getElem_cons_succ])
    first
    | (refine wpAnyH_take (i := 2) (v := ?_) rfl (by kernel_rfl) (by kernel_rfl) (by kernel_rfl) (fun _ _ _ h => h) (Or.inl ⟨by rfl, ?_⟩) hS ?_; rotate_left; (· (intro y hy; (try dsimp only at hy); go_simp; try with_reducible rfl)); try simp only [Act.put, List.setIfInBounds_toArray, List.set_cons_zero, List.set_cons_succ, List.getElem_toArray, List.getElem_cons_zero, List.getElem_cons_succ])
    | (refine wpAnyH_take (i := 2) (v := undef) rfl (by kernel_rfl) (by kernel_rfl) (by kernel_rfl) (fun _ _ _ h => h) (Or.inr ⟨by rfl, rfl⟩) hS ?_; try simp only [Act.put, List.setIfInBounds_toArray, List.set_cons_zero, List.set_cons_succ, List.getElem_toArray, List.getElem_cons_zero, List.getElem_cons_succ])
    first
    | (refine wpAnyH_take (i := 3) (v := ?_) rfl (by kernel_rfl) (by kernel_rfl) (by kernel_rfl) (fun _ _ _ h => h) (Or.inl ⟨by rfl, ?_⟩) hS ?_; rotate_left; (· (intro y hy; (try dsimp only at hy); go_simp; try with_reducible rfl)); try simp only [Act.put, List.setIfInBounds_toArray, List.set_cons_zero, List.set_cons_succ, List.getElem_toArray, List.getElem_cons_zero, List.getElem_cons_succ])
    | (refine wpAnyH_take (i := 3) (v := undef) rfl (by kernel_rfl) (by kernel_rfl) (by kernel_rfl) (fun _ _ _ h => h) (Or.inr ⟨by rfl, rfl⟩) hS ?_; try simp only [Act.put, List.setIfInBounds_toArray, List.set_cons_zero, List.set_cons_succ, List.getElem_toArray, List.getElem_cons_zero, List.getElem_cons_succ])
    first
    | (refine wpAnyH_take (i := 4) (v := ?_) rfl (by kernel_rfl) (by kernel_rfl) (by kernel_rfl) (fun _ _ _ h => h) (Or.inl ⟨by rfl, ?_⟩) hS ?_; rotate_left; (· (intro y hy; (try dsimp only at hy); go_simp; try with_reducible rfl)); try simp only [Act.put, List.setIfInBounds_toArray, List.set_cons_zero, List.set_cons_succ, List.getElem_toArray, List.getElem_cons_zero, List.getElem_cons_succ])
    | (refine wpAnyH_take (i := 4) (v := undef) rfl (by kernel_rfl) (by kernel_rfl) (by kernel_rfl) (fun _ _ _ h => h) (Or.inr ⟨by rfl, rfl⟩) hS ?_; try simp only [Act.put, List.setIfInBounds_toArray, List.set_cons_zero, List.set_cons_succ, List.getElem_toArray, List.getElem_cons_zero, List.getElem_cons_succ])
    first
    | (refine wpAnyH_take (i := 6) (v := ?_) rfl (by kernel_rfl) (by kernel_rfl) (by kernel_rfl) (fun _ _ _ h => h) (Or.inl ⟨by rfl, ?_⟩) hS ?_; rotate_left; (· (intro y hy; (try dsimp only at hy); go_simp; try with_reducible rfl)); try simp only [Act.put, List.setIfInBounds_toArray, List.set_cons_zero, List.set_cons_succ, List.getElem_toArray, List.getElem_cons_zero, List.getElem_cons_succ])
    | (refine wpAnyH_take (i := 6) (v := undef) rfl (by kernel_rfl) (by kernel_rfl) (by kernel_rfl) (fun _ _ _ h => h) (Or.inr ⟨by rfl, rfl⟩) hS ?_; try simp only [Act.put, List.setIfInBounds_toArray, List.set_cons_zero, List.set_cons_succ, List.getElem_toArray, List.getElem_cons_zero, List.getElem_cons_succ])
    first
    | (refine wpAnyH_take (i := 7) (v := ?_) rfl (by kernel_rfl) (by kernel_rfl) (by kernel_rfl) (fun _ _ _ h => h) (Or.inl ⟨by rfl, ?_⟩) hS ?_; rotate_left; (· (intro y hy; (try dsimp only at hy); go_simp; try with_reducible rfl)); try simp only [Act.put, List.setIfInBounds_toArray, List.set_cons_zero, List.set_cons_succ, List.getElem_toArray, List.getElem_cons_zero, List.getElem_cons_succ])
    | (refine wpAnyH_take (i := 7) (v := undef) rfl (by kernel_rfl) (by kernel_rfl) (by kernel_rfl) (fun _ _ _ h => h) (Or.inr ⟨by rfl, rfl⟩) hS ?_; try simp only [Act.put, List.setIfInBounds_toArray, List.set_cons_zero, List.set_cons_succ, List.getElem_toArray, List.getElem_cons_zero, List.getElem_cons_succ])
    -- [ways
    refine wpAnyH_ready (rs := [5, 8, 10]) (by kernel_rfl) (by simp) ?_
    refine AllReadyH.cons (o := _) rfl (fun K hK => ?_) (AllReadyH.cons (o := _) rfl (fun K hK => ?_) (AllReadyH.cons (o := _) rfl (fun K hK => ?_) AllReadyH.nil))
    · go_simp
      refine hK.out _ _ (hS.alloc _) (fun hS => ?_)
      clear hK K
      try simp only [Act.put, List.setIfInBounds_toArray, List.set_cons_zero, List.set_cons_succ]
      refine wpAnyH_ready (rs := [8, 10]) (by kernel_rfl) (by simp) ?_
      refine AllReadyH.cons (o := _) rfl (fun K hK => ?_) (AllReadyH.cons (o := _) rfl (fun K hK => ?_) AllReadyH.nil)
      · go_simp
        refine hK.out _ _ (hS.alloc _) (fun hS => ?_)
        clear hK K
        try simp only [Act.put, List.setIfInBounds_toArray, List.set_cons_zero, List.set_cons_succ]
        first
        | (refine wpAnyH_take (i := 9) (v := ?_) rfl (by kernel_rfl) (by kernel_rfl) (by kernel_rfl) (fun _ _ _ h => h) (Or.inl ⟨by rfl, ?_⟩) hS ?_; rotate_left; (· (intro y hy; (try dsimp only at hy); go_simp; try with_reducible rfl)); try simp only [Act.put, List.setIfInBounds_toArray, List.set_cons_zero, List.set_cons_succ, List.getElem_toArray, List.getElem_cons_zero, List.getElem_cons_succ])
        | (refine wpAnyH_take (i := 9) (v := undef) rfl (by kernel_rfl) (by kernel_rfl) (by kernel_rfl) (fun _ _ _ h => h) (Or.inr ⟨by rfl, rfl⟩) hS ?_; try simp only [Act.put, List.setIfInBounds_toArray, List.set_cons_zero, List.set_cons_succ, List.getElem_toArray, List.getElem_cons_zero, List.getElem_cons_succ])
        refine wpAnyH_ready (rs := [10]) (by kernel_rfl) (by simp) ?_
        refine AllReadyH.cons (o := _) rfl (fun K hK => ?_) AllReadyH.nil
        go_simp
        refine hK.out _ _ (hS.alloc _) (fun hS => ?_)
        clear hK K
        try simp only [Act.put, List.setIfInBounds_toArray, List.set_cons_zero, List.set_cons_succ]
        obtain ⟨b1, b2, b3, hbb⟩ := three_new x3 _ rfl (madeCells #[Value.int .i64 0] p) (madeCells #[Value.int .i64 0] d) #[.int .i64 0, .int .i64 0, .int .i64 0, .bool false, .bool false, .bool false, .slice none 0 0, .slice none 0 0] 3 3 62
        obtain ⟨c0, c1, c2, c3, c4, c5, c6, c7, f0, f1, f2, f3, f4, f5, f6, f7⟩ := BlkIs.facts8 b3
        refine wpAnyH_ready (rs := [11]) (by kernel_rfl) (by simp) ?_
        refine AllReadyH.cons (o := _) rfl (fun K hK => ?_) AllReadyH.nil
        go_simp
        clear c0 c1 c2 c3 c4 c5 c6 c7 f0 f1 f2 f3 f4 f5 f6 f7 b1 b2 b3 hbb
        obtain ⟨b1, b2, b3, hbb⟩ := three_new x3 _ rfl (madeCells #[Value.int .i64 0] p) (madeCells #[Value.int .i64 0] d) #[.int .i64 ser, .int .i64 p, .int .i64 d, .bool wk, .bool fn, .bool fr, .slice (some ⟨x3.heap.size, 0, none⟩) p p, .slice (some ⟨(x3.heap.size + 1), 0, none⟩) d d] 3 3 62
        refine hK.out _ _ (ShS.of (((k7.alloc _).alloc _).alloc _).drew) (fun hS => ?_)
        clear hK K
        try simp only [Act.put, List.setIfInBounds_toArray, List.set_cons_zero, List.set_cons_succ]
        refine wpAnyH_done (by kernel_rfl) ?_ _
        refine NoPanic.normal ?_
        go_wp2_with fail
        go_meet
        exact ⟨x3.heap.size, (x3.heap.size + 1), (x3.heap.size + 1 + 1), rfl, b3.drew, b1.drew, b2.drew, by omega, by omega, by omega, by omega, by omega, by omega, hbb.drew⟩
      · go_simp
        refine hK.out _ _ (hS.alloc _) (fun hS => ?_)
        clear hK K
        try simp only [Act.put, List.setIfInBounds_toArray, List.set_cons_zero, List.set_cons_succ]
        refine wpAnyH_ready (rs := [8]) (by kernel_rfl) (by simp) ?_
        refine AllReadyH.cons (o := _) rfl (fun K hK => ?_) AllReadyH.nil
        go_simp
        refine hK.out _ _ (hS.alloc _) (fun hS => ?_)
        clear hK K
        try simp only [Act.put, List.setIfInBounds_toArray, List.set_cons_zero, List.set_cons_succ]
        first
        | (refine wpAnyH_take (i := 9) (v := ?_) rfl (by kernel_rfl) (by kernel_rfl) (by kernel_rfl) (fun _ _ _ h => h) (Or.inl ⟨by rfl, ?_⟩) hS ?_; rotate_left; (· (intro y hy; (try dsimp only at hy); go_simp; try with_reducible rfl)); try simp only [Act.put, List.setIfInBounds_toArray, List.set_cons_zero, List.set_cons_succ, List.getElem_toArray, List.getElem_cons_zero, List.getElem_cons_succ])
        | (refine wpAnyH_take (i := 9) (v := undef) rfl (by kernel_rfl) (by kernel_rfl) (by kernel_rfl) (fun _ _ _ h => h) (Or.inr ⟨by rfl, rfl⟩) hS ?_; try simp only [Act.put, List.setIfInBounds_toArray, List.set_cons_zero, List.set_cons_succ, List.getElem_toArray, List.getElem_cons_zero, List.getElem_cons_succ])
        obtain ⟨b1, b2, b3, hbb⟩ := three_new x3 _ rfl (madeCells #[Value.int .i64 0] p) #[.int .i64 0, .int .i64 0, .int .i64 0, .bool false, .bool false, .bool false, .slice none 0 0, .slice none 0 0] (madeCells #[Value.int .i64 0] d) 3 62 3
        obtain ⟨c0, c1, c2, c3, c4, c5, c6, c7, f0, f1, f2, f3, f4, f5, f6, f7⟩ := BlkIs.facts8 b2
        refine wpAnyH_ready (rs := [11]) (by kernel_rfl) (by simp) ?_
        refine AllReadyH.cons (o := _) rfl (fun K hK => ?_) AllReadyH.nil
        go_simp
        clear c0 c1 c2 c3 c4 c5 c6 c7 f0 f1 f2 f3 f4 f5 f6 f7 b1 b2 b3 hbb
        obtain ⟨b1, b2, b3, hbb⟩ := three_new x3 _ rfl (madeCells #[Value.int .i64 0] p) #[.int .i64 ser, .int .i64 p, .int .i64 d, .bool wk, .bool fn, .bool fr, .slice (some ⟨x3.heap.size, 0, none⟩) p p, .slice (some ⟨(x3.heap.size + 1 + 1), 0, none⟩) d d] (madeCells #[Value.int .i64 0] d) 3 62 3
        refine hK.out _ _ (ShS.of (((k7.alloc _).alloc _).alloc _).drew) (fun hS => ?_)
        clear hK K
        try simp only [Act.put, List.setIfInBounds_toArray, List.set_cons_zero, List.set_cons_succ]
        refine wpAnyH_done (by kernel_rfl) ?_ _
        refine NoPanic.normal ?_
        go_wp2_with fail
        go_meet
        exact ⟨x3.heap.size, (x3.heap.size + 1 + 1), (x3.heap.size + 1), rfl, b2.drew, b1.drew, b3.drew, by omega, by omega, by omega, by omega, by omega, by omega, hbb.drew⟩
    · go_simp
      refine hK.out _ _ (hS.alloc _) (fun hS => ?_)
      clear hK K
      try simp only [Act.put, List.setIfInBounds_toArray, List.set_cons_zero, List.set_cons_succ]
      refine wpAnyH_ready (rs := [5, 10]) (by kernel_rfl) (by simp) ?_
      refine AllReadyH.cons (o := _) rfl (fun K hK => ?_) (AllReadyH.cons (o := _) rfl (fun K hK => ?_) AllReadyH.nil)
      · go_simp
        refine hK.out _ _ (hS.alloc _) (fun hS => ?_)
        clear hK K
        try simp only [Act.put, List.setIfInBounds_toArray, List.set_cons_zero, List.set_cons_succ]
        first
        | (refine wpAnyH_take (i := 9) (v := ?_) rfl (by kernel_rfl) (by kernel_rfl) (by kernel_rfl) (fun _ _ _ h => h) (Or.inl ⟨by rfl, ?_⟩) hS ?_; rotate_left; (· (intro y hy; (try dsimp only at hy); go_simp; try with_reducible rfl)); try simp only [Act.put, List.setIfInBounds_toArray, List.set_cons_zero, List.set_cons_succ, List.getElem_toArray, List.getElem_cons_zero, List.getElem_cons_succ])
        | (refine wpAnyH_take (i := 9) (v := undef) rfl (by kernel_rfl) (by kernel_rfl) (by kernel_rfl) (fun _ _ _ h => h) (Or.inr ⟨by rfl, rfl⟩) hS ?_; try simp only [Act.put, List.setIfInBounds_toArray, List.set_cons_zero, List.set_cons_succ, List.getElem_toArray, List.getElem_cons_zero, List.getElem_cons_succ])
        refine wpAnyH_ready (rs := [10]) (by kernel_rfl) (by simp) ?_
        refine AllReadyH.cons (o := _) rfl (fun K hK => ?_) AllReadyH.nil
        go_simp
        refine hK.out _ _ (hS.alloc _) (fun hS => ?_)
        clear hK K
        try simp only [Act.put, List.setIfInBounds_toArray, List.set_cons_zero, List.set_cons_succ]
        obtain ⟨b1, b2, b3, hbb⟩ := three_new x3 _ rfl (madeCells #[Value.int .i64 0] d) (madeCells #[Value.int .i64 0] p) #[.int .i64 0, .int .i64 0, .int .i64 0, .bool false, .bool false, .bool false, .slice none 0 0, .slice none 0 0] 3 3 62
        obtain ⟨c0, c1, c2, c3, c4, c5, c6, c7, f0, f1, f2, f3, f4, f5, f6, f7⟩ := BlkIs.facts8 b3
        refine wpAnyH_ready (rs := [11]) (by kernel_rfl) (by simp) ?_
        refine AllReadyH.cons (o := _) rfl (fun K hK => ?_) AllReadyH.nil
        go_simp
        clear c0 c1 c2 c3 c4 c5 c6 c7 f0 f1 f2 f3 f4 f5 f6 f7 b1 b2 b3 hbb
        obtain ⟨b1, b2, b3, hbb⟩ := three_new x3 _ rfl (madeCells #[Value.int .i64 0] d) (madeCells #[Value.int .i64 0] p) #[.int .i64 ser, .int .i64 p, .int .i64 d, .bool wk, .bool fn, .bool fr, .slice (some ⟨(x3.heap.size + 1), 0, none⟩) p p, .slice (some ⟨x3.heap.size, 0, none⟩) d d] 3 3 62
        refine hK.out _ _ (ShS.of (((k7.alloc _).alloc _).alloc _).drew) (fun hS => ?_)
        clear hK K
        try simp only [Act.put, List.setIfInBounds_toArray, List.set_cons_zero, List.set_cons_succ]
        refine wpAnyH_done (by kernel_rfl) ?_ _
        refine NoPanic.normal ?_
        go_wp2_with fail
        go_meet
        exact ⟨(x3.heap.size + 1), x3.heap.size, (x3.heap.size + 1 + 1), rfl, b3.drew, b2.drew, b1.drew, by omega, by omega, by omega, by omega, by omega, by omega, hbb.drew⟩
      · go_simp
        refine hK.out _ _ (hS.alloc _) (fun hS => ?_)
        clear hK K
        try simp only [Act.put, List.setIfInBounds_toArray, List.set_cons_zero, List.set_cons_succ]
        refine wpAnyH_ready (rs := [5]) (by kernel_rfl) (by simp) ?_
        refine AllReadyH.cons (o := _) rfl (fun K hK => ?_) AllReadyH.nil
        go_simp
        refine hK.out _ _ (hS.alloc _) (fun hS => ?_)
        clear hK K
        try simp only [Act.put, List.setIfInBounds_toArray, List.set_cons_zero, List.set_cons_succ]
        first
        | (refine wpAnyH_take (i := 9) (v := ?_) rfl (by kernel_rfl) (by kernel_rfl) (by kernel_rfl) (fun _ _ _ h => h) (Or.inl ⟨by rfl, ?_⟩) hS ?_; rotate_left; (· (intro y hy; (try dsimp only at hy); go_simp; try with_reducible rfl)); try simp only [Act.put, List.setIfInBounds_toArray, List.set_cons_zero, List.set_cons_succ, List.getElem_toArray, List.getElem_cons_zero, List.getElem_cons_succ])
        | (refine wpAnyH_take (i := 9) (v := undef) rfl (by kernel_rfl) (by kernel_rfl) (by kernel_rfl) (fun _ _ _ h => h) (Or.inr ⟨by rfl, rfl⟩) hS ?_; try simp only [Act.put, List.setIfInBounds_toArray, List.set_cons_zero, List.set_cons_succ, List.getElem_toArray, List.getElem_cons_zero, List.getElem_cons_succ])
        obtain ⟨b1, b2, b3, hbb⟩ := three_new x3 _ rfl (madeCells #[Value.int .i64 0] d) #[.int .i64 0, .int .i64 0, .int .i64 0, .bool false, .bool false, .bool false, .slice none 0 0, .slice none 0 0] (madeCells #[Value.int .i64 0] p) 3 62 3
        obtain ⟨c0, c1, c2, c3, c4, c5, c6, c7, f0, f1, f2, f3, f4, f5, f6, f7⟩ := BlkIs.facts8 b2
        refine wpAnyH_ready (rs := [11]) (by kernel_rfl) (by simp) ?_
        refine AllReadyH.cons (o := _) rfl (fun K hK => ?_) AllReadyH.nil
        go_simp
        clear c0 c1 c2 c3 c4 c5 c6 c7 f0 f1 f2 f3 f4 f5 f6 f7 b1 b2 b3 hbb
        obtain ⟨b1, b2, b3, hbb⟩ := three_new x3 _ rfl (madeCells #[Value.int .i64 0] d) #[.int .i64 ser, .int .i64 p, .int .i64 d, .bool wk, .bool fn, .bool fr, .slice (some ⟨(x3.heap.size + 1 + 1), 0, none⟩) p p, .slice (some ⟨x3.heap.size, 0, none⟩) d d] (madeCells #[Value.int .i64 0] p) 3 62 3
        refine hK.out _ _ (ShS.of (((k7.alloc _).alloc _).alloc _).drew) (fun hS => ?_)
        clear hK K
        try simp only [Act.put, List.setIfInBounds_toArray, List.set_cons_zero, List.set_cons_succ]
        refine wpAnyH_done (by kernel_rfl) ?_ _
        refine NoPanic.normal ?_
        go_wp2_with fail
        go_meet
        exact ⟨(x3.heap.size + 1 + 1), x3.heap.size, (x3.heap.size + 1), rfl, b2.drew, b3.drew, b1.drew, by omega, by omega, by omega, by omega, by omega, by omega, hbb.drew⟩
    · go_simp
      refine hK.out _ _ (hS.alloc _) (fun hS => ?_)
      clear hK K
      try simp only [Act.put, List.setIfInBounds_toArray, List.set_cons_zero, List.set_cons_succ]
      refine wpAnyH_ready (rs := [5, 8]) (by kernel_rfl) (by simp) ?_
      refine AllReadyH.cons (o := _) rfl (fun K hK => ?_) (AllReadyH.cons (o := _) rfl (fun K hK => ?_) AllReadyH.nil)
      · go_simp
        refine hK.out _ _ (hS.alloc _) (fun hS => ?_)
        clear hK K
        try simp only [Act.put, List.setIfInBounds_toArray, List.set_cons_zero, List.set_cons_succ]
        refine wpAnyH_ready (rs := [8]) (by kernel_rfl) (by simp) ?_
        refine AllReadyH.cons (o := _) rfl (fun K hK => ?_) AllReadyH.nil
        go_simp
        refine hK.out _ _ (hS.alloc _) (fun hS => ?_)
        clear hK K
        try simp only [Act.put, List.setIfInBounds_toArray, List.set_cons_zero, List.set_cons_succ]
        first
        | (refine wpAnyH_take (i := 9) (v := ?_) rfl (by kernel_rfl) (by kernel_rfl) (by kernel_rfl) (fun _ _ _ h => h) (Or.inl ⟨by rfl, ?_⟩) hS ?_; rotate_left; (· (intro y hy; (try dsimp only at hy); go_simp; try with_reducible rfl)); try simp only [Act.put, List.setIfInBounds_toArray, List.set_cons_zero, List.set_cons_succ, List.getElem_toArray, List.getElem_cons_zero, List.getElem_cons_succ])
        | (refine wpAnyH_take (i := 9) (v := undef) rfl (by kernel_rfl) (by kernel_rfl) (by kernel_rfl) (fun _ _ _ h => h) (Or.inr ⟨by rfl, rfl⟩) hS ?_; try simp only [Act.put, List.setIfInBounds_toArray, List.set_cons_zero, List.set_cons_succ, List.getElem_toArray, List.getElem_cons_zero, List.getElem_cons_succ])
        obtain ⟨b1, b2, b3, hbb⟩ := three_new x3 _ rfl #[.int .i64 0, .int .i64 0, .int .i64 0, .bool false, .bool false, .bool false, .slice none 0 0, .slice none 0 0] (madeCells #[Value.int .i64 0] p) (madeCells #[Value.int .i64 0] d) 62 3 3
        obtain ⟨c0, c1, c2, c3, c4, c5, c6, c7, f0, f1, f2, f3, f4, f5, f6, f7⟩ := BlkIs.facts8 b1
        refine wpAnyH_ready (rs := [11]) (by kernel_rfl) (by simp) ?_
        refine AllReadyH.cons (o := _) rfl (fun K hK => ?_) AllReadyH.nil
        go_simp
        clear c0 c1 c2 c3 c4 c5 c6 c7 f0 f1 f2 f3 f4 f5 f6 f7 b1 b2 b3 hbb
        obtain ⟨b1, b2, b3, hbb⟩ := three_new x3 _ rfl #[.int .i64 ser, .int .i64 p, .int .i64 d, .bool wk, .bool fn, .bool fr, .slice (some ⟨(x3.heap.size + 1), 0, none⟩) p p, .slice (some ⟨(x3.heap.size + 1 + 1), 0, none⟩) d d] (madeCells #[Value.int .i64 0] p) (madeCells #[Value.int .i64 0] d) 62 3 3
        refine hK.out _ _ (ShS.of (((k7.alloc _).alloc _).alloc _).drew) (fun hS => ?_)
        clear hK K
        try simp only [Act.put, List.setIfInBounds_toArray, List.set_cons_zero, List.set_cons_succ]
        refine wpAnyH_done (by kernel_rfl) ?_ _
        refine NoPanic.normal ?_
        go_wp2_with fail
        go_meet
        exact ⟨(x3.heap.size + 1), (x3.heap.size + 1 + 1), x3.heap.size, rfl, b1.drew, b2.drew, b3.drew, by omega, by omega, by omega, by omega, by omega, by omega, hbb.drew⟩
      · go_simp
        refine hK.out _ _ (hS.alloc _) (fun hS => ?_)
        clear hK K
        try simp only [Act.put, List.setIfInBounds_toArray, List.set_cons_zero, List.set_cons_succ]
        refine wpAnyH_ready (rs := [5]) (by kernel_rfl) (by simp) ?_
        refine AllReadyH.cons (o := _) rfl (fun K hK => ?_) AllReadyH.nil
        go_simp
        refine hK.out _ _ (hS.alloc _) (fun hS => ?_)
        clear hK K
        try simp only [Act.put, List.setIfInBounds_toArray, List.set_cons_zero, List.set_cons_succ]
        first
        | (refine wpAnyH_take (i := 9) (v := ?_) rfl (by kernel_rfl) (by kernel_rfl) (by kernel_rfl) (fun _ _ _ h => h) (Or.inl ⟨by rfl, ?_⟩) hS ?_; rotate_left; (· (intro y hy; (try dsimp only at hy); go_simp; try with_reducible rfl)); try simp only [Act.put, List.setIfInBounds_toArray, List.set_cons_zero, List.set_cons_succ, List.getElem_toArray, List.getElem_cons_zero, List.getElem_cons_succ])
        | (refine wpAnyH_take (i := 9) (v := undef) rfl (by kernel_rfl) (by kernel_rfl) (by kernel_rfl) (fun _ _ _ h => h) (Or.inr ⟨by rfl, rfl⟩) hS ?_; try simp only [Act.put, List.setIfInBounds_toArray, List.set_cons_zero, List.set_cons_succ, List.getElem_toArray, List.getElem_cons_zero, List.getElem_cons_succ])
        obtain ⟨b1, b2, b3, hbb⟩ := three_new x3 _ rfl #[.int .i64 0, .int .i64 0, .int .i64 0, .bool false, .bool false, .bool false, .slice none 0 0, .slice none 0 0] (madeCells #[Value.int .i64 0] d) (madeCells #[Value.int .i64 0] p) 62 3 3
        obtain ⟨c0, c1, c2, c3, c4, c5, c6, c7, f0, f1, f2, f3, f4, f5, f6, f7⟩ := BlkIs.facts8 b1
        refine wpAnyH_ready (rs := [11]) (by kernel_rfl) (by simp) ?_
        refine AllReadyH.cons (o := _) rfl (fun K hK => ?_) AllReadyH.nil
        go_simp
        clear c0 c1 c2 c3 c4 c5 c6 c7 f0 f1 f2 f3 f4 f5 f6 f7 b1 b2 b3 hbb
        obtain ⟨b1, b2, b3, hbb⟩ := three_new x3 _ rfl #[.int .i64 ser, .int .i64 p, .int .i64 d, .bool wk, .bool fn, .bool fr, .slice (some ⟨(x3.heap.size + 1 + 1), 0, none⟩) p p, .slice (some ⟨(x3.heap.size + 1), 0, none⟩) d d] (madeCells #[Value.int .i64 0] d) (madeCells #[Value.int .i64 0] p) 62 3 3
        refine hK.out _ _ (ShS.of (((k7.alloc _).alloc _).alloc _).drew) (fun hS => ?_)
        clear hK K
        try simp only [Act.put, List.setIfInBounds_toArray, List.set_cons_zero, List.set_cons_succ]
        refine wpAnyH_done (by kernel_rfl) ?_ _
        refine NoPanic.normal ?_
        go_wp2_with fail
        go_meet
        exact ⟨(x3.heap.size + 1 + 1), (x3.heap.size + 1), x3.heap.size, rfl, b1.drew, b3.drew, b2.drew, by omega, by omega, by omega, by omega, by omega, by omega, hbb.drew⟩
    -- ways]
  case rest =>
    obtain ⟨g1, g2, g3, rfl, kn, kz1, kz2, n12, n13, n23, hg1, hg2, hg3, hb⟩ := hcut
    replace k6 := k6.on hb
    replace hB := hB.trans (hb.mono hB.size)
    have h3w : w.heap.size ≤ x3.heap.size := by omega
    have h63 : w.heap.size < x3.heap.size := by omega
    clear hb c0 c1 c2 c3 f0 f1 f2 f3 l1 k7 hmp hmd
    rw [made_ints] at kz1 kz2
    have hFl := hk.lt
    have hml := hm.lt
    obtain ⟨d0, d1, d2, d3, d4, d5, d6, d7, -⟩ := kn.facts8
    clear d0 d1 d2 d3 d4 d5 d7
    go_wp2_with fail
    go_loopw [43] (fun i wr => ∃ (k : Nat) (zs : List Int), k ≤ p ∧ i = .int .i64 k ∧ zs.length = p ∧ (∀ j, j < k → zs.getD j 0 = rankV o (l.getD (a + (3 + j)) 0)) ∧ BlkIs wr g1 (zs.map (Value.int .i64)).toArray 3 ∧ Chg (· = g1) wc wr) (fun i _ => p - (intOf i).toNat)
    case atStart => exact ⟨0, _, by omega, rfl, by simp, fun j hj => by omega, kz1, Chg.refl _ _⟩
    case round =>
      clear kz1
      obtain ⟨k, zs, hkp, rfl, hzl, hzs, hkr, hch⟩ := hrel
      have hBr := hB.trans (hch.below (n := w.heap.size) (fun c e => by omega) hB.size)
      by_cases hlt2 : k < p
      · have M1 := ptr_at a k wr (h.below hBr hlt.1 hlt.2) ob hlt2 (hp k hlt2)
        have hbd := hp k hlt2
        obtain ⟨y, hy⟩ : ∃ y, l.getD (a + (3 + k)) 0 = y := ⟨_, rfl⟩
        rw [hy] at M1 hbd
        have d6r := (hch.cell (p := ⟨g3, 6, none⟩) kn.lt (by simpa using fun e => n13 e.symm)).trans d6
        have j0 : (0 : Int) ≤ (k : Int) := by omega
        have j1 : (k : Int) < (p : Int) := by omega
        go_wp2_with fail
        refine M1.mono ?_
        rintro e x2 ⟨rfl, hb2⟩
        clear M1
        go_upto_region 8 with fail
        have hkx := hkr.more hb2 (Nat.le_refl _)
        have hBx := hBr.trans (hb2.mono hBr.size)
        have d6x := (hb2.cell (p := ⟨g3, 6, none⟩) (Nat.lt_of_lt_of_le kn.lt hch.size)).trans d6r
        have M2 := rank_any F mb n ov o y x2.drew ((hk.below hBx hFl).drew) ((hm.below hBx hml).chg ((Chg.refl (fun _ => False) x2).drew) (fun h => h)) (by omega)
        obtain ⟨r, hr⟩ : ∃ r, rankV o y = r := ⟨_, rfl⟩
        rw [hr] at M2
        refine wp_region_noPanic ?_
        refine wp_region_held_drew (S := fun y => y.cell? ⟨g3, 6, none⟩ = some (.slice (some ⟨g1, 0, none⟩) p p)) (by kernel_rfl) d6x (fun hS => ?_)
        first
        | (refine wpAnyH_take (i := 0) (v := ?_) rfl (by kernel_rfl) (by kernel_rfl) (by kernel_rfl) (fun _ _ _ h => h) (Or.inl ⟨by rfl, ?_⟩) hS ?_; rotate_left; (· (intro y hy; (try dsimp only at hy); go_simp; try with_reducible rfl)); try simp only [Act.put, List.setIfInBounds_toArray, List.set_cons_zero, List.set_cons_succ, List.getElem_toArray, List.getElem_cons_zero, List.getElem_cons_succ])
        | (refine wpAnyH_take (i := 0) (v := undef) rfl (by kernel_rfl) (by kernel_rfl) (by kernel_rfl) (fun _ _ _ h => h) (Or.inr ⟨by rfl, rfl⟩) hS ?_; try simp only [Act.put, List.setIfInBounds_toArray, List.set_cons_zero, List.set_cons_succ, List.getElem_toArray, List.getElem_cons_zero, List.getElem_cons_succ])
        first
        | (refine wpAnyH_take (i := 1) (v := ?_) rfl (by kernel_rfl) (by kernel_rfl) (by kernel_rfl) (fun _ _ _ h => h) (Or.inl ⟨by rfl, ?_⟩) hS ?_; rotate_left; (· (intro y hy; (try dsimp only at hy); go_simp; try with_reducible rfl)); try simp only [Act.put, List.setIfInBounds_toArray, List.set_cons_zero, List.set_cons_succ, List.getElem_toArray, List.getElem_cons_zero, List.getElem_cons_succ])
        | (refine wpAnyH_take (i := 1) (v := undef) rfl (by kernel_rfl) (by kernel_rfl) (by kernel_rfl) (fun _ _ _ h => h) (Or.inr ⟨by rfl, rfl⟩) hS ?_; try simp only [Act.put, List.setIfInBounds_toArray, List.set_cons_zero, List.set_cons_succ, List.getElem_toArray, List.getElem_cons_zero, List.getElem_cons_succ])
        first
        | (refine wpAnyH_take (i := 2) (v := ?_) rfl (by kernel_rfl) (by kernel_rfl) (by kernel_rfl) (fun _ _ _ h => h) (Or.inl ⟨by rfl, ?_⟩) hS ?_; rotate_left; (· (intro y hy; (try dsimp only at hy); go_simp; try with_reducible rfl)); try simp only [Act.put, List.setIfInBounds_toArray, List.set_cons_zero, List.set_cons_succ, List.getElem_toArray, List.getElem_cons_zero, List.getElem_cons_succ])
        | (refine wpAnyH_take (i := 2) (v := undef) rfl (by kernel_rfl) (by kernel_rfl) (by kernel_rfl) (fun _ _ _ h => h) (Or.inr ⟨by rfl, rfl⟩) hS ?_; try simp only [Act.put, List.setIfInBounds_toArray, List.set_cons_zero, List.set_cons_succ, List.getElem_toArray, List.getElem_cons_zero, List.getElem_cons_succ])
        first
        | (refine wpAnyH_take (i := 3) (v := ?_) rfl (by kernel_rfl) (by kernel_rfl) (by kernel_rfl) (fun _ _ _ h => h) (Or.inl ⟨by rfl, ?_⟩) hS ?_; rotate_left; (· (intro y hy; (try dsimp only at hy); go_simp; try with_reducible rfl)); try simp only [Act.put, List.setIfInBounds_toArray, List.set_cons_zero, List.set_cons_succ, List.getElem_toArray, List.getElem_cons_zero, List.getElem_cons_succ])
        | (refine wpAnyH_take (i := 3) (v := undef) rfl (by kernel_rfl) (by kernel_rfl) (by kernel_rfl) (fun _ _ _ h => h) (Or.inr ⟨by rfl, rfl⟩) hS ?_; try simp only [Act.put, List.setIfInBounds_toArray, List.set_cons_zero, List.set_cons_succ, List.getElem_toArray, List.getElem_cons_zero, List.getElem_cons_succ])
        first
        | (refine wpAnyH_take (i := 4) (v := ?_) rfl (by kernel_rfl) (by kernel_rfl) (by kernel_rfl) (fun _ _ _ h => h) (Or.inl ⟨by rfl, ?_⟩) hS ?_; rotate_left; (· (intro y hy; (try dsimp only at hy); go_simp; try with_reducible rfl)); try simp only [Act.put, List.setIfInBounds_toArray, List.set_cons_zero, List.set_cons_succ, List.getElem_toArray, List.getElem_cons_zero, List.getElem_cons_succ])
        | (refine wpAnyH_take (i := 4) (v := undef) rfl (by kernel_rfl) (by kernel_rfl) (by kernel_rfl) (fun _ _ _ h => h) (Or.inr ⟨by rfl, rfl⟩) hS ?_; try simp only [Act.put, List.setIfInBounds_toArray, List.set_cons_zero, List.set_cons_succ, List.getElem_toArray, List.getElem_cons_zero, List.getElem_cons_succ])
        refine wpAnyH_ready (rs := [5]) (by kernel_rfl) (by simp) ?_
        refine AllReadyH.cons (o := _) rfl (fun K hK => ?_) AllReadyH.nil
        go_simp
        refine M2.mono ?_
        rintro e y2 ⟨rfl, rfl⟩
        refine hK.out _ _ (hS) (fun hS => ?_)
        clear hK K
        try simp only [Act.put, List.setIfInBounds_toArray, List.set_cons_zero, List.set_cons_succ]
        first
        | (refine wpAnyH_take (i := 6) (v := ?_) rfl (by kernel_rfl) (by kernel_rfl) (by kernel_rfl) (fun _ _ _ h => h) (Or.inl ⟨by rfl, ?_⟩) hS ?_; rotate_left; (· (intro y hy; (try dsimp only at hy); go_simp; try with_reducible rfl)); try simp only [Act.put, List.setIfInBounds_toArray, List.set_cons_zero, List.set_cons_succ, List.getElem_toArray, List.getElem_cons_zero, List.getElem_cons_succ])
        | (refine wpAnyH_take (i := 6) (v := undef) rfl (by kernel_rfl) (by kernel_rfl) (by kernel_rfl) (fun _ _ _ h => h) (Or.inr ⟨by rfl, rfl⟩) hS ?_; try simp only [Act.put, List.setIfInBounds_toArray, List.set_cons_zero, List.set_cons_succ, List.getElem_toArray, List.getElem_cons_zero, List.getElem_cons_succ])
        clear M2
        have hc := hkx.drew.cell k
        rw [show ((zs.map (Value.int .i64)).toArray)[k]? = some (.int .i64 (zs.getD k 0)) from by simp [List.getD, show k < zs.length from by omega]] at hc
        have hf := hkx.drew.free k
        have hcs := (Chg.refl (· = g1) x2).setCell (p := ⟨g1, k, none⟩) (.inl rfl) (.int .i64 r)
        have d6y := (hcs.cell (p := ⟨g3, 6, none⟩) (World.block_lt_of_cell? x2 ⟨g3, 6, none⟩ (by rw [d6x])) (by simpa using fun e => n13 e.symm)).trans d6x
        refine wpAnyH_ready (rs := [7]) (by kernel_rfl) (by simp) ?_
        refine AllReadyH.cons (o := _) rfl (fun K hK => ?_) AllReadyH.nil
        go_simp
        refine hK.out _ _ (d6y) (fun hS => ?_)
        clear hK K
        try simp only [Act.put, List.setIfInBounds_toArray, List.set_cons_zero, List.set_cons_succ]
        refine wpAnyH_done (by kernel_rfl) ?_ _
        refine NoPanic.normal ?_
        clear hS
        go_wp2
        go_roundw
        case rel =>
          refine ⟨k + 1, zs.set k r, by omega, by go_num, by rw [List.length_set]; exact hzl, fun j hj => ?_, ?_, (((hch.trans (Chg.of_below hb2 (Nat.le_refl _))).trans hcs)).drew⟩
          · rw [set_at' (by omega)]
            by_cases e : j = k
            · subst e; rw [if_pos rfl, hy, hr]
            · rw [if_neg e]; exact hzs j (by omega)
          · have := (hkx.set k (.int .i64 r)).drew
            simpa [List.map_set] using this
        case measure => simp [intOf]; omega
      · obtain rfl : p = k := by omega
        have e1 : zs = rnkL o l a p := ext_getD (by rw [hzl, rnkL_length]) fun j hj => by rw [hzs j (by omega), rnkL_at (by omega)]
        subst e1
        replace k6 := k6.chg hch (by omega)
        replace kz2 := kz2.chg hch (fun e => n12 e.symm)
        replace kn := kn.chg hch (fun e => n13 e.symm)
        clear hB d6 hch hzs hzl hlt2
        obtain ⟨wo, rfl⟩ : ∃ wo : World, wo = wr := ⟨_, rfl⟩
        obtain ⟨d0, d1, d2, d3, d4, d5, d6, d7, -⟩ := kn.facts8
        clear d0 d1 d2 d3 d4 d5 d6
        go_wp2_with fail
        go_loopw [64] (fun i wr => ∃ (k : Nat) (zs : List Int), k ≤ d ∧ i = .int .i64 k ∧ zs.length = d ∧ (∀ j, j < k → zs.getD j 0 = zagOf (l.getD (a + (3 + p + j)) 0)) ∧ BlkIs wr g2 (zs.map (Value.int .i64)).toArray 3 ∧ Chg (· = g2) wo wr) (fun i _ => d - (intOf i).toNat)
        case atStart => exact ⟨0, _, by omega, rfl, by simp, fun j hj => by omega, kz2, Chg.refl _ _⟩
        case round =>
          clear kz2
          obtain ⟨k, zs, hkp, rfl, hzl, hzs, hkr2, hch⟩ := hrel
          have hB2 := hBr.trans (hch.below (n := w.heap.size) (fun c e => by omega) hBr.size)
          by_cases hlt2 : k < d
          · obtain ⟨hz1, hz2', hz3⟩ := zig_zagOf (w := l.getD (a + (3 + p + k)) 0) (getD_fits h.fits _).1 (getD_fits h.fits _).2
            obtain ⟨y, hy⟩ : ∃ y, zagOf (l.getD (a + (3 + p + k)) 0) = y := ⟨_, rfl⟩
            rw [hy] at hz1 hz2' hz3
            have d7r := (hch.cell (p := ⟨g3, 7, none⟩) kn.lt (by simpa using fun e => n23 e.symm)).trans d7
            have j0 : (0 : Int) ≤ (k : Int) := by omega
            have j1 : (k : Int) < (d : Int) := by omega
            have M1 := fun x (hx : ArenaAt 65 x P b l) => num_at a k y x hx ob hlt2 hz2' hz3 hz1.symm
            clear hz1
            go_upto_region 13 with fail
            have hkx := hkr2
            have hc := hkx.drew.cell k
            rw [show ((zs.map (Value.int .i64)).toArray)[k]? = some (.int .i64 (zs.getD k 0)) from by simp [List.getD, show k < zs.length from by omega]] at hc
            have hf := hkx.drew.free k
            refine wp_region_noPanic ?_
            refine wp_region_held_drew (S := fun y => y.cell? ⟨g3, 7, none⟩ = some (.slice (some ⟨g2, 0, none⟩) d d) ∧ y.cell? ⟨g2, k, none⟩ ≠ none) (by kernel_rfl) ⟨d7r, by rw [hc]; simp⟩ (fun hS => ?_)
            clear hc hf
            first
            | (refine wpAnyH_take (i := 0) (v := ?_) rfl (by kernel_rfl) (by kernel_rfl) (by kernel_rfl) (fun _ _ _ h => h) (Or.inl ⟨by rfl, ?_⟩) hS ?_; rotate_left; (· (intro y hy; (try dsimp only at hy); go_simp; try with_reducible rfl)); try simp only [Act.put, List.setIfInBounds_toArray, List.set_cons_zero, List.set_cons_succ, List.getElem_toArray, List.getElem_cons_zero, List.getElem_cons_succ])
            | (refine wpAnyH_take (i := 0) (v := undef) rfl (by kernel_rfl) (by kernel_rfl) (by kernel_rfl) (fun _ _ _ h => h) (Or.inr ⟨by rfl, rfl⟩) hS ?_; try simp only [Act.put, List.setIfInBounds_toArray, List.set_cons_zero, List.set_cons_succ, List.getElem_toArray, List.getElem_cons_zero, List.getElem_cons_succ])
            first
            | (refine wpAnyH_take (i := 1) (v := ?_) rfl (by kernel_rfl) (by kernel_rfl) (by kernel_rfl) (fun _ _ _ h => h) (Or.inl ⟨by rfl, ?_⟩) hS ?_; rotate_left; (· (intro y hy; (try dsimp only at hy); go_simp; try with_reducible rfl)); try simp only [Act.put, List.setIfInBounds_toArray, List.set_cons_zero, List.set_cons_succ, List.getElem_toArray, List.getElem_cons_zero, List.getElem_cons_succ])
            | (refine wpAnyH_take (i := 1) (v := undef) rfl (by kernel_rfl) (by kernel_rfl) (by kernel_rfl) (fun _ _ _ h => h) (Or.inr ⟨by rfl, rfl⟩) hS ?_; try simp only [Act.put, List.setIfInBounds_toArray, List.set_cons_zero, List.set_cons_succ, List.getElem_toArray, List.getElem_cons_zero, List.getElem_cons_succ])
            first
            | (refine wpAnyH_take (i := 2) (v := ?_) rfl (by kernel_rfl) (by kernel_rfl) (by kernel_rfl) (fun _ _ _ h => h) (Or.inl ⟨by rfl, ?_⟩) hS ?_; rotate_left; (· (intro y hy; (try dsimp only at hy); go_simp; try with_reducible rfl)); try simp only [Act.put, List.setIfInBounds_toArray, List.set_cons_zero, List.set_cons_succ, List.getElem_toArray, List.getElem_cons_zero, List.getElem_cons_succ])
            | (refine wpAnyH_take (i := 2) (v := undef) rfl (by kernel_rfl) (by kernel_rfl) (by kernel_rfl) (fun _ _ _ h => h) (Or.inr ⟨by rfl, rfl⟩) hS ?_; try simp only [Act.put, List.setIfInBounds_toArray, List.set_cons_zero, List.set_cons_succ, List.getElem_toArray, List.getElem_cons_zero, List.getElem_cons_succ])
            first
            | (refine wpAnyH_take (i := 3) (v := ?_) rfl (by kernel_rfl) (by kernel_rfl) (by kernel_rfl) (fun _ _ _ h => h) (Or.inl ⟨by rfl, ?_⟩) hS ?_; rotate_left; (· (intro y hy; (try dsimp only at hy); go_simp; try with_reducible rfl)); try simp only [Act.put, List.setIfInBounds_toArray, List.set_cons_zero, List.set_cons_succ, List.getElem_toArray, List.getElem_cons_zero, List.getElem_cons_succ])
            | (refine wpAnyH_take (i := 3) (v := undef) rfl (by kernel_rfl) (by kernel_rfl) (by kernel_rfl) (fun _ _ _ h => h) (Or.inr ⟨by rfl, rfl⟩) hS ?_; try simp only [Act.put, List.setIfInBounds_toArray, List.set_cons_zero, List.set_cons_succ, List.getElem_toArray, List.getElem_cons_zero, List.getElem_cons_succ])
            first
            | (refine wpAnyH_take (i := 4) (v := ?_) rfl (by kernel_rfl) (by kernel_rfl) (by kernel_rfl) (fun _ _ _ h => h) (Or.inl ⟨by rfl, ?_⟩) hS ?_; rotate_left; (· (intro y hy; (try dsimp only at hy); go_simp; try with_reducible rfl)); try simp only [Act.put, List.setIfInBounds_toArray, List.set_cons_zero, List.set_cons_succ, List.getElem_toArray, List.getElem_cons_zero, List.getElem_cons_succ])
            | (refine wpAnyH_take (i := 4) (v := undef) rfl (by kernel_rfl) (by kernel_rfl) (by kernel_rfl) (fun _ _ _ h => h) (Or.inr ⟨by rfl, rfl⟩) hS ?_; try simp only [Act.put, List.setIfInBounds_toArray, List.set_cons_zero, List.set_cons_succ, List.getElem_toArray, List.getElem_cons_zero, List.getElem_cons_succ])
            first
            | (refine wpAnyH_take (i := 5) (v := ?_) rfl (by kernel_rfl) (by kernel_rfl) (by kernel_rfl) (fun _ _ _ h => h) (Or.inl ⟨by rfl, ?_⟩) hS ?_; rotate_left; (· (intro y hy; (try dsimp only at hy); go_simp; try with_reducible rfl)); try simp only [Act.put, List.setIfInBounds_toArray, List.set_cons_zero, List.set_cons_succ, List.getElem_toArray, List.getElem_cons_zero, List.getElem_cons_succ])
            | (refine wpAnyH_take (i := 5) (v := undef) rfl (by kernel_rfl) (by kernel_rfl) (by kernel_rfl) (fun _ _ _ h => h) (Or.inr ⟨by rfl, rfl⟩) hS ?_; try simp only [Act.put, List.setIfInBounds_toArray, List.set_cons_zero, List.set_cons_succ, List.getElem_toArray, List.getElem_cons_zero, List.getElem_cons_succ])
            refine wpAnyH_ready (rs := [6]) (by kernel_rfl) (by simp) ?_
            refine AllReadyH.cons (o := _) rfl (fun K hK => ?_) AllReadyH.nil
            go_simp
            refine (M1 _ ((h.below hB2 hlt.1 hlt.2).drew)).mono ?_
            rintro e y2 ⟨rfl, hb2⟩
            have hkx := hkr2.drew.more hb2 (Nat.le_refl _)
            have d7x := (hb2.cell (p := ⟨g3, 7, none⟩) (World.block_lt_of_cell? wr ⟨g3, 7, none⟩ (by rw [d7r]))).trans d7r
            refine hK.out _ _ (⟨d7x, by rw [hkx.cell k]; simp; omega⟩) (fun hS => ?_)
            clear hK K
            try simp only [Act.put, List.setIfInBounds_toArray, List.set_cons_zero, List.set_cons_succ]
            first
            | (refine wpAnyH_take (i := 7) (v := ?_) rfl (by kernel_rfl) (by kernel_rfl) (by kernel_rfl) (fun _ _ _ h => h) (Or.inl ⟨by rfl, ?_⟩) hS ?_; rotate_left; (· (intro y hy; (try dsimp only at hy); go_simp; try with_reducible rfl)); try simp only [Act.put, List.setIfInBounds_toArray, List.set_cons_zero, List.set_cons_succ, List.getElem_toArray, List.getElem_cons_zero, List.getElem_cons_succ])
            | (refine wpAnyH_take (i := 7) (v := undef) rfl (by kernel_rfl) (by kernel_rfl) (by kernel_rfl) (fun _ _ _ h => h) (Or.inr ⟨by rfl, rfl⟩) hS ?_; try simp only [Act.put, List.setIfInBounds_toArray, List.set_cons_zero, List.set_cons_succ, List.getElem_toArray, List.getElem_cons_zero, List.getElem_cons_succ])
            first
            | (refine wpAnyH_take (i := 8) (v := ?_) rfl (by kernel_rfl) (by kernel_rfl) (by kernel_rfl) (fun _ _ _ h => h) (Or.inl ⟨by rfl, ?_⟩) hS ?_; rotate_left; (· (intro y hy; (try dsimp only at hy); go_simp; try with_reducible rfl)); try simp only [Act.put, List.setIfInBounds_toArray, List.set_cons_zero, List.set_cons_succ, List.getElem_toArray, List.getElem_cons_zero, List.getElem_cons_succ])
            | (refine wpAnyH_take (i := 8) (v := undef) rfl (by kernel_rfl) (by kernel_rfl) (by kernel_rfl) (fun _ _ _ h => h) (Or.inr ⟨by rfl, rfl⟩) hS ?_; try simp only [Act.put, List.setIfInBounds_toArray, List.set_cons_zero, List.set_cons_succ, List.getElem_toArray, List.getElem_cons_zero, List.getElem_cons_succ])
            first
            | (refine wpAnyH_take (i := 9) (v := ?_) rfl (by kernel_rfl) (by kernel_rfl) (by kernel_rfl) (fun _ _ _ h => h) (Or.inl ⟨by rfl, ?_⟩) hS ?_; rotate_left; (· (intro y hy; (try dsimp only at hy); go_simp; try with_reducible rfl)); try simp only [Act.put, List.setIfInBounds_toArray, List.set_cons_zero, List.set_cons_succ, List.getElem_toArray, List.getElem_cons_zero, List.getElem_cons_succ])
            | (refine wpAnyH_take (i := 9) (v := undef) rfl (by kernel_rfl) (by kernel_rfl) (by kernel_rfl) (fun _ _ _ h => h) (Or.inr ⟨by rfl, rfl⟩) hS ?_; try simp only [Act.put, List.setIfInBounds_toArray, List.set_cons_zero, List.set_cons_succ, List.getElem_toArray, List.getElem_cons_zero, List.getElem_cons_succ])
            first
            | (refine wpAnyH_take (i := 10) (v := ?_) rfl (by kernel_rfl) (by kernel_rfl) (by kernel_rfl) (fun _ _ _ h => h) (Or.inl ⟨by rfl, ?_⟩) hS ?_; rotate_left; (· (intro y hy; (try dsimp only at hy); go_simp; try with_reducible rfl)); try simp only [Act.put, List.setIfInBounds_toArray, List.set_cons_zero, List.set_cons_succ, List.getElem_toArray, List.getElem_cons_zero, List.getElem_cons_succ])
            | (refine wpAnyH_take (i := 10) (v := undef) rfl (by kernel_rfl) (by kernel_rfl) (by kernel_rfl) (fun _ _ _ h => h) (Or.inr ⟨by rfl, rfl⟩) hS ?_; try simp only [Act.put, List.setIfInBounds_toArray, List.set_cons_zero, List.set_cons_succ, List.getElem_toArray, List.getElem_cons_zero, List.getElem_cons_succ])
            have hc := hkx.cell k
            rw [show ((zs.map (Value.int .i64)).toArray)[k]? = some (.int .i64 (zs.getD k 0)) from by simp [List.getD, show k < zs.length from by omega]] at hc
            have hf := hkx.free k
            have hcs := (Chg.refl (· = g2) y2).setCell (p := ⟨g2, k, none⟩) (.inl rfl) (.int .i64 y)
            have d7y := (hcs.cell (p := ⟨g3, 7, none⟩) (World.block_lt_of_cell? y2 ⟨g3, 7, none⟩ (by rw [d7x])) (by simpa using fun e => n23 e.symm)).trans d7x
            refine wpAnyH_ready (rs := [11]) (by kernel_rfl) (by simp) ?_
            refine AllReadyH.cons (o := _) rfl (fun K hK => ?_) AllReadyH.nil
            go_simp
            have hk9 := hkx.set k (.int .i64 y)
            refine hK.out _ _ (⟨d7y, by rw [hk9.cell k]; simp; omega⟩) (fun hS => ?_)
            clear hK K
            try simp only [Act.put, List.setIfInBounds_toArray, List.set_cons_zero, List.set_cons_succ]
            refine wpAnyH_done (by kernel_rfl) ?_ _
            refine NoPanic.normal ?_
            clear hS
            go_wp2
            go_roundw
            case rel =>
              refine ⟨k + 1, zs.set k y, by omega, by go_num, by rw [List.length_set]; exact hzl, fun j hj => ?_, ?_, (hch.drew.trans (Chg.of_below hb2 (Nat.le_refl _))).trans hcs⟩
              · rw [set_at' (by omega)]
                by_cases e : j = k
                · subst e; rw [if_pos rfl, hy]
                · rw [if_neg e]; exact hzs j (by omega)
              · simpa [List.map_set] using hk9
            case measure => simp [intOf]; omega
          · obtain rfl : d = k := by omega
            have e1 : zs = numL l a p d := ext_getD (by rw [hzl, numL_length]) fun j hj => by rw [hzs j (by omega), numL_at (by omega)]
            subst e1
            replace k6 := k6.chg hch (by omega)
            replace hkr := hkr.chg hch (fun e => n12 e)
            replace kn := kn.chg hch (fun e => n23 e.symm)
            obtain ⟨d0, d1, d2, d3, d4, d5, d6, d7, -⟩ := kn.facts8
            obtain ⟨c0, c1, c2, c3, c4, c5, c6, c7, f0, f1, f2, f3, f4, f5, f6, f7⟩ := k6.facts8
            have E := k6.eight (.int .i64 ser) (.int .i64 p) (.int .i64 d) (.bool wk) (.bool fn) (.bool fr) (.slice (some ⟨g1, 0, none⟩) p p) (.slice (some ⟨g2, 0, none⟩) d d)
            have EC := chg8 wr w.heap.size (.int .i64 ser) (.int .i64 p) (.int .i64 d) (.bool wk) (.bool fn) (.bool fr) (.slice (some ⟨g1, 0, none⟩) p p) (.slice (some ⟨g2, 0, none⟩) d d)
            obtain ⟨e0, e1, e2, e3, e4, e5, e6, e7, -⟩ := E.facts8
            go_wp2
            refine bodyPost_ret (v := .agg #[.int .i64 ser, .int .i64 p, .int .i64 d, .bool wk, .bool fn, .bool fr, .slice (some ⟨g1, 0, none⟩) p p, .slice (some ⟨g2, 0, none⟩) d d]) ?_ rfl ⟨g1, g2, rfl, by omega, by omega, ?_, ?_, ?_⟩
            · clear EC E
              generalize (World.setCell (World.setCell (World.setCell (World.setCell (World.setCell (World.setCell (World.setCell (World.setCell wr ⟨w.heap.size, 0, none⟩ (.int .i64 ser)) ⟨w.heap.size, 1, none⟩ (.int .i64 p)) ⟨w.heap.size, 2, none⟩ (.int .i64 d)) ⟨w.heap.size, 3, none⟩ (.bool wk)) ⟨w.heap.size, 4, none⟩ (.bool fn)) ⟨w.heap.size, 5, none⟩ (.bool fr)) ⟨w.heap.size, 6, none⟩ (.slice (some ⟨g1, 0, none⟩) p p)) ⟨w.heap.size, 7, none⟩ (.slice (some ⟨g2, 0, none⟩) d d)) = W9 at *
              simp [results, Try.f33, go_sem, e0, e1, e2, e3, e4, e5, e6, e7]
            · exact hkr.chg EC (by omega)
            · exact hkr2.chg EC (by omega)
            · exact hB2.trans (EC.below (fun k e => by omega) hB2.size)
end

end Go.Proofs.Ytceedbkacbaaiaa
