/- Package space at right spaces: Right, Make, Take, Used, Left, Has, Empty are as the document says. Condition: the space handed in is right. -/
import Derived.Test.YtceedbkacbaaiaaClass
import Derived.Test.YtceedbkacbaaiaaPick
import Derived.Test.YtceedbkacbaaiaaMem
import Derived.Outline
import Derived.Deep.QuietTactic
import Derived.BigQuiet
import Derived.Deep.RegionHeld3
namespace Go.Proofs.Ytceedbkacbaaiaa
open Go.RowKit Go.Shelf

set_option linter.unusedSimpArgs false
set_option linter.unusedVariables false

/-- A space that may be: its base, size and top. -/
structure SpOk (b z t : Nat) : Prop where
  base : b ≤ 65536
  size : z ≤ 65536
  low : b ≤ t
  high : t ≤ b + z

abbrev spV (b z t : Nat) : Value := .agg #[.int .i64 b, .int .i64 z, .int .i64 t]

set_option maxHeartbeats 1000000 in
theorem nearest_ok (b z t : Nat) (h : SpOk b z t) (w : World) :
    Calls Try.prog 65 #[spV b z t] w fun e w' => e = .returned (spV b z t) ∧ Below w.heap.size w w' := by
  obtain ⟨h1, h2, h3, h4⟩ := h
  have m1 : ((65536 : Int) < (b : Int)) = False := by simp; omega
  have m2 : ((65536 : Int) < (z : Int)) = False := by simp; omega
  have m3 : ((t : Int) < (b : Int)) = False := by simp; omega
  have m4 : ((b : Int) + (z : Int) < (t : Int)) = False := by simp; omega
  go_enter Try.func65, Try.ntmps65
  go_wp2
  all_goals
    refine bodyPost_ret (v := spV b z t) ?_ rfl ⟨rfl, ((Below.refl _ w).alloc (Nat.le_refl _) _).alloc (by simp) _⟩
    simp [results, Try.f65, go_sem]
    try omega

/-- Three cells that lie in block k, behind w. -/
abbrev At3 (w x : World) (k : Nat) (v0 v1 v2 : Value) : Prop :=
  x.cell? ⟨k, 0, none⟩ = some v0 ∧ x.cell? ⟨k, 1, none⟩ = some v1 ∧ x.cell? ⟨k, 2, none⟩ = some v2 ∧ w.heap.size ≤ x.heap.size ∧ k < x.heap.size ∧ Below w.heap.size w x
/-- A space that lies in block k, behind w. -/
abbrev SpAt (w x : World) (k b z t : Nat) : Prop := At3 w x k (.int .i64 b) (.int .i64 z) (.int .i64 t)

theorem keepSp {w x y : World} {k : Nat} {v0 v1 v2 : Value} (h : At3 w x k v0 v1 v2) (hb : Below x.heap.size x y) : At3 w y k v0 v1 v2 :=
  ⟨(hb.cell (p := ⟨k, 0, none⟩) h.2.2.2.2.1).trans h.1, (hb.cell (p := ⟨k, 1, none⟩) h.2.2.2.2.1).trans h.2.1, (hb.cell (p := ⟨k, 2, none⟩) h.2.2.2.2.1).trans h.2.2.1,
    Nat.le_trans h.2.2.2.1 hb.size, Nat.lt_of_lt_of_le h.2.2.2.2.1 hb.size, h.2.2.2.2.2.trans (hb.mono h.2.2.2.1)⟩
theorem newSp (w : World) (b z t : Nat) (ty : TypeId) : SpAt w (w.alloc (.cells #[.int .i64 b, .int .i64 z, .int .i64 t] ty)) w.heap.size b z t :=
  ⟨by simp, by simp, by simp, by simp, by simp, (Below.refl _ _).alloc (Nat.le_refl _) _⟩

set_option maxHeartbeats 1000000 in
theorem right_ok (b z t : Nat) (h : SpOk b z t) (w : World) :
    Calls Try.prog 35 #[spV b z t] w fun e w' => e = .returned (.bool true) ∧ Below w.heap.size w w' := by
  go_enter Try.func35, Try.ntmps35
  go_wp2
  have h0 := newSp w b z t 41
  go_region_held3 (fun x => SpAt w x w.heap.size b z t) (first | exact ⟨h0.1, h0.2.1, h0.2.2.1, h0.2.2.2.1, h0.2.2.2.2.1, h0.2.2.2.2.2.drew⟩ | exact keepSp (by assumption) hb2)
    (first | (go_at_call 65; refine (nearest_ok _ _ _ h _).mono ?_; rintro e w2 ⟨rfl, hb2⟩))
  go_wp2
  go_ret
  exact ⟨rfl, (‹SpAt w _ _ _ _ _›).2.2.2.2.2⟩

theorem used_ok (b z t : Nat) (h : SpOk b z t) (w : World) :
    Calls Try.prog 75 #[spV b z t] w fun e w' => e = .returned (.int .i64 ((t - b : Nat) : Int)) ∧ Below w.heap.size w w' := by
  have h3 := h.low
  have h1 := h.base
  have h2 := h.high
  have h4 := h.size
  go_enter Try.func75, Try.ntmps75
  go_wp2_with fail
  refine (right_ok _ _ _ h _).mono ?_
  rintro e x ⟨rfl, hb⟩
  obtain ⟨c0, c1, c2, hs, hk, hB⟩ := keepSp (newSp w b z t 41) (by simpa using hb)
  clear hb
  go_wp2
  go_ret
  exact ⟨by rw [show ((t - b : Nat) : Int) = (t : Int) - (b : Int) from by omega]; rfl, hB⟩

theorem left_ok (b z t : Nat) (h : SpOk b z t) (w : World) :
    Calls Try.prog 56 #[spV b z t] w fun e w' => e = .returned (.int .i64 ((b + z - t : Nat) : Int)) ∧ Below w.heap.size w w' := by
  have h3 := h.low
  have h1 := h.base
  have h2 := h.high
  have h4 := h.size
  go_enter Try.func56, Try.ntmps56
  go_wp2_with fail
  refine (right_ok _ _ _ h _).mono ?_
  rintro e x ⟨rfl, hb⟩
  obtain ⟨c0, c1, c2, hs, hk, hB⟩ := keepSp (newSp w b z t 41) (by simpa using hb)
  clear hb
  have hu := used_ok b z t h
  obtain ⟨u, e⟩ : ∃ u, t - b = u := ⟨_, rfl⟩
  rw [e] at hu
  have hr : Hid (((b + z - t : Nat) : Int) = (z : Int) - (u : Int)) := Lib.hid (by omega)
  have u1 : u ≤ z := by omega
  clear e
  have hw : IntKind.i64.wrap ((z : Int) - (u : Int)) = (z : Int) - (u : Int) := IntWalk.i64_in _ (by omega)
  go_wp2_with fail
  go_region_held3 (fun x => SpAt w x w.heap.size b z t) (first | exact ⟨c0, c1, c2, hs, hk, hB.drew⟩ | exact keepSp (by assumption) hb2)
    (first | (go_at_call 75; refine (hu _).mono ?_; rintro e w2 ⟨rfl, hb2⟩))
  go_wp2
  go_ret
  exact ⟨by rw [hr.out]; rfl, (‹SpAt w _ _ _ _ _›).2.2.2.2.2⟩


/-- What a block of three cells gives a walk. -/
theorem blk3 {x : World} {k : Nat} {v0 v1 v2 : Value} {ty : TypeId} (h : BlkIs x k #[v0, v1, v2] ty) :
    (x.cell? ⟨k, 0, none⟩ = some v0 ∧ x.cell? ⟨k, 1, none⟩ = some v1 ∧ x.cell? ⟨k, 2, none⟩ = some v2) ∧ x.frozen? ⟨k, 0, none⟩ = false ∧ x.frozen? ⟨k, 1, none⟩ = false ∧ x.frozen? ⟨k, 2, none⟩ = false :=
  ⟨⟨h.cell 0, h.cell 1, h.cell 2⟩, h.free 0, h.free 1, h.free 2⟩
theorem At3.of {x : World} {k : Nat} {v0 v1 v2 : Value} {ty : TypeId} (h : BlkIs x k #[v0, v1, v2] ty) : At3 x x k v0 v1 v2 :=
  ⟨h.cell 0, h.cell 1, h.cell 2, Nat.le_refl _, h.lt, Below.refl _ _⟩

/-- Two boxes of a call, one behind the other. -/
def twoBoxes (w : World) (a b : Array Value) : World := (w.alloc (.cells a 41)).alloc (.cells b 41)
structure TwoAt (w x : World) (a b : Array Value) : Prop where
  k1 : BlkIs x w.heap.size a 41
  k2 : BlkIs x (w.heap.size + 1) b 41
  below : Below w.heap.size w x
theorem TwoAt.new (w : World) (a b : Array Value) : TwoAt w ((w.alloc (.cells a 41)).alloc (.cells b 41)) a b :=
  ⟨(BlkIs.new w a _).alloc _, by have h := BlkIs.new (w.alloc (.cells a 41)) b 41; rwa [World.size_alloc] at h, ((Below.refl _ w).alloc (Nat.le_refl _) _).alloc (by simp) _⟩
theorem TwoAt.keep {w x y : World} {a b : Array Value} (h : TwoAt w x a b) (hb : Below x.heap.size x y) : TwoAt w y a b := by
  have s1 := h.k1.lt
  exact ⟨h.k1.below hb s1, h.k2.below hb h.k2.lt, h.below.trans (hb.mono (by omega))⟩
theorem TwoAt.drew {w x : World} {a b : Array Value} (h : TwoAt w x a b) : TwoAt w x.drew a b := ⟨h.k1, h.k2, h.below.drew⟩
theorem TwoAt.set1 {w x : World} {a b : Array Value} (h : TwoAt w x a b) (i : Nat) (u : Value) : TwoAt w (x.setCell ⟨w.heap.size, i, none⟩ u) (a.setIfInBounds i u) b :=
  ⟨h.k1.set i u, h.k2.far (by simp) u, h.below.setCell (by simp) u⟩
theorem TwoAt.set2 {w x : World} {a b : Array Value} (h : TwoAt w x a b) (i : Nat) (u : Value) : TwoAt w (x.setCell ⟨w.heap.size + 1, i, none⟩ u) a (b.setIfInBounds i u) :=
  ⟨h.k1.far (by simp) u, h.k2.set i u, h.below.setCell (by simp) u⟩
theorem TwoAt.facts {w x : World} {a0 a1 a2 b0 b1 b2 : Value} (h : TwoAt w x #[a0, a1, a2] #[b0, b1, b2]) :
    (x.cell? ⟨w.heap.size, 0, none⟩ = some a0 ∧ x.cell? ⟨w.heap.size, 1, none⟩ = some a1 ∧ x.cell? ⟨w.heap.size, 2, none⟩ = some a2 ∧
    x.cell? ⟨w.heap.size + 1, 0, none⟩ = some b0 ∧ x.cell? ⟨w.heap.size + 1, 1, none⟩ = some b1 ∧ x.cell? ⟨w.heap.size + 1, 2, none⟩ = some b2) ∧
    x.frozen? ⟨w.heap.size, 0, none⟩ = false ∧ x.frozen? ⟨w.heap.size, 1, none⟩ = false ∧ x.frozen? ⟨w.heap.size, 2, none⟩ = false ∧
    x.frozen? ⟨w.heap.size + 1, 0, none⟩ = false ∧ x.frozen? ⟨w.heap.size + 1, 1, none⟩ = false ∧ x.frozen? ⟨w.heap.size + 1, 2, none⟩ = false :=
  ⟨⟨h.k1.cell 0, h.k1.cell 1, h.k1.cell 2, h.k2.cell 0, h.k2.cell 1, h.k2.cell 2⟩, h.k1.free 0, h.k1.free 1, h.k1.free 2, h.k2.free 0, h.k2.free 1, h.k2.free 2⟩


set_option maxHeartbeats 1000000 in
theorem make_ok (b z : Nat) (h : SpOk b z b) (w : World) :
    Calls Try.prog 14 #[.int .i64 b, .int .i64 z] w fun e w' => e = .returned (.tuple #[spV b z b, .bool true]) ∧ Below w.heap.size w w' := by
  go_enter Try.func14, Try.ntmps14
  go_wp2_with fail
  refine (right_ok _ _ _ h _).mono ?_
  rintro e x ⟨rfl, hb⟩
  have hT := (TwoAt.new w #[.int .i64 0, .int .i64 0, .int .i64 0] #[.int .i64 b, .int .i64 z, .int .i64 b]).keep hb
  clear hb
  obtain ⟨⟨c0, c1, c2, d0, d1, d2⟩, f0, f1, f2, g0, g1, g2⟩ := hT.facts
  go_wp2
  have hE := (((hT.set1 0 (.int .i64 b)).set1 1 (.int .i64 z)).set1 2 (.int .i64 b))
  obtain ⟨⟨e0, e1, e2, _⟩, _⟩ := hE.facts
  refine bodyPost_ret (v := .tuple #[spV b z b, .bool true]) ?_ rfl ⟨rfl, hE.below⟩
  simp [results, Try.f14, go_sem, e0, e1, e2]

set_option maxHeartbeats 2000000 in
theorem take_yes (b z t n : Nat) (h : SpOk b z t) (n0 : 1 ≤ n) (n1 : n ≤ 65536) (hr : t + Cls.rd n ≤ b + z) (w : World) :
    Calls Try.prog 26 #[spV b z t, .int .i64 n] w fun e w' => e = .returned (.tuple #[spV b z (t + Cls.rd n), .int .i64 t, .bool true]) ∧ Below w.heap.size w w' := by
  have h3 := h.low
  have h1 := h.base
  have h2 := h.high
  have h4 := h.size
  have hR := round_any (n : Int) (by omega) (by omega)
  rw [roundN_of n0 n1, okN_of (by omega) (by omega)] at hR
  have hL := left_ok b z t h
  obtain ⟨l, hl⟩ : ∃ l, b + z - t = l := ⟨_, rfl⟩
  rw [hl] at hL
  generalize Cls.rd n = r at *
  have hlt : ((l : Int) < (r : Int)) = False := by simp; omega
  clear hl
  have hw : IntKind.i64.wrap ((t : Int) + (r : Int)) = (t : Int) + (r : Int) := IntWalk.i64_in _ (by omega)
  go_enter Try.func26, Try.ntmps26
  go_wp2_with fail
  refine (hR _).mono ?_
  rintro e x ⟨rfl, hb⟩
  have hT := (TwoAt.new w #[.int .i64 b, .int .i64 z, .int .i64 t] #[.int .i64 0, .int .i64 0, .int .i64 0]).keep hb
  clear hb
  obtain ⟨⟨c0, c1, c2, d0, d1, d2⟩, f0, f1, f2, g0, g1, g2⟩ := hT.facts
  go_wp2_with fail
  refine (hL _).mono ?_
  rintro e y ⟨rfl, hb⟩
  replace hT := hT.keep hb
  clear hb c0 c1 c2 d0 d1 d2 f0 f1 f2 g0 g1 g2
  obtain ⟨⟨c0, c1, c2, d0, d1, d2⟩, f0, f1, f2, g0, g1, g2⟩ := hT.facts
  go_wp2
  have hE := (((hT.set1 2 (.int .i64 ((t : Int) + r))).set2 0 (.int .i64 b)).set2 1 (.int .i64 z)).set2 2 (.int .i64 ((t : Int) + r))
  obtain ⟨⟨_, _, _, e0, e1, e2⟩, _⟩ := hE.facts
  refine bodyPost_ret (v := .tuple #[spV b z (t + r), .int .i64 t, .bool true]) ?_ rfl ⟨rfl, hE.below⟩
  simp [results, Try.f26, go_sem, e0, e1, e2]

set_option maxHeartbeats 2000000 in
theorem take_full (b z t n : Nat) (h : SpOk b z t) (n0 : 1 ≤ n) (n1 : n ≤ 65536) (hr : b + z < t + Cls.rd n) (w : World) :
    Calls Try.prog 26 #[spV b z t, .int .i64 n] w fun e w' => e = .returned (.tuple #[spV b z t, .int .i64 0, .bool false]) ∧ Below w.heap.size w w' := by
  have h3 := h.low
  have h1 := h.base
  have h2 := h.high
  have h4 := h.size
  have hR := round_any (n : Int) (by omega) (by omega)
  rw [roundN_of n0 n1, okN_of (by omega) (by omega)] at hR
  have hL := left_ok b z t h
  obtain ⟨l, hl⟩ : ∃ l, b + z - t = l := ⟨_, rfl⟩
  rw [hl] at hL
  generalize Cls.rd n = r at *
  have hlt : ((l : Int) < (r : Int)) = True := by simp; omega
  clear hl
  go_enter Try.func26, Try.ntmps26
  go_wp2_with fail
  refine (hR _).mono ?_
  rintro e x ⟨rfl, hb⟩
  have hT := (TwoAt.new w #[.int .i64 b, .int .i64 z, .int .i64 t] #[.int .i64 0, .int .i64 0, .int .i64 0]).keep hb
  clear hb
  obtain ⟨⟨c0, c1, c2, d0, d1, d2⟩, f0, f1, f2, g0, g1, g2⟩ := hT.facts
  go_wp2_with fail
  refine (hL _).mono ?_
  rintro e y ⟨rfl, hb⟩
  replace hT := hT.keep hb
  clear hb c0 c1 c2 d0 d1 d2 f0 f1 f2 g0 g1 g2
  obtain ⟨⟨c0, c1, c2, d0, d1, d2⟩, f0, f1, f2, g0, g1, g2⟩ := hT.facts
  go_wp2
  have hE := ((hT.set2 0 (.int .i64 b)).set2 1 (.int .i64 z)).set2 2 (.int .i64 t)
  obtain ⟨⟨_, _, _, e0, e1, e2⟩, _⟩ := hE.facts
  refine bodyPost_ret (v := .tuple #[spV b z t, .int .i64 0, .bool false]) ?_ rfl ⟨rfl, hE.below⟩
  simp [results, Try.f26, go_sem, e0, e1, e2]

set_option maxHeartbeats 2000000 in
theorem take_none (b z t : Nat) (n : Int) (i0 : -9223372036854775808 ≤ n) (i1 : n ≤ 9223372036854775807) (hn : n < 1 ∨ 65536 < n) (h : SpOk b z t) (w : World) :
    Calls Try.prog 26 #[spV b z t, .int .i64 n] w fun e w' => e = .returned (.tuple #[spV b z t, .int .i64 0, .bool false]) ∧ Below w.heap.size w w' := by
  have hR := round_any n i0 i1
  rw [show okN n = false from decide_eq_false (by omega)] at hR
  generalize roundN n = r at *
  go_enter Try.func26, Try.ntmps26
  go_wp2_with fail
  refine (hR _).mono ?_
  rintro e x ⟨rfl, hb⟩
  have hT := (TwoAt.new w #[.int .i64 b, .int .i64 z, .int .i64 t] #[.int .i64 0, .int .i64 0, .int .i64 0]).keep hb
  clear hb
  obtain ⟨⟨c0, c1, c2, d0, d1, d2⟩, f0, f1, f2, g0, g1, g2⟩ := hT.facts
  go_wp2
  have hE := ((hT.set2 0 (.int .i64 b)).set2 1 (.int .i64 z)).set2 2 (.int .i64 t)
  obtain ⟨⟨_, _, _, e0, e1, e2⟩, _⟩ := hE.facts
  refine bodyPost_ret (v := .tuple #[spV b z t, .int .i64 0, .bool false]) ?_ rfl ⟨rfl, hE.below⟩
  simp [results, Try.f26, go_sem, e0, e1, e2]

end Go.Proofs.Ytceedbkacbaaiaa
