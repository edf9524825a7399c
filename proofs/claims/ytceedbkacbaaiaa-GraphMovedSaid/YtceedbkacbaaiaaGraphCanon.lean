/- Package graph: Canon over objects that are there (Grph, Nods): each as a node, in their order, and of each root which one it is. -/
import Derived.Test.YtceedbkacbaaiaaGraphNode
namespace Go.Proofs.Ytceedbkacbaaiaa
open Go.ChangeShapes Go.WideShapes Go.ChangeAt Go.RowKit

set_option linter.unusedSimpArgs false
set_option linter.unusedVariables false

/-- What a node tells. -/
structure Nd where
  ser : Int
  (p d : Nat)
  (wk fn fr : Bool)
  (ptrs nums : List Int)
/-- A list that is read as these numbers, in a block from B on. -/
def ReadsFrom (B : Nat) (w : World) (v : Value) (xs : List Int) : Prop := ReadsAs .i64 w v xs ∧ ∀ g, v.ownBlock = some g → B ≤ g
theorem ReadsAs.chg {w x : World} {v : Value} {xs : List Int} {S : Nat → Prop} (h : ReadsAs .i64 w v xs) (hc : Chg S w x) (hs : ∀ g, v.ownBlock = some g → ¬ S g) : ReadsAs .i64 x v xs :=
  ⟨h.1, h.2.imp id fun ⟨g, c, e, h1, hg, r⟩ => ⟨g, c, e, h1, Nat.lt_of_lt_of_le hg hc.size, fun j hj => (hc.cell (p := ⟨g, j, none⟩) hg (hs g (by rw [e]; rfl))).trans (r j hj)⟩⟩
theorem ReadsFrom.chg {B : Nat} {w x : World} {v : Value} {xs : List Int} {S : Nat → Prop} (h : ReadsFrom B w v xs) (hc : Chg S w x) (hs : ∀ k, B ≤ k → k < w.heap.size → ¬ S k) : ReadsFrom B x v xs :=
  ⟨h.1.chg hc fun g hg => hs g (h.2 g hg) (h.1.block hg), h.2⟩
theorem readsFrom_blk {B : Nat} {w : World} {g n : Nat} {xs : List Int} (h : BlkIs w g (xs.map (Value.int .i64)).toArray 3) (hn : xs.length = n) (hB : B ≤ g) (hm : xs.length ≤ 65536) : ReadsFrom B w (.slice (some ⟨g, 0, none⟩) n n) xs := by
  subst hn
  refine ⟨⟨by unfold maxLen; omega, .inr ⟨g, _, rfl, Nat.le_refl _, h.lt, fun j hj => ?_⟩⟩, fun k hk => ?_⟩
  · rw [h.cell j]; simp [List.getD, hj]
  · simp [Value.ownBlock] at hk; omega

/-- At this row of eight cells there is this node. -/
def NodeRow (B : Nat) (w : World) (nb i : Nat) (x : Nd) : Prop :=
  ∃ pv nv, (w.cell? ⟨nb, i * 8, none⟩ = some (.int .i64 x.ser) ∧ w.cell? ⟨nb, i * 8 + 1, none⟩ = some (.int .i64 x.p) ∧ w.cell? ⟨nb, i * 8 + 2, none⟩ = some (.int .i64 x.d) ∧ w.cell? ⟨nb, i * 8 + 3, none⟩ = some (.bool x.wk) ∧
    w.cell? ⟨nb, i * 8 + 4, none⟩ = some (.bool x.fn) ∧ w.cell? ⟨nb, i * 8 + 5, none⟩ = some (.bool x.fr) ∧ w.cell? ⟨nb, i * 8 + 6, none⟩ = some pv ∧ w.cell? ⟨nb, i * 8 + 7, none⟩ = some nv) ∧ ReadsFrom B w pv x.ptrs ∧ ReadsFrom B w nv x.nums
theorem NodeRow.chg {B : Nat} {w x : World} {nb i : Nat} {y : Nd} {S : Nat → Prop} (h : NodeRow B w nb i y) (hB : B ≤ nb) (hc : Chg S w x) (hs : ∀ k, B ≤ k → k < w.heap.size → ¬ S k) : NodeRow B x nb i y := by
  obtain ⟨pv, nv, ⟨c0, c1, c2, c3, c4, c5, c6, c7⟩, h1, h2⟩ := h
  have hl : nb < w.heap.size := World.block_lt_of_cell? w ⟨nb, i * 8, none⟩ (by rw [c0])
  have e := fun j => hc.cell (p := ⟨nb, j, none⟩) hl (hs nb hB hl)
  exact ⟨pv, nv, ⟨(e _).trans c0, (e _).trans c1, (e _).trans c2, (e _).trans c3, (e _).trans c4, (e _).trans c5, (e _).trans c6, (e _).trans c7⟩, h1.chg hc hs, h2.chg hc hs⟩
/-- A slice of these nodes, the first n; all of it lies from block B on. -/
def NodesAt (B : Nat) (w : World) (v : Value) (f : Nat → Nd) (n : Nat) : Prop :=
  ∃ av c, v = .slice av n c ∧ (0 < n → ∃ nb, av = some ⟨nb, 0, none⟩ ∧ B ≤ nb ∧ nb < w.heap.size ∧ n ≤ c ∧ ∀ i, i < n → NodeRow B w nb i (f i))
theorem NodesAt.chg {B n : Nat} {w x : World} {v : Value} {f : Nat → Nd} {S : Nat → Prop} (h : NodesAt B w v f n) (hc : Chg S w x) (hs : ∀ k, B ≤ k → k < w.heap.size → ¬ S k) : NodesAt B x v f n := by
  obtain ⟨av, c, e, r⟩ := h
  refine ⟨av, c, e, fun hn => ?_⟩
  obtain ⟨nb, e2, hb, hl, hc', hr⟩ := r hn
  exact ⟨nb, e2, hb, Nat.lt_of_lt_of_le hl hc.size, hc', fun i hi => (hr i hi).chg hb hc hs⟩
theorem NodesAt.on {B n : Nat} {w x : World} {v : Value} {f : Nat → Nd} (h : NodesAt B w v f n) (hb : Below w.heap.size w x) : NodesAt B x v f n :=
  h.chg (S := fun _ => False) (Chg.of_below hb (Nat.le_refl _)) fun _ _ _ h => h
theorem NodesAt.drew {B n : Nat} {w : World} {v : Value} {f : Nat → Nd} (h : NodesAt B w v f n) : NodesAt B w.drew v f n := h

/-- Of each object of V, what node tells: its pointers each as its place in the order. -/
structure Nods (P b : Nat) (l V : List Int) (N : Int → Nd) : Prop where
  node : ∀ x ∈ V, ∀ (F mb n : Nat) (ov : Value) (o : List Int) (y : World), BlkIs y F #[ov, .map (some mb)] 76 → IMap y mb n (rk o) → ArenaAt 65 y P b l →
    Calls Try.prog 33 #[.pointer (some ⟨F, 0, none⟩), .pointer (some ⟨P, 0, none⟩), .int .i64 x] y fun e y' => ∃ g1 g2, e = .returned (.agg #[.int .i64 (N x).ser, .int .i64 (N x).p, .int .i64 (N x).d, .bool (N x).wk, .bool (N x).fn, .bool (N x).fr, .slice (some ⟨g1, 0, none⟩) (N x).p (N x).p, .slice (some ⟨g2, 0, none⟩) (N x).d (N x).d]) ∧
      y.heap.size ≤ g1 ∧ y.heap.size ≤ g2 ∧ BlkIs y' g1 (((N x).ptrs.map (rankV o)).map (Value.int .i64)).toArray 3 ∧ BlkIs y' g2 ((N x).nums.map (Value.int .i64)).toArray 3 ∧ Below y.heap.size y y'
  plen : ∀ x ∈ V, (N x).ptrs.length = (N x).p
  nlen : ∀ x ∈ V, (N x).nums.length = (N x).d
  small : ∀ x ∈ V, (N x).p ≤ 8 ∧ (N x).d ≤ 8
def ndO (o : List Int) (x : Nd) : Nd := { x with ptrs := x.ptrs.map (rankV o) }

theorem infoNode : (Try.prog.info? 62).map (fun i => (i.zero, i.size, i.bytes)) = some (some (.agg #[.int .i64 0, .int .i64 0, .int .i64 0, .bool false, .bool false, .bool false, .slice none 0 0, .slice none 0 0]), 8, 88) := by kernel_rfl

def set8 (cs : Array Value) (o : Nat) (v0 v1 v2 v3 v4 v5 v6 v7 : Value) : Array Value := (((((((cs.setIfInBounds o v0).setIfInBounds (o + 1) v1).setIfInBounds (o + 2) v2).setIfInBounds (o + 3) v3).setIfInBounds (o + 4) v4).setIfInBounds (o + 5) v5).setIfInBounds (o + 6) v6).setIfInBounds (o + 7) v7
theorem set8_size (cs : Array Value) (o : Nat) (v0 v1 v2 v3 v4 v5 v6 v7 : Value) : (set8 cs o v0 v1 v2 v3 v4 v5 v6 v7).size = cs.size := by simp [set8]
theorem set8_in {cs : Array Value} {o : Nat} (h : o + 8 ≤ cs.size) (v0 v1 v2 v3 v4 v5 v6 v7 : Value) :
    (set8 cs o v0 v1 v2 v3 v4 v5 v6 v7)[o]? = some v0 ∧ (set8 cs o v0 v1 v2 v3 v4 v5 v6 v7)[o + 1]? = some v1 ∧ (set8 cs o v0 v1 v2 v3 v4 v5 v6 v7)[o + 2]? = some v2 ∧ (set8 cs o v0 v1 v2 v3 v4 v5 v6 v7)[o + 3]? = some v3 ∧
    (set8 cs o v0 v1 v2 v3 v4 v5 v6 v7)[o + 4]? = some v4 ∧ (set8 cs o v0 v1 v2 v3 v4 v5 v6 v7)[o + 5]? = some v5 ∧ (set8 cs o v0 v1 v2 v3 v4 v5 v6 v7)[o + 6]? = some v6 ∧ (set8 cs o v0 v1 v2 v3 v4 v5 v6 v7)[o + 7]? = some v7 := by
  have b : ∀ j, j < 8 → o + j < cs.size := fun j hj => by omega
  have b0 := b 0 (by omega)
  have b1 := b 1 (by omega)
  have b2 := b 2 (by omega)
  have b3 := b 3 (by omega)
  have b4 := b 4 (by omega)
  have b5 := b 5 (by omega)
  have b6 := b 6 (by omega)
  have b7 := b 7 (by omega)
  unfold set8
  refine ⟨?_, ?_, ?_, ?_, ?_, ?_, ?_, ?_⟩ <;> simp [Array.getElem?_setIfInBounds] <;> omega
theorem set8_out {cs : Array Value} {o k : Nat} (h : ¬ (o ≤ k ∧ k < o + 8)) (v0 v1 v2 v3 v4 v5 v6 v7 : Value) : (set8 cs o v0 v1 v2 v3 v4 v5 v6 v7)[k]? = cs[k]? := by
  unfold set8
  simp only [Array.getElem?_setIfInBounds]
  rw [if_neg (by omega), if_neg (by omega), if_neg (by omega), if_neg (by omega), if_neg (by omega), if_neg (by omega), if_neg (by omega), if_neg (by omega)]
theorem chg8at (W : World) (g o : Nat) (v0 v1 v2 v3 v4 v5 v6 v7 : Value) : Chg (· = g) W ((((((((W.setCell ⟨g, o, none⟩ v0).setCell ⟨g, o + 1, none⟩ v1).setCell ⟨g, o + 2, none⟩ v2).setCell ⟨g, o + 3, none⟩ v3).setCell ⟨g, o + 4, none⟩ v4).setCell ⟨g, o + 5, none⟩ v5).setCell ⟨g, o + 6, none⟩ v6).setCell ⟨g, o + 7, none⟩ v7) :=
  ((((((((Chg.refl (· = g) W).setCell (.inl rfl) v0).setCell (.inl rfl) v1).setCell (.inl rfl) v2).setCell (.inl rfl) v3).setCell (.inl rfl) v4).setCell (.inl rfl) v5).setCell (.inl rfl) v6).setCell (.inl rfl) v7
theorem BlkIs.eightAt {W : World} {g o : Nat} {cs : Array Value} {ty : TypeId} (h : BlkIs W g cs ty) (v0 v1 v2 v3 v4 v5 v6 v7 : Value) :
    BlkIs ((((((((W.setCell ⟨g, o, none⟩ v0).setCell ⟨g, o + 1, none⟩ v1).setCell ⟨g, o + 2, none⟩ v2).setCell ⟨g, o + 3, none⟩ v3).setCell ⟨g, o + 4, none⟩ v4).setCell ⟨g, o + 5, none⟩ v5).setCell ⟨g, o + 6, none⟩ v6).setCell ⟨g, o + 7, none⟩ v7) g (set8 cs o v0 v1 v2 v3 v4 v5 v6 v7) ty :=
  (((((((h.set o v0).set (o + 1) v1).set (o + 2) v2).set (o + 3) v3).set (o + 4) v4).set (o + 5) v5).set (o + 6) v6).set (o + 7) v7
theorem BlkIs.rows8 {W : World} {g o : Nat} {cs : Array Value} {ty : TypeId} (h : BlkIs W g cs ty) (ho : o + 8 ≤ cs.size) : ∃ a0 a1 a2 a3 a4 a5 a6 a7, (W.cell? ⟨g, o, none⟩ = some a0 ∧ W.cell? ⟨g, o + 1, none⟩ = some a1 ∧ W.cell? ⟨g, o + 2, none⟩ = some a2 ∧ W.cell? ⟨g, o + 3, none⟩ = some a3 ∧
    W.cell? ⟨g, o + 4, none⟩ = some a4 ∧ W.cell? ⟨g, o + 5, none⟩ = some a5 ∧ W.cell? ⟨g, o + 6, none⟩ = some a6 ∧ W.cell? ⟨g, o + 7, none⟩ = some a7) ∧
    W.frozen? ⟨g, o, none⟩ = false ∧ W.frozen? ⟨g, o + 1, none⟩ = false ∧ W.frozen? ⟨g, o + 2, none⟩ = false ∧ W.frozen? ⟨g, o + 3, none⟩ = false ∧ W.frozen? ⟨g, o + 4, none⟩ = false ∧ W.frozen? ⟨g, o + 5, none⟩ = false ∧ W.frozen? ⟨g, o + 6, none⟩ = false ∧ W.frozen? ⟨g, o + 7, none⟩ = false := by
  have c := fun j (hj : j < 8) => (h.cell (o + j)).trans (Array.getElem?_eq_getElem (xs := cs) (show o + j < cs.size by omega))
  exact ⟨_, _, _, _, _, _, _, _, ⟨c 0 (by omega), c 1 (by omega), c 2 (by omega), c 3 (by omega), c 4 (by omega), c 5 (by omega), c 6 (by omega), c 7 (by omega)⟩, h.free _, h.free _, h.free _, h.free _, h.free _, h.free _, h.free _, h.free _⟩
/-- The rows of a block that have been laid so far. -/
theorem NodeRow.set8 {B : Nat} {w : World} {nb i : Nat} {x : Nd} {cs : Array Value} {pv nv : Value} (h : BlkIs w nb cs 62) (hi : i * 8 + 8 ≤ cs.size) (hB : B ≤ nb) (h1 : ReadsFrom B w pv x.ptrs) (h2 : ReadsFrom B w nv x.nums)
    (hc : BlkIs w nb (set8 cs (i * 8) (.int .i64 x.ser) (.int .i64 x.p) (.int .i64 x.d) (.bool x.wk) (.bool x.fn) (.bool x.fr) pv nv) 62) : NodeRow B w nb i x := by
  obtain ⟨e0, e1, e2, e3, e4, e5, e6, e7⟩ := set8_in (cs := cs) hi (.int .i64 x.ser) (.int .i64 x.p) (.int .i64 x.d) (.bool x.wk) (.bool x.fn) (.bool x.fr) pv nv
  exact ⟨pv, nv, ⟨(hc.cell _).trans e0, (hc.cell _).trans e1, (hc.cell _).trans e2, (hc.cell _).trans e3, (hc.cell _).trans e4, (hc.cell _).trans e5, (hc.cell _).trans e6, (hc.cell _).trans e7⟩, h1, h2⟩
/-- .. while they are laid. -/
def NodeC (w : World) (nb : Nat) (cs : Array Value) (i : Nat) (x : Nd) : Prop :=
  ∃ pv nv, (cs[i * 8]? = some (.int .i64 x.ser) ∧ cs[i * 8 + 1]? = some (.int .i64 x.p) ∧ cs[i * 8 + 2]? = some (.int .i64 x.d) ∧ cs[i * 8 + 3]? = some (.bool x.wk) ∧
    cs[i * 8 + 4]? = some (.bool x.fn) ∧ cs[i * 8 + 5]? = some (.bool x.fr) ∧ cs[i * 8 + 6]? = some pv ∧ cs[i * 8 + 7]? = some nv) ∧ ReadsFrom (nb + 1) w pv x.ptrs ∧ ReadsFrom (nb + 1) w nv x.nums
theorem NodeC.chg {w y : World} {nb i : Nat} {cs : Array Value} {x : Nd} {S : Nat → Prop} (h : NodeC w nb cs i x) (hc : Chg S w y) (hs : ∀ k, nb < k → k < w.heap.size → ¬ S k) : NodeC y nb cs i x := by
  obtain ⟨pv, nv, e, h1, h2⟩ := h
  exact ⟨pv, nv, e, h1.chg hc fun k hk => hs k (by omega), h2.chg hc fun k hk => hs k (by omega)⟩
theorem NodeC.set {w : World} {nb i k : Nat} {cs : Array Value} {x : Nd} (h : NodeC w nb cs i x) (hk : i ≠ k) (v0 v1 v2 v3 v4 v5 v6 v7 : Value) : NodeC w nb (set8 cs (k * 8) v0 v1 v2 v3 v4 v5 v6 v7) i x := by
  obtain ⟨pv, nv, ⟨e0, e1, e2, e3, e4, e5, e6, e7⟩, h1, h2⟩ := h
  refine ⟨pv, nv, ⟨?_, ?_, ?_, ?_, ?_, ?_, ?_, ?_⟩, h1, h2⟩ <;> rw [set8_out (by omega)] <;> assumption
theorem NodeC.here {w : World} {nb i : Nat} {cs : Array Value} {x : Nd} {pv nv : Value} (hi : i * 8 + 8 ≤ cs.size) (h1 : ReadsFrom (nb + 1) w pv x.ptrs) (h2 : ReadsFrom (nb + 1) w nv x.nums) :
    NodeC w nb (Go.Proofs.Ytceedbkacbaaiaa.set8 cs (i * 8) (.int .i64 x.ser) (.int .i64 x.p) (.int .i64 x.d) (.bool x.wk) (.bool x.fn) (.bool x.fr) pv nv) i x := ⟨pv, nv, set8_in hi _ _ _ _ _ _ _ _, h1, h2⟩
theorem NodeC.row {B : Nat} {w : World} {nb i : Nat} {cs : Array Value} {x : Nd} (h : NodeC w nb cs i x) (hb : BlkIs w nb cs 62) (hB : B ≤ nb) : NodeRow B w nb i x := by
  obtain ⟨pv, nv, ⟨e0, e1, e2, e3, e4, e5, e6, e7⟩, h1, h2⟩ := h
  exact ⟨pv, nv, ⟨(hb.cell _).trans e0, (hb.cell _).trans e1, (hb.cell _).trans e2, (hb.cell _).trans e3, (hb.cell _).trans e4, (hb.cell _).trans e5, (hb.cell _).trans e6, (hb.cell _).trans e7⟩, ⟨h1.1, fun g hg => by have := h1.2 g hg; omega⟩, ⟨h2.1, fun g hg => by have := h2.2 g hg; omega⟩⟩

theorem ReadsAs.slice {k : IntKind} {w : World} {v : Value} {xs : List Int} (h : ReadsAs k w v xs) : ∃ av c, v = .slice av xs.length c ∧ (0 < xs.length → ∃ g, av = some ⟨g, 0, none⟩ ∧ g < w.heap.size ∧ xs.length ≤ c ∧ ∀ j, j < xs.length → w.cell? ⟨g, j, none⟩ = some (.int k (xs.getD j 0))) := by
  rcases h.2 with ⟨rfl, c, rfl⟩ | ⟨g, c, rfl, h1, h2, h3⟩
  · exact ⟨none, c, rfl, fun h => by simp at h⟩
  · exact ⟨_, c, rfl, fun _ => ⟨g, rfl, h2, h1, h3⟩⟩

set_option maxRecDepth 100000 in
set_option maxHeartbeats 8000000 in
theorem canon_any (P b : Nat) (l V : List Int) (G : Int → List Int) (N : Int → Nd) (rv : Value) (roots : List Int) (w : World) (hG : Grph P b l V G) (hN : Nods P b l V N) (hA : ArenaAt 65 w P b l) (hv : ReadsAs .i64 w rv roots)
    (hr : ∀ x ∈ roots, x = 0 ∨ x ∈ V) (hrl : roots.length ≤ 1000) :
    Calls Try.prog 13 #[.pointer (some ⟨P, 0, none⟩), rv] w fun e w' => ∃ nv sv, e = .returned (.tuple #[nv, sv, .int .i64 0]) ∧
      NodesAt w.heap.size w' nv (fun i => ndO (reachO G V.length roots) (N ((reachO G V.length roots).getD i 0))) (reachO G V.length roots).length ∧ ReadsFrom w.heap.size w' sv (roots.map (rankV (reachO G V.length roots))) ∧ Below w.heap.size w w' := by
  obtain ⟨i0, hi, hz0, hz1, hz2⟩ := info_parts infoInt
  obtain ⟨j0, ji, jz0, jz1, jz2⟩ := info_parts infoNode
  have hlt := hA.lt
  have M1 := reach_any P b l V G rv roots w hG hA hv hr hrl
  have hI := reachO_inv (G := G) hr hG.shut
  have hoV := hI.len
  have hV8 := hG.len
  generalize reachO G V.length roots = o at *
  have hmn := fun W => make_row (P := Try.prog) 37 62 j0 _ Try.underlying37 ji jz0 .i64 .i64 o.length o.length (Nat.le_refl _) (by rw [jz2]; omega) (by omega) W
  rw [jz1] at hmn
  have hmr := fun W => make_row (P := Try.prog) 23 3 i0 (.int .i64 0) Try.underlying23 hi hz0 .i64 .i64 roots.length roots.length (Nat.le_refl _) (by rw [hz2]; omega) (by omega) W
  simp only [hz1, Nat.mul_one] at hmr
  obtain ⟨rva, rvc, rfl, hrv⟩ := hv.slice
  have Hrv := Lib.hid hrv
  clear hrv hv
  go_enter Try.func13, Try.ntmps13
  go_wp2_with fail
  refine M1.mono ?_
  rintro e x ⟨mb, ov, rfl, hown, hm, hmb, hB⟩
  clear M1
  have k7 := BlkIs.new x #[ov, .map (some mb)] 76
  have hbx := (Below.refl x.heap.size x).alloc (Nat.le_refl _) (.cells #[ov, .map (some mb)] 76)
  replace hm := hm.on hbx
  replace hown := own_chg hown (Chg.of_below (S := fun _ => False) hbx (Nat.le_refl _)) (fun _ _ h => h)
  have hwx := hB.size
  replace hB := hB.trans (hbx.mono hB.size)
  obtain ⟨oa, oc, hov, hor⟩ := (readsAs_of_owns hown).slice
  rw [hov] at k7
  clear hown
  go_wp2
  rw [hov] at hbx hm hor hB
  clear hov
  obtain ⟨q7, hq7⟩ : ∃ q, x.heap.size = q := ⟨_, rfl⟩
  have s1 : (x.alloc (.cells #[.slice oa o.length oc, .map (some mb)] 76)).heap.size = q7 + 1 := by simp [hq7]
  rw [hq7] at k7 ⊢
  generalize x.alloc (.cells #[.slice oa o.length oc, .map (some mb)] 76) = x1 at *
  have kn := BlkIs.new x1 (madeCells #[.int .i64 0, .int .i64 0, .int .i64 0, .bool false, .bool false, .bool false, .slice none 0 0, .slice none 0 0] (o.length * 8)) 62
  have hb2 := (Below.refl x1.heap.size x1).alloc (Nat.le_refl _) (.cells (madeCells #[.int .i64 0, .int .i64 0, .int .i64 0, .bool false, .bool false, .bool false, .slice none 0 0, .slice none 0 0] (o.length * 8)) 62)
  have hml := hm.lt
  have hcs : (madeCells #[Value.int .i64 0, .int .i64 0, .int .i64 0, .bool false, .bool false, .bool false, .slice none 0 0, .slice none 0 0] (o.length * 8)).size = o.length * 8 := size_madeCells _ _
  generalize madeCells #[Value.int .i64 0, .int .i64 0, .int .i64 0, .bool false, .bool false, .bool false, .slice none 0 0, .slice none 0 0] (o.length * 8) = cs0 at *
  rw [s1] at kn hml
  replace k7 := k7.on hb2
  replace hm := hm.on hb2
  have hB2 := hB.trans (hb2.mono hB.size)
  have hor2 : 0 < o.length → ∃ g, oa = some ⟨g, 0, none⟩ ∧ g < q7 + 1 ∧ ∀ j, j < o.length → (x1.alloc (.cells cs0 62)).cell? ⟨g, j, none⟩ = some (.int .i64 (o.getD j 0)) := fun h => by
    obtain ⟨g, e, hgl, _, hr⟩ := hor h
    exact ⟨g, e, by omega, fun j hj => (hb2.cell (p := ⟨g, j, none⟩) hgl).trans (hr j hj)⟩
  have hwn : w.heap.size ≤ q7 := by omega
  have hmq : mb ≠ q7 := fun e => by
    have h1 := hm.noCell 0
    rw [e, k7.cell 0] at h1
    simp at h1
  clear hbx hb2 hor s1 hB hq7
  obtain ⟨w1, hw1⟩ : ∃ w1, x1.alloc (.cells cs0 62) = w1 := ⟨_, rfl⟩
  rw [hw1] at kn k7 hm hB2 hor2 ⊢
  clear hw1 hwx x1
  obtain ⟨nb, hnb⟩ : ∃ nb, q7 + 1 = nb := ⟨_, rfl⟩
  rw [hnb] at kn hor2 hml ⊢
  have Hor := Lib.hid hor2
  clear hor2
  go_loopw [31] (fun i wr => ∃ (k : Nat) (cs : Array Value), k ≤ o.length ∧ i = .int .i64 k ∧ cs.size = o.length * 8 ∧ (∀ j, j < k → NodeC wr nb cs j (ndO o (N (o.getD j 0)))) ∧ BlkIs wr nb cs 62 ∧ Chg (· = nb) w1 wr) (fun i _ => o.length - (intOf i).toNat)
  case atStart => exact ⟨0, cs0, by omega, rfl, hcs, fun j hj => by omega, kn, Chg.refl _ _⟩
  case round =>
    have hw1n := kn.lt
    clear kn hcs
    obtain ⟨k, cs, hk, rfl, hcs, hrows, kn, hch⟩ := hrel
    have hBr := hB2.trans (hch.below (n := w.heap.size) (fun c e => by omega) hB2.size)
    have k7r := k7.chg hch (by omega)
    have hmr := hm.chg hch (by omega)
    by_cases hlt2 : k < o.length
    · obtain ⟨g, rfl, hgl, hgc⟩ := Hor.out (by omega)
      have hgk := (hch.cell (p := ⟨g, k, none⟩) (by simp; omega) (by simp; omega)).trans (hgc k hlt2)
      have hx := hI.sub _ (getD_mem hlt2)
      have Hrows := Lib.hid hrows
      clear hrows hgc
      obtain ⟨y, hy⟩ : ∃ y, o.getD k 0 = y := ⟨_, rfl⟩
      rw [hy] at hgk hx
      have M2 := hN.node y hx q7 mb _ _ o wr k7r hmr (hA.below hBr hlt.1 hlt.2)
      have hpl := hN.plen y hx
      have hnl := hN.nlen y hx
      have hsm := hN.small y hx
      have j0 : (0 : Int) ≤ (k : Int) := by omega
      have j1 : (k : Int) < (o.length : Int) := by omega
      have Hy := Lib.hid hy
      clear hy
      go_wp2_with fail
      refine M2.mono ?_
      rintro e x2 ⟨g1, g2, rfl, hg1, hg2, b1, b2, hb⟩
      clear M2 hgk
      have knl := kn.lt
      replace kn := kn.on hb
      obtain ⟨a0, a1, a2, a3, a4, a5, a6, a7, ⟨c0, c1, c2, c3, c4, c5, c6, c7⟩, f0, f1, f2, f3, f4, f5, f6, f7⟩ := kn.rows8 (o := k * 8) (by omega)
      have E := kn.eightAt (o := k * 8) (.int .i64 (N y).ser) (.int .i64 (N y).p) (.int .i64 (N y).d) (.bool (N y).wk) (.bool (N y).fn) (.bool (N y).fr) (.slice (some ⟨g1, 0, none⟩) (N y).p (N y).p) (.slice (some ⟨g2, 0, none⟩) (N y).d (N y).d)
      have EC := chg8at x2 nb (k * 8) (.int .i64 (N y).ser) (.int .i64 (N y).p) (.int .i64 (N y).d) (.bool (N y).wk) (.bool (N y).fn) (.bool (N y).fr) (.slice (some ⟨g1, 0, none⟩) (N y).p (N y).p) (.slice (some ⟨g2, 0, none⟩) (N y).d (N y).d)
      have hp1 := (readsFrom_blk (B := nb + 1) (n := (N y).p) b1 (by rw [List.length_map]; exact hpl) (by omega) (by rw [List.length_map]; omega)).chg EC (fun c h1 h2 e => by omega)
      have hp2 := (readsFrom_blk (B := nb + 1) (n := (N y).d) b2 hnl (by omega) (by omega)).chg EC (fun c h1 h2 e => by omega)
      have hEC := (hch.trans (Chg.of_below hb (Nat.le_refl _))).trans EC
      have Hall : Hid (∀ j, j < k + 1 → NodeC _ nb (set8 cs (k * 8) (.int .i64 (N y).ser) (.int .i64 (N y).p) (.int .i64 (N y).d) (.bool (N y).wk) (.bool (N y).fn) (.bool (N y).fr) (.slice (some ⟨g1, 0, none⟩) (N y).p (N y).p) (.slice (some ⟨g2, 0, none⟩) (N y).d (N y).d)) j (ndO o (N (o.getD j 0)))) := Lib.hid (fun j hj => by
        by_cases e : j = k
        · subst e
          rw [Hy.out]
          exact NodeC.here (x := ndO o (N y)) (by omega) hp1 hp2
        · exact (((Hrows.out j (by omega)).chg (S := fun _ => False) (Chg.of_below hb (Nat.le_refl _)) (fun _ _ _ h => h)).set e _ _ _ _ _ _ _ _).chg EC (fun c h1 h2 e => by omega))
      clear hp1 hp2 EC b1 b2 Hrows
      go_wp2
      go_roundw
      case rel => exact ⟨k + 1, _, by omega, by go_num, by rw [set8_size]; exact hcs, Hall.out, E, hEC⟩
      case measure => simp [intOf]; omega
    · obtain rfl : k = o.length := by omega
      have hwl := kn.lt
      have Hrows := Lib.hid hrows
      clear hrows hlt2 hk hB2 hm k7
      have kr := BlkIs.new wr ((List.replicate roots.length (0 : Int)).map (Value.int .i64)).toArray 3
      have hb := (Below.refl wr.heap.size wr).alloc (Nat.le_refl _) (.cells ((List.replicate roots.length (0 : Int)).map (Value.int .i64)).toArray 3)
      have hBa := hBr.trans (hb.mono hBr.size)
      have k7a := k7r.on hb
      have hma := hmr.on hb
      have kna := kn.on hb
      have hmlr := hmr.lt
      have k7l := k7r.lt
      have hbc := Chg.of_below (S := fun _ => False) hb (Nat.le_refl _)
      clear k7r hmr kn hb
      go_wp2_with fail
      rw [made_ints]
      obtain ⟨rb, hrb⟩ : ∃ r, wr.heap.size = r := ⟨_, rfl⟩
      rw [hrb] at kr hmlr k7l hwl ⊢
      obtain ⟨w2, hw2⟩ : ∃ w2, wr.alloc (.cells ((List.replicate roots.length (0 : Int)).map (Value.int .i64)).toArray 3) = w2 := ⟨_, rfl⟩
      rw [hw2] at kr hBa k7a hma kna hbc ⊢
      have hrbe := hrb
      have hrbw : w.heap.size ≤ rb := by have := hBr.size; omega
      clear hrb hw2 hBr hch
      go_loopw [48] (fun i wq => ∃ (k : Nat) (zs : List Int), k ≤ roots.length ∧ i = .int .i64 k ∧ zs.length = roots.length ∧ (∀ j, j < k → zs.getD j 0 = rankV o (roots.getD j 0)) ∧ BlkIs wq rb (zs.map (Value.int .i64)).toArray 3 ∧ Chg (· = rb) w2 wq) (fun i _ => roots.length - (intOf i).toNat)
      case atStart => exact ⟨0, _, by omega, rfl, by simp, fun j hj => by omega, kr, Chg.refl _ _⟩
      case round =>
        clear kr
        obtain ⟨k, zs, hk, rfl, hzl, hzs, kr, hch⟩ := hrel
        have hBq := hBa.trans (hch.below (n := w.heap.size) (fun c e => by omega) hBa.size)
        by_cases hlt3 : k < roots.length
        · obtain ⟨g, rfl, hgl, _, hgc⟩ := Hrv.out (by omega)
          have hgk := (hBq.cell (p := ⟨g, k, none⟩) hgl).trans (hgc k hlt3)
          have hx := hr _ (getD_mem hlt3)
          have Hzs := Lib.hid hzs
          clear hzs hgc
          obtain ⟨y, hy⟩ : ∃ y, roots.getD k 0 = y := ⟨_, rfl⟩
          rw [hy] at hgk hx
          have Hy := Lib.hid hy
          clear hy
          have M2 := rank_any q7 mb _ _ o y _ (k7a.chg hch (by omega)) (hma.chg hch (by omega)) (hG.bound hx)
          obtain ⟨r, hre⟩ : ∃ r, rankV o y = r := ⟨_, rfl⟩
          rw [hre] at M2
          have j0 : (0 : Int) ≤ (k : Int) := by omega
          have j1 : (k : Int) < (roots.length : Int) := by omega
          have hc := kr.cell k
          rw [show ((zs.map (Value.int .i64)).toArray)[k]? = some (.int .i64 (zs.getD k 0)) from by simp [List.getD, show k < zs.length from by omega]] at hc
          have hf := kr.free k
          have hk9 := kr.set k (.int .i64 r)
          have hcs := hch.setCell (p := ⟨rb, k, none⟩) (.inl rfl) (.int .i64 r)
          go_wp2_with fail
          refine M2.mono ?_
          rintro e x2 ⟨rfl, rfl⟩
          clear M2
          go_wp2
          go_roundw
          case rel =>
            refine ⟨k + 1, zs.set k r, by omega, by go_num, by rw [List.length_set]; exact hzl, fun j hj => ?_, by simpa [List.map_set] using hk9, hcs⟩
            rw [set_at' (by omega)]
            by_cases e : j = k
            · subst e; rw [if_pos rfl, Hy.out, hre]
            · rw [if_neg e]; exact Hzs.out j (by omega)
          case measure => simp [intOf]; omega
        · obtain rfl : k = roots.length := by omega
          have e1 : zs = roots.map (rankV o) := ext_getD (by rw [hzl, List.length_map]) fun j hj => by
            rw [hzs j (by omega)]
            simp [List.getD, show j < roots.length from by omega]
          subst e1
          clear hzs
          go_wp2
          go_ret3
          refine ⟨_, _, rfl, ⟨_, _, rfl, fun h0 => ⟨nb, rfl, by omega, ?_, Nat.le_refl _, fun i hi => ?_⟩⟩, readsFrom_blk kr (by simp) hrbw (by simp; omega), hBq⟩
          · exact Nat.lt_of_lt_of_le kna.lt hch.size
          · exact ((Hrows.out i hi).chg (hbc.step hch fun c e => .inr (by omega)) (fun _ _ _ h => h)).row (kna.chg hch (by omega)) (by omega)

end Go.Proofs.Ytceedbkacbaaiaa
