/- What the law ObjectSets keeps in memory: the arena, two shapes, its own tables; and the parts of its code. No condition. -/
import Derived.Test.YtencoabgdnmbaaaObjTwo
import Derived.Test.YtencoabgdnmbaaaOps
import Derived.Test.YtencoabgdnmbaaaRound
import Derived.StillTailTactics
namespace Go.Proofs.Ytencoabgdnmbaaa.objectSets
open Go.ChangeShapes Go.WideShapes Go.ChangeAt Go.RowKit
set_option linter.unusedVariables false
set_option linter.unusedSimpArgs false

abbrev shA (p d : Nat) (wk fn : Bool) : Array Value := #[.int .i64 p, .int .i64 d, .bool wk, .bool fn]

/-- Blocks that lie apart, behind n. -/
structure Far (b g9 g10 g12 g13 g14 n : Nat) : Prop where
  a9 : ¬ g9 = b
  a10 : ¬ g10 = b
  a12 : ¬ g12 = b
  a13 : ¬ g13 = b
  a14 : ¬ g14 = b
  b12 : ¬ g9 = g12 ∧ ¬ g10 = g12 ∧ ¬ g13 = g12 ∧ ¬ g14 = g12 ∧ ¬ b = g12
  b13 : ¬ g9 = g13 ∧ ¬ g10 = g13 ∧ ¬ g12 = g13 ∧ ¬ g14 = g13 ∧ ¬ b = g13
  b14 : ¬ g9 = g14 ∧ ¬ g10 = g14 ∧ ¬ g12 = g14 ∧ ¬ g13 = g14 ∧ ¬ b = g14
  ob : n ≤ b
  o12 : n ≤ g12
  o13 : n ≤ g13
  o14 : n ≤ g14

/-- What lies in memory: the arena, the two shapes, what the law keeps of them. -/
structure InvL (P b g9 g10 g12 g13 g14 : Nat) (pp dd : Nat → Nat) (ww ff : Nat → Bool) (L ps ns : List Int) (fs : List Bool) (w x : World) : Prop where
  ar : ArenaAt 75 x P b L
  s : BlkIs x g9 (shA (pp 0) (dd 0) (ww 0) (ff 0)) 27
  t : BlkIs x g10 (shA (pp 1) (dd 1) (ww 1) (ff 1)) 27
  p : BlkIs x g12 (ps.map (Value.int .i64)).toArray 31
  n : BlkIs x g13 (ns.map (Value.int .i64)).toArray 31
  f : BlkIs x g14 (fs.map Value.bool).toArray 32
  below : Below w.heap.size w x

section
variable {P b g9 g10 g12 g13 g14 : Nat} {pp dd : Nat → Nat} {ww ff : Nat → Bool} {L L' ps ns : List Int} {fs : List Bool} {w x y : World}
theorem InvL.on (h : InvL P b g9 g10 g12 g13 g14 pp dd ww ff L ps ns fs w x) (hb : Below x.heap.size x y) : InvL P b g9 g10 g12 g13 g14 pp dd ww ff L ps ns fs w y :=
  ⟨h.ar.below hb h.ar.lt.1 h.ar.lt.2, h.s.on hb, h.t.on hb, h.p.on hb, h.n.on hb, h.f.on hb, h.below.trans (hb.mono h.below.size)⟩
theorem InvL.drew (h : InvL P b g9 g10 g12 g13 g14 pp dd ww ff L ps ns fs w x) : InvL P b g9 g10 g12 g13 g14 pp dd ww ff L ps ns fs w x.drew :=
  ⟨h.ar.drew, h.s, h.t, h.p, h.n, h.f, h.below.drew⟩
theorem InvL.arena (F : Far b g9 g10 g12 g13 g14 w.heap.size) (h : InvL P b g9 g10 g12 g13 g14 pp dd ww ff L ps ns fs w x) (hA : ArenaAt 75 y P b L') (hc : Chg (· = b) x y) : InvL P b g9 g10 g12 g13 g14 pp dd ww ff L' ps ns fs w y :=
  ⟨hA, h.s.chg hc F.a9, h.t.chg hc F.a10, h.p.chg hc F.a12, h.n.chg hc F.a13, h.f.chg hc F.a14, h.below.trans (hc.below (fun k e => by have := F.ob; omega) h.below.size)⟩
theorem InvL.upto {n : Nat} (h : InvL P b g9 g10 g12 g13 g14 pp dd ww ff L ps ns fs w x) (hb : Below n x y) (l : P < n ∧ b < n ∧ g12 < n ∧ g13 < n ∧ g14 < n) (l9 : g9 < n) (l10 : g10 < n) (hn : w.heap.size ≤ n) : InvL P b g9 g10 g12 g13 g14 pp dd ww ff L ps ns fs w y :=
  ⟨h.ar.below hb l.1 l.2.1, h.s.below hb l9, h.t.below hb l10, h.p.below hb l.2.2.1, h.n.below hb l.2.2.2.1, h.f.below hb l.2.2.2.2, h.below.trans (hb.mono hn)⟩
theorem ArenaAt.far (h : ArenaAt 75 x P b L) {a : Addr} (h1 : ¬ P = a.block) (h2 : ¬ b = a.block) (v : Value) : ArenaAt 75 (x.setCell a v) P b L := ⟨h.head.far h1 v, h.row.far h2 v, h.len, h.fits⟩
theorem InvL.set12 (F : Far b g9 g10 g12 g13 g14 w.heap.size) (h : InvL P b g9 g10 g12 g13 g14 pp dd ww ff L ps ns fs w x) (hP : ¬ P = g12) (i : Nat) (v : Int) : InvL P b g9 g10 g12 g13 g14 pp dd ww ff L (ps.set i v) ns fs w (x.setCell ⟨g12, i, none⟩ (.int .i64 v)) :=
  ⟨ArenaAt.far h.ar hP F.b12.2.2.2.2 _, h.s.far F.b12.1 _, h.t.far F.b12.2.1 _, nums_set h.p i v, h.n.far F.b12.2.2.1 _, h.f.far F.b12.2.2.2.1 _, h.below.setCell F.o12 _⟩
theorem InvL.set13 (F : Far b g9 g10 g12 g13 g14 w.heap.size) (h : InvL P b g9 g10 g12 g13 g14 pp dd ww ff L ps ns fs w x) (hP : ¬ P = g13) (i : Nat) (v : Int) : InvL P b g9 g10 g12 g13 g14 pp dd ww ff L ps (ns.set i v) fs w (x.setCell ⟨g13, i, none⟩ (.int .i64 v)) :=
  ⟨ArenaAt.far h.ar hP F.b13.2.2.2.2 _, h.s.far F.b13.1 _, h.t.far F.b13.2.1 _, h.p.far F.b13.2.2.1 _, nums_set h.n i v, h.f.far F.b13.2.2.2.1 _, h.below.setCell F.o13 _⟩
theorem InvL.set14 (F : Far b g9 g10 g12 g13 g14 w.heap.size) (h : InvL P b g9 g10 g12 g13 g14 pp dd ww ff L ps ns fs w x) (hP : ¬ P = g14) (i : Nat) (v : Bool) : InvL P b g9 g10 g12 g13 g14 pp dd ww ff L ps ns (fs.set i v) w (x.setCell ⟨g14, i, none⟩ (.bool v)) :=
  ⟨ArenaAt.far h.ar hP F.b14.2.2.2.2 _, h.s.far F.b14.1 _, h.t.far F.b14.2.1 _, h.p.far F.b14.2.2.1 _, h.n.far F.b14.2.2.2.1 _, bools_set h.f i v, h.below.setCell F.o14 _⟩
end

theorem facts5 {x : World} {k : Nat} {v0 v1 v2 v3 v4 : Value} {ty : TypeId} (h : BlkIs x k #[v0, v1, v2, v3, v4] ty) : x.cell? ⟨k, 0, none⟩ = some v0 ∧ x.cell? ⟨k, 1, none⟩ = some v1 ∧ x.cell? ⟨k, 2, none⟩ = some v2 ∧ x.cell? ⟨k, 3, none⟩ = some v3 ∧ x.cell? ⟨k, 4, none⟩ = some v4 ∧ k < x.heap.size := ⟨h.cell 0, h.cell 1, h.cell 2, h.cell 3, h.cell 4, h.lt⟩

def Inv (P b g9 g10 g12 g13 g14 A : Nat) (pp dd : Nat → Nat) (ww ff : Nat → Bool) (w x : World) : Prop :=
  ∃ L ps ns fs, InvL P b g9 g10 g12 g13 g14 pp dd ww ff L ps ns fs w x ∧ Two A pp dd ww ff L ps ns fs

theorem five (x : World) (a c d e f : Array Value) (ta tc td te tf : TypeId) :
    BlkIs (((((x.alloc (.cells a ta)).alloc (.cells c tc)).alloc (.cells d td)).alloc (.cells e te)).alloc (.cells f tf)) x.heap.size a ta ∧
    BlkIs (((((x.alloc (.cells a ta)).alloc (.cells c tc)).alloc (.cells d td)).alloc (.cells e te)).alloc (.cells f tf)) (x.heap.size + 1) c tc ∧
    BlkIs (((((x.alloc (.cells a ta)).alloc (.cells c tc)).alloc (.cells d td)).alloc (.cells e te)).alloc (.cells f tf)) (x.heap.size + 1 + 1) d td ∧
    BlkIs (((((x.alloc (.cells a ta)).alloc (.cells c tc)).alloc (.cells d td)).alloc (.cells e te)).alloc (.cells f tf)) (x.heap.size + 1 + 1 + 1) e te ∧
    BlkIs (((((x.alloc (.cells a ta)).alloc (.cells c tc)).alloc (.cells d td)).alloc (.cells e te)).alloc (.cells f tf)) (x.heap.size + 1 + 1 + 1 + 1) f tf ∧
    Below x.heap.size x (((((x.alloc (.cells a ta)).alloc (.cells c tc)).alloc (.cells d td)).alloc (.cells e te)).alloc (.cells f tf)) := by
  have s1 : (x.alloc (.cells a ta)).heap.size = x.heap.size + 1 := by simp
  have s2 : ((x.alloc (.cells a ta)).alloc (.cells c tc)).heap.size = x.heap.size + 1 + 1 := by simp
  have s3 : (((x.alloc (.cells a ta)).alloc (.cells c tc)).alloc (.cells d td)).heap.size = x.heap.size + 1 + 1 + 1 := by simp
  have s4 : ((((x.alloc (.cells a ta)).alloc (.cells c tc)).alloc (.cells d td)).alloc (.cells e te)).heap.size = x.heap.size + 1 + 1 + 1 + 1 := by simp
  have h1 := BlkIs.new (x.alloc (.cells a ta)) c tc
  have h2 := BlkIs.new ((x.alloc (.cells a ta)).alloc (.cells c tc)) d td
  have h3 := BlkIs.new (((x.alloc (.cells a ta)).alloc (.cells c tc)).alloc (.cells d td)) e te
  have h4 := BlkIs.new ((((x.alloc (.cells a ta)).alloc (.cells c tc)).alloc (.cells d td)).alloc (.cells e te)) f tf
  rw [s1] at h1
  rw [s2] at h2
  rw [s3] at h3
  rw [s4] at h4
  exact ⟨((((BlkIs.new x a ta).alloc _).alloc _).alloc _).alloc _, ((h1.alloc _).alloc _).alloc _, (h2.alloc _).alloc _, h3.alloc _, h4,
    (((((Below.refl _ x).alloc (Nat.le_refl _) _).alloc (by omega) _).alloc (by omega) _).alloc (by omega) _).alloc (by omega) _⟩

/-! The code's parts. -/
def cl : Code → Code | .seq a _ => a | c => c
def cr : Code → Code | .seq _ b => b | c => c
def cb : Code → Code | .block _ b => b | .loop b => b | c => c
end Go.Proofs.Ytencoabgdnmbaaa.objectSets
