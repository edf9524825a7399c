/- Objects that point to one another, as package graph sees them. Plain; no condition. -/
import Derived.Test.YtceedbkacbaaiaaGraphSame
namespace Go.Proofs.Ytceedbkacbaaiaa
open Go.ChangeShapes Go.WideShapes Go.ChangeAt Go.RowKit

set_option linter.unusedSimpArgs false
set_option linter.unusedVariables false

/-- What the object at a place points to, strongly. -/
def gOf (l : List Int) (x : Int) : List Int := ptrL l x.toNat (if hw (l.getD x.toNat 0).toNat then 0 else hp (l.getD x.toNat 0).toNat)
/-- What it is. -/
def nOf (l : List Int) (x : Int) : Nd :=
  ⟨l.getD (x.toNat + 2) 0, hp (l.getD x.toNat 0).toNat, hd (l.getD x.toNat 0).toNat, hw (l.getD x.toNat 0).toNat, hf (l.getD x.toNat 0).toNat, hr (l.getD x.toNat 0).toNat,
    ptrL l x.toNat (hp (l.getD x.toNat 0).toNat), numL l x.toNat (hp (l.getD x.toNat 0).toNat) (hd (l.getD x.toNat 0).toNat)⟩
theorem gOf_obj {l : List Int} {a p d : Nat} {wk fn fr : Bool} (h : ObjIs l a p d wk fn fr) : gOf l a = ptrL l a (if wk then 0 else p) := by
  unfold gOf
  rw [Int.toNat_natCast, h.head, Int.toNat_natCast]
  obtain ⟨h1, h2, h3, h4, h5⟩ := headN_read (wk := wk) (fn := fn) (fr := fr) h.ptrs h.data
  rw [h1, h3]
theorem nOf_obj {l : List Int} {a p d : Nat} {wk fn fr : Bool} (h : ObjIs l a p d wk fn fr) : nOf l a = ⟨l.getD (a + 2) 0, p, d, wk, fn, fr, ptrL l a p, numL l a p d⟩ := by
  unfold nOf
  rw [Int.toNat_natCast, h.head, Int.toNat_natCast]
  obtain ⟨h1, h2, h3, h4, h5⟩ := headN_read (wk := wk) (fn := fn) (fr := fr) h.ptrs h.data
  rw [h1, h2, h3, h4, h5]

/-- At each of these places there is an object, whose pointers are 0 or some of them. -/
structure ObjV (l V : List Int) : Prop where
  obj : ∀ x ∈ V, ∃ (a p d : Nat) (wk fn fr : Bool), x = (a : Int) ∧ 0 < a ∧ ObjIs l a p d wk fn fr ∧ (0 ≤ l.getD (a + 2) 0 ∧ l.getD (a + 2) 0 ≤ 9223372036854775807) ∧ ∀ i, i < p → l.getD (a + (3 + i)) 0 = 0 ∨ l.getD (a + (3 + i)) 0 ∈ V
  len : V.length ≤ 8
theorem ObjV.pos {l V : List Int} (h : ObjV l V) {x : Int} (hx : x ∈ V) (hl : l.length ≤ 65536) : 0 < x ∧ x ≤ 65536 := by
  obtain ⟨a, p, d, wk, fn, fr, rfl, h0, ho, _⟩ := h.obj x hx
  have := ho.room
  omega
theorem ObjV.ptr {l V : List Int} (h : ObjV l V) {y : Int} (hy : y = 0 ∨ y ∈ V) (hl : l.length ≤ 65536) : 0 ≤ y ∧ y ≤ 9223372036854775807 := by
  rcases hy with rfl | hy
  · omega
  · have := h.pos hy hl; omega
theorem mem_ptrL {l : List Int} {a n : Nat} {y : Int} (h : y ∈ ptrL l a n) : ∃ i, i < n ∧ y = l.getD (a + (3 + i)) 0 := by
  unfold ptrL at h
  obtain ⟨i, hi, e⟩ := List.mem_map.1 h
  exact ⟨i, List.mem_range.1 hi, e.symm⟩
theorem grph_of {P b : Nat} {l V : List Int} (h : ObjV l V) (hl : l.length ≤ 65536) : Grph P b l V (gOf l) := by
  refine ⟨fun x hx y hy => ?_, fun x hx y hy => ?_, fun x hx => h.pos hx hl, h.len, fun x hx => ?_⟩
  · obtain ⟨a, p, d, wk, fn, fr, rfl, h0, ho, hs, hp⟩ := h.obj x hx
    have := strong_at a y hy ho fun i hi => h.ptr (hp i hi) hl
    rw [gOf_obj ho, ptrL_length]
    exact this
  · obtain ⟨a, p, d, wk, fn, fr, rfl, h0, ho, hs, hp⟩ := h.obj x hx
    rw [gOf_obj ho] at hy
    obtain ⟨i, hi, rfl⟩ := mem_ptrL hy
    exact hp i (by revert hi; split <;> omega)
  · obtain ⟨a, p, d, wk, fn, fr, rfl, h0, ho, hs, hp⟩ := h.obj x hx
    rw [gOf_obj ho, ptrL_length]
    have := ho.ptrs
    split <;> omega
theorem nods_of {P b : Nat} {l V : List Int} (h : ObjV l V) (hl : l.length ≤ 65536) : Nods P b l V (nOf l) := by
  refine ⟨fun x hx F mb n ov o y hk hm hy => ?_, fun x hx => ?_, fun x hx => ?_, fun x hx => ?_⟩
  · obtain ⟨a, p, d, wk, fn, fr, rfl, h0, ho, hs, hp⟩ := h.obj x hx
    have := node_any F mb n a ov o y hk hm hy ho hs fun i hi => h.ptr (hp i hi) hl
    rw [nOf_obj ho]
    exact this
  · obtain ⟨a, p, d, wk, fn, fr, rfl, h0, ho, hs, hp⟩ := h.obj x hx
    rw [nOf_obj ho]; exact ptrL_length _ _ _
  · obtain ⟨a, p, d, wk, fn, fr, rfl, h0, ho, hs, hp⟩ := h.obj x hx
    rw [nOf_obj ho]; exact numL_length _ _ _ _
  · obtain ⟨a, p, d, wk, fn, fr, rfl, h0, ho, hs, hp⟩ := h.obj x hx
    rw [nOf_obj ho]; exact ⟨ho.ptrs, ho.data⟩

end Go.Proofs.Ytceedbkacbaaiaa
