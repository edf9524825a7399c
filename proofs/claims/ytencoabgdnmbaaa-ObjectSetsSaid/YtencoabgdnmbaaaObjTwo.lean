/- Two objects in an arena, and the plain numbers that say what they hold. Condition: they lie one behind the other. -/
import Derived.Test.YtencoabgdnmbaaaObjLaw
namespace Go.Proofs.Ytencoabgdnmbaaa
open Go.ChangeShapes Go.WideShapes Go.ChangeAt Go.RowKit

set_option linter.unusedSimpArgs false
set_option linter.unusedVariables false

theorem ObjIs.set {l : List Int} {a p d j : Nat} {wk fn fr : Bool} (o : ObjIs l a p d wk fn fr) (x : Int) (hj : ¬ j = a) : ObjIs (l.set j x) a p d wk fn fr :=
  ⟨o.right, o.ptrs, o.data, by rw [List.length_set]; exact o.room, by rw [set_at' (by have := o.room; omega), if_neg (fun e => hj e.symm)]; exact o.head⟩
theorem ObjIs.free {l : List Int} {a p d : Nat} {wk fn fr : Bool} (o : ObjIs l a p d wk fn fr) (to : Bool) : ObjIs (l.set a (headN p d wk fn to : Nat)) a p d wk fn to :=
  ⟨o.right, o.ptrs, o.data, by rw [List.length_set]; exact o.room, by rw [set_at' (by have := o.room; omega), if_pos rfl]⟩
theorem getD_set {α : Type} {l : List α} {m j : Nat} {x z : α} (h : m < l.length) : (l.set m x).getD j z = if j = m then x else l.getD j z := by
  rw [List.getD_eq_getElem?_getD, List.getElem?_set]
  by_cases e : m = j
  · subst e; simp [h]
  · rw [if_neg e, if_neg (Ne.symm e), List.getD_eq_getElem?_getD]

/-- What the words L are, told by ps (pointers), ns (numbers), fs (freed): 8 places for each of the two. -/
structure Two (A : Nat) (pp dd : Nat → Nat) (ww ff : Nat → Bool) (L ps ns : List Int) (fs : List Bool) : Prop where
  at_ : A = 3 + pp 0 + dd 0
  len : L.length = 60
  lp : ps.length = 16
  ln : ns.length = 16
  lf : fs.length = 2
  obj : ∀ k, k < 2 → ObjIs L (k * A) (pp k) (dd k) (ww k) (ff k) (fs.getD k false)
  ser : ∀ k, k < 2 → L.getD (k * A + 2) 0 = (k : Int) + 1
  ptr : ∀ k, k < 2 → ∀ i, i < pp k → L.getD (k * A + (3 + i)) 0 = ps.getD (k * 8 + i) 0
  num : ∀ k, k < 2 → ∀ i, i < dd k → L.getD (k * A + (3 + pp k + i)) 0 = zigOf (ns.getD (k * 8 + i) 0)
  pin : ∀ i, 0 ≤ ps.getD i 0 ∧ ps.getD i 0 ≤ 131072
  nin : ∀ i, -9223372036854775808 ≤ ns.getD i 0 ∧ ns.getD i 0 ≤ 9223372036854775807

section
variable {A : Nat} {pp dd : Nat → Nat} {ww ff : Nat → Bool} {L ps ns : List Int} {fs : List Bool}
theorem Two.small (T : Two A pp dd ww ff L ps ns fs) {k : Nat} (hk : k < 2) : pp k ≤ 8 ∧ dd k ≤ 8 ∧ k * A + (3 + pp k + dd k) ≤ 60 := by
  have o := T.obj k hk
  exact ⟨o.ptrs, o.data, T.len ▸ o.room⟩
theorem two_cases {k : Nat} (h : k < 2) : k = 0 ∨ k = 1 := by omega

theorem Two.setPtr (T : Two A pp dd ww ff L ps ns fs) {k f v : Nat} (hk : k < 2) (hf : f < pp k) (hv : v ≤ 131072) : Two A pp dd ww ff (L.set (k * A + (3 + f)) v) (ps.set (k * 8 + f) v) ns fs := by
  have hA := T.at_
  have s0 := T.small (k := 0) (by omega)
  have s1 := T.small (k := 1) (by omega)
  have hl := T.len
  have hp := T.lp
  refine ⟨hA, by rw [List.length_set]; exact hl, by rw [List.length_set]; exact hp, T.ln, T.lf, fun m hm => ?_, fun m hm => ?_, fun m hm i hi => ?_, fun m hm i hi => ?_, fun i => ?_, T.nin⟩
  · refine ObjIs.set (T.obj m hm) _ ?_
    rcases two_cases hk with rfl | rfl <;> rcases two_cases hm with rfl | rfl <;> omega
  · rw [set_at' (by rcases two_cases hm with rfl | rfl <;> omega), if_neg (by rcases two_cases hk with rfl | rfl <;> rcases two_cases hm with rfl | rfl <;> omega)]
    exact T.ser m hm
  · rw [set_at' (by rcases two_cases hm with rfl | rfl <;> omega), getD_set (by rcases two_cases hk with rfl | rfl <;> omega)]
    by_cases e : m * 8 + i = k * 8 + f
    · rw [if_pos e, if_pos (by rcases two_cases hk with rfl | rfl <;> rcases two_cases hm with rfl | rfl <;> omega)]
    · rw [if_neg e, if_neg (by rcases two_cases hk with rfl | rfl <;> rcases two_cases hm with rfl | rfl <;> omega)]
      exact T.ptr m hm i hi
  · rw [set_at' (by rcases two_cases hm with rfl | rfl <;> omega), if_neg (by rcases two_cases hk with rfl | rfl <;> rcases two_cases hm with rfl | rfl <;> omega)]
    exact T.num m hm i hi
  · rw [getD_set (by rcases two_cases hk with rfl | rfl <;> omega)]
    split
    · omega
    · exact T.pin i

theorem Two.setNum (T : Two A pp dd ww ff L ps ns fs) {k f : Nat} {v : Int} (hk : k < 2) (hf : f < dd k) (hv : -9223372036854775808 ≤ v ∧ v ≤ 9223372036854775807) : Two A pp dd ww ff (L.set (k * A + (3 + pp k + f)) (zigOf v)) ps (ns.set (k * 8 + f) v) fs := by
  have hA := T.at_
  have s0 := T.small (k := 0) (by omega)
  have s1 := T.small (k := 1) (by omega)
  have hl := T.len
  have hp := T.ln
  refine ⟨hA, by rw [List.length_set]; exact hl, T.lp, by rw [List.length_set]; exact hp, T.lf, fun m hm => ?_, fun m hm => ?_, fun m hm i hi => ?_, fun m hm i hi => ?_, T.pin, fun i => ?_⟩
  · refine ObjIs.set (T.obj m hm) _ ?_
    rcases two_cases hk with rfl | rfl <;> rcases two_cases hm with rfl | rfl <;> omega
  · rw [set_at' (by rcases two_cases hm with rfl | rfl <;> omega), if_neg (by rcases two_cases hk with rfl | rfl <;> rcases two_cases hm with rfl | rfl <;> omega)]
    exact T.ser m hm
  · rw [set_at' (by rcases two_cases hm with rfl | rfl <;> omega), if_neg (by rcases two_cases hk with rfl | rfl <;> rcases two_cases hm with rfl | rfl <;> omega)]
    exact T.ptr m hm i hi
  · rw [set_at' (by rcases two_cases hm with rfl | rfl <;> omega), getD_set (by rcases two_cases hk with rfl | rfl <;> omega)]
    by_cases e : m * 8 + i = k * 8 + f
    · rw [if_pos e, if_pos (by rcases two_cases hk with rfl | rfl <;> rcases two_cases hm with rfl | rfl <;> omega)]
    · rw [if_neg e, if_neg (by rcases two_cases hk with rfl | rfl <;> rcases two_cases hm with rfl | rfl <;> omega)]
      exact T.num m hm i hi
  · rw [getD_set (by rcases two_cases hk with rfl | rfl <;> omega)]
    split
    · exact hv
    · exact T.nin i

theorem Two.setFreed (T : Two A pp dd ww ff L ps ns fs) {k : Nat} (to : Bool) (hk : k < 2) : Two A pp dd ww ff (L.set (k * A) (headN (pp k) (dd k) (ww k) (ff k) to : Nat)) ps ns (fs.set k to) := by
  have hA := T.at_
  have s0 := T.small (k := 0) (by omega)
  have s1 := T.small (k := 1) (by omega)
  have hl := T.len
  have hp := T.lf
  refine ⟨hA, by rw [List.length_set]; exact hl, T.lp, T.ln, by rw [List.length_set]; exact hp, fun m hm => ?_, fun m hm => ?_, fun m hm i hi => ?_, fun m hm i hi => ?_, T.pin, T.nin⟩
  · rw [getD_set (by omega)]
    by_cases e : m = k
    · subst e
      rw [if_pos rfl]
      exact ObjIs.free (T.obj m hm) to
    · rw [if_neg e]
      refine ObjIs.set (T.obj m hm) _ ?_
      rcases two_cases hk with rfl | rfl <;> rcases two_cases hm with rfl | rfl <;> omega
  · rw [set_at' (by rcases two_cases hm with rfl | rfl <;> omega), if_neg (by rcases two_cases hk with rfl | rfl <;> rcases two_cases hm with rfl | rfl <;> omega)]
    exact T.ser m hm
  · rw [set_at' (by rcases two_cases hm with rfl | rfl <;> omega), if_neg (by rcases two_cases hk with rfl | rfl <;> rcases two_cases hm with rfl | rfl <;> omega)]
    exact T.ptr m hm i hi
  · rw [set_at' (by rcases two_cases hm with rfl | rfl <;> omega), if_neg (by rcases two_cases hk with rfl | rfl <;> rcases two_cases hm with rfl | rfl <;> omega)]
    exact T.num m hm i hi

theorem zeros_at (i : Nat) : (List.replicate 16 (0 : Int)).getD i 0 = 0 := by
  by_cases h : i < 16
  · rw [List.getD_eq_getElem?_getD, List.getElem?_replicate_of_lt h]; rfl
  · rw [List.getD_eq_getElem?_getD, List.getElem?_eq_none (by simp; omega)]; rfl
theorem Two.new (r0 : shB (pp 0) (dd 0) (ww 0) (ff 0) = true) (r1 : shB (pp 1) (dd 1) (ww 1) (ff 1) = true) (p0 : pp 0 ≤ 8) (d0 : dd 0 ≤ 8) (p1 : pp 1 ≤ 8) (d1 : dd 1 ≤ 8) :
    Two (3 + pp 0 + dd 0) pp dd ww ff (rowL (pp 0) (dd 0) (ww 0) (ff 0) (pp 1) (dd 1) (ww 1) (ff 1)) (List.replicate 16 0) (List.replicate 16 0) [false, false] := by
  have hl0 : (List.replicate 60 (0 : Int)).length = 60 := List.length_replicate
  have hz : ∀ j, j < 60 → (List.replicate 60 (0 : Int)).getD j 0 = 0 := fun j hj => by rw [List.getD_eq_getElem?_getD, List.getElem?_replicate_of_lt hj]; rfl
  have h1 : ∀ j, j < 60 → (madeL (List.replicate 60 0) 0 (pp 0) (dd 0) (ww 0) (ff 0) 1).getD j 0 = if j = 2 then 1 else if j = 0 then ((headN (pp 0) (dd 0) (ww 0) (ff 0) false : Nat) : Int) else 0 := fun j hj => by
    rw [madeL_at (by omega), hz j hj]
    simp
  have hl1 : (madeL (List.replicate 60 0) 0 (pp 0) (dd 0) (ww 0) (ff 0) 1).length = 60 := by rw [madeL_length]; exact hl0
  have h2 : ∀ j, j < 60 → (rowL (pp 0) (dd 0) (ww 0) (ff 0) (pp 1) (dd 1) (ww 1) (ff 1)).getD j 0 = if j = 3 + pp 0 + dd 0 + 2 then 2 else if j = 3 + pp 0 + dd 0 then ((headN (pp 1) (dd 1) (ww 1) (ff 1) false : Nat) : Int) else
      if 3 + pp 0 + dd 0 ≤ j ∧ j < 3 + pp 0 + dd 0 + (3 + pp 1 + dd 1) then 0 else if j = 2 then 1 else if j = 0 then ((headN (pp 0) (dd 0) (ww 0) (ff 0) false : Nat) : Int) else 0 := fun j hj => by
    unfold rowL
    rw [madeL_at (by omega), h1 j hj]
    rfl
  have hl2 : (rowL (pp 0) (dd 0) (ww 0) (ff 0) (pp 1) (dd 1) (ww 1) (ff 1)).length = 60 := by unfold rowL; rw [madeL_length]; exact hl1
  generalize rowL (pp 0) (dd 0) (ww 0) (ff 0) (pp 1) (dd 1) (ww 1) (ff 1) = L at *
  refine ⟨rfl, hl2, List.length_replicate, List.length_replicate, rfl, fun k hk => ?_, fun k hk => ?_, fun k hk i hi => ?_, fun k hk i hi => ?_, fun i => ?_, fun i => ?_⟩
  · rcases two_cases hk with rfl | rfl
    · exact ⟨r0, p0, d0, by omega, by rw [h2 _ (by omega), if_neg (by omega), if_neg (by omega), if_neg (by omega), if_neg (by omega), if_pos (by omega)]; rfl⟩
    · exact ⟨r1, p1, d1, by omega, by rw [h2 _ (by omega), if_neg (by omega), if_pos (by omega)]; rfl⟩
  · rcases two_cases hk with rfl | rfl
    · rw [h2 _ (by omega), if_neg (by omega), if_neg (by omega), if_neg (by omega), if_pos (by omega)]; rfl
    · rw [h2 _ (by omega), if_pos (by omega)]; rfl
  · rw [zeros_at]
    rcases two_cases hk with rfl | rfl
    · rw [h2 _ (by omega), if_neg (by omega), if_neg (by omega), if_neg (by omega), if_neg (by omega), if_neg (by omega)]
    · rw [h2 _ (by omega), if_neg (by omega), if_neg (by omega), if_pos (by omega)]
  · rw [zeros_at, show zigOf 0 = 0 from rfl]
    rcases two_cases hk with rfl | rfl
    · rw [h2 _ (by omega), if_neg (by omega), if_neg (by omega), if_neg (by omega), if_neg (by omega), if_neg (by omega)]
    · rw [h2 _ (by omega), if_neg (by omega), if_neg (by omega), if_pos (by omega)]
  · rw [zeros_at]; omega
  · rw [zeros_at]; omega
end

/-- A block of numbers. -/
theorem nums_cell {x : World} {k : Nat} {ps : List Int} {ty : TypeId} (h : BlkIs x k (ps.map (Value.int .i64)).toArray ty) {i : Nat} (hi : i < ps.length) : x.cell? ⟨k, i, none⟩ = some (.int .i64 (ps.getD i 0)) := by
  rw [h.cell]
  simp [List.getD, hi]
theorem nums_set {x : World} {k : Nat} {ps : List Int} {ty : TypeId} (h : BlkIs x k (ps.map (Value.int .i64)).toArray ty) (i : Nat) (v : Int) : BlkIs (x.setCell ⟨k, i, none⟩ (.int .i64 v)) k ((ps.set i v).map (Value.int .i64)).toArray ty := by
  have := h.set i (.int .i64 v)
  simpa [List.map_set] using this
theorem bools_cell {x : World} {k : Nat} {fs : List Bool} {ty : TypeId} (h : BlkIs x k (fs.map Value.bool).toArray ty) {i : Nat} (hi : i < fs.length) : x.cell? ⟨k, i, none⟩ = some (.bool (fs.getD i false)) := by
  rw [h.cell]
  simp [List.getD, hi]
theorem bools_set {x : World} {k : Nat} {fs : List Bool} {ty : TypeId} (h : BlkIs x k (fs.map Value.bool).toArray ty) (i : Nat) (v : Bool) : BlkIs (x.setCell ⟨k, i, none⟩ (.bool v)) k ((fs.set i v).map Value.bool).toArray ty := by
  have := h.set i (.bool v)
  simpa [List.map_set] using this

end Go.Proofs.Ytencoabgdnmbaaa
