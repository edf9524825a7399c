/- What a block that is known whole gives a walk. Plain; no condition. -/
import Derived.Test.YtceedbkacbaaiaaMem
namespace Go.Proofs.Ytceedbkacbaaiaa
open Go.RowKit

section
variable {w x y : World} {k : Nat} {v0 v1 v2 v3 : Value} {ty : TypeId}
theorem BlkIs.facts3 (h : BlkIs x k #[v0, v1, v2] ty) : x.cell? ⟨k, 0, none⟩ = some v0 ∧ x.cell? ⟨k, 1, none⟩ = some v1 ∧ x.cell? ⟨k, 2, none⟩ = some v2 ∧ k < x.heap.size := ⟨h.cell 0, h.cell 1, h.cell 2, h.lt⟩
theorem BlkIs.facts4 (h : BlkIs x k #[v0, v1, v2, v3] ty) :
    (x.cell? ⟨k, 0, none⟩ = some v0 ∧ x.cell? ⟨k, 1, none⟩ = some v1 ∧ x.cell? ⟨k, 2, none⟩ = some v2 ∧ x.cell? ⟨k, 3, none⟩ = some v3) ∧
    x.frozen? ⟨k, 0, none⟩ = false ∧ x.frozen? ⟨k, 1, none⟩ = false ∧ x.frozen? ⟨k, 2, none⟩ = false ∧ x.frozen? ⟨k, 3, none⟩ = false ∧ k < x.heap.size :=
  ⟨⟨h.cell 0, h.cell 1, h.cell 2, h.cell 3⟩, h.free 0, h.free 1, h.free 2, h.free 3, h.lt⟩
theorem BlkIs.on {cs : Array Value} (h : BlkIs x k cs ty) (g : Below x.heap.size x y) : BlkIs y k cs ty := h.below g h.lt
end

end Go.Proofs.Ytceedbkacbaaiaa
