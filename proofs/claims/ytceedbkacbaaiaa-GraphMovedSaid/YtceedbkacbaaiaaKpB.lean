/- What the rounds of a range over a function may not touch: what lay below n₁, but for S. Plain; no condition. -/
import Derived.RangeFuncNested
import Derived.RangeFuncBound
import Derived.RangeFuncCalls
import Derived.RangeFuncLeaves
import Derived.Below
namespace Go.Proofs.Ytceedbkacbaaiaa
open Go.RowKit

/-- What a round of a loop may not touch: what lay below n₁, but for S. -/
def KpB (n₁ : Nat) (S : Nat → Prop) (A B : World) : Prop := A.heap.size ≤ B.heap.size ∧ ∀ b, b < n₁ → ¬ S b → B.heap[b]? = A.heap[b]?
section
variable {n₁ : Nat} {S : Nat → Prop} {A B C : World}
theorem KpB.refl (n₁ : Nat) (S : Nat → Prop) (A : World) : KpB n₁ S A A := ⟨Nat.le_refl _, fun _ _ _ => rfl⟩
theorem KpB.trans (h : KpB n₁ S A B) (k : KpB n₁ S B C) : KpB n₁ S A C := ⟨Nat.le_trans h.1 k.1, fun b hb hs => (k.2 b hb hs).trans (h.2 b hb hs)⟩
theorem KpB.setCell (A : World) {p : Addr} (hp : S p.block) (u : Value) : KpB n₁ S A (A.setCell p u) :=
  ⟨by simp [World.setCell], fun b _ hs => Below.heap_setCell _ _ _ _ fun e => hs (e ▸ hp)⟩
theorem KpB.putObj (W : World) (l : Nat) (o : Obj) (hl : n₁ ≤ l) : KpB n₁ S W (W.putObj l o) :=
  ⟨by simp [World.putObj], fun b hb _ => World.putObj_heap_other (by omega)⟩
theorem KpB.of_below (h : Below n₁ A B) : KpB n₁ S A B := ⟨h.size, fun b hb _ => h.block b hb⟩
theorem KpB.cell (h : KpB n₁ S A B) {p : Addr} (hp : p.block < n₁) (hs : ¬ S p.block) : B.cell? p = A.cell? p := World.cell?_of_block (h.2 p.block hp hs)
end

theorem ownFrom_pure {β : Type} {B : Nat} (P : β → Prop) : OwnFrom B (fun s (_ : World) => P s) := fun _ _ _ _ h _ _ => h

end Go.Proofs.Ytceedbkacbaaiaa
