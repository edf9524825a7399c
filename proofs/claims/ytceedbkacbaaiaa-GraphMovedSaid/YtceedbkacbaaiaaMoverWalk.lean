/- Package mover: the iterator 'objects' tells the places of objects that stand one behind the other, and Walk hands them back in new memory. Condition: the space is right, its words are those of these objects, and none of them is gone. -/
import Derived.Test.YtceedbkacbaaiaaRowObs
import Derived.Test.YtceedbkacbaaiaaKpB
import Derived.Test.YtceedbkacbaaiaaOwnRow
import Derived.Test.YtceedbkacbaaiaaRound
import Derived.Shelf.Abstract
import Derived.Shelf.RegionOpen
import Derived.OwnWalkIn
import Derived.TacticsInMore
import Derived.LoopNIn
import Derived.LoopIn
import Derived.Deep.DeepAppendWide
import Derived.Maps.AppendAt
namespace Go.Proofs.Ytceedbkacbaaiaa
open Go.RowKit Go.Shelf

set_option linter.unusedSimpArgs false
set_option linter.unusedVariables false
attribute [local go_sem] Oper.semAt_some

theorem ArenaAt.kpB {n₁ : Nat} {S : Nat → Prop} {A C : World} {P b : Nat} {l : List Int} (h : ArenaAt 65 A P b l) (g : KpB n₁ S A C) (hP : P < n₁ ∧ ¬ S P) (hb : b < n₁ ∧ ¬ S b) : ArenaAt 65 C P b l :=
  ⟨(g.2 P hP.1 hP.2).trans h.head, (g.2 b hb.1 hb.2).trans h.row, h.len, h.fits⟩

abbrev encPlace (x : Nat) : Array Value := #[.int .i64 (x : Int)]




theorem own_mono {w : World} {base base' : Nat} {e : TypeId} {size : Nat} {v : Value} {n : Nat} {xs : List Value} (h : w.ownsRow base e size v n xs) (hb : base' ≤ base) : w.ownsRow base' e size v n xs :=
  ⟨h.1, h.2.imp id fun ⟨g, cap, cur, e1, e2, r⟩ => ⟨g, cap, cur, e1, Nat.le_trans hb e2, r⟩⟩
/-- An append to a row of one's own that stands in a box: what lay below n₁, but for the box, is as it was. -/
theorem appended_kpB {W w1 : World} {n₁ B : Nat} {t e : TypeId} {size : Nat} {v v' : Value} {k m : Nat} {xs ys : List Value} {tmp : Obj}
    (hv : Boxed W B t v) (hte : t ≠ e) (hrow : W.ownsRow n₁ e size v k xs) (hn₁ : n₁ ≤ W.heap.size) (hB : B < n₁) (hown' : w1.ownsRow n₁ e size v' m ys) (hgrow : (W.alloc tmp).grownBy w1 v.ownBlock) :
    Boxed w1 B t v ∧ Boxed (w1.setCell ⟨B, 0, none⟩ v') B t v' ∧ (w1.setCell ⟨B, 0, none⟩ v').ownsRow n₁ e size v' m ys ∧ KeepsOthers W (w1.setCell ⟨B, 0, none⟩ v') ∧ Below B W (w1.setCell ⟨B, 0, none⟩ v') ∧ KpB n₁ (fun k => k = B) W (w1.setCell ⟨B, 0, none⟩ v') := by
  obtain ⟨h1, h2, h3, h4, h5⟩ := Boxed.appended (n₀ := B) hv hte (own_mono hrow (by omega)) (by omega) (Nat.le_refl _) (own_mono hown' (by omega)) hgrow
  refine ⟨h1, h2, ?_, h4, h5, h5.size, fun c hc hne => ?_⟩
  · refine hown'.kept (grownBy_setCell' w1 B v') (.inr fun e => ?_)
    rcases hown'.2 with ⟨rfl, _⟩ | ⟨g, cap, cur, rfl, hb, _⟩
    · simp [Value.ownBlock] at e
    · simp [Value.ownBlock] at e; omega
  · rw [Below.heap_setCell _ _ _ _ hne]
    refine (hgrow.block c (by simp; omega) fun e => ?_).trans (Below.heap_alloc _ _ _ (by omega))
    rcases hrow.2 with ⟨rfl, _⟩ | ⟨g, cap, cur, rfl, hb, _⟩
    · simp [Value.ownBlock] at e
    · simp [Value.ownBlock] at e; omega

theorem infoInt : (Try.prog.info? 3).map (fun i => (i.zero, i.size, i.bytes)) = some (some (.int .i64 0), 1, 8) := by kernel_rfl
def valsN (l : List Nat) : List Value := l.map fun x : Nat => Value.int .i64 (x : Int)
theorem valsN_snoc (l : List Nat) (x : Nat) : valsN l ++ [.int .i64 x] = valsN (l ++ [x]) := by unfold valsN; simp


end Go.Proofs.Ytceedbkacbaaiaa
