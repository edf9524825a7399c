/- Objects that stand one behind the other: where the k-th begins, behind the words that those ahead of it took. Plain; no condition. -/
import Derived.Test.YtceedbkacbaaiaaMover
namespace Go.Proofs.Ytceedbkacbaaiaa
open Go.RowKit

/-- An object's shape, and whether it is freed. -/
structure Ob where
  (p d : Nat)
  (wk fn fr : Bool)
def Ob.n (o : Ob) : Nat := 3 + o.p + o.d
def off (os : Nat → Ob) : Nat → Nat
  | 0 => 0
  | k + 1 => off os k + Cls.rd (os k).n
/-- At these places there are objects, the first m. -/
def ObsAt (l : List Int) (B : Nat) (os : Nat → Ob) (m : Nat) : Prop := ∀ k, k < m → ObjIs l (B + off os k) (os k).p (os k).d (os k).wk (os k).fn (os k).fr
def plc (os : Nat → Ob) (B m : Nat) : List Nat := (List.range m).map fun k => B + off os k
theorem plc_length (os : Nat → Ob) (B m : Nat) : (plc os B m).length = m := by unfold plc; simp
theorem plc_snoc (os : Nat → Ob) (B k : Nat) : plc os B k ++ [B + off os k] = plc os B (k + 1) := by unfold plc; rw [List.range_succ]; simp
theorem plc_at {os : Nat → Ob} {B m k : Nat} (h : k < m) : (plc os B m).getD k 0 = B + off os k := by unfold plc; simp [List.getD, h]

section
variable {l : List Int} {B : Nat} {os : Nat → Ob} {m : Nat}
theorem Ob.n_le {o : Ob} (h1 : o.p ≤ 8) (h2 : o.d ≤ 8) : 3 ≤ o.n ∧ o.n ≤ 19 := by unfold Ob.n; omega
theorem rd_pos (n : Nat) : 4 ≤ Cls.rd n := Cls.sz_pos _
theorem off_mono (os : Nat → Ob) {j k : Nat} (h : j ≤ k) : off os j ≤ off os k := by
  induction k with
  | zero => obtain rfl : j = 0 := by omega
            exact Nat.le_refl _
  | succ k ih =>
    by_cases e : j = k + 1
    · subst e; exact Nat.le_refl _
    · exact Nat.le_trans (ih (by omega)) (by show _ ≤ off os k + _; omega)
/-- The j-th ends ahead of the k-th. -/
theorem off_room {j k : Nat} (h : j < k) (h1 : (os j).p ≤ 8) (h2 : (os j).d ≤ 8) : off os j + (os j).n ≤ off os k := by
  have h3 := off_mono os (show j + 1 ≤ k from h)
  have h4 : (os j).n ≤ Cls.rd (os j).n := Cls.rd_ge (by have := (Ob.n_le h1 h2).2; omega)
  have h5 : off os (j + 1) = off os j + Cls.rd (os j).n := rfl
  omega
theorem off_next (os : Nat → Ob) (k : Nat) : off os (k + 1) = off os k + Cls.rd (os k).n := rfl
theorem off_lt (os : Nat → Ob) {j k : Nat} (h : j < k) : off os j < off os k := by
  have h3 := off_mono os (show j + 1 ≤ k from h)
  have h4 := rd_pos (os j).n
  rw [off_next] at h3
  omega
theorem off_ge (os : Nat → Ob) (m : Nat) : 4 * m ≤ off os m := by
  induction m with
  | zero => exact Nat.zero_le _
  | succ m ih => have := rd_pos (os m).n; rw [off_next]; omega
/-- An object is one, whatever stands elsewhere. -/
theorem ObjIs.same {l l' : List Int} {a p d : Nat} {wk fn fr : Bool} (h : ObjIs l a p d wk fn fr) (hl : l'.length = l.length) (hh : l'.getD a 0 = l.getD a 0) : ObjIs l' a p d wk fn fr :=
  ⟨h.right, h.ptrs, h.data, by rw [hl]; exact h.room, by rw [hh]; exact h.head⟩
theorem ObsAt.same {l' : List Int} (h : ObsAt l B os m) (hl : l'.length = l.length) (hh : ∀ k, k < m → l'.getD (B + off os k) 0 = l.getD (B + off os k) 0) : ObsAt l' B os m :=
  fun k hk => (h k hk).same hl (hh k hk)
end

end Go.Proofs.Ytceedbkacbaaiaa
