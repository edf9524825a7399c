/- Raw objects of layer 8's laws (and of those that lay objects as they do): three numbers of a shape, numbers of fields, whether freed; as they lie in memory. No condition. -/
import Derived.Test.YtceedbkacbaaiaaNest
import Derived.Test.YtceedbkacbaaiaaOps
namespace Go.Proofs.Ytceedbkacbaaiaa
open Go.RowKit

set_option linter.unusedSimpArgs false
set_option linter.unusedVariables false

abbrev rawKinds : List Kd := [.inl (some .i64), .inl (some .i64), .inl (some .i64), .inr .i64, .inl none]

/-- A raw object, as numbers; its fields' slice. -/
structure RawN where
  (s0 s1 s2 : Int)
  fa : Option Addr
  (fl fc : Nat)
  fz : Nat → Int
  fr : Bool
/-- A slice of ints below n₀ that can be read. -/
def RowAt (n₀ : Nat) (w : World) (a : Option Addr) (len : Nat) (z : Nat → Int) : Prop :=
  len = 0 ∨ ∃ b off, a = some ⟨b, off, none⟩ ∧ b < n₀ ∧ len ≤ maxLen ∧ ∀ j, j < len → w.cell? ⟨b, off + j, none⟩ = some (.int .i64 (z j)) ∧ i64Fits (z j)
theorem RowAt.below {n₀ : Nat} {w w' : World} {a : Option Addr} {len : Nat} {z : Nat → Int} (h : RowAt n₀ w a len z) (hb : Below n₀ w w') : RowAt n₀ w' a len z :=
  h.imp id fun ⟨b, off, e, hlt, h1, hc⟩ => ⟨b, off, e, hlt, h1, fun j hj => ⟨(hb.cell (p := ⟨b, off + j, none⟩) hlt).trans (hc j hj).1, (hc j hj).2⟩⟩
def RawAt (w : World) (b o : Nat) (x : RawN) : Prop :=
  w.cell? ⟨b, o, none⟩ = some (.int .i64 x.s0) ∧ w.cell? ⟨b, o + 1, none⟩ = some (.int .i64 x.s1) ∧ w.cell? ⟨b, o + 2, none⟩ = some (.int .i64 x.s2) ∧ w.cell? ⟨b, o + 3, none⟩ = some (.slice x.fa x.fl x.fc) ∧ w.cell? ⟨b, o + 4, none⟩ = some (.bool x.fr)
def RawFits (x : RawN) : Prop := i64Fits x.s0 ∧ i64Fits x.s1 ∧ i64Fits x.s2
/-- Raw objects in blocks below n₀. -/
def RawsAt (n₀ : Nat) (w : World) (a : Option Addr) (len : Nat) (f : Nat → RawN) : Prop :=
  len = 0 ∨ ∃ b off, a = some ⟨b, off, none⟩ ∧ b < n₀ ∧ len ≤ maxLen ∧ ∀ i, i < len → RawAt w b (off + i * 5) (f i) ∧ RawFits (f i) ∧ RowAt n₀ w (f i).fa (f i).fl (f i).fz
theorem RawsAt.below {n₀ : Nat} {w w' : World} {a : Option Addr} {len : Nat} {f : Nat → RawN} (h : RawsAt n₀ w a len f) (hb : Below n₀ w w') : RawsAt n₀ w' a len f :=
  h.imp id fun ⟨b, off, e, hlt, h1, hc⟩ => ⟨b, off, e, hlt, h1, fun i hi => by
    obtain ⟨⟨c0, c1, c2, c3, c4⟩, hf, hr⟩ := hc i hi
    exact ⟨⟨(hb.cell (p := ⟨b, _, none⟩) hlt).trans c0, (hb.cell (p := ⟨b, _, none⟩) hlt).trans c1, (hb.cell (p := ⟨b, _, none⟩) hlt).trans c2, (hb.cell (p := ⟨b, _, none⟩) hlt).trans c3, (hb.cell (p := ⟨b, _, none⟩) hlt).trans c4⟩, hf, hr.below hb⟩⟩

theorem rowAt_of {w : World} {a : Option Addr} {len cap : Nat} {zs : List Int} (h : IsRow .i64 w a len cap zs) : RowAt w.heap.size w a len (fun j => zs.getD j 0) := by
  rcases h with ⟨h, _⟩ | ⟨b, off, e, hlt, h1, h2, hz, hc, hw⟩
  · exact .inl h
  · refine .inr ⟨b, off, e, hlt, by omega, fun j hj => ⟨hc j (by omega), ?_⟩⟩
    have hg : zs.getD j 0 ∈ zs := by rw [List.getD_eq_getElem?_getD, List.getElem?_eq_getElem (show j < zs.length by omega)]; exact List.getElem_mem _
    exact bounds_i64 (hw _ hg)

/-- A raw list that came in. -/
theorem raws_of_nest {w : World} {a : Option Addr} {len cap : Nat} {V : Nat → Nat → Value} (h : IsNest rawKinds w a len cap V) : ∃ f, RawsAt w.heap.size w a len f := by
  rcases h with ⟨h, _⟩ | ⟨b, off, e, hlt, h1, h2, hc⟩
  · exact ⟨fun _ => ⟨0, 0, 0, none, 0, 0, fun _ => 0, false⟩, .inl h⟩
  · have key : ∀ i, i < len → ∃ x : RawN, RawAt w b (off + i * 5) x ∧ RawFits x ∧ RowAt w.heap.size w x.fa x.fl x.fz := by
      intro i hi
      have hi' : i < cap := by omega
      obtain ⟨c0, k0⟩ := hc i hi' 0 (.inl (some .i64)) rfl
      obtain ⟨c1, k1⟩ := hc i hi' 1 (.inl (some .i64)) rfl
      obtain ⟨c2, k2⟩ := hc i hi' 2 (.inl (some .i64)) rfl
      obtain ⟨c3, fa, fl, fc, zs, e3, k3⟩ := hc i hi' 3 (.inr .i64) rfl
      obtain ⟨c4, k4⟩ := hc i hi' 4 (.inl none) rfl
      obtain ⟨z0, e0, f0⟩ := k0
      obtain ⟨z1, e1, f1⟩ := k1
      obtain ⟨z2, e2, f2⟩ := k2
      obtain ⟨z4, e4⟩ := k4
      rw [e0] at c0
      rw [e1] at c1
      rw [e2] at c2
      rw [e3] at c3
      rw [e4] at c4
      exact ⟨⟨z0, z1, z2, fa, fl, fc, fun j => zs.getD j 0, z4⟩, ⟨c0, c1, c2, c3, c4⟩, ⟨bounds_i64 f0, bounds_i64 f1, bounds_i64 f2⟩, rowAt_of k3⟩
    have _inh : Inhabited RawN := ⟨⟨0, 0, 0, none, 0, 0, fun _ => 0, false⟩⟩
    obtain ⟨f, hf⟩ := Deep.choose_lt key
    exact ⟨f, .inr ⟨b, off, e, hlt, by omega, fun i hi => hf i hi⟩⟩

end Go.Proofs.Ytceedbkacbaaiaa
