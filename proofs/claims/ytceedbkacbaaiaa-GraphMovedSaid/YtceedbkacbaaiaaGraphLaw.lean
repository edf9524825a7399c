/- What the laws of layer 9 have in common: the places that Lay tells, objects that Link has turned to one another, look-ups behind a guard. No condition. -/
import Derived.Test.YtceedbkacbaaiaaGraphAwake
namespace Go.Proofs.Ytceedbkacbaaiaa
open Go.ChangeShapes Go.WideShapes Go.ChangeAt Go.RowKit

set_option linter.unusedSimpArgs false
set_option linter.unusedVariables false

theorem wpList_wanted {P : Program} {ops : Array Oper} {Q : Exit → Act → World → Prop} {a : Act} {w : World} {rest : List Oper} {o : Oper} (hg : Region.wanted o (yielded ops a.tmps) = true)
    (h : ∀ K : Act → World → Prop, (∀ a w, wpList P ops Q rest a w → K a w) → o.wp P a w K Q) : wpList P ops Q (o :: rest) a w :=
  wpList_step fun K hK => by rw [if_pos hg]; exact h K hK
section
variable {w : World} {ops : Array Oper} {rest : List Oper} {o : Oper} {a : Act} {Q : Exit → Act → World → Prop} {b n : Nat} {f : Int → Bool} {key : Int}
/-- 'm[k]', also behind a guard. -/
theorem wpList_bmap_look {v : Bool} (hg : Region.wanted o (yielded ops a.tmps) = true) (m x : Operand) (hop : o.op = Op.lookup 34 m x false) (hm : a.eval m = .map (some b)) (h : BMap w b n f) (hx : a.eval x = .int .i64 key) (hk : -9223372036854775808 ≤ key ∧ key ≤ 9223372036854775807) (hv : f key = v)
    (hK : wpList Try.prog ops Q rest (a.put o.dst (.bool v)) w) : wpList Try.prog ops Q (o :: rest) a w := by
  refine wpList_wanted hg fun K' hK' => ?_
  have hr := h.find hk
  rw [hv] at hr
  unfold Oper.wp
  simp [execOp, hop, hm, hx, hr, Result.andThen]
  exact hK' _ _ hK
end

/-- The places, as numbers. -/
def plZ (os : Nat → Ob) (B m : Nat) : List Int := (plc os B m).map fun x : Nat => (x : Int)
theorem plZ_length (os : Nat → Ob) (B m : Nat) : (plZ os B m).length = m := by unfold plZ; rw [List.length_map, plc_length]
theorem mem_plZ {os : Nat → Ob} {B m : Nat} {x : Int} : x ∈ plZ os B m ↔ ∃ j, j < m ∧ x = ((B + off os j : Nat) : Int) := by
  unfold plZ plc
  simp only [List.map_map, List.mem_map, List.mem_range, Function.comp]
  exact ⟨fun ⟨j, hj, e⟩ => ⟨j, hj, e.symm⟩, fun ⟨j, hj, e⟩ => ⟨j, hj, e.symm⟩⟩
theorem where_of {w : World} {base m : Nat} {v : Value} {os : Nat → Ob} (h : w.ownsRow base 3 1 v m (valsN (plc os 1 m))) :
    ∃ wa wc, v = .slice wa m wc ∧ (0 < m → ∃ g, wa = some ⟨g, 0, none⟩ ∧ m ≤ wc ∧ g < w.heap.size ∧ base ≤ g ∧ ∀ j, j < m → w.cell? ⟨g, j, none⟩ = some (.int .i64 (1 + off os j : Nat))) := by
  obtain ⟨wa, wc, rfl⟩ := own_slice h
  refine ⟨wa, wc, rfl, fun hm => ?_⟩
  rw [valsN_eq] at h
  obtain ⟨g, cap, e, hg0, hg1, hg2, hg3, hg4, hgc⟩ := own_cell h hm
  injection e with e1 e2 e3
  subst e3
  refine ⟨g, e1, hg2, hg1, hg0, fun j hj => ?_⟩
  rw [hgc j hj]
  have : ((plc os 1 m).map fun x : Nat => (x : Int)).getD j 0 = ((1 + off os j : Nat) : Int) := by unfold plc; simp [List.getD, hj]
  rw [this]
theorem objV_linked {l l' : List Int} {os : Nat → Ob} {m : Nat} (ho : ObsAt l 1 os m) (hL : Linked l l' os m m 0) (hs : ∀ j, j < m → l.getD (1 + off os j + 2) 0 = ((j + 1 : Nat) : Int)) (hm : m ≤ 8) : ObjV l' (plZ os 1 m) := by
  refine ⟨fun x hx => ?_, by rw [plZ_length]; exact hm⟩
  obtain ⟨j, hj, rfl⟩ := mem_plZ.1 hx
  refine ⟨1 + off os j, _, _, _, _, _, rfl, by omega, hL.obs ho j hj, ?_, fun i hi => ?_⟩
  · rw [hL.low j 2 hj (by omega), hs j hj]
    omega
  · rcases hL.done j i hj hi (.inl hj) with h | ⟨n, hn, h⟩
    · exact .inl h
    · exact .inr (mem_plZ.2 ⟨n, hn, h⟩)
theorem roots_in {os : Nat → Ob} {m : Nat} {zs : List Int} (h : ∀ x ∈ zs, x = 0 ∨ ∃ j, j < m ∧ x = ((1 + off os j : Nat) : Int)) : ∀ x ∈ zs, x = 0 ∨ x ∈ plZ os 1 m :=
  fun x hx => (h x hx).imp id fun h => mem_plZ.2 h
/-- A row of raw numbers, as RowAt has it. -/
theorem RowAt.slice {n₀ : Nat} {w : World} {a : Option Addr} {len : Nat} {z : Nat → Int} (h : RowAt n₀ w a len z) : RowAt n₀ w a len z := h

end Go.Proofs.Ytceedbkacbaaiaa
