/- The laws' own Widths: of raw numbers, widths that may be: each 1 to 20, at most 20 of them, all together at most 64. Condition: the raw numbers are ints. -/
import Derived.Test.YtadncljhckakmaaWordAwake
import Derived.Test.YtadncljhckakmaaOpen
namespace Go.Proofs.Ytadncljhckakmaa
open Go.ChangeShapes Go.WideShapes Go.ChangeAt Go.RowKit

set_option linter.unusedSimpArgs false
set_option linter.unusedVariables false

theorem infoI64 : (Try.prog.info? 3).map (fun i => (i.zero, i.size, i.bytes)) = some (some (.int .i64 0), 1, 8) := by kernel_rfl

def intVals (ds : List Nat) : List Value := ds.map fun x : Nat => Value.int .i64 (x : Int)
theorem intVals_snoc (ds : List Nat) (x : Nat) : intVals (ds ++ [x]) = intVals ds ++ [.int .i64 (x : Int)] := by simp [intVals]

/-- Widths that may be. -/
structure Wide (ds : List Nat) : Prop where
  each : ∀ d ∈ ds, 1 ≤ d ∧ d ≤ 20
  all : ds.sum ≤ 64
theorem Wide.snoc {ds : List Nat} (h : Wide ds) {d : Nat} (h1 : 1 ≤ d) (h2 : d ≤ 20) (h3 : ds.sum + d ≤ 64) : Wide (ds ++ [d]) :=
  ⟨fun x hx => by rcases List.mem_append.1 hx with h4 | h4; exact h.each x h4; (rw [List.mem_singleton.1 h4]; exact ⟨h1, h2⟩), by rw [List.sum_append]; simpa using h3⟩
theorem Wide.length {ds : List Nat} (h : Wide ds) : ds.length ≤ 64 := by
  have key : ∀ l : List Nat, (∀ d ∈ l, 1 ≤ d) → l.length ≤ l.sum := by
    intro l
    induction l with
    | nil => intro _; simp
    | cons d r ih => intro hl; have := ih (fun x hx => hl x (by simp [hx])); have := hl d (by simp); simp; omega
  exact Nat.le_trans (key ds fun d hd => (h.each d hd).1) h.all

def WidthsPost (w : World) (e : Ending) (w' : World) : Prop :=
  ∃ sv ds, e = .returned sv ∧ w'.ownsRow w.heap.size 3 1 sv ds.length (intVals ds) ∧ Wide ds ∧ Below w.heap.size w w'

set_option maxHeartbeats 1000000 in
theorem widths_any (a : Option Addr) (len cap : Nat) (zs : List Int) (w : World) (hr : IsRow .i64 w a len cap zs) :
    Calls Try.prog 15 #[.slice a len cap] w (WidthsPost w) := by
  obtain ⟨i0, hi, hz0, hz1, hz2⟩ := info_parts infoI64
  have hcell : Hid (∀ k, k < len → ∃ b off x, a = some ⟨b, off, none⟩ ∧ b < w.heap.size ∧ w.cell? ⟨b, off + k, none⟩ = some (.int .i64 x) ∧ -9223372036854775808 ≤ x ∧ x ≤ 9223372036854775807) := by
    intro k hk
    rcases hr with ⟨h0, _⟩ | ⟨b, off, rfl, hb, hl, hm, hz, hc, hw⟩
    · omega
    · have hkz : k < zs.length := by omega
      have hg : zs.getD k 0 ∈ zs := by rw [List.getD_eq_getElem?_getD, List.getElem?_eq_getElem hkz]; exact List.getElem_mem hkz
      have := bounds_i64 (hw _ hg)
      exact ⟨b, off, _, rfl, hb, hc k hkz, this.1, this.2⟩
  have hmax : len ≤ 9223372036854775807 := by
    rcases hr with ⟨h0, _⟩ | ⟨b, off, rfl, hb, hl, hm, hz, hc, hw⟩
    · omega
    · unfold maxLen at hm; omega
  clear hr
  go_enter Try.func15, Try.ntmps15
  go_wp2
  go_loopw [3, 4, 5] (fun v n i wr => ∃ (k : Nat) (ds : List Nat), k ≤ len ∧ k ≤ 20 ∧ i = .int .i64 k ∧ n = .int .i64 ((ds.sum : Nat) : Int) ∧ wr.ownsRow w.heap.size 3 1 v ds.length (intVals ds) ∧ Wide ds ∧ Below w.heap.size w wr)
    (fun _ _ i _ => 20 - (intOf i).toNat)
  case atStart => exact ⟨0, [], Nat.zero_le _, by omega, rfl, rfl, World.ownsRow_nil _ _ _ _, ⟨by simp, by simp⟩, Below.refl _ _⟩
  case round =>
    obtain ⟨k, ds, hk, hk20, rfl, rfl, hown, hwide, hB⟩ := hrel
    have hall := hwide.all
    have hlen := hwide.length
    have Hw := Lib.hid hwide
    clear hwide
    by_cases hlt : k < len
    · by_cases h20 : k < 20
      · obtain ⟨b, off, x, rfl, hb, hc, x0, x1⟩ := hcell.out k hlt
        have hc1 : wr.cell? ⟨b, off + k, none⟩ = some (.int .i64 x) := (hB.cell (p := ⟨b, off + k, none⟩) hb).trans hc
        have p := pick_bounds x 20 (by decide)
        have d20 : decide ((k : Int) < 20) = true := decide_eq_true (by omega)
        clear hc
        go_wp2_with fail
        refine (pick_any _ _ _ x0 x1 (by decide) (by decide)).mono ?_
        rintro e w2 ⟨rfl, rfl⟩
        generalize hm : pickOf x 20 = m at p ⊢
        clear hm hc1
        obtain ⟨m, rfl⟩ : ∃ j : Nat, m = j := ⟨m.toNat, by omega⟩
        obtain ⟨p1, p2⟩ := p
        by_cases hfit : ds.sum + (1 + m) ≤ 64
        · have hf : ((ds.sum : Nat) : Int) + (1 + (m : Int)) ≤ 64 := by omega
          go_wp2_with (at_builtin; refine wpList_append_own _ rfl _ _ 33 rfl w.heap.size 3 i0 (.int .i64 0) 1 8 Try.underlying33 hi hz0 hz1 hz2 rfl (by decide) u3 _ _ rfl (hown.alloc _) ⟨wr.heap.size, 0, none⟩ 1 1 [.int .i64 (1 + (m : Int))] rfl rfl (cell_one_new _ _ _) (by simp [Value.oneCell']) (by unfold maxLen; omega) (by omega) (by have := hB.size; simp; omega) ?_; intro v' w1 hown' hgrow _)
          have hBa := hB.alloc (Nat.le_trans (Nat.le_refl _) hB.size) (.cells #[.int .i64 (1 + (m : Int))] 3)
          have hB1 := hBa.grown hgrow (by have := hB.size; simp; omega) (fun g e => (own_block hown g e.symm.symm).1)
          rw [show (1 + (m : Int)) = ((1 + m : Nat) : Int) from by omega, ← intVals_snoc] at hown'
          go_roundw
          case rel => exact ⟨k + 1, ds ++ [1 + m], by omega, by omega, by go_num, by rw [List.sum_append]; simp, by rw [List.length_append]; exact hown', Hw.out.snoc (by omega) (by omega) hfit, hB1⟩
          case measure => simp [intOf]; omega
        · have hf : ¬ ((ds.sum : Nat) : Int) + (1 + (m : Int)) ≤ 64 := by omega
          go_wp2
          go_roundw
          case rel => exact ⟨k + 1, ds, by omega, by omega, by go_num, rfl, hown, Hw.out, hB⟩
          case measure => simp [intOf]; omega
      · have d20 : decide ((k : Int) < 20) = false := decide_eq_false (by omega)
        go_wp2
        go_ret
        exact ⟨_, ds, rfl, hown, Hw.out, hB⟩
    · go_wp2
      go_ret
      exact ⟨_, ds, rfl, hown, Hw.out, hB⟩

end Go.Proofs.Ytadncljhckakmaa
