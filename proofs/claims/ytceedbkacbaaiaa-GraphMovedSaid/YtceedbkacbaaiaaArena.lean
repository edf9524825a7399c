/- Contracts of package arena: what each call tells, and what words there are behind it. Condition: the arena is one (ArenaAt), the numbers are int's. -/
import Derived.Test.YtceedbkacbaaiaaRows
import Derived.Test.YtceedbkacbaaiaaMem
import Derived.WalkKit
import Derived.ProofKit
import Derived.Outline
import Derived.LoopTactic
import Derived.Laws.MakeOwn
import Derived.Deep.RegionHeld3
import Derived.Deep.RegionLaw
namespace Go.Proofs.Ytceedbkacbaaiaa
open Go.ChangeShapes Go.WideShapes Go.ChangeAt Go.RowKit

set_option linter.unusedSimpArgs false
set_option linter.unusedVariables false

/-- Words l lie in block b; block p is the arena (its struct's type is t) that has them. -/
structure ArenaAt (t : TypeId) (w : World) (p b : Nat) (l : List Int) : Prop where
  head : BlkIs w p #[.slice (some ⟨b, 0, none⟩) l.length l.length] t
  row : BlkIs w b (l.map (Value.int .u64)).toArray 83
  len : l.length ≤ 65536
  fits : ∀ z ∈ l, 0 ≤ z ∧ z ≤ 18446744073709551615

section
variable {t : TypeId} {w w' : World} {p b : Nat} {l : List Int} {S : Nat → Prop}
theorem ArenaAt.chg (h : ArenaAt t w p b l) (g : Chg S w w') (hp : ¬ S p) (hb : ¬ S b) : ArenaAt t w' p b l := ⟨h.head.chg g hp, h.row.chg g hb, h.len, h.fits⟩
theorem ArenaAt.below {n : Nat} (h : ArenaAt t w p b l) (g : Below n w w') (hp : p < n) (hb : b < n) : ArenaAt t w' p b l := ⟨h.head.below g hp, h.row.below g hb, h.len, h.fits⟩
theorem ArenaAt.cell {i : Nat} (h : ArenaAt t w p b l) (hi : i < l.length) : w.cell? ⟨b, i, none⟩ = some (.int .u64 (l.getD i 0)) := by
  rw [h.row.cell]
  simp [List.getD, hi]
theorem ArenaAt.slot (h : ArenaAt t w p b l) : w.cell? ⟨p, 0, none⟩ = some (.slice (some ⟨b, 0, none⟩) l.length l.length) := by
  rw [h.head.cell]; rfl
theorem ArenaAt.ne (h : ArenaAt t w p b l) (ht : t ≠ 83) : p ≠ b := by
  rintro rfl
  have h1 := h.head
  have h2 := h.row
  unfold BlkIs at h1 h2
  rw [h1] at h2
  injection h2 with h2
  injection h2 with _ h2
  exact ht h2
theorem ArenaAt.set (h : ArenaAt t w p b l) (ht : t ≠ 83) {i : Nat} {x : Int} (hx : 0 ≤ x ∧ x ≤ 18446744073709551615) : ArenaAt t (w.setCell ⟨b, i, none⟩ (.int .u64 x)) p b (l.set i x) := by
  refine ⟨?_, ?_, by rw [List.length_set]; exact h.len, fun z hz => ?_⟩
  · rw [List.length_set]; exact h.head.far (h.ne ht) _
  · have := h.row.set i (.int .u64 x)
    simpa [List.map_set] using this
  · rcases List.mem_or_eq_of_mem_set hz with h1 | rfl
    · exact h.fits z h1
    · exact hx
theorem ArenaAt.put (h : ArenaAt t w p b l) (ht : t ≠ 83) {a k : Nat} {f : Nat → Int} (ha : a + k ≤ l.length) (hf : ∀ j, j < k → 0 ≤ f j ∧ f j ≤ 18446744073709551615) :
    ArenaAt t (w.setRow b (splice (l.map (Value.int .u64)) a ((List.range k).map fun j => Value.int .u64 (f j))).toArray) p b (layL l a f k) := by
  refine ⟨?_, ?_, by rw [layL_length]; exact h.len, layL_mem h.fits k hf⟩
  · rw [layL_length]; exact h.head.rowFar (h.ne ht) _
  · rw [layL_splice l a f k ha, ← splice_map, List.map_map]; exact h.row.row _
end

/-- Whether n places from at on are there. -/
def fitsB (len : Nat) (at' n : Int) : Bool := decide (0 ≤ at') && decide (0 ≤ n) && decide (at' + n ≤ (len : Int))
theorem fitsB_yes {len : Nat} {a n : Int} (h : fitsB len a n = true) : 0 ≤ a ∧ 0 ≤ n ∧ a + n ≤ (len : Int) := by
  unfold fitsB at h; simpa [and_assoc] using h
theorem fitsB_of {len : Nat} {a n : Int} (h1 : 0 ≤ a) (h2 : 0 ≤ n) (h3 : a + n ≤ (len : Int)) : fitsB len a n = true := by
  unfold fitsB; simp [h1, h2, h3]
theorem fitsB_not {len : Nat} {a n : Int} (h : ¬ (0 ≤ a ∧ 0 ≤ n ∧ a + n ≤ (len : Int))) : fitsB len a n = false := by
  cases e : fitsB len a n
  · rfl
  · exact absurd (fitsB_yes e) h

def loadV (l : List Int) (a : Int) : Int := if fitsB l.length a 1 then l.getD a.toNat 0 else 0
def errV (len : Nat) (a n : Int) : Int := if fitsB len a n then 0 else 20
def fillV (l : List Int) (a n x : Int) : List Int := if fitsB l.length a n then layL l a.toNat (fun _ => x) n.toNat else l
def moveV (l : List Int) (a c n : Int) : List Int := if fitsB l.length a n && fitsB l.length c n then layL l c.toNat (fun j => l.getD (a.toNat + j) 0) n.toNat else l
def err2V (len : Nat) (a c n : Int) : Int := if fitsB len a n && fitsB len c n then 0 else 20

theorem getD_fits {l : List Int} (h : ∀ z ∈ l, 0 ≤ z ∧ z ≤ 18446744073709551615) (i : Nat) : 0 ≤ l.getD i 0 ∧ l.getD i 0 ≤ 18446744073709551615 := by
  by_cases hi : i < l.length
  · have := h (l.getD i 0) (by simp [List.getD, hi])
    exact this
  · simp [List.getD, hi]

/-! New -/
theorem infoW : (Try.prog.info? 83).map (fun i => (i.zero, i.size, i.bytes)) = some (some (.int .u64 0), 1, 8) := by kernel_rfl

set_option maxRecDepth 100000 in
theorem new_yes (n : Int) (w : World) (h0 : 1 ≤ n) (h1 : n ≤ 65536) :
    Calls Try.prog 7 #[.int .i64 n] w fun e w' => e = .returned (.tuple #[.pointer (some ⟨w.heap.size + 1, 0, none⟩), .int .i64 0]) ∧ ArenaAt 65 w' (w.heap.size + 1) w.heap.size (List.replicate n.toNat 0) ∧ w'.heap.size = w.heap.size + 2 ∧ Below w.heap.size w w' := by
  obtain ⟨i0, hi, hz0, hz1, hz2⟩ := info_parts infoW
  obtain ⟨n, rfl⟩ : ∃ k : Nat, n = k := ⟨n.toNat, by omega⟩
  have hmk := fun W => make_row (P := Try.prog) 63 83 i0 (.int .u64 0) Try.underlying63 hi hz0 .i64 .i64 n n (Nat.le_refl _) (by rw [hz2]; omega) (by omega) W
  simp only [hz1, Nat.mul_one] at hmk
  go_enter Try.func7, Try.ntmps7
  go_wp2
  go_ret2
  refine ⟨rfl, ⟨?_, ?_, by simp; omega, fun z hz => ?_⟩, by simp, ((Below.refl _ _).alloc (Nat.le_refl _) _).alloc (by simp) _⟩
  · have := BlkIs.new (w.alloc (.cells (madeCells #[Value.int .u64 0] n) 83)) #[.slice (some ⟨w.heap.size, 0, none⟩) n n] 65
    simpa using this
  · have h := BlkIs.new w (madeCells #[Value.int .u64 0] n) 83
    rw [Int.toNat_natCast, ← made_ints]
    exact h.alloc _
  · have := List.eq_of_mem_replicate hz
    omega

theorem new_no (n : Int) (w : World) (h : n < 1 ∨ 65536 < n) :
    Calls Try.prog 7 #[.int .i64 n] w fun e w' => e = .returned (.tuple #[.pointer none, .int .i64 1]) ∧ w = w' := by
  rcases h with h | h
  · go_enter Try.func7, Try.ntmps7
    go_wp2
    go_ret2
    exact ⟨rfl, rfl⟩
  · have h' : ¬ n < 1 := by omega
    go_enter Try.func7, Try.ntmps7
    go_wp2
    go_ret2
    exact ⟨rfl, rfl⟩

/-! Len, has, Load -/
theorem len_any {p b : Nat} {l : List Int} (w : World) (h : ArenaAt 65 w p b l) :
    Calls Try.prog 44 #[.pointer (some ⟨p, 0, none⟩)] w fun e w' => e = .returned (.int .i64 (l.length : Nat)) ∧ w = w' := by
  have hc := h.slot
  have hl := h.len
  clear h
  go_enter Try.func44, Try.ntmps44
  go_wp2
  go_ret
  exact ⟨rfl, rfl⟩

theorem has_any {p b : Nat} {l : List Int} (a n : Int) (w : World) (h : ArenaAt 65 w p b l) (a0 : -9223372036854775808 ≤ a) (a1 : a ≤ 9223372036854775807) (n0 : -9223372036854775808 ≤ n) (n1 : n ≤ 9223372036854775807) :
    Calls Try.prog 66 #[.pointer (some ⟨p, 0, none⟩), .int .i64 a, .int .i64 n] w fun e w' => e = .returned (.bool (fitsB l.length a n)) ∧ w = w' := by
  have hl := h.len
  by_cases h1 : 0 ≤ a
  · by_cases h2 : 0 ≤ n
    · by_cases h3 : a + n ≤ (l.length : Int)
      · have hd : decide (a ≤ (l.length : Int) - n) = true := by simp; omega
        rw [fitsB_of h1 h2 h3]
        go_enter Try.func66, Try.ntmps66
        go_wp2_with ((with_reducible refine (len_any _ h).mono ?_); rintro e w' ⟨rfl, rfl⟩)
        go_ret
        exact ⟨rfl, rfl⟩
      · have hd : decide (a ≤ (l.length : Int) - n) = false := by simp; omega
        rw [fitsB_not (by omega)]
        go_enter Try.func66, Try.ntmps66
        go_wp2_with ((with_reducible refine (len_any _ h).mono ?_); rintro e w' ⟨rfl, rfl⟩)
        go_ret
        exact ⟨rfl, rfl⟩
    · have hd : decide (0 ≤ n) = false := by simp; omega
      rw [fitsB_not (by omega)]
      go_enter Try.func66, Try.ntmps66
      go_wp2
      go_ret
      exact ⟨rfl, rfl⟩
  · have hd : decide (0 ≤ a) = false := by simp; omega
    rw [fitsB_not (by omega)]
    go_enter Try.func66, Try.ntmps66
    go_wp2
    go_ret
    exact ⟨rfl, rfl⟩

theorem load_any {p b : Nat} {l : List Int} (a : Int) (w : World) (h : ArenaAt 65 w p b l) (a0 : -9223372036854775808 ≤ a) (a1 : a ≤ 9223372036854775807) :
    Calls Try.prog 40 #[.pointer (some ⟨p, 0, none⟩), .int .i64 a] w fun e w' => e = .returned (.tuple #[.int .u64 (loadV l a), .int .i64 (errV l.length a 1)]) ∧ w = w' := by
  have hc := h.slot
  have hl := h.len
  by_cases hf : fitsB l.length a 1 = true
  · obtain ⟨h1, _, h3⟩ := fitsB_yes hf
    have hv : loadV l a = l.getD a.toNat 0 := by unfold loadV; rw [if_pos hf]
    have he : errV l.length a 1 = 0 := by unfold errV; rw [if_pos hf]
    rw [hv, he]
    obtain ⟨k, rfl⟩ : ∃ k : Nat, a = k := ⟨a.toNat, by omega⟩
    rw [Int.toNat_natCast]
    have hx := h.cell (i := k) (by omega)
    clear hv he
    go_enter Try.func40, Try.ntmps40
    go_wp2_with ((with_reducible refine (has_any _ _ _ h a0 a1 (by decide) (by decide)).mono ?_); rintro e w' ⟨rfl, rfl⟩)
    go_ret2
    exact ⟨rfl, rfl⟩
  · have hf : fitsB l.length a 1 = false := by simpa using hf
    have hv : loadV l a = 0 := by unfold loadV; rw [hf]; rfl
    have he : errV l.length a 1 = 20 := by unfold errV; rw [hf]; rfl
    rw [hv, he]
    clear hv he
    go_enter Try.func40, Try.ntmps40
    go_wp2_with ((with_reducible refine (has_any _ _ _ h a0 a1 (by decide) (by decide)).mono ?_); rintro e w' ⟨rfl, rfl⟩)
    go_ret2
    exact ⟨rfl, rfl⟩

/-! Fill, Store -/
theorem fill_any {p b : Nat} {l : List Int} (a n x : Int) (w : World) (h : ArenaAt 65 w p b l) (a0 : -9223372036854775808 ≤ a) (a1 : a ≤ 9223372036854775807) (n0 : -9223372036854775808 ≤ n) (n1 : n ≤ 9223372036854775807) (hx : 0 ≤ x ∧ x ≤ 18446744073709551615) :
    Calls Try.prog 52 #[.pointer (some ⟨p, 0, none⟩), .int .i64 a, .int .i64 n, .int .u64 x] w fun e w' => e = .returned (.int .i64 (errV l.length a n)) ∧ ArenaAt 65 w' p b (fillV l a n x) ∧ Chg (· = b) w w' := by
  have hl := h.len
  by_cases hf : fitsB l.length a n = true
  · obtain ⟨h1, h2, h3⟩ := fitsB_yes hf
    have hv : fillV l a n x = layL l a.toNat (fun _ => x) n.toNat := by unfold fillV; rw [if_pos hf]
    have he : errV l.length a n = 0 := by unfold errV; rw [if_pos hf]
    rw [hv, he]
    obtain ⟨a, rfl⟩ : ∃ k : Nat, a = k := ⟨a.toNat, by omega⟩
    obtain ⟨n, rfl⟩ : ∃ k : Nat, n = k := ⟨n.toNat, by omega⟩
    rw [Int.toNat_natCast, Int.toNat_natCast]
    clear hv he
    go_enter Try.func52, Try.ntmps52
    go_wp2_with ((with_reducible refine (has_any _ _ _ h a0 a1 n0 n1).mono ?_); rintro e w' ⟨rfl, rfl⟩)
    go_loopw [16] (fun i wr => ∃ k : Nat, k ≤ n ∧ i = .int .i64 k ∧ ArenaAt 65 wr p b (layL l a (fun _ => x) k) ∧ Chg (· = b) w wr) (fun i _ => n - (intOf i).toNat)
    case atStart => exact ⟨0, Nat.zero_le _, rfl, h, Chg.refl _ _⟩
    case round =>
      obtain ⟨k, hk, rfl, ha, hch⟩ := hrel
      have hs := ha.slot
      have hfr := ha.row.free (a + k)
      rw [layL_length] at hs
      by_cases hlt : k < n
      · have hx' := ha.cell (i := a + k) (by rw [layL_length]; omega)
        have hset := ha.set (by decide) (i := a + k) hx
        have hch' := hch.setCell (p := ⟨b, a + k, none⟩) (.inl rfl) (.int .u64 x)
        clear ha
        go_wp2
        go_roundw
        case rel => exact ⟨k + 1, by omega, by go_num, hset, hch'⟩
        case measure => simp [intOf]; omega
      · obtain rfl : k = n := by omega
        go_wp2
        go_ret
        exact ⟨rfl, ha, hch⟩
  · have hf : fitsB l.length a n = false := by simpa using hf
    have hv : fillV l a n x = l := by unfold fillV; rw [hf]; rfl
    have he : errV l.length a n = 20 := by unfold errV; rw [hf]; rfl
    rw [hv, he]
    clear hv he
    go_enter Try.func52, Try.ntmps52
    go_wp2_with ((with_reducible refine (has_any _ _ _ h a0 a1 n0 n1).mono ?_); rintro e w' ⟨rfl, rfl⟩)
    go_ret
    exact ⟨rfl, h, Chg.refl _ _⟩

theorem store_any {p b : Nat} {l : List Int} (a x : Int) (w : World) (h : ArenaAt 65 w p b l) (a0 : -9223372036854775808 ≤ a) (a1 : a ≤ 9223372036854775807) (hx : 0 ≤ x ∧ x ≤ 18446744073709551615) :
    Calls Try.prog 39 #[.pointer (some ⟨p, 0, none⟩), .int .i64 a, .int .u64 x] w fun e w' => e = .returned (.int .i64 (errV l.length a 1)) ∧ ArenaAt 65 w' p b (fillV l a 1 x) ∧ Chg (· = b) w w' := by
  go_enter Try.func39, Try.ntmps39
  go_wp2_with ((with_reducible refine (fill_any _ _ _ _ h a0 a1 (by decide) (by decide) hx).mono ?_); rintro e w' ⟨rfl, ha, hch⟩)
  go_ret
  exact ⟨rfl, ha, hch⟩

end Go.Proofs.Ytceedbkacbaaiaa
