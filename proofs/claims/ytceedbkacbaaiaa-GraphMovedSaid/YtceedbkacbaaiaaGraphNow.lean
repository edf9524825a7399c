/- What layer 9's law GraphMoved calls besides: Copy of what is gone already, At of nothing, where a place is now. Conditions as said there. -/
import Derived.Test.YtceedbkacbaaiaaGraphMove
namespace Go.Proofs.Ytceedbkacbaaiaa
open Go.ChangeShapes Go.WideShapes Go.ChangeAt Go.RowKit

set_option linter.unusedSimpArgs false
set_option linter.unusedVariables false

section
variable {P b : Nat} {l : List Int}
theorem at_zero (w : World) (h : ArenaAt 65 w P b l) (hl : 0 < l.length) (h0 : l.getD 0 0 = 0) :
    Calls Try.prog 18 #[.pointer (some ⟨P, 0, none⟩), .int .i64 0] w fun e w' => e = .returned (.tuple #[.int .i64 0, .bool false]) ∧ Below w.heap.size w w' := by
  have HL : Calls Try.prog 40 #[.pointer (some ⟨P, 0, none⟩), .int .i64 0] w _ := load_there 0 w h hl
  rw [h0] at HL
  have HW := where_any 0 (by omega)
  rw [show isGone 0 = false from by decide] at HW
  clear h
  go_enter Try.func18, Try.ntmps18
  go_wp2_with fail
  refine HL.mono ?_
  rintro e x ⟨rfl, rfl⟩
  go_wp2_with fail
  refine (HW _).mono ?_
  rintro e y ⟨rfl, hb⟩
  go_wp2
  go_ret2
  exact ⟨rfl, hb⟩

set_option maxHeartbeats 2000000 in
theorem copy_gone (a n sb sz st : Nat) (w : World) (h : ArenaAt 65 w P b l) (ha : a < l.length) (h0 : 1 ≤ n) (h1 : n ≤ 131072) (hg : l.getD a 0 = (2 + n * 4 : Nat)) :
    Calls Try.prog 16 #[.pointer (some ⟨P, 0, none⟩), .int .i64 a, spV sb sz st] w fun e w' => e = .returned (.tuple #[spV sb sz st, .int .i64 n, .int .i64 0]) ∧ Below w.heap.size w w' := by
  have hlt := h.lt
  have HA := fun x (hx : ArenaAt 65 x P b l) => at_gone a n x hx ha h0 h1 hg
  clear hg
  obtain ⟨k1, k2, hB⟩ := two_new w #[.int .i64 sb, .int .i64 sz, .int .i64 st] #[.int .i64 0, .int .i64 0, .int .i64 0] 41 41
  go_enter Try.func16, Try.ntmps16
  go_wp2_with fail
  generalize (w.alloc (.cells #[.int .i64 sb, .int .i64 sz, .int .i64 st] 41)).alloc (.cells #[.int .i64 0, .int .i64 0, .int .i64 0] 41) = x at *
  refine (HA _ (h.below hB hlt.1 hlt.2)).mono ?_
  rintro e y ⟨rfl, hb⟩
  replace k1 := k1.more hb (Nat.le_refl _)
  replace k2 := k2.more hb (Nat.le_refl _)
  replace hB := hB.trans (hb.mono hB.size)
  clear hb x HA
  obtain ⟨⟨c0, c1, c2⟩, f0, f1, f2⟩ := blk3 k1
  obtain ⟨⟨d0, d1, d2⟩, g0, g1, g2⟩ := blk3 k2
  go_wp2
  have hE := ((k2.set 0 (.int .i64 sb)).set 1 (.int .i64 sz)).set 2 (.int .i64 st)
  obtain ⟨⟨e0, e1, e2⟩, _⟩ := blk3 hE
  refine bodyPost_ret (v := .tuple #[spV sb sz st, .int .i64 n, .int .i64 0]) ?_ rfl ⟨rfl, ?_⟩
  · simp [results, Try.f16, go_sem, e0, e1, e2]
  · exact ((hB.setCell (p := ⟨w.heap.size + 1, 0, none⟩) (by simp) (.int .i64 sb)).setCell (p := ⟨w.heap.size + 1, 1, none⟩) (by simp) (.int .i64 sz)).setCell (p := ⟨w.heap.size + 1, 2, none⟩) (by simp) (.int .i64 st)

/-- Where a place is now: 0 is nowhere. -/
theorem now_any (ab : Nat) (x : Int) (n : Nat) (w : World) (h : ArenaAt 65 w P b l) (hk : BlkIs w ab #[.pointer (some ⟨P, 0, none⟩)] 25) (hl : 0 < l.length) (h0 : l.getD 0 0 = 0)
    (hx : (x = 0 ∧ n = 0) ∨ ∃ a : Nat, x = (a : Int) ∧ a < l.length ∧ 1 ≤ n ∧ n ≤ 131072 ∧ l.getD a 0 = (2 + n * 4 : Nat)) :
    Calls Try.prog 17 #[.int .i64 x, .pointer (some ⟨ab, 0, none⟩)] w fun e w' => e = .returned (.int .i64 n) ∧ Below w.heap.size w w' := by
  have hc : w.cell? ⟨ab, 0, none⟩ = some (.pointer (some ⟨P, 0, none⟩)) := hk.cell 0
  have M1 : ∃ g : Bool, Calls Try.prog 18 #[.pointer (some ⟨P, 0, none⟩), .int .i64 x] w fun e w' => e = .returned (.tuple #[.int .i64 n, .bool g]) ∧ Below w.heap.size w w' := by
    rcases hx with ⟨rfl, rfl⟩ | ⟨a, rfl, ha, n0, n1, hg⟩
    · exact ⟨false, at_zero w h hl h0⟩
    · exact ⟨true, at_gone a n w h ha n0 n1 hg⟩
  obtain ⟨g, M1⟩ := M1
  clear h hx h0 hk
  go_enter Try.func17, Try.ntmps17
  go_wp2_with fail
  refine M1.mono ?_
  rintro e y ⟨rfl, hb⟩
  go_wp2
  go_ret
  exact ⟨rfl, hb⟩
end

end Go.Proofs.Ytceedbkacbaaiaa
