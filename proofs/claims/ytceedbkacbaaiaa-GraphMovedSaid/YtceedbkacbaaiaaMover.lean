/- Package mover: At, sizeAt, Copy and taken at a place where there is an object, or where one is gone from, are as the document says. Condition: there is one (ObjIs; of At and taken also: one that is gone). -/
import Derived.Test.YtceedbkacbaaiaaObject
import Derived.Test.YtceedbkacbaaiaaHeadMore
import Derived.Test.YtceedbkacbaaiaaArenaMove
import Derived.Test.YtceedbkacbaaiaaSpace
namespace Go.Proofs.Ytceedbkacbaaiaa
open Go.ChangeShapes Go.WideShapes Go.ChangeAt Go.RowKit

set_option linter.unusedSimpArgs false
set_option linter.unusedVariables false

theorem not_gone {p d : Nat} {wk fn fr : Bool} : isGone (headN p d wk fn fr) = false := by
  unfold isGone
  have h : ∀ m : Nat, goneN m % 2 = 0 := fun m => by unfold goneN; split <;> omega
  have h1 : headN p d wk fn fr % 2 = 1 := by unfold headN; omega
  have h2 := h (headN p d wk fn fr / 4)
  rw [decide_eq_false (show ¬ goneN (headN p d wk fn fr / 4) = headN p d wk fn fr from fun e => by rw [e] at h2; omega), Bool.and_false]
theorem is_gone {n : Nat} (h0 : 1 ≤ n) (h1 : n ≤ 131072) : isGone (2 + n * 4) = true ∧ (2 + n * 4) / 4 = n := by
  have e : (2 + n * 4) / 4 = n := by omega
  have m : mayGo n = true := decide_eq_true ⟨h0, h1⟩
  refine ⟨?_, e⟩
  unfold isGone
  rw [e, m, decide_eq_true (show goneN n = 2 + n * 4 by unfold goneN; rw [if_pos m])]
  rfl

/-- A block that is known whole stays so, as long as it is not the arena's. -/
theorem BlkIs.more {w x : World} {k n : Nat} {cs : Array Value} {ty : TypeId} (h : BlkIs w k cs ty) (g : Below n w x) (hn : w.heap.size ≤ n) : BlkIs x k cs ty := h.below g (Nat.lt_of_lt_of_le h.lt hn)
theorem two_new (w : World) (a c : Array Value) (ta tc : TypeId) :
    BlkIs ((w.alloc (.cells a ta)).alloc (.cells c tc)) w.heap.size a ta ∧ BlkIs ((w.alloc (.cells a ta)).alloc (.cells c tc)) (w.heap.size + 1) c tc ∧ Below w.heap.size w ((w.alloc (.cells a ta)).alloc (.cells c tc)) := by
  have s1 : (w.alloc (.cells a ta)).heap.size = w.heap.size + 1 := by simp
  have h1 := BlkIs.new (w.alloc (.cells a ta)) c tc
  rw [s1] at h1
  exact ⟨(BlkIs.new w a ta).alloc _, h1, ((Below.refl _ w).alloc (Nat.le_refl _) _).alloc (by omega) _⟩

section
variable {P b : Nat} {l : List Int} {p d : Nat} {wk fn fr : Bool}

theorem at_obj (a : Nat) (w : World) (h : ArenaAt 65 w P b l) (o : ObjIs l a p d wk fn fr) :
    Calls Try.prog 18 #[.pointer (some ⟨P, 0, none⟩), .int .i64 a] w fun e w' => e = .returned (.tuple #[.int .i64 0, .bool false]) ∧ Below w.heap.size w w' := by
  have hlo := headN_lt (wk := wk) (fn := fn) (fr := fr) o.ptrs o.data
  have HL := load_there a w h (by have := o.room; omega)
  rw [o.head] at HL
  have HW := where_any (headN p d wk fn fr) (by omega)
  rw [not_gone] at HW
  generalize headN p d wk fn fr = v at *
  clear h o
  go_enter Try.func18, Try.ntmps18
  go_wp2_with fail
  refine HL.mono ?_
  rintro e x ⟨rfl, rfl⟩
  go_wp2_with fail
  refine (HW _).mono ?_
  rintro e y ⟨rfl, hb⟩
  go_wp2
  go_ret2
  exact ⟨rfl, hb⟩

theorem at_gone (a n : Nat) (w : World) (h : ArenaAt 65 w P b l) (ha : a < l.length) (h0 : 1 ≤ n) (h1 : n ≤ 131072) (hg : l.getD a 0 = (2 + n * 4 : Nat)) :
    Calls Try.prog 18 #[.pointer (some ⟨P, 0, none⟩), .int .i64 a] w fun e w' => e = .returned (.tuple #[.int .i64 n, .bool true]) ∧ Below w.heap.size w w' := by
  have HL := load_there a w h ha
  rw [hg] at HL
  have HW := where_any (2 + n * 4) (by omega)
  rw [(is_gone h0 h1).1, (is_gone h0 h1).2, if_pos rfl] at HW
  generalize 2 + n * 4 = v at *
  clear h
  go_enter Try.func18, Try.ntmps18
  go_wp2_with fail
  refine HL.mono ?_
  rintro e x ⟨rfl, rfl⟩
  go_wp2_with fail
  refine (HW _).mono ?_
  rintro e y ⟨rfl, hb⟩
  go_wp2
  go_ret2
  exact ⟨rfl, hb⟩

theorem size_at (a : Nat) (w : World) (h : ArenaAt 65 w P b l) (o : ObjIs l a p d wk fn fr) :
    Calls Try.prog 36 #[.pointer (some ⟨P, 0, none⟩), .int .i64 a] w fun e w' => e = .returned (.tuple #[.int .i64 (3 + p + d : Nat), .int .i64 0]) ∧ Below w.heap.size w w' := by
  have HS := shape_at a w h o
  have HZ := size_yes p d wk fn o.right o.ptrs o.data
  have e3 : (3 + (p : Int) + (d : Int)) = ((3 + p + d : Nat) : Int) := by omega
  rw [e3] at HZ
  generalize 3 + p + d = s at *
  clear h o e3
  go_enter Try.func36, Try.ntmps36
  go_wp2_with fail
  refine HS.mono ?_
  rintro e x ⟨rfl, hb⟩
  have hB := hb.alloc hb.size (.cells #[.int .i64 p, .int .i64 d, .bool wk, .bool fn] 51)
  go_wp2_with fail
  refine (HZ _).mono ?_
  rintro e y ⟨rfl, hb2⟩
  go_wp2
  go_ret2
  exact ⟨rfl, hB.trans (hb2.mono hB.size)⟩

/-- What Copy lays. -/
def copyL (l : List Int) (a t n : Nat) : List Int := (layL l t (fun j => l.getD (a + j) 0) n).set a ((2 + t * 4 : Nat) : Int)
theorem copyL_length (l : List Int) (a t n : Nat) : (copyL l a t n).length = l.length := by unfold copyL; simp
theorem copyL_at {l : List Int} {a t n j : Nat} (h : j < l.length) : (copyL l a t n).getD j 0 = if j = a then ((2 + t * 4 : Nat) : Int) else if t ≤ j ∧ j < t + n then l.getD (a + (j - t)) 0 else l.getD j 0 := by
  unfold copyL
  rw [set_at' (by rw [layL_length]; exact h), layL_at _ _ _ _ _ h]

set_option maxHeartbeats 2000000 in
theorem copy_yes (a sb sz st : Nat) (w : World) (h : ArenaAt 65 w P b l) (o : ObjIs l a p d wk fn fr) (hs : SpOk sb sz st) (h1 : 1 ≤ st) (hr : st + Cls.rd (3 + p + d) ≤ sb + sz) (hl : st + (3 + p + d) ≤ l.length) :
    Calls Try.prog 16 #[.pointer (some ⟨P, 0, none⟩), .int .i64 a, spV sb sz st] w fun e w' => e = .returned (.tuple #[spV sb sz (st + Cls.rd (3 + p + d)), .int .i64 st, .int .i64 0]) ∧
      ArenaAt 65 w' P b (copyL l a st (3 + p + d)) ∧ Chg (· = b) w w' := by
  have hlt := h.lt
  have hll := h.len
  have o1 := o.ptrs
  have o2 := o.data
  have o3 := o.room
  have hst : st ≤ 65536 := by omega
  have HT := take_yes sb sz st (3 + p + d) hs (by omega) (by omega) hr
  have HG := gone_any st (by omega)
  rw [show goneN st = 2 + st * 4 from by simp [goneN, mayGo]; omega, show mayGo st = true from decide_eq_true ⟨h1, by omega⟩] at HG
  have HM := fun x (hx : ArenaAt 65 x P b l) => move_yes a st (3 + p + d) x hx (by omega) hl (by omega)
  have HA := fun x (hx : ArenaAt 65 x P b l) => at_obj a x hx o
  have HS := fun x (hx : ArenaAt 65 x P b l) => size_at a x hx o
  unfold copyL
  have hml : (layL l st (fun j => l.getD (a + j) 0) (3 + p + d)).length = l.length := layL_length ..
  obtain ⟨m, hM⟩ : ∃ m, layL l st (fun j => l.getD (a + j) 0) (3 + p + d) = m := ⟨_, rfl⟩
  simp only [hM] at HM hml ⊢
  obtain ⟨u, hu⟩ : ∃ u, st + Cls.rd (3 + p + d) = u := ⟨_, rfl⟩
  rw [hu] at HT ⊢
  have hax : a < m.length := by omega
  generalize 3 + p + d = s at *
  have hv : (0 : Int) ≤ ((2 + st * 4 : Nat) : Int) ∧ ((2 + st * 4 : Nat) : Int) ≤ 18446744073709551615 := by omega
  generalize 2 + st * 4 = v at *
  clear o hM hu hr hs o1 o2 o3 hl
  obtain ⟨k1, k2, hB⟩ := two_new w #[.int .i64 sb, .int .i64 sz, .int .i64 st] #[.int .i64 0, .int .i64 0, .int .i64 0] 41 41
  have nb1 : ¬ w.heap.size = b := by omega
  have nb2 : ¬ w.heap.size + 1 = b := by omega
  go_enter Try.func16, Try.ntmps16
  go_wp2_with fail
  generalize (w.alloc (.cells #[.int .i64 sb, .int .i64 sz, .int .i64 st] 41)).alloc (.cells #[.int .i64 0, .int .i64 0, .int .i64 0] 41) = x at *
  refine (HA _ (h.below hB hlt.1 hlt.2)).mono ?_
  rintro e y ⟨rfl, hb⟩
  replace k1 := k1.more hb (Nat.le_refl _)
  replace k2 := k2.more hb (Nat.le_refl _)
  replace hB := hB.trans (hb.mono hB.size)
  clear hb x
  go_wp2_with fail
  refine (HS _ (h.below hB hlt.1 hlt.2)).mono ?_
  rintro e x ⟨rfl, hb⟩
  replace k1 := k1.more hb (Nat.le_refl _)
  replace k2 := k2.more hb (Nat.le_refl _)
  replace hB := hB.trans (hb.mono hB.size)
  clear hb y
  obtain ⟨⟨c0, c1, c2⟩, f0, f1, f2⟩ := blk3 k1
  go_wp2_with fail
  clear c0 c1 c2 f0 f1 f2
  refine (HT _).mono ?_
  rintro e y ⟨rfl, hb⟩
  replace k1 := k1.more hb (Nat.le_refl _)
  replace k2 := k2.more hb (Nat.le_refl _)
  replace hB := hB.trans (hb.mono hB.size)
  clear hb x
  have k3 := BlkIs.new y #[.int .i64 sb, .int .i64 sz, .int .i64 u] 41
  have n3 : ¬ w.heap.size + 1 = y.heap.size := by have := k2.lt; omega
  have nb3 : ¬ y.heap.size = b := by have := k2.lt; omega
  replace k1 := k1.alloc (.cells #[.int .i64 sb, .int .i64 sz, .int .i64 u] 41)
  replace k2 := k2.alloc (.cells #[.int .i64 sb, .int .i64 sz, .int .i64 u] 41)
  replace hB := hB.alloc hB.size (.cells #[.int .i64 sb, .int .i64 sz, .int .i64 u] 41)
  have n0 : ((st : Int) == 0) = false := by simp; omega
  go_wp2_with fail
  generalize y.heap.size = k at *
  generalize y.alloc (.cells #[.int .i64 sb, .int .i64 sz, .int .i64 u] 41) = x at *
  refine (HM _ (h.below hB hlt.1 hlt.2)).mono ?_
  rintro e y2 ⟨rfl, hA, hc⟩
  replace k1 := k1.chg hc nb1
  replace k2 := k2.chg hc nb2
  replace k3 := k3.chg hc nb3
  have hC := (Chg.of_below (S := (· = b)) hB (Nat.le_refl _)).trans hc
  clear hc hB h HM HA HS HT x
  go_wp2_with fail
  refine (HG _).mono ?_
  rintro e y3 ⟨rfl, hb⟩
  replace k1 := k1.more hb (Nat.le_refl _)
  replace k2 := k2.more hb (Nat.le_refl _)
  replace k3 := k3.more hb (Nat.le_refl _)
  replace hA := hA.below hb hA.lt.1 hA.lt.2
  replace hC := hC.trans (Chg.of_below hb (Nat.le_refl _))
  clear hb y2 HG
  have HU := store_there a (v : Int) _ hA hax hv
  go_wp2_with fail
  refine HU.mono ?_
  rintro e y4 ⟨rfl, hA2, hc⟩
  replace k2 := k2.chg hc nb2
  replace k3 := k3.chg hc nb3
  replace hC := hC.trans hc
  clear hc HU hA k1
  obtain ⟨⟨c0, c1, c2⟩, f0, f1, f2⟩ := blk3 k2
  obtain ⟨⟨d0, d1, d2⟩, g0, g1, g2⟩ := blk3 k3
  have l2 := k2.lt
  go_wp2
  have hE := ((k2.set 0 (.int .i64 sb)).set 1 (.int .i64 sz)).set 2 (.int .i64 u)
  obtain ⟨⟨e0, e1, e2⟩, _⟩ := blk3 hE
  refine bodyPost_ret (v := .tuple #[spV sb sz u, .int .i64 st, .int .i64 0]) ?_ rfl ⟨rfl, ?_, ?_⟩
  · simp [results, Try.f16, go_sem, e0, e1, e2]
  · exact hA2.chg (((Chg.refl (· = w.heap.size + 1) y4).setCell (p := ⟨w.heap.size + 1, 0, none⟩) (.inl rfl) (.int .i64 sb)).setCell (p := ⟨w.heap.size + 1, 1, none⟩) (.inl rfl) (.int .i64 sz) |>.setCell (p := ⟨w.heap.size + 1, 2, none⟩) (.inl rfl) (.int .i64 u)) (by omega) (by omega)
  · exact ((hC.setCell (p := ⟨w.heap.size + 1, 0, none⟩) (.inr (by simp)) (.int .i64 sb)).setCell (p := ⟨w.heap.size + 1, 1, none⟩) (.inr (by simp)) (.int .i64 sz)).setCell (p := ⟨w.heap.size + 1, 2, none⟩) (.inr (by simp)) (.int .i64 u)

set_option maxHeartbeats 2000000 in
theorem copy_room (a sb sz st : Nat) (w : World) (h : ArenaAt 65 w P b l) (o : ObjIs l a p d wk fn fr) (hs : SpOk sb sz st) (hr : sb + sz < st + Cls.rd (3 + p + d)) :
    Calls Try.prog 16 #[.pointer (some ⟨P, 0, none⟩), .int .i64 a, spV sb sz st] w fun e w' => e = .returned (.tuple #[spV sb sz st, .int .i64 0, .int .i64 80]) ∧ Below w.heap.size w w' := by
  have hlt := h.lt
  have o1 := o.ptrs
  have o2 := o.data
  have HT := take_full sb sz st (3 + p + d) hs (by omega) (by omega) hr
  have HA := fun x (hx : ArenaAt 65 x P b l) => at_obj a x hx o
  have HS := fun x (hx : ArenaAt 65 x P b l) => size_at a x hx o
  generalize 3 + p + d = s at *
  clear o hr hs o1 o2
  obtain ⟨k1, k2, hB⟩ := two_new w #[.int .i64 sb, .int .i64 sz, .int .i64 st] #[.int .i64 0, .int .i64 0, .int .i64 0] 41 41
  go_enter Try.func16, Try.ntmps16
  go_wp2_with fail
  generalize (w.alloc (.cells #[.int .i64 sb, .int .i64 sz, .int .i64 st] 41)).alloc (.cells #[.int .i64 0, .int .i64 0, .int .i64 0] 41) = x at *
  refine (HA _ (h.below hB hlt.1 hlt.2)).mono ?_
  rintro e y ⟨rfl, hb⟩
  replace k1 := k1.more hb (Nat.le_refl _)
  replace k2 := k2.more hb (Nat.le_refl _)
  replace hB := hB.trans (hb.mono hB.size)
  clear hb x
  go_wp2_with fail
  refine (HS _ (h.below hB hlt.1 hlt.2)).mono ?_
  rintro e x ⟨rfl, hb⟩
  replace k1 := k1.more hb (Nat.le_refl _)
  replace k2 := k2.more hb (Nat.le_refl _)
  replace hB := hB.trans (hb.mono hB.size)
  clear hb y
  obtain ⟨⟨c0, c1, c2⟩, f0, f1, f2⟩ := blk3 k1
  go_wp2_with fail
  clear c0 c1 c2 f0 f1 f2
  refine (HT _).mono ?_
  rintro e y ⟨rfl, hb⟩
  replace k1 := k1.more hb (Nat.le_refl _)
  replace k2 := k2.more hb (Nat.le_refl _)
  replace hB := hB.trans (hb.mono hB.size)
  clear hb x
  have l1 := k1.lt
  have l2 := k2.lt
  obtain ⟨⟨c0, c1, c2⟩, f0, f1, f2⟩ := blk3 k1
  obtain ⟨⟨d0, d1, d2⟩, g0, g1, g2⟩ := blk3 k2
  go_wp2
  have hE := (((k2.set 0 (.int .i64 sb)).set 1 (.int .i64 sz)).set 2 (.int .i64 st)).alloc (.cells #[.int .i64 sb, .int .i64 sz, .int .i64 st] 41)
  obtain ⟨⟨e0, e1, e2⟩, _⟩ := blk3 hE
  refine bodyPost_ret (v := .tuple #[spV sb sz st, .int .i64 0, .int .i64 80]) ?_ rfl ⟨rfl, ?_⟩
  · simp [results, Try.f16, go_sem, e0, e1, e2]
  · exact (((hB.setCell (p := ⟨w.heap.size + 1, 0, none⟩) (by simp) (.int .i64 sb)).setCell (p := ⟨w.heap.size + 1, 1, none⟩) (by simp) (.int .i64 sz)).setCell (p := ⟨w.heap.size + 1, 2, none⟩) (by simp) (.int .i64 st)).alloc (by have := hB.size; simp [World.setCell]; omega) _

end

end Go.Proofs.Ytceedbkacbaaiaa
