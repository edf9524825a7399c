/- Put together: Package mover: At, sizeAt, Copy and taken at a place where there is an object, or where one is gone from, are as the document says. Condition: there is one (ObjIs; of At and taken also: one that is gone). Objects that stand one behind the other: where the k-th begins, behind the words that those ahead of it took. Plain; no condition. What the rounds of a range over a function may not touch: what lay below n₁, but for S. Plain; no condition. A row of numbers that the call itself appends to. Plain; no condition. Package mover: the iterator 'objects' tells the places of objects that stand one behind the other, and Walk hands them back in new memory. Condition: the space is right, its words are those of these objects, and none of them is gone. The laws of layer 6: their pick, and the right shape that raw numbers speak of. No condition. The pick of layer 8's laws: which of n things a raw number speaks of. Condition: n is above 0. What a law's arguments are, opened: arrays of ints by value, slices of ints. Plain; no condition. What the laws of layer 8 have in common: two lists compared, an object's words, their look at the chapter's example. No condition but that lists are there to be read. What a block that is known whole gives a walk. Plain; no condition. Package mover: Strong; rows and lists that are read. Conditions: there is an object; its pointers are ints. What a heap holds, plainly: its words, the places of the objects of both spaces, what it owes, its lists; what is done to it, as functions. No condition. A row of the call's own is appended to, from a list that is read, nil or not. Plain; no condition. What one comes to from roots, plainly: lists of places, one behind the other, each once. No condition. slices.BinarySearch over ints that rise: whether a number is one of them. Condition: they rise, and are read. Package mover: At of nothing, Copy of what is gone already. Conditions as said there. A heap in memory: its struct's sixteen cells, its arena, its four rows; which blocks are its own. Plain; no condition. Package heap: what only reads: old, has, Here, may, scanned, Room, Moving, taken. Condition: the heap is one, and right where said. When a heap is right, and that it stays so when an object goes. Plain; no condition. A heap stays right when an object goes. Plain; no condition. A heap stays right when an object goes: the whole. Plain; no condition. Package heap: taken, laid. Condition: the heap is one; its space has an index of two. -/
import Derived.Test.YtoohnnkhklifdaaBase1
import Derived.RangeFuncNested
import Derived.RangeFuncBound
import Derived.RangeFuncCalls
import Derived.RangeFuncLeaves
import Derived.Below
import Derived.Maps.AppendAt
import Derived.OwnWalk
import Derived.Shelf.Abstract
import Derived.Shelf.RegionOpen
import Derived.OwnWalkIn
import Derived.TacticsInMore
import Derived.LoopNIn
import Derived.LoopIn
import Derived.Deep.DeepAppendWide
import Derived.WalkSmall
import Derived.OpenShut
import Derived.Test.YtoohnnkhklifdaaRows
import Derived.WalkKit
import Derived.ProofKit
import Derived.ShutString
import Derived.ChangeOld
import Derived.Deep.CutRange
import Derived.Deep.RegionHeld3
import Derived.Deep.AppendSrc
import Derived.BigRegion
namespace Go.Proofs.Ytoohnnkhklifdaa
open Go.ChangeShapes Go.WideShapes Go.ChangeAt Go.RowKit

set_option linter.unusedSimpArgs false
set_option linter.unusedVariables false

theorem not_gone {p d : Nat} {wk fn fr : Bool} : isGone (headN p d wk fn fr) = false := by
  unfold isGone
  have h : ∀ m : Nat, goneN m % 2 = 0 := fun m => by unfold goneN; split <;> omega
  have h1 : headN p d wk fn fr % 2 = 1 := by unfold headN; omega
  have h2 := h (headN p d wk fn fr / 4)
  rw [decide_eq_false (show ¬ goneN (headN p d wk fn fr / 4) = headN p d wk fn fr from fun e => by rw [e] at h2; omega), Bool.and_false]
theorem is_gone {n : Nat} (h0 : 1 ≤ n) (h1 : n ≤ 131072) : isGone (2 + n * 4) = true ∧ (2 + n * 4) / 4 = n := by
  have e : (2 + n * 4) / 4 = n := by omega
  have m : mayGo n = true := decide_eq_true ⟨h0, h1⟩
  refine ⟨?_, e⟩
  unfold isGone
  rw [e, m, decide_eq_true (show goneN n = 2 + n * 4 by unfold goneN; rw [if_pos m])]
  rfl

/-- A block that is known whole stays so, as long as it is not the arena's. -/
theorem BlkIs.more {w x : World} {k n : Nat} {cs : Array Value} {ty : TypeId} (h : BlkIs w k cs ty) (g : Below n w x) (hn : w.heap.size ≤ n) : BlkIs x k cs ty := h.below g (Nat.lt_of_lt_of_le h.lt hn)
theorem two_new (w : World) (a c : Array Value) (ta tc : TypeId) :
    BlkIs ((w.alloc (.cells a ta)).alloc (.cells c tc)) w.heap.size a ta ∧ BlkIs ((w.alloc (.cells a ta)).alloc (.cells c tc)) (w.heap.size + 1) c tc ∧ Below w.heap.size w ((w.alloc (.cells a ta)).alloc (.cells c tc)) := by
  have s1 : (w.alloc (.cells a ta)).heap.size = w.heap.size + 1 := by simp
  have h1 := BlkIs.new (w.alloc (.cells a ta)) c tc
  rw [s1] at h1
  exact ⟨(BlkIs.new w a ta).alloc _, h1, ((Below.refl _ w).alloc (Nat.le_refl _) _).alloc (by omega) _⟩

section
variable {P b : Nat} {l : List Int} {p d : Nat} {wk fn fr : Bool}

theorem at_obj (a : Nat) (w : World) (h : ArenaAt 76 w P b l) (o : ObjIs l a p d wk fn fr) :
    Calls Try.prog 46 #[.pointer (some ⟨P, 0, none⟩), .int .i64 a] w fun e w' => e = .returned (.tuple #[.int .i64 0, .bool false]) ∧ Below w.heap.size w w' := by
  have hlo := headN_lt (wk := wk) (fn := fn) (fr := fr) o.ptrs o.data
  have HL := load_there a w h (by have := o.room; omega)
  rw [o.head] at HL
  have HW := where_any (headN p d wk fn fr) (by omega)
  rw [not_gone] at HW
  generalize headN p d wk fn fr = v at *
  clear h o
  go_enter Try.func46, Try.ntmps46
  go_wp2_with fail
  refine HL.mono ?_
  rintro e x ⟨rfl, rfl⟩
  go_wp2_with fail
  refine (HW _).mono ?_
  rintro e y ⟨rfl, hb⟩
  go_wp2
  go_ret2
  exact ⟨rfl, hb⟩

theorem at_gone (a n : Nat) (w : World) (h : ArenaAt 76 w P b l) (ha : a < l.length) (h0 : 1 ≤ n) (h1 : n ≤ 131072) (hg : l.getD a 0 = (2 + n * 4 : Nat)) :
    Calls Try.prog 46 #[.pointer (some ⟨P, 0, none⟩), .int .i64 a] w fun e w' => e = .returned (.tuple #[.int .i64 n, .bool true]) ∧ Below w.heap.size w w' := by
  have HL := load_there a w h ha
  rw [hg] at HL
  have HW := where_any (2 + n * 4) (by omega)
  rw [(is_gone h0 h1).1, (is_gone h0 h1).2, if_pos rfl] at HW
  generalize 2 + n * 4 = v at *
  clear h
  go_enter Try.func46, Try.ntmps46
  go_wp2_with fail
  refine HL.mono ?_
  rintro e x ⟨rfl, rfl⟩
  go_wp2_with fail
  refine (HW _).mono ?_
  rintro e y ⟨rfl, hb⟩
  go_wp2
  go_ret2
  exact ⟨rfl, hb⟩

theorem size_at (a : Nat) (w : World) (h : ArenaAt 76 w P b l) (o : ObjIs l a p d wk fn fr) :
    Calls Try.prog 47 #[.pointer (some ⟨P, 0, none⟩), .int .i64 a] w fun e w' => e = .returned (.tuple #[.int .i64 (3 + p + d : Nat), .int .i64 0]) ∧ Below w.heap.size w w' := by
  have HS := shape_at a w h o
  have HZ := size_yes p d wk fn o.right o.ptrs o.data
  have e3 : (3 + (p : Int) + (d : Int)) = ((3 + p + d : Nat) : Int) := by omega
  rw [e3] at HZ
  generalize 3 + p + d = s at *
  clear h o e3
  go_enter Try.func47, Try.ntmps47
  go_wp2_with fail
  refine HS.mono ?_
  rintro e x ⟨rfl, hb⟩
  have hB := hb.alloc hb.size (.cells #[.int .i64 p, .int .i64 d, .bool wk, .bool fn] 32)
  go_wp2_with fail
  refine (HZ _).mono ?_
  rintro e y ⟨rfl, hb2⟩
  go_wp2
  go_ret2
  exact ⟨rfl, hB.trans (hb2.mono hB.size)⟩

/-- What Copy lays. -/
def copyL (l : List Int) (a t n : Nat) : List Int := (layL l t (fun j => l.getD (a + j) 0) n).set a ((2 + t * 4 : Nat) : Int)
theorem copyL_length (l : List Int) (a t n : Nat) : (copyL l a t n).length = l.length := by unfold copyL; simp
theorem copyL_at {l : List Int} {a t n j : Nat} (h : j < l.length) : (copyL l a t n).getD j 0 = if j = a then ((2 + t * 4 : Nat) : Int) else if t ≤ j ∧ j < t + n then l.getD (a + (j - t)) 0 else l.getD j 0 := by
  unfold copyL
  rw [set_at' (by rw [layL_length]; exact h), layL_at _ _ _ _ _ h]

set_option maxHeartbeats 2000000 in
theorem copy_yes (a sb sz st : Nat) (w : World) (h : ArenaAt 76 w P b l) (o : ObjIs l a p d wk fn fr) (hs : SpOk sb sz st) (h1 : 1 ≤ st) (hr : st + Cls.rd (3 + p + d) ≤ sb + sz) (hl : st + (3 + p + d) ≤ l.length) :
    Calls Try.prog 27 #[.pointer (some ⟨P, 0, none⟩), .int .i64 a, spV sb sz st] w fun e w' => e = .returned (.tuple #[spV sb sz (st + Cls.rd (3 + p + d)), .int .i64 st, .int .i64 0]) ∧
      ArenaAt 76 w' P b (copyL l a st (3 + p + d)) ∧ Chg (· = b) w w' := by
  have hlt := h.lt
  have hll := h.len
  have o1 := o.ptrs
  have o2 := o.data
  have o3 := o.room
  have hst : st ≤ 65536 := by omega
  have HT := take_yes sb sz st (3 + p + d) hs (by omega) (by omega) hr
  have HG := gone_any st (by omega)
  rw [show goneN st = 2 + st * 4 from by simp [goneN, mayGo]; omega, show mayGo st = true from decide_eq_true ⟨h1, by omega⟩] at HG
  have HM := fun x (hx : ArenaAt 76 x P b l) => move_yes a st (3 + p + d) x hx (by omega) hl (by omega)
  have HA := fun x (hx : ArenaAt 76 x P b l) => at_obj a x hx o
  have HS := fun x (hx : ArenaAt 76 x P b l) => size_at a x hx o
  unfold copyL
  have hml : (layL l st (fun j => l.getD (a + j) 0) (3 + p + d)).length = l.length := layL_length ..
  obtain ⟨m, hM⟩ : ∃ m, layL l st (fun j => l.getD (a + j) 0) (3 + p + d) = m := ⟨_, rfl⟩
  simp only [hM] at HM hml ⊢
  obtain ⟨u, hu⟩ : ∃ u, st + Cls.rd (3 + p + d) = u := ⟨_, rfl⟩
  rw [hu] at HT ⊢
  have hax : a < m.length := by omega
  generalize 3 + p + d = s at *
  have hv : (0 : Int) ≤ ((2 + st * 4 : Nat) : Int) ∧ ((2 + st * 4 : Nat) : Int) ≤ 18446744073709551615 := by omega
  generalize 2 + st * 4 = v at *
  clear o hM hu hr hs o1 o2 o3 hl
  obtain ⟨k1, k2, hB⟩ := two_new w #[.int .i64 sb, .int .i64 sz, .int .i64 st] #[.int .i64 0, .int .i64 0, .int .i64 0] 47 47
  have nb1 : ¬ w.heap.size = b := by omega
  have nb2 : ¬ w.heap.size + 1 = b := by omega
  go_enter Try.func27, Try.ntmps27
  go_wp2_with fail
  generalize (w.alloc (.cells #[.int .i64 sb, .int .i64 sz, .int .i64 st] 47)).alloc (.cells #[.int .i64 0, .int .i64 0, .int .i64 0] 47) = x at *
  refine (HA _ (h.below hB hlt.1 hlt.2)).mono ?_
  rintro e y ⟨rfl, hb⟩
  replace k1 := k1.more hb (Nat.le_refl _)
  replace k2 := k2.more hb (Nat.le_refl _)
  replace hB := hB.trans (hb.mono hB.size)
  clear hb x
  go_wp2_with fail
  refine (HS _ (h.below hB hlt.1 hlt.2)).mono ?_
  rintro e x ⟨rfl, hb⟩
  replace k1 := k1.more hb (Nat.le_refl _)
  replace k2 := k2.more hb (Nat.le_refl _)
  replace hB := hB.trans (hb.mono hB.size)
  clear hb y
  obtain ⟨⟨c0, c1, c2⟩, f0, f1, f2⟩ := blk3 k1
  go_wp2_with fail
  clear c0 c1 c2 f0 f1 f2
  refine (HT _).mono ?_
  rintro e y ⟨rfl, hb⟩
  replace k1 := k1.more hb (Nat.le_refl _)
  replace k2 := k2.more hb (Nat.le_refl _)
  replace hB := hB.trans (hb.mono hB.size)
  clear hb x
  have k3 := BlkIs.new y #[.int .i64 sb, .int .i64 sz, .int .i64 u] 47
  have n3 : ¬ w.heap.size + 1 = y.heap.size := by have := k2.lt; omega
  have nb3 : ¬ y.heap.size = b := by have := k2.lt; omega
  replace k1 := k1.alloc (.cells #[.int .i64 sb, .int .i64 sz, .int .i64 u] 47)
  replace k2 := k2.alloc (.cells #[.int .i64 sb, .int .i64 sz, .int .i64 u] 47)
  replace hB := hB.alloc hB.size (.cells #[.int .i64 sb, .int .i64 sz, .int .i64 u] 47)
  have n0 : ((st : Int) == 0) = false := by simp; omega
  go_wp2_with fail
  generalize y.heap.size = k at *
  generalize y.alloc (.cells #[.int .i64 sb, .int .i64 sz, .int .i64 u] 47) = x at *
  refine (HM _ (h.below hB hlt.1 hlt.2)).mono ?_
  rintro e y2 ⟨rfl, hA, hc⟩
  replace k1 := k1.chg hc nb1
  replace k2 := k2.chg hc nb2
  replace k3 := k3.chg hc nb3
  have hC := (Chg.of_below (S := (· = b)) hB (Nat.le_refl _)).trans hc
  clear hc hB h HM HA HS HT x
  go_wp2_with fail
  refine (HG _).mono ?_
  rintro e y3 ⟨rfl, hb⟩
  replace k1 := k1.more hb (Nat.le_refl _)
  replace k2 := k2.more hb (Nat.le_refl _)
  replace k3 := k3.more hb (Nat.le_refl _)
  replace hA := hA.below hb hA.lt.1 hA.lt.2
  replace hC := hC.trans (Chg.of_below hb (Nat.le_refl _))
  clear hb y2 HG
  have HU := store_there a (v : Int) _ hA hax hv
  go_wp2_with fail
  refine HU.mono ?_
  rintro e y4 ⟨rfl, hA2, hc⟩
  replace k2 := k2.chg hc nb2
  replace k3 := k3.chg hc nb3
  replace hC := hC.trans hc
  clear hc HU hA k1
  obtain ⟨⟨c0, c1, c2⟩, f0, f1, f2⟩ := blk3 k2
  obtain ⟨⟨d0, d1, d2⟩, g0, g1, g2⟩ := blk3 k3
  have l2 := k2.lt
  go_wp2
  have hE := ((k2.set 0 (.int .i64 sb)).set 1 (.int .i64 sz)).set 2 (.int .i64 u)
  obtain ⟨⟨e0, e1, e2⟩, _⟩ := blk3 hE
  refine bodyPost_ret (v := .tuple #[spV sb sz u, .int .i64 st, .int .i64 0]) ?_ rfl ⟨rfl, ?_, ?_⟩
  · simp [results, Try.f27, go_sem, e0, e1, e2]
  · exact hA2.chg (((Chg.refl (· = w.heap.size + 1) y4).setCell (p := ⟨w.heap.size + 1, 0, none⟩) (.inl rfl) (.int .i64 sb)).setCell (p := ⟨w.heap.size + 1, 1, none⟩) (.inl rfl) (.int .i64 sz) |>.setCell (p := ⟨w.heap.size + 1, 2, none⟩) (.inl rfl) (.int .i64 u)) (by omega) (by omega)
  · exact ((hC.setCell (p := ⟨w.heap.size + 1, 0, none⟩) (.inr (by simp)) (.int .i64 sb)).setCell (p := ⟨w.heap.size + 1, 1, none⟩) (.inr (by simp)) (.int .i64 sz)).setCell (p := ⟨w.heap.size + 1, 2, none⟩) (.inr (by simp)) (.int .i64 u)

set_option maxHeartbeats 2000000 in
theorem copy_room (a sb sz st : Nat) (w : World) (h : ArenaAt 76 w P b l) (o : ObjIs l a p d wk fn fr) (hs : SpOk sb sz st) (hr : sb + sz < st + Cls.rd (3 + p + d)) :
    Calls Try.prog 27 #[.pointer (some ⟨P, 0, none⟩), .int .i64 a, spV sb sz st] w fun e w' => e = .returned (.tuple #[spV sb sz st, .int .i64 0, .int .i64 80]) ∧ Below w.heap.size w w' := by
  have hlt := h.lt
  have o1 := o.ptrs
  have o2 := o.data
  have HT := take_full sb sz st (3 + p + d) hs (by omega) (by omega) hr
  have HA := fun x (hx : ArenaAt 76 x P b l) => at_obj a x hx o
  have HS := fun x (hx : ArenaAt 76 x P b l) => size_at a x hx o
  generalize 3 + p + d = s at *
  clear o hr hs o1 o2
  obtain ⟨k1, k2, hB⟩ := two_new w #[.int .i64 sb, .int .i64 sz, .int .i64 st] #[.int .i64 0, .int .i64 0, .int .i64 0] 47 47
  go_enter Try.func27, Try.ntmps27
  go_wp2_with fail
  generalize (w.alloc (.cells #[.int .i64 sb, .int .i64 sz, .int .i64 st] 47)).alloc (.cells #[.int .i64 0, .int .i64 0, .int .i64 0] 47) = x at *
  refine (HA _ (h.below hB hlt.1 hlt.2)).mono ?_
  rintro e y ⟨rfl, hb⟩
  replace k1 := k1.more hb (Nat.le_refl _)
  replace k2 := k2.more hb (Nat.le_refl _)
  replace hB := hB.trans (hb.mono hB.size)
  clear hb x
  go_wp2_with fail
  refine (HS _ (h.below hB hlt.1 hlt.2)).mono ?_
  rintro e x ⟨rfl, hb⟩
  replace k1 := k1.more hb (Nat.le_refl _)
  replace k2 := k2.more hb (Nat.le_refl _)
  replace hB := hB.trans (hb.mono hB.size)
  clear hb y
  obtain ⟨⟨c0, c1, c2⟩, f0, f1, f2⟩ := blk3 k1
  go_wp2_with fail
  clear c0 c1 c2 f0 f1 f2
  refine (HT _).mono ?_
  rintro e y ⟨rfl, hb⟩
  replace k1 := k1.more hb (Nat.le_refl _)
  replace k2 := k2.more hb (Nat.le_refl _)
  replace hB := hB.trans (hb.mono hB.size)
  clear hb x
  have l1 := k1.lt
  have l2 := k2.lt
  obtain ⟨⟨c0, c1, c2⟩, f0, f1, f2⟩ := blk3 k1
  obtain ⟨⟨d0, d1, d2⟩, g0, g1, g2⟩ := blk3 k2
  go_wp2
  have hE := (((k2.set 0 (.int .i64 sb)).set 1 (.int .i64 sz)).set 2 (.int .i64 st)).alloc (.cells #[.int .i64 sb, .int .i64 sz, .int .i64 st] 47)
  obtain ⟨⟨e0, e1, e2⟩, _⟩ := blk3 hE
  refine bodyPost_ret (v := .tuple #[spV sb sz st, .int .i64 0, .int .i64 80]) ?_ rfl ⟨rfl, ?_⟩
  · simp [results, Try.f27, go_sem, e0, e1, e2]
  · exact (((hB.setCell (p := ⟨w.heap.size + 1, 0, none⟩) (by simp) (.int .i64 sb)).setCell (p := ⟨w.heap.size + 1, 1, none⟩) (by simp) (.int .i64 sz)).setCell (p := ⟨w.heap.size + 1, 2, none⟩) (by simp) (.int .i64 st)).alloc (by have := hB.size; simp [World.setCell]; omega) _

end

end Go.Proofs.Ytoohnnkhklifdaa

namespace Go.Proofs.Ytoohnnkhklifdaa
open Go.RowKit

/-- An object's shape, and whether it is freed. -/
structure Ob where
  (p d : Nat)
  (wk fn fr : Bool)
def Ob.n (o : Ob) : Nat := 3 + o.p + o.d
def off (os : Nat → Ob) : Nat → Nat
  | 0 => 0
  | k + 1 => off os k + Cls.rd (os k).n
/-- At these places there are objects, the first m. -/
def ObsAt (l : List Int) (B : Nat) (os : Nat → Ob) (m : Nat) : Prop := ∀ k, k < m → ObjIs l (B + off os k) (os k).p (os k).d (os k).wk (os k).fn (os k).fr
def plc (os : Nat → Ob) (B m : Nat) : List Nat := (List.range m).map fun k => B + off os k
theorem plc_length (os : Nat → Ob) (B m : Nat) : (plc os B m).length = m := by unfold plc; simp
theorem plc_snoc (os : Nat → Ob) (B k : Nat) : plc os B k ++ [B + off os k] = plc os B (k + 1) := by unfold plc; rw [List.range_succ]; simp
theorem plc_at {os : Nat → Ob} {B m k : Nat} (h : k < m) : (plc os B m).getD k 0 = B + off os k := by unfold plc; simp [List.getD, h]

section
variable {l : List Int} {B : Nat} {os : Nat → Ob} {m : Nat}
theorem Ob.n_le {o : Ob} (h1 : o.p ≤ 8) (h2 : o.d ≤ 8) : 3 ≤ o.n ∧ o.n ≤ 19 := by unfold Ob.n; omega
theorem rd_pos (n : Nat) : 4 ≤ Cls.rd n := Cls.sz_pos _
theorem off_mono (os : Nat → Ob) {j k : Nat} (h : j ≤ k) : off os j ≤ off os k := by
  induction k with
  | zero => obtain rfl : j = 0 := by omega
            exact Nat.le_refl _
  | succ k ih =>
    by_cases e : j = k + 1
    · subst e; exact Nat.le_refl _
    · exact Nat.le_trans (ih (by omega)) (by show _ ≤ off os k + _; omega)
/-- The j-th ends ahead of the k-th. -/
theorem off_room {j k : Nat} (h : j < k) (h1 : (os j).p ≤ 8) (h2 : (os j).d ≤ 8) : off os j + (os j).n ≤ off os k := by
  have h3 := off_mono os (show j + 1 ≤ k from h)
  have h4 : (os j).n ≤ Cls.rd (os j).n := Cls.rd_ge (by have := (Ob.n_le h1 h2).2; omega)
  have h5 : off os (j + 1) = off os j + Cls.rd (os j).n := rfl
  omega
theorem off_next (os : Nat → Ob) (k : Nat) : off os (k + 1) = off os k + Cls.rd (os k).n := rfl
theorem off_lt (os : Nat → Ob) {j k : Nat} (h : j < k) : off os j < off os k := by
  have h3 := off_mono os (show j + 1 ≤ k from h)
  have h4 := rd_pos (os j).n
  rw [off_next] at h3
  omega
theorem off_ge (os : Nat → Ob) (m : Nat) : 4 * m ≤ off os m := by
  induction m with
  | zero => exact Nat.zero_le _
  | succ m ih => have := rd_pos (os m).n; rw [off_next]; omega
/-- An object is one, whatever stands elsewhere. -/
theorem ObjIs.same {l l' : List Int} {a p d : Nat} {wk fn fr : Bool} (h : ObjIs l a p d wk fn fr) (hl : l'.length = l.length) (hh : l'.getD a 0 = l.getD a 0) : ObjIs l' a p d wk fn fr :=
  ⟨h.right, h.ptrs, h.data, by rw [hl]; exact h.room, by rw [hh]; exact h.head⟩
theorem ObsAt.same {l' : List Int} (h : ObsAt l B os m) (hl : l'.length = l.length) (hh : ∀ k, k < m → l'.getD (B + off os k) 0 = l.getD (B + off os k) 0) : ObsAt l' B os m :=
  fun k hk => (h k hk).same hl (hh k hk)
end

end Go.Proofs.Ytoohnnkhklifdaa

namespace Go.Proofs.Ytoohnnkhklifdaa
open Go.RowKit

/-- What a round of a loop may not touch: what lay below n₁, but for S. -/
def KpB (n₁ : Nat) (S : Nat → Prop) (A B : World) : Prop := A.heap.size ≤ B.heap.size ∧ ∀ b, b < n₁ → ¬ S b → B.heap[b]? = A.heap[b]?
section
variable {n₁ : Nat} {S : Nat → Prop} {A B C : World}
theorem KpB.refl (n₁ : Nat) (S : Nat → Prop) (A : World) : KpB n₁ S A A := ⟨Nat.le_refl _, fun _ _ _ => rfl⟩
theorem KpB.trans (h : KpB n₁ S A B) (k : KpB n₁ S B C) : KpB n₁ S A C := ⟨Nat.le_trans h.1 k.1, fun b hb hs => (k.2 b hb hs).trans (h.2 b hb hs)⟩
theorem KpB.setCell (A : World) {p : Addr} (hp : S p.block) (u : Value) : KpB n₁ S A (A.setCell p u) :=
  ⟨by simp [World.setCell], fun b _ hs => Below.heap_setCell _ _ _ _ fun e => hs (e ▸ hp)⟩
theorem KpB.putObj (W : World) (l : Nat) (o : Obj) (hl : n₁ ≤ l) : KpB n₁ S W (W.putObj l o) :=
  ⟨by simp [World.putObj], fun b hb _ => World.putObj_heap_other (by omega)⟩
theorem KpB.of_below (h : Below n₁ A B) : KpB n₁ S A B := ⟨h.size, fun b hb _ => h.block b hb⟩
theorem KpB.cell (h : KpB n₁ S A B) {p : Addr} (hp : p.block < n₁) (hs : ¬ S p.block) : B.cell? p = A.cell? p := World.cell?_of_block (h.2 p.block hp hs)
end

theorem ownFrom_pure {β : Type} {B : Nat} (P : β → Prop) : OwnFrom B (fun s (_ : World) => P s) := fun _ _ _ _ h _ _ => h

end Go.Proofs.Ytoohnnkhklifdaa

namespace Go.Proofs.Ytoohnnkhklifdaa
open Go.RowKit

theorem own_cell {w : World} {base n : Nat} {e : TypeId} {v : Value} {k : IntKind} {l : List Int} (h : w.ownsRow base e 1 v n (l.map (Value.int k))) (hn : 0 < n) :
    ∃ g cap, v = .slice (some ⟨g, 0, none⟩) n cap ∧ base ≤ g ∧ g < w.heap.size ∧ n ≤ cap ∧ cap ≤ maxLen ∧ l.length = n ∧ ∀ j, j < n → w.cell? ⟨g, j, none⟩ = some (.int k (l.getD j 0)) := by
  have hl : l.length = n := by simpa using h.1
  have hcells := fun g => h.cells (g := g)
  rcases h.2 with ⟨rfl, h0⟩ | ⟨g, cap, cur, rfl, hb, hg, hnc, hcm, _⟩
  · omega
  · refine ⟨g, cap, rfl, hb, (Array.getElem?_eq_some_iff.1 hg).1, hnc, hcm, hl, fun j hj => ?_⟩
    have hc := hcells g rfl j (.int k (l.getD j 0)) (by simp [List.getD, show j < l.length from by omega])
    by_cases h0 : j = 0
    · subst h0; simpa [Addr.add] using hc
    · simpa [Addr.add, h0] using hc

theorem chg_of_append {w w' : World} {base n size : Nat} {e : TypeId} {v : Value} {xs : List Value} (h : w.ownsRow base e size v n xs) (hg : w.grownBy w' v.ownBlock) : Chg (fun k => base ≤ k) w w' := by
  refine Chg.of_grown hg fun k hk => ?_
  rcases h.2 with ⟨rfl, _⟩ | ⟨g, cap, cur, rfl, hb, _⟩
  · simp [Value.ownBlock] at hk
  · have : k = g := by simpa [Value.ownBlock] using hk
    omega

theorem own_chg {w w' : World} {base n size : Nat} {e : TypeId} {v : Value} {xs : List Value} {S : Nat → Prop} (h : w.ownsRow base e size v n xs) (hg : Chg S w w') (hs : ∀ k, base ≤ k → ¬ S k) : w'.ownsRow base e size v n xs := by
  refine ⟨h.1, h.2.imp id ?_⟩
  rintro ⟨g, cap, cur, rfl, hb, hh, r⟩
  exact ⟨g, cap, cur, rfl, hb, (hg.block g (Array.getElem?_eq_some_iff.1 hh).1 (hs g hb)).trans hh, r⟩

theorem take_snoc_int {l : List Int} {j : Nat} (h : j < l.length) (f : Int → Value) : (l.take j).map f ++ [f (l.getD j 0)] = (l.take (j + 1)).map f := by
  rw [List.take_succ_eq_append_getElem h, List.map_append]
  simp [List.getD, h]

end Go.Proofs.Ytoohnnkhklifdaa

namespace Go.Proofs.Ytoohnnkhklifdaa
open Go.RowKit Go.Shelf

set_option linter.unusedSimpArgs false
set_option linter.unusedVariables false
attribute [local go_sem] Oper.semAt_some

theorem ArenaAt.kpB {n₁ : Nat} {S : Nat → Prop} {A C : World} {P b : Nat} {l : List Int} (h : ArenaAt 76 A P b l) (g : KpB n₁ S A C) (hP : P < n₁ ∧ ¬ S P) (hb : b < n₁ ∧ ¬ S b) : ArenaAt 76 C P b l :=
  ⟨(g.2 P hP.1 hP.2).trans h.head, (g.2 b hb.1 hb.2).trans h.row, h.len, h.fits⟩

abbrev encPlace (x : Nat) : Array Value := #[.int .i64 (x : Int)]




theorem own_mono {w : World} {base base' : Nat} {e : TypeId} {size : Nat} {v : Value} {n : Nat} {xs : List Value} (h : w.ownsRow base e size v n xs) (hb : base' ≤ base) : w.ownsRow base' e size v n xs :=
  ⟨h.1, h.2.imp id fun ⟨g, cap, cur, e1, e2, r⟩ => ⟨g, cap, cur, e1, Nat.le_trans hb e2, r⟩⟩
/-- An append to a row of one's own that stands in a box: what lay below n₁, but for the box, is as it was. -/
theorem appended_kpB {W w1 : World} {n₁ B : Nat} {t e : TypeId} {size : Nat} {v v' : Value} {k m : Nat} {xs ys : List Value} {tmp : Obj}
    (hv : Boxed W B t v) (hte : t ≠ e) (hrow : W.ownsRow n₁ e size v k xs) (hn₁ : n₁ ≤ W.heap.size) (hB : B < n₁) (hown' : w1.ownsRow n₁ e size v' m ys) (hgrow : (W.alloc tmp).grownBy w1 v.ownBlock) :
    Boxed w1 B t v ∧ Boxed (w1.setCell ⟨B, 0, none⟩ v') B t v' ∧ (w1.setCell ⟨B, 0, none⟩ v').ownsRow n₁ e size v' m ys ∧ KeepsOthers W (w1.setCell ⟨B, 0, none⟩ v') ∧ Below B W (w1.setCell ⟨B, 0, none⟩ v') ∧ KpB n₁ (fun k => k = B) W (w1.setCell ⟨B, 0, none⟩ v') := by
  obtain ⟨h1, h2, h3, h4, h5⟩ := Boxed.appended (n₀ := B) hv hte (own_mono hrow (by omega)) (by omega) (Nat.le_refl _) (own_mono hown' (by omega)) hgrow
  refine ⟨h1, h2, ?_, h4, h5, h5.size, fun c hc hne => ?_⟩
  · refine hown'.kept (grownBy_setCell' w1 B v') (.inr fun e => ?_)
    rcases hown'.2 with ⟨rfl, _⟩ | ⟨g, cap, cur, rfl, hb, _⟩
    · simp [Value.ownBlock] at e
    · simp [Value.ownBlock] at e; omega
  · rw [Below.heap_setCell _ _ _ _ hne]
    refine (hgrow.block c (by simp; omega) fun e => ?_).trans (Below.heap_alloc _ _ _ (by omega))
    rcases hrow.2 with ⟨rfl, _⟩ | ⟨g, cap, cur, rfl, hb, _⟩
    · simp [Value.ownBlock] at e
    · simp [Value.ownBlock] at e; omega

theorem infoInt : (Try.prog.info? 3).map (fun i => (i.zero, i.size, i.bytes)) = some (some (.int .i64 0), 1, 8) := by kernel_rfl
def valsN (l : List Nat) : List Value := l.map fun x : Nat => Value.int .i64 (x : Int)
theorem valsN_snoc (l : List Nat) (x : Nat) : valsN l ++ [.int .i64 x] = valsN (l ++ [x]) := by unfold valsN; simp


end Go.Proofs.Ytoohnnkhklifdaa

namespace Go.Proofs.Ytoohnnkhklifdaa
open Go.ChangeShapes Go.WideShapes Go.ChangeAt Go.RowKit

set_option linter.unusedSimpArgs false
set_option linter.unusedVariables false

def pick6Of (c n : Int) : Int := if c < 0 then (-(c + 1)) % n else c % n
theorem pick6_bounds (c n : Int) (hn : 0 < n) : 0 ≤ pick6Of c n ∧ pick6Of c n < n := by
  unfold pick6Of
  split
  · exact ⟨Int.emod_nonneg _ (by omega), Int.emod_lt_of_pos _ hn⟩
  · exact ⟨Int.emod_nonneg _ (by omega), Int.emod_lt_of_pos _ hn⟩
theorem pick6_any (c n : Int) (w : World) (h0 : -9223372036854775808 ≤ c) (h1 : c ≤ 9223372036854775807) (h2 : 0 < n) (h3 : n ≤ 9223372036854775807) :
    Calls Try.prog 22 #[.int .i64 c, .int .i64 n] w fun e w' => e = .returned (.int .i64 (pick6Of c n)) ∧ w = w' := by
  by_cases h : c < 0
  · have hv : Hid (Int.tmod (-(c + 1)) n = pick6Of c n) := Lib.hid (by unfold pick6Of; rw [if_pos h, Int.tmod_eq_emod_of_nonneg (by omega)])
    have hd : 0 ≤ -(c + 1) := by omega
    go_enter Try.func22, Try.ntmps22
    go_wp2
    go_ret
    refine ⟨?_, rfl⟩
    rw [← hv.out, Int.neg_tmod]
    rfl
  · have hv : Hid (c % n = pick6Of c n) := Lib.hid (by unfold pick6Of; rw [if_neg h])
    go_enter Try.func22, Try.ntmps22
    go_wp2
    go_ret
    exact ⟨by rw [← hv.out]; rfl, rfl⟩
theorem pick6_nat (c : Int) (n : Nat) (w : World) (h0 : -9223372036854775808 ≤ c) (h1 : c ≤ 9223372036854775807) (h2 : 0 < n) (h3 : (n : Int) ≤ 9223372036854775807) :
    Calls Try.prog 22 #[.int .i64 c, .int .i64 n] w fun e w' => ∃ k : Nat, k < n ∧ e = .returned (.int .i64 k) ∧ w = w' := by
  have p := pick6_bounds c n (by omega)
  refine (pick6_any c n w h0 h1 (by omega) h3).mono ?_
  rintro e w' ⟨rfl, rfl⟩
  exact ⟨(pick6Of c n).toNat, by omega, by rw [Int.toNat_of_nonneg p.1], rfl⟩

theorem sh_of {p d : Nat} {fn : Bool} (hp : p ≤ 8) (hd : d ≤ 8) : shB p d false fn = true := by
  unfold shB cnt
  simp
  omega

/-- The shape that these raw numbers speak of. -/
structure FitIs (a0 a1 a2 : Int) (p d : Nat) (wk fn : Bool) : Prop where
  right : shB p d wk fn = true
  ptrs : p ≤ 8
  data : d ≤ 8
  tells : ∀ w, Calls Try.prog 7 #[.int .i64 a0, .int .i64 a1, .int .i64 a2] w fun e w' => e = .returned (shV p d wk fn) ∧ Below w.heap.size w w'

theorem pick6_det (c : Int) (n : Nat) (h0 : -9223372036854775808 ≤ c) (h1 : c ≤ 9223372036854775807) (h2 : 0 < n) (h3 : (n : Int) ≤ 9223372036854775807) :
    ∃ k : Nat, k < n ∧ ∀ w, Calls Try.prog 22 #[.int .i64 c, .int .i64 n] w fun e w' => e = .returned (.int .i64 k) ∧ w = w' := by
  have p := pick6_bounds c n (by omega)
  refine ⟨(pick6Of c n).toNat, by omega, fun w => ?_⟩
  rw [Int.toNat_of_nonneg p.1]
  exact pick6_any c n w h0 h1 (by omega) h3

set_option maxHeartbeats 1000000 in
theorem fit_sh (a0 a1 a2 : Int) (w0 : -9223372036854775808 ≤ a0 ∧ a0 ≤ 9223372036854775807) (w1 : -9223372036854775808 ≤ a1 ∧ a1 ≤ 9223372036854775807) (w2 : -9223372036854775808 ≤ a2 ∧ a2 ≤ 9223372036854775807) :
    ∃ (p d : Nat) (wk fn : Bool), FitIs a0 a1 a2 p d wk fn := by
  obtain ⟨k, hk, hK⟩ := pick6_det a2 5 w2.1 w2.2 (by omega) (by omega)
  obtain ⟨p, hp, hP⟩ := pick6_det a0 9 w0.1 w0.2 (by omega) (by omega)
  obtain ⟨d, hd, hD⟩ := pick6_det a1 9 w1.1 w1.2 (by omega) (by omega)
  by_cases h4 : k = 4
  · refine ⟨1, 0, true, false, rfl, by omega, by omega, fun w => ?_⟩
    subst h4
    go_enter Try.func7, Try.ntmps7
    go_wp2_with fail
    refine (hK _).mono ?_
    rintro e x ⟨rfl, rfl⟩
    go_wp2
    have hE := ResAt.new w #[.int .i64 1, .int .i64 0, .bool true, .bool false] 32
    refine bodyPost_ret (v := shV 1 0 true false) ?_ rfl ⟨rfl, hE.below⟩
    simp [results, Try.f7, go_sem]
  · have n1 : ((k : Int) = 4) = False := by simp; omega
    refine ⟨p, d, false, (k : Int) == 3, sh_of (by omega) (by omega), by omega, by omega, fun w => ?_⟩
    go_enter Try.func7, Try.ntmps7
    go_wp2_with fail
    refine (hK _).mono ?_
    rintro e x ⟨rfl, rfl⟩
    go_wp2_with fail
    refine (hP _).mono ?_
    rintro e x ⟨rfl, rfl⟩
    go_wp2_with fail
    refine (hD _).mono ?_
    rintro e x ⟨rfl, rfl⟩
    go_wp2_with fail
    refine (hK _).mono ?_
    rintro e x ⟨rfl, rfl⟩
    go_wp2
    have hE := ResAt.new w #[.int .i64 p, .int .i64 d, .bool false, .bool ((k : Int) == 3)] 32
    refine bodyPost_ret (v := shV p d false ((k : Int) == 3)) ?_ rfl ⟨rfl, hE.below⟩
    simp [results, Try.f7, go_sem]

end Go.Proofs.Ytoohnnkhklifdaa

namespace Go.Proofs.Ytoohnnkhklifdaa
open Go.RowKit



end Go.Proofs.Ytoohnnkhklifdaa

namespace Go.Proofs.Ytoohnnkhklifdaa
open Go.ChangeShapes Go.WideShapes Go.ChangeAt Go.RowKit

theorem own : ownKnob Try.prog.godebug = none := by kernel_rfl
theorem laidOut : laidOutB Try.prog = true := by kernel_rfl

/-- A slice of ints that came in: without room, or a row of 'cap' numbers, of which the first 'len' are its elements, each fitting its kind. -/
def IsRow (k : IntKind) (w : World) (a : Option Addr) (len cap : Nat) (zs : List Int) : Prop :=
  (len = 0 ∧ cap = 0 ∧ zs = []) ∨
  ∃ b off, a = some ⟨b, off, none⟩ ∧ b < w.heap.size ∧ len ≤ cap ∧ cap ≤ maxLen ∧ zs.length = cap ∧ (∀ i, i < zs.length → w.cell? ⟨b, off + i, none⟩ = some (.int k (zs.getD i 0))) ∧ ∀ n ∈ zs, (Lit.int k n).wf = true

theorem list2 {α : Type} : ∀ {l : List α}, l.length = 2 → ∃ a b, l = [a, b]
  | [a, b], _ => ⟨a, b, rfl⟩
theorem list3 {α : Type} : ∀ {l : List α}, l.length = 3 → ∃ a b c, l = [a, b, c]
  | [a, b, c], _ => ⟨a, b, c, rfl⟩
theorem list6 {α : Type} : ∀ {l : List α}, l.length = 6 → ∃ a b c d e f, l = [a, b, c, d, e, f]
  | [a, b, c, d, e, f], _ => ⟨a, b, c, d, e, f, rfl⟩

section
variable {H : Type} {enc : TypeId × Value → H} {P : Program} {w : World} {base b0 : Nat} {spare : Nat → Bool} {held : Bool} {r : Reach}
theorem okWide_array {t e : TypeId} {n : Nat} {v : Value} (ht : P.underlying t = some (.array n e)) (h : Value.okWide P w r base t v) : ∃ cs, v = .agg cs ∧ cs.size = P.cellsOf t := by
  simp only [Value.okWide, ht] at h
  obtain ⟨cs, h1, h2, _⟩ := h
  exact ⟨cs, h1, h2⟩

theorem open_ints_array {n : Nat} {t e : TypeId} {k : IntKind} {v : Value} {d : DataW H} {p : List MemPlace} (ht : P.underlying t = some (.array n e)) (he : P.underlying e = some (.int k)) (hce : P.cellsOf e = 1) (hC : P.cellsOf t = n)
    (hv : Value.okWide P w r b0 t v) (h : DataW.Trod enc P w base spare held t v d p) : ∃ zs : List Int, zs.length = n ∧ v = .agg (zs.map (Value.int k)).toArray ∧ ∀ z ∈ zs, (Lit.int k z).wf = true := by
  obtain ⟨cs, rfl, hsz⟩ := okWide_array ht hv
  obtain ⟨l⟩ := cs
  obtain ⟨fuel, hf⟩ := h
  obtain ⟨xs, m, _, _, hlen, hxl, hat⟩ := DataW.trod_array ht hf
  have hl : l.length = n := by simpa [Value.cells, hC] using hlen
  have key : ∀ i (hi : i < l.length), ∃ z, l[i] = .int k z ∧ (Lit.int k z).wf = true := by
    intro i hi
    have h1 := hat i (by omega)
    rw [hce, Nat.mul_one] at h1
    have h2 : (Value.cells (.agg l.toArray)).toList = l := by simp [Value.cells]
    simp only [h2] at h1
    rw [List.drop_eq_getElem_cons hi, List.getElem?_eq_getElem (by omega), show List.take 1 (l[i] :: List.drop (i + 1) l) = [l[i]] from rfl] at h1
    obtain ⟨z, hz, _, hw⟩ := DataW.trod_int he h1
    refine ⟨z, ?_, hw⟩
    simpa using hz
  refine ⟨l.map (fun v => match v with | .int _ z => z | _ => 0), by simpa using hl, ?_, ?_⟩
  · congr 2
    refine List.ext_getElem (by simp) fun i h1 h2 => ?_
    obtain ⟨z, hz, _⟩ := key i h1
    simp [hz]
  · intro z hz
    obtain ⟨v, hv, rfl⟩ := List.mem_map.1 hz
    obtain ⟨i, hi, rfl⟩ := List.mem_iff_getElem.1 hv
    obtain ⟨z, hz', hw⟩ := key i hi
    rw [hz']; exact hw

theorem open_row {t e : TypeId} {k : IntKind} {a : Option Addr} {len cap : Nat} {d : DataW H} {p : List MemPlace} (ht : P.underlying t = some (.slice e)) (he : P.underlying e = some (.int k)) (hce : P.cellsOf e = 1)
    (h : DataW.Trod enc P w base (fun _ => true) held t (.slice a len cap) d p) : ∃ zs, IsRow k w a len cap zs := by
  obtain ⟨fuel, hf⟩ := h
  rcases open_ints ht he hce hf with ⟨hcs, _⟩ | ⟨x, l, c, zs, hcs, _, hl, hm, hz, _, hcell, hwz⟩
  · simp [Value.cells] at hcs
    obtain ⟨rfl, rfl, rfl⟩ := hcs
    exact ⟨[], .inl ⟨rfl, rfl, rfl⟩⟩
  · simp [Value.cells] at hcs
    obtain ⟨rfl, rfl, rfl⟩ := hcs
    have hz' : zs.length = cap := by simpa using hz
    by_cases h0 : zs.length = 0
    · exact ⟨[], .inl ⟨by omega, by omega, rfl⟩⟩
    · have hc0 := hcell 0 (by omega)
      obtain ⟨b, off, spot⟩ := x
      have hspot : spot = none := by simpa [Addr.add] using World.cell?_spot hc0
      subst hspot
      refine ⟨zs, .inr ⟨b, off, rfl, ?_, hl, hm, hz', fun i hi => ?_, hwz⟩⟩
      · exact World.block_lt_of_cell? w ⟨b, off, none⟩ (by simpa [Addr.add] using hc0)
      · have := hcell i hi
        by_cases hi0 : i = 0
        · subst hi0; simpa [Addr.add] using this
        · simpa [Addr.add, hi0] using this
end

end Go.Proofs.Ytoohnnkhklifdaa

namespace Go.Proofs.Ytoohnnkhklifdaa
open Go.ChangeShapes Go.WideShapes Go.ChangeAt Go.RowKit

set_option linter.unusedSimpArgs false
set_option linter.unusedVariables false

/-- A slice that is read as these numbers. -/
def ReadsAs (k : IntKind) (w : World) (v : Value) (xs : List Int) : Prop :=
  xs.length ≤ maxLen ∧ ((xs = [] ∧ ∃ c, v = .slice none 0 c) ∨ ∃ g c, v = .slice (some ⟨g, 0, none⟩) xs.length c ∧ xs.length ≤ c ∧ g < w.heap.size ∧ ∀ j, j < xs.length → w.cell? ⟨g, j, none⟩ = some (.int k (xs.getD j 0)))
theorem ReadsAs.below {k : IntKind} {w x : World} {v : Value} {xs : List Int} (h : ReadsAs k w v xs) (hb : Below w.heap.size w x) : ReadsAs k x v xs :=
  ⟨h.1, h.2.imp id fun ⟨g, c, e, hc, hg, r⟩ => ⟨g, c, e, hc, Nat.lt_of_lt_of_le hg hb.size, fun j hj => (hb.cell (p := ⟨g, j, none⟩) hg).trans (r j hj)⟩⟩
theorem ReadsAs.drew {k : IntKind} {w : World} {v : Value} {xs : List Int} (h : ReadsAs k w v xs) : ReadsAs k w.drew v xs := h
theorem readsAs_of_owns {w : World} {base n : Nat} {e : TypeId} {v : Value} {k : IntKind} {l : List Int} (h : w.ownsRow base e 1 v n (l.map (Value.int k))) : ReadsAs k w v l := by
  have hl : l.length = n := by simpa using h.1
  by_cases hn : 0 < n
  · obtain ⟨g, cap, rfl, _, hg, hc, hm, _, r⟩ := own_cell h hn
    exact ⟨by omega, .inr ⟨g, cap, by rw [hl], by omega, hg, fun j hj => r j (by omega)⟩⟩
  · obtain rfl : n = 0 := by omega
    have h0 : l = [] := List.eq_nil_of_length_eq_zero hl
    subst h0
    rcases h.2 with ⟨rfl, _⟩ | ⟨g, cap, cur, rfl, _, hh, hc, hm, _⟩
    · exact ⟨by simp, .inl ⟨rfl, 0, rfl⟩⟩
    · exact ⟨by simp, .inr ⟨g, cap, rfl, by simp, lt_of_block hh, fun j hj => by simp at hj⟩⟩
theorem valsN_eq (l : List Nat) : valsN l = (l.map fun x : Nat => (x : Int)).map (Value.int .i64) := by unfold valsN; simp



/-- An object's words, but the first one. -/
def wordsL (l : List Int) (a k : Nat) : List Int := (List.range k).map fun j => l.getD (a + 1 + j) 0
theorem wordsL_length (l : List Int) (a k : Nat) : (wordsL l a k).length = k := by unfold wordsL; simp
theorem wordsL_snoc (l : List Int) (a k : Nat) : (wordsL l a k).map (Value.int .u64) ++ [.int .u64 (l.getD (a + 1 + k) 0)] = (wordsL l a (k + 1)).map (Value.int .u64) := by unfold wordsL; rw [List.range_succ]; simp
theorem wordsL_at {l : List Int} {a k j : Nat} (h : j < k) : (wordsL l a k).getD j 0 = l.getD (a + 1 + j) 0 := by unfold wordsL; simp [List.getD, h]

theorem infoU64 : (Try.prog.info? 79).map (fun i => (i.zero, i.size, i.bytes)) = some (some (.int .u64 0), 1, 8) := by kernel_rfl


def exOb : Nat → Ob := fun _ => ⟨1, 1, false, false, false⟩
def exA : List Int := madeL (List.replicate 60 0) 1 1 1 false false 3
def exB : List Int := copyL exA 1 20 5
set_option maxRecDepth 100000 in
theorem exA_obj : ObjIs exA 1 1 1 false false false := ⟨by decide, by decide, by decide, by decide, by decide⟩
set_option maxRecDepth 100000 in
theorem exB_obj : ObjIs exB 20 1 1 false false false := ⟨by decide, by decide, by decide, by decide, by decide⟩
theorem exB_obs : ObsAt exB 20 exOb 1 := fun k hk => by obtain rfl : k = 0 := by omega
                                                        exact exB_obj
set_option maxRecDepth 100000 in
theorem exB_tells : exB.length = 60 ∧ exB.getD 1 0 = 82 ∧ exB.getD 22 0 = 3 := by decide


end Go.Proofs.Ytoohnnkhklifdaa

namespace Go.Proofs.Ytoohnnkhklifdaa
open Go.RowKit

section
variable {w x y : World} {k : Nat} {v0 v1 v2 v3 : Value} {ty : TypeId}
theorem BlkIs.facts3 (h : BlkIs x k #[v0, v1, v2] ty) : x.cell? ⟨k, 0, none⟩ = some v0 ∧ x.cell? ⟨k, 1, none⟩ = some v1 ∧ x.cell? ⟨k, 2, none⟩ = some v2 ∧ k < x.heap.size := ⟨h.cell 0, h.cell 1, h.cell 2, h.lt⟩
theorem BlkIs.facts4 (h : BlkIs x k #[v0, v1, v2, v3] ty) :
    (x.cell? ⟨k, 0, none⟩ = some v0 ∧ x.cell? ⟨k, 1, none⟩ = some v1 ∧ x.cell? ⟨k, 2, none⟩ = some v2 ∧ x.cell? ⟨k, 3, none⟩ = some v3) ∧
    x.frozen? ⟨k, 0, none⟩ = false ∧ x.frozen? ⟨k, 1, none⟩ = false ∧ x.frozen? ⟨k, 2, none⟩ = false ∧ x.frozen? ⟨k, 3, none⟩ = false ∧ k < x.heap.size :=
  ⟨⟨h.cell 0, h.cell 1, h.cell 2, h.cell 3⟩, h.free 0, h.free 1, h.free 2, h.free 3, h.lt⟩
theorem BlkIs.on {cs : Array Value} (h : BlkIs x k cs ty) (g : Below x.heap.size x y) : BlkIs y k cs ty := h.below g h.lt
end

end Go.Proofs.Ytoohnnkhklifdaa

namespace Go.Proofs.Ytoohnnkhklifdaa
open Go.ChangeShapes Go.WideShapes Go.ChangeAt Go.RowKit

set_option linter.unusedSimpArgs false
set_option linter.unusedVariables false

/-- The pointers of an object, the first n. -/
def ptrL (l : List Int) (a n : Nat) : List Int := (List.range n).map fun i => l.getD (a + (3 + i)) 0
theorem ptrL_length (l : List Int) (a n : Nat) : (ptrL l a n).length = n := by unfold ptrL; simp
theorem ptrL_at {l : List Int} {a n i : Nat} (h : i < n) : (ptrL l a n).getD i 0 = l.getD (a + (3 + i)) 0 := by unfold ptrL; simp [List.getD, h]

section
variable {P b : Nat} {l : List Int} {p d : Nat} {wk fn fr : Bool}
theorem strong_count (a : Nat) (w : World) (h : ArenaAt 76 w P b l) (o : ObjIs l a p d wk fn fr) :
    Calls Try.prog 50 #[.pointer (some ⟨P, 0, none⟩), .int .i64 a] w fun e w' => e = .returned (.tuple #[.int .i64 (if wk then 0 else p : Nat), .int .i64 0]) ∧ Below w.heap.size w w' := by
  have HS := shape_at a w h o
  clear h o
  go_enter Try.func50, Try.ntmps50
  go_wp2_with fail
  refine HS.mono ?_
  rintro e x ⟨rfl, hb⟩
  have hB := hb.alloc hb.size (.cells #[.int .i64 p, .int .i64 d, .bool wk, .bool fn] 32)
  cases wk
  · go_wp2
    go_ret2
    exact ⟨rfl, hB⟩
  · go_wp2
    go_ret2
    exact ⟨rfl, hB⟩

set_option maxRecDepth 100000 in
set_option maxHeartbeats 2000000 in
theorem strong_at (a : Nat) (w : World) (h : ArenaAt 76 w P b l) (o : ObjIs l a p d wk fn fr) (hs : ∀ i, i < p → 0 ≤ l.getD (a + (3 + i)) 0 ∧ l.getD (a + (3 + i)) 0 ≤ 9223372036854775807) :
    Calls Try.prog 30 #[.pointer (some ⟨P, 0, none⟩), .int .i64 a] w fun e w' => ∃ sv, e = .returned (.tuple #[sv, .int .i64 0]) ∧
      w'.ownsRow w.heap.size 3 1 sv (if wk then 0 else p) ((ptrL l a (if wk then 0 else p)).map (Value.int .i64)) ∧ Below w.heap.size w w' := by
  obtain ⟨i0, hi, hz0, hz1, hz2⟩ := info_parts infoInt
  have hlt := h.lt
  have HC := strong_count a w h o
  obtain ⟨n, hn⟩ : ∃ n, (if wk then 0 else p) = n := ⟨_, rfl⟩
  have hnp : n ≤ p := by rw [← hn]; split <;> omega
  have hp8 := o.ptrs
  rw [hn] at HC ⊢
  clear hn
  have hmk := fun W => make_row (P := Try.prog) 23 3 i0 (.int .i64 0) Try.underlying23 hi hz0 .i64 .i64 n n (Nat.le_refl _) (by rw [hz2]; omega) (by omega) W
  simp only [hz1, Nat.mul_one] at hmk
  go_enter Try.func30, Try.ntmps30
  go_wp2_with fail
  refine HC.mono ?_
  rintro e x ⟨rfl, hb⟩
  clear HC
  have kr := BlkIs.new x ((List.replicate n (0 : Int)).map (Value.int .i64)).toArray 3
  rw [← made_ints] at kr
  have hB := hb.alloc hb.size (.cells (madeCells #[Value.int .i64 0] n) 3)
  have hxs := hb.size
  go_wp2_with fail
  rw [made_ints] at kr hB ⊢
  obtain ⟨g, hg⟩ : ∃ g, x.heap.size = g := ⟨_, rfl⟩
  rw [hg] at kr hxs ⊢
  generalize x.alloc (.cells ((List.replicate n (0 : Int)).map (Value.int .i64)).toArray 3) = wo at *
  clear hg hb x
  have hA := h.below hB hlt.1 hlt.2
  have hgb : ¬ g = b := by omega
  go_loopw [23] (fun i wr => ∃ (k : Nat) (zs : List Int), k ≤ n ∧ i = .int .i64 k ∧ zs.length = n ∧ (∀ j, j < k → zs.getD j 0 = l.getD (a + (3 + j)) 0) ∧ BlkIs wr g (zs.map (Value.int .i64)).toArray 3 ∧ Below w.heap.size w wr) (fun i _ => n - (intOf i).toNat)
  case atStart => exact ⟨0, _, by omega, rfl, by simp, fun j hj => by omega, kr, hB⟩
  case round =>
    obtain ⟨k, zs, hk, rfl, hzl, hzs, hkr, hB2⟩ := hrel
    by_cases hlt2 : k < n
    · have M1 := ptr_at a k wr (h.below hB2 hlt.1 hlt.2) o (by omega) (hs k (by omega))
      obtain ⟨y, hy⟩ : ∃ y, l.getD (a + (3 + k)) 0 = y := ⟨_, rfl⟩
      rw [hy] at M1
      have j0 : (0 : Int) ≤ (k : Int) := by omega
      have j1 : (k : Int) < (n : Int) := by omega
      go_wp2_with fail
      refine M1.mono ?_
      rintro e x2 ⟨rfl, hb2⟩
      clear M1
      have hkx := hkr.more hb2 (Nat.le_refl _)
      have hB3 := hB2.trans (hb2.mono hB2.size)
      have hc := hkx.cell k
      rw [show ((zs.map (Value.int .i64)).toArray)[k]? = some (.int .i64 (zs.getD k 0)) from by simp [List.getD, show k < zs.length from by omega]] at hc
      have hf := hkx.free k
      go_wp2
      go_roundw
      case rel =>
        refine ⟨k + 1, zs.set k y, by omega, by go_num, by rw [List.length_set]; exact hzl, fun j hj => ?_, ?_, hB3.setCell (by simpa using hxs) _⟩
        · rw [set_at' (by omega)]
          by_cases e : j = k
          · subst e; rw [if_pos rfl, hy]
          · rw [if_neg e]; exact hzs j (by omega)
        · have := hkx.set k (.int .i64 y)
          simpa [List.map_set] using this
      case measure => simp [intOf]; omega
    · obtain rfl : k = n := by omega
      go_wp2
      go_ret2
      have e : zs = ptrL l a k := ext_getD (by rw [hzl, ptrL_length]) fun j hj => by rw [hzs j (by omega), ptrL_at (by omega)]
      subst e
      refine ⟨_, rfl, ⟨by simp [ptrL_length], .inr ⟨g, k, _, rfl, by omega, hkr, Nat.le_refl _, by unfold maxLen; omega, by simp [ptrL_length], by simp [List.take_of_length_le, ptrL_length]⟩⟩, hB2⟩
end

theorem own_slice {w : World} {base n size : Nat} {e : TypeId} {v : Value} {xs : List Value} (h : w.ownsRow base e size v n xs) : ∃ a c, v = .slice a n c := by
  rcases h.2 with ⟨rfl, h0⟩ | ⟨g, cap, cur, rfl, _⟩
  · exact ⟨none, 0, by rw [h0]⟩
  · exact ⟨_, _, rfl⟩
theorem own_block {w : World} {base n size : Nat} {e : TypeId} {v : Value} {xs : List Value} (h : w.ownsRow base e size v n xs) {k : Nat} (hk : some k = v.ownBlock) : base ≤ k ∧ ∃ cur, w.heap[k]? = some (.cells cur e (0, 0)) := by
  rcases h.2 with ⟨rfl, h0⟩ | ⟨g, cap, cur, rfl, hb, hh, _⟩
  · simp [Value.ownBlock] at hk
  · simp [Value.ownBlock] at hk
    subst hk
    exact ⟨hb, cur, hh⟩
theorem ReadsAs.block {k : IntKind} {w : World} {v : Value} {xs : List Int} (h : ReadsAs k w v xs) {g : Nat} (hg : v.ownBlock = some g) : g < w.heap.size := by
  rcases h.2 with ⟨_, c, rfl⟩ | ⟨g', c, rfl, _, hl, _⟩
  · simp [Value.ownBlock] at hg
  · simp [Value.ownBlock] at hg
    subst hg
    exact hl

theorem ReadsAs.slice {k : IntKind} {w : World} {v : Value} {xs : List Int} (h : ReadsAs k w v xs) : ∃ av c, v = .slice av xs.length c ∧ (0 < xs.length → ∃ g, av = some ⟨g, 0, none⟩ ∧ g < w.heap.size ∧ xs.length ≤ c ∧ ∀ j, j < xs.length → w.cell? ⟨g, j, none⟩ = some (.int k (xs.getD j 0))) := by
  rcases h.2 with ⟨rfl, c, rfl⟩ | ⟨g, c, rfl, h1, h2, h3⟩
  · exact ⟨none, c, rfl, fun h => by simp at h⟩
  · exact ⟨_, c, rfl, fun _ => ⟨g, rfl, h2, h1, h3⟩⟩

theorem mem_ptrL {l : List Int} {a n : Nat} {y : Int} (h : y ∈ ptrL l a n) : ∃ i, i < n ∧ y = l.getD (a + (3 + i)) 0 := by
  unfold ptrL at h
  obtain ⟨i, hi, e⟩ := List.mem_map.1 h
  exact ⟨i, List.mem_range.1 hi, e.symm⟩

end Go.Proofs.Ytoohnnkhklifdaa

namespace Go.Proofs.Ytoohnnkhklifdaa
open Go.ChangeShapes Go.WideShapes Go.ChangeAt Go.RowKit

set_option linter.unusedSimpArgs false
set_option linter.unusedVariables false

/-- z words in each space; u is in use. pn, pk: the places of the space in use, of the old one; tn, tk: their tops; ow: owed; sc: the scan place; se: the last serial; wk, fi: both lists. -/
structure Hp where
  l : List Int
  (z u : Nat)
  mv : Bool
  (pn pk : List Nat)
  (tn tk ow sc se : Nat)
  (wk fi : List Nat)

/-- The head of what is at a place, how many words it has, how many it takes. -/
def hdW (l : List Int) (a : Nat) : Nat := (l.getD a 0).toNat
def nA (l : List Int) (a : Nat) : Nat := 3 + hp (hdW l a) + hd (hdW l a)
def szA (l : List Int) (a : Nat) : Nat := Cls.rd (nA l a)
/-- There is an object. -/
def isOb (l : List Int) (a : Nat) : Prop := ∃ p d wk fn fr, ObjIs l a p d wk fn fr
/-- Where it is now. -/
def fwd (l : List Int) (p : Nat) : Nat := if hdW l p % 4 = 2 then hdW l p / 4 else p

namespace Hp
def base (s : Hp) (i : Nat) : Nat := if i = 0 then 1 else 1 + s.z
def top (s : Hp) (i : Nat) : Nat := if i = s.u then s.tn else s.tk
def pl (s : Hp) (i : Nat) : List Nat := if i = s.u then s.pn else s.pk
def bn (s : Hp) : Nat := s.base s.u
def bk (s : Hp) : Nat := s.base (1 - s.u)
def new (z : Nat) : Hp := ⟨List.replicate (2 * z + 1) 0, z, 0, false, [], [], 1, 1 + z, 0, 0, 0, [], []⟩
/-- How many words may be taken. -/
def room (s : Hp) : Nat := s.bn + s.z - s.tn - s.ow
/-- An object is laid. -/
def lay (s : Hp) (p d : Nat) (wk fn : Bool) : Hp :=
  { s with l := madeL s.l s.tn p d wk fn (s.se + 1), pn := s.pn ++ [s.tn], tn := s.tn + Cls.rd (3 + p + d), se := s.se + 1, wk := if wk then s.wk ++ [s.tn] else s.wk, fi := if fn then s.fi ++ [s.tn] else s.fi }
/-- A word is set. -/
def put (s : Hp) (c : Nat) (v : Int) : Hp := { s with l := s.l.set c v }
/-- One that has not gone goes. -/
def go (s : Hp) (p : Nat) : Hp := { s with l := copyL s.l p s.tn (nA s.l p), pn := s.pn ++ [s.tn], tn := s.tn + szA s.l p, ow := s.ow - szA s.l p }
def moved (s : Hp) (p : Nat) : Hp := if p ∈ s.pk ∧ hdW s.l p % 2 = 1 then s.go p else s
def movV (s : Hp) (p : Nat) : Nat := if p ∈ s.pk then (if hdW s.l p % 2 = 1 then s.tn else hdW s.l p / 4) else p
/-- Some, one behind the other. -/
def movedL (s : Hp) (ps : List Nat) : Hp := ps.foldl moved s
def movVL (s : Hp) : List Nat → List Nat
  | [] => []
  | p :: ps => s.movV p :: (s.moved p).movVL ps
def flip (s : Hp) : Hp := { s with mv := true, ow := s.tn - s.bn, u := 1 - s.u, pn := s.pk, pk := s.pn, tn := s.tk, tk := s.tn, sc := s.bk }
end Hp

end Go.Proofs.Ytoohnnkhklifdaa

namespace Go.Proofs.Ytoohnnkhklifdaa
open Go.RowKit
set_option linter.unusedSimpArgs false
set_option linter.unusedVariables false

theorem run_append_nil {w : World} {base n c : Nat} {v : Value} {xs : List Value} (h : w.ownsRow base 3 1 v n xs) (ty : TypeId) :
    (Builtin.append_ #[23, 23] ty #[v, .slice none 0 c]).run Try.prog w = .ok v w := by
  obtain ⟨i0, hi, hz0, hz1, hz2⟩ := info_parts infoInt
  have hs := Src.ofNil (P := Try.prog) w (size := i0.size) Try.underlying23 c
  rcases h.2 with ⟨rfl, rfl⟩ | ⟨g, cap, cur, rfl, hb, hh, hnc, hcm, _⟩
  · simp [Builtin.append_, run_underlying Try.underlying23, sizeOf, typeInfo, hi, hs.len, hs.cells]
  · have hr := run_append_room_src (P := Try.prog) w 23 23 ty 3 i0 Try.underlying23 hi g 0 n cap _ 0 [] hs (by omega) (fun j hj => by simp at hj) (fun j hj => by simp at hj)
    have e : ∀ (a k : Nat), w.setCells a k [] = w := fun _ _ => rfl
    rw [e] at hr
    simpa using hr

theorem wpList_append_reads {w : World} {ops : Array Oper} {rest : List Oper} {o : Oper} {a : Act} {Q : Exit → Act → World → Prop} (hg : o.guard = none) (s x : Operand)
    (hop : o.op = .call { callee := .builtin .append, args := #[s, x], argTypes := #[23, 23] }) (base : Nat) (v u : Value) (xs zs : List Int) (hs : a.eval s = v) (h : w.ownsRow base 3 1 v xs.length (xs.map (Value.int .i64))) (hx : a.eval x = u) (hu : ReadsAs .i64 w u zs)
    (hn : xs.length + zs.length ≤ 100000) (hb : base ≤ w.heap.size)
    (hK : ∀ v' w', w'.ownsRow base 3 1 v' (xs ++ zs).length ((xs ++ zs).map (Value.int .i64)) → w.grownBy w' v.ownBlock → wpList Try.prog ops Q rest (a.put o.dst v') w') : wpList Try.prog ops Q (o :: rest) a w := by
  obtain ⟨i0, hi, hz0, hz1, hz2⟩ := info_parts infoInt
  have go : ∀ (ad : Addr) (m c : Nat), m = zs.length → a.eval x = .slice (some ad) m c → (∀ j u, (zs.map (Value.int .i64))[j]? = some u → w.cell? (ad.add j) = some u) → wpList Try.prog ops Q (o :: rest) a w := by
    intro ad m c hm hx' hnews
    subst hm
    refine wpList_append_own w hg s x 23 hop base 3 i0 (.int .i64 0) 1 8 Try.underlying23 hi hz0 hz1 hz2 rfl (by decide) v xs.length _ hs h ad zs.length c (zs.map (Value.int .i64)) hx' (by simp) hnews (fun u hu => ?_) (by unfold maxLen; omega) (by omega) hb ?_
    · obtain ⟨z, _, rfl⟩ := List.mem_map.1 hu
      rfl
    · intro v' w' ho hgr _
      refine hK v' w' ?_ hgr
      rw [List.length_append, List.map_append]
      exact ho
  rcases hu.2 with ⟨rfl, c, rfl⟩ | ⟨g, c, rfl, hc, hgl, hr⟩
  · refine wpList_plain hg fun K' hK' => ?_
    have hr := run_append_nil (c := c) h o.type
    unfold Oper.wp
    simp [execOp, hop, resolve, invoke, builtin, hs, hx, hr, Result.andThen]
    exact hK' _ _ (hK v w (by simpa using h) ⟨rfl, rfl, rfl, Nat.le_refl _, fun _ _ _ => rfl⟩)
  · refine go ⟨g, 0, none⟩ zs.length c rfl hx fun j u hj => ?_
    have hjl : j < zs.length := by
      rcases Nat.lt_or_ge j zs.length with h | h
      · exact h
      · rw [List.getElem?_eq_none (by simpa using h)] at hj; simp at hj
    have e : (⟨g, 0, none⟩ : Addr).add j = ⟨g, j, none⟩ := by unfold Addr.add; split <;> simp_all
    rw [e, hr j hjl, ← hj]
    simp [List.getD, hjl]

end Go.Proofs.Ytoohnnkhklifdaa

namespace Go.Proofs.Ytoohnnkhklifdaa
set_option linter.unusedVariables false

/-- Which one a place is in a list. -/
def pos (x : Int) : List Int → Option Nat
  | [] => none
  | y :: l => if y = x then some 0 else (pos x l).map (· + 1)
theorem pos_mem {x : Int} {l : List Int} : (pos x l).isSome = true ↔ x ∈ l := by
  induction l with
  | nil => simp [pos]
  | cons y l ih =>
    unfold pos
    by_cases e : y = x
    · simp [e]
    · rw [if_neg e]
      have e' : ¬ x = y := fun h => e h.symm
      simp [ih, e']
theorem pos_none {x : Int} {l : List Int} (h : x ∉ l) : pos x l = none := by
  cases e : pos x l with
  | none => rfl
  | some k => exact absurd (pos_mem.1 (by rw [e]; rfl)) h
theorem pos_at {x : Int} {l : List Int} {k : Nat} (h : pos x l = some k) : k < l.length ∧ l.getD k 0 = x := by
  induction l generalizing k with
  | nil => simp [pos] at h
  | cons y l ih =>
    unfold pos at h
    by_cases e : y = x
    · rw [if_pos e] at h
      injection h with h
      subst h
      exact ⟨by simp, by simpa using e⟩
    · rw [if_neg e] at h
      cases e2 : pos x l with
      | none => rw [e2] at h; simp at h
      | some j =>
        rw [e2] at h
        simp at h
        subst h
        obtain ⟨h1, h2⟩ := ih e2
        exact ⟨by simp; omega, by simpa using h2⟩
theorem pos_snoc (x y : Int) (l : List Int) (hy : y ∉ l) : pos x (l ++ [y]) = if x = y then some l.length else pos x l := by
  induction l with
  | nil =>
    simp only [List.nil_append, pos, List.length_nil]
    by_cases e : x = y
    · rw [if_pos e, if_pos e.symm]
    · rw [if_neg e, if_neg fun h => e h.symm]; rfl
  | cons z l ih =>
    have h1 : y ∉ l := fun h => hy (List.mem_cons_of_mem _ h)
    have h2 : ¬ y = z := fun h => hy (by rw [h]; exact List.mem_cons_self)
    rw [List.cons_append]
    unfold pos
    rw [ih h1]
    by_cases e : x = y
    · subst e
      rw [if_neg fun h => h2 h.symm, if_pos rfl, if_pos rfl]
      rfl
    · rw [if_neg e, if_neg e]
theorem pos_map {φ : Int → Int} {x : Int} {l : List Int} (h : ∀ y ∈ l, φ y = φ x → y = x) : pos (φ x) (l.map φ) = pos x l := by
  induction l with
  | nil => rfl
  | cons y l ih =>
    rw [List.map_cons]
    unfold pos
    rw [ih fun z hz => h z (List.mem_cons_of_mem _ hz)]
    by_cases e : y = x
    · rw [if_pos e, if_pos (by rw [e])]
    · rw [if_neg e, if_neg fun e' => e (h y List.mem_cons_self e')]

/-- What is told of a place: which one it is, -1 for 0, -2 where it is none. -/
def rankV (o : List Int) (x : Int) : Int := if x = 0 then -1 else ((pos x o).map fun k : Nat => (k : Int)).getD (-2)

/-- One place more, if it is none yet. -/
def add1 (o : List Int) (x : Int) : List Int := if x = 0 ∨ x ∈ o then o else o ++ [x]
def addO (o l : List Int) : List Int := l.foldl add1 o
theorem addO_app (o l m : List Int) : addO o (l ++ m) = addO (addO o l) m := List.foldl_append
theorem addO_take {o l : List Int} {k : Nat} (h : k < l.length) : addO o (l.take (k + 1)) = add1 (addO o (l.take k)) (l.getD k 0) := by
  rw [List.take_succ_eq_append_getElem h, addO_app]
  simp [addO, List.getD, h]
theorem add1_mem {o : List Int} {x y : Int} : y ∈ add1 o x ↔ y ∈ o ∨ (y = x ∧ x ≠ 0) := by
  unfold add1
  by_cases h : x = 0 ∨ x ∈ o
  · rw [if_pos h]
    refine ⟨.inl, fun h' => h'.elim id fun ⟨e, n⟩ => ?_⟩
    rcases h with h | h
    · exact absurd h n
    · rw [e]; exact h
  · rw [if_neg h, List.mem_append, List.mem_singleton]
    exact ⟨fun h' => h'.imp id fun e => ⟨e, fun e0 => h (.inl e0)⟩, fun h' => h'.imp id fun e => e.1⟩
theorem addO_mem {o l : List Int} {y : Int} : y ∈ addO o l ↔ y ∈ o ∨ (y ∈ l ∧ y ≠ 0) := by
  induction l generalizing o with
  | nil => simp [addO]
  | cons x l ih =>
    show y ∈ addO (add1 o x) l ↔ _
    rw [ih, add1_mem, List.mem_cons]
    constructor
    · rintro ((h | ⟨e, n⟩) | ⟨h, n⟩)
      · exact .inl h
      · exact .inr ⟨.inl e, by rw [e]; exact n⟩
      · exact .inr ⟨.inr h, n⟩
    · rintro (h | ⟨e | h, n⟩)
      · exact .inl (.inl h)
      · exact .inl (.inr ⟨e, by rw [← e]; exact n⟩)
      · exact .inr ⟨h, n⟩
/-- Places that are none twice, and none of them is 0. -/
def Ord (o : List Int) : Prop := o.Nodup ∧ (0 : Int) ∉ o
theorem ord_nil : Ord [] := ⟨List.Pairwise.nil, by simp⟩
theorem add1_ord {o : List Int} (h : Ord o) (x : Int) : Ord (add1 o x) := by
  unfold add1
  by_cases e : x = 0 ∨ x ∈ o
  · rw [if_pos e]; exact h
  · rw [if_neg e]
    refine ⟨List.nodup_append.2 ⟨h.1, by simp, fun a ha b hb => ?_⟩, fun hm => ?_⟩
    · have : b = x := by simpa using hb
      subst this
      rintro rfl
      exact e (.inr ha)
    · rcases List.mem_append.1 hm with hm | hm
      · exact h.2 hm
      · exact e (.inl (by simpa using hm : (0 : Int) = x).symm)
theorem addO_ord {o : List Int} (h : Ord o) (l : List Int) : Ord (addO o l) := by
  induction l generalizing o with
  | nil => exact h
  | cons x l ih => exact ih (add1_ord h x)
theorem add1_pre (o : List Int) (x : Int) : ∃ m, add1 o x = o ++ m := by
  unfold add1
  by_cases e : x = 0 ∨ x ∈ o
  · rw [if_pos e]; exact ⟨[], by simp⟩
  · rw [if_neg e]; exact ⟨[x], rfl⟩
theorem addO_pre (o l : List Int) : ∃ m, addO o l = o ++ m := by
  induction l generalizing o with
  | nil => exact ⟨[], by simp [addO]⟩
  | cons x l ih =>
    obtain ⟨m, hm⟩ := add1_pre o x
    obtain ⟨m', hm'⟩ := ih (add1 o x)
    exact ⟨m ++ m', by show addO (add1 o x) l = _; rw [hm', hm, List.append_assoc]⟩
/-- What is in it, or nothing, changes nothing. -/
theorem addO_in {o l : List Int} (h : ∀ x ∈ l, x = 0 ∨ x ∈ o) : addO o l = o := by
  induction l generalizing o with
  | nil => rfl
  | cons x l ih =>
    have e : add1 o x = o := by unfold add1; rw [if_pos (h x List.mem_cons_self)]
    show addO (add1 o x) l = o
    rw [e]
    exact ih fun y hy => h y (List.mem_cons_of_mem _ hy)
theorem addO_map {φ : Int → Int} {o l : List Int} (h0 : ∀ x ∈ l, φ x = 0 ↔ x = 0) (hi : ∀ x ∈ l, ∀ y, y ∈ o ∨ y ∈ l → φ y = φ x → y = x) : addO (o.map φ) (l.map φ) = (addO o l).map φ := by
  induction l generalizing o with
  | nil => rfl
  | cons x l ih =>
    have e : add1 (o.map φ) (φ x) = (add1 o x).map φ := by
      unfold add1
      have h1 := h0 x List.mem_cons_self
      have h2 : φ x ∈ o.map φ ↔ x ∈ o := by
        rw [List.mem_map]
        exact ⟨fun ⟨y, hy, e⟩ => by rw [← hi x List.mem_cons_self y (.inl hy) e]; exact hy, fun h => ⟨x, h, rfl⟩⟩
      by_cases e : x = 0 ∨ x ∈ o
      · rw [if_pos e, if_pos (by rw [h1, h2]; exact e)]
      · rw [if_neg e, if_neg (by rw [h1, h2]; exact e)]
        simp
    show addO (add1 (o.map φ) (φ x)) (l.map φ) = (addO (add1 o x) l).map φ
    rw [e]
    refine ih (fun y hy => h0 y (List.mem_cons_of_mem _ hy)) fun y hy z hz e => hi y (List.mem_cons_of_mem _ hy) z ?_ e
    rcases hz with hz | hz
    · rcases add1_mem.1 hz with h | ⟨rfl, _⟩
      · exact .inl h
      · exact .inr List.mem_cons_self
    · exact .inr (List.mem_cons_of_mem _ hz)

theorem nodup_len {o V : List Int} (h : o.Nodup) (hs : ∀ x ∈ o, x ∈ V) : o.length ≤ V.length := by
  induction o generalizing V with
  | nil => simp
  | cons x o ih =>
    have hx := hs x List.mem_cons_self
    have hn := List.nodup_cons.1 h
    have := ih hn.2 (V := V.erase x) fun y hy => (List.mem_erase_of_ne fun e => hn.1 (by rw [← e]; exact hy)).2 (hs y (List.mem_cons_of_mem _ hy))
    rw [List.length_erase_of_mem hx] at this
    have h1 : 0 < V.length := List.length_pos_of_mem hx
    simp
    omega

/-- On from the i-th place, as long as there are more. -/
def goO (G : Int → List Int) : Nat → List Int → Nat → List Int
  | 0, o, _ => o
  | n + 1, o, i => if i < o.length then goO G n (addO o (G (o.getD i 0))) (i + 1) else o
def reachO (G : Int → List Int) (n : Nat) (r : List Int) : List Int := goO G n (addO [] r) 0
theorem goO_end {G : Int → List Int} {n : Nat} {o : List Int} {i : Nat} (h : o.length ≤ i) : goO G n o i = o := by
  cases n with
  | zero => rfl
  | succ n => unfold goO; rw [if_neg (by omega)]

/-- Closed up to the i-th, whatever is in it is a root or what one ahead of it points to. -/
structure Inv (G : Int → List Int) (V r o : List Int) (i : Nat) : Prop where
  ord : Ord o
  sub : ∀ x ∈ o, x ∈ V
  roots : ∀ x ∈ r, x ≠ 0 → x ∈ o
  shut : ∀ j, j < i → ∀ y ∈ G (o.getD j 0), y ≠ 0 → y ∈ o
  from_ : ∀ j, j < o.length → o.getD j 0 ∈ r ∨ ∃ t, t < j ∧ o.getD j 0 ∈ G (o.getD t 0)
  le : i ≤ o.length
theorem inv_start {G : Int → List Int} {V r : List Int} (h : ∀ x ∈ r, x = 0 ∨ x ∈ V) : Inv G V r (addO [] r) 0 :=
  ⟨addO_ord ord_nil r, fun x hx => by
    rcases addO_mem.1 hx with h' | ⟨h1, h2⟩
    · simp at h'
    · exact (h x h1).resolve_left h2, fun x hx hn => addO_mem.2 (.inr ⟨hx, hn⟩), fun j hj => by omega, fun j hj => .inl (by
      have hm : (addO [] r).getD j 0 ∈ addO [] r := by
        rw [List.getD_eq_getElem?_getD, List.getElem?_eq_getElem hj]
        exact List.getElem_mem _
      rcases addO_mem.1 hm with h' | h'
      · simp at h'
      · exact h'.1), Nat.zero_le _⟩
theorem getD_mem {o : List Int} {j : Nat} (hj : j < o.length) : o.getD j 0 ∈ o := by
  rw [List.getD_eq_getElem?_getD, List.getElem?_eq_getElem hj]
  exact List.getElem_mem _
theorem getD_app {o m : List Int} {j : Nat} (hj : j < o.length) : (o ++ m).getD j 0 = o.getD j 0 := by
  rw [List.getD_eq_getElem?_getD, List.getElem?_append_left hj, List.getD_eq_getElem?_getD]
theorem Inv.step {G : Int → List Int} {V r o : List Int} {i : Nat} (h : Inv G V r o i) (hi : i < o.length) (hG : ∀ x ∈ V, ∀ y ∈ G x, y = 0 ∨ y ∈ V) : Inv G V r (addO o (G (o.getD i 0))) (i + 1) := by
  obtain ⟨m, hm⟩ := addO_pre o (G (o.getD i 0))
  have hO := addO_ord h.ord (G (o.getD i 0))
  have hM : ∀ {y}, y ∈ addO o (G (o.getD i 0)) ↔ y ∈ o ∨ (y ∈ G (o.getD i 0) ∧ y ≠ 0) := addO_mem
  have hV := hG _ (h.sub _ (getD_mem hi))
  rw [hm] at hO hM ⊢
  refine ⟨hO, fun x hx => ?_, fun x hx hn => List.mem_append_left _ (h.roots x hx hn), fun j hj y hy hn => ?_, fun j hj => ?_, by simp; omega⟩
  · rcases hM.1 hx with h' | ⟨h1, h2⟩
    · exact h.sub x h'
    · exact (hV x h1).resolve_left h2
  · rw [getD_app (by omega)] at hy
    by_cases e : j = i
    · subst e; exact hM.2 (.inr ⟨hy, hn⟩)
    · exact List.mem_append_left _ (h.shut j (by omega) y hy hn)
  · by_cases e : j < o.length
    · rw [getD_app e]
      refine (h.from_ j e).imp id fun ⟨t, ht, hy⟩ => ⟨t, ht, ?_⟩
      rw [getD_app (by omega)]
      exact hy
    · refine .inr ⟨i, by omega, ?_⟩
      rw [getD_app (m := m) hi]
      have hme : (o ++ m).getD j 0 ∈ m := by
        rw [List.getD_eq_getElem?_getD, List.getElem?_append_right (by omega), List.getElem?_eq_getElem (by simp at hj; omega)]
        exact List.getElem_mem _
      have hno : (o ++ m).getD j 0 ∉ o := fun h' => (List.nodup_append.1 hO.1).2.2 _ h' _ hme rfl
      rcases hM.1 (List.mem_append_right o hme) with h' | h'
      · exact absurd h' hno
      · exact h'.1
theorem Inv.len {G : Int → List Int} {V r o : List Int} {i : Nat} (h : Inv G V r o i) : o.length ≤ V.length := nodup_len h.ord.1 h.sub

/-- All that one comes to. -/
theorem goO_inv {G : Int → List Int} {V r o : List Int} {i n : Nat} (h : Inv G V r o i) (hn : V.length ≤ i + n) (hG : ∀ x ∈ V, ∀ y ∈ G x, y = 0 ∨ y ∈ V) : Inv G V r (goO G n o i) (goO G n o i).length := by
  induction n generalizing o i with
  | zero =>
    have := h.len
    have h1 : i = o.length := by have := h.le; omega
    subst h1
    exact h
  | succ n ih =>
    unfold goO
    by_cases e : i < o.length
    · rw [if_pos e]
      exact ih (h.step e hG) (by omega)
    · rw [if_neg e]
      have h1 : i = o.length := by have := h.le; omega
      subst h1
      exact h
theorem reachO_inv {G : Int → List Int} {V r : List Int} (h : ∀ x ∈ r, x = 0 ∨ x ∈ V) (hG : ∀ x ∈ V, ∀ y ∈ G x, y = 0 ∨ y ∈ V) : Inv G V r (reachO G V.length r) (reachO G V.length r).length :=
  goO_inv (inv_start h) (by omega) hG

/-- From more roots one comes to all that one comes to from fewer. -/
theorem inv_grow {G : Int → List Int} {V r s o p : List Int} (h : Inv G V r o o.length) (g : Inv G V s p p.length) (hs : ∀ x ∈ r, x ∈ s) : ∀ x ∈ o, x ∈ p := by
  have key : ∀ j, j < o.length → o.getD j 0 ∈ p := by
    intro j
    induction j using Nat.strongRecOn with
    | _ j ih =>
      intro hj
      have hn : o.getD j 0 ≠ 0 := fun e => h.ord.2 (by rw [← e]; exact getD_mem hj)
      rcases h.from_ j hj with h' | ⟨t, ht, h'⟩
      · exact g.roots _ (hs _ h') hn
      · have h1 := ih t ht (by omega)
        obtain ⟨k, hk⟩ := Option.isSome_iff_exists.1 (pos_mem.2 h1)
        obtain ⟨hk1, hk2⟩ := pos_at hk
        exact g.shut k hk1 _ (by rw [hk2]; exact h') hn
  intro x hx
  obtain ⟨k, hk⟩ := Option.isSome_iff_exists.1 (pos_mem.2 hx)
  obtain ⟨hk1, hk2⟩ := pos_at hk
  rw [← hk2]
  exact key k hk1

/-- Wherever they lie, in the same order. -/
theorem goO_map {φ : Int → Int} {G H : Int → List Int} {V o : List Int} (n i : Nat) (hs : ∀ x ∈ o, x ∈ V) (hG : ∀ x ∈ V, ∀ y ∈ G x, y = 0 ∨ y ∈ V) (hH : ∀ x ∈ V, H (φ x) = (G x).map φ) (h0 : φ 0 = 0) (hn : ∀ x ∈ V, φ x ≠ 0) (hi : ∀ x ∈ V, ∀ y ∈ V, φ y = φ x → y = x) :
    goO H n (o.map φ) i = (goO G n o i).map φ := by
  induction n generalizing o i with
  | zero => rfl
  | succ n ih =>
    unfold goO
    rw [List.length_map]
    by_cases e : i < o.length
    · rw [if_pos e, if_pos e]
      have e1 : (o.map φ).getD i 0 = φ (o.getD i 0) := by simp [List.getD, e]
      have hv := hs _ (getD_mem e)
      have hz : ∀ x, x = 0 ∨ x ∈ V → (φ x = 0 ↔ x = 0) := fun x hx => ⟨fun e => hx.elim id fun h => absurd e (hn x h), fun e => by rw [e, h0]⟩
      rw [e1, hH _ hv, addO_map (fun x hx => hz x (hG _ hv x hx)) (fun x hx y hy e => ?_)]
      · exact ih (i + 1) fun x hx => by
          rcases addO_mem.1 hx with h | ⟨h, hne⟩
          · exact hs x h
          · exact (hG _ hv x h).resolve_left hne
      · have hx' := hG _ hv x hx
        have hy' : y = 0 ∨ y ∈ V := hy.elim (fun h => .inr (hs y h)) (fun h => hG _ hv y h)
        by_cases ex : x = 0
        · subst ex; rw [h0] at e; exact (hz y hy').1 e
        · by_cases ey : y = 0
          · subst ey; rw [h0] at e; exact ((hz x hx').1 e.symm).symm
          · exact hi x (hx'.resolve_left ex) y (hy'.resolve_left ey) e
    · rw [if_neg e, if_neg e]
theorem reachO_map {φ : Int → Int} {G H : Int → List Int} {V r : List Int} (n : Nat) (hr : ∀ x ∈ r, x = 0 ∨ x ∈ V) (hG : ∀ x ∈ V, ∀ y ∈ G x, y = 0 ∨ y ∈ V) (hH : ∀ x ∈ V, H (φ x) = (G x).map φ) (h0 : φ 0 = 0) (hn : ∀ x ∈ V, φ x ≠ 0) (hi : ∀ x ∈ V, ∀ y ∈ V, φ y = φ x → y = x) :
    reachO H n (r.map φ) = (reachO G n r).map φ := by
  have hz : ∀ x, x = 0 ∨ x ∈ V → (φ x = 0 ↔ x = 0) := fun x hx => ⟨fun e => hx.elim id fun h => absurd e (hn x h), fun e => by rw [e, h0]⟩
  have e : addO [] (r.map φ) = (addO [] r).map φ := by
    refine addO_map (o := []) (fun x hx => hz x (hr x hx)) fun x hx y hy e => ?_
    have hx' := hr x hx
    have hy' : y = 0 ∨ y ∈ V := hy.elim (fun h => by simp at h) (fun h => hr y h)
    by_cases ex : x = 0
    · subst ex; rw [h0] at e; exact (hz y hy').1 e
    · by_cases ey : y = 0
      · subst ey; rw [h0] at e; exact ((hz x hx').1 e.symm).symm
      · exact hi x (hx'.resolve_left ex) y (hy'.resolve_left ey) e
  unfold reachO
  rw [e]
  exact goO_map n 0 (fun x hx => by
    rcases addO_mem.1 hx with h | ⟨h, hne⟩
    · simp at h
    · exact (hr x h).resolve_left hne) hG hH h0 hn hi
/-- Roots told twice, or nothing among them. -/
theorem reachO_again (G : Int → List Int) (n : Nat) (r : List Int) : reachO G n ([0] ++ r ++ [0] ++ r) = reachO G n r := by
  unfold reachO
  have e : addO [] ([0] ++ r ++ [0] ++ r) = addO [] r := by
    rw [addO_app, addO_app, addO_app]
    have e0 : ∀ o, addO o [0] = o := fun o => addO_in fun x hx => .inl (by simpa using hx)
    rw [e0, e0]
    exact addO_in fun x hx => by
      by_cases h : x = 0
      · exact .inl h
      · exact .inr (addO_mem.2 (.inr ⟨hx, h⟩))
  rw [e]
/-- What is told of a place, wherever it lies. -/
theorem rankV_map {φ : Int → Int} {o V : List Int} {x : Int} (hs : ∀ y ∈ o, y ∈ V) (hx : x = 0 ∨ x ∈ V) (h0 : φ 0 = 0) (hn : ∀ x ∈ V, φ x ≠ 0) (hi : ∀ x ∈ V, ∀ y ∈ V, φ y = φ x → y = x) : rankV (o.map φ) (φ x) = rankV o x := by
  unfold rankV
  by_cases e : x = 0
  · rw [if_pos e, if_pos (by rw [e, h0])]
  · have hv := hx.resolve_left e
    rw [if_neg e, if_neg (hn x hv), pos_map fun y hy => hi x hv y (hs y hy)]

end Go.Proofs.Ytoohnnkhklifdaa

namespace Go.Proofs.Ytoohnnkhklifdaa
open Go.ChangeShapes Go.WideShapes Go.ChangeAt Go.RowKit

set_option linter.unusedSimpArgs false
set_option linter.unusedVariables false

theorem cmpNaN_no (a : Int) (w : World) : Calls Try.prog 78 #[.int .i64 a] w fun e w' => e = .returned (.bool false) ∧ w' = w := by
  go_enter Try.func78, Try.ntmps78
  go_wp2
  go_ret
  exact ⟨by simp, rfl⟩
theorem slicesNaN_no (a : Int) (w : World) : Calls Try.prog 68 #[.int .i64 a] w fun e w' => e = .returned (.bool false) ∧ w' = w := by
  go_enter Try.func68, Try.ntmps68
  go_wp2
  go_ret
  exact ⟨by simp, rfl⟩
theorem less_any (a b : Int) (w : World) : Calls Try.prog 67 #[.int .i64 a, .int .i64 b] w fun e w' => e = .returned (.bool (decide (a < b))) ∧ w' = w := by
  go_enter Try.func67, Try.ntmps67
  go_wp2_with (refine (cmpNaN_no _ _).mono ?_; rintro e x ⟨rfl, rfl⟩)
  go_ret
  exact ⟨by simp, rfl⟩

/-- Numbers that rise. -/
def Rises (xs : List Int) : Prop := ∀ i j, i < j → j < xs.length → xs.getD i 0 < xs.getD j 0
theorem Rises.mem_at {xs : List Int} {i : Nat} {t : Int} (h : Rises xs) (hlo : ∀ k, k < i → xs.getD k 0 < t) (hhi : ∀ k, i ≤ k → k < xs.length → t ≤ xs.getD k 0) (hi : i < xs.length) : (xs.getD i 0 == t) = decide (t ∈ xs) := by
  by_cases e : xs.getD i 0 = t
  · rw [decide_eq_true (by rw [← e]; exact getD_mem hi)]; simpa using e
  · rw [decide_eq_false fun hm => ?_]
    · simpa using e
    · obtain ⟨k, hk, hkt⟩ := List.mem_iff_getElem.1 hm
      have hkt' : xs.getD k 0 = t := by simp [List.getD, hk, hkt]
      rcases Nat.lt_trichotomy k i with h1 | h1 | h1
      · have := hlo k h1; omega
      · subst h1; exact e hkt'
      · have := h i k h1 hk; have := hhi i (Nat.le_refl _) hi; omega
theorem Rises.not_mem {xs : List Int} {t : Int} (hlo : ∀ k, k < xs.length → xs.getD k 0 < t) : t ∉ xs := fun hm => by
  obtain ⟨k, hk, hkt⟩ := List.mem_iff_getElem.1 hm
  have hkt' : xs.getD k 0 = t := by simp [List.getD, hk, hkt]
  have := hlo k hk
  omega

set_option maxRecDepth 100000 in
set_option maxHeartbeats 4000000 in
theorem search_any (v : Value) (xs : List Int) (t : Int) (w : World) (hv : ReadsAs .i64 w v xs) (hs : Rises xs) (hl : xs.length ≤ 100000) :
    Calls Try.prog 45 #[v, .int .i64 t] w fun e w' => (∃ i : Int, e = .returned (.tuple #[.int .i64 i, .bool (decide (t ∈ xs))])) ∧ Below w.heap.size w w' := by
  obtain ⟨va, vc, rfl, hr⟩ := hv.slice
  have HR := Lib.hid hr
  clear hr hv
  obtain ⟨n, hn⟩ : ∃ n, xs.length = n := ⟨_, rfl⟩
  have Hn := Lib.hid hn
  rw [hn] at hl ⊢
  have hne : n = 0 → xs = [] := fun h => List.eq_nil_of_length_eq_zero (by omega)
  clear hn
  go_enter Try.func45, Try.ntmps45
  go_wp2
  go_loopw [7, 8] (fun i j wr => ∃ (a b : Nat), a ≤ b ∧ b ≤ n ∧ i = .int .i64 a ∧ j = .int .i64 b ∧ Hid ((∀ k, k < a → xs.getD k 0 < t) ∧ (∀ k, b ≤ k → k < n → t ≤ xs.getD k 0)) ∧ Below w.heap.size w wr) (fun i j _ => (intOf j - intOf i).toNat)
  case atStart => exact ⟨0, n, by omega, by omega, rfl, rfl, Lib.hid ⟨fun k h => by omega, fun k h1 h2 => by omega⟩, Below.refl _ _⟩
  case round =>
    obtain ⟨a, b, hab, hbn, rfl, rfl, hI, hB⟩ := hrel
    by_cases hlt : a < b
    · obtain ⟨g, e, hg, hc, hcell⟩ := HR.out (by rw [Hn.out]; omega)
      subst e
      obtain ⟨m, hm⟩ : ∃ m, (a + b) / 2 = m := ⟨_, rfl⟩
      have c0 := (hB.cell (p := ⟨g, m, none⟩) hg).trans (hcell m (by rw [Hn.out]; omega))
      have m1 : ((IntKind.i64.wrap ((a : Int) + (b : Int)))) = ((a + b : Nat) : Int) := by rw [IntWalk.i64_in _ (by omega)]; omega
      have m0 : (0 : Int) ≤ (m : Int) := by omega
      have m2 : (m : Int) < (n : Int) := by omega
      have m3 : IntKind.u64.wrap ((a + b : Nat) : Int) = ((a + b : Nat) : Int) := by rw [IntKind.wrap_u64]; omega
      have m4 : IntKind.i64.wrap ((m : Nat) : Int) = (m : Int) := IntWalk.i64_in _ (by omega)
      have m5 : ((a : Int) + (b : Int)) / 2 = (m : Int) := by omega
      have M5 := Lib.hid m5
      clear m5
      have hlow : Hid (xs.getD m 0 < t → ∀ k, k < m + 1 → xs.getD k 0 < t) := Lib.hid fun h k hk => by
        by_cases e : k = m
        · subst e; exact h
        · have := hs k m (by omega) (by rw [Hn.out]; omega); omega
      have hhigh : Hid (¬ xs.getD m 0 < t → ∀ k, m ≤ k → k < n → t ≤ xs.getD k 0) := Lib.hid fun h k h1 h2 => by
        by_cases e : k = m
        · subst e; omega
        · have := hs m k (by omega) (by rw [Hn.out]; omega); omega
      clear hcell HR
      obtain ⟨q, hq⟩ : ∃ q, xs.getD m 0 = q := ⟨_, rfl⟩
      rw [hq] at c0 hlow hhigh
      clear hq
      go_wp2_with fail
      refine (less_any _ _ _).mono ?_
      rintro e x ⟨rfl, rfl⟩
      by_cases hqt : q < t
      · have d0 : decide (q < t) = true := decide_eq_true hqt
        go_wp2
        go_roundw
        case rel => exact ⟨m + 1, b, by omega, by omega, by go_num, rfl, Lib.hid ⟨hlow.out hqt, hI.out.2⟩, hB⟩
        case measure => simp [intOf]; omega
      · have d0 : decide (q < t) = false := decide_eq_false hqt
        go_wp2
        go_roundw
        case rel => exact ⟨a, m, by omega, by omega, rfl, by rw [M5.out], Lib.hid ⟨hI.out.1, hhigh.out hqt⟩, hB⟩
        case measure => simp [intOf]; omega
    · obtain rfl : a = b := by omega
      by_cases han : a < n
      · obtain ⟨g, e, hg, hc, hcell⟩ := HR.out (by rw [Hn.out]; omega)
        subst e
        have c0 := (hB.cell (p := ⟨g, a, none⟩) hg).trans (hcell a (by rw [Hn.out]; omega))
        have hM := hs.mem_at hI.out.1 (fun k h1 h2 => hI.out.2 k h1 (by rw [← Hn.out]; exact h2)) (by rw [Hn.out]; exact han)
        have m0 : (0 : Int) ≤ (a : Int) := by omega
        have m2 : (a : Int) < (n : Int) := by omega
        clear hcell HR hI
        obtain ⟨q, hq⟩ : ∃ q, xs.getD a 0 = q := ⟨_, rfl⟩
        rw [hq] at c0 hM
        clear hq
        have HM := Lib.hid hM
        clear hM
        by_cases hqt : q = t
        · subst hqt
          have d0 : (q == q) = true := by simp
          go_wp2
          go_ret2
          exact ⟨⟨(a : Int), by rw [← HM.out]; simp⟩, hB⟩
        · have d0 : (q == t) = false := by simpa using hqt
          go_wp2_with (refine (slicesNaN_no _ _).mono ?_; rintro e x ⟨rfl, rfl⟩)
          go_ret2
          exact ⟨⟨(a : Int), by rw [← HM.out, d0]; rfl⟩, hB⟩
      · have hN := Rises.not_mem (xs := xs) (t := t) fun k hk => hI.out.1 k (by rw [Hn.out] at hk; omega)
        have HN := Lib.hid (decide_eq_false hN)
        have d0 : decide ((a : Int) < (n : Int)) = false := decide_eq_false (by omega)
        go_wp2
        go_ret2
        exact ⟨⟨(a : Int), by rw [HN.out]; rfl⟩, hB⟩

end Go.Proofs.Ytoohnnkhklifdaa

namespace Go.Proofs.Ytoohnnkhklifdaa
open Go.ChangeShapes Go.WideShapes Go.ChangeAt Go.RowKit

set_option linter.unusedSimpArgs false
set_option linter.unusedVariables false

section
variable {P b : Nat} {l : List Int}
theorem at_zero (w : World) (h : ArenaAt 76 w P b l) (hl : 0 < l.length) (h0 : l.getD 0 0 = 0) :
    Calls Try.prog 46 #[.pointer (some ⟨P, 0, none⟩), .int .i64 0] w fun e w' => e = .returned (.tuple #[.int .i64 0, .bool false]) ∧ Below w.heap.size w w' := by
  have HL : Calls Try.prog 54 #[.pointer (some ⟨P, 0, none⟩), .int .i64 0] w _ := load_there 0 w h hl
  rw [h0] at HL
  have HW := where_any 0 (by omega)
  rw [show isGone 0 = false from by decide] at HW
  clear h
  go_enter Try.func46, Try.ntmps46
  go_wp2_with fail
  refine HL.mono ?_
  rintro e x ⟨rfl, rfl⟩
  go_wp2_with fail
  refine (HW _).mono ?_
  rintro e y ⟨rfl, hb⟩
  go_wp2
  go_ret2
  exact ⟨rfl, hb⟩

set_option maxHeartbeats 2000000 in
theorem copy_gone (a n sb sz st : Nat) (w : World) (h : ArenaAt 76 w P b l) (ha : a < l.length) (h0 : 1 ≤ n) (h1 : n ≤ 131072) (hg : l.getD a 0 = (2 + n * 4 : Nat)) :
    Calls Try.prog 27 #[.pointer (some ⟨P, 0, none⟩), .int .i64 a, spV sb sz st] w fun e w' => e = .returned (.tuple #[spV sb sz st, .int .i64 n, .int .i64 0]) ∧ Below w.heap.size w w' := by
  have hlt := h.lt
  have HA := fun x (hx : ArenaAt 76 x P b l) => at_gone a n x hx ha h0 h1 hg
  clear hg
  obtain ⟨k1, k2, hB⟩ := two_new w #[.int .i64 sb, .int .i64 sz, .int .i64 st] #[.int .i64 0, .int .i64 0, .int .i64 0] 47 47
  go_enter Try.func27, Try.ntmps27
  go_wp2_with fail
  generalize (w.alloc (.cells #[.int .i64 sb, .int .i64 sz, .int .i64 st] 47)).alloc (.cells #[.int .i64 0, .int .i64 0, .int .i64 0] 47) = x at *
  refine (HA _ (h.below hB hlt.1 hlt.2)).mono ?_
  rintro e y ⟨rfl, hb⟩
  replace k1 := k1.more hb (Nat.le_refl _)
  replace k2 := k2.more hb (Nat.le_refl _)
  replace hB := hB.trans (hb.mono hB.size)
  clear hb x HA
  obtain ⟨⟨c0, c1, c2⟩, f0, f1, f2⟩ := blk3 k1
  obtain ⟨⟨d0, d1, d2⟩, g0, g1, g2⟩ := blk3 k2
  go_wp2
  have hE := ((k2.set 0 (.int .i64 sb)).set 1 (.int .i64 sz)).set 2 (.int .i64 st)
  obtain ⟨⟨e0, e1, e2⟩, _⟩ := blk3 hE
  refine bodyPost_ret (v := .tuple #[spV sb sz st, .int .i64 n, .int .i64 0]) ?_ rfl ⟨rfl, ?_⟩
  · simp [results, Try.f27, go_sem, e0, e1, e2]
  · exact ((hB.setCell (p := ⟨w.heap.size + 1, 0, none⟩) (by simp) (.int .i64 sb)).setCell (p := ⟨w.heap.size + 1, 1, none⟩) (by simp) (.int .i64 sz)).setCell (p := ⟨w.heap.size + 1, 2, none⟩) (by simp) (.int .i64 st)

end

end Go.Proofs.Ytoohnnkhklifdaa

namespace Go.Proofs.Ytoohnnkhklifdaa
open Go.ChangeShapes Go.WideShapes Go.ChangeAt Go.RowKit

set_option linter.unusedSimpArgs false
set_option linter.unusedVariables false

def hpC (P b0 z t0 b1 t1 : Nat) (v0 v1 : Value) (u : Nat) (mv : Bool) (ow sc se : Nat) (v2 v3 : Value) : Array Value :=
  #[.pointer (some ⟨P, 0, none⟩), .int .i64 b0, .int .i64 z, .int .i64 t0, .int .i64 b1, .int .i64 z, .int .i64 t1, v0, v1, .int .i64 u, .bool mv, .int .i64 ow, .int .i64 sc, .int .i64 se, v2, v3]
def nums (l : List Nat) : List Int := l.map fun n : Nat => (n : Int)
theorem nums_length (l : List Nat) : (nums l).length = l.length := by unfold nums; simp
theorem nums_snoc (l : List Nat) (a : Nat) : nums (l ++ [a]) = nums l ++ [(a : Int)] := by unfold nums; simp
theorem nums_getD {l : List Nat} {i : Nat} (h : i < l.length) : (nums l).getD i 0 = ((l.getD i 0 : Nat) : Int) := by unfold nums; simp [List.getD, h]
theorem mem_nums {l : List Nat} {n : Nat} : (n : Int) ∈ nums l ↔ n ∈ l := by
  unfold nums
  rw [List.mem_map]
  exact ⟨fun ⟨a, ha, e⟩ => by rw [← show a = n from by omega]; exact ha, fun h => ⟨n, h, rfl⟩⟩
/-- A row of the heap's own. -/
abbrev RowIs (w : World) (v : Value) (l : List Nat) : Prop := w.ownsRow 0 3 1 v l.length ((nums l).map (Value.int .i64))
theorem RowIs.reads {w : World} {v : Value} {l : List Nat} (h : RowIs w v l) : ReadsAs .i64 w v (nums l) := readsAs_of_owns h
theorem RowIs.chg {w x : World} {v : Value} {l : List Nat} {S : Nat → Prop} (h : RowIs w v l) (hc : Chg S w x) (hs : ∀ g, v.ownBlock = some g → ¬ S g) : RowIs x v l := by
  refine ⟨h.1, h.2.imp id ?_⟩
  rintro ⟨g, cap, cur, rfl, hb, hh, r⟩
  exact ⟨g, cap, cur, rfl, hb, (hc.block g (Array.getElem?_eq_some_iff.1 hh).1 (hs g rfl)).trans hh, r⟩
theorem RowIs.lt {w : World} {v : Value} {l : List Nat} (h : RowIs w v l) {g : Nat} (e : v.ownBlock = some g) : g < w.heap.size := (World.ownsRow.lt h g e).2
theorem RowIs.int {w : World} {v : Value} {l : List Nat} (h : RowIs w v l) {g : Nat} (e : v.ownBlock = some g) : ∃ cur, w.heap[g]? = some (.cells cur 3 (0, 0)) := (own_block h e.symm).2
/-- A row is no block of another type. -/
theorem RowIs.ne {w : World} {v : Value} {l : List Nat} (h : RowIs w v l) {k : Nat} {cs : Array Value} {ty : TypeId} (hk : BlkIs w k cs ty) (ht : 3 ≠ ty) : v.ownBlock ≠ some k := fun e => by
  obtain ⟨cur, hh⟩ := h.int e
  unfold BlkIs at hk
  rw [hk] at hh
  injection hh with hh
  injection hh with _ hh
  exact ht hh.symm

/-- The blocks of a heap. -/
def Foot (H P b : Nat) (v0 v1 v2 v3 : Value) (k : Nat) : Prop := k = H ∨ k = P ∨ k = b ∨ v0.ownBlock = some k ∨ v1.ownBlock = some k ∨ v2.ownBlock = some k ∨ v3.ownBlock = some k
structure HeapIn (w : World) (H P b : Nat) (v0 v1 v2 v3 : Value) (s : Hp) : Prop where
  blk : BlkIs w H (hpC P (s.base 0) s.z (s.top 0) (s.base 1) (s.top 1) v0 v1 s.u s.mv s.ow s.sc s.se v2 v3) 53
  ar : ArenaAt 76 w P b s.l
  r0 : RowIs w v0 (s.pl 0)
  r1 : RowIs w v1 (s.pl 1)
  r2 : RowIs w v2 s.wk
  r3 : RowIs w v3 s.fi
  apart : ∀ g, (v0.ownBlock = some g → v1.ownBlock ≠ some g ∧ v2.ownBlock ≠ some g ∧ v3.ownBlock ≠ some g) ∧ (v1.ownBlock = some g → v2.ownBlock ≠ some g ∧ v3.ownBlock ≠ some g) ∧ (v2.ownBlock = some g → v3.ownBlock ≠ some g)
def HeapAt (w : World) (K : Nat → Prop) (H : Nat) (s : Hp) : Prop := ∃ P b v0 v1 v2 v3, HeapIn w H P b v0 v1 v2 v3 s ∧ ∀ k, Foot H P b v0 v1 v2 v3 k → K k
/-- What a call leaves: the heap is as s, its blocks are those it had, and new ones; no other has turned. -/
def Went (w : World) (K : Nat → Prop) (H : Nat) (s : Hp) (w' : World) : Prop := ∃ K', HeapAt w' K' H s ∧ (∀ k, K' k → K k ∨ w.heap.size ≤ k) ∧ Chg K w w'

section
variable {w x : World} {K : Nat → Prop} {H P b : Nat} {v0 v1 v2 v3 : Value} {s s1 s2 : Hp} {S : Nat → Prop}
theorem HeapIn.chg (h : HeapIn w H P b v0 v1 v2 v3 s) (hc : Chg S w x) (hs : ∀ k, Foot H P b v0 v1 v2 v3 k → ¬ S k) : HeapIn x H P b v0 v1 v2 v3 s :=
  ⟨h.blk.chg hc (hs _ (.inl rfl)), h.ar.chg hc (hs _ (.inr (.inl rfl))) (hs _ (.inr (.inr (.inl rfl)))), h.r0.chg hc fun g e => hs g (.inr (.inr (.inr (.inl e)))), h.r1.chg hc fun g e => hs g (.inr (.inr (.inr (.inr (.inl e))))),
    h.r2.chg hc fun g e => hs g (.inr (.inr (.inr (.inr (.inr (.inl e)))))), h.r3.chg hc fun g e => hs g (.inr (.inr (.inr (.inr (.inr (.inr e)))))), h.apart⟩
theorem HeapIn.lt (h : HeapIn w H P b v0 v1 v2 v3 s) {k : Nat} (hk : Foot H P b v0 v1 v2 v3 k) : k < w.heap.size := by
  rcases hk with rfl | rfl | rfl | e | e | e | e
  · exact h.blk.lt
  · exact h.ar.head.lt
  · exact h.ar.row.lt
  · exact h.r0.lt e
  · exact h.r1.lt e
  · exact h.r2.lt e
  · exact h.r3.lt e
theorem HeapIn.on (h : HeapIn w H P b v0 v1 v2 v3 s) (hb : Below w.heap.size w x) : HeapIn x H P b v0 v1 v2 v3 s :=
  h.chg (S := fun _ => False) (Chg.of_below hb (Nat.le_refl _)) fun _ _ h => h
theorem HeapAt.chg (h : HeapAt w K H s) (hc : Chg S w x) (hs : ∀ k, K k → k < w.heap.size → ¬ S k) : HeapAt x K H s := by
  obtain ⟨P, b, v0, v1, v2, v3, h1, h2⟩ := h
  exact ⟨P, b, v0, v1, v2, v3, h1.chg hc fun k hk => hs k (h2 k hk) (h1.lt hk), h2⟩
theorem HeapAt.on (h : HeapAt w K H s) (hb : Below w.heap.size w x) : HeapAt x K H s := h.chg (S := fun _ => False) (Chg.of_below hb (Nat.le_refl _)) fun _ _ _ h => h
/-- Only what it has really counts. -/
theorem HeapAt.tight (h : HeapAt w K H s) : HeapAt w (fun k => K k ∧ k < w.heap.size) H s := by
  obtain ⟨P, b, v0, v1, v2, v3, h1, h2⟩ := h
  exact ⟨P, b, v0, v1, v2, v3, h1, fun k hk => ⟨h2 k hk, h1.lt hk⟩⟩
theorem Went.of_below (h : HeapAt w K H s) (hb : Below w.heap.size w x) : Went w K H s x := ⟨K, h.on hb, fun _ h => .inl h, Chg.of_below hb (Nat.le_refl _)⟩
theorem Went.trans {y : World} (h : Went w K H s1 x) (g : ∀ K', HeapAt x K' H s1 → Went x K' H s2 y) : Went w K H s2 y := by
  obtain ⟨K1, h1, h2, h3⟩ := h
  obtain ⟨K2, g1, g2, g3⟩ := g K1 h1
  refine ⟨K2, g1, fun k hk => ?_, h3.step g3 fun k hk => h2 k hk⟩
  rcases g2 k hk with e | e
  · exact h2 k e
  · exact .inr (Nat.le_trans h3.size e)
theorem Went.refl (h : HeapAt w K H s) : Went w K H s w := ⟨K, h, fun _ h => .inl h, Chg.refl _ _⟩
theorem Went.on {y : World} (h : Went w K H s x) (hb : Below x.heap.size x y) : Went w K H s y := h.trans fun _ h' => Went.of_below h' hb
theorem Went.size {y : World} (h : Went w K H s y) : w.heap.size ≤ y.heap.size := by obtain ⟨_, _, _, h⟩ := h; exact h.size
/-- Another heap, or any other block, is as it was. -/
theorem Went.far {L : Nat → Prop} {G : Nat} {r : Hp} (h : Went w K H s x) (g : HeapAt w L G r) (hd : ∀ k, L k → ¬ K k) : HeapAt x L G r := by
  obtain ⟨_, _, _, hc⟩ := h
  exact g.chg hc fun k hk _ => hd k hk
theorem Went.blk {y : World} {k : Nat} {cs : Array Value} {ty : TypeId} (h : Went w K H s y) (g : BlkIs w k cs ty) (hk : ¬ K k) : BlkIs y k cs ty := by
  obtain ⟨_, _, _, hc⟩ := h
  exact g.chg hc hk

/-- The four rows, by number. -/
def vsel (v0 v1 v2 v3 : Value) (i : Nat) : Value := if i = 0 then v0 else if i = 1 then v1 else if i = 2 then v2 else v3
def Hp.rows (s : Hp) (i : Nat) : List Nat := if i = 0 then s.pl 0 else if i = 1 then s.pl 1 else if i = 2 then s.wk else s.fi
theorem four {Q : Nat → Prop} (h0 : Q 0) (h1 : Q 1) (h2 : Q 2) (h3 : Q 3) : ∀ i, i < 4 → Q i := fun i hi => by
  rcases i with _ | _ | _ | _ | i
  · exact h0
  · exact h1
  · exact h2
  · exact h3
  · omega
theorem HeapIn.row (h : HeapIn w H P b v0 v1 v2 v3 s) : ∀ i, i < 4 → RowIs w (vsel v0 v1 v2 v3 i) (s.rows i) := four h.r0 h.r1 h.r2 h.r3
theorem HeapIn.far (h : HeapIn w H P b v0 v1 v2 v3 s) : ∀ i, i < 4 → ∀ j, j < 4 → i ≠ j → ∀ g, (vsel v0 v1 v2 v3 i).ownBlock = some g → (vsel v0 v1 v2 v3 j).ownBlock ≠ some g := by
  refine four ?_ ?_ ?_ ?_ <;> refine four ?_ ?_ ?_ ?_ <;> intro hij g e e' <;> have hg := h.apart g <;> simp only [vsel] at e e' <;> try exact hij rfl
  · exact (hg.1 e).1 e'
  · exact (hg.1 e).2.1 e'
  · exact (hg.1 e).2.2 e'
  · exact (hg.1 e').1 e
  · exact (hg.2.1 e).1 e'
  · exact (hg.2.1 e).2 e'
  · exact (hg.1 e').2.1 e
  · exact (hg.2.1 e').1 e
  · exact hg.2.2 e e'
  · exact (hg.1 e').2.2 e
  · exact (hg.2.1 e').2 e
  · exact hg.2.2 e' e
theorem foot_row {i : Nat} (hi : i < 4) {k : Nat} (e : (vsel v0 v1 v2 v3 i).ownBlock = some k) : Foot H P b v0 v1 v2 v3 k := by
  exact four (Q := fun i => (vsel v0 v1 v2 v3 i).ownBlock = some k → Foot H P b v0 v1 v2 v3 k) (fun e => .inr (.inr (.inr (.inl e)))) (fun e => .inr (.inr (.inr (.inr (.inl e)))))
    (fun e => .inr (.inr (.inr (.inr (.inr (.inl e)))))) (fun e => .inr (.inr (.inr (.inr (.inr (.inr e)))))) i hi e
theorem foot_of {k : Nat} (h : Foot H P b v0 v1 v2 v3 k) : k = H ∨ k = P ∨ k = b ∨ ∃ i, i < 4 ∧ (vsel v0 v1 v2 v3 i).ownBlock = some k := by
  rcases h with e | e | e | e | e | e | e
  · exact .inl e
  · exact .inr (.inl e)
  · exact .inr (.inr (.inl e))
  · exact .inr (.inr (.inr ⟨0, by omega, e⟩))
  · exact .inr (.inr (.inr ⟨1, by omega, e⟩))
  · exact .inr (.inr (.inr ⟨2, by omega, e⟩))
  · exact .inr (.inr (.inr ⟨3, by omega, e⟩))
theorem heapIn_of (hb : BlkIs w H (hpC P (s.base 0) s.z (s.top 0) (s.base 1) (s.top 1) v0 v1 s.u s.mv s.ow s.sc s.se v2 v3) 53) (ha : ArenaAt 76 w P b s.l) (hr : ∀ i, i < 4 → RowIs w (vsel v0 v1 v2 v3 i) (s.rows i))
    (hf : ∀ i, i < 4 → ∀ j, j < 4 → i ≠ j → ∀ g, (vsel v0 v1 v2 v3 i).ownBlock = some g → (vsel v0 v1 v2 v3 j).ownBlock ≠ some g) : HeapIn w H P b v0 v1 v2 v3 s :=
  ⟨hb, ha, hr 0 (by omega), hr 1 (by omega), hr 2 (by omega), hr 3 (by omega), fun g => ⟨fun e => ⟨hf 0 (by omega) 1 (by omega) (by omega) g e, hf 0 (by omega) 2 (by omega) (by omega) g e, hf 0 (by omega) 3 (by omega) (by omega) g e⟩,
    fun e => ⟨hf 1 (by omega) 2 (by omega) (by omega) g e, hf 1 (by omega) 3 (by omega) (by omega) g e⟩, fun e => hf 2 (by omega) 3 (by omega) (by omega) g e⟩⟩
theorem ne_of_types {k j : Nat} {cs ds : Array Value} {t u : TypeId} (h : BlkIs w k cs t) (g : BlkIs w j ds u) (ht : t ≠ u) : k ≠ j := fun e => by
  subst e
  unfold BlkIs at h g
  rw [h] at g
  injection g with g
  injection g with _ g
  exact ht g
/-- One row has become another one, and the struct with it. -/
theorem went_row {u0 u1 u2 u3 : Value} {s' : Hp} (h : HeapIn w H P b v0 v1 v2 v3 s) (hK : ∀ k, Foot H P b v0 v1 v2 v3 k → K k) (i : Nat) (hi : i < 4) (hl : s'.l = s.l) (hu : ∀ j, j < 4 → j ≠ i → vsel u0 u1 u2 u3 j = vsel v0 v1 v2 v3 j) (hrow : ∀ j, j < 4 → j ≠ i → s'.rows j = s.rows j)
    (hb : BlkIs x H (hpC P (s'.base 0) s'.z (s'.top 0) (s'.base 1) (s'.top 1) u0 u1 s'.u s'.mv s'.ow s'.sc s'.se u2 u3) 53) (hc : Chg (fun k => k = H ∨ some k = (vsel v0 v1 v2 v3 i).ownBlock) w x)
    (hr : RowIs x (vsel u0 u1 u2 u3 i) (s'.rows i)) (hat : (vsel u0 u1 u2 u3 i).ownBlock = (vsel v0 v1 v2 v3 i).ownBlock ∨ ∃ g, (vsel u0 u1 u2 u3 i).ownBlock = some g ∧ w.heap.size ≤ g) : Went w K H s' x := by
  have hin : HeapIn x H P b u0 u1 u2 u3 s' := by
    refine heapIn_of hb ?_ (fun j hj => ?_) fun j hj k hk hjk g e e' => ?_
    · rw [hl]
      have hrow := h.row i hi
      exact h.ar.chg hc (fun e => e.elim (fun e => ne_of_types h.ar.head h.blk (by decide) e) fun e => hrow.ne h.ar.head (by decide) e.symm) (fun e => e.elim (fun e => ne_of_types h.ar.row h.blk (by decide) e) fun e => hrow.ne h.ar.row (by decide) e.symm)
    · by_cases e : j = i
      · subst e; exact hr
      · rw [hu j hj e, hrow j hj e]
        exact (h.row j hj).chg hc fun g eg hS => hS.elim (fun e' => by subst e'; exact (h.row j hj).ne h.blk (by decide) eg) fun e' => h.far j hj i hi e g eg e'.symm
    · by_cases ej : j = i
      · subst ej
        rw [hu k hk fun e => hjk e.symm] at e'
        rcases hat with hat | ⟨g', hg, hlt⟩
        · rw [hat] at e; exact h.far j hj k hk hjk g e e'
        · rw [hg] at e
          injection e with e
          have := (h.row k hk).lt e'
          omega
      · rw [hu j hj ej] at e
        by_cases ek : k = i
        · subst ek
          rcases hat with hat | ⟨g', hg, hlt⟩
          · rw [hat] at e'; exact h.far j hj k hk hjk g e e'
          · rw [hg] at e'
            injection e' with e'
            have := (h.row j hj).lt e
            omega
        · rw [hu k hk ek] at e'
          exact h.far j hj k hk hjk g e e'
  refine ⟨fun k => K k ∨ w.heap.size ≤ k, ⟨P, b, u0, u1, u2, u3, hin, fun k hk => ?_⟩, fun k hk => hk, hc.mono fun k hk => ?_⟩
  · rcases foot_of hk with e | e | e | ⟨j, hj, e⟩
    · exact .inl (hK k (.inl e))
    · exact .inl (hK k (.inr (.inl e)))
    · exact .inl (hK k (.inr (.inr (.inl e))))
    · by_cases ej : j = i
      · subst ej
        rcases hat with hat | ⟨g', hg, hlt⟩
        · rw [hat] at e; exact .inl (hK k (foot_row hj e))
        · rw [hg] at e
          injection e with e
          exact .inr (by omega)
      · rw [hu j hj ej] at e
        exact .inl (hK k (foot_row hj e))
  · rcases hk with e | e
    · exact hK k (.inl e)
    · exact hK k (foot_row hi e.symm)
/-- Only the struct's numbers have turned. -/
theorem HeapIn.cells {s' : Hp} (h : HeapIn w H P b v0 v1 v2 v3 s) (hc : Chg (· = H) w x) (hl : s'.l = s.l) (hrow : ∀ j, j < 4 → s'.rows j = s.rows j)
    (hb : BlkIs x H (hpC P (s'.base 0) s'.z (s'.top 0) (s'.base 1) (s'.top 1) v0 v1 s'.u s'.mv s'.ow s'.sc s'.se v2 v3) 53) : HeapIn x H P b v0 v1 v2 v3 s' := by
  refine heapIn_of hb ?_ (fun j hj => ?_) h.far
  · rw [hl]
    exact h.ar.chg hc (fun e => ne_of_types h.ar.head h.blk (by decide) e) (fun e => ne_of_types h.ar.row h.blk (by decide) e)
  · rw [hrow j hj]
    exact (h.row j hj).chg hc fun g eg e' => by subst e'; exact (h.row j hj).ne h.blk (by decide) eg
theorem HeapIn.wentTo {s' : Hp} (h : HeapIn x H P b v0 v1 v2 v3 s') (hK : ∀ k, Foot H P b v0 v1 v2 v3 k → K k) (hc : Chg (fun k => k = H ∨ k = b) w x) : Went w K H s' x :=
  ⟨K, ⟨P, b, v0, v1, v2, v3, h, hK⟩, fun _ h => .inl h, hc.mono fun k e => e.elim (fun e => hK k (.inl e)) fun e => hK k (.inr (.inr (.inl e)))⟩

/-- The sixteen cells. -/
theorem BlkIs.facts16 {k : Nat} {a0 a1 a2 a3 a4 a5 a6 a7 a8 a9 aa ab ac ad ae af : Value} {ty : TypeId} (h : BlkIs w k #[a0, a1, a2, a3, a4, a5, a6, a7, a8, a9, aa, ab, ac, ad, ae, af] ty) :
    w.cell? ⟨k, 0, none⟩ = some a0 ∧ w.cell? ⟨k, 1, none⟩ = some a1 ∧ w.cell? ⟨k, 2, none⟩ = some a2 ∧ w.cell? ⟨k, 3, none⟩ = some a3 ∧ w.cell? ⟨k, 4, none⟩ = some a4 ∧ w.cell? ⟨k, 5, none⟩ = some a5 ∧ w.cell? ⟨k, 6, none⟩ = some a6 ∧ w.cell? ⟨k, 7, none⟩ = some a7 ∧
    w.cell? ⟨k, 8, none⟩ = some a8 ∧ w.cell? ⟨k, 9, none⟩ = some a9 ∧ w.cell? ⟨k, 10, none⟩ = some aa ∧ w.cell? ⟨k, 11, none⟩ = some ab ∧ w.cell? ⟨k, 12, none⟩ = some ac ∧ w.cell? ⟨k, 13, none⟩ = some ad ∧ w.cell? ⟨k, 14, none⟩ = some ae ∧ w.cell? ⟨k, 15, none⟩ = some af :=
  ⟨h.cell 0, h.cell 1, h.cell 2, h.cell 3, h.cell 4, h.cell 5, h.cell 6, h.cell 7, h.cell 8, h.cell 9, h.cell 10, h.cell 11, h.cell 12, h.cell 13, h.cell 14, h.cell 15⟩
theorem arena_not_heap : 76 ≠ 79 := by decide
theorem HeapIn.ne_b (h : HeapIn w H P b v0 v1 v2 v3 s) {k : Nat} (hk : Foot H P b v0 v1 v2 v3 k) (hkb : k = b → False) : ¬ k = b := hkb
/-- The arena's words turn. -/
theorem HeapIn.put (h : HeapIn w H P b v0 v1 v2 v3 s) {l : List Int} (hA : ArenaAt 76 x P b l) (hc : Chg (· = b) w x) : HeapIn x H P b v0 v1 v2 v3 { s with l := l } := by
  have hHb : ¬ H = b := fun e => by
    have h1 := h.blk
    have h2 := h.ar.row
    unfold BlkIs at h1 h2
    rw [e, h2] at h1
    injection h1 with h1
    injection h1 with _ h1
    exact absurd h1 (by decide)
  have hr : ∀ {v : Value} {l : List Nat}, RowIs w v l → RowIs x v l := fun {v l} hv => hv.chg hc fun g e e' => by
    subst e'
    exact hv.ne h.ar.row (by decide) e
  exact ⟨h.blk.chg hc hHb, hA, hr h.r0, hr h.r1, hr h.r2, hr h.r3, h.apart⟩
theorem HeapIn.went (h : HeapIn w H P b v0 v1 v2 v3 s) (hK : ∀ k, Foot H P b v0 v1 v2 v3 k → K k) {l : List Int} (hA : ArenaAt 76 x P b l) (hc : Chg (· = b) w x) : Went w K H { s with l := l } x :=
  ⟨K, ⟨P, b, v0, v1, v2, v3, h.put hA hc, hK⟩, fun _ h => .inl h, hc.mono fun k e => by subst e; exact hK _ (.inr (.inr (.inl rfl)))⟩
end

end Go.Proofs.Ytoohnnkhklifdaa

namespace Go.Proofs.Ytoohnnkhklifdaa
open Go.ChangeShapes Go.WideShapes Go.ChangeAt Go.RowKit

set_option linter.unusedSimpArgs false
set_option linter.unusedVariables false

section
variable {w : World} {H P b : Nat} {v0 v1 v2 v3 : Value} {s : Hp}

theorem old_any (h : HeapIn w H P b v0 v1 v2 v3 s) (hu : s.u = 0 ∨ s.u = 1) : Calls Try.prog 25 #[.pointer (some ⟨H, 0, none⟩)] w fun e w' => e = .returned (.int .i64 ((1 - s.u : Nat) : Int)) ∧ Below w.heap.size w w' := by
  have c9 : w.cell? ⟨H, 9, none⟩ = some (.int .i64 s.u) := h.blk.cell 9
  clear h
  generalize s.u = u at *
  rcases hu with rfl | rfl <;>
  · go_enter Try.func25, Try.ntmps25
    go_wp2
    go_ret
    exact ⟨by simp, Below.refl _ _⟩


theorem has_at (h : HeapIn w H P b v0 v1 v2 v3 s) (i : Nat) (t : Int) (hi : i = 0 ∨ i = 1) (hs : Rises (nums (s.pl i))) (hl : (s.pl i).length ≤ 100000) :
    Calls Try.prog 26 #[.pointer (some ⟨H, 0, none⟩), .int .i64 i, .int .i64 t] w fun e w' => e = .returned (.bool (decide (t ∈ nums (s.pl i)))) ∧ Below w.heap.size w w' := by
  have c7 : w.cell? ⟨H, 7, none⟩ = some v0 := h.blk.cell 7
  have c8 : w.cell? ⟨H, 8, none⟩ = some v1 := h.blk.cell 8
  have e0 := h.r0.reads
  have e1 := h.r1.reads
  clear h
  rcases hi with rfl | rfl
  · have M := search_any v0 _ t w e0 hs (by rw [nums_length]; exact hl)
    clear e0 e1
    go_enter Try.func26, Try.ntmps26
    go_wp2_with fail
    refine M.mono ?_
    rintro e x ⟨⟨i, rfl⟩, hb⟩
    go_wp2
    go_ret
    exact ⟨rfl, hb⟩
  · have M := search_any v1 _ t w e1 hs (by rw [nums_length]; exact hl)
    clear e0 e1
    go_enter Try.func26, Try.ntmps26
    go_wp2_with fail
    refine M.mono ?_
    rintro e x ⟨⟨i, rfl⟩, hb⟩
    go_wp2
    go_ret
    exact ⟨rfl, hb⟩

/-- Five cells of a block, and what lies behind. -/
abbrev Cs5 (w x : World) (H i0 i1 i2 i3 i4 : Nat) (a0 a1 a2 a3 a4 : Value) : Prop :=
  x.cell? ⟨H, i0, none⟩ = some a0 ∧ x.cell? ⟨H, i1, none⟩ = some a1 ∧ x.cell? ⟨H, i2, none⟩ = some a2 ∧ x.cell? ⟨H, i3, none⟩ = some a3 ∧ x.cell? ⟨H, i4, none⟩ = some a4 ∧ H < x.heap.size ∧ Below w.heap.size w x
theorem Cs5.on {w x y : World} {H i0 i1 i2 i3 i4 : Nat} {a0 a1 a2 a3 a4 : Value} (h : Cs5 w x H i0 i1 i2 i3 i4 a0 a1 a2 a3 a4) (hb : Below x.heap.size x y) : Cs5 w y H i0 i1 i2 i3 i4 a0 a1 a2 a3 a4 := by
  obtain ⟨c0, c1, c2, c3, c4, hl, hB⟩ := h
  have e : ∀ j, y.cell? ⟨H, j, none⟩ = x.cell? ⟨H, j, none⟩ := fun j => hb.cell (p := ⟨H, j, none⟩) hl
  exact ⟨(e _).trans c0, (e _).trans c1, (e _).trans c2, (e _).trans c3, (e _).trans c4, Nat.lt_of_lt_of_le hl hb.size, hB.trans (hb.mono hB.size)⟩
theorem Cs5.drew {w x : World} {H i0 i1 i2 i3 i4 : Nat} {a0 a1 a2 a3 a4 : Value} (h : Cs5 w x H i0 i1 i2 i3 i4 a0 a1 a2 a3 a4) : Cs5 w x.drew H i0 i1 i2 i3 i4 a0 a1 a2 a3 a4 := by
  obtain ⟨c0, c1, c2, c3, c4, hl, hB⟩ := h
  exact ⟨c0, c1, c2, c3, c4, hl, hB.drew⟩

/-- What the reading calls ask of a heap. -/
structure Sound (s : Hp) : Prop where
  u01 : s.u = 0 ∨ s.u = 1
  z1 : s.z ≤ 16384
  rn : Rises (nums s.pn)
  rk : Rises (nums s.pk)
  ln : s.pn.length ≤ 16384
  lk : s.pk.length ≤ 16384
  t0 : s.bn ≤ s.tn
  t1 : s.tn + s.ow ≤ s.bn + s.z
  k0 : s.bk ≤ s.tk
  k1 : s.tk ≤ s.bk + s.z
theorem Sound.pl_n (g : Sound s) : s.pl s.u = s.pn := if_pos rfl
theorem Sound.pl_k (g : Sound s) : s.pl (1 - s.u) = s.pk := if_neg (by have := g.u01; omega)

theorem here_any (h : HeapIn w H P b v0 v1 v2 v3 s) (g : Sound s) (t : Int) :
    Calls Try.prog 15 #[.pointer (some ⟨H, 0, none⟩), .int .i64 t] w fun e w' => e = .returned (.bool (decide (t ∈ nums s.pn))) ∧ Below w.heap.size w w' := by
  have c9 : w.cell? ⟨H, 9, none⟩ = some (.int .i64 s.u) := h.blk.cell 9
  have M := has_at h s.u t g.u01 (by rw [g.pl_n]; exact g.rn) (by rw [g.pl_n]; have := g.ln; omega)
  rw [g.pl_n] at M
  clear h g
  go_enter Try.func15, Try.ntmps15
  go_wp2_with fail
  refine M.mono ?_
  rintro e x ⟨rfl, hb⟩
  go_wp2
  go_ret
  exact ⟨rfl, hb⟩

theorem may_any (h : HeapIn w H P b v0 v1 v2 v3 s) (g : Sound s) (t : Int) :
    Calls Try.prog 58 #[.pointer (some ⟨H, 0, none⟩), .int .i64 t] w fun e w' => e = .returned (.bool (decide (t = 0 ∨ t ∈ nums s.pn))) ∧ Below w.heap.size w w' := by
  have M := here_any h g t
  clear h g
  by_cases e0 : t = 0
  · subst e0
    rw [decide_eq_true (.inl rfl)]
    go_enter Try.func58, Try.ntmps58
    go_wp2
    go_ret
    exact ⟨rfl, Below.refl _ _⟩
  · have d0 : (t == 0) = false := by simpa using e0
    rw [show decide (t = 0 ∨ t ∈ nums s.pn) = decide (t ∈ nums s.pn) from by simp [e0]]
    go_enter Try.func58, Try.ntmps58
    go_wp2_with fail
    refine M.mono ?_
    rintro e x ⟨rfl, hb⟩
    go_wp2
    go_ret
    exact ⟨rfl, hb⟩

theorem scanned_any (h : HeapIn w H P b v0 v1 v2 v3 s) (g : Sound s) :
    Calls Try.prog 29 #[.pointer (some ⟨H, 0, none⟩)] w fun e w' => e = .returned (.bool (decide (s.sc = s.tn))) ∧ Below w.heap.size w w' := by
  have c9 : w.cell? ⟨H, 9, none⟩ = some (.int .i64 s.u) := h.blk.cell 9
  have c3 : w.cell? ⟨H, 3, none⟩ = some (.int .i64 (s.top 0)) := h.blk.cell 3
  have c6 : w.cell? ⟨H, 6, none⟩ = some (.int .i64 (s.top 1)) := h.blk.cell 6
  have c12 : w.cell? ⟨H, 12, none⟩ = some (.int .i64 s.sc) := h.blk.cell 12
  have hu := g.u01
  have ht : s.tn = s.top s.u := (if_pos rfl).symm
  rw [ht]
  clear h g ht
  generalize s.u = u at *
  have key : ∀ a b : Nat, ((a : Int) == (b : Int)) = decide (a = b) := fun a b => by
    by_cases e : a = b
    · subst e; simp
    · rw [decide_eq_false e]; simp; omega
  rcases hu with rfl | rfl
  · go_enter Try.func29, Try.ntmps29
    go_upto_region 1 with fail
    go_quiet (fail)
    go_wp2
    go_ret
    exact ⟨by simp [key], drewN_below (Below.refl _ _) _⟩
  · go_enter Try.func29, Try.ntmps29
    go_upto_region 1 with fail
    go_quiet (fail)
    go_wp2
    go_ret
    exact ⟨by simp [key], drewN_below (Below.refl _ _) _⟩

theorem room_any (h : HeapIn w H P b v0 v1 v2 v3 s) (g : Sound s) :
    Calls Try.prog 12 #[.pointer (some ⟨H, 0, none⟩)] w fun e w' => e = .returned (.int .i64 s.room) ∧ Below w.heap.size w w' := by
  have hB := h.blk
  have hT : ((s.base s.u + s.z - s.top s.u - s.ow : Nat) : Int) = ((s.base s.u + s.z - s.top s.u : Nat) : Int) - (s.ow : Int) := by have := g.t1; have ht : s.tn = s.top s.u := (if_pos rfl).symm; have hb : s.bn = s.base s.u := rfl; omega
  have hSp : SpOk (s.base s.u) s.z (s.top s.u) := by
    have ht : s.tn = s.top s.u := (if_pos rfl).symm
    have hb : s.bn = s.base s.u := rfl
    have := g.t0; have := g.t1; have := g.z1
    exact ⟨by unfold Hp.base; split <;> omega, by omega, by omega, by omega⟩
  have hL := left_ok _ _ _ hSp
  have hrm : s.room = s.base s.u + s.z - s.top s.u - s.ow := by unfold Hp.room Hp.bn Hp.top; rw [if_pos rfl]
  rw [hrm, hT]
  have h65 : s.base s.u + s.z - s.top s.u ≤ 65536 ∧ s.ow ≤ 65536 := by have := g.t1; have := g.z1; have := hSp.base; have := hSp.low; have ht : s.tn = s.top s.u := (if_pos rfl).symm; have hb : s.bn = s.base s.u := rfl; omega
  have hu := g.u01
  have hi : IntKind.i64.wrap (((s.base s.u + s.z - s.top s.u : Nat) : Int) - (s.ow : Int)) = ((s.base s.u + s.z - s.top s.u : Nat) : Int) - (s.ow : Int) := IntWalk.i64_in _ (by omega)
  obtain ⟨c0, c1, c2, c3, c4, c5, c6, c7, c8, c9, ca, cb, cc, cd, ce, cf⟩ := BlkIs.facts16 hB
  have hl := hB.lt
  clear h g hT hSp hrm hB
  generalize s.u = u at *
  rcases hu with rfl | rfl
  · generalize s.base 0 + s.z - s.top 0 = q at *
    generalize s.base 0 = b0 at *
    generalize s.top 0 = t0 at *
    have hS0 : Cs5 w w H 1 2 3 9 11 _ _ _ _ _ := ⟨c1, c2, c3, c9, cb, hl, Below.refl _ w⟩
    clear c0 c1 c2 c3 c4 c5 c6 c7 c8 c9 ca cb cc cd ce cf
    go_enter Try.func12, Try.ntmps12
    go_upto_region 1 with fail
    go_region_held3 (fun x => Cs5 w x H 1 2 3 9 11 (.int .i64 b0) (.int .i64 s.z) (.int .i64 t0) (.int .i64 (0 : Nat)) (.int .i64 s.ow)) (first | exact hS0.drew | exact Cs5.on (by assumption) hb2)
      (first | (go_at_call 28; refine (hL _).mono ?_; rintro e w2 ⟨rfl, hb2⟩))
    go_wp2
    go_ret
    exact ⟨rfl, (‹Cs5 w _ _ _ _ _ _ _ _ _ _ _ _›).2.2.2.2.2.2⟩
  · generalize s.base 1 + s.z - s.top 1 = q at *
    generalize s.base 1 = b0 at *
    generalize s.top 1 = t0 at *
    have hS0 : Cs5 w w H 4 5 6 9 11 _ _ _ _ _ := ⟨c4, c5, c6, c9, cb, hl, Below.refl _ w⟩
    clear c0 c1 c2 c3 c4 c5 c6 c7 c8 c9 ca cb cc cd ce cf
    go_enter Try.func12, Try.ntmps12
    go_upto_region 1 with fail
    go_region_held3 (fun x => Cs5 w x H 4 5 6 9 11 (.int .i64 b0) (.int .i64 s.z) (.int .i64 t0) (.int .i64 (1 : Nat)) (.int .i64 s.ow)) (first | exact hS0.drew | exact Cs5.on (by assumption) hb2)
      (first | (go_at_call 28; refine (hL _).mono ?_; rintro e w2 ⟨rfl, hb2⟩))
    go_wp2
    go_ret
    exact ⟨rfl, (‹Cs5 w _ _ _ _ _ _ _ _ _ _ _ _›).2.2.2.2.2.2⟩
end

end Go.Proofs.Ytoohnnkhklifdaa

namespace Go.Proofs.Ytoohnnkhklifdaa
open Go.ChangeShapes Go.WideShapes Go.ChangeAt Go.RowKit

set_option linter.unusedSimpArgs false
set_option linter.unusedVariables false

section
variable {l l' : List Int} {a x : Nat}
theorem hdW_congr (h : l'.getD x 0 = l.getD x 0) : hdW l' x = hdW l x := by unfold hdW; rw [h]
theorem nA_congr (h : l'.getD x 0 = l.getD x 0) : nA l' x = nA l x := by unfold nA; rw [hdW_congr h]
theorem szA_congr (h : l'.getD x 0 = l.getD x 0) : szA l' x = szA l x := by unfold szA; rw [nA_congr h]
theorem isOb_congr (hl : l'.length = l.length) (h : l'.getD x 0 = l.getD x 0) : isOb l' x ↔ isOb l x :=
  ⟨fun ⟨p, d, wk, fn, fr, o⟩ => ⟨p, d, wk, fn, fr, o.same hl.symm h.symm⟩, fun ⟨p, d, wk, fn, fr, o⟩ => ⟨p, d, wk, fn, fr, o.same hl h⟩⟩
theorem fwd_congr (h : l'.getD x 0 = l.getD x 0) : fwd l' x = fwd l x := by unfold fwd; rw [hdW_congr h]
theorem hdW_obj {p d : Nat} {wk fn fr : Bool} (h : ObjIs l a p d wk fn fr) : hdW l a = headN p d wk fn fr ∧ hp (hdW l a) = p ∧ hd (hdW l a) = d ∧ hw (hdW l a) = wk ∧ hf (hdW l a) = fn ∧ hr (hdW l a) = fr := by
  have e : hdW l a = headN p d wk fn fr := by unfold hdW; rw [h.head, Int.toNat_natCast]
  rw [e]
  exact ⟨rfl, headN_read h.ptrs h.data⟩
theorem nA_obj {p d : Nat} {wk fn fr : Bool} (h : ObjIs l a p d wk fn fr) : nA l a = 3 + p + d := by
  unfold nA
  obtain ⟨_, h1, h2, _⟩ := hdW_obj h
  rw [h1, h2]
theorem isOb.of (h : isOb l a) : ObjIs l a (hp (hdW l a)) (hd (hdW l a)) (hw (hdW l a)) (hf (hdW l a)) (hr (hdW l a)) := by
  obtain ⟨p, d, wk, fn, fr, o⟩ := h
  obtain ⟨_, h1, h2, h3, h4, h5⟩ := hdW_obj o
  rw [h1, h2, h3, h4, h5]
  exact o
theorem isOb.nA_le (h : isOb l a) : 3 ≤ nA l a ∧ nA l a ≤ 19 ∧ nA l a ≤ szA l a ∧ szA l a ≤ 28 ∧ a + nA l a ≤ l.length ∧ hp (hdW l a) ≤ 8 ∧ hd (hdW l a) ≤ 8 := by
  have o := h.of
  have h1 := o.ptrs
  have h2 := o.data
  have h3 := o.room
  have h4 : nA l a ≤ szA l a := Cls.rd_ge (by unfold nA; omega)
  have h5 : 2 * szA l a ≤ 3 * nA l a := Cls.rd_half (by unfold nA; omega) (by unfold nA; omega)
  unfold nA at *
  refine ⟨by omega, by omega, h4, by omega, by omega, h1, h2⟩
theorem szA_pos : 4 ≤ szA l a := rd_pos _
theorem isOb.odd (h : isOb l a) : hdW l a % 2 = 1 := by
  obtain ⟨p, d, wk, fn, fr, o⟩ := h
  rw [(hdW_obj o).1]
  unfold headN
  omega
theorem isOb.fwd (h : isOb l a) : fwd l a = a := by
  have := h.odd
  unfold Go.Proofs.Ytoohnnkhklifdaa.fwd
  rw [if_neg (by omega)]
theorem gone_hdW {n : Nat} (h : l.getD a 0 = ((2 + n * 4 : Nat) : Int)) : hdW l a = 2 + n * 4 := by unfold hdW; rw [h, Int.toNat_natCast]
theorem gone_fwd {n : Nat} (h : l.getD a 0 = ((2 + n * 4 : Nat) : Int)) : fwd l a = n ∧ hdW l a % 2 = 0 ∧ ¬ isOb l a := by
  have e := gone_hdW h
  refine ⟨by unfold fwd; rw [e, if_pos (by omega)]; omega, by omega, fun ho => ?_⟩
  have := ho.odd
  omega
end

/-- There is an object that has not gone. -/
def Live (s : Hp) (x : Nat) : Prop := x ∈ s.pn ∨ (x ∈ s.pk ∧ isOb s.l x)
/-- A pointer that may be. -/
def PtrOk (s : Hp) (v : Int) : Prop := v = 0 ∨ ∃ y : Nat, v = (y : Int) ∧ (y ∈ s.pn ∨ y ∈ s.pk)
def ows (l : List Int) (x : Nat) : Nat := if hdW l x % 2 = 1 then szA l x else 0

structure Okw (s : Hp) : Prop where
  u01 : s.u = 0 ∨ s.u = 1
  z0 : 16 ≤ s.z
  z1 : s.z ≤ 16384
  len : s.l.length = 2 * s.z + 1
  zero : s.l.getD 0 0 = 0
  k0 : s.bk ≤ s.tk
  k1 : s.tk ≤ s.bk + s.z
  room : s.tn + s.ow ≤ s.bn + s.z
  sum : s.tn = s.bn + (s.pn.map (szA s.l)).sum
  owe : s.ow = (s.pk.map (ows s.l)).sum
  inn : ∀ x ∈ s.pn, s.bn ≤ x ∧ isOb s.l x ∧ x + szA s.l x ≤ s.tn
  ink : ∀ x ∈ s.pk, s.bk ≤ x ∧ x < s.tk ∧ ((isOb s.l x ∧ x + szA s.l x ≤ s.tk) ∨ ∃ n ∈ s.pn, s.l.getD x 0 = ((2 + n * 4 : Nat) : Int))
  srn : s.pn.Pairwise fun x y => x + szA s.l x ≤ y
  srk : s.pk.Pairwise fun x y => x < y ∧ (isOb s.l x → x + szA s.l x ≤ y)
  fst : s.tn = s.bn ∨ s.bn ∈ s.pn
  nxt : ∀ x ∈ s.pn, x + szA s.l x = s.tn ∨ x + szA s.l x ∈ s.pn
  stop : s.mv = false → s.pk = [] ∧ s.tk = s.bk
  sel : s.se ≤ 1099511627776
  ser : ∀ x, Live s x → 1 ≤ s.l.getD (x + 2) 0 ∧ s.l.getD (x + 2) 0 ≤ s.se
  ptr : ∀ x, Live s x → ∀ i, i < hp (hdW s.l x) → PtrOk s (s.l.getD (x + (3 + i)) 0)
  blk : s.mv = true → ∀ x ∈ s.pn, x < s.sc → hw (hdW s.l x) = false → ∀ i, i < hp (hdW s.l x) → s.l.getD (x + (3 + i)) 0 = 0 ∨ ∃ y ∈ s.pn, s.l.getD (x + (3 + i)) 0 = ((y : Nat) : Int)
  scn : s.mv = true → s.sc = s.tn ∨ s.sc ∈ s.pn
  wks : ∀ a ∈ s.wk, (a ∈ s.pn ∨ a ∈ s.pk) ∧ hw (hdW s.l (fwd s.l a)) = true
  wka : ∀ x ∈ s.pn, hw (hdW s.l x) = true → ∃ a ∈ s.wk, fwd s.l a = x
  fin : ∀ a ∈ s.fi, a ∈ s.pn ∨ a ∈ s.pk
  wkl : s.wk.length ≤ s.se
  fil : s.fi.length ≤ s.se
/-- Besides, all weak ones that have not gone are on the list. -/
structure Ok (s : Hp) : Prop extends Okw s where
  wkb : ∀ x ∈ s.pk, isOb s.l x → hw (hdW s.l x) = true → ∃ a ∈ s.wk, fwd s.l a = x
theorem Ok.wkAll {s : Hp} (h : Ok s) : ∀ x, Live s x → hw (hdW s.l x) = true → ∃ a ∈ s.wk, fwd s.l a = x :=
  fun x hx hw => hx.elim (fun e => h.wka x e hw) fun e => h.wkb x e.1 e.2 hw

theorem pairwise_get {R : Nat → Nat → Prop} {l : List Nat} (h : l.Pairwise R) {x y : Nat} (hx : x ∈ l) (hy : y ∈ l) : x = y ∨ R x y ∨ R y x := by
  induction l with
  | nil => simp at hx
  | cons z l ih =>
    rw [List.pairwise_cons] at h
    rcases List.mem_cons.1 hx with rfl | hx' <;> rcases List.mem_cons.1 hy with rfl | hy'
    · exact .inl rfl
    · exact .inr (.inl (h.1 _ hy'))
    · exact .inr (.inr (h.1 _ hx'))
    · exact ih h.2 hx' hy'
theorem pairwise_congr {R Q : Nat → Nat → Prop} {l : List Nat} (h : l.Pairwise R) (g : ∀ x ∈ l, ∀ y ∈ l, R x y → Q x y) : l.Pairwise Q := by
  induction l with
  | nil => exact List.Pairwise.nil
  | cons z l ih =>
    rw [List.pairwise_cons] at h ⊢
    exact ⟨fun y hy => g z List.mem_cons_self y (List.mem_cons_of_mem _ hy) (h.1 y hy), ih h.2 fun x hx y hy => g x (List.mem_cons_of_mem _ hx) y (List.mem_cons_of_mem _ hy)⟩
theorem rises_of {l : List Nat} (h : l.Pairwise fun x y => x < y) : Rises (nums l) := by
  intro i j hij hj
  rw [nums_length] at hj
  rw [nums_getD (by omega), nums_getD hj]
  have := List.pairwise_iff_getElem.1 h i j (by omega) hj hij
  simp [List.getD, show i < l.length by omega, hj]
  exact this
theorem rises_len {l : List Nat} {b t : Nat} (h : l.Pairwise fun x y => x < y) (hb : ∀ x ∈ l, b ≤ x ∧ x < t) : l.length ≤ t - b := by
  induction l generalizing b with
  | nil => simp
  | cons z l ih =>
    rw [List.pairwise_cons] at h
    have h1 := hb z List.mem_cons_self
    have := ih (b := z + 1) h.2 fun x hx => ⟨h.1 x hx, (hb x (List.mem_cons_of_mem _ hx)).2⟩
    simp
    omega
theorem sum_pos {l : List Nat} {f : Nat → Nat} (h : ∀ x ∈ l, 4 ≤ f x) : 4 * l.length ≤ (l.map f).sum := by
  induction l with
  | nil => simp
  | cons z l ih =>
    have h1 := h z List.mem_cons_self
    have := ih fun x hx => h x (List.mem_cons_of_mem _ hx)
    simp
    omega
theorem sum_congr {l : List Nat} {f g : Nat → Nat} (h : ∀ x ∈ l, f x = g x) : (l.map f).sum = (l.map g).sum := by rw [List.map_congr_left h]
theorem sum_one {l : List Nat} {f g : Nat → Nat} {p : Nat} (hn : l.Nodup) (hp : p ∈ l) (h : ∀ x ∈ l, x ≠ p → f x = g x) (h0 : f p = 0) : (l.map f).sum + g p = (l.map g).sum := by
  induction l with
  | nil => simp at hp
  | cons z l ih =>
    rw [List.nodup_cons] at hn
    simp only [List.map_cons, List.sum_cons]
    rcases List.mem_cons.1 hp with rfl | hp'
    · rw [h0, sum_congr fun x hx => h x (List.mem_cons_of_mem _ hx) fun e => hn.1 (by rw [← e]; exact hx)]
      omega
    · have := ih hn.2 hp' fun x hx => h x (List.mem_cons_of_mem _ hx)
      rw [h z List.mem_cons_self fun e => hn.1 (by rw [e]; exact hp')]
      omega

section
variable {s : Hp} (h : Okw s)
include h
theorem Okw.bases : 1 ≤ s.bn ∧ s.bn ≤ 1 + s.z ∧ 1 ≤ s.bk ∧ s.bk ≤ 1 + s.z ∧ (s.bn + s.z ≤ s.bk ∨ s.bk + s.z ≤ s.bn) := by
  have := h.u01
  unfold Hp.bn Hp.bk Hp.base
  rcases this with e | e <;> rw [e] <;> simp <;> omega
theorem Okw.t0 : s.bn ≤ s.tn := by have := h.sum; omega
theorem Okw.rn : s.pn.Pairwise fun x y => x < y := pairwise_congr h.srn fun x _ y _ e => by have := szA_pos (l := s.l) (a := x); omega
theorem Okw.rk : s.pk.Pairwise fun x y => x < y := pairwise_congr h.srk fun x _ y _ e => e.1
theorem Okw.ln : s.pn.length ≤ 4096 := by
  have h1 := sum_pos (l := s.pn) (f := szA s.l) fun x _ => szA_pos
  have := h.sum; have := h.room; have := h.z1
  omega
theorem Okw.lk : s.pk.length ≤ 16384 := by
  have h1 := rises_len h.rk fun x hx => ⟨(h.ink x hx).1, (h.ink x hx).2.1⟩
  have := h.k1; have := h.z1
  omega
theorem Okw.sound : Sound s := ⟨h.u01, h.z1, rises_of h.rn, rises_of h.rk, by have := h.ln; omega, h.lk, h.t0, h.room, h.k0, h.k1⟩
theorem Okw.live_ob {x : Nat} (hx : Live s x) : isOb s.l x := hx.elim (fun e => (h.inn x e).2.1) fun e => e.2
theorem Okw.pn_lt {x : Nat} (hx : x ∈ s.pn) : 1 ≤ x ∧ x < s.tn ∧ x < s.l.length := by
  obtain ⟨h1, h2, h3⟩ := h.inn x hx
  have := h2.nA_le; have := h.bases
  omega
theorem Okw.pk_lt {x : Nat} (hx : x ∈ s.pk) : 1 ≤ x ∧ x < s.l.length := by
  obtain ⟨h1, h2, _⟩ := h.ink x hx
  have := h.bases; have := h.k1; have := h.len
  omega
/-- A live object of the old space has room in the other one. -/
theorem Okw.fits {p : Nat} (hp : p ∈ s.pk) (ho : isOb s.l p) : s.tn + szA s.l p ≤ s.bn + s.z ∧ szA s.l p ≤ s.ow := by
  have hn : s.pk.Nodup := h.rk.imp fun e => by omega
  have h1 := sum_one (f := fun x => if x = p then 0 else ows s.l x) (g := ows s.l) hn hp (fun x _ e => if_neg e) (if_pos rfl)
  have h2 : ows s.l p = szA s.l p := if_pos ho.odd
  have := h.owe; have := h.room
  omega
/-- Old and new apart. -/
theorem Okw.apart {x y : Nat} (hx : s.bn ≤ x ∧ x < s.bn + s.z) (hy : s.bk ≤ y ∧ y < s.bk + s.z) : x ≠ y := by
  have := h.bases
  omega
end

end Go.Proofs.Ytoohnnkhklifdaa

namespace Go.Proofs.Ytoohnnkhklifdaa
open Go.ChangeShapes Go.WideShapes Go.ChangeAt Go.RowKit

set_option linter.unusedSimpArgs false
set_option linter.unusedVariables false

section
variable {s : Hp}
theorem Okw.go_key (h : Okw s) {p : Nat} (hp' : p ∈ s.pk) (ho : isOb s.l p) {j : Nat} (hj : j < s.l.length) : (s.go p).l.getD j 0 = if j = p then ((2 + s.tn * 4 : Nat) : Int) else if s.tn ≤ j ∧ j < s.tn + nA s.l p then s.l.getD (p + (j - s.tn)) 0 else s.l.getD j 0 := copyL_at hj
theorem Okw.go_len (h : Okw s) {p : Nat} (hp' : p ∈ s.pk) (ho : isOb s.l p) : (s.go p).l.length = s.l.length := copyL_length ..
end
section
variable {s : Hp} (h : Okw s) {p : Nat} (hp' : p ∈ s.pk) (ho : isOb s.l p)
include h hp' ho
theorem Okw.go_place : s.bn ≤ s.tn ∧ s.tn + nA s.l p ≤ s.bn + s.z ∧ s.bn + s.z ≤ s.l.length ∧ s.bk ≤ p ∧ p + nA s.l p ≤ s.tk ∧ s.tk ≤ s.bk + s.z ∧ s.bk + s.z ≤ s.l.length ∧ nA s.l p ≤ szA s.l p ∧ p < s.tk ∧ 3 ≤ nA s.l p := by
  have h1 := h.t0
  have h2 := h.fits hp' ho
  have h3 := ho.nA_le
  have h4 := h.bases
  have h5 := h.len
  have h6 := h.k1
  obtain ⟨h7, h8, h9⟩ := h.ink p hp'
  rcases h9 with ⟨_, h9⟩ | ⟨n, _, h9⟩
  · refine ⟨h1, by omega, by omega, h7, by omega, h6, by omega, by omega, h8, by omega⟩
  · exact absurd ho (gone_fwd h9).2.2
/-- In the space in use nothing turns. -/
theorem Okw.go_pn {x t : Nat} (hx : x ∈ s.pn) (ht : t < nA s.l x) : (s.go p).l.getD (x + t) 0 = s.l.getD (x + t) 0 := by
  obtain ⟨h1, h2, h3⟩ := h.inn x hx
  have h4 := h2.nA_le
  have h5 := h.go_place hp' ho
  have h6 := h.bases
  rw [h.go_key hp' ho (by omega), if_neg (by omega), if_neg (by omega)]
theorem Okw.go_pn0 {x : Nat} (hx : x ∈ s.pn) : (s.go p).l.getD x 0 = s.l.getD x 0 := by
  have := ((h.inn x hx).2.1).nA_le
  exact h.go_pn hp' ho (t := 0) hx (by omega)
/-- Nor in the old one, but there. -/
theorem Okw.go_pk0 {x : Nat} (hx : x ∈ s.pk) (hne : x ≠ p) : (s.go p).l.getD x 0 = s.l.getD x 0 := by
  obtain ⟨h1, h2, _⟩ := h.ink x hx
  have h5 := h.go_place hp' ho
  have h6 := h.bases
  rw [h.go_key hp' ho (by omega), if_neg hne, if_neg (by omega)]
theorem Okw.go_pk {x t : Nat} (hx : x ∈ s.pk) (hox : isOb s.l x) (hne : x ≠ p) (ht : t < nA s.l x) : (s.go p).l.getD (x + t) 0 = s.l.getD (x + t) 0 := by
  obtain ⟨h1, h2, h3⟩ := h.ink x hx
  have h3' : x + szA s.l x ≤ s.tk := by
    rcases h3 with h3 | ⟨n, _, h9⟩
    · exact h3.2
    · exact absurd hox (gone_fwd h9).2.2
  have h4 := hox.nA_le
  have h5 := h.go_place hp' ho
  have h6 := h.bases
  have h7 : x + t ≠ p := by
    rcases pairwise_get h.srk hx hp' with e | e | e
    · exact absurd e hne
    · have := e.2 hox; omega
    · omega
  rw [h.go_key hp' ho (by omega), if_neg h7, if_neg (by omega)]
theorem Okw.go_new {t : Nat} (ht : t < nA s.l p) : (s.go p).l.getD (s.tn + t) 0 = s.l.getD (p + t) 0 := by
  have h5 := h.go_place hp' ho
  have h6 := h.bases
  rw [h.go_key hp' ho (by omega), if_neg (by omega), if_pos (by omega), show s.tn + t - s.tn = t from by omega]
theorem Okw.go_new0 : (s.go p).l.getD s.tn 0 = s.l.getD p 0 := by
  have := ho.nA_le
  exact h.go_new hp' ho (t := 0) (by omega)
theorem Okw.go_p : (s.go p).l.getD p 0 = ((2 + s.tn * 4 : Nat) : Int) := by
  have h5 := h.go_place hp' ho
  rw [h.go_key hp' ho (by omega), if_pos rfl]
theorem Okw.go_newOb : isOb (s.go p).l s.tn := by
  have h5 := h.go_place hp' ho
  have o := ho.of
  refine ⟨_, _, _, _, _, o.right, o.ptrs, o.data, ?_, by rw [h.go_new0 hp' ho]; exact o.head⟩
  rw [h.go_len hp' ho]
  have : nA s.l p = 3 + hp (hdW s.l p) + hd (hdW s.l p) := rfl
  omega
/-- Who lives then. -/
theorem Okw.go_live {x : Nat} : Live (s.go p) x ↔ x = s.tn ∨ x ∈ s.pn ∨ (x ∈ s.pk ∧ x ≠ p ∧ isOb s.l x) := by
  have hpn : (s.go p).pn = s.pn ++ [s.tn] := rfl
  have hpk : (s.go p).pk = s.pk := rfl
  unfold Live
  rw [hpn, hpk, List.mem_append, List.mem_singleton]
  constructor
  · rintro ((h1 | h1) | ⟨h1, h2⟩)
    · exact .inr (.inl h1)
    · exact .inl h1
    · by_cases e : x = p
      · subst e
        exact absurd h2 (gone_fwd (h.go_p hp' ho)).2.2
      · exact .inr (.inr ⟨h1, e, (isOb_congr (h.go_len hp' ho) (h.go_pk0 hp' ho h1 e)).1 h2⟩)
  · rintro (h1 | h1 | ⟨h1, h2, h3⟩)
    · exact .inl (.inr h1)
    · exact .inl (.inl h1)
    · exact .inr ⟨h1, (isOb_congr (h.go_len hp' ho) (h.go_pk0 hp' ho h1 h2)).2 h3⟩
/-- Where things are then. -/
theorem Okw.go_fwd {x : Nat} (hx : x ∈ s.pn ∨ x ∈ s.pk) : fwd (s.go p).l x = if fwd s.l x = p then s.tn else fwd s.l x := by
  have h5 := h.go_place hp' ho
  have h6 := h.bases
  have hnp : ∀ y, y ∈ s.pn → y ≠ p := fun y hy => by
    obtain ⟨h1, h2, h3⟩ := h.inn y hy
    have := h2.nA_le
    omega
  rcases hx with hx | hx
  · rw [fwd_congr (h.go_pn0 hp' ho hx), ((h.inn x hx).2.1).fwd, if_neg (hnp x hx)]
  · by_cases e : x = p
    · subst e
      rw [ho.fwd, if_pos rfl, (gone_fwd (h.go_p hp' ho)).1]
    · rw [fwd_congr (h.go_pk0 hp' ho hx e)]
      rcases (h.ink x hx).2.2 with ⟨h1, _⟩ | ⟨n, hn, h1⟩
      · rw [h1.fwd, if_neg e]
      · rw [(gone_fwd h1).1, if_neg (hnp n hn)]
/-- What is live has the words that it had. -/
theorem Okw.go_word {x t : Nat} (hx : Live (s.go p) x) (ht : t < nA (s.go p).l x) : (s.go p).l.getD (x + t) 0 = s.l.getD ((if x = s.tn then p else x) + t) 0 := by
  have hnt : ∀ y, y ∈ s.pn → y ≠ s.tn := fun y hy => by have := (h.pn_lt hy).2.1; omega
  have h5 := h.go_place hp' ho
  have h6 := h.bases
  rcases (h.go_live hp' ho).1 hx with e | e | ⟨e1, e2, e3⟩
  · subst e
    rw [if_pos rfl]
    have e0 : nA (s.go p).l s.tn = nA s.l p := by unfold nA hdW; rw [h.go_new0 hp' ho]
    rw [e0] at ht
    exact h.go_new hp' ho ht
  · rw [if_neg (hnt x e)]
    rw [nA_congr (h.go_pn0 hp' ho e)] at ht
    exact h.go_pn hp' ho e ht
  · obtain ⟨h1, h2, _⟩ := h.ink x e1
    rw [if_neg (by omega)]
    rw [nA_congr (h.go_pk0 hp' ho e1 e2)] at ht
    exact h.go_pk hp' ho e1 e3 e2 ht
end

end Go.Proofs.Ytoohnnkhklifdaa

namespace Go.Proofs.Ytoohnnkhklifdaa
open Go.ChangeShapes Go.WideShapes Go.ChangeAt Go.RowKit

set_option linter.unusedSimpArgs false
set_option linter.unusedVariables false

section
variable {s : Hp} (h : Okw s) {p : Nat} (hp' : p ∈ s.pk) (ho : isOb s.l p)
include h hp' ho
/-- The object's other name: where it was. -/
theorem Okw.go_was {x : Nat} (hx : Live (s.go p) x) : Live s (if x = s.tn then p else x) ∧ hdW (s.go p).l x = hdW s.l (if x = s.tn then p else x) := by
  have hob : isOb (s.go p).l x := by
    rcases (h.go_live hp' ho).1 hx with e | e | ⟨e1, e2, e3⟩
    · subst e; exact h.go_newOb hp' ho
    · exact (isOb_congr (h.go_len hp' ho) (h.go_pn0 hp' ho e)).2 (h.inn x e).2.1
    · exact (isOb_congr (h.go_len hp' ho) (h.go_pk0 hp' ho e1 e2)).2 e3
  have h0 := h.go_word hp' ho hx (t := 0) (by have := hob.nA_le; omega)
  refine ⟨?_, by unfold hdW; rw [← Nat.add_zero x, h0]; simp⟩
  rcases (h.go_live hp' ho).1 hx with e | e | ⟨e1, e2, e3⟩
  · rw [if_pos e]; exact .inr ⟨hp', ho⟩
  · have := (h.pn_lt e).2.1
    rw [if_neg (by omega)]; exact .inl e
  · have h5 := h.go_place hp' ho
    have h6 := h.bases
    obtain ⟨h1, h2, _⟩ := h.ink x e1
    rw [if_neg (by omega)]
    exact .inr ⟨e1, e3⟩
theorem Okw.go_ob {x : Nat} (hx : Live (s.go p) x) : isOb (s.go p).l x := by
  rcases (h.go_live hp' ho).1 hx with e | e | ⟨e1, e2, e3⟩
  · subst e; exact h.go_newOb hp' ho
  · exact (isOb_congr (h.go_len hp' ho) (h.go_pn0 hp' ho e)).2 (h.inn x e).2.1
  · exact (isOb_congr (h.go_len hp' ho) (h.go_pk0 hp' ho e1 e2)).2 e3
theorem Okw.go_szA {x : Nat} (hx : x ∈ s.pn) : szA (s.go p).l x = szA s.l x := szA_congr (h.go_pn0 hp' ho hx)
theorem Okw.go_szT : szA (s.go p).l s.tn = szA s.l p := by unfold szA nA hdW; rw [h.go_new0 hp' ho]
end
section
variable {s : Hp} (h : Ok s) {p : Nat} (hp' : p ∈ s.pk) (ho : isOb s.l p)
include h hp' ho
theorem Ok.go (hm : s.mv = true) : Ok (s.go p) := by
  have h5 := h.go_place hp' ho
  have h6 := h.bases
  have hfit := h.fits hp' ho
  have hpn : (s.go p).pn = s.pn ++ [s.tn] := rfl
  have htn : (s.go p).tn = s.tn + szA s.l p := rfl
  have hlen := h.go_len hp' ho
  have hpk : (s.go p).pk = s.pk := rfl
  have hbn : (s.go p).bn = s.bn := rfl
  have hbk : (s.go p).bk = s.bk := rfl
  have hmem : ∀ x, x ∈ s.pn ++ [s.tn] ↔ x ∈ s.pn ∨ x = s.tn := fun x => by rw [List.mem_append, List.mem_singleton]
  have hsz := fun x (hx : x ∈ s.pn) => h.go_szA hp' ho hx
  have hszT := h.go_szT hp' ho
  have hptr : ∀ v, PtrOk s v → PtrOk (s.go p) v := fun v hv => hv.imp id fun ⟨y, e, hy⟩ => ⟨y, e, hy.imp (fun hy => by rw [hpn, hmem]; exact .inl hy) id⟩
  have hnA : ∀ x, Live (s.go p) x → nA (s.go p).l x = nA s.l (if x = s.tn then p else x) := fun x hx => by unfold nA; rw [(h.go_was hp' ho hx).2]
  have hwka : ∀ x, Live (s.go p) x → hw (hdW (s.go p).l x) = true → ∃ a ∈ (s.go p).wk, fwd (s.go p).l a = x := fun x hx hwk => by
    have hw := h.go_was hp' ho hx
    rw [hw.2] at hwk
    obtain ⟨a, ha, e⟩ := h.wkAll _ hw.1 hwk
    refine ⟨a, ha, ?_⟩
    rw [h.go_fwd hp' ho (h.wks a ha).1, e]
    rcases (h.go_live hp' ho).1 hx with e' | e' | ⟨e1, e2, e3⟩
    · have e4 : (if x = s.tn then p else x) = p := if_pos e'
      rw [e4, if_pos rfl, e']
    · have h1 := (h.pn_lt e').2.1
      have h2 : x ≠ s.tn := by omega
      have h3 : x ≠ p := fun e4 => by
        subst e4
        have := (h.inn x e').1
        have := (h.inn x e').2.1.nA_le
        have := (h.inn x e').2.2
        omega
      rw [if_neg h2, if_neg h3]
    · obtain ⟨h1, h2, _⟩ := h.ink x e1
      have h3 : x ≠ s.tn := by omega
      rw [if_neg h3, if_neg e2]
  refine ⟨⟨h.u01, h.z0, h.z1, by rw [hlen]; exact h.len, ?_, h.k0, h.k1, ?_, ?_, ?_, fun x hx => ?_, fun x hx => ?_, ?_, ?_, ?_, fun x hx => ?_, fun e => ?_, h.sel, fun x hx => ?_, fun x hx i hi => ?_, fun _ x hx hlt hwk i hi => ?_, fun e => ?_, fun a ha => ?_, fun x hx hwk => hwka x (.inl hx) hwk, fun a ha => ?_, h.wkl, h.fil⟩, fun x hx hob hwk => hwka x (.inr ⟨hx, hob⟩) hwk⟩
  · rw [h.go_key hp' ho (by omega), if_neg (by omega), if_neg (by omega)]; exact h.zero
  · show s.tn + szA s.l p + (s.ow - szA s.l p) ≤ s.bn + s.z
    have := h.room; omega
  · rw [htn, hpn, hbn, List.map_append, List.sum_append, sum_congr hsz, List.map_singleton, List.sum_singleton, hszT]
    have := h.sum; omega
  · show s.ow - szA s.l p = (s.pk.map (ows (s.go p).l)).sum
    have hn : s.pk.Nodup := h.rk.imp fun e => by omega
    have e1 := sum_one (f := ows (s.go p).l) (g := ows s.l) hn hp' (fun x hx hne => by unfold ows; rw [hdW_congr (h.go_pk0 hp' ho hx hne), szA_congr (h.go_pk0 hp' ho hx hne)]) (by
      unfold ows
      rw [if_neg]
      have := (gone_fwd (h.go_p hp' ho)).2.1
      omega)
    have e2 : ows s.l p = szA s.l p := if_pos ho.odd
    have := h.owe; omega
  · rw [hpn, hmem] at hx
    rw [hbn, htn]
    rcases hx with hx | rfl
    · obtain ⟨a1, a2, a3⟩ := h.inn x hx
      exact ⟨a1, (isOb_congr hlen (h.go_pn0 hp' ho hx)).2 a2, by rw [hsz x hx]; omega⟩
    · exact ⟨by omega, h.go_newOb hp' ho, by rw [hszT]; omega⟩
  · rw [hpk] at hx
    obtain ⟨a1, a2, a3⟩ := h.ink x hx
    refine ⟨a1, a2, ?_⟩
    by_cases e : x = p
    · subst e
      exact .inr ⟨s.tn, by rw [hpn, hmem]; exact .inr rfl, h.go_p hp' ho⟩
    · have e0 := h.go_pk0 hp' ho hx e
      refine a3.imp (fun ⟨b1, b2⟩ => ⟨(isOb_congr hlen e0).2 b1, by rw [szA_congr e0]; exact b2⟩) fun ⟨n, b1, b2⟩ => ⟨n, by rw [hpn, hmem]; exact .inl b1, e0.trans b2⟩
  · rw [hpn, List.pairwise_append]
    refine ⟨pairwise_congr h.srn fun x hx y hy e => by rw [hsz x hx]; exact e, List.pairwise_singleton _ _, fun x hx y hy => ?_⟩
    rw [List.mem_singleton] at hy
    subst hy
    rw [hsz x hx]
    exact (h.inn x hx).2.2
  · rw [hpk]
    refine pairwise_congr h.srk fun x hx y hy e => ⟨e.1, fun hob => ?_⟩
    by_cases ex : x = p
    · subst ex
      exact absurd hob (gone_fwd (h.go_p hp' ho)).2.2
    · have e0 := h.go_pk0 hp' ho hx ex
      rw [szA_congr e0]
      exact e.2 ((isOb_congr hlen e0).1 hob)
  · right
    rw [hbn, hpn, hmem]
    rcases h.fst with e | e
    · exact .inr e.symm
    · exact .inl e
  · rw [hpn, hmem] at hx
    rw [hpn, hmem, htn]
    rcases hx with hx | rfl
    · rw [hsz x hx]
      rcases h.nxt x hx with e | e
      · exact .inr (.inr e)
      · exact .inr (.inl e)
    · rw [hszT]; exact .inl rfl
  · exact absurd (hm.symm.trans e) (by decide)
  · have := (h.go_ob hp' ho hx).nA_le
    rw [h.go_word hp' ho hx (by omega)]
    exact h.ser _ (h.go_was hp' ho hx).1
  · have hob := h.go_ob hp' ho hx
    have := hob.nA_le
    have hw := (h.go_was hp' ho hx)
    rw [h.go_word hp' ho hx (by unfold nA; omega)]
    rw [hw.2] at hi
    exact hptr _ (h.ptr _ hw.1 i hi)
  · have hx' : Live (s.go p) x := .inl hx
    rw [hpn, hmem] at hx
    rcases hx with hx | rfl
    · have e0 := h.go_pn0 hp' ho hx
      rw [hdW_congr e0] at hwk hi
      rw [h.go_pn hp' ho hx (by unfold nA; omega)]
      exact (h.blk hm x hx hlt hwk i hi).imp id fun ⟨y, hy, e⟩ => ⟨y, by rw [hpn, hmem]; exact .inl hy, e⟩
    · exfalso
      have hlt : s.tn < s.sc := hlt
      rcases h.scn hm with e | e
      · omega
      · have := (h.pn_lt e).2.1; omega
  · show s.sc = s.tn + szA s.l p ∨ s.sc ∈ s.pn ++ [s.tn]
    rw [hmem]
    rcases h.scn hm with e | e
    · exact .inr (.inr e)
    · exact .inr (.inl e)
  · obtain ⟨a1, a2⟩ := h.wks a ha
    refine ⟨a1.imp (fun e => by rw [hpn, hmem]; exact .inl e) id, ?_⟩
    rw [h.go_fwd hp' ho a1]
    by_cases e : fwd s.l a = p
    · rw [if_pos e]
      have : hdW (s.go p).l s.tn = hdW s.l p := by unfold hdW; rw [h.go_new0 hp' ho]
      rw [this, ← e]; exact a2
    · rw [if_neg e]
      have e0 : (s.go p).l.getD (fwd s.l a) 0 = s.l.getD (fwd s.l a) 0 := by
        rcases a1 with e1 | e1
        · rw [((h.inn a e1).2.1).fwd] at e ⊢
          exact h.go_pn0 hp' ho e1
        · rcases (h.ink a e1).2.2 with ⟨b1, _⟩ | ⟨n, hn, b1⟩
          · rw [b1.fwd] at e ⊢
            exact h.go_pk0 hp' ho e1 e
          · rw [(gone_fwd b1).1]
            exact h.go_pn0 hp' ho hn
      rw [hdW_congr e0]; exact a2
  · exact (h.fin a ha).imp (fun e => by rw [hpn, hmem]; exact .inl e) id
end

end Go.Proofs.Ytoohnnkhklifdaa

namespace Go.Proofs.Ytoohnnkhklifdaa
open Go.ChangeShapes Go.WideShapes Go.ChangeAt Go.RowKit

set_option linter.unusedSimpArgs false
set_option linter.unusedVariables false

/-- A row has one more. -/
theorem row_push {w : World} {v : Value} {l : List Nat} (h : RowIs w v l) (hn : l.length ≤ 2000000000000) (ty : TypeId) {g : Nat} {a : Nat} (hc : w.cell? ⟨g, 0, none⟩ = some (.int .i64 a)) :
    ∃ v' w', (Builtin.append_ #[23, 23] ty #[v, .slice (some ⟨g, 0, none⟩) 1 1]).run Try.prog w = .ok v' w' ∧ RowIs w' v' (l ++ [a]) ∧ w.grownBy w' v.ownBlock ∧ (v'.ownBlock = v.ownBlock ∨ v'.ownBlock = some w.heap.size) ∧ ∃ av c, v' = .slice av (l.length + 1) c := by
  obtain ⟨i0, hi, hz0, hz1, hz2⟩ := info_parts infoInt
  obtain ⟨v', w', hr, h2, h3, _, h5⟩ := run_append_own_at (P := Try.prog) w 0 23 ty 3 i0 (.int .i64 0) 1 8 Try.underlying23 hi hz0 hz1 hz2 rfl (by decide) v l.length _ h ⟨g, 0, none⟩ 1 1 [.int .i64 a] rfl (fun j u hj => by
    rcases j with _ | j
    · simp at hj; subst hj; exact hc
    · simp at hj) (fun u hu => by simp at hu; subst hu; rfl) (by unfold maxLen; omega) (by omega) (Nat.zero_le _)
  refine ⟨v', w', hr, ?_, h3, h5, own_slice h2⟩
  show w'.ownsRow 0 _ 1 v' (l ++ [a]).length _
  rw [nums_snoc, List.map_append, List.length_append]
  exact h2
theorem step_push {w : World} {ops : Array Oper} {o : Oper} {a : Act} {Q : Exit → Act → World → Prop} {K : Act → World → Prop} {E : Prop} (hg : o.guard = none) (s x : Operand)
    (hop : o.op = .call { callee := .builtin .append, args := #[s, x], argTypes := #[23, 23] }) (v : Value) (l : List Nat) (hs : a.eval s = v) (h : RowIs w v l) (hn : l.length ≤ 2000000000000) (g n : Nat) (hx : a.eval x = .slice (some ⟨g, 0, none⟩) 1 1) (hc : w.cell? ⟨g, 0, none⟩ = some (.int .i64 n))
    (hK : ∀ v' w', RowIs w' v' (l ++ [n]) → w.grownBy w' v.ownBlock → (v'.ownBlock = v.ownBlock ∨ v'.ownBlock = some w.heap.size) → (∃ av c, v' = .slice av (l.length + 1) c) → K (a.put o.dst v') w') :
    if Region.wanted o (yielded ops a.tmps) = true then Oper.wp Try.prog o a w K Q else E := by
  rw [if_pos (by simp [Region.wanted, hg])]
  obtain ⟨v', w', hr, h1, h2, h3, h4⟩ := row_push h hn o.type hc
  unfold Oper.wp
  simp [execOp, hop, resolve, invoke, builtin, hs, hx, hr, Result.andThen]
  exact hK v' w' h1 h2 h3 h4
theorem wpList_push {w : World} {ops : Array Oper} {rest : List Oper} {o : Oper} {a : Act} {Q : Exit → Act → World → Prop} (hg : o.guard = none) (s x : Operand)
    (hop : o.op = .call { callee := .builtin .append, args := #[s, x], argTypes := #[23, 23] }) (v : Value) (l : List Nat) (hs : a.eval s = v) (h : RowIs w v l) (hn : l.length ≤ 2000000000000) (g n : Nat) (hx : a.eval x = .slice (some ⟨g, 0, none⟩) 1 1) (hc : w.cell? ⟨g, 0, none⟩ = some (.int .i64 n))
    (hK : ∀ v' w', RowIs w' v' (l ++ [n]) → w.grownBy w' v.ownBlock → (v'.ownBlock = v.ownBlock ∨ v'.ownBlock = some w.heap.size) → (∃ av c, v' = .slice av (l.length + 1) c) → wpList Try.prog ops Q rest (a.put o.dst v') w') :
    wpList Try.prog ops Q (o :: rest) a w := by
  refine wpList_plain hg fun K' hK' => ?_
  obtain ⟨v', w', hr, h1, h2, h3, h4⟩ := row_push h hn o.type hc
  unfold Oper.wp
  simp [execOp, hop, resolve, invoke, builtin, hs, hx, hr, Result.andThen]
  exact hK' _ _ (hK v' w' h1 h2 h3 h4)

theorem taken_ok (p d : Nat) (wk fn : Bool) (o1 : shB p d wk fn = true) (o2 : p ≤ 8) (o3 : d ≤ 8) (w : World) :
    Calls Try.prog 18 #[shV p d wk fn] w fun e w' => e = .returned (.tuple #[.int .i64 (Cls.rd (3 + p + d) : Nat), .bool true]) ∧ Below w.heap.size w w' := by
  have HZ := size_yes p d wk fn o1 o2 o3
  have HR := round_any ((3 + p + d : Nat) : Int) (by omega) (by omega)
  rw [roundN_of (by omega) (by omega), okN_of (by omega) (by omega)] at HR
  have e3 : (3 + (p : Int) + (d : Int)) = ((3 + p + d : Nat) : Int) := by omega
  rw [e3] at HZ
  generalize Cls.rd (3 + p + d) = r at *
  generalize 3 + p + d = n at *
  clear e3
  go_enter Try.func18, Try.ntmps18
  have hB := (Below.refl w.heap.size w).alloc (Nat.le_refl _) (.cells #[.int .i64 p, .int .i64 d, .bool wk, .bool fn] 32)
  go_wp2_with fail
  refine (HZ _).mono ?_
  rintro e x ⟨rfl, hb⟩
  replace hB := hB.trans (hb.mono hB.size)
  go_wp2_with fail
  refine (HR _).mono ?_
  rintro e y ⟨rfl, hb2⟩
  go_wp2
  go_ret2
  exact ⟨rfl, hB.trans (hb2.mono hB.size)⟩

section
variable {w : World} {H P b : Nat} {v0 v1 v2 v3 : Value} {s : Hp} {K : Nat → Prop}
set_option maxHeartbeats 2000000 in
theorem laid_any (h : HeapIn w H P b v0 v1 v2 v3 s) (hK : ∀ k, Foot H P b v0 v1 v2 v3 k → K k) (hu : s.u = 0 ∨ s.u = 1) (t a : Nat) (hn : s.pn.length ≤ 16384) :
    Calls Try.prog 21 #[.pointer (some ⟨H, 0, none⟩), spV s.bn s.z t, .int .i64 a] w fun e w' => e = .returned (.tuple #[]) ∧ Went w K H { s with tn := t, pn := s.pn ++ [a] } w' := by
  obtain ⟨i0, hi, hz0, hz1, hz2⟩ := info_parts infoInt
  have hl := h.blk.lt
  obtain ⟨c0, c1, c2, c3, c4, c5, c6, c7, c8, c9, ca, cb, cc, cd, ce, cf⟩ := BlkIs.facts16 h.blk
  have fr := h.blk.free
  rcases hu with hu | hu
  · have e1 : s.bn = s.base 0 := by unfold Hp.bn; rw [hu]
    have e2 : s.pl 0 = s.pn := by unfold Hp.pl; rw [hu]; rfl
    have r0 := h.r0
    rw [e2] at r0
    rw [hu] at c9
    rw [e1]
    have f1 := fr 1
    have f2 := fr 2
    have f3 := fr 3
    have f7 := fr 7
    generalize hbn : s.base 0 = b0 at *
    go_enter Try.func21, Try.ntmps21
    go_upto_region 1 with fail
    go_region
    have hk : BlkIs (((((w.setCell ⟨H, 1, none⟩ (.int .i64 b0)).setCell ⟨H, 2, none⟩ (.int .i64 s.z)).setCell ⟨H, 3, none⟩ (.int .i64 t)).alloc (.cells #[.int .i64 b0, .int .i64 s.z, .int .i64 t] 47)).drew) H
        (hpC P (s.base 0) s.z t (s.base 1) (s.top 1) v0 v1 s.u s.mv s.ow s.sc s.se v2 v3) 53 := by
      rw [hbn]
      exact (((h.blk.set 1 (.int .i64 b0)).set 2 (.int .i64 s.z)).set 3 (.int .i64 t)).alloc _
    have hc : Chg (· = H) w (((((w.setCell ⟨H, 1, none⟩ (.int .i64 b0)).setCell ⟨H, 2, none⟩ (.int .i64 s.z)).setCell ⟨H, 3, none⟩ (.int .i64 t)).alloc (.cells #[.int .i64 b0, .int .i64 s.z, .int .i64 t] 47)).drew) :=
      (((((Chg.refl (· = H) w).setCell (p := ⟨H, 1, none⟩) (.inl rfl) _).setCell (p := ⟨H, 2, none⟩) (.inl rfl) _).setCell (p := ⟨H, 3, none⟩) (.inl rfl) _).alloc _).drew
    generalize (((((w.setCell ⟨H, 1, none⟩ (.int .i64 b0)).setCell ⟨H, 2, none⟩ (.int .i64 s.z)).setCell ⟨H, 3, none⟩ (.int .i64 t)).alloc (.cells #[.int .i64 b0, .int .i64 s.z, .int .i64 t] 47)).drew) = x at *
    clear c0 c1 c2 c3 c4 c5 c6 c7 c8 c9 ca cb cc cd ce cf f1 f2 f3 f7 fr
    obtain ⟨c0, c1, c2, c3, c4, c5, c6, c7, c8, c9, ca, cb, cc, cd, ce, cf⟩ := BlkIs.facts16 hk
    have f7 := hk.free 7
    have r1 : RowIs x v0 s.pn := r0.chg hc fun g e e' => by subst e'; exact r0.ne h.blk (by decide) e
    rw [hu] at c9
    go_upto_region 2 with fail
    refine wp_region_noPanic ?_
    refine wp_region_held_drew (S := fun y => y.cell? ⟨H, 9, none⟩ = some (.int .i64 (0 : Nat))) (by kernel_rfl) c9 (fun hS => ?_)
    first
    | (refine wpAnyH_take (i := 0) (v := ?_) rfl (by kernel_rfl) (by kernel_rfl) (by kernel_rfl) (fun _ _ _ h => h) (Or.inl ⟨by rfl, ?_⟩) hS ?_; rotate_left; (· (intro y hy; (try dsimp only at hy); go_simp; try with_reducible rfl)); try simp only [Act.put, List.setIfInBounds_toArray, List.set_cons_zero, List.set_cons_succ, List.getElem_toArray, List.getElem_cons_zero, List.getElem_cons_succ])
    | (refine wpAnyH_take (i := 0) (v := undef) rfl (by kernel_rfl) (by kernel_rfl) (by kernel_rfl) (fun _ _ _ h => h) (Or.inr ⟨by rfl, rfl⟩) hS ?_; try simp only [Act.put, List.setIfInBounds_toArray, List.set_cons_zero, List.set_cons_succ, List.getElem_toArray, List.getElem_cons_zero, List.getElem_cons_succ])
    first
    | (refine wpAnyH_take (i := 1) (v := ?_) rfl (by kernel_rfl) (by kernel_rfl) (by kernel_rfl) (fun _ _ _ h => h) (Or.inl ⟨by rfl, ?_⟩) hS ?_; rotate_left; (· (intro y hy; (try dsimp only at hy); go_simp; try with_reducible rfl)); try simp only [Act.put, List.setIfInBounds_toArray, List.set_cons_zero, List.set_cons_succ, List.getElem_toArray, List.getElem_cons_zero, List.getElem_cons_succ])
    | (refine wpAnyH_take (i := 1) (v := undef) rfl (by kernel_rfl) (by kernel_rfl) (by kernel_rfl) (fun _ _ _ h => h) (Or.inr ⟨by rfl, rfl⟩) hS ?_; try simp only [Act.put, List.setIfInBounds_toArray, List.set_cons_zero, List.set_cons_succ, List.getElem_toArray, List.getElem_cons_zero, List.getElem_cons_succ])
    first
    | (refine wpAnyH_take (i := 2) (v := ?_) rfl (by kernel_rfl) (by kernel_rfl) (by kernel_rfl) (fun _ _ _ h => h) (Or.inl ⟨by rfl, ?_⟩) hS ?_; rotate_left; (· (intro y hy; (try dsimp only at hy); go_simp; try with_reducible rfl)); try simp only [Act.put, List.setIfInBounds_toArray, List.set_cons_zero, List.set_cons_succ, List.getElem_toArray, List.getElem_cons_zero, List.getElem_cons_succ])
    | (refine wpAnyH_take (i := 2) (v := undef) rfl (by kernel_rfl) (by kernel_rfl) (by kernel_rfl) (fun _ _ _ h => h) (Or.inr ⟨by rfl, rfl⟩) hS ?_; try simp only [Act.put, List.setIfInBounds_toArray, List.set_cons_zero, List.set_cons_succ, List.getElem_toArray, List.getElem_cons_zero, List.getElem_cons_succ])
    first
    | (refine wpAnyH_take (i := 3) (v := ?_) rfl (by kernel_rfl) (by kernel_rfl) (by kernel_rfl) (fun _ _ _ h => h) (Or.inl ⟨by rfl, ?_⟩) hS ?_; rotate_left; (· (intro y hy; (try dsimp only at hy); go_simp; try with_reducible rfl)); try simp only [Act.put, List.setIfInBounds_toArray, List.set_cons_zero, List.set_cons_succ, List.getElem_toArray, List.getElem_cons_zero, List.getElem_cons_succ])
    | (refine wpAnyH_take (i := 3) (v := undef) rfl (by kernel_rfl) (by kernel_rfl) (by kernel_rfl) (fun _ _ _ h => h) (Or.inr ⟨by rfl, rfl⟩) hS ?_; try simp only [Act.put, List.setIfInBounds_toArray, List.set_cons_zero, List.set_cons_succ, List.getElem_toArray, List.getElem_cons_zero, List.getElem_cons_succ])
    first
    | (refine wpAnyH_take (i := 4) (v := ?_) rfl (by kernel_rfl) (by kernel_rfl) (by kernel_rfl) (fun _ _ _ h => h) (Or.inl ⟨by rfl, ?_⟩) hS ?_; rotate_left; (· (intro y hy; (try dsimp only at hy); go_simp; try with_reducible rfl)); try simp only [Act.put, List.setIfInBounds_toArray, List.set_cons_zero, List.set_cons_succ, List.getElem_toArray, List.getElem_cons_zero, List.getElem_cons_succ])
    | (refine wpAnyH_take (i := 4) (v := undef) rfl (by kernel_rfl) (by kernel_rfl) (by kernel_rfl) (fun _ _ _ h => h) (Or.inr ⟨by rfl, rfl⟩) hS ?_; try simp only [Act.put, List.setIfInBounds_toArray, List.set_cons_zero, List.set_cons_succ, List.getElem_toArray, List.getElem_cons_zero, List.getElem_cons_succ])
    first
    | (refine wpAnyH_take (i := 5) (v := ?_) rfl (by kernel_rfl) (by kernel_rfl) (by kernel_rfl) (fun _ _ _ h => h) (Or.inl ⟨by rfl, ?_⟩) hS ?_; rotate_left; (· (intro y hy; (try dsimp only at hy); go_simp; try with_reducible rfl)); try simp only [Act.put, List.setIfInBounds_toArray, List.set_cons_zero, List.set_cons_succ, List.getElem_toArray, List.getElem_cons_zero, List.getElem_cons_succ])
    | (refine wpAnyH_take (i := 5) (v := undef) rfl (by kernel_rfl) (by kernel_rfl) (by kernel_rfl) (fun _ _ _ h => h) (Or.inr ⟨by rfl, rfl⟩) hS ?_; try simp only [Act.put, List.setIfInBounds_toArray, List.set_cons_zero, List.set_cons_succ, List.getElem_toArray, List.getElem_cons_zero, List.getElem_cons_succ])
    first
    | (refine wpAnyH_take (i := 6) (v := ?_) rfl (by kernel_rfl) (by kernel_rfl) (by kernel_rfl) (fun _ _ _ h => h) (Or.inl ⟨by rfl, ?_⟩) hS ?_; rotate_left; (· (intro y hy; (try dsimp only at hy); go_simp; try with_reducible rfl)); try simp only [Act.put, List.setIfInBounds_toArray, List.set_cons_zero, List.set_cons_succ, List.getElem_toArray, List.getElem_cons_zero, List.getElem_cons_succ])
    | (refine wpAnyH_take (i := 6) (v := undef) rfl (by kernel_rfl) (by kernel_rfl) (by kernel_rfl) (fun _ _ _ h => h) (Or.inr ⟨by rfl, rfl⟩) hS ?_; try simp only [Act.put, List.setIfInBounds_toArray, List.set_cons_zero, List.set_cons_succ, List.getElem_toArray, List.getElem_cons_zero, List.getElem_cons_succ])
    first
    | (refine wpAnyH_take (i := 7) (v := ?_) rfl (by kernel_rfl) (by kernel_rfl) (by kernel_rfl) (fun _ _ _ h => h) (Or.inl ⟨by rfl, ?_⟩) hS ?_; rotate_left; (· (intro y hy; (try dsimp only at hy); go_simp; try with_reducible rfl)); try simp only [Act.put, List.setIfInBounds_toArray, List.set_cons_zero, List.set_cons_succ, List.getElem_toArray, List.getElem_cons_zero, List.getElem_cons_succ])
    | (refine wpAnyH_take (i := 7) (v := undef) rfl (by kernel_rfl) (by kernel_rfl) (by kernel_rfl) (fun _ _ _ h => h) (Or.inr ⟨by rfl, rfl⟩) hS ?_; try simp only [Act.put, List.setIfInBounds_toArray, List.set_cons_zero, List.set_cons_succ, List.getElem_toArray, List.getElem_cons_zero, List.getElem_cons_succ])
    first
    | (refine wpAnyH_take (i := 8) (v := ?_) rfl (by kernel_rfl) (by kernel_rfl) (by kernel_rfl) (fun _ _ _ h => h) (Or.inl ⟨by rfl, ?_⟩) hS ?_; rotate_left; (· (intro y hy; (try dsimp only at hy); go_simp; try with_reducible rfl)); try simp only [Act.put, List.setIfInBounds_toArray, List.set_cons_zero, List.set_cons_succ, List.getElem_toArray, List.getElem_cons_zero, List.getElem_cons_succ])
    | (refine wpAnyH_take (i := 8) (v := undef) rfl (by kernel_rfl) (by kernel_rfl) (by kernel_rfl) (fun _ _ _ h => h) (Or.inr ⟨by rfl, rfl⟩) hS ?_; try simp only [Act.put, List.setIfInBounds_toArray, List.set_cons_zero, List.set_cons_succ, List.getElem_toArray, List.getElem_cons_zero, List.getElem_cons_succ])
    first
    | (refine wpAnyH_take (i := 9) (v := ?_) rfl (by kernel_rfl) (by kernel_rfl) (by kernel_rfl) (fun _ _ _ h => h) (Or.inl ⟨by rfl, ?_⟩) hS ?_; rotate_left; (· (intro y hy; (try dsimp only at hy); go_simp; try with_reducible rfl)); try simp only [Act.put, List.setIfInBounds_toArray, List.set_cons_zero, List.set_cons_succ, List.getElem_toArray, List.getElem_cons_zero, List.getElem_cons_succ])
    | (refine wpAnyH_take (i := 9) (v := undef) rfl (by kernel_rfl) (by kernel_rfl) (by kernel_rfl) (fun _ _ _ h => h) (Or.inr ⟨by rfl, rfl⟩) hS ?_; try simp only [Act.put, List.setIfInBounds_toArray, List.set_cons_zero, List.set_cons_succ, List.getElem_toArray, List.getElem_cons_zero, List.getElem_cons_succ])
    first
    | (refine wpAnyH_take (i := 10) (v := ?_) rfl (by kernel_rfl) (by kernel_rfl) (by kernel_rfl) (fun _ _ _ h => h) (Or.inl ⟨by rfl, ?_⟩) hS ?_; rotate_left; (· (intro y hy; (try dsimp only at hy); go_simp; try with_reducible rfl)); try simp only [Act.put, List.setIfInBounds_toArray, List.set_cons_zero, List.set_cons_succ, List.getElem_toArray, List.getElem_cons_zero, List.getElem_cons_succ])
    | (refine wpAnyH_take (i := 10) (v := undef) rfl (by kernel_rfl) (by kernel_rfl) (by kernel_rfl) (fun _ _ _ h => h) (Or.inr ⟨by rfl, rfl⟩) hS ?_; try simp only [Act.put, List.setIfInBounds_toArray, List.set_cons_zero, List.set_cons_succ, List.getElem_toArray, List.getElem_cons_zero, List.getElem_cons_succ])
    first
    | (refine wpAnyH_take (i := 11) (v := ?_) rfl (by kernel_rfl) (by kernel_rfl) (by kernel_rfl) (fun _ _ _ h => h) (Or.inl ⟨by rfl, ?_⟩) hS ?_; rotate_left; (· (intro y hy; (try dsimp only at hy); go_simp; try with_reducible rfl)); try simp only [Act.put, List.setIfInBounds_toArray, List.set_cons_zero, List.set_cons_succ, List.getElem_toArray, List.getElem_cons_zero, List.getElem_cons_succ])
    | (refine wpAnyH_take (i := 11) (v := undef) rfl (by kernel_rfl) (by kernel_rfl) (by kernel_rfl) (fun _ _ _ h => h) (Or.inr ⟨by rfl, rfl⟩) hS ?_; try simp only [Act.put, List.setIfInBounds_toArray, List.set_cons_zero, List.set_cons_succ, List.getElem_toArray, List.getElem_cons_zero, List.getElem_cons_succ])
    first
    | (refine wpAnyH_take (i := 12) (v := ?_) rfl (by kernel_rfl) (by kernel_rfl) (by kernel_rfl) (fun _ _ _ h => h) (Or.inl ⟨by rfl, ?_⟩) hS ?_; rotate_left; (· (intro y hy; (try dsimp only at hy); go_simp; try with_reducible rfl)); try simp only [Act.put, List.setIfInBounds_toArray, List.set_cons_zero, List.set_cons_succ, List.getElem_toArray, List.getElem_cons_zero, List.getElem_cons_succ])
    | (refine wpAnyH_take (i := 12) (v := undef) rfl (by kernel_rfl) (by kernel_rfl) (by kernel_rfl) (fun _ _ _ h => h) (Or.inr ⟨by rfl, rfl⟩) hS ?_; try simp only [Act.put, List.setIfInBounds_toArray, List.set_cons_zero, List.set_cons_succ, List.getElem_toArray, List.getElem_cons_zero, List.getElem_cons_succ])
    first
    | (refine wpAnyH_take (i := 14) (v := ?_) rfl (by kernel_rfl) (by kernel_rfl) (by kernel_rfl) (fun _ _ _ h => h) (Or.inl ⟨by rfl, ?_⟩) hS ?_; rotate_left; (· (intro y hy; (try dsimp only at hy); go_simp; try with_reducible rfl)); try simp only [Act.put, List.setIfInBounds_toArray, List.set_cons_zero, List.set_cons_succ, List.getElem_toArray, List.getElem_cons_zero, List.getElem_cons_succ])
    | (refine wpAnyH_take (i := 14) (v := undef) rfl (by kernel_rfl) (by kernel_rfl) (by kernel_rfl) (fun _ _ _ h => h) (Or.inr ⟨by rfl, rfl⟩) hS ?_; try simp only [Act.put, List.setIfInBounds_toArray, List.set_cons_zero, List.set_cons_succ, List.getElem_toArray, List.getElem_cons_zero, List.getElem_cons_succ])
    first
    | (refine wpAnyH_take (i := 17) (v := ?_) rfl (by kernel_rfl) (by kernel_rfl) (by kernel_rfl) (fun _ _ _ h => h) (Or.inl ⟨by rfl, ?_⟩) hS ?_; rotate_left; (· (intro y hy; (try dsimp only at hy); go_simp; try with_reducible rfl)); try simp only [Act.put, List.setIfInBounds_toArray, List.set_cons_zero, List.set_cons_succ, List.getElem_toArray, List.getElem_cons_zero, List.getElem_cons_succ])
    | (refine wpAnyH_take (i := 17) (v := undef) rfl (by kernel_rfl) (by kernel_rfl) (by kernel_rfl) (fun _ _ _ h => h) (Or.inr ⟨by rfl, rfl⟩) hS ?_; try simp only [Act.put, List.setIfInBounds_toArray, List.set_cons_zero, List.set_cons_succ, List.getElem_toArray, List.getElem_cons_zero, List.getElem_cons_succ])
    first
    | (refine wpAnyH_take (i := 18) (v := ?_) rfl (by kernel_rfl) (by kernel_rfl) (by kernel_rfl) (fun _ _ _ h => h) (Or.inl ⟨by rfl, ?_⟩) hS ?_; rotate_left; (· (intro y hy; (try dsimp only at hy); go_simp; try with_reducible rfl)); try simp only [Act.put, List.setIfInBounds_toArray, List.set_cons_zero, List.set_cons_succ, List.getElem_toArray, List.getElem_cons_zero, List.getElem_cons_succ])
    | (refine wpAnyH_take (i := 18) (v := undef) rfl (by kernel_rfl) (by kernel_rfl) (by kernel_rfl) (fun _ _ _ h => h) (Or.inr ⟨by rfl, rfl⟩) hS ?_; try simp only [Act.put, List.setIfInBounds_toArray, List.set_cons_zero, List.set_cons_succ, List.getElem_toArray, List.getElem_cons_zero, List.getElem_cons_succ])
    have hka : BlkIs (x.alloc (.cells #[.int .i64 a] 3)).drew H _ _ := hk.alloc (.cells #[.int .i64 a] 3)
    have hba : BlkIs (x.alloc (.cells #[.int .i64 a] 3)).drew x.heap.size _ _ := BlkIs.new x #[.int .i64 a] 3
    refine wpAnyH_ready (rs := [13, 15]) (by kernel_rfl) (by simp) ?_
    refine AllReadyH.cons (o := _) rfl (fun K hK => ?_) (AllReadyH.cons (o := _) rfl (fun K hK => ?_) AllReadyH.nil)
    · go_simp
      refine hK.out _ _ (c9) (fun hS => ?_)
      clear hK K
      try simp only [Act.put, List.setIfInBounds_toArray, List.set_cons_zero, List.set_cons_succ]
      refine wpAnyH_ready (rs := [15]) (by kernel_rfl) (by simp) ?_
      refine AllReadyH.cons (o := _) rfl (fun K hK => ?_) AllReadyH.nil
      go_simp
      refine hK.out _ _ (by rw [hka.cell 9, hu]; rfl) (fun hS => ?_)
      clear hK K
      try simp only [Act.put, List.setIfInBounds_toArray, List.set_cons_zero, List.set_cons_succ]
      refine wpAnyH_ready (rs := [16]) (by kernel_rfl) (by simp) ?_
      refine AllReadyH.cons (o := _) rfl (fun K hK => ?_) AllReadyH.nil
      have hca : Chg (· = H) w (x.alloc (.cells #[.int .i64 a] 3)).drew := (hc.alloc _).drew
      have r2 : RowIs (x.alloc (.cells #[.int .i64 a] 3)).drew v0 s.pn := r0.chg hca fun g e e' => by subst e'; exact r0.ne h.blk (by decide) e
      refine step_push rfl _ _ rfl v0 s.pn rfl r2 (by omega) x.heap.size a rfl (hba.cell 0) ?_
      intro v' w' r3 hg hat hsl
      have hc2 : Chg (fun k => some k = v0.ownBlock) (x.alloc (.cells #[.int .i64 a] 3)).drew w' := Chg.of_grown hg fun _ e => e
      have hk2 := hka.chg hc2 fun e => r0.ne h.blk (by decide) e.symm
      obtain ⟨av, c, rfl⟩ := hsl
      have g7 := hk2.free 7
      have g7c := hk2.cell 7
      refine hK.out _ _ (by rw [hk2.cell 9, hu]; rfl) (fun hS => ?_)
      clear hK K
      try simp only [Act.put, List.setIfInBounds_toArray, List.set_cons_zero, List.set_cons_succ]
      first
      | (refine wpAnyH_take (i := 19) (v := ?_) rfl (by kernel_rfl) (by kernel_rfl) (by kernel_rfl) (fun _ _ _ h => h) (Or.inl ⟨by rfl, ?_⟩) hS ?_; rotate_left; (· (intro y hy; (try dsimp only at hy); go_simp; try with_reducible rfl)); try simp only [Act.put, List.setIfInBounds_toArray, List.set_cons_zero, List.set_cons_succ, List.getElem_toArray, List.getElem_cons_zero, List.getElem_cons_succ])
      | (refine wpAnyH_take (i := 19) (v := undef) rfl (by kernel_rfl) (by kernel_rfl) (by kernel_rfl) (fun _ _ _ h => h) (Or.inr ⟨by rfl, rfl⟩) hS ?_; try simp only [Act.put, List.setIfInBounds_toArray, List.set_cons_zero, List.set_cons_succ, List.getElem_toArray, List.getElem_cons_zero, List.getElem_cons_succ])
      refine wpAnyH_ready (rs := [20]) (by kernel_rfl) (by simp) ?_
      refine AllReadyH.cons (o := _) rfl (fun K hK => ?_) AllReadyH.nil
      go_simp
      refine hK.out _ _ (by rw [(hk2.set 7 (.slice av (s.pn.length + 1) c)).cell 9, hu]; rfl) (fun hS => ?_)
      clear hK K
      try simp only [Act.put, List.setIfInBounds_toArray, List.set_cons_zero, List.set_cons_succ]
      refine wpAnyH_done (by kernel_rfl) ?_ _
      refine NoPanic.normal ?_
      go_wp2
      go_end0
      refine ⟨rfl, ?_⟩
      refine went_row h hK 0 (by omega) rfl (u0 := .slice av (s.pn.length + 1) c) (u1 := v1) (u2 := v2) (u3 := v3) (four (fun h => absurd rfl h) (fun _ => rfl) (fun _ => rfl) (fun _ => rfl)) (four (fun h => absurd rfl h) (fun _ => ?_) (fun _ => rfl) (fun _ => rfl)) ?_ ?_ ?_ ?_
      · show (if 1 = s.u then _ else _) = (if 1 = s.u then _ else _)
        rw [hu]; rfl
      · show BlkIs _ H (hpC P (s.base 0) s.z (if 0 = s.u then t else s.tk) (s.base 1) (if 1 = s.u then t else s.tk) _ _ _ _ _ _ _ _ _) _
        have e4 : s.top 1 = s.tk := by unfold Hp.top; rw [hu]; rfl
        rw [e4] at hk2
        rw [show (if 0 = s.u then t else s.tk) = t from by rw [hu]; rfl, show (if 1 = s.u then t else s.tk) = s.tk from by rw [hu]; rfl]
        exact hk2.set 7 _
      · refine ((hca.mono fun k e => .inl e).step hc2 fun k e => .inl (.inr e)).setCell (p := ⟨H, 7, none⟩) (.inl (.inl rfl)) _
      · show RowIs _ _ (if 0 = s.u then s.pn ++ [a] else s.pk)
        rw [show (if 0 = s.u then s.pn ++ [a] else s.pk) = s.pn ++ [a] from by rw [hu]; rfl]
        exact r3.chg (S := (· = H)) ((Chg.refl (· = H) w').setCell (p := ⟨H, 7, none⟩) (.inl rfl) _) fun g e e' => by subst e'; exact r3.ne hk2 (by decide) e
      · exact hat.imp id fun e => ⟨_, e, hca.size⟩
    · go_simp
      refine hK.out _ _ (by rw [hka.cell 9, hu]; rfl) (fun hS => ?_)
      clear hK K
      try simp only [Act.put, List.setIfInBounds_toArray, List.set_cons_zero, List.set_cons_succ]
      refine wpAnyH_ready (rs := [13]) (by kernel_rfl) (by simp) ?_
      refine AllReadyH.cons (o := _) rfl (fun K hK => ?_) AllReadyH.nil
      have hk7 : (x.alloc (.cells #[.int .i64 a] 3)).cell? ⟨H, 7, none⟩ = some v0 := hka.cell 7
      go_simp
      refine hK.out _ _ (by rw [hka.cell 9, hu]; rfl) (fun hS => ?_)
      clear hK K
      try simp only [Act.put, List.setIfInBounds_toArray, List.set_cons_zero, List.set_cons_succ]
      refine wpAnyH_ready (rs := [16]) (by kernel_rfl) (by simp) ?_
      refine AllReadyH.cons (o := _) rfl (fun K hK => ?_) AllReadyH.nil
      have hca : Chg (· = H) w (x.alloc (.cells #[.int .i64 a] 3)).drew := (hc.alloc _).drew
      have r2 : RowIs (x.alloc (.cells #[.int .i64 a] 3)).drew v0 s.pn := r0.chg hca fun g e e' => by subst e'; exact r0.ne h.blk (by decide) e
      refine step_push rfl _ _ rfl v0 s.pn rfl r2 (by omega) x.heap.size a rfl (hba.cell 0) ?_
      intro v' w' r3 hg hat hsl
      have hc2 : Chg (fun k => some k = v0.ownBlock) (x.alloc (.cells #[.int .i64 a] 3)).drew w' := Chg.of_grown hg fun _ e => e
      have hk2 := hka.chg hc2 fun e => r0.ne h.blk (by decide) e.symm
      obtain ⟨av, c, rfl⟩ := hsl
      have g7 := hk2.free 7
      have g7c := hk2.cell 7
      refine hK.out _ _ (by rw [hk2.cell 9, hu]; rfl) (fun hS => ?_)
      clear hK K
      try simp only [Act.put, List.setIfInBounds_toArray, List.set_cons_zero, List.set_cons_succ]
      first
      | (refine wpAnyH_take (i := 19) (v := ?_) rfl (by kernel_rfl) (by kernel_rfl) (by kernel_rfl) (fun _ _ _ h => h) (Or.inl ⟨by rfl, ?_⟩) hS ?_; rotate_left; (· (intro y hy; (try dsimp only at hy); go_simp; try with_reducible rfl)); try simp only [Act.put, List.setIfInBounds_toArray, List.set_cons_zero, List.set_cons_succ, List.getElem_toArray, List.getElem_cons_zero, List.getElem_cons_succ])
      | (refine wpAnyH_take (i := 19) (v := undef) rfl (by kernel_rfl) (by kernel_rfl) (by kernel_rfl) (fun _ _ _ h => h) (Or.inr ⟨by rfl, rfl⟩) hS ?_; try simp only [Act.put, List.setIfInBounds_toArray, List.set_cons_zero, List.set_cons_succ, List.getElem_toArray, List.getElem_cons_zero, List.getElem_cons_succ])
      refine wpAnyH_ready (rs := [20]) (by kernel_rfl) (by simp) ?_
      refine AllReadyH.cons (o := _) rfl (fun K hK => ?_) AllReadyH.nil
      go_simp
      refine hK.out _ _ (by rw [(hk2.set 7 (.slice av (s.pn.length + 1) c)).cell 9, hu]; rfl) (fun hS => ?_)
      clear hK K
      try simp only [Act.put, List.setIfInBounds_toArray, List.set_cons_zero, List.set_cons_succ]
      refine wpAnyH_done (by kernel_rfl) ?_ _
      refine NoPanic.normal ?_
      go_wp2
      go_end0
      refine ⟨rfl, ?_⟩
      refine went_row h hK 0 (by omega) rfl (u0 := .slice av (s.pn.length + 1) c) (u1 := v1) (u2 := v2) (u3 := v3) (four (fun h => absurd rfl h) (fun _ => rfl) (fun _ => rfl) (fun _ => rfl)) (four (fun h => absurd rfl h) (fun _ => ?_) (fun _ => rfl) (fun _ => rfl)) ?_ ?_ ?_ ?_
      · show (if 1 = s.u then _ else _) = (if 1 = s.u then _ else _)
        rw [hu]; rfl
      · show BlkIs _ H (hpC P (s.base 0) s.z (if 0 = s.u then t else s.tk) (s.base 1) (if 1 = s.u then t else s.tk) _ _ _ _ _ _ _ _ _) _
        have e4 : s.top 1 = s.tk := by unfold Hp.top; rw [hu]; rfl
        rw [e4] at hk2
        rw [show (if 0 = s.u then t else s.tk) = t from by rw [hu]; rfl, show (if 1 = s.u then t else s.tk) = s.tk from by rw [hu]; rfl]
        exact hk2.set 7 _
      · refine ((hca.mono fun k e => .inl e).step hc2 fun k e => .inl (.inr e)).setCell (p := ⟨H, 7, none⟩) (.inl (.inl rfl)) _
      · show RowIs _ _ (if 0 = s.u then s.pn ++ [a] else s.pk)
        rw [show (if 0 = s.u then s.pn ++ [a] else s.pk) = s.pn ++ [a] from by rw [hu]; rfl]
        exact r3.chg (S := (· = H)) ((Chg.refl (· = H) w').setCell (p := ⟨H, 7, none⟩) (.inl rfl) _) fun g e e' => by subst e'; exact r3.ne hk2 (by decide) e
      · exact hat.imp id fun e => ⟨_, e, hca.size⟩
  · have e1 : s.bn = s.base 1 := by unfold Hp.bn; rw [hu]
    have e2 : s.pl 1 = s.pn := by unfold Hp.pl; rw [hu]; rfl
    have r0 := h.r1
    rw [e2] at r0
    rw [hu] at c9
    rw [e1]
    have f1 := fr 4
    have f2 := fr 5
    have f3 := fr 6
    have f7 := fr 8
    generalize hbn : s.base 1 = b0 at *
    go_enter Try.func21, Try.ntmps21
    go_upto_region 1 with fail
    go_region
    have hk : BlkIs (((((w.setCell ⟨H, 4, none⟩ (.int .i64 b0)).setCell ⟨H, 5, none⟩ (.int .i64 s.z)).setCell ⟨H, 6, none⟩ (.int .i64 t)).alloc (.cells #[.int .i64 b0, .int .i64 s.z, .int .i64 t] 47)).drew) H
        (hpC P (s.base 0) s.z (s.top 0) (s.base 1) t v0 v1 s.u s.mv s.ow s.sc s.se v2 v3) 53 := by
      rw [hbn]
      exact (((h.blk.set 4 (.int .i64 b0)).set 5 (.int .i64 s.z)).set 6 (.int .i64 t)).alloc _
    have hc : Chg (· = H) w (((((w.setCell ⟨H, 4, none⟩ (.int .i64 b0)).setCell ⟨H, 5, none⟩ (.int .i64 s.z)).setCell ⟨H, 6, none⟩ (.int .i64 t)).alloc (.cells #[.int .i64 b0, .int .i64 s.z, .int .i64 t] 47)).drew) :=
      (((((Chg.refl (· = H) w).setCell (p := ⟨H, 4, none⟩) (.inl rfl) _).setCell (p := ⟨H, 5, none⟩) (.inl rfl) _).setCell (p := ⟨H, 6, none⟩) (.inl rfl) _).alloc _).drew
    generalize (((((w.setCell ⟨H, 4, none⟩ (.int .i64 b0)).setCell ⟨H, 5, none⟩ (.int .i64 s.z)).setCell ⟨H, 6, none⟩ (.int .i64 t)).alloc (.cells #[.int .i64 b0, .int .i64 s.z, .int .i64 t] 47)).drew) = x at *
    clear c0 c1 c2 c3 c4 c5 c6 c7 c8 c9 ca cb cc cd ce cf f1 f2 f3 f7 fr
    obtain ⟨c0, c1, c2, c3, c4, c5, c6, c7, c8, c9, ca, cb, cc, cd, ce, cf⟩ := BlkIs.facts16 hk
    have f7 := hk.free 8
    have r1 : RowIs x v1 s.pn := r0.chg hc fun g e e' => by subst e'; exact r0.ne h.blk (by decide) e
    rw [hu] at c9
    go_upto_region 2 with fail
    refine wp_region_noPanic ?_
    refine wp_region_held_drew (S := fun y => y.cell? ⟨H, 9, none⟩ = some (.int .i64 (1 : Nat))) (by kernel_rfl) c9 (fun hS => ?_)
    first
    | (refine wpAnyH_take (i := 0) (v := ?_) rfl (by kernel_rfl) (by kernel_rfl) (by kernel_rfl) (fun _ _ _ h => h) (Or.inl ⟨by rfl, ?_⟩) hS ?_; rotate_left; (· (intro y hy; (try dsimp only at hy); go_simp; try with_reducible rfl)); try simp only [Act.put, List.setIfInBounds_toArray, List.set_cons_zero, List.set_cons_succ, List.getElem_toArray, List.getElem_cons_zero, List.getElem_cons_succ])
    | (refine wpAnyH_take (i := 0) (v := undef) rfl (by kernel_rfl) (by kernel_rfl) (by kernel_rfl) (fun _ _ _ h => h) (Or.inr ⟨by rfl, rfl⟩) hS ?_; try simp only [Act.put, List.setIfInBounds_toArray, List.set_cons_zero, List.set_cons_succ, List.getElem_toArray, List.getElem_cons_zero, List.getElem_cons_succ])
    first
    | (refine wpAnyH_take (i := 1) (v := ?_) rfl (by kernel_rfl) (by kernel_rfl) (by kernel_rfl) (fun _ _ _ h => h) (Or.inl ⟨by rfl, ?_⟩) hS ?_; rotate_left; (· (intro y hy; (try dsimp only at hy); go_simp; try with_reducible rfl)); try simp only [Act.put, List.setIfInBounds_toArray, List.set_cons_zero, List.set_cons_succ, List.getElem_toArray, List.getElem_cons_zero, List.getElem_cons_succ])
    | (refine wpAnyH_take (i := 1) (v := undef) rfl (by kernel_rfl) (by kernel_rfl) (by kernel_rfl) (fun _ _ _ h => h) (Or.inr ⟨by rfl, rfl⟩) hS ?_; try simp only [Act.put, List.setIfInBounds_toArray, List.set_cons_zero, List.set_cons_succ, List.getElem_toArray, List.getElem_cons_zero, List.getElem_cons_succ])
    first
    | (refine wpAnyH_take (i := 2) (v := ?_) rfl (by kernel_rfl) (by kernel_rfl) (by kernel_rfl) (fun _ _ _ h => h) (Or.inl ⟨by rfl, ?_⟩) hS ?_; rotate_left; (· (intro y hy; (try dsimp only at hy); go_simp; try with_reducible rfl)); try simp only [Act.put, List.setIfInBounds_toArray, List.set_cons_zero, List.set_cons_succ, List.getElem_toArray, List.getElem_cons_zero, List.getElem_cons_succ])
    | (refine wpAnyH_take (i := 2) (v := undef) rfl (by kernel_rfl) (by kernel_rfl) (by kernel_rfl) (fun _ _ _ h => h) (Or.inr ⟨by rfl, rfl⟩) hS ?_; try simp only [Act.put, List.setIfInBounds_toArray, List.set_cons_zero, List.set_cons_succ, List.getElem_toArray, List.getElem_cons_zero, List.getElem_cons_succ])
    first
    | (refine wpAnyH_take (i := 3) (v := ?_) rfl (by kernel_rfl) (by kernel_rfl) (by kernel_rfl) (fun _ _ _ h => h) (Or.inl ⟨by rfl, ?_⟩) hS ?_; rotate_left; (· (intro y hy; (try dsimp only at hy); go_simp; try with_reducible rfl)); try simp only [Act.put, List.setIfInBounds_toArray, List.set_cons_zero, List.set_cons_succ, List.getElem_toArray, List.getElem_cons_zero, List.getElem_cons_succ])
    | (refine wpAnyH_take (i := 3) (v := undef) rfl (by kernel_rfl) (by kernel_rfl) (by kernel_rfl) (fun _ _ _ h => h) (Or.inr ⟨by rfl, rfl⟩) hS ?_; try simp only [Act.put, List.setIfInBounds_toArray, List.set_cons_zero, List.set_cons_succ, List.getElem_toArray, List.getElem_cons_zero, List.getElem_cons_succ])
    first
    | (refine wpAnyH_take (i := 4) (v := ?_) rfl (by kernel_rfl) (by kernel_rfl) (by kernel_rfl) (fun _ _ _ h => h) (Or.inl ⟨by rfl, ?_⟩) hS ?_; rotate_left; (· (intro y hy; (try dsimp only at hy); go_simp; try with_reducible rfl)); try simp only [Act.put, List.setIfInBounds_toArray, List.set_cons_zero, List.set_cons_succ, List.getElem_toArray, List.getElem_cons_zero, List.getElem_cons_succ])
    | (refine wpAnyH_take (i := 4) (v := undef) rfl (by kernel_rfl) (by kernel_rfl) (by kernel_rfl) (fun _ _ _ h => h) (Or.inr ⟨by rfl, rfl⟩) hS ?_; try simp only [Act.put, List.setIfInBounds_toArray, List.set_cons_zero, List.set_cons_succ, List.getElem_toArray, List.getElem_cons_zero, List.getElem_cons_succ])
    first
    | (refine wpAnyH_take (i := 5) (v := ?_) rfl (by kernel_rfl) (by kernel_rfl) (by kernel_rfl) (fun _ _ _ h => h) (Or.inl ⟨by rfl, ?_⟩) hS ?_; rotate_left; (· (intro y hy; (try dsimp only at hy); go_simp; try with_reducible rfl)); try simp only [Act.put, List.setIfInBounds_toArray, List.set_cons_zero, List.set_cons_succ, List.getElem_toArray, List.getElem_cons_zero, List.getElem_cons_succ])
    | (refine wpAnyH_take (i := 5) (v := undef) rfl (by kernel_rfl) (by kernel_rfl) (by kernel_rfl) (fun _ _ _ h => h) (Or.inr ⟨by rfl, rfl⟩) hS ?_; try simp only [Act.put, List.setIfInBounds_toArray, List.set_cons_zero, List.set_cons_succ, List.getElem_toArray, List.getElem_cons_zero, List.getElem_cons_succ])
    first
    | (refine wpAnyH_take (i := 6) (v := ?_) rfl (by kernel_rfl) (by kernel_rfl) (by kernel_rfl) (fun _ _ _ h => h) (Or.inl ⟨by rfl, ?_⟩) hS ?_; rotate_left; (· (intro y hy; (try dsimp only at hy); go_simp; try with_reducible rfl)); try simp only [Act.put, List.setIfInBounds_toArray, List.set_cons_zero, List.set_cons_succ, List.getElem_toArray, List.getElem_cons_zero, List.getElem_cons_succ])
    | (refine wpAnyH_take (i := 6) (v := undef) rfl (by kernel_rfl) (by kernel_rfl) (by kernel_rfl) (fun _ _ _ h => h) (Or.inr ⟨by rfl, rfl⟩) hS ?_; try simp only [Act.put, List.setIfInBounds_toArray, List.set_cons_zero, List.set_cons_succ, List.getElem_toArray, List.getElem_cons_zero, List.getElem_cons_succ])
    first
    | (refine wpAnyH_take (i := 7) (v := ?_) rfl (by kernel_rfl) (by kernel_rfl) (by kernel_rfl) (fun _ _ _ h => h) (Or.inl ⟨by rfl, ?_⟩) hS ?_; rotate_left; (· (intro y hy; (try dsimp only at hy); go_simp; try with_reducible rfl)); try simp only [Act.put, List.setIfInBounds_toArray, List.set_cons_zero, List.set_cons_succ, List.getElem_toArray, List.getElem_cons_zero, List.getElem_cons_succ])
    | (refine wpAnyH_take (i := 7) (v := undef) rfl (by kernel_rfl) (by kernel_rfl) (by kernel_rfl) (fun _ _ _ h => h) (Or.inr ⟨by rfl, rfl⟩) hS ?_; try simp only [Act.put, List.setIfInBounds_toArray, List.set_cons_zero, List.set_cons_succ, List.getElem_toArray, List.getElem_cons_zero, List.getElem_cons_succ])
    first
    | (refine wpAnyH_take (i := 8) (v := ?_) rfl (by kernel_rfl) (by kernel_rfl) (by kernel_rfl) (fun _ _ _ h => h) (Or.inl ⟨by rfl, ?_⟩) hS ?_; rotate_left; (· (intro y hy; (try dsimp only at hy); go_simp; try with_reducible rfl)); try simp only [Act.put, List.setIfInBounds_toArray, List.set_cons_zero, List.set_cons_succ, List.getElem_toArray, List.getElem_cons_zero, List.getElem_cons_succ])
    | (refine wpAnyH_take (i := 8) (v := undef) rfl (by kernel_rfl) (by kernel_rfl) (by kernel_rfl) (fun _ _ _ h => h) (Or.inr ⟨by rfl, rfl⟩) hS ?_; try simp only [Act.put, List.setIfInBounds_toArray, List.set_cons_zero, List.set_cons_succ, List.getElem_toArray, List.getElem_cons_zero, List.getElem_cons_succ])
    first
    | (refine wpAnyH_take (i := 9) (v := ?_) rfl (by kernel_rfl) (by kernel_rfl) (by kernel_rfl) (fun _ _ _ h => h) (Or.inl ⟨by rfl, ?_⟩) hS ?_; rotate_left; (· (intro y hy; (try dsimp only at hy); go_simp; try with_reducible rfl)); try simp only [Act.put, List.setIfInBounds_toArray, List.set_cons_zero, List.set_cons_succ, List.getElem_toArray, List.getElem_cons_zero, List.getElem_cons_succ])
    | (refine wpAnyH_take (i := 9) (v := undef) rfl (by kernel_rfl) (by kernel_rfl) (by kernel_rfl) (fun _ _ _ h => h) (Or.inr ⟨by rfl, rfl⟩) hS ?_; try simp only [Act.put, List.setIfInBounds_toArray, List.set_cons_zero, List.set_cons_succ, List.getElem_toArray, List.getElem_cons_zero, List.getElem_cons_succ])
    first
    | (refine wpAnyH_take (i := 10) (v := ?_) rfl (by kernel_rfl) (by kernel_rfl) (by kernel_rfl) (fun _ _ _ h => h) (Or.inl ⟨by rfl, ?_⟩) hS ?_; rotate_left; (· (intro y hy; (try dsimp only at hy); go_simp; try with_reducible rfl)); try simp only [Act.put, List.setIfInBounds_toArray, List.set_cons_zero, List.set_cons_succ, List.getElem_toArray, List.getElem_cons_zero, List.getElem_cons_succ])
    | (refine wpAnyH_take (i := 10) (v := undef) rfl (by kernel_rfl) (by kernel_rfl) (by kernel_rfl) (fun _ _ _ h => h) (Or.inr ⟨by rfl, rfl⟩) hS ?_; try simp only [Act.put, List.setIfInBounds_toArray, List.set_cons_zero, List.set_cons_succ, List.getElem_toArray, List.getElem_cons_zero, List.getElem_cons_succ])
    first
    | (refine wpAnyH_take (i := 11) (v := ?_) rfl (by kernel_rfl) (by kernel_rfl) (by kernel_rfl) (fun _ _ _ h => h) (Or.inl ⟨by rfl, ?_⟩) hS ?_; rotate_left; (· (intro y hy; (try dsimp only at hy); go_simp; try with_reducible rfl)); try simp only [Act.put, List.setIfInBounds_toArray, List.set_cons_zero, List.set_cons_succ, List.getElem_toArray, List.getElem_cons_zero, List.getElem_cons_succ])
    | (refine wpAnyH_take (i := 11) (v := undef) rfl (by kernel_rfl) (by kernel_rfl) (by kernel_rfl) (fun _ _ _ h => h) (Or.inr ⟨by rfl, rfl⟩) hS ?_; try simp only [Act.put, List.setIfInBounds_toArray, List.set_cons_zero, List.set_cons_succ, List.getElem_toArray, List.getElem_cons_zero, List.getElem_cons_succ])
    first
    | (refine wpAnyH_take (i := 12) (v := ?_) rfl (by kernel_rfl) (by kernel_rfl) (by kernel_rfl) (fun _ _ _ h => h) (Or.inl ⟨by rfl, ?_⟩) hS ?_; rotate_left; (· (intro y hy; (try dsimp only at hy); go_simp; try with_reducible rfl)); try simp only [Act.put, List.setIfInBounds_toArray, List.set_cons_zero, List.set_cons_succ, List.getElem_toArray, List.getElem_cons_zero, List.getElem_cons_succ])
    | (refine wpAnyH_take (i := 12) (v := undef) rfl (by kernel_rfl) (by kernel_rfl) (by kernel_rfl) (fun _ _ _ h => h) (Or.inr ⟨by rfl, rfl⟩) hS ?_; try simp only [Act.put, List.setIfInBounds_toArray, List.set_cons_zero, List.set_cons_succ, List.getElem_toArray, List.getElem_cons_zero, List.getElem_cons_succ])
    first
    | (refine wpAnyH_take (i := 14) (v := ?_) rfl (by kernel_rfl) (by kernel_rfl) (by kernel_rfl) (fun _ _ _ h => h) (Or.inl ⟨by rfl, ?_⟩) hS ?_; rotate_left; (· (intro y hy; (try dsimp only at hy); go_simp; try with_reducible rfl)); try simp only [Act.put, List.setIfInBounds_toArray, List.set_cons_zero, List.set_cons_succ, List.getElem_toArray, List.getElem_cons_zero, List.getElem_cons_succ])
    | (refine wpAnyH_take (i := 14) (v := undef) rfl (by kernel_rfl) (by kernel_rfl) (by kernel_rfl) (fun _ _ _ h => h) (Or.inr ⟨by rfl, rfl⟩) hS ?_; try simp only [Act.put, List.setIfInBounds_toArray, List.set_cons_zero, List.set_cons_succ, List.getElem_toArray, List.getElem_cons_zero, List.getElem_cons_succ])
    first
    | (refine wpAnyH_take (i := 17) (v := ?_) rfl (by kernel_rfl) (by kernel_rfl) (by kernel_rfl) (fun _ _ _ h => h) (Or.inl ⟨by rfl, ?_⟩) hS ?_; rotate_left; (· (intro y hy; (try dsimp only at hy); go_simp; try with_reducible rfl)); try simp only [Act.put, List.setIfInBounds_toArray, List.set_cons_zero, List.set_cons_succ, List.getElem_toArray, List.getElem_cons_zero, List.getElem_cons_succ])
    | (refine wpAnyH_take (i := 17) (v := undef) rfl (by kernel_rfl) (by kernel_rfl) (by kernel_rfl) (fun _ _ _ h => h) (Or.inr ⟨by rfl, rfl⟩) hS ?_; try simp only [Act.put, List.setIfInBounds_toArray, List.set_cons_zero, List.set_cons_succ, List.getElem_toArray, List.getElem_cons_zero, List.getElem_cons_succ])
    first
    | (refine wpAnyH_take (i := 18) (v := ?_) rfl (by kernel_rfl) (by kernel_rfl) (by kernel_rfl) (fun _ _ _ h => h) (Or.inl ⟨by rfl, ?_⟩) hS ?_; rotate_left; (· (intro y hy; (try dsimp only at hy); go_simp; try with_reducible rfl)); try simp only [Act.put, List.setIfInBounds_toArray, List.set_cons_zero, List.set_cons_succ, List.getElem_toArray, List.getElem_cons_zero, List.getElem_cons_succ])
    | (refine wpAnyH_take (i := 18) (v := undef) rfl (by kernel_rfl) (by kernel_rfl) (by kernel_rfl) (fun _ _ _ h => h) (Or.inr ⟨by rfl, rfl⟩) hS ?_; try simp only [Act.put, List.setIfInBounds_toArray, List.set_cons_zero, List.set_cons_succ, List.getElem_toArray, List.getElem_cons_zero, List.getElem_cons_succ])
    have hka : BlkIs (x.alloc (.cells #[.int .i64 a] 3)).drew H _ _ := hk.alloc (.cells #[.int .i64 a] 3)
    have hba : BlkIs (x.alloc (.cells #[.int .i64 a] 3)).drew x.heap.size _ _ := BlkIs.new x #[.int .i64 a] 3
    refine wpAnyH_ready (rs := [13, 15]) (by kernel_rfl) (by simp) ?_
    refine AllReadyH.cons (o := _) rfl (fun K hK => ?_) (AllReadyH.cons (o := _) rfl (fun K hK => ?_) AllReadyH.nil)
    · go_simp
      refine hK.out _ _ (c9) (fun hS => ?_)
      clear hK K
      try simp only [Act.put, List.setIfInBounds_toArray, List.set_cons_zero, List.set_cons_succ]
      refine wpAnyH_ready (rs := [15]) (by kernel_rfl) (by simp) ?_
      refine AllReadyH.cons (o := _) rfl (fun K hK => ?_) AllReadyH.nil
      go_simp
      refine hK.out _ _ (by rw [hka.cell 9, hu]; rfl) (fun hS => ?_)
      clear hK K
      try simp only [Act.put, List.setIfInBounds_toArray, List.set_cons_zero, List.set_cons_succ]
      refine wpAnyH_ready (rs := [16]) (by kernel_rfl) (by simp) ?_
      refine AllReadyH.cons (o := _) rfl (fun K hK => ?_) AllReadyH.nil
      have hca : Chg (· = H) w (x.alloc (.cells #[.int .i64 a] 3)).drew := (hc.alloc _).drew
      have r2 : RowIs (x.alloc (.cells #[.int .i64 a] 3)).drew v1 s.pn := r0.chg hca fun g e e' => by subst e'; exact r0.ne h.blk (by decide) e
      refine step_push rfl _ _ rfl v1 s.pn rfl r2 (by omega) x.heap.size a rfl (hba.cell 0) ?_
      intro v' w' r3 hg hat hsl
      have hc2 : Chg (fun k => some k = v1.ownBlock) (x.alloc (.cells #[.int .i64 a] 3)).drew w' := Chg.of_grown hg fun _ e => e
      have hk2 := hka.chg hc2 fun e => r0.ne h.blk (by decide) e.symm
      obtain ⟨av, c, rfl⟩ := hsl
      have g7 := hk2.free 8
      have g7c := hk2.cell 8
      refine hK.out _ _ (by rw [hk2.cell 9, hu]; rfl) (fun hS => ?_)
      clear hK K
      try simp only [Act.put, List.setIfInBounds_toArray, List.set_cons_zero, List.set_cons_succ]
      first
      | (refine wpAnyH_take (i := 19) (v := ?_) rfl (by kernel_rfl) (by kernel_rfl) (by kernel_rfl) (fun _ _ _ h => h) (Or.inl ⟨by rfl, ?_⟩) hS ?_; rotate_left; (· (intro y hy; (try dsimp only at hy); go_simp; try with_reducible rfl)); try simp only [Act.put, List.setIfInBounds_toArray, List.set_cons_zero, List.set_cons_succ, List.getElem_toArray, List.getElem_cons_zero, List.getElem_cons_succ])
      | (refine wpAnyH_take (i := 19) (v := undef) rfl (by kernel_rfl) (by kernel_rfl) (by kernel_rfl) (fun _ _ _ h => h) (Or.inr ⟨by rfl, rfl⟩) hS ?_; try simp only [Act.put, List.setIfInBounds_toArray, List.set_cons_zero, List.set_cons_succ, List.getElem_toArray, List.getElem_cons_zero, List.getElem_cons_succ])
      refine wpAnyH_ready (rs := [20]) (by kernel_rfl) (by simp) ?_
      refine AllReadyH.cons (o := _) rfl (fun K hK => ?_) AllReadyH.nil
      go_simp
      refine hK.out _ _ (by rw [(hk2.set 8 (.slice av (s.pn.length + 1) c)).cell 9, hu]; rfl) (fun hS => ?_)
      clear hK K
      try simp only [Act.put, List.setIfInBounds_toArray, List.set_cons_zero, List.set_cons_succ]
      refine wpAnyH_done (by kernel_rfl) ?_ _
      refine NoPanic.normal ?_
      go_wp2
      go_end0
      refine ⟨rfl, ?_⟩
      refine went_row h hK 1 (by omega) rfl (u0 := v0) (u1 := .slice av (s.pn.length + 1) c) (u2 := v2) (u3 := v3) (four (fun _ => rfl) (fun h => absurd rfl h) (fun _ => rfl) (fun _ => rfl)) (four (fun _ => ?_) (fun h => absurd rfl h) (fun _ => rfl) (fun _ => rfl)) ?_ ?_ ?_ ?_
      · show (if 0 = s.u then _ else _) = (if 0 = s.u then _ else _)
        rw [hu]; rfl
      · show BlkIs _ H (hpC P (s.base 0) s.z (if 0 = s.u then t else s.tk) (s.base 1) (if 1 = s.u then t else s.tk) _ _ _ _ _ _ _ _ _) _
        have e4 : s.top 0 = s.tk := by unfold Hp.top; rw [hu]; rfl
        rw [e4] at hk2
        rw [show (if 0 = s.u then t else s.tk) = s.tk from by rw [hu]; rfl, show (if 1 = s.u then t else s.tk) = t from by rw [hu]; rfl]
        exact hk2.set 8 _
      · refine ((hca.mono fun k e => .inl e).step hc2 fun k e => .inl (.inr e)).setCell (p := ⟨H, 8, none⟩) (.inl (.inl rfl)) _
      · show RowIs _ _ (if 1 = s.u then s.pn ++ [a] else s.pk)
        rw [show (if 1 = s.u then s.pn ++ [a] else s.pk) = s.pn ++ [a] from by rw [hu]; rfl]
        exact r3.chg (S := (· = H)) ((Chg.refl (· = H) w').setCell (p := ⟨H, 8, none⟩) (.inl rfl) _) fun g e e' => by subst e'; exact r3.ne hk2 (by decide) e
      · exact hat.imp id fun e => ⟨_, e, hca.size⟩
    · go_simp
      refine hK.out _ _ (by rw [hka.cell 9, hu]; rfl) (fun hS => ?_)
      clear hK K
      try simp only [Act.put, List.setIfInBounds_toArray, List.set_cons_zero, List.set_cons_succ]
      refine wpAnyH_ready (rs := [13]) (by kernel_rfl) (by simp) ?_
      refine AllReadyH.cons (o := _) rfl (fun K hK => ?_) AllReadyH.nil
      have hk7 : (x.alloc (.cells #[.int .i64 a] 3)).cell? ⟨H, 8, none⟩ = some v1 := hka.cell 8
      go_simp
      refine hK.out _ _ (by rw [hka.cell 9, hu]; rfl) (fun hS => ?_)
      clear hK K
      try simp only [Act.put, List.setIfInBounds_toArray, List.set_cons_zero, List.set_cons_succ]
      refine wpAnyH_ready (rs := [16]) (by kernel_rfl) (by simp) ?_
      refine AllReadyH.cons (o := _) rfl (fun K hK => ?_) AllReadyH.nil
      have hca : Chg (· = H) w (x.alloc (.cells #[.int .i64 a] 3)).drew := (hc.alloc _).drew
      have r2 : RowIs (x.alloc (.cells #[.int .i64 a] 3)).drew v1 s.pn := r0.chg hca fun g e e' => by subst e'; exact r0.ne h.blk (by decide) e
      refine step_push rfl _ _ rfl v1 s.pn rfl r2 (by omega) x.heap.size a rfl (hba.cell 0) ?_
      intro v' w' r3 hg hat hsl
      have hc2 : Chg (fun k => some k = v1.ownBlock) (x.alloc (.cells #[.int .i64 a] 3)).drew w' := Chg.of_grown hg fun _ e => e
      have hk2 := hka.chg hc2 fun e => r0.ne h.blk (by decide) e.symm
      obtain ⟨av, c, rfl⟩ := hsl
      have g7 := hk2.free 8
      have g7c := hk2.cell 8
      refine hK.out _ _ (by rw [hk2.cell 9, hu]; rfl) (fun hS => ?_)
      clear hK K
      try simp only [Act.put, List.setIfInBounds_toArray, List.set_cons_zero, List.set_cons_succ]
      first
      | (refine wpAnyH_take (i := 19) (v := ?_) rfl (by kernel_rfl) (by kernel_rfl) (by kernel_rfl) (fun _ _ _ h => h) (Or.inl ⟨by rfl, ?_⟩) hS ?_; rotate_left; (· (intro y hy; (try dsimp only at hy); go_simp; try with_reducible rfl)); try simp only [Act.put, List.setIfInBounds_toArray, List.set_cons_zero, List.set_cons_succ, List.getElem_toArray, List.getElem_cons_zero, List.getElem_cons_succ])
      | (refine wpAnyH_take (i := 19) (v := undef) rfl (by kernel_rfl) (by kernel_rfl) (by kernel_rfl) (fun _ _ _ h => h) (Or.inr ⟨by rfl, rfl⟩) hS ?_; try simp only [Act.put, List.setIfInBounds_toArray, List.set_cons_zero, List.set_cons_succ, List.getElem_toArray, List.getElem_cons_zero, List.getElem_cons_succ])
      refine wpAnyH_ready (rs := [20]) (by kernel_rfl) (by simp) ?_
      refine AllReadyH.cons (o := _) rfl (fun K hK => ?_) AllReadyH.nil
      go_simp
      refine hK.out _ _ (by rw [(hk2.set 8 (.slice av (s.pn.length + 1) c)).cell 9, hu]; rfl) (fun hS => ?_)
      clear hK K
      try simp only [Act.put, List.setIfInBounds_toArray, List.set_cons_zero, List.set_cons_succ]
      refine wpAnyH_done (by kernel_rfl) ?_ _
      refine NoPanic.normal ?_
      go_wp2
      go_end0
      refine ⟨rfl, ?_⟩
      refine went_row h hK 1 (by omega) rfl (u0 := v0) (u1 := .slice av (s.pn.length + 1) c) (u2 := v2) (u3 := v3) (four (fun _ => rfl) (fun h => absurd rfl h) (fun _ => rfl) (fun _ => rfl)) (four (fun _ => ?_) (fun h => absurd rfl h) (fun _ => rfl) (fun _ => rfl)) ?_ ?_ ?_ ?_
      · show (if 0 = s.u then _ else _) = (if 0 = s.u then _ else _)
        rw [hu]; rfl
      · show BlkIs _ H (hpC P (s.base 0) s.z (if 0 = s.u then t else s.tk) (s.base 1) (if 1 = s.u then t else s.tk) _ _ _ _ _ _ _ _ _) _
        have e4 : s.top 0 = s.tk := by unfold Hp.top; rw [hu]; rfl
        rw [e4] at hk2
        rw [show (if 0 = s.u then t else s.tk) = s.tk from by rw [hu]; rfl, show (if 1 = s.u then t else s.tk) = t from by rw [hu]; rfl]
        exact hk2.set 8 _
      · refine ((hca.mono fun k e => .inl e).step hc2 fun k e => .inl (.inr e)).setCell (p := ⟨H, 8, none⟩) (.inl (.inl rfl)) _
      · show RowIs _ _ (if 1 = s.u then s.pn ++ [a] else s.pk)
        rw [show (if 1 = s.u then s.pn ++ [a] else s.pk) = s.pn ++ [a] from by rw [hu]; rfl]
        exact r3.chg (S := (· = H)) ((Chg.refl (· = H) w').setCell (p := ⟨H, 8, none⟩) (.inl rfl) _) fun g e e' => by subst e'; exact r3.ne hk2 (by decide) e
      · exact hat.imp id fun e => ⟨_, e, hca.size⟩
end

end Go.Proofs.Ytoohnnkhklifdaa
